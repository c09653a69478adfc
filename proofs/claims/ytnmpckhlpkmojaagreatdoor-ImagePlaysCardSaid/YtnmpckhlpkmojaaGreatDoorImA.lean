/-
  The contracts of the image's place and sector, and of current: the current head of a disk's sectors, and true; or false, if there is none and they are not fresh. Nothing that was there is changed. Condition: the table of half bytes holds what the program's own text lays.
-/
import Derived.Test.YtnmpckhlpkmojaaGreatDoorThRead
import Derived.Test.YtnmpckhlpkmojaaGreatDoorDkNew
import Derived.Test.YtnmpckhlpkmojaaGreatDoorImM

/-
  The contracts of the image's heads and blocks: encode gives the head's, or the block's, sector; decodeHead and decodeBlock tell what a sector contains, or none; blank tells whether a sector is fresh. Nothing that was there is changed. Condition: the table of half bytes holds what the program's own text lays.
-/
namespace Go.Proofs.YtnmpckhlpkmojaaGreatDoor.Im
open Go.RowKit
open Pk Sm Fa Rc Dk
open Jn (NumN clampN zer zer_no)

/-! ### A head by value, boxed -/
abbrev hcs (t : Nat) (m : Nat) : Array Value := #[.int .i64 (t : Int), .int .i64 (m : Int)]
def Hx (w : World) (G : Nat) (t : Nat) (m : Nat) : Prop := w.heap[G]? = some (.cells (hcs t m) 73 (0, 0))
section
variable {w w' : World} {G R e : Nat} {t : Nat} {m : Nat} {L : List UInt8}
theorem Hx.new (w : World) (t : Nat) (m : Nat) : Hx (w.alloc (.cells (hcs t m) 73)) w.heap.size t m := heap_alloc_new w _
theorem hx_below (w : World) (t : Nat) (m : Nat) : Below w.heap.size w (w.alloc (.cells (hcs t m) 73)) := (Below.refl _ _).alloc (Nat.le_refl _) _
theorem Hx.lt (h : Hx w G t m) : G < w.heap.size := (Array.getElem?_eq_some_iff.1 h).1
theorem Hx.below (h : Hx w G t m) (hb : Below w.heap.size w w') : Hx w' G t m := (hb.block G h.lt).trans h
theorem Hx.drew (h : Hx w G t m) : Hx w.drew G t m := h
theorem Hx.c0 (h : Hx w G t m) : w.cell? ⟨G, 0, none⟩ = some (.int .i64 (t : Int)) := by simp [World.cell?, show w.heap[G]? = _ from h]
theorem Hx.c1 (h : Hx w G t m) : w.cell? ⟨G, 1, none⟩ = some (.int .i64 (m : Int)) := by simp [World.cell?, show w.heap[G]? = _ from h]
theorem Hx.free (h : Hx w G t m) (i : Nat) : w.frozen? ⟨G, i, none⟩ = false := blk_free h i
theorem Hx.only (h : Hx w G t m) (hg : w.grownBy w' (some R)) (hne : G ≠ R) : Hx w' G t m := by
  obtain ⟨_, _, _, _, hk⟩ := hg
  exact (hk G h.lt (by simp; exact hne)).trans h
theorem Hx.set0 (h : Hx w G t m) (t' : Nat) : Hx (w.setCell ⟨G, 0, none⟩ (.int .i64 (t' : Int))) G t' m := heap_setCell_same w G 0 _ _ (.int .i64 (t' : Int)) h
theorem Hx.set1 (h : Hx w G t m) (m' : Nat) : Hx (w.setCell ⟨G, 1, none⟩ (.int .i64 (m' : Int))) G t m' := heap_setCell_same w G 1 _ _ (.int .i64 (m' : Int)) h
abbrev puthx (w : World) (G : Nat) (t : Nat) (m : Nat) : World := (w.setCell ⟨G, 0, none⟩ (.int .i64 (t : Int))).setCell ⟨G, 1, none⟩ (.int .i64 (m : Int))
theorem Hx.put (h : Hx w G t m) (t' : Nat) (m' : Nat) : Hx (puthx w G t' m') G t' m' := (h.set0 t').set1 m'
theorem below_puthx {w0 w : World} {B G : Nat} (h : Below B w0 w) (hG : B ≤ G) (t : Nat) (m : Nat) : Below B w0 (puthx w G t m) :=
  (h.setCell (p := ⟨G, 0, none⟩) hG _).setCell (p := ⟨G, 1, none⟩) hG _
/-- A reader is kept while a head's own fields are set. -/
theorem Hx.rd {i : Nat} (hr : Rd w R L e) (h : Hx w G t m) (hne : G ≠ R) (v : Value) : Rd (w.setCell ⟨G, i, none⟩ v) R L e := by
  obtain ⟨A, c, h1, h2, h3, h4⟩ := hr
  refine ⟨A, c, (heap_setCell_other _ ⟨G, i, none⟩ R _ (fun e => hne e.symm)).trans h1, h2, h3, fun hn => ?_⟩
  obtain ⟨p, o, rfl, hp, hc⟩ := h4 hn
  refine ⟨p, o, rfl, hp, fun j u hu => ?_⟩
  have hcj := hc j u hu
  have hpG : p ≠ G := by
    rintro rfl
    simp only [World.cell?, show w.heap[p]? = _ from h] at hcj
    match hoj : o + j, hcj with
    | 0, hcj => simp [cel] at hcj
    | 1, hcj => simp [cel] at hcj
    | q + 2, hcj => simp at hcj
  rw [← hcj]
  have := heap_setCell_other w ⟨G, i, none⟩ p v hpG
  simp only [World.cell?, this]
end
theorem hx_size : (Tryz.prog.info? 73).map (·.size) = some 2 := by kernel_rfl

abbrev hd2 (h : Hd) : Value := .agg (hcs h.t h.m)
/-! ### A block by value, boxed -/
abbrev mcs (s : Nat) (d : ByteArray) : Array Value := #[.int .i64 (s : Int), .string d]
def Mx (w : World) (G : Nat) (s : Nat) (d : ByteArray) : Prop := w.heap[G]? = some (.cells (mcs s d) 112 (0, 0))
section
variable {w w' : World} {G R e : Nat} {s : Nat} {d : ByteArray} {L : List UInt8}
theorem Mx.new (w : World) (s : Nat) (d : ByteArray) : Mx (w.alloc (.cells (mcs s d) 112)) w.heap.size s d := heap_alloc_new w _
theorem mx_below (w : World) (s : Nat) (d : ByteArray) : Below w.heap.size w (w.alloc (.cells (mcs s d) 112)) := (Below.refl _ _).alloc (Nat.le_refl _) _
theorem Mx.lt (h : Mx w G s d) : G < w.heap.size := (Array.getElem?_eq_some_iff.1 h).1
theorem Mx.below (h : Mx w G s d) (hb : Below w.heap.size w w') : Mx w' G s d := (hb.block G h.lt).trans h
theorem Mx.drew (h : Mx w G s d) : Mx w.drew G s d := h
theorem Mx.c0 (h : Mx w G s d) : w.cell? ⟨G, 0, none⟩ = some (.int .i64 (s : Int)) := by simp [World.cell?, show w.heap[G]? = _ from h]
theorem Mx.c1 (h : Mx w G s d) : w.cell? ⟨G, 1, none⟩ = some (.string d) := by simp [World.cell?, show w.heap[G]? = _ from h]
theorem Mx.free (h : Mx w G s d) (i : Nat) : w.frozen? ⟨G, i, none⟩ = false := blk_free h i
theorem Mx.only (h : Mx w G s d) (hg : w.grownBy w' (some R)) (hne : G ≠ R) : Mx w' G s d := by
  obtain ⟨_, _, _, _, hk⟩ := hg
  exact (hk G h.lt (by simp; exact hne)).trans h
theorem Mx.set0 (h : Mx w G s d) (s' : Nat) : Mx (w.setCell ⟨G, 0, none⟩ (.int .i64 (s' : Int))) G s' d := heap_setCell_same w G 0 _ _ (.int .i64 (s' : Int)) h
theorem Mx.set1 (h : Mx w G s d) (d' : ByteArray) : Mx (w.setCell ⟨G, 1, none⟩ (.string d')) G s d' := heap_setCell_same w G 1 _ _ (.string d') h
abbrev putmx (w : World) (G : Nat) (s : Nat) (d : ByteArray) : World := (w.setCell ⟨G, 0, none⟩ (.int .i64 (s : Int))).setCell ⟨G, 1, none⟩ (.string d)
theorem Mx.put (h : Mx w G s d) (s' : Nat) (d' : ByteArray) : Mx (putmx w G s' d') G s' d' := (h.set0 s').set1 d'
theorem below_putmx {w0 w : World} {B G : Nat} (h : Below B w0 w) (hG : B ≤ G) (s : Nat) (d : ByteArray) : Below B w0 (putmx w G s d) :=
  (h.setCell (p := ⟨G, 0, none⟩) hG _).setCell (p := ⟨G, 1, none⟩) hG _
/-- A reader is kept while a block's own fields are set. -/
theorem Mx.rd {i : Nat} (hr : Rd w R L e) (h : Mx w G s d) (hne : G ≠ R) (v : Value) : Rd (w.setCell ⟨G, i, none⟩ v) R L e := by
  obtain ⟨A, c, h1, h2, h3, h4⟩ := hr
  refine ⟨A, c, (heap_setCell_other _ ⟨G, i, none⟩ R _ (fun e => hne e.symm)).trans h1, h2, h3, fun hn => ?_⟩
  obtain ⟨p, o, rfl, hp, hc⟩ := h4 hn
  refine ⟨p, o, rfl, hp, fun j u hu => ?_⟩
  have hcj := hc j u hu
  have hpG : p ≠ G := by
    rintro rfl
    simp only [World.cell?, show w.heap[p]? = _ from h] at hcj
    match hoj : o + j, hcj with
    | 0, hcj => simp [cel] at hcj
    | 1, hcj => simp [cel] at hcj
    | q + 2, hcj => simp at hcj
  rw [← hcj]
  have := heap_setCell_other w ⟨G, i, none⟩ p v hpG
  simp only [World.cell?, this]
end
theorem mx_size : (Tryz.prog.info? 112).map (·.size) = some 2 := by kernel_rfl

abbrev bk2 (t : Nat) (d : ByteArray) : Value := .agg (mcs t d)
theorem enc_one (t : Int) : ([] ++ enc (clamp t)).length ≤ 9 := by
  have h1 := enc_le (clamp t)
  simp only [List.length_append, List.length_nil]
  omega

set_option maxRecDepth 100000 in
set_option maxHeartbeats 1000000 in
theorem hencode_any (t m : Nat) (w : World) (ht : Tab w) :
    Calls Tryz.prog 63 #[.agg (hcs t m)] w fun e w' => ∃ p o c, e = .returned (.slice (some ⟨p, o, none⟩) 64 c) ∧ 64 ≤ c ∧ c ≤ 9223372036854775807 ∧
      Byt w' w'.heap.size (some ⟨p, o, none⟩) (hsec ⟨t, m⟩) ∧ Below w.heap.size w w' := by
  have hL4 := hbod_le ⟨t, m⟩
  have hbx := Hx.new w t m
  have HB := hide (hx_below w t m)
  have hL3 := enc_one t
  simp only [List.length_append] at hL3
  have HL := hide hL3
  have HL4 := hide hL4
  have Ht := hide ht
  have hpos := ht.pos
  clear hL3 hL4 ht
  go_enter Tryz.func63, Tryz.ntmps63
  go_wp2_with fail
  generalize w.alloc _ = w0 at *
  have hc0 := hbx.c0
  go_wp2_with fail
  have HN := hide (Number_any none [] 0 (t : Int) w0 Byt.nil (by simp))
  refine HN.out.mono ?_
  rintro e w1 ⟨v1, rfl, ho1, hb1⟩
  have hbx1 := hbx.below hb1
  have HB1 := hide (HB.out.trans (hb1.mono HB.out.size))
  have hc2 := hbx1.c1
  clear hbx HN hb1 HB hc0
  go_wp2_with fail
  refine (Number_own v1 _ _ (m : Int) w1 ho1 (by have := HL.out; simp only [List.length_append]; omega)).mono ?_
  rintro e w4 ⟨v4, rfl, ho4, hb4⟩
  have HB4 := hide (HB1.out.trans (hb4.mono HB1.out.size))
  have he : ([] ++ enc (clamp (t : Int)) ++ enc (clamp (m : Int))) = hbod ⟨t, m⟩ := by simp [hbod]
  rw [he] at ho4
  obtain ⟨A, c, rfl, hk1, hk2, hby⟩ := ho4.form
  have HS := hide (Sector_told A _ _ c w4 rfl (by have := HL4.out; omega) hby (Ht.out.below HB4.out hpos))
  clear hbx1 hc2 hb4 ho1 ho4 HB1 he hk1 hk2 hby
  go_wp2_with fail
  refine HS.out.mono ?_
  rintro r w5 ⟨p, o, c', rfl, hc1, hc2, _, hby5, hb5⟩
  have HB5 := hide (HB4.out.trans (hb5.mono HB4.out.size))
  have HY := hide hby5
  clear HS hby5 hb5
  go_wp2
  go_ret
  exact ⟨p, o, c', rfl, hc1, hc2, HY.out, HB5.out⟩

set_option maxRecDepth 100000 in
set_option maxHeartbeats 1000000 in
theorem bencode_any (t : Nat) (d : ByteArray) (w : World) (ht : Tab w) (hd : d.size ≤ 16) :
    Calls Tryz.prog 64 #[.agg (mcs t d)] w fun e w' => ∃ p o c, e = .returned (.slice (some ⟨p, o, none⟩) 64 c) ∧ 64 ≤ c ∧ c ≤ 9223372036854775807 ∧
      Byt w' w'.heap.size (some ⟨p, o, none⟩) (bsec t d) ∧ Below w.heap.size w w' := by
  have hL4 := bbod_le t hd
  have hbx := Mx.new w t d
  have HB := hide (mx_below w t d)
  have hL3 := enc_one t
  simp only [List.length_append] at hL3
  have HL := hide hL3
  have HL4 := hide hL4
  have Ht := hide ht
  have Hd := hide hd
  clear hd
  have hpos := ht.pos
  clear hL3 hL4 ht
  go_enter Tryz.func64, Tryz.ntmps64
  go_wp2_with fail
  generalize w.alloc _ = w0 at *
  have hc0 := hbx.c0
  go_wp2_with fail
  have HN := hide (Number_any none [] 0 (t : Int) w0 Byt.nil (by simp))
  refine HN.out.mono ?_
  rintro e w1 ⟨v1, rfl, ho1, hb1⟩
  have hbx1 := hbx.below hb1
  have HB1 := hide (HB.out.trans (hb1.mono HB.out.size))
  have hc2 := hbx1.c1
  clear hbx HN hb1 HB hc0
  go_wp2_with fail
  refine (Text_own v1 _ _ d w1 ho1 (by have := HL.out; have := Hd.out; simp only [List.length_append]; omega)).mono ?_
  rintro e w4 ⟨v4, rfl, ho4, hb4⟩
  have HB4 := hide (HB1.out.trans (hb4.mono HB1.out.size))
  have he : ([] ++ enc (clamp (t : Int)) ++ enc d.size ++ d.data.toList) = bbod t d := by simp [bbod]
  rw [he] at ho4
  obtain ⟨A, c, rfl, hk1, hk2, hby⟩ := ho4.form
  have HS := hide (Sector_told A _ _ c w4 rfl (by have := HL4.out; omega) hby (Ht.out.below HB4.out hpos))
  clear hbx1 hc2 hb4 ho1 ho4 HB1 he hk1 hk2 hby
  go_wp2_with fail
  refine HS.out.mono ?_
  rintro r w5 ⟨p, o, c', rfl, hc1, hc2, _, hby5, hb5⟩
  have HB5 := hide (HB4.out.trans (hb5.mono HB4.out.size))
  have HY := hide hby5
  clear HS hby5 hb5
  go_wp2
  go_ret
  exact ⟨p, o, c', rfl, hc1, hc2, HY.out, HB5.out⟩

theorem hsector_any (h : Hd) (w : World) : Calls Tryz.prog 62 #[hd2 h] w fun e w' => e = .returned (.int .i64 ((h.t % 2 : Nat) : Int)) ∧ Below w.heap.size w w' := by
  obtain ⟨t, m⟩ := h
  have hbx := Hx.new w t m
  have HB := hide (hx_below w t m)
  have hr : (t : Int).tmod 2 = ((t % 2 : Nat) : Int) := by rw [Int.tmod_eq_emod_of_nonneg (by omega)]; rfl
  obtain ⟨r, hrr⟩ : ∃ r, t % 2 = r := ⟨_, rfl⟩
  have hlt : t % 2 < 2 := Nat.mod_lt _ (by omega)
  rw [hrr] at hr hlt
  rw [hrr]
  have HR := hide hrr
  clear hrr
  go_enter Tryz.func62, Tryz.ntmps62
  go_wp2_with fail
  generalize w.alloc _ = w0 at *
  have hc0 := hbx.c0
  clear hbx
  go_wp2
  go_ret
  exact ⟨by go_num, HB.out⟩

theorem zero_bytes : (madeCells #[.int .u8 0] 64).toList = cels zer := by kernel_rfl
set_option maxRecDepth 100000 in
set_option maxHeartbeats 1000000 in
theorem blank_any (A : Option Addr) (L : List UInt8) (n c : Nat) (w : World) (hn : L.length = n) (hb : Byt w w.heap.size A L) (v : Bool) (hv : ((str L).toList == (str zer).toList) = v) :
    Calls Tryz.prog 50 #[.slice A n c] w fun e w' => e = .returned (.bool v) ∧ Below w.heap.size w w' := by
  obtain ⟨i0, hi0, hz0, hz1, hz2⟩ := info_parts u8_info
  have Hz := hide hz1
  have Hz2 := hide hz2
  have Hn := hide hn
  have Hb := hide hb
  have Hv := hide hv
  clear hz1 hz2 hn hb hv
  go_enter Tryz.func50, Tryz.ntmps50
  go_wp2_with (with_reducible refine wpList_make_told rfl 60 _ _ rfl 5 i0 _ Tryz.underlying60 hi0 hz0 .i64 .i64 64 64 rfl rfl (by omega) (by rw [Hz2.out]; decide) (by omega) 1 Hz.out ?_)
  intro w1 Hw1
  have HB1 : Hid (Below w.heap.size w w1) := by rw [Hw1.out]; exact (Below.refl _ _).alloc (Nat.le_refl _) _
  have hg1 : w1.heap[w.heap.size]? = some (.cells (cels zer).toArray 5 (0, 0)) := by
    rw [Hw1.out]
    refine (heap_alloc_new w _).trans ?_
    rw [← zero_bytes, Array.toArray_toList]
  have HQ := hide (Equal_any A (some ⟨w.heap.size, 0, none⟩) n c 64 64 _ _ L zer w1 Hn.out (by rfl) (Hb.out.below HB1.out) (Sm.byt_row hg1) v Hv.out)
  clear hg1 Hw1
  go_wp2_with fail
  refine HQ.out.mono ?_
  rintro r w' ⟨rfl, rfl⟩
  clear HQ
  go_wp2
  go_ret
  exact ⟨rfl, HB1.out⟩

end Go.Proofs.YtnmpckhlpkmojaaGreatDoor.Im

/-
  The contracts of the image's decodeHead and decodeBlock: the head, or the block of a turn, that a sector's bytes are, and true; or none, and false. Nothing that was there is changed. Condition: the table of half bytes holds what the program's own text lays.
-/
namespace Go.Proofs.YtnmpckhlpkmojaaGreatDoor.Im
open Go.RowKit
open Pk Sm Fa Rc Dk
open Jn (NumN clampN zer zer_no)

set_option maxRecDepth 100000 in
set_option maxHeartbeats 2000000 in
theorem dh_open (i : Nat) (A : Option Addr) (c : Nat) (L : List UInt8) (w : World) (hn : L.length = 64) (hc : 64 ≤ c) (hb : Byt w w.heap.size A L) (ht : Tab w) (hno : ∀ m, L ≠ seal4 m) :
    Calls Tryz.prog 49 #[.int .i64 (i : Int), .slice A 64 c] w fun e w' => e = .returned (.tuple #[hd2 hd0, .bool false]) ∧ Below w.heap.size w w' := by
  have hbx := Hx.new w 0 0
  have HB := hide (hx_below w 0 0)
  have hpos := ht.pos
  have hby0 := (hb.below HB.out).more HB.out.size
  have ht0 := ht.below HB.out hpos
  have Hn := hide hn
  have Hno := hide hno
  clear hn hno hb ht
  go_enter Tryz.func49, Tryz.ntmps49
  go_wp2_with fail
  generalize w.alloc _ = w0 at *
  refine (Open_bad A 64 c L w0 Hn.out hc (by omega) hby0 ht0 Hno.out).mono ?_
  rintro r w2 ⟨rfl, hb2⟩
  have hbx2 := hbx.below hb2
  have HB2 := hide (HB.out.trans (hb2.mono HB.out.size))
  clear hbx hb2 hby0 ht0 HB
  have hz0 := hbx2.c0
  have hy0 := hbx2.free 0
  have hz1 := hbx2.c1
  have hy1 := hbx2.free 1
  have HX := hide (hbx2.put 0 0)
  have HY := hide (below_puthx HB2.out (Nat.le_refl _) 0 0)
  clear hbx2 HB2
  go_wp2
  refine bodyPost_ret (results_ct rfl _ _ w.heap.size 73 _ (0, 0) _ rfl (show _ from HX.out) Tryz.underlying73 rfl hx_size) rfl ?_
  exact ⟨rfl, HY.out⟩

section
variable {w w' : World} {G R e i j t m : Nat} {A : Option Addr} {L M : List UInt8}
theorem byt_only {g : Nat} (hb : Byt w w.heap.size A (seal4 M)) (hg : w.grownBy w' (some g)) (hA : ∀ p o, A = some ⟨p, o, none⟩ → M ≠ [] → p ≠ g) (hM : M.length = 60) : Byt w' w'.heap.size A (seal4 M) := by
  intro h0
  obtain ⟨p, o, rfl, hp, hc⟩ := hb h0
  obtain ⟨_, _, _, hs, hk⟩ := hg
  have hpg := hA p o rfl (by rintro rfl; cases hM)
  refine ⟨p, o, rfl, Nat.lt_of_lt_of_le hp hs, fun k u hu => ?_⟩
  rw [← hc k u hu]
  simp only [World.cell?, hk p hp (by simp; exact hpg)]
theorem hx_other {v : Value} (h : Hx w G t m) (hne : G ≠ j) : Hx (w.setCell ⟨j, i, none⟩ v) G t m := (heap_setCell_other w ⟨j, i, none⟩ G v (fun e => hne e)).trans h
theorem byt_store {v : Value} (hb : Byt w w.heap.size A (seal4 M)) (h : Hx w G t m) (_hM : M.length = 60) : Byt (w.setCell ⟨G, i, none⟩ v) (w.setCell ⟨G, i, none⟩ v).heap.size A (seal4 M) := by
  intro h0
  obtain ⟨p, o, rfl, hp, hc⟩ := hb h0
  refine ⟨p, o, rfl, by simpa [World.setCell] using hp, fun k u hu => ?_⟩
  have hck := hc k u hu
  have hpG : p ≠ G := by
    rintro rfl
    simp only [World.cell?, show w.heap[p]? = _ from h] at hck
    match hok : o + k, hck with
    | 0, hck => simp [cel] at hck
    | 1, hck => simp [cel] at hck
    | q + 2, hck => simp at hck
  rw [← hck]
  have := heap_setCell_other w ⟨G, i, none⟩ p v hpG
  simp only [World.cell?, this]
theorem rd_new (hr : Rd w R L e) (o : Obj) : Rd (w.alloc o) R L e := hr.below ((Below.refl _ _).alloc (Nat.le_refl _) o) hr.lt
end

section
variable (i : Nat) (A : Option Addr) (c : Nat) (M : List UInt8) (w : World) (hm : M.length = 60) (hc : 64 ≤ c) (hb : Byt w w.heap.size A (seal4 M)) (ht : Tab w) (t m : Nat) (l1 l2 : List UInt8) (e1 e2 : Nat) (h1 : rnum M 0 = (t, l1, e1)) (h2 : rnum l1 e1 = (m, l2, e2))
include hm hc hb ht h1 h2
set_option maxRecDepth 100000 in
set_option maxHeartbeats 2000000 in
theorem dh_lowt (h3 : ¬ 1 ≤ t) :
    Calls Tryz.prog 49 #[.int .i64 (i : Int), .slice A 64 c] w fun e w' => e = .returned (.tuple #[hd2 hd0, .bool false]) ∧ Below w.heap.size w w' := by
  have h3i : (t : Int) < 1 := by omega
  clear h3
  have hbx := Hx.new w 0 0
  have HB := hide (hx_below w 0 0)
  have hpos := ht.pos
  have hby0 := (hb.below HB.out).more HB.out.size
  have ht0 := ht.below HB.out hpos
  have Hm := hide hm
  have H1 := hide h1
  have H2 := hide h2
  have Ht := hide ht
  clear hm h1 h2 hb ht
  go_enter Tryz.func49, Tryz.ntmps49
  go_wp2_with fail
  generalize w.alloc _ = w0 at *
  refine (Open_good A 64 c 60 M w0 Hm.out rfl hc (by omega) hby0 ht0).mono ?_
  rintro r w1 ⟨b2, o2, rfl, hby1, hb1⟩
  have hbx1 := hbx.below hb1
  have HB1 := hide (HB.out.trans (hb1.mono HB.out.size))
  have hbyB1 := (hby0.below hb1).more hb1.size
  clear hbx hb1 hby0 ht0 HB
  go_wp2_with fail
  refine (Read_told (some ⟨b2, o2, none⟩) M 60 60 w1 Hm.out hby1 (Nat.le_refl _) (by unfold maxLen; omega)).mono ?_
  rintro r w2 ⟨rfl, hr2, hb2⟩
  obtain ⟨R, hR⟩ : ∃ R, R = w1.heap.size := ⟨_, rfl⟩
  have hne : w.heap.size ≠ R := by have := hbx1.lt; omega
  have hRlt : w.heap.size ≤ R := by have := hbx1.lt; omega
  have hbx2 := hbx1.below hb2
  have HB2 := hide (HB1.out.trans (hb2.mono HB1.out.size))
  have hbyB2 := (hbyB1.below hb2).more hb2.size
  have hRA : ∀ p o, A = some ⟨p, o, none⟩ → M ≠ [] → p ≠ R := fun p o hA hM => by
    rintro rfl
    have hlt : (seal4 M).length ≠ 0 := by rw [seal4_length]; omega
    obtain ⟨p', o', e', hp', _⟩ := hbyB1 (by intro h0; rw [h0] at hlt; exact hlt rfl)
    rw [hA] at e'
    cases e'
    omega
  rw [← hR] at hr2 ⊢
  clear hbx1 hb2 hbyB1 HB1 hby1 hR
  go_wp2_with fail
  refine (Number_at' R 0 M w2 hr2 t l1 e1 H1.out).mono ?_
  rintro r w3 ⟨rfl, hr3, hg3⟩
  have hbx3 := hbx2.only hg3 hne
  have HB3 := hide (HB2.out.trans (below_of_only hg3 hRlt hr2.lt))
  have hbyB3 : Byt w3 w3.heap.size A (seal4 M) := (byt_only hbyB2 hg3 hRA Hm.out)
  clear hg3 hr2 HB2 hbx2 hbyB2
  have hJ := Hx.new w3 t 0
  have hbJ := hx_below w3 t 0
  have hr4 := rd_new hr3 (.cells (hcs t 0) 73)
  have hbx4 := hbx3.below hbJ
  have HB4 := hide (HB3.out.trans (hbJ.mono HB3.out.size))
  have hbyB4 := (hbyB3.below hbJ).more hbJ.size
  have hJne : w3.heap.size ≠ R := by have := hr3.lt; omega
  have hJlt : w.heap.size < w3.heap.size := by have := hbx3.lt; omega
  clear hbJ hbyB3 HB3
  go_wp2_with fail
  obtain ⟨J, hJJ⟩ : ∃ J, J = w3.heap.size := ⟨_, rfl⟩
  rw [← hJJ] at hJ hJne hJlt ⊢
  generalize w3.alloc _ = w4 at *
  clear hr3 hbx3 hJJ
  refine (Number_at' R e1 l1 w4 hr4 m l2 e2 H2.out).mono ?_
  rintro r w5 ⟨rfl, hr5, hg5⟩
  have hbx5 := hbx4.only hg5 hne
  have hJ5 := hJ.only hg5 hJne
  have HB5 := hide (HB4.out.trans (below_of_only hg5 hRlt hr4.lt))
  have hbyB5 : Byt w5 w5.heap.size A (seal4 M) := (byt_only hbyB4 hg5 hRA Hm.out)
  clear hg5 hr4 HB4 hbx4 hJ hbyB4 hr5
  have hj0 := hJ5.c0
  have hj1 := hJ5.c1
  have hi1 := hJ5.free 1
  have hbx6 := hx_other hbx5 (v := .int .i64 (m : Int)) (i := 1) (Nat.ne_of_lt hJlt)
  have hJ6 := hJ5.set1 m
  have HB6 := hide (HB5.out.setCell (p := ⟨J, 1, none⟩) (Nat.le_of_lt hJlt) (.int .i64 (m : Int)))
  have hbyB6 := (byt_store hbyB5 hJ5 (i := 1) (v := .int .i64 (m : Int)) Hm.out)
  clear hJ5 hJ6 hbx5 HB5 hbyB5 hbyB6
  have hz0 := hbx6.c0
  have hy0 := hbx6.free 0
  have hz1 := hbx6.c1
  have hy1 := hbx6.free 1
  have HX := hide (hbx6.put 0 0)
  have HY := hide (below_puthx HB6.out (Nat.le_refl _) 0 0)
  clear hbx6 HB6
  go_wp2
  refine bodyPost_ret (results_ct rfl _ _ w.heap.size 73 _ (0, 0) _ rfl (show _ from HX.out) Tryz.underlying73 rfl hx_size) rfl ?_
  exact ⟨rfl, HY.out⟩

set_option maxRecDepth 100000 in
set_option maxHeartbeats 2000000 in
theorem dh_lowm (h3 : 1 ≤ t) (h4 : ¬ 1 ≤ m) :
    Calls Tryz.prog 49 #[.int .i64 (i : Int), .slice A 64 c] w fun e w' => e = .returned (.tuple #[hd2 hd0, .bool false]) ∧ Below w.heap.size w w' := by
  have h3i : ¬ (t : Int) < 1 := by omega
  have h4i : (m : Int) < 1 := by omega
  clear h3 h4
  have hbx := Hx.new w 0 0
  have HB := hide (hx_below w 0 0)
  have hpos := ht.pos
  have hby0 := (hb.below HB.out).more HB.out.size
  have ht0 := ht.below HB.out hpos
  have Hm := hide hm
  have H1 := hide h1
  have H2 := hide h2
  have Ht := hide ht
  clear hm h1 h2 hb ht
  go_enter Tryz.func49, Tryz.ntmps49
  go_wp2_with fail
  generalize w.alloc _ = w0 at *
  refine (Open_good A 64 c 60 M w0 Hm.out rfl hc (by omega) hby0 ht0).mono ?_
  rintro r w1 ⟨b2, o2, rfl, hby1, hb1⟩
  have hbx1 := hbx.below hb1
  have HB1 := hide (HB.out.trans (hb1.mono HB.out.size))
  have hbyB1 := (hby0.below hb1).more hb1.size
  clear hbx hb1 hby0 ht0 HB
  go_wp2_with fail
  refine (Read_told (some ⟨b2, o2, none⟩) M 60 60 w1 Hm.out hby1 (Nat.le_refl _) (by unfold maxLen; omega)).mono ?_
  rintro r w2 ⟨rfl, hr2, hb2⟩
  obtain ⟨R, hR⟩ : ∃ R, R = w1.heap.size := ⟨_, rfl⟩
  have hne : w.heap.size ≠ R := by have := hbx1.lt; omega
  have hRlt : w.heap.size ≤ R := by have := hbx1.lt; omega
  have hbx2 := hbx1.below hb2
  have HB2 := hide (HB1.out.trans (hb2.mono HB1.out.size))
  have hbyB2 := (hbyB1.below hb2).more hb2.size
  have hRA : ∀ p o, A = some ⟨p, o, none⟩ → M ≠ [] → p ≠ R := fun p o hA hM => by
    rintro rfl
    have hlt : (seal4 M).length ≠ 0 := by rw [seal4_length]; omega
    obtain ⟨p', o', e', hp', _⟩ := hbyB1 (by intro h0; rw [h0] at hlt; exact hlt rfl)
    rw [hA] at e'
    cases e'
    omega
  rw [← hR] at hr2 ⊢
  clear hbx1 hb2 hbyB1 HB1 hby1 hR
  go_wp2_with fail
  refine (Number_at' R 0 M w2 hr2 t l1 e1 H1.out).mono ?_
  rintro r w3 ⟨rfl, hr3, hg3⟩
  have hbx3 := hbx2.only hg3 hne
  have HB3 := hide (HB2.out.trans (below_of_only hg3 hRlt hr2.lt))
  have hbyB3 : Byt w3 w3.heap.size A (seal4 M) := (byt_only hbyB2 hg3 hRA Hm.out)
  clear hg3 hr2 HB2 hbx2 hbyB2
  have hJ := Hx.new w3 t 0
  have hbJ := hx_below w3 t 0
  have hr4 := rd_new hr3 (.cells (hcs t 0) 73)
  have hbx4 := hbx3.below hbJ
  have HB4 := hide (HB3.out.trans (hbJ.mono HB3.out.size))
  have hbyB4 := (hbyB3.below hbJ).more hbJ.size
  have hJne : w3.heap.size ≠ R := by have := hr3.lt; omega
  have hJlt : w.heap.size < w3.heap.size := by have := hbx3.lt; omega
  clear hbJ hbyB3 HB3
  go_wp2_with fail
  obtain ⟨J, hJJ⟩ : ∃ J, J = w3.heap.size := ⟨_, rfl⟩
  rw [← hJJ] at hJ hJne hJlt ⊢
  generalize w3.alloc _ = w4 at *
  clear hr3 hbx3 hJJ
  refine (Number_at' R e1 l1 w4 hr4 m l2 e2 H2.out).mono ?_
  rintro r w5 ⟨rfl, hr5, hg5⟩
  have hbx5 := hbx4.only hg5 hne
  have hJ5 := hJ.only hg5 hJne
  have HB5 := hide (HB4.out.trans (below_of_only hg5 hRlt hr4.lt))
  have hbyB5 : Byt w5 w5.heap.size A (seal4 M) := (byt_only hbyB4 hg5 hRA Hm.out)
  clear hg5 hr4 HB4 hbx4 hJ hbyB4 hr5
  have hj0 := hJ5.c0
  have hj1 := hJ5.c1
  have hi1 := hJ5.free 1
  have hbx6 := hx_other hbx5 (v := .int .i64 (m : Int)) (i := 1) (Nat.ne_of_lt hJlt)
  have hJ6 := hJ5.set1 m
  have HB6 := hide (HB5.out.setCell (p := ⟨J, 1, none⟩) (Nat.le_of_lt hJlt) (.int .i64 (m : Int)))
  have hbyB6 := (byt_store hbyB5 hJ5 (i := 1) (v := .int .i64 (m : Int)) Hm.out)
  clear hJ5 hbx5 HB5 hbyB5 hbyB6
  have hz0 := hbx6.c0
  have hy0 := hbx6.free 0
  have hz1 := hbx6.c1
  have hy1 := hbx6.free 1
  have HX := hide (hbx6.put 0 0)
  have HY := hide (below_puthx HB6.out (Nat.le_refl _) 0 0)
  clear hbx6 HB6
  go_wp2
  refine bodyPost_ret (results_ct rfl _ _ w.heap.size 73 _ (0, 0) _ rfl (show _ from HX.out) Tryz.underlying73 rfl hx_size) rfl ?_
  exact ⟨rfl, HY.out⟩

omit hm hc hb ht h1 h2 in
theorem hsector_told (h : Hd) (r : Nat) (hr : h.t % 2 = r) (w : World) : Calls Tryz.prog 62 #[hd2 h] w fun e w' => e = .returned (.int .i64 (r : Int)) ∧ Below w.heap.size w w' := by
  subst hr
  exact hsector_any h w
set_option maxRecDepth 100000 in
set_option maxHeartbeats 2000000 in
theorem dh_par (r0 : Nat) (h3 : 1 ≤ t) (h4 : 1 ≤ m) (h5 : t % 2 = r0) (h6 : r0 ≠ i) :
    Calls Tryz.prog 49 #[.int .i64 (i : Int), .slice A 64 c] w fun e w' => e = .returned (.tuple #[hd2 hd0, .bool false]) ∧ Below w.heap.size w w' := by
  have h3i : ¬ (t : Int) < 1 := by omega
  have h4i : ¬ (m : Int) < 1 := by omega
  have H5 := hide h5
  clear h3 h4 h5
  have h6b : ((r0 : Int) != (i : Int)) = true := by simp; omega
  clear h6
  have hbx := Hx.new w 0 0
  have HB := hide (hx_below w 0 0)
  have hpos := ht.pos
  have hby0 := (hb.below HB.out).more HB.out.size
  have ht0 := ht.below HB.out hpos
  have Hm := hide hm
  have H1 := hide h1
  have H2 := hide h2
  have Ht := hide ht
  clear hm h1 h2 hb ht
  go_enter Tryz.func49, Tryz.ntmps49
  go_wp2_with fail
  generalize w.alloc _ = w0 at *
  refine (Open_good A 64 c 60 M w0 Hm.out rfl hc (by omega) hby0 ht0).mono ?_
  rintro r w1 ⟨b2, o2, rfl, hby1, hb1⟩
  have hbx1 := hbx.below hb1
  have HB1 := hide (HB.out.trans (hb1.mono HB.out.size))
  have hbyB1 := (hby0.below hb1).more hb1.size
  clear hbx hb1 hby0 ht0 HB
  go_wp2_with fail
  refine (Read_told (some ⟨b2, o2, none⟩) M 60 60 w1 Hm.out hby1 (Nat.le_refl _) (by unfold maxLen; omega)).mono ?_
  rintro r w2 ⟨rfl, hr2, hb2⟩
  obtain ⟨R, hR⟩ : ∃ R, R = w1.heap.size := ⟨_, rfl⟩
  have hne : w.heap.size ≠ R := by have := hbx1.lt; omega
  have hRlt : w.heap.size ≤ R := by have := hbx1.lt; omega
  have hbx2 := hbx1.below hb2
  have HB2 := hide (HB1.out.trans (hb2.mono HB1.out.size))
  have hbyB2 := (hbyB1.below hb2).more hb2.size
  have hRA : ∀ p o, A = some ⟨p, o, none⟩ → M ≠ [] → p ≠ R := fun p o hA hM => by
    rintro rfl
    have hlt : (seal4 M).length ≠ 0 := by rw [seal4_length]; omega
    obtain ⟨p', o', e', hp', _⟩ := hbyB1 (by intro h0; rw [h0] at hlt; exact hlt rfl)
    rw [hA] at e'
    cases e'
    omega
  rw [← hR] at hr2 ⊢
  clear hbx1 hb2 hbyB1 HB1 hby1 hR
  go_wp2_with fail
  refine (Number_at' R 0 M w2 hr2 t l1 e1 H1.out).mono ?_
  rintro r w3 ⟨rfl, hr3, hg3⟩
  have hbx3 := hbx2.only hg3 hne
  have HB3 := hide (HB2.out.trans (below_of_only hg3 hRlt hr2.lt))
  have hbyB3 : Byt w3 w3.heap.size A (seal4 M) := (byt_only hbyB2 hg3 hRA Hm.out)
  clear hg3 hr2 HB2 hbx2 hbyB2
  have hJ := Hx.new w3 t 0
  have hbJ := hx_below w3 t 0
  have hr4 := rd_new hr3 (.cells (hcs t 0) 73)
  have hbx4 := hbx3.below hbJ
  have HB4 := hide (HB3.out.trans (hbJ.mono HB3.out.size))
  have hbyB4 := (hbyB3.below hbJ).more hbJ.size
  have hJne : w3.heap.size ≠ R := by have := hr3.lt; omega
  have hJlt : w.heap.size < w3.heap.size := by have := hbx3.lt; omega
  clear hbJ hbyB3 HB3
  go_wp2_with fail
  obtain ⟨J, hJJ⟩ : ∃ J, J = w3.heap.size := ⟨_, rfl⟩
  rw [← hJJ] at hJ hJne hJlt ⊢
  generalize w3.alloc _ = w4 at *
  clear hr3 hbx3 hJJ
  refine (Number_at' R e1 l1 w4 hr4 m l2 e2 H2.out).mono ?_
  rintro r w5 ⟨rfl, hr5, hg5⟩
  have hbx5 := hbx4.only hg5 hne
  have hJ5 := hJ.only hg5 hJne
  have HB5 := hide (HB4.out.trans (below_of_only hg5 hRlt hr4.lt))
  have hbyB5 : Byt w5 w5.heap.size A (seal4 M) := (byt_only hbyB4 hg5 hRA Hm.out)
  clear hg5 hr4 HB4 hbx4 hJ hbyB4 hr5
  have hj0 := hJ5.c0
  have hj1 := hJ5.c1
  have hi1 := hJ5.free 1
  have hbx6 := hx_other hbx5 (v := .int .i64 (m : Int)) (i := 1) (Nat.ne_of_lt hJlt)
  have hJ6 := hJ5.set1 m
  have HB6 := hide (HB5.out.setCell (p := ⟨J, 1, none⟩) (Nat.le_of_lt hJlt) (.int .i64 (m : Int)))
  have hbyB6 := (byt_store hbyB5 hJ5 (i := 1) (v := .int .i64 (m : Int)) Hm.out)
  clear hJ5 hbx5 HB5 hbyB5
  go_wp2_with fail
  clear hj0 hj1 hi1
  generalize w5.setCell _ _ = w6 at *
  refine (hsector_told ⟨t, m⟩ r0 H5.out w6).mono ?_
  rintro r w7 ⟨rfl, hb7⟩
  have hbx7 := hbx6.below hb7
  have hJ7 := hJ6.below hb7
  have HB7 := hide (HB6.out.trans (hb7.mono HB6.out.size))
  have hbyB7 := (hbyB6.below hb7).more hb7.size
  clear hbx6 hJ6 HB6 hbyB6 hb7
  have hj0 := hJ7.c0
  have hj1 := hJ7.c1
  have hz0 := hbx7.c0
  have hy0 := hbx7.free 0
  have hz1 := hbx7.c1
  have hy1 := hbx7.free 1
  have HX := hide (hbx7.put 0 0)
  have HY := hide (below_puthx HB7.out (Nat.le_refl _) 0 0)
  clear hbx7 HB7
  go_wp2
  refine bodyPost_ret (results_ct rfl _ _ w.heap.size 73 _ (0, 0) _ rfl (show _ from HX.out) Tryz.underlying73 rfl hx_size) rfl ?_
  exact ⟨rfl, HY.out⟩

set_option maxRecDepth 100000 in
set_option maxHeartbeats 2000000 in
theorem dh_unlike (h3 : 1 ≤ t) (h4 : 1 ≤ m) (h5 : t % 2 = i) (h6 : hsec ⟨t, m⟩ ≠ seal4 M) :
    Calls Tryz.prog 49 #[.int .i64 (i : Int), .slice A 64 c] w fun e w' => e = .returned (.tuple #[hd2 hd0, .bool false]) ∧ Below w.heap.size w w' := by
  obtain ⟨r0, h7⟩ : ∃ r0, r0 = i := ⟨_, rfl⟩
  obtain ⟨dd, hd, hdf⟩ : ∃ dd, ((str (hsec ⟨t, m⟩)).toList == (str (seal4 M)).toList) = dd ∧ dd = false := ⟨false, by rw [str_same]; exact decide_eq_false h6, rfl⟩
  have Hd := hide hd
  rw [← h7] at h5
  clear hd h6
  have h3i : ¬ (t : Int) < 1 := by omega
  have h4i : ¬ (m : Int) < 1 := by omega
  have H5 := hide h5
  clear h3 h4 h5
  have h6i : (r0 : Int) = (i : Int) := by omega
  subst hdf
  clear h7
  have hbx := Hx.new w 0 0
  have HB := hide (hx_below w 0 0)
  have hpos := ht.pos
  have hby0 := (hb.below HB.out).more HB.out.size
  have ht0 := ht.below HB.out hpos
  have Hm := hide hm
  have H1 := hide h1
  have H2 := hide h2
  have Ht := hide ht
  clear hm h1 h2 hb ht
  go_enter Tryz.func49, Tryz.ntmps49
  go_wp2_with fail
  generalize w.alloc _ = w0 at *
  refine (Open_good A 64 c 60 M w0 Hm.out rfl hc (by omega) hby0 ht0).mono ?_
  rintro r w1 ⟨b2, o2, rfl, hby1, hb1⟩
  have hbx1 := hbx.below hb1
  have HB1 := hide (HB.out.trans (hb1.mono HB.out.size))
  have hbyB1 := (hby0.below hb1).more hb1.size
  clear hbx hb1 hby0 ht0 HB
  go_wp2_with fail
  refine (Read_told (some ⟨b2, o2, none⟩) M 60 60 w1 Hm.out hby1 (Nat.le_refl _) (by unfold maxLen; omega)).mono ?_
  rintro r w2 ⟨rfl, hr2, hb2⟩
  obtain ⟨R, hR⟩ : ∃ R, R = w1.heap.size := ⟨_, rfl⟩
  have hne : w.heap.size ≠ R := by have := hbx1.lt; omega
  have hRlt : w.heap.size ≤ R := by have := hbx1.lt; omega
  have hbx2 := hbx1.below hb2
  have HB2 := hide (HB1.out.trans (hb2.mono HB1.out.size))
  have hbyB2 := (hbyB1.below hb2).more hb2.size
  have hRA : ∀ p o, A = some ⟨p, o, none⟩ → M ≠ [] → p ≠ R := fun p o hA hM => by
    rintro rfl
    have hlt : (seal4 M).length ≠ 0 := by rw [seal4_length]; omega
    obtain ⟨p', o', e', hp', _⟩ := hbyB1 (by intro h0; rw [h0] at hlt; exact hlt rfl)
    rw [hA] at e'
    cases e'
    omega
  rw [← hR] at hr2 ⊢
  clear hbx1 hb2 hbyB1 HB1 hby1 hR
  go_wp2_with fail
  refine (Number_at' R 0 M w2 hr2 t l1 e1 H1.out).mono ?_
  rintro r w3 ⟨rfl, hr3, hg3⟩
  have hbx3 := hbx2.only hg3 hne
  have HB3 := hide (HB2.out.trans (below_of_only hg3 hRlt hr2.lt))
  have hbyB3 : Byt w3 w3.heap.size A (seal4 M) := (byt_only hbyB2 hg3 hRA Hm.out)
  clear hg3 hr2 HB2 hbx2 hbyB2
  have hJ := Hx.new w3 t 0
  have hbJ := hx_below w3 t 0
  have hr4 := rd_new hr3 (.cells (hcs t 0) 73)
  have hbx4 := hbx3.below hbJ
  have HB4 := hide (HB3.out.trans (hbJ.mono HB3.out.size))
  have hbyB4 := (hbyB3.below hbJ).more hbJ.size
  have hJne : w3.heap.size ≠ R := by have := hr3.lt; omega
  have hJlt : w.heap.size < w3.heap.size := by have := hbx3.lt; omega
  clear hbJ hbyB3 HB3
  go_wp2_with fail
  obtain ⟨J, hJJ⟩ : ∃ J, J = w3.heap.size := ⟨_, rfl⟩
  rw [← hJJ] at hJ hJne hJlt ⊢
  generalize w3.alloc _ = w4 at *
  clear hr3 hbx3 hJJ
  refine (Number_at' R e1 l1 w4 hr4 m l2 e2 H2.out).mono ?_
  rintro r w5 ⟨rfl, hr5, hg5⟩
  have hbx5 := hbx4.only hg5 hne
  have hJ5 := hJ.only hg5 hJne
  have HB5 := hide (HB4.out.trans (below_of_only hg5 hRlt hr4.lt))
  have hbyB5 : Byt w5 w5.heap.size A (seal4 M) := (byt_only hbyB4 hg5 hRA Hm.out)
  clear hg5 hr4 HB4 hbx4 hJ hbyB4 hr5
  have hj0 := hJ5.c0
  have hj1 := hJ5.c1
  have hi1 := hJ5.free 1
  have hbx6 := hx_other hbx5 (v := .int .i64 (m : Int)) (i := 1) (Nat.ne_of_lt hJlt)
  have hJ6 := hJ5.set1 m
  have HB6 := hide (HB5.out.setCell (p := ⟨J, 1, none⟩) (Nat.le_of_lt hJlt) (.int .i64 (m : Int)))
  have hbyB6 := (byt_store hbyB5 hJ5 (i := 1) (v := .int .i64 (m : Int)) Hm.out)
  clear hJ5 hbx5 HB5 hbyB5
  go_wp2_with fail
  clear hj0 hj1 hi1
  generalize w5.setCell _ _ = w6 at *
  refine (hsector_told ⟨t, m⟩ r0 H5.out w6).mono ?_
  rintro r w7 ⟨rfl, hb7⟩
  have hbx7 := hbx6.below hb7
  have hJ7 := hJ6.below hb7
  have HB7 := hide (HB6.out.trans (hb7.mono HB6.out.size))
  have hbyB7 := (hbyB6.below hb7).more hb7.size
  clear hbx6 hJ6 HB6 hbyB6 hb7
  have hj0 := hJ7.c0
  have hj1 := hJ7.c1
  go_wp2_with fail
  have HT7 := hide (Ht.out.below HB7.out hpos)
  refine (hencode_any t m w7 HT7.out).mono ?_
  rintro r w8 ⟨p3, o3, c3, rfl, hc3, hm3, hby8, hb8⟩
  have hbx8 := hbx7.below hb8
  have hJ8 := hJ7.below hb8
  have HB8 := hide (HB7.out.trans (hb8.mono HB7.out.size))
  have hbyB8 := (hbyB7.below hb8).more hb8.size
  clear hbx7 hJ7 HB7 hbyB7 hb8 hj0 hj1 HT7
  have HQ := hide (Equal_any (some ⟨p3, o3, none⟩) A 64 c3 64 c _ _ (hsec ⟨t, m⟩) (seal4 M) w8 (hsec_length _) (by rw [seal4_length, Hm.out]) hby8 hbyB8 false Hd.out)
  clear hby8 hbyB8
  go_wp2_with fail
  refine HQ.out.mono ?_
  rintro r w9 ⟨rfl, rfl⟩
  clear HQ
  clear hJ8
  have hz0 := hbx8.c0
  have hy0 := hbx8.free 0
  have hz1 := hbx8.c1
  have hy1 := hbx8.free 1
  have HX := hide (hbx8.put 0 0)
  have HY := hide (below_puthx HB8.out (Nat.le_refl _) 0 0)
  clear hbx8 HB8
  go_wp2
  refine bodyPost_ret (results_ct rfl _ _ w.heap.size 73 _ (0, 0) _ rfl (show _ from HX.out) Tryz.underlying73 rfl hx_size) rfl ?_
  exact ⟨rfl, HY.out⟩

set_option maxRecDepth 100000 in
set_option maxHeartbeats 2000000 in
theorem dh_same (h3 : 1 ≤ t) (h4 : 1 ≤ m) (h5 : t % 2 = i) (h6 : hsec ⟨t, m⟩ = seal4 M) :
    Calls Tryz.prog 49 #[.int .i64 (i : Int), .slice A 64 c] w fun e w' => e = .returned (.tuple #[hd2 ⟨t, m⟩, .bool true]) ∧ Below w.heap.size w w' := by
  obtain ⟨r0, h7⟩ : ∃ r0, r0 = i := ⟨_, rfl⟩
  have Hd := hide (show ((str (hsec ⟨t, m⟩)).toList == (str (seal4 M)).toList) = true by rw [h6]; simp)
  rw [← h7] at h5
  clear h6
  have h3i : ¬ (t : Int) < 1 := by omega
  have h4i : ¬ (m : Int) < 1 := by omega
  have H5 := hide h5
  clear h3 h4 h5
  have h6i : (r0 : Int) = (i : Int) := by omega
  clear h7
  have hbx := Hx.new w 0 0
  have HB := hide (hx_below w 0 0)
  have hpos := ht.pos
  have hby0 := (hb.below HB.out).more HB.out.size
  have ht0 := ht.below HB.out hpos
  have Hm := hide hm
  have H1 := hide h1
  have H2 := hide h2
  have Ht := hide ht
  clear hm h1 h2 hb ht
  go_enter Tryz.func49, Tryz.ntmps49
  go_wp2_with fail
  generalize w.alloc _ = w0 at *
  refine (Open_good A 64 c 60 M w0 Hm.out rfl hc (by omega) hby0 ht0).mono ?_
  rintro r w1 ⟨b2, o2, rfl, hby1, hb1⟩
  have hbx1 := hbx.below hb1
  have HB1 := hide (HB.out.trans (hb1.mono HB.out.size))
  have hbyB1 := (hby0.below hb1).more hb1.size
  clear hbx hb1 hby0 ht0 HB
  go_wp2_with fail
  refine (Read_told (some ⟨b2, o2, none⟩) M 60 60 w1 Hm.out hby1 (Nat.le_refl _) (by unfold maxLen; omega)).mono ?_
  rintro r w2 ⟨rfl, hr2, hb2⟩
  obtain ⟨R, hR⟩ : ∃ R, R = w1.heap.size := ⟨_, rfl⟩
  have hne : w.heap.size ≠ R := by have := hbx1.lt; omega
  have hRlt : w.heap.size ≤ R := by have := hbx1.lt; omega
  have hbx2 := hbx1.below hb2
  have HB2 := hide (HB1.out.trans (hb2.mono HB1.out.size))
  have hbyB2 := (hbyB1.below hb2).more hb2.size
  have hRA : ∀ p o, A = some ⟨p, o, none⟩ → M ≠ [] → p ≠ R := fun p o hA hM => by
    rintro rfl
    have hlt : (seal4 M).length ≠ 0 := by rw [seal4_length]; omega
    obtain ⟨p', o', e', hp', _⟩ := hbyB1 (by intro h0; rw [h0] at hlt; exact hlt rfl)
    rw [hA] at e'
    cases e'
    omega
  rw [← hR] at hr2 ⊢
  clear hbx1 hb2 hbyB1 HB1 hby1 hR
  go_wp2_with fail
  refine (Number_at' R 0 M w2 hr2 t l1 e1 H1.out).mono ?_
  rintro r w3 ⟨rfl, hr3, hg3⟩
  have hbx3 := hbx2.only hg3 hne
  have HB3 := hide (HB2.out.trans (below_of_only hg3 hRlt hr2.lt))
  have hbyB3 : Byt w3 w3.heap.size A (seal4 M) := (byt_only hbyB2 hg3 hRA Hm.out)
  clear hg3 hr2 HB2 hbx2 hbyB2
  have hJ := Hx.new w3 t 0
  have hbJ := hx_below w3 t 0
  have hr4 := rd_new hr3 (.cells (hcs t 0) 73)
  have hbx4 := hbx3.below hbJ
  have HB4 := hide (HB3.out.trans (hbJ.mono HB3.out.size))
  have hbyB4 := (hbyB3.below hbJ).more hbJ.size
  have hJne : w3.heap.size ≠ R := by have := hr3.lt; omega
  have hJlt : w.heap.size < w3.heap.size := by have := hbx3.lt; omega
  clear hbJ hbyB3 HB3
  go_wp2_with fail
  obtain ⟨J, hJJ⟩ : ∃ J, J = w3.heap.size := ⟨_, rfl⟩
  rw [← hJJ] at hJ hJne hJlt ⊢
  generalize w3.alloc _ = w4 at *
  clear hr3 hbx3 hJJ
  refine (Number_at' R e1 l1 w4 hr4 m l2 e2 H2.out).mono ?_
  rintro r w5 ⟨rfl, hr5, hg5⟩
  have hbx5 := hbx4.only hg5 hne
  have hJ5 := hJ.only hg5 hJne
  have HB5 := hide (HB4.out.trans (below_of_only hg5 hRlt hr4.lt))
  have hbyB5 : Byt w5 w5.heap.size A (seal4 M) := (byt_only hbyB4 hg5 hRA Hm.out)
  clear hg5 hr4 HB4 hbx4 hJ hbyB4 hr5
  have hj0 := hJ5.c0
  have hj1 := hJ5.c1
  have hi1 := hJ5.free 1
  have hbx6 := hx_other hbx5 (v := .int .i64 (m : Int)) (i := 1) (Nat.ne_of_lt hJlt)
  have hJ6 := hJ5.set1 m
  have HB6 := hide (HB5.out.setCell (p := ⟨J, 1, none⟩) (Nat.le_of_lt hJlt) (.int .i64 (m : Int)))
  have hbyB6 := (byt_store hbyB5 hJ5 (i := 1) (v := .int .i64 (m : Int)) Hm.out)
  clear hJ5 hbx5 HB5 hbyB5
  go_wp2_with fail
  clear hj0 hj1 hi1
  generalize w5.setCell _ _ = w6 at *
  refine (hsector_told ⟨t, m⟩ r0 H5.out w6).mono ?_
  rintro r w7 ⟨rfl, hb7⟩
  have hbx7 := hbx6.below hb7
  have hJ7 := hJ6.below hb7
  have HB7 := hide (HB6.out.trans (hb7.mono HB6.out.size))
  have hbyB7 := (hbyB6.below hb7).more hb7.size
  clear hbx6 hJ6 HB6 hbyB6 hb7
  have hj0 := hJ7.c0
  have hj1 := hJ7.c1
  go_wp2_with fail
  have HT7 := hide (Ht.out.below HB7.out hpos)
  refine (hencode_any t m w7 HT7.out).mono ?_
  rintro r w8 ⟨p3, o3, c3, rfl, hc3, hm3, hby8, hb8⟩
  have hbx8 := hbx7.below hb8
  have hJ8 := hJ7.below hb8
  have HB8 := hide (HB7.out.trans (hb8.mono HB7.out.size))
  have hbyB8 := (hbyB7.below hb8).more hb8.size
  clear hbx7 hJ7 HB7 hbyB7 hb8 hj0 hj1 HT7
  have HQ := hide (Equal_any (some ⟨p3, o3, none⟩) A 64 c3 64 c _ _ (hsec ⟨t, m⟩) (seal4 M) w8 (hsec_length _) (by rw [seal4_length, Hm.out]) hby8 hbyB8 true Hd.out)
  clear hby8 hbyB8
  go_wp2_with fail
  refine HQ.out.mono ?_
  rintro r w9 ⟨rfl, rfl⟩
  clear HQ
  have hj0 := hJ8.c0
  have hj1 := hJ8.c1
  have hz0 := hbx8.c0
  have hy0 := hbx8.free 0
  have hz1 := hbx8.c1
  have hy1 := hbx8.free 1
  have HX := hide (hbx8.put t m)
  have HY := hide (below_puthx HB8.out (Nat.le_refl _) t m)
  clear hbx8 HB8
  go_wp2
  refine bodyPost_ret (results_ct rfl _ _ w.heap.size 73 _ (0, 0) _ rfl (show _ from HX.out) Tryz.underlying73 rfl hx_size) rfl ?_
  exact ⟨rfl, HY.out⟩

end
set_option maxRecDepth 100000 in
set_option maxHeartbeats 2000000 in
theorem db_open (t : Nat) (A : Option Addr) (c : Nat) (L : List UInt8) (w : World) (hn : L.length = 64) (hc : 64 ≤ c) (hb : Byt w w.heap.size A L) (ht : Tab w) (hno : ∀ m, L ≠ seal4 m) :
    Calls Tryz.prog 52 #[.int .i64 (t : Int), .slice A 64 c] w fun e w' => e = .returned (.tuple #[bk2 0 ⟨#[]⟩, .bool false]) ∧ Below w.heap.size w w' := by
  have hbx := Mx.new w 0 ⟨#[]⟩
  have HB := hide (mx_below w 0 ⟨#[]⟩)
  have hpos := ht.pos
  have hby0 := (hb.below HB.out).more HB.out.size
  have ht0 := ht.below HB.out hpos
  have Hn := hide hn
  have Hno := hide hno
  clear hn hno hb ht
  go_enter Tryz.func52, Tryz.ntmps52
  go_wp2_with fail
  generalize w.alloc _ = w0 at *
  refine (Open_bad A 64 c L w0 Hn.out hc (by omega) hby0 ht0 Hno.out).mono ?_
  rintro r w2 ⟨rfl, hb2⟩
  have hbx2 := hbx.below hb2
  have HB2 := hide (HB.out.trans (hb2.mono HB.out.size))
  clear hbx hb2 hby0 ht0 HB
  have hz0 := hbx2.c0
  have hy0 := hbx2.free 0
  have hz1 := hbx2.c1
  have hy1 := hbx2.free 1
  have HX := hide (hbx2.put 0 ⟨#[]⟩)
  have HY := hide (below_putmx HB2.out (Nat.le_refl _) 0 ⟨#[]⟩)
  clear hbx2 HB2
  go_wp2
  refine bodyPost_ret (results_ct rfl _ _ w.heap.size 112 _ (0, 0) _ rfl (show _ from HX.out) Tryz.underlying112 rfl mx_size) rfl ?_
  exact ⟨rfl, HY.out⟩

section
variable (t : Nat) (A : Option Addr) (c : Nat) (M : List UInt8) (w : World) (hm : M.length = 60) (hc : 64 ≤ c) (hb : Byt w w.heap.size A (seal4 M)) (ht : Tab w) (t' : Nat) (d : List UInt8) (l1 l2 : List UInt8) (e1 e2 : Nat) (h1 : rnum M 0 = (t', l1, e1)) (h2 : rtext l1 e1 16 = (d, l2, e2)) (hd : (str d).size ≤ 16)
include hm hc hb ht h1 h2 hd
set_option maxRecDepth 100000 in
set_option maxHeartbeats 2000000 in
theorem db_unlike (h6 : bsec t (str d) ≠ seal4 M) :
    Calls Tryz.prog 52 #[.int .i64 (t : Int), .slice A 64 c] w fun e w' => e = .returned (.tuple #[bk2 0 ⟨#[]⟩, .bool false]) ∧ Below w.heap.size w w' := by
  have Hd := hide (show ((str (bsec t (str d))).toList == (str (seal4 M)).toList) = false by rw [str_same]; exact decide_eq_false h6)
  clear h6
  have hbx := Mx.new w 0 ⟨#[]⟩
  have HB := hide (mx_below w 0 ⟨#[]⟩)
  have hpos := ht.pos
  have hby0 := (hb.below HB.out).more HB.out.size
  have ht0 := ht.below HB.out hpos
  have Hm := hide hm
  have H1 := hide h1
  have H2 := hide h2
  have Ht := hide ht
  have HS := hide hd
  clear hm h1 h2 hb ht hd
  go_enter Tryz.func52, Tryz.ntmps52
  go_wp2_with fail
  generalize w.alloc _ = w0 at *
  refine (Open_good A 64 c 60 M w0 Hm.out rfl hc (by omega) hby0 ht0).mono ?_
  rintro r w1 ⟨b2, o2, rfl, hby1, hb1⟩
  have hbx1 := hbx.below hb1
  have HB1 := hide (HB.out.trans (hb1.mono HB.out.size))
  have hbyB1 := (hby0.below hb1).more hb1.size
  clear hbx hb1 hby0 ht0 HB
  go_wp2_with fail
  refine (Read_told (some ⟨b2, o2, none⟩) M 60 60 w1 Hm.out hby1 (Nat.le_refl _) (by unfold maxLen; omega)).mono ?_
  rintro r w2 ⟨rfl, hr2, hb2⟩
  obtain ⟨R, hR⟩ : ∃ R, R = w1.heap.size := ⟨_, rfl⟩
  have hne : w.heap.size ≠ R := by have := hbx1.lt; omega
  have hRlt : w.heap.size ≤ R := by have := hbx1.lt; omega
  have hbx2 := hbx1.below hb2
  have HB2 := hide (HB1.out.trans (hb2.mono HB1.out.size))
  have hbyB2 := (hbyB1.below hb2).more hb2.size
  have hRA : ∀ p o, A = some ⟨p, o, none⟩ → M ≠ [] → p ≠ R := fun p o hA hM => by
    rintro rfl
    have hlt : (seal4 M).length ≠ 0 := by rw [seal4_length]; omega
    obtain ⟨p', o', e', hp', _⟩ := hbyB1 (by intro h0; rw [h0] at hlt; exact hlt rfl)
    rw [hA] at e'
    cases e'
    omega
  rw [← hR] at hr2 ⊢
  clear hbx1 hb2 hbyB1 HB1 hby1 hR
  go_wp2_with fail
  refine (Number_at' R 0 M w2 hr2 t' l1 e1 H1.out).mono ?_
  rintro r w3 ⟨rfl, hr3, hg3⟩
  have hbx3 := hbx2.only hg3 hne
  have HB3 := hide (HB2.out.trans (below_of_only hg3 hRlt hr2.lt))
  have hbyB3 : Byt w3 w3.heap.size A (seal4 M) := (byt_only hbyB2 hg3 hRA Hm.out)
  clear hg3 hr2 HB2 hbx2 hbyB2
  go_wp2_with fail
  refine (Text_at' R e1 16 l1 w3 hr3 d l2 e2 H2.out).mono ?_
  rintro r w5 ⟨rfl, hr5, hg5⟩
  have hbx5 := hbx3.only hg5 hne
  have HB5 := hide (HB3.out.trans (below_of_only hg5 hRlt hr3.lt))
  have hbyB5 : Byt w5 w5.heap.size A (seal4 M) := (byt_only hbyB3 hg5 hRA Hm.out)
  have hJ := Mx.new w5 t (str d)
  have hbJ := mx_below w5 t (str d)
  have hbx6 := hbx5.below hbJ
  have HB6 := hide (HB5.out.trans (hbJ.mono HB5.out.size))
  have hbyB6 := (hbyB5.below hbJ).more hbJ.size
  clear hg5 hr3 HB3 hbx3 hbyB3 hr5 hbJ hbx5 hbyB5 HB5
  have HT6 := hide (Ht.out.below HB6.out hpos)
  go_wp2_with fail
  obtain ⟨J, hJJ⟩ : ∃ J, J = w5.heap.size := ⟨_, rfl⟩
  rw [← hJJ] at hJ ⊢
  generalize w5.alloc _ = w6 at *
  refine (bencode_any t (str d) w6 HT6.out HS.out).mono ?_
  rintro r w8 ⟨p3, o3, c3, rfl, hc3, hm3, hby8, hb8⟩
  have hbx8 := hbx6.below hb8
  have hJ8 := hJ.below hb8
  have HB8 := hide (HB6.out.trans (hb8.mono HB6.out.size))
  have hbyB8 := (hbyB6.below hb8).more hb8.size
  clear hbx6 HB6 hbyB6 hb8 HT6 hJ hJJ
  have hj0 := hJ8.c0
  have hj1 := hJ8.c1
  have HQ := hide (Equal_any (some ⟨p3, o3, none⟩) A 64 c3 64 c _ _ (bsec t (str d)) (seal4 M) w8 (bsec_length t HS.out) (by rw [seal4_length, Hm.out]) hby8 hbyB8 false Hd.out)
  clear hby8 hbyB8
  go_wp2_with fail
  refine HQ.out.mono ?_
  rintro r w9 ⟨rfl, rfl⟩
  clear HQ
  have hz0 := hbx8.c0
  have hy0 := hbx8.free 0
  have hz1 := hbx8.c1
  have hy1 := hbx8.free 1
  have HX := hide (hbx8.put 0 ⟨#[]⟩)
  have HY := hide (below_putmx HB8.out (Nat.le_refl _) 0 ⟨#[]⟩)
  clear hbx8 HB8
  go_wp2
  refine bodyPost_ret (results_ct rfl _ _ w.heap.size 112 _ (0, 0) _ rfl (show _ from HX.out) Tryz.underlying112 rfl mx_size) rfl ?_
  exact ⟨rfl, HY.out⟩

set_option maxRecDepth 100000 in
set_option maxHeartbeats 2000000 in
theorem db_same (h6 : bsec t (str d) = seal4 M) :
    Calls Tryz.prog 52 #[.int .i64 (t : Int), .slice A 64 c] w fun e w' => e = .returned (.tuple #[bk2 t (str d), .bool true]) ∧ Below w.heap.size w w' := by
  have Hd := hide (show ((str (bsec t (str d))).toList == (str (seal4 M)).toList) = true by rw [h6]; simp)
  clear h6
  have hbx := Mx.new w 0 ⟨#[]⟩
  have HB := hide (mx_below w 0 ⟨#[]⟩)
  have hpos := ht.pos
  have hby0 := (hb.below HB.out).more HB.out.size
  have ht0 := ht.below HB.out hpos
  have Hm := hide hm
  have H1 := hide h1
  have H2 := hide h2
  have Ht := hide ht
  have HS := hide hd
  clear hm h1 h2 hb ht hd
  go_enter Tryz.func52, Tryz.ntmps52
  go_wp2_with fail
  generalize w.alloc _ = w0 at *
  refine (Open_good A 64 c 60 M w0 Hm.out rfl hc (by omega) hby0 ht0).mono ?_
  rintro r w1 ⟨b2, o2, rfl, hby1, hb1⟩
  have hbx1 := hbx.below hb1
  have HB1 := hide (HB.out.trans (hb1.mono HB.out.size))
  have hbyB1 := (hby0.below hb1).more hb1.size
  clear hbx hb1 hby0 ht0 HB
  go_wp2_with fail
  refine (Read_told (some ⟨b2, o2, none⟩) M 60 60 w1 Hm.out hby1 (Nat.le_refl _) (by unfold maxLen; omega)).mono ?_
  rintro r w2 ⟨rfl, hr2, hb2⟩
  obtain ⟨R, hR⟩ : ∃ R, R = w1.heap.size := ⟨_, rfl⟩
  have hne : w.heap.size ≠ R := by have := hbx1.lt; omega
  have hRlt : w.heap.size ≤ R := by have := hbx1.lt; omega
  have hbx2 := hbx1.below hb2
  have HB2 := hide (HB1.out.trans (hb2.mono HB1.out.size))
  have hbyB2 := (hbyB1.below hb2).more hb2.size
  have hRA : ∀ p o, A = some ⟨p, o, none⟩ → M ≠ [] → p ≠ R := fun p o hA hM => by
    rintro rfl
    have hlt : (seal4 M).length ≠ 0 := by rw [seal4_length]; omega
    obtain ⟨p', o', e', hp', _⟩ := hbyB1 (by intro h0; rw [h0] at hlt; exact hlt rfl)
    rw [hA] at e'
    cases e'
    omega
  rw [← hR] at hr2 ⊢
  clear hbx1 hb2 hbyB1 HB1 hby1 hR
  go_wp2_with fail
  refine (Number_at' R 0 M w2 hr2 t' l1 e1 H1.out).mono ?_
  rintro r w3 ⟨rfl, hr3, hg3⟩
  have hbx3 := hbx2.only hg3 hne
  have HB3 := hide (HB2.out.trans (below_of_only hg3 hRlt hr2.lt))
  have hbyB3 : Byt w3 w3.heap.size A (seal4 M) := (byt_only hbyB2 hg3 hRA Hm.out)
  clear hg3 hr2 HB2 hbx2 hbyB2
  go_wp2_with fail
  refine (Text_at' R e1 16 l1 w3 hr3 d l2 e2 H2.out).mono ?_
  rintro r w5 ⟨rfl, hr5, hg5⟩
  have hbx5 := hbx3.only hg5 hne
  have HB5 := hide (HB3.out.trans (below_of_only hg5 hRlt hr3.lt))
  have hbyB5 : Byt w5 w5.heap.size A (seal4 M) := (byt_only hbyB3 hg5 hRA Hm.out)
  have hJ := Mx.new w5 t (str d)
  have hbJ := mx_below w5 t (str d)
  have hbx6 := hbx5.below hbJ
  have HB6 := hide (HB5.out.trans (hbJ.mono HB5.out.size))
  have hbyB6 := (hbyB5.below hbJ).more hbJ.size
  clear hg5 hr3 HB3 hbx3 hbyB3 hr5 hbJ hbx5 hbyB5 HB5
  have HT6 := hide (Ht.out.below HB6.out hpos)
  go_wp2_with fail
  obtain ⟨J, hJJ⟩ : ∃ J, J = w5.heap.size := ⟨_, rfl⟩
  rw [← hJJ] at hJ ⊢
  generalize w5.alloc _ = w6 at *
  refine (bencode_any t (str d) w6 HT6.out HS.out).mono ?_
  rintro r w8 ⟨p3, o3, c3, rfl, hc3, hm3, hby8, hb8⟩
  have hbx8 := hbx6.below hb8
  have hJ8 := hJ.below hb8
  have HB8 := hide (HB6.out.trans (hb8.mono HB6.out.size))
  have hbyB8 := (hbyB6.below hb8).more hb8.size
  clear hbx6 HB6 hbyB6 hb8 HT6 hJ hJJ
  have hj0 := hJ8.c0
  have hj1 := hJ8.c1
  have HQ := hide (Equal_any (some ⟨p3, o3, none⟩) A 64 c3 64 c _ _ (bsec t (str d)) (seal4 M) w8 (bsec_length t HS.out) (by rw [seal4_length, Hm.out]) hby8 hbyB8 true Hd.out)
  clear hby8 hbyB8
  go_wp2_with fail
  refine HQ.out.mono ?_
  rintro r w9 ⟨rfl, rfl⟩
  clear HQ
  have hz0 := hbx8.c0
  have hy0 := hbx8.free 0
  have hz1 := hbx8.c1
  have hy1 := hbx8.free 1
  have HX := hide (hbx8.put t (str d))
  have HY := hide (below_putmx HB8.out (Nat.le_refl _) t (str d))
  clear hbx8 HB8
  go_wp2
  refine bodyPost_ret (results_ct rfl _ _ w.heap.size 112 _ (0, 0) _ rfl (show _ from HX.out) Tryz.underlying112 rfl mx_size) rfl ?_
  exact ⟨rfl, HY.out⟩

end

/-! ### All ways -/
/-- What decodeHead tells. -/
def HeadO : Option Hd → Ending → Prop
  | none, e => e = .returned (.tuple #[hd2 hd0, .bool false])
  | some h, e => e = .returned (.tuple #[hd2 h, .bool true])
def BlockO (t : Nat) : Option ByteArray → Ending → Prop
  | none, e => e = .returned (.tuple #[bk2 0 ⟨#[]⟩, .bool false])
  | some d, e => e = .returned (.tuple #[bk2 t d, .bool true])
theorem decodeHead_any (i : Nat) (A : Option Addr) (c : Nat) (L : List UInt8) (w : World) (hn : L.length = 64) (hc : 64 ≤ c) (hb : Byt w w.heap.size A L) (ht : Tab w) (o : Option Hd) (ho : unh i L = o) :
    Calls Tryz.prog 49 #[.int .i64 (i : Int), .slice A 64 c] w fun e w' => HeadO o e ∧ Below w.heap.size w w' := by
  subst ho
  by_cases hs : ∃ M, L = seal4 M
  · obtain ⟨M, rfl⟩ := hs
    have hm : M.length = 60 := by rw [seal4_length] at hn; omega
    obtain ⟨t, l1, e1, h1⟩ : ∃ t l1 e1, rnum M 0 = (t, l1, e1) := ⟨_, _, _, rfl⟩
    obtain ⟨m, l2, e2, h2⟩ : ∃ m l2 e2, rnum l1 e1 = (m, l2, e2) := ⟨_, _, _, rfl⟩
    have hg : hgot M = ⟨t, m⟩ := hgot_step h1 h2
    have hnum := hgot_num M
    rw [hg] at hnum
    have hno : ¬ (1 ≤ t ∧ 1 ≤ m ∧ t % 2 = i ∧ hsec ⟨t, m⟩ = seal4 M) → unh i (seal4 M) = none := fun h => unh_none fun x hx he => h (by
      have e1 : M = pad (hbod x) := seal4_inj he
      have e2 : x = ⟨t, m⟩ := by rw [← hg, e1, hgot_pad hx]
      subst e2
      exact ⟨hx.pos, hx.mpos, hx.par, he.symm⟩)
    by_cases h3 : 1 ≤ t
    · by_cases h4 : 1 ≤ m
      · by_cases h5 : t % 2 = i
        · by_cases h6 : hsec ⟨t, m⟩ = seal4 M
          · rw [← h6, unh_some ⟨hnum.1, hnum.2, h3, h4, h5⟩]
            exact dh_same i A c M w hm hc hb ht t m l1 l2 e1 e2 h1 h2 h3 h4 h5 h6
          · rw [hno fun h => h6 h.2.2.2]
            exact dh_unlike i A c M w hm hc hb ht t m l1 l2 e1 e2 h1 h2 h3 h4 h5 h6
        · rw [hno fun h => h5 h.2.2.1]
          exact dh_par i A c M w hm hc hb ht t m l1 l2 e1 e2 h1 h2 _ h3 h4 rfl h5
      · rw [hno fun h => h4 h.2.1]
        exact dh_lowm i A c M w hm hc hb ht t m l1 l2 e1 e2 h1 h2 h3 h4
    · rw [hno fun h => h3 h.1]
      exact dh_lowt i A c M w hm hc hb ht t m l1 l2 e1 e2 h1 h2 h3
  · rw [unh_none fun x _ e => hs ⟨_, e⟩]
    exact dh_open i A c L w hn hc hb ht fun m e => hs ⟨m, e⟩
theorem decodeBlock_any (t : Nat) (A : Option Addr) (c : Nat) (L : List UInt8) (w : World) (hn : L.length = 64) (hc : 64 ≤ c) (hb : Byt w w.heap.size A L) (ht : Tab w) (hN : NumN t) (o : Option ByteArray) (ho : unb t L = o) :
    Calls Tryz.prog 52 #[.int .i64 (t : Int), .slice A 64 c] w fun e w' => BlockO t o e ∧ Below w.heap.size w w' := by
  subst ho
  by_cases hs : ∃ M, L = seal4 M
  · obtain ⟨M, rfl⟩ := hs
    have hm : M.length = 60 := by rw [seal4_length] at hn; omega
    obtain ⟨t', l1, e1, h1⟩ : ∃ t l1 e1, rnum M 0 = (t, l1, e1) := ⟨_, _, _, rfl⟩
    obtain ⟨d, l2, e2, h2⟩ : ∃ m l2 e2, rtext l1 e1 16 = (m, l2, e2) := ⟨_, _, _, rfl⟩
    have hg : bgot M = str d := bgot_step h1 h2
    have hd : (str d).size ≤ 16 := by rw [← hg]; exact bgot_len M
    by_cases h6 : bsec t (str d) = seal4 M
    · rw [← h6, unb_some hd hN]
      exact db_same t A c M w hm hc hb ht t' d l1 l2 e1 e2 h1 h2 hd h6
    · rw [unb_none fun x hx he => h6 (by
        have e1 : M = pad (bbod t x) := seal4_inj he
        have e2 : x = str d := by rw [← hg, e1, bgot_pad hx hN]
        rw [← e2]
        exact he.symm)]
      exact db_unlike t A c M w hm hc hb ht t' d l1 l2 e1 e2 h1 h2 hd h6
  · rw [unb_none fun x _ e => hs ⟨_, e⟩]
    exact db_open t A c L w hn hc hb ht fun m e => hs ⟨m, e⟩

end Go.Proofs.YtnmpckhlpkmojaaGreatDoor.Im

namespace Go.Proofs.YtnmpckhlpkmojaaGreatDoor.Im
open Go.RowKit
open Pk Sm Fa Rc Dk
open Jn (NumN clampN zer zer_no)

theorem place_any (n : Nat) (hn : n ≤ 1000) (w : World) : Calls Tryz.prog 53 #[.int .i64 (n : Int)] w fun e w' => e = .returned (.tuple #[.int .i64 ((n / 8 : Nat) : Int), .int .i64 ((n % 8 : Nat) : Int)]) ∧ w = w' := by
  have hr : (n : Int).tmod 8 = ((n % 8 : Nat) : Int) := by rw [Int.tmod_eq_emod_of_nonneg (by omega)]; rfl
  have hq : (n : Int).tdiv 8 = ((n / 8 : Nat) : Int) := by rw [Int.tdiv_eq_ediv_of_nonneg (by omega)]; rfl
  obtain ⟨r, hrr⟩ : ∃ r, n % 8 = r := ⟨_, rfl⟩
  obtain ⟨q, hqq⟩ : ∃ r, n / 8 = r := ⟨_, rfl⟩
  have h1 : r < 8 := by omega
  have h2 : q ≤ 1000 := by omega
  rw [hrr] at hr
  rw [hqq] at hq
  rw [hrr, hqq]
  clear hrr hqq
  go_enter Tryz.func53, Tryz.ntmps53
  go_wp2
  go_ret2
  exact ⟨by go_num, rfl⟩
theorem sector_any (t n : Nat) (hn : n ≤ 1000) (w : World) : Calls Tryz.prog 51 #[.int .i64 (t : Int), .int .i64 (n : Int)] w fun e w' => e = .returned (.int .i64 ((at2 t n : Nat) : Int)) ∧ w = w' := by
  have hr : (t : Int).tmod 2 = ((t % 2 : Nat) : Int) := by rw [Int.tmod_eq_emod_of_nonneg (by omega)]; rfl
  obtain ⟨r, hrr⟩ : ∃ r, t % 2 = r := ⟨_, rfl⟩
  have h1 : r < 2 := by omega
  have ha : at2 t n = 2 + r * 32 + n := by unfold at2; rw [hrr]
  rw [hrr] at hr
  rw [ha]
  clear hrr ha
  go_enter Tryz.func51, Tryz.ntmps51
  go_wp2
  go_ret
  exact ⟨by go_num, rfl⟩

/-- The current head is told. -/
def NowO : Option Hd → Ending → Prop
  | none, e => ∃ h, e = .returned (.tuple #[hd2 h, .bool false])
  | some h, e => e = .returned (.tuple #[hd2 h, .bool true])
theorem getD_of {A : List Sec} {i : Nat} {s : Sec} (h : A[i]? = some s) : A.getD i [] = s := by simp [List.getD_eq_getElem?_getD, h]
theorem nw_none {D : List Sec} {k : Nat} {s : Sec} (h : D.getD k [] = s) (hu : unh k s = none) : nw D (k + 1) = nw D k := by rw [nw, h, hu]
theorem nw_yes {D : List Sec} {k : Nat} {s : Sec} {x : Hd} (h : D.getD k [] = s) (hu : unh k s = some x) (hl : (nw D k).t < x.t) : nw D (k + 1) = x := by rw [nw, h, hu]; exact if_pos hl
theorem nw_not {D : List Sec} {k : Nat} {s : Sec} {x : Hd} (h : D.getD k [] = s) (hu : unh k s = some x) (hl : ¬ (nw D k).t < x.t) : nw D (k + 1) = nw D k := by rw [nw, h, hu]; exact if_neg hl
theorem byt_puthx {w : World} {G t m : Nat} {A : Option Addr} {s : List UInt8} (hb : Byt w w.heap.size A s) (h : Hx w G t m) (t' m' : Nat) (_hs : s.length = 64) : Byt (puthx w G t' m') (puthx w G t' m').heap.size A s := by
  intro h0
  obtain ⟨p, o, rfl, hp, hc⟩ := hb h0
  refine ⟨p, o, rfl, by simpa [World.setCell] using hp, fun k u hu => ?_⟩
  have hck := hc k u hu
  have hpG : p ≠ G := by
    rintro rfl
    simp only [World.cell?, show w.heap[p]? = _ from h] at hck
    match hok : o + k, hck with
    | 0, hck => simp [cel] at hck
    | 1, hck => simp [cel] at hck
    | q + 2, hck => simp at hck
  rw [← hck]
  have h1 := heap_setCell_other w ⟨G, 0, none⟩ p (.int .i64 (t' : Int)) hpG
  have h2 := heap_setCell_other (w.setCell ⟨G, 0, none⟩ (.int .i64 (t' : Int))) ⟨G, 1, none⟩ p (.int .i64 (m' : Int)) hpG
  simp only [puthx, World.cell?, h2, h1]
set_option maxRecDepth 100000 in
set_option maxHeartbeats 4000000 in
theorem current_any (w : World) (G : Nat → Prop) (p : Nat) (S : List Sec) (L : List Wr) (hd : Dsk w G p S L) (h2 : 2 ≤ S.length) (hL : L.length ≤ 1000000) (ht : Tab w) :
    Calls Tryz.prog 30 #[.pointer (some ⟨p, 0, none⟩)] w fun e w' => NowO (cur (all S L)) e ∧ Below w.heap.size w w' := by
  have HD := hide hd
  have H2 := hide h2
  have HL := hide hL
  have HT := hide ht
  have hpos := ht.pos
  have Hpos := hide hpos
  have hX0 := Hx.new w 0 0
  have hB0 := hx_below w 0 0
  have hX1 := Hx.new (w.alloc (.cells (hcs 0 0) 73)) 0 0
  have hB1 := hx_below (w.alloc (.cells (hcs 0 0) 73)) 0 0
  have hs1 : (w.alloc (.cells (hcs 0 0) 73)).heap.size = w.heap.size + 1 := by simp
  rw [hs1] at hX1
  have HX0 := hide (hX0.below hB1)
  have HX1 := hide hX1
  have HB0 := hide (hB0.trans (hB1.mono (by rw [hs1]; omega)))
  have HA := hide (all_length L S)
  clear hd h2 hL ht hpos hX0 hB0 hX1 hB1 hs1
  go_enter Tryz.func30, Tryz.ntmps30
  go_wp2
  go_loopw [5, 11] (fun fr j wr => ∃ k : Nat, k ≤ 2 ∧ j = .int .i64 k ∧ fr = .bool (fsh (all S L) k) ∧ Hid (Hx wr w.heap.size 0 0) ∧ Hid (Hx wr (w.heap.size + 1) (nw (all S L) k).t (nw (all S L) k).m) ∧ Hid (Below w.heap.size w wr)) (fun _ j _ => 2 - (intOf j).toNat)
  case atStart => exact ⟨0, by omega, rfl, rfl, HX0.out, HX1.out, HB0.out⟩
  case round =>
    obtain ⟨k, hk2, rfl, hfr, hx0, hx1, hb⟩ := hrel
    rcases Nat.lt_or_ge k 2 with hlt | hge
    · have hki : (k : Int) < 2 := by omega
      have Hlt := hide hlt
      have hkS : k < S.length := by have := H2.out; omega
      obtain ⟨s, hs⟩ : ∃ s, (all S L)[k]? = some s := ⟨_, List.getElem?_eq_getElem (by rw [HA.out]; exact hkS)⟩
      have hgd : (all S L).getD k [] = s := getD_of hs
      have hls : s.length = 64 := (HD.out.full.all HD.out.fits) s (List.mem_of_getElem? hs)
      have HR := hide (Read_any wr G p k S L s (HD.out.below hb.out) hs hkS HL.out)
      have Hls := hide hls
      have HF1 := hide (show fsh (all S L) (k + 1) = (fsh (all S L) k && decide (s = zer)) by rw [← hgd]; rfl)
      have HE1 := hide (fun hu => nw_none (D := all S L) hgd hu)
      have HE2 := hide (fun x hu => nw_yes (D := all S L) (x := x) hgd hu)
      have HE3 := hide (fun x hu => nw_not (D := all S L) (x := x) hgd hu)
      generalize fsh (all S L) k = B at *
      obtain ⟨N, hN⟩ : ∃ N, nw (all S L) k = N := ⟨_, rfl⟩
      rw [hN] at HE1 HE2 HE3 hx1
      have HNN := hide hN
      obtain ⟨nt, nm⟩ := N
      subst hfr
      clear hs hgd hls hlt hkS hN
      go_wp2_with fail
      refine HR.out.mono ?_
      rintro e w2 ⟨g, rfl, hgs, hg2, hb2⟩
      have HB2 := hide (hb.out.trans (hb2.mono hb.out.size))
      have hby := Dk.byt_row hg2.out
      have HY2 := hide hby
      have HX2 := hide (hx0.out.below hb2)
      have HZ2 := hide (hx1.out.below hb2)
      obtain ⟨o, ho⟩ : ∃ o, unh k s = o := ⟨_, rfl⟩
      have HDC := hide (decodeHead_any k (some ⟨g, 0, none⟩) 64 s w2 Hls.out (Nat.le_refl _) hby (HT.out.below HB2.out Hpos.out) o ho)
      have HO := hide ho
      clear hgs hb2 hby HR hx0 hx1 hb ho
      go_wp2_with fail
      refine HDC.out.mono ?_
      rintro e w3 ⟨hres, hb3⟩
      have HB3 := hide (HB2.out.trans (hb3.mono HB2.out.size))
      have HY3 := hide ((HY2.out.below hb3).more hb3.size)
      have HX3 := hide (HX2.out.below hb3)
      have HZ3 := hide (HZ2.out.below hb3)
      clear hb3 HDC HB2 HY2 HX2 hg2 HZ2
      cases o with
      | none =>
        have hres' : e = .returned (.tuple #[hd2 hd0, .bool false]) := hres
        subst hres'
        have HFE := hide ((HE1.out HO.out).trans rfl)
        have hb4 := hx_below w3 0 0
        have HB4 := hide (HB3.out.trans (hb4.mono HB3.out.size))
        have HY4 := hide ((HY3.out.below hb4).more hb4.size)
        have HX4 := hide (HX3.out.below hb4)
        have HZ4 := hide (HZ3.out.below hb4)
        have hJ := Hx.new w3 0 0
        obtain ⟨J, hJJ⟩ : ∃ J, J = w3.heap.size := ⟨_, rfl⟩
        have hJn : J ≠ w.heap.size + 1 := by have := HZ3.out.lt; omega
        clear hres hb4 HB3 HY3 HX3 HZ3 HE1 HE2 HE3
        cases B with
        | false =>
          skip
          skip
          have HZ5 := HZ4
          have HX5 := HX4
          have HB5 := HB4
          have HY5 := HY4
          clear HZ4 HX4 HB4 HY4
          go_wp2
          go_roundw
          case rel => exact ⟨k + 1, by have := Hlt.out; omega, by go_num, by rw [HF1.out]; rfl, HX5.out, by rw [HFE.out]; exact HZ5.out, HB5.out⟩
          case measure => have := Hlt.out; simp [intOf]; omega
        | true =>
          skip
          skip
          have HZ5 := HZ4
          have HX5 := HX4
          have HB5 := HB4
          have HY5 := HY4
          clear HZ4 HX4 HB4 HY4
          have HQ := fun W => hide (blank_any (some ⟨g, 0, none⟩) s 64 64 W Hls.out)
          go_wp2_with fail
          refine ((HQ _).out HY5.out _ (str_same s zer)).mono ?_
          rintro r w6 ⟨rfl, hb6⟩
          have HB6 := hide (HB5.out.trans (hb6.mono HB5.out.size))
          have HX6 := hide (HX5.out.below hb6)
          have HZ6 := hide (HZ5.out.below hb6)
          clear hb6 HB5 HX5 HZ5 HY5 HQ
          go_wp2
          go_roundw
          case rel => exact ⟨k + 1, by have := Hlt.out; omega, by go_num, by rw [HF1.out]; rfl, HX6.out, by rw [HFE.out]; exact HZ6.out, HB6.out⟩
          case measure => have := Hlt.out; simp [intOf]; omega
      | some x =>
        obtain ⟨xt, xm⟩ := x
        by_cases hl : nt < xt
        · have hli : (nt : Int) < xt := by omega
          have HFE0 := hide (HE2.out _ HO.out hl)
          clear hl
          have hres' : e = .returned (.tuple #[hd2 ⟨xt, xm⟩, .bool true]) := hres
          subst hres'
          have HFE := hide (HFE0.out)
          have hb4 := hx_below w3 xt xm
          have HB4 := hide (HB3.out.trans (hb4.mono HB3.out.size))
          have HY4 := hide ((HY3.out.below hb4).more hb4.size)
          have HX4 := hide (HX3.out.below hb4)
          have HZ4 := hide (HZ3.out.below hb4)
          have hJ := Hx.new w3 xt xm
          obtain ⟨J, hJJ⟩ : ∃ J, J = w3.heap.size := ⟨_, rfl⟩
          have hJn : J ≠ w.heap.size + 1 := by have := HZ3.out.lt; omega
          clear hres hb4 HB3 HY3 HX3 HZ3 HE1 HE2 HE3
          cases B with
          | false =>
            have hj0 := hJ.c0
            have hj1 := hJ.c1
            have hn0 := HZ4.out.c0
            have hn1 := HZ4.out.c1
            have hf0 := HZ4.out.free 0
            have hf1 := HZ4.out.free 1
            have HZ5 := hide (HZ4.out.put xt xm)
            have HX5 := hide (hx_other (hx_other HX4.out (i := 0) (v := .int .i64 (xt : Int)) (j := w.heap.size + 1) (by omega)) (i := 1) (v := .int .i64 (xm : Int)) (j := w.heap.size + 1) (by omega))
            have HB5 := hide (below_puthx HB4.out (G := w.heap.size + 1) (by omega) xt xm)
            have HY5 := hide (byt_puthx HY4.out HZ4.out xt xm Hls.out)
            clear HZ4 HX4 HB4 HY4
            go_wp2
            go_roundw
            case rel => exact ⟨k + 1, by have := Hlt.out; omega, by go_num, by rw [HF1.out]; rfl, HX5.out, by rw [HFE.out]; exact HZ5.out, HB5.out⟩
            case measure => have := Hlt.out; simp [intOf]; omega
          | true =>
            have hj0 := hJ.c0
            have hj1 := hJ.c1
            have hn0 := HZ4.out.c0
            have hn1 := HZ4.out.c1
            have hf0 := HZ4.out.free 0
            have hf1 := HZ4.out.free 1
            have HZ5 := hide (HZ4.out.put xt xm)
            have HX5 := hide (hx_other (hx_other HX4.out (i := 0) (v := .int .i64 (xt : Int)) (j := w.heap.size + 1) (by omega)) (i := 1) (v := .int .i64 (xm : Int)) (j := w.heap.size + 1) (by omega))
            have HB5 := hide (below_puthx HB4.out (G := w.heap.size + 1) (by omega) xt xm)
            have HY5 := hide (byt_puthx HY4.out HZ4.out xt xm Hls.out)
            clear HZ4 HX4 HB4 HY4
            have HQ := fun W => hide (blank_any (some ⟨g, 0, none⟩) s 64 64 W Hls.out)
            go_wp2_with fail
            refine ((HQ _).out HY5.out _ (str_same s zer)).mono ?_
            rintro r w6 ⟨rfl, hb6⟩
            have HB6 := hide (HB5.out.trans (hb6.mono HB5.out.size))
            have HX6 := hide (HX5.out.below hb6)
            have HZ6 := hide (HZ5.out.below hb6)
            clear hb6 HB5 HX5 HZ5 HY5 HQ
            go_wp2
            go_roundw
            case rel => exact ⟨k + 1, by have := Hlt.out; omega, by go_num, by rw [HF1.out]; rfl, HX6.out, by rw [HFE.out]; exact HZ6.out, HB6.out⟩
            case measure => have := Hlt.out; simp [intOf]; omega
        · have hli : ¬ (nt : Int) < xt := by omega
          have HFE0 := hide (HE3.out _ HO.out hl)
          clear hl
          have hres' : e = .returned (.tuple #[hd2 ⟨xt, xm⟩, .bool true]) := hres
          subst hres'
          have HFE := hide (HFE0.out)
          have hb4 := hx_below w3 xt xm
          have HB4 := hide (HB3.out.trans (hb4.mono HB3.out.size))
          have HY4 := hide ((HY3.out.below hb4).more hb4.size)
          have HX4 := hide (HX3.out.below hb4)
          have HZ4 := hide (HZ3.out.below hb4)
          have hJ := Hx.new w3 xt xm
          obtain ⟨J, hJJ⟩ : ∃ J, J = w3.heap.size := ⟨_, rfl⟩
          have hJn : J ≠ w.heap.size + 1 := by have := HZ3.out.lt; omega
          clear hres hb4 HB3 HY3 HX3 HZ3 HE1 HE2 HE3
          cases B with
          | false =>
            have hj0 := hJ.c0
            have hn0 := HZ4.out.c0
            have HZ5 := HZ4
            have HX5 := HX4
            have HB5 := HB4
            have HY5 := HY4
            clear HZ4 HX4 HB4 HY4
            go_wp2
            go_roundw
            case rel => exact ⟨k + 1, by have := Hlt.out; omega, by go_num, by rw [HF1.out]; rfl, HX5.out, by rw [HFE.out]; exact HZ5.out, HB5.out⟩
            case measure => have := Hlt.out; simp [intOf]; omega
          | true =>
            have hj0 := hJ.c0
            have hn0 := HZ4.out.c0
            have HZ5 := HZ4
            have HX5 := HX4
            have HB5 := HB4
            have HY5 := HY4
            clear HZ4 HX4 HB4 HY4
            have HQ := fun W => hide (blank_any (some ⟨g, 0, none⟩) s 64 64 W Hls.out)
            go_wp2_with fail
            refine ((HQ _).out HY5.out _ (str_same s zer)).mono ?_
            rintro r w6 ⟨rfl, hb6⟩
            have HB6 := hide (HB5.out.trans (hb6.mono HB5.out.size))
            have HX6 := hide (HX5.out.below hb6)
            have HZ6 := hide (HZ5.out.below hb6)
            clear hb6 HB5 HX5 HZ5 HY5 HQ
            go_wp2
            go_roundw
            case rel => exact ⟨k + 1, by have := Hlt.out; omega, by go_num, by rw [HF1.out]; rfl, HX6.out, by rw [HFE.out]; exact HZ6.out, HB6.out⟩
            case measure => have := Hlt.out; simp [intOf]; omega
    · obtain rfl : k = 2 := by omega
      have hz0 := hx0.out.c0
      have hz1 := hx0.out.c1
      have hy0 := hx0.out.free 0
      have hy1 := hx0.out.free 1
      have hn0 := hx1.out.c0
      have hn1 := hx1.out.c1
      have hcur : cur (all S L) = if 0 < (nw (all S L) 2).t ∨ fsh (all S L) 2 = true then some (nw (all S L) 2) else none := rfl
      have Hcur := hide hcur
      generalize fsh (all S L) 2 = B at *
      subst hfr
      obtain ⟨N, hN⟩ : ∃ N, nw (all S L) 2 = N := ⟨_, rfl⟩
      rw [hN] at Hcur hn0 hn1
      obtain ⟨nt, nm⟩ := N
      have HX := hide (hx0.out.put nt nm)
      have HY := hide (below_puthx hb.out (Nat.le_refl _) nt nm)
      clear hcur hx0 hx1 hb hge hk2 hN
      by_cases hp : 0 < nt
      · have hpi : (0 : Int) < nt := by omega
        have Hp := hide hp
        clear hp
        go_wp2
        refine bodyPost_ret (results_ct rfl _ _ w.heap.size 73 _ (0, 0) _ rfl (show _ from HX.out) Tryz.underlying73 rfl hx_size) rfl ?_
        refine ⟨?_, HY.out⟩
        rw [Hcur.out, if_pos (Or.inl Hp.out)]
        exact rfl
      · obtain rfl : nt = 0 := by omega
        clear hp
        cases B with
        | true =>
          go_wp2
          refine bodyPost_ret (results_ct rfl _ _ w.heap.size 73 _ (0, 0) _ rfl (show _ from HX.out) Tryz.underlying73 rfl hx_size) rfl ?_
          refine ⟨?_, HY.out⟩
          rw [Hcur.out, if_pos (Or.inr (by simp))]
          exact rfl
        | false =>
          go_wp2
          refine bodyPost_ret (results_ct rfl _ _ w.heap.size 73 _ (0, 0) _ rfl (show _ from HX.out) Tryz.underlying73 rfl hx_size) rfl ?_
          refine ⟨?_, HY.out⟩
          rw [Hcur.out, if_neg (by simp)]
          exact ⟨⟨0, nm⟩, rfl⟩

end Go.Proofs.YtnmpckhlpkmojaaGreatDoor.Im
