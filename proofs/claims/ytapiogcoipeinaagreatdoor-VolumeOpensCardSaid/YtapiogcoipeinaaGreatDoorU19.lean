/-
  The contract of the volume's decode: the home that a sector contains, and true; or none, and false. Nothing that was there is changed. Condition: the table of half bytes holds what the program's own text lays.
-/
import Derived.Test.YtapiogcoipeinaaGreatDoorU16
import Derived.Test.YtapiogcoipeinaaGreatDoorU18
import Derived.Test.YtapiogcoipeinaaGreatDoorU9
import Derived.Deep.AppendLies
import Derived.Laws.StructEq
namespace Go.Proofs.YtapiogcoipeinaaGreatDoor.Jn
open Go.RowKit
open Pk Sm Fa Rc Dk
abbrev hcs (t f g l : Nat) : Array Value := #[.int .i64 (t : Int), .int .i64 (f : Int), .int .i64 (g : Int), .int .i64 (l : Int)]
abbrev hd4 (h : Hd) : Value := .agg (hcs h.t h.f h.g h.l)
def Hx (w : World) (G t f g l : Nat) : Prop := w.heap[G]? = some (.cells (hcs t f g l) 121 (0, 0))
section
variable {w w' : World} {G R e t f g l : Nat} {L : List UInt8}
theorem Hx.new (w : World) (t f g l : Nat) : Hx (w.alloc (.cells (hcs t f g l) 121)) w.heap.size t f g l := heap_alloc_new w _
theorem hx_below (w : World) (t f g l : Nat) : Below w.heap.size w (w.alloc (.cells (hcs t f g l) 121)) := (Below.refl _ _).alloc (Nat.le_refl _) _
theorem Hx.lt (h : Hx w G t f g l) : G < w.heap.size := (Array.getElem?_eq_some_iff.1 h).1
theorem Hx.below (h : Hx w G t f g l) (hb : Below w.heap.size w w') : Hx w' G t f g l := (hb.block G h.lt).trans h
theorem Hx.c0 (h : Hx w G t f g l) : w.cell? ⟨G, 0, none⟩ = some (.int .i64 (t : Int)) := by simp [World.cell?, show w.heap[G]? = _ from h]
theorem Hx.c1 (h : Hx w G t f g l) : w.cell? ⟨G, 1, none⟩ = some (.int .i64 (f : Int)) := by simp [World.cell?, show w.heap[G]? = _ from h]
theorem Hx.c2 (h : Hx w G t f g l) : w.cell? ⟨G, 2, none⟩ = some (.int .i64 (g : Int)) := by simp [World.cell?, show w.heap[G]? = _ from h]
theorem Hx.c3 (h : Hx w G t f g l) : w.cell? ⟨G, 3, none⟩ = some (.int .i64 (l : Int)) := by simp [World.cell?, show w.heap[G]? = _ from h]
theorem Hx.free (h : Hx w G t f g l) (i : Nat) : w.frozen? ⟨G, i, none⟩ = false := blk_free h i
theorem Hx.only (h : Hx w G t f g l) (hg : w.grownBy w' (some R)) (hne : G ≠ R) : Hx w' G t f g l := by
 obtain ⟨_, _, _, _, hk⟩ := hg
 exact (hk G h.lt (by simp; exact hne)).trans h
theorem Hx.set0 (h : Hx w G t f g l) (x : Nat) : Hx (w.setCell ⟨G, 0, none⟩ (.int .i64 (x : Int))) G x f g l := heap_setCell_same w G 0 _ _ (.int .i64 (x : Int)) h
theorem Hx.set1 (h : Hx w G t f g l) (x : Nat) : Hx (w.setCell ⟨G, 1, none⟩ (.int .i64 (x : Int))) G t x g l := heap_setCell_same w G 1 _ _ (.int .i64 (x : Int)) h
theorem Hx.set2 (h : Hx w G t f g l) (x : Nat) : Hx (w.setCell ⟨G, 2, none⟩ (.int .i64 (x : Int))) G t f x l := heap_setCell_same w G 2 _ _ (.int .i64 (x : Int)) h
theorem Hx.set3 (h : Hx w G t f g l) (x : Nat) : Hx (w.setCell ⟨G, 3, none⟩ (.int .i64 (x : Int))) G t f g x := heap_setCell_same w G 3 _ _ (.int .i64 (x : Int)) h
abbrev put4 (w : World) (G t f g l : Nat) : World :=
 (((w.setCell ⟨G, 0, none⟩ (.int .i64 (t : Int))).setCell ⟨G, 1, none⟩ (.int .i64 (f : Int))).setCell ⟨G, 2, none⟩ (.int .i64 (g : Int))).setCell ⟨G, 3, none⟩ (.int .i64 (l : Int))
theorem Hx.put (h : Hx w G t f g l) (t' f' g' l' : Nat) : Hx (put4 w G t' f' g' l') G t' f' g' l' := (((h.set0 t').set1 f').set2 g').set3 l'
theorem below_put4 {w0 w : World} {B G : Nat} (h : Below B w0 w) (hG : B ≤ G) (t f g l : Nat) : Below B w0 (put4 w G t f g l) :=
 (((h.setCell (p := ⟨G, 0, none⟩) hG _).setCell (p := ⟨G, 1, none⟩) hG _).setCell (p := ⟨G, 2, none⟩) hG _).setCell (p := ⟨G, 3, none⟩) hG _
theorem rd_keep {i : Nat} (hr : Rd w R L e) (h : Hx w G t f g l) (hne : G ≠ R) (v : Value) : Rd (w.setCell ⟨G, i, none⟩ v) R L e := by
 obtain ⟨A, c, h1, h2, h3, h4⟩ := hr
 refine ⟨A, c, (heap_setCell_other _ ⟨G, i, none⟩ R _ (fun e => hne e.symm)).trans h1, h2, h3, fun hn => ?_⟩
 obtain ⟨p, o, rfl, hp, hc⟩ := h4 hn
 refine ⟨p, o, rfl, hp, fun j u hu => ?_⟩
 have hcj := hc j u hu
 have hpG : p ≠ G := by
  rintro rfl
  simp only [World.cell?, show w.heap[p]? = _ from h] at hcj
  match hoj : o + j, hcj with
  | 0, hcj => simp [cel] at hcj
  | 1, hcj => simp [cel] at hcj
  | 2, hcj => simp [cel] at hcj
  | 3, hcj => simp [cel] at hcj
  | q + 4, hcj => simp at hcj
 rw [← hcj]
 have := heap_setCell_other w ⟨G, i, none⟩ p v hpG
 simp only [World.cell?, this]
end
theorem head_size : (Tryz.prog.info? 121).map (·.size) = some 4 := by kernel_rfl
theorem enc_three (t f g : Int) : ([] ++ enc (clamp t) ++ enc (clamp f) ++ enc (clamp g)).length ≤ 27 := by
 have h1 := enc_le (clamp t)
 have h2 := enc_le (clamp f)
 have h3 := enc_le (clamp g)
 simp only [List.length_append, List.length_nil]
 omega
set_option maxRecDepth 100000 in
set_option maxHeartbeats 1000000 in
theorem encode_any (h : Hd) (w : World) (ht : Tab w) :
 Calls Tryz.prog 89 #[hd4 h] w fun e w' => ∃ p o c, e = .returned (.slice (some ⟨p, o, none⟩) 64 c) ∧ 64 ≤ c ∧ c ≤ 9223372036854775807 ∧
  Byt w' w'.heap.size (some ⟨p, o, none⟩) (hsec h) ∧ Below w.heap.size w w' := by
 obtain ⟨t, f, g, l⟩ := h
 have hbx := Hx.new w t f g l
 have HB := hide (hx_below w t f g l)
 have hL3 := enc_three t f g
 have hL4 := hbod_le ⟨t, f, g, l⟩
 simp only [List.length_append] at hL3
 have HL := hide hL3
 have HL4 := hide hL4
 have Ht := hide ht
 have hpos := ht.pos
 clear hL3 hL4 ht
 go_enter Tryz.func89, Tryz.ntmps89
 go_wp2_with fail
 generalize w.alloc _ = w0 at *
 have hc0 := hbx.c0
 go_wp2_with fail
 have HN := hide (Number_any none [] 0 (t : Int) w0 Byt.nil (by simp))
 refine HN.out.mono ?_
 rintro e w1 ⟨v1, rfl, ho1, hb1⟩
 have hbx1 := hbx.below hb1
 have hc1 := hbx1.c1
 have HB1 := hide (HB.out.trans (hb1.mono HB.out.size))
 clear hbx HN hb1 HB hc0
 go_wp2_with fail
 refine (Number_own v1 _ _ (f : Int) w1 ho1 (by have := HL.out; simp only [List.length_append]; omega)).mono ?_
 rintro e w2 ⟨v2, rfl, ho2, hb2⟩
 have hbx2 := hbx1.below hb2
 have hc2 := hbx2.c2
 have HB2 := hide (HB1.out.trans (hb2.mono HB1.out.size))
 clear hbx1 hc1 hb2 ho1 HB1
 go_wp2_with fail
 refine (Number_own v2 _ _ (g : Int) w2 ho2 (by have := HL.out; simp only [List.length_append]; omega)).mono ?_
 rintro e w3 ⟨v3, rfl, ho3, hb3⟩
 have hbx3 := hbx2.below hb3
 have hc3 := hbx3.c3
 have HB3 := hide (HB2.out.trans (hb3.mono HB2.out.size))
 clear hbx2 hc2 hb3 ho2 HB2
 go_wp2_with fail
 refine (Number_own v3 _ _ (l : Int) w3 ho3 (by have := HL.out; simp only [List.length_append]; omega)).mono ?_
 rintro e w4 ⟨v4, rfl, ho4, hb4⟩
 have HB4 := hide (HB3.out.trans (hb4.mono HB3.out.size))
 have he : ([] ++ enc (clamp (t : Int)) ++ enc (clamp (f : Int)) ++ enc (clamp (g : Int)) ++ enc (clamp (l : Int))) = hbod ⟨t, f, g, l⟩ := by simp [hbod]
 rw [he] at ho4
 obtain ⟨A, c, rfl, hk1, hk2, hby⟩ := ho4.form
 have HS := hide (Sector_told A _ _ c w4 rfl (by have := HL4.out; omega) hby (Ht.out.below HB4.out hpos))
 clear hbx3 hc3 hb4 ho3 ho4 HB3 he hk1 hk2 hby
 go_wp2_with fail
 refine HS.out.mono ?_
 rintro r w5 ⟨p, o, c', rfl, hc1, hc2, _, hby5, hb5⟩
 have HB5 := hide (HB4.out.trans (hb5.mono HB4.out.size))
 have HY := hide hby5
 clear HS hby5 hb5
 go_wp2
 go_ret
 exact ⟨p, o, c', rfl, hc1, hc2, HY.out, HB5.out⟩
set_option maxRecDepth 100000 in
set_option maxHeartbeats 1000000 in
theorem read_any (A : Option Addr) (L : List UInt8) (n c : Nat) (w : World) (hn : L.length = n) (hb : Byt w w.heap.size A L) (hl : n ≤ c) (hc : c ≤ maxLen) (h : Hd) (hh : hgot L = h) :
 Calls Tryz.prog 108 #[.slice A n c] w fun e w' => e = .returned (hd4 h) ∧ Below w.heap.size w w' := by
 obtain ⟨t, L1, e1, h1⟩ : ∃ g l1 e1, rnum L 0 = (g, l1, e1) := ⟨_, _, _, rfl⟩
 obtain ⟨f, L2, e2, h2⟩ : ∃ s l2 e2, rnum L1 e1 = (s, l2, e2) := ⟨_, _, _, rfl⟩
 obtain ⟨g, L3, e3, h3⟩ : ∃ k l3 e3, rnum L2 e2 = (k, l3, e3) := ⟨_, _, _, rfl⟩
 obtain ⟨l, L4, e4, h4⟩ : ∃ m l4 e4, rnum L3 e3 = (m, l4, e4) := ⟨_, _, _, rfl⟩
 obtain rfl : (⟨t, f, g, l⟩ : Hd) = h := by rw [← hh]; exact (hgot_step h1 h2 h3 h4).symm
 clear hh
 have hbx := Hx.new w 0 0 0 0
 have hb0 := hx_below w 0 0 0 0
 have H1 := hide h1
 have H2 := hide h2
 have H3 := hide h3
 have H4 := hide h4
 clear h1 h2 h3 h4
 have hby0 := (hb.below hb0).more hb0.size
 have HB0 := hide hb0
 have Hn := hide hn
 clear hb0 hn
 go_enter Tryz.func108, Tryz.ntmps108
 go_wp2_with fail
 generalize w.alloc _ = w0 at *
 have hG0 := hbx.lt
 refine (Read_told A L n c w0 Hn.out hby0 hl hc).mono ?_
 rintro r w1 ⟨rfl, hr1, hb1⟩
 obtain ⟨R, hR⟩ : ∃ R, R = w0.heap.size := ⟨_, rfl⟩
 rw [← hR] at hr1 hb1 hG0
 have hRR := hide hR
 have hne : w.heap.size ≠ R := by omega
 have hbx1 : Hx w1 w.heap.size 0 0 0 0 := hbx.below (by rw [← hR]; exact hb1)
 have HB1 := hide (HB0.out.trans (hb1.mono (by rw [hR]; exact HB0.out.size)))
 have hRlt : w.heap.size ≤ R := by omega
 rw [← hR]
 clear hbx hb1 HB0 hby0 hb Hn hR hRR
 go_wp2_with fail
 refine (Number_at' R 0 L w1 hr1 t L1 e1 H1.out).mono ?_
 rintro r w2 ⟨rfl, hr2, hg2⟩
 have hbx2 := hbx1.only hg2 hne
 have HB2 := hide (HB1.out.trans (below_of_only hg2 hRlt hr1.lt))
 have hc0 := hbx2.c0
 have hf0 := hbx2.free 0
 have hr2' := rd_keep (i := 0) hr2 hbx2 hne (.int .i64 (t : Int))
 have hbx2' := hbx2.set0 t
 have HB2' := hide (HB2.out.setCell (p := ⟨w.heap.size, 0, none⟩) (Nat.le_refl _) (.int .i64 (t : Int)))
 clear hbx1 hg2 hr1 HB1 hr2 HB2 hbx2
 go_wp2_with fail
 generalize w2.setCell _ _ = w2' at *
 refine (Number_at' R e1 L1 w2' hr2' f L2 e2 H2.out).mono ?_
 rintro r w3 ⟨rfl, hr3, hg3⟩
 have hbx3 := hbx2'.only hg3 hne
 have HB3 := hide (HB2'.out.trans (below_of_only hg3 hRlt hr2'.lt))
 have hc1 := hbx3.c1
 have hf1 := hbx3.free 1
 have hr3' := rd_keep (i := 1) hr3 hbx3 hne (.int .i64 (f : Int))
 have hbx3' := hbx3.set1 f
 have HB3' := hide (HB3.out.setCell (p := ⟨w.heap.size, 1, none⟩) (Nat.le_refl _) (.int .i64 (f : Int)))
 clear hbx2' hg3 hr2' HB2' hr3 HB3 hbx3 hc0 hf0
 go_wp2_with fail
 generalize w3.setCell _ _ = w3' at *
 refine (Number_at' R e2 L2 w3' hr3' g L3 e3 H3.out).mono ?_
 rintro r w4 ⟨rfl, hr4, hg4⟩
 have hbx4 := hbx3'.only hg4 hne
 have HB4 := hide (HB3'.out.trans (below_of_only hg4 hRlt hr3'.lt))
 have hc2 := hbx4.c2
 have hf2 := hbx4.free 2
 have hr4' := rd_keep (i := 2) hr4 hbx4 hne (.int .i64 (g : Int))
 have hbx4' := hbx4.set2 g
 have HB4' := hide (HB4.out.setCell (p := ⟨w.heap.size, 2, none⟩) (Nat.le_refl _) (.int .i64 (g : Int)))
 clear hbx3' hg4 hr3' HB3' hr4 HB4 hbx4 hc1 hf1
 go_wp2_with fail
 generalize w4.setCell _ _ = w4' at *
 refine (Number_at' R e3 L3 w4' hr4' l L4 e4 H4.out).mono ?_
 rintro r w5 ⟨rfl, hr5, hg5⟩
 have hbx5 := hbx4'.only hg5 hne
 have HB5 := hide (HB4'.out.trans (below_of_only hg5 hRlt hr4'.lt))
 have hz0 := hbx5.c0
 have hz1 := hbx5.c1
 have hz2 := hbx5.c2
 have hz3 := hbx5.c3
 have hy0 := hbx5.free 0
 have hy1 := hbx5.free 1
 have hy2 := hbx5.free 2
 have hy3 := hbx5.free 3
 have HX := hide ((hbx5.set3 l).put t f g l)
 have HY := hide (below_put4 (HB5.out.setCell (p := ⟨w.heap.size, 3, none⟩) (Nat.le_refl _) (.int .i64 (l : Int))) (Nat.le_refl _) t f g l)
 clear hbx4' hg5 hr4' HB4' hr5 HB5 hbx5 hc2 hf2
 go_wp2
 refine bodyPost_ret (v := .agg (hcs t f g l)) (results_cell_row rfl _ _ w.heap.size 121 _ (0, 0) _ rfl (show _ from HX.out) Tryz.underlying121 rfl head_size) rfl ?_
 exact ⟨rfl, HY.out⟩
theorem zero_bytes : (madeCells #[.int .u8 0] 64).toList = cels zer := by kernel_rfl
set_option maxRecDepth 100000 in
set_option maxHeartbeats 1000000 in
theorem blank_any (A : Option Addr) (L : List UInt8) (n c : Nat) (w : World) (hn : L.length = n) (hb : Byt w w.heap.size A L) (v : Bool) (hv : ((str L).toList == (str zer).toList) = v) :
 Calls Tryz.prog 84 #[.slice A n c] w fun e w' => e = .returned (.bool v) ∧ Below w.heap.size w w' := by
 obtain ⟨i0, hi0, hz0, hz1, hz2⟩ := info_parts u8_info
 have Hz := hide hz1
 have Hz2 := hide hz2
 have Hn := hide hn
 have Hb := hide hb
 have Hv := hide hv
 clear hz1 hz2 hn hb hv
 go_enter Tryz.func84, Tryz.ntmps84
 go_wp2_with (with_reducible refine wpList_make_told rfl 70 _ _ rfl 5 i0 _ Tryz.underlying70 hi0 hz0 .i64 .i64 64 64 rfl rfl (by omega) (by rw [Hz2.out]; decide) (by omega) 1 Hz.out ?_)
 intro w1 Hw1
 have HB1 : Hid (Below w.heap.size w w1) := by rw [Hw1.out]; exact (Below.refl _ _).alloc (Nat.le_refl _) _
 have hg1 : w1.heap[w.heap.size]? = some (.cells (cels zer).toArray 5 (0, 0)) := by
  rw [Hw1.out]
  refine (heap_alloc_new w _).trans ?_
  rw [← zero_bytes, Array.toArray_toList]
 have HQ := hide (Equal_any A (some ⟨w.heap.size, 0, none⟩) n c 64 64 _ _ L zer w1 Hn.out (by rfl) (Hb.out.below HB1.out) (Sm.byt_row hg1) v Hv.out)
 clear hg1 Hw1
 go_wp2_with fail
 refine HQ.out.mono ?_
 rintro r w' ⟨rfl, rfl⟩
 clear HQ
 go_wp2
 go_ret
 exact ⟨rfl, HB1.out⟩
end Go.Proofs.YtapiogcoipeinaaGreatDoor.Jn
namespace Go.Proofs.YtapiogcoipeinaaGreatDoor.Jn
open Go.RowKit
open Pk Sm Fa Rc Dk
theorem results_ct {P : Program} {fn : Func} {p u : Tmp} {ty : TypeId} (h : fn.results = #[.cell p ty, .tmp u]) (tmps : Array Value) (w : World) (g : Nat) (T : TypeId) (cs : Array Value) (fr : Nat × Nat) (d : TypeDesc)
 (hp : tmps.getD p undef = .pointer (some ⟨g, 0, none⟩)) (hg : w.heap[g]? = some (.cells cs T fr))
 (hu : P.underlying ty = some d) (hd : (match d with | .struct _ | .array _ _ => true | _ => false) = true) (hi : (P.info? ty).map (·.size) = some cs.size) :
 (results fn tmps).run P w = .ok (.tuple #[.agg cs, tmps.getD u undef]) w := by
 have hp' : tmps[p]?.getD undef = .pointer (some ⟨g, 0, none⟩) := by simpa using hp
 simp [results, h, hp', asAddr, run_loadVar_row w g T ty cs fr d hg hu hd hi]
def NoHead (e : Ending) : Prop := e = .returned (.tuple #[hd4 ⟨0, 0, 0, 0⟩, .bool false])
theorem rem2 (t : Nat) (h : t ≤ 9223372036854775807) : (t : Int).tmod 2 = ((t % 2 : Nat) : Int) := by
 rw [Int.tmod_eq_emod_of_nonneg (by omega)]
 rfl
set_option maxRecDepth 100000 in
set_option maxHeartbeats 1000000 in
theorem decode_open (i : Nat) (A : Option Addr) (c : Nat) (L : List UInt8) (w : World) (hn : L.length = 64) (hc : 64 ≤ c) (hb : Byt w w.heap.size A L) (ht : Tab w) (hno : ∀ m, L ≠ seal4 m) :
 Calls Tryz.prog 83 #[.int .i64 (i : Int), .slice A 64 c] w fun e w' => NoHead e ∧ Below w.heap.size w w' := by
 have hbx := Hx.new w 0 0 0 0
 have HB := hide (hx_below w 0 0 0 0)
 have hpos := ht.pos
 have hby0 := (hb.below HB.out).more HB.out.size
 have ht0 := ht.below HB.out hpos
 have Hn := hide hn
 have Hno := hide hno
 clear hn hb ht hno
 go_enter Tryz.func83, Tryz.ntmps83
 go_wp2_with fail
 generalize w.alloc _ = w0 at *
 refine (Open_bad A 64 c L w0 Hn.out hc (by omega) hby0 ht0 Hno.out).mono ?_
 rintro r w1 ⟨rfl, hb1⟩
 have hbx1 := hbx.below hb1
 have HB1 := hide (HB.out.trans (hb1.mono HB.out.size))
 have hz0 := hbx1.c0
 have hz1 := hbx1.c1
 have hz2 := hbx1.c2
 have hz3 := hbx1.c3
 have hy0 := hbx1.free 0
 have hy1 := hbx1.free 1
 have hy2 := hbx1.free 2
 have hy3 := hbx1.free 3
 have HX := hide (hbx1.put 0 0 0 0)
 have HY := hide (below_put4 HB1.out (Nat.le_refl _) 0 0 0 0)
 clear hbx hb1 hby0 ht0 HB hbx1 HB1
 go_wp2
 refine bodyPost_ret (results_ct rfl _ _ w.heap.size 121 _ (0, 0) _ rfl (show _ from HX.out) Tryz.underlying121 rfl head_size) rfl ?_
 exact ⟨rfl, HY.out⟩
section
variable (i : Nat) (A : Option Addr) (c : Nat) (M : List UInt8) (w : World) (hm : M.length = 60) (hc : 64 ≤ c) (hb : Byt w w.heap.size A (seal4 M)) (ht : Tab w) (t f g l : Nat) (hgot : hgot M = ⟨t, f, g, l⟩)
include hm hc hb ht hgot
set_option maxRecDepth 100000 in
set_option maxHeartbeats 2000000 in
theorem decode_first (hf : f < 1) :
 Calls Tryz.prog 83 #[.int .i64 (i : Int), .slice A 64 c] w fun e w' => NoHead e ∧ Below w.heap.size w w' := by
 obtain ⟨q, hq⟩ : ∃ q, t % 2 = q := ⟨_, rfl⟩
 have hrem := rem2 t
 have h1 : (f : Int) < 1 := by omega
 clear hrem hq hf
 have hbx := Hx.new w 0 0 0 0
 have HB := hide (hx_below w 0 0 0 0)
 have hpos := ht.pos
 have hby0 := (hb.below HB.out).more HB.out.size
 have ht0 := ht.below HB.out hpos
 have Hm := hide hm
 have Hgot := hide hgot
 have Ht := hide ht
 clear ht hm hgot
 go_enter Tryz.func83, Tryz.ntmps83
 go_wp2_with fail
 generalize w.alloc _ = w0 at *
 refine (Open_good A 64 c 60 M w0 Hm.out rfl hc (by omega) hby0 ht0).mono ?_
 rintro r w1 ⟨b1, o1, rfl, hby1, hb1⟩
 have hbx1 := hbx.below hb1
 have HB1 := hide (HB.out.trans (hb1.mono HB.out.size))
 have hbyB1 := (hby0.below hb1).more hb1.size
 clear hbx hb1 hby0 ht0 HB hb
 go_wp2_with fail
 refine (read_any (some ⟨b1, o1, none⟩) M 60 60 w1 Hm.out hby1 (Nat.le_refl _) (by unfold maxLen; omega) _ Hgot.out).mono ?_
 rintro r w2 ⟨rfl, hb2⟩
 have hbx2 := hbx1.below hb2
 have HB2 := hide (HB1.out.trans (hb2.mono HB1.out.size))
 have hbyB2 := (hbyB1.below hb2).more hb2.size
 clear hbx1 hb2 hby1 hbyB1 HB1
 have hbl := hx_below w2 t f g l
 have hbr := Hx.new w2 t f g l
 have hbx3 := hbx2.below hbl
 have HB3 := hide (HB2.out.trans (hbl.mono HB2.out.size))
 have hbyB3 := (hbyB2.below hbl).more hbl.size
 clear hbl hbx2 hbyB2 HB2
 have hz0 := hbx3.c0
 have hy0 := hbx3.free 0
 have hz1 := hbx3.c1
 have hy1 := hbx3.free 1
 have hz2 := hbx3.c2
 have hy2 := hbx3.free 2
 have hz3 := hbx3.c3
 have hy3 := hbx3.free 3
 have HX := hide (hbx3.put 0 0 0 0)
 have HY := hide (below_put4 HB3.out (Nat.le_refl _) 0 0 0 0)
 clear hbx3 HB3 hbyB3 hbr
 go_wp2
 refine bodyPost_ret (results_ct rfl _ _ w.heap.size 121 _ (0, 0) _ rfl (show _ from HX.out) Tryz.underlying121 rfl head_size) rfl ?_
 exact ⟨rfl, HY.out⟩
set_option maxRecDepth 100000 in
set_option maxHeartbeats 2000000 in
theorem decode_low (hf : ¬ f < 1) (hl : g < l) :
 Calls Tryz.prog 83 #[.int .i64 (i : Int), .slice A 64 c] w fun e w' => NoHead e ∧ Below w.heap.size w w' := by
 obtain ⟨q, hq⟩ : ∃ q, t % 2 = q := ⟨_, rfl⟩
 have hrem := rem2 t
 have h1 : ¬ ((f : Int) < 1) := by omega
 have h2 : (g : Int) < (l : Int) := by omega
 clear hrem hq hf hl
 have hbx := Hx.new w 0 0 0 0
 have HB := hide (hx_below w 0 0 0 0)
 have hpos := ht.pos
 have hby0 := (hb.below HB.out).more HB.out.size
 have ht0 := ht.below HB.out hpos
 have Hm := hide hm
 have Hgot := hide hgot
 have Ht := hide ht
 clear ht hm hgot
 go_enter Tryz.func83, Tryz.ntmps83
 go_wp2_with fail
 generalize w.alloc _ = w0 at *
 refine (Open_good A 64 c 60 M w0 Hm.out rfl hc (by omega) hby0 ht0).mono ?_
 rintro r w1 ⟨b1, o1, rfl, hby1, hb1⟩
 have hbx1 := hbx.below hb1
 have HB1 := hide (HB.out.trans (hb1.mono HB.out.size))
 have hbyB1 := (hby0.below hb1).more hb1.size
 clear hbx hb1 hby0 ht0 HB hb
 go_wp2_with fail
 refine (read_any (some ⟨b1, o1, none⟩) M 60 60 w1 Hm.out hby1 (Nat.le_refl _) (by unfold maxLen; omega) _ Hgot.out).mono ?_
 rintro r w2 ⟨rfl, hb2⟩
 have hbx2 := hbx1.below hb2
 have HB2 := hide (HB1.out.trans (hb2.mono HB1.out.size))
 have hbyB2 := (hbyB1.below hb2).more hb2.size
 clear hbx1 hb2 hby1 hbyB1 HB1
 have hbl := hx_below w2 t f g l
 have hbr := Hx.new w2 t f g l
 have hbx3 := hbx2.below hbl
 have HB3 := hide (HB2.out.trans (hbl.mono HB2.out.size))
 have hbyB3 := (hbyB2.below hbl).more hbl.size
 clear hbl hbx2 hbyB2 HB2
 have hz0 := hbx3.c0
 have hy0 := hbx3.free 0
 have hz1 := hbx3.c1
 have hy1 := hbx3.free 1
 have hz2 := hbx3.c2
 have hy2 := hbx3.free 2
 have hz3 := hbx3.c3
 have hy3 := hbx3.free 3
 have HX := hide (hbx3.put 0 0 0 0)
 have HY := hide (below_put4 HB3.out (Nat.le_refl _) 0 0 0 0)
 clear hbx3 HB3 hbyB3 hbr
 go_wp2
 refine bodyPost_ret (results_ct rfl _ _ w.heap.size 121 _ (0, 0) _ rfl (show _ from HX.out) Tryz.underlying121 rfl head_size) rfl ?_
 exact ⟨rfl, HY.out⟩
set_option maxRecDepth 100000 in
set_option maxHeartbeats 2000000 in
theorem decode_turn (hf : ¬ f < 1) (hl : ¬ g < l) (hp : ¬ t % 2 = i) (hT : t ≤ 1152921504606846975) :
 Calls Tryz.prog 83 #[.int .i64 (i : Int), .slice A 64 c] w fun e w' => NoHead e ∧ Below w.heap.size w w' := by
 obtain ⟨q, hq⟩ : ∃ q, t % 2 = q := ⟨_, rfl⟩
 have hrem := rem2 t
 have h1 : ¬ ((f : Int) < 1) := by omega
 have h2 : ¬ ((g : Int) < (l : Int)) := by omega
 have h3 : (t : Int).tmod 2 = (q : Int) := by rw [hrem (by omega), hq]
 have h4 : ((q : Int) != (i : Int)) = true := by simp; omega
 clear hrem hq hf hl hp
 have hbx := Hx.new w 0 0 0 0
 have HB := hide (hx_below w 0 0 0 0)
 have hpos := ht.pos
 have hby0 := (hb.below HB.out).more HB.out.size
 have ht0 := ht.below HB.out hpos
 have Hm := hide hm
 have Hgot := hide hgot
 have Ht := hide ht
 clear ht hm hgot
 go_enter Tryz.func83, Tryz.ntmps83
 go_wp2_with fail
 generalize w.alloc _ = w0 at *
 refine (Open_good A 64 c 60 M w0 Hm.out rfl hc (by omega) hby0 ht0).mono ?_
 rintro r w1 ⟨b1, o1, rfl, hby1, hb1⟩
 have hbx1 := hbx.below hb1
 have HB1 := hide (HB.out.trans (hb1.mono HB.out.size))
 have hbyB1 := (hby0.below hb1).more hb1.size
 clear hbx hb1 hby0 ht0 HB hb
 go_wp2_with fail
 refine (read_any (some ⟨b1, o1, none⟩) M 60 60 w1 Hm.out hby1 (Nat.le_refl _) (by unfold maxLen; omega) _ Hgot.out).mono ?_
 rintro r w2 ⟨rfl, hb2⟩
 have hbx2 := hbx1.below hb2
 have HB2 := hide (HB1.out.trans (hb2.mono HB1.out.size))
 have hbyB2 := (hbyB1.below hb2).more hb2.size
 clear hbx1 hb2 hby1 hbyB1 HB1
 have hbl := hx_below w2 t f g l
 have hbr := Hx.new w2 t f g l
 have hbx3 := hbx2.below hbl
 have HB3 := hide (HB2.out.trans (hbl.mono HB2.out.size))
 have hbyB3 := (hbyB2.below hbl).more hbl.size
 clear hbl hbx2 hbyB2 HB2
 have hz0 := hbx3.c0
 have hy0 := hbx3.free 0
 have hz1 := hbx3.c1
 have hy1 := hbx3.free 1
 have hz2 := hbx3.c2
 have hy2 := hbx3.free 2
 have hz3 := hbx3.c3
 have hy3 := hbx3.free 3
 have HX := hide (hbx3.put 0 0 0 0)
 have HY := hide (below_put4 HB3.out (Nat.le_refl _) 0 0 0 0)
 clear hbx3 HB3 hbyB3 hbr
 go_wp2
 refine bodyPost_ret (results_ct rfl _ _ w.heap.size 121 _ (0, 0) _ rfl (show _ from HX.out) Tryz.underlying121 rfl head_size) rfl ?_
 exact ⟨rfl, HY.out⟩
set_option maxRecDepth 100000 in
set_option maxHeartbeats 2000000 in
theorem decode_unlike (hf : ¬ f < 1) (hl : ¬ g < l) (hp : t % 2 = i) (hT : t ≤ 1152921504606846975) (he : ((str (hsec ⟨t, f, g, l⟩)).toList == (str (seal4 M)).toList) = false) :
 Calls Tryz.prog 83 #[.int .i64 (i : Int), .slice A 64 c] w fun e w' => NoHead e ∧ Below w.heap.size w w' := by
 obtain ⟨q, hq⟩ : ∃ q, t % 2 = q := ⟨_, rfl⟩
 have hrem := rem2 t
 have h1 : ¬ ((f : Int) < 1) := by omega
 have h2 : ¬ ((g : Int) < (l : Int)) := by omega
 have h3 : (t : Int).tmod 2 = (i : Int) := by rw [hrem (by omega), hp]
 have HE := hide he
 clear hrem hq hf hl hp he
 have hbx := Hx.new w 0 0 0 0
 have HB := hide (hx_below w 0 0 0 0)
 have hpos := ht.pos
 have hby0 := (hb.below HB.out).more HB.out.size
 have ht0 := ht.below HB.out hpos
 have Hm := hide hm
 have Hgot := hide hgot
 have Ht := hide ht
 clear ht hm hgot
 go_enter Tryz.func83, Tryz.ntmps83
 go_wp2_with fail
 generalize w.alloc _ = w0 at *
 refine (Open_good A 64 c 60 M w0 Hm.out rfl hc (by omega) hby0 ht0).mono ?_
 rintro r w1 ⟨b1, o1, rfl, hby1, hb1⟩
 have hbx1 := hbx.below hb1
 have HB1 := hide (HB.out.trans (hb1.mono HB.out.size))
 have hbyB1 := (hby0.below hb1).more hb1.size
 clear hbx hb1 hby0 ht0 HB hb
 go_wp2_with fail
 refine (read_any (some ⟨b1, o1, none⟩) M 60 60 w1 Hm.out hby1 (Nat.le_refl _) (by unfold maxLen; omega) _ Hgot.out).mono ?_
 rintro r w2 ⟨rfl, hb2⟩
 have hbx2 := hbx1.below hb2
 have HB2 := hide (HB1.out.trans (hb2.mono HB1.out.size))
 have hbyB2 := (hbyB1.below hb2).more hb2.size
 clear hbx1 hb2 hby1 hbyB1 HB1
 have hbl := hx_below w2 t f g l
 have hbr := Hx.new w2 t f g l
 have hbx3 := hbx2.below hbl
 have HB3 := hide (HB2.out.trans (hbl.mono HB2.out.size))
 have hbyB3 := (hbyB2.below hbl).more hbl.size
 clear hbl hbx2 hbyB2 HB2
 go_wp2_with fail
 generalize w2.alloc _ = w3 at *
 refine (encode_any ⟨t, f, g, l⟩ w3 (Ht.out.below HB3.out hpos)).mono ?_
 rintro r w4 ⟨p4, o4, c4, rfl, _, _, hby4, hb4⟩
 have hbx4 := hbx3.below hb4
 have hbr4 := hbr.below hb4
 have HB4 := hide (HB3.out.trans (hb4.mono HB3.out.size))
 have hbyB4 := hbyB3.below hb4
 have HQ := hide (Equal_any (some ⟨p4, o4, none⟩) A 64 c4 64 c _ _ _ _ w4 (hsec_length _) (by rw [seal4_length, Hm.out]) hby4 hbyB4 _ HE.out)
 clear hbx3 hb4 hbyB3 HB3 hbr hbyB4 hby4
 go_wp2_with fail
 refine HQ.out.mono ?_
 rintro r w' ⟨rfl, rfl⟩
 clear HQ
 have hz0 := hbx4.c0
 have hy0 := hbx4.free 0
 have hz1 := hbx4.c1
 have hy1 := hbx4.free 1
 have hz2 := hbx4.c2
 have hy2 := hbx4.free 2
 have hz3 := hbx4.c3
 have hy3 := hbx4.free 3
 have HX := hide (hbx4.put 0 0 0 0)
 have HY := hide (below_put4 HB4.out (Nat.le_refl _) 0 0 0 0)
 clear hbx4 hbr4 HB4
 go_wp2
 refine bodyPost_ret (results_ct rfl _ _ w.heap.size 121 _ (0, 0) _ rfl (show _ from HX.out) Tryz.underlying121 rfl head_size) rfl ?_
 exact ⟨rfl, HY.out⟩
set_option maxRecDepth 100000 in
set_option maxHeartbeats 2000000 in
theorem decode_same (hf : ¬ f < 1) (hl : ¬ g < l) (hp : t % 2 = i) (hT : t ≤ 1152921504606846975) (he : ((str (hsec ⟨t, f, g, l⟩)).toList == (str (seal4 M)).toList) = true) :
 Calls Tryz.prog 83 #[.int .i64 (i : Int), .slice A 64 c] w fun e w' => e = .returned (.tuple #[hd4 ⟨t, f, g, l⟩, .bool true]) ∧ Below w.heap.size w w' := by
 obtain ⟨q, hq⟩ : ∃ q, t % 2 = q := ⟨_, rfl⟩
 have hrem := rem2 t
 have h1 : ¬ ((f : Int) < 1) := by omega
 have h2 : ¬ ((g : Int) < (l : Int)) := by omega
 have h3 : (t : Int).tmod 2 = (i : Int) := by rw [hrem (by omega), hp]
 have HE := hide he
 clear hrem hq hf hl hp he
 have hbx := Hx.new w 0 0 0 0
 have HB := hide (hx_below w 0 0 0 0)
 have hpos := ht.pos
 have hby0 := (hb.below HB.out).more HB.out.size
 have ht0 := ht.below HB.out hpos
 have Hm := hide hm
 have Hgot := hide hgot
 have Ht := hide ht
 clear ht hm hgot
 go_enter Tryz.func83, Tryz.ntmps83
 go_wp2_with fail
 generalize w.alloc _ = w0 at *
 refine (Open_good A 64 c 60 M w0 Hm.out rfl hc (by omega) hby0 ht0).mono ?_
 rintro r w1 ⟨b1, o1, rfl, hby1, hb1⟩
 have hbx1 := hbx.below hb1
 have HB1 := hide (HB.out.trans (hb1.mono HB.out.size))
 have hbyB1 := (hby0.below hb1).more hb1.size
 clear hbx hb1 hby0 ht0 HB hb
 go_wp2_with fail
 refine (read_any (some ⟨b1, o1, none⟩) M 60 60 w1 Hm.out hby1 (Nat.le_refl _) (by unfold maxLen; omega) _ Hgot.out).mono ?_
 rintro r w2 ⟨rfl, hb2⟩
 have hbx2 := hbx1.below hb2
 have HB2 := hide (HB1.out.trans (hb2.mono HB1.out.size))
 have hbyB2 := (hbyB1.below hb2).more hb2.size
 clear hbx1 hb2 hby1 hbyB1 HB1
 have hbl := hx_below w2 t f g l
 have hbr := Hx.new w2 t f g l
 have hbx3 := hbx2.below hbl
 have HB3 := hide (HB2.out.trans (hbl.mono HB2.out.size))
 have hbyB3 := (hbyB2.below hbl).more hbl.size
 clear hbl hbx2 hbyB2 HB2
 go_wp2_with fail
 generalize w2.alloc _ = w3 at *
 refine (encode_any ⟨t, f, g, l⟩ w3 (Ht.out.below HB3.out hpos)).mono ?_
 rintro r w4 ⟨p4, o4, c4, rfl, _, _, hby4, hb4⟩
 have hbx4 := hbx3.below hb4
 have hbr4 := hbr.below hb4
 have HB4 := hide (HB3.out.trans (hb4.mono HB3.out.size))
 have hbyB4 := hbyB3.below hb4
 have HQ := hide (Equal_any (some ⟨p4, o4, none⟩) A 64 c4 64 c _ _ _ _ w4 (hsec_length _) (by rw [seal4_length, Hm.out]) hby4 hbyB4 _ HE.out)
 clear hbx3 hb4 hbyB3 HB3 hbr hbyB4 hby4
 go_wp2_with fail
 refine HQ.out.mono ?_
 rintro r w' ⟨rfl, rfl⟩
 clear HQ
 have hz0 := hbx4.c0
 have hy0 := hbx4.free 0
 have hz1 := hbx4.c1
 have hy1 := hbx4.free 1
 have hz2 := hbx4.c2
 have hy2 := hbx4.free 2
 have hz3 := hbx4.c3
 have hy3 := hbx4.free 3
 have hx0 := hbr4.c0
 have hx1 := hbr4.c1
 have hx2 := hbr4.c2
 have hx3 := hbr4.c3
 have HX := hide (hbx4.put t f g l)
 have HY := hide (below_put4 HB4.out (Nat.le_refl _) t f g l)
 clear hbx4 hbr4 HB4
 go_wp2
 refine bodyPost_ret (results_ct rfl _ _ w.heap.size 121 _ (0, 0) _ rfl (show _ from HX.out) Tryz.underlying121 rfl head_size) rfl ?_
 exact ⟨rfl, HY.out⟩
end
theorem decode_any (i : Nat) (A : Option Addr) (c : Nat) (L : List UInt8) (w : World) (hn : L.length = 64) (hc : 64 ≤ c) (hb : Byt w w.heap.size A L) (ht : Tab w) :
 Calls Tryz.prog 83 #[.int .i64 (i : Int), .slice A 64 c] w fun e w' => (match unh i L with | none => NoHead e | some h => e = .returned (.tuple #[hd4 h, .bool true])) ∧ Below w.heap.size w w' := by
 by_cases hs : ∃ m, L = seal4 m
 ·obtain ⟨M, rfl⟩ := hs
  have hM : M.length = 60 := by have := hn; rw [seal4_length] at this; omega
  obtain ⟨n1, n2, n3, n4⟩ := hgot_num M
  have key : ∀ x, HOk i x → seal4 M = hsec x → hgot M = x := fun x hx he => by
   have := seal4_inj he
   rw [this, hgot_pad hx]
  by_cases hv : HOk i (hgot M)
  ·by_cases he : seal4 M = hsec (hgot M)
   ·rw [show unh i (seal4 M) = some (hgot M) by rw [he]; exact unh_some hv]
    refine decode_same i A c M w hM hc hb ht (hgot M).t (hgot M).f (hgot M).g (hgot M).l rfl (by have := hv.pos; omega) (by have := hv.low; omega) hv.par n1 ?_
    rw [str_same]
    exact decide_eq_true he.symm
   ·rw [unh_none (fun x hx h2 => he (by rw [key x hx h2]; exact h2))]
    refine decode_unlike i A c M w hM hc hb ht (hgot M).t (hgot M).f (hgot M).g (hgot M).l rfl (by have := hv.pos; omega) (by have := hv.low; omega) hv.par n1 ?_
    rw [str_same]
    exact decide_eq_false fun e => he e.symm
  ·rw [unh_none (fun x hx h2 => hv (by rw [key x hx h2]; exact hx))]
   by_cases h1 : (hgot M).f < 1
   ·exact decode_first i A c M w hM hc hb ht (hgot M).t (hgot M).f (hgot M).g (hgot M).l rfl h1
   ·by_cases h2 : (hgot M).g < (hgot M).l
    ·exact decode_low i A c M w hM hc hb ht (hgot M).t (hgot M).f (hgot M).g (hgot M).l rfl h1 h2
    ·refine decode_turn i A c M w hM hc hb ht (hgot M).t (hgot M).f (hgot M).g (hgot M).l rfl h1 h2 (fun h3 => hv ⟨n1, n2, n3, n4, by omega, by omega, h3⟩) n1
 ·have hno : ∀ m, L ≠ seal4 m := fun m e => hs ⟨m, e⟩
  rw [unh_none (fun x _ => hno _)]
  exact decode_open i A c L w hn hc hb ht hno
end Go.Proofs.YtapiogcoipeinaaGreatDoor.Jn
namespace Go.Proofs.YtapiogcoipeinaaGreatDoor.Jn
open Go.RowKit
open Pk Sm Fa Rc Dk
def ecel (e : Ent) : List Value := [.int .i64 (e.g : Int), .int .i64 (e.s : Int), .int .i64 e.k, .int .i64 e.b, .string e.d, .int .i64 e.m]
def ecels (E : List Ent) : List Value := E.flatMap ecel
theorem ecel_len (E : List Ent) : ∀ e ∈ E, (ecel e).length = 6 := fun _ _ => rfl
theorem ecel_one (e : Ent) : ∀ u ∈ ecel e, u.oneCell' = true := by
 intro u hu
 simp [ecel] at hu
 rcases hu with rfl | rfl | rfl | rfl | rfl | rfl <;> rfl
theorem ecels_snoc (E : List Ent) (e : Ent) : ecels (E ++ [e]) = ecels E ++ ecel e := by simp [ecels]
abbrev jcs (q n : Nat) (h : Hd) (X : Value) : Array Value := #[.pointer (some ⟨q, 0, none⟩), .int .i64 (n : Int), .int .i64 (h.t : Int), .int .i64 (h.f : Int), .int .i64 (h.g : Int), .int .i64 (h.l : Int), X]
structure JnAt (w : World) (J : Nat → Prop) (p q n : Nat) (h : Hd) (E : List Ent) (X : Value) : Prop where
 box : w.heap[p]? = some (.cells (jcs q n h X) 126 (0, 0))
 own : w.ownsRow 0 150 6 X E.length (ecels E)
 mine : J p
 row : ∀ k, X.ownBlock = some k → J k ∧ k ≠ p
 lt : ∀ k, J k → k < w.heap.size
def Jr (w : World) (G : Nat → Prop) (p q : Nat) (S : List Sec) (L : List Wr) (n : Nat) (h : Hd) (E : List Ent) : Prop :=
 ∃ D J X, Dsk w D q S L ∧ JnAt w J p q n h E X ∧ (∀ k, D k → ¬ J k) ∧ (∀ k, G k ↔ D k ∨ J k)
def JPost (w : World) (G : Nat → Prop) (p q : Nat) (S : List Sec) (L : List Wr) (n : Nat) (h : Hd) (E : List Ent) (w' : World) : Prop := ∃ G', Jr w' G' p q S L n h E ∧ Grew w G G' ∧ Kept G w w'
section
variable {w w' : World} {G J : Nat → Prop} {p q n : Nat} {S : List Sec} {L : List Wr} {h : Hd} {E : List Ent} {X : Value}
theorem JnAt.kept (j : JnAt w J p q n h E X) {K : Nat → Prop} (hk : Kept K w w') (hd : ∀ k, J k → ¬ K k) : JnAt w' J p q n h E X where
 box := (hk.block p (j.lt p j.mine) (hd p j.mine)).trans j.box
 own := own_same j.own fun k hb => hk.block k (j.lt k (j.row k hb).1) (hd k (j.row k hb).1)
 mine := j.mine
 row := j.row
 lt := fun k hk2 => Nat.lt_of_lt_of_le (j.lt k hk2) hk.size
theorem JnAt.below (j : JnAt w J p q n h E X) (hb : Below w.heap.size w w') : JnAt w' J p q n h E X := j.kept (Kept.of_below (G := fun _ => False) hb) fun _ _ h => h
theorem Jr.lt (j : Jr w G p q S L n h E) : ∀ k, G k → k < w.heap.size := by
 obtain ⟨D, J, X, hd, hj, _, hg⟩ := j
 intro k hk
 rcases (hg k).1 hk with h1 | h1
 ·exact hd.lt k h1
 ·exact hj.lt k h1
theorem Jr.kept (j : Jr w G p q S L n h E) {K : Nat → Prop} (hk : Kept K w w') (hd : ∀ k, G k → ¬ K k) : Jr w' G p q S L n h E := by
 obtain ⟨D, J, X, h1, h2, h3, h4⟩ := j
 exact ⟨D, J, X, h1.kept hk fun k hk => hd k ((h4 k).2 (Or.inl hk)), h2.kept hk fun k hk => hd k ((h4 k).2 (Or.inr hk)), h3, h4⟩
theorem Jr.below (j : Jr w G p q S L n h E) (hb : Below w.heap.size w w') : Jr w' G p q S L n h E := j.kept (Kept.of_below (G := fun _ => False) hb) fun _ _ h => h
theorem Jr.len (j : Jr w G p q S L n h E) : Lens w (.pointer (some ⟨q, 0, none⟩)) S.length := by
 obtain ⟨D, J, X, h1, _⟩ := j
 exact Len_any h1
theorem Jr.post (j : Jr w G p q S L n h E) (hb : Below w.heap.size w w') : JPost w G p q S L n h E w' := ⟨G, j.below hb, Grew.refl _ _, Kept.of_below hb⟩
theorem JPost.then {G : Nat → Prop} {S' S'' : List Sec} {L' L'' : List Wr} {h' h'' : Hd} {E' E'' : List Ent} {w'' : World} (a : JPost w G p q S' L' n h' E' w')
 (b : ∀ G', Jr w' G' p q S' L' n h' E' → JPost w' G' p q S'' L'' n h'' E'' w'') : JPost w G p q S'' L'' n h'' E'' w'' := by
 obtain ⟨G', j, hg, hk⟩ := a
 obtain ⟨G'', j2, hg2, hk2⟩ := b G' j
 exact ⟨G'', j2, hg.trans hk.size hg2, hk.trans hg hk2⟩
theorem JPost.below {w'' : World} (a : JPost w G p q S L n h E w') (hb : Below w'.heap.size w' w'') : JPost w G p q S L n h E w'' := a.then fun _ j => j.post hb
theorem JPost.of {G1 : Nat → Prop} {w1 : World} (hg : Grew w G G1) (hk : Kept G w w1) (b : JPost w1 G1 p q S L n h E w') : JPost w G p q S L n h E w' := by
 obtain ⟨G2, j, hg2, hk2⟩ := b
 exact ⟨G2, j, hg.trans hk.size hg2, hk.trans hg hk2⟩
theorem JPost.after {w1 : World} (hb : Below w.heap.size w w1) (b : JPost w1 G p q S L n h E w') : JPost w G p q S L n h E w' := JPost.of (Grew.refl _ _) (Kept.of_below hb) b
theorem JPost.keep (b : JPost w G p q S L n h E w') {B : Nat} (hG : ∀ k, G k → B ≤ k) (hB : B ≤ w.heap.size) : Below B w w' := by
 obtain ⟨G2, j, hg2, hk2⟩ := b
 exact hk2.below hG hB
theorem JnAt.set {i : Nat} {v : Value} {h' : Hd} (j : JnAt w J p q n h E X) (hc : (jcs q n h X).setIfInBounds i v = jcs q n h' X) : JnAt (w.setCell ⟨p, i, none⟩ v) J p q n h' E X where
 box := by rw [heap_setCell_same w p i _ _ v j.box, hc]
 own := own_same j.own fun k hb => heap_setCell_other _ _ _ _ (j.row k hb).2
 mine := j.mine
 row := j.row
 lt := fun k hk => by have := j.lt k hk; simpa [World.setCell] using this
theorem Kept.set {K : Nat → Prop} {w2 : World} (hk : Kept K w w2) (hp : K p) (i : Nat) (v : Value) : Kept K w (w2.setCell ⟨p, i, none⟩ v) :=
 ⟨hk.os, hk.tape, hk.output, by have := hk.size; simpa [World.setCell] using this, fun k h1 h2 => by rw [heap_setCell_other _ _ _ _ (fun e => h2 (by have e' : k = p := e; rw [e']; exact hp))]; exact hk.block k h1 h2⟩
theorem Jr.set {i : Nat} {v : Value} {h' : Hd} (j : Jr w G p q S L n h E) (hc : ∀ X, (jcs q n h X).setIfInBounds i v = jcs q n h' X) : JPost w G p q S L n h' E (w.setCell ⟨p, i, none⟩ v) := by
 obtain ⟨D, J, X, h1, h2, h3, h4⟩ := j
 have hk := Kept.set (Kept.refl J w) h2.mine i v
 exact ⟨G, ⟨D, J, X, h1.kept hk fun k hk => h3 k hk, h2.set (hc X), h3, h4⟩, Grew.refl _ _, Kept.set (Kept.refl G w) ((h4 p).2 (Or.inr h2.mine)) i v⟩
theorem Jr.disk {D : Nat → Prop} {S' : List Sec} {L' : List Wr} (h2 : JnAt w J p q n h E X) (h3 : ∀ k, D k → ¬ J k) (h4 : ∀ k, G k ↔ D k ∨ J k) (hp : Post w D q S' L' w') : JPost w G p q S' L' n h E w' := by
 obtain ⟨D', hd, hg, hk⟩ := hp
 refine ⟨fun k => D' k ∨ J k, ⟨D', J, X, hd, h2.kept hk fun k hj hD => h3 k hD hj, fun k hD' hj => ?_, fun k => Iff.rfl⟩, fun k hk' => ?_, ⟨hk.os, hk.tape, hk.output, hk.size, fun k hlt hn => hk.block k hlt fun hD => hn ((h4 k).2 (Or.inl hD))⟩⟩
 ·rcases hg k hD' with h5 | h5
  ·exact h3 k h5 hj
  ·have := h2.lt k hj
   omega
 ·rcases hk' with h5 | h5
  ·exact (hg k h5).imp (fun h6 => (h4 k).2 (Or.inl h6)) id
  ·exact Or.inl ((h4 k).2 (Or.inr h5))
theorem JnAt.heads (j : JnAt w J p q n h E X) : w.cell? ⟨p, 0, none⟩ = some (.pointer (some ⟨q, 0, none⟩)) ∧ w.cell? ⟨p, 2, none⟩ = some (.int .i64 (h.t : Int)) ∧ w.cell? ⟨p, 3, none⟩ = some (.int .i64 (h.f : Int)) ∧ w.cell? ⟨p, 4, none⟩ = some (.int .i64 (h.g : Int)) ∧ w.cell? ⟨p, 5, none⟩ = some (.int .i64 (h.l : Int)) := by
 refine ⟨?_, ?_, ?_, ?_, ?_⟩ <;> simp [World.cell?, j.box]
theorem JnAt.cells (j : JnAt w J p q n h E X) : ∃ A c, X = .slice A E.length c ∧ w.cell? ⟨p, 0, none⟩ = some (.pointer (some ⟨q, 0, none⟩)) ∧ w.cell? ⟨p, 1, none⟩ = some (.int .i64 (n : Int)) ∧ w.cell? ⟨p, 2, none⟩ = some (.int .i64 (h.t : Int)) ∧
 w.cell? ⟨p, 3, none⟩ = some (.int .i64 (h.f : Int)) ∧ w.cell? ⟨p, 4, none⟩ = some (.int .i64 (h.g : Int)) ∧ w.cell? ⟨p, 5, none⟩ = some (.int .i64 (h.l : Int)) ∧ w.cell? ⟨p, 6, none⟩ = some (.slice A E.length c) ∧ (∀ i, w.frozen? ⟨p, i, none⟩ = false) := by
 obtain ⟨A, c, rfl, _⟩ := row_form j.own
 refine ⟨A, c, rfl, ?_, ?_, ?_, ?_, ?_, ?_, ?_, fun i => blk_free j.box i⟩ <;> simp [World.cell?, j.box]
end
theorem remN (s n : Nat) : (s : Int).tmod n = ((s % n : Nat) : Int) := by
 rw [Int.tmod_eq_emod_of_nonneg (by omega)]
 rfl
section
variable (w : World) (G : Nat → Prop) (p q : Nat) (S : List Sec) (L : List Wr) (n : Nat) (h : Hd) (E : List Ent) (hj : Jr w G p q S L n h E)
include hj
theorem sector_any (s : Nat) (hn : 1 ≤ n) (hn2 : n ≤ 1000) : Calls Tryz.prog 87 #[.pointer (some ⟨p, 0, none⟩), .int .i64 (s : Int)] w fun e w' => e = .returned (.int .i64 ((2 + s % n : Nat) : Int)) ∧ w = w' := by
 obtain ⟨D, J, X, _, h2, _⟩ := hj
 obtain ⟨A, c, rfl, c0, c1, c2, c3, c4, c5, c6, fz⟩ := h2.cells
 have hr := remN s n
 obtain ⟨r, hrr⟩ : ∃ r, s % n = r := ⟨_, rfl⟩
 have hlt : s % n < n := Nat.mod_lt _ (by omega)
 rw [hrr] at hr hlt
 rw [hrr]
 have hz : ¬ ((n : Int) = 0) := by omega
 have hz2 : ((n : Int) == 0) = false := by simp; omega
 clear h2 c0 c2 c3 c4 c5 c6 fz hrr
 go_enter Tryz.func87, Tryz.ntmps87
 go_wp2
 go_ret
 exact ⟨by go_num, rfl⟩
end
end Go.Proofs.YtapiogcoipeinaaGreatDoor.Jn
namespace Go.Proofs.YtapiogcoipeinaaGreatDoor.Jn
open Go.RowKit
open Pk Sm Fa Rc Dk
theorem isNaN_any (n : Int) (w : World) : Calls Tryz.prog 127 #[.int .i64 n] w fun e w' => e = .returned (.bool false) ∧ w = w' := by
 go_enter Tryz.func127, Tryz.ntmps127
 go_wp2
 go_ret
 exact ⟨rfl, rfl⟩
section
variable (a b : Int) (w : World)
theorem Compare_lt (h : a < b) : Calls Tryz.prog 109 #[.int .i64 a, .int .i64 b] w fun e w' => e = .returned (.int .i64 (-1)) ∧ w = w' := by
 have HA := hide (isNaN_any a w)
 have HB := hide (isNaN_any b w)
 go_enter Tryz.func109, Tryz.ntmps109
 go_wp2_with fail
 refine HA.out.mono ?_
 rintro e w' ⟨rfl, rfl⟩
 go_wp2_with fail
 refine HB.out.mono ?_
 rintro e w' ⟨rfl, rfl⟩
 go_wp2
 go_ret
 exact ⟨rfl, rfl⟩
theorem Compare_gt (h : b < a) : Calls Tryz.prog 109 #[.int .i64 a, .int .i64 b] w fun e w' => e = .returned (.int .i64 1) ∧ w = w' := by
 have HA := hide (isNaN_any a w)
 have HB := hide (isNaN_any b w)
 have h2 : ¬ a < b := by omega
 go_enter Tryz.func109, Tryz.ntmps109
 go_wp2_with fail
 refine HA.out.mono ?_
 rintro e w' ⟨rfl, rfl⟩
 go_wp2_with fail
 refine HB.out.mono ?_
 rintro e w' ⟨rfl, rfl⟩
 go_wp2
 go_ret
 exact ⟨rfl, rfl⟩
theorem Compare_eq (h : a = b) : Calls Tryz.prog 109 #[.int .i64 a, .int .i64 b] w fun e w' => e = .returned (.int .i64 0) ∧ w = w' := by
 subst h
 have HA := hide (isNaN_any a w)
 go_enter Tryz.func109, Tryz.ntmps109
 go_wp2_with fail
 refine HA.out.mono ?_
 rintro e w' ⟨rfl, rfl⟩
 go_wp2_with fail
 refine HA.out.mono ?_
 rintro e w' ⟨rfl, rfl⟩
 go_wp2
 go_ret
 exact ⟨rfl, rfl⟩
end
def cmpI (a b : Int) : Int := if a < b then -1 else if b < a then 1 else 0
theorem Compare_any (a b : Int) (w : World) : Calls Tryz.prog 109 #[.int .i64 a, .int .i64 b] w fun e w' => e = .returned (.int .i64 (cmpI a b)) ∧ w = w' := by
 unfold cmpI
 rcases Int.lt_trichotomy a b with h | h | h
 ·rw [if_pos h]; exact Compare_lt a b w h
 ·rw [if_neg (by omega), if_neg (by omega)]; exact Compare_eq a b w h
 ·rw [if_neg (by omega), if_pos h]; exact Compare_gt a b w h
set_option maxRecDepth 100000 in
theorem byTurn_any (a b : Hd) (w : World) : Calls Tryz.prog 86 #[hd4 a, hd4 b] w fun e w' => e = .returned (.int .i64 (cmpI a.t b.t)) ∧ Below w.heap.size w w' := by
 obtain ⟨t, f, g, l⟩ := a
 obtain ⟨t', f', g', l'⟩ := b
 have HB := hide ((hx_below w t f g l).trans ((hx_below (w.alloc (.cells (hcs t f g l) 121)) t' f' g' l').mono (hx_below w t f g l).size))
 go_enter Tryz.func86, Tryz.ntmps86
 go_wp2_with fail
 refine (Compare_any t t' _).mono ?_
 rintro e w' ⟨rfl, rfl⟩
 go_wp2
 go_ret
 exact ⟨rfl, HB.out⟩
def hcells (F : List Hd) : List Value := F.flatMap fun h => (hcs h.t h.f h.g h.l).toList
theorem hcells_one (h : Hd) : ∀ u ∈ (hcs h.t h.f h.g h.l).toList, u.oneCell' = true := by
 intro u hu
 simp at hu
 rcases hu with rfl | rfl | rfl | rfl <;> rfl
def later (a b : Hd) : Hd := if a.t < b.t then b else a
theorem cmp_pos (a b : Hd) : 0 < cmpI b.t a.t ↔ a.t < b.t := by
 unfold cmpI
 split
 ·omega
 ·split <;> omega
set_option maxRecDepth 100000 in
set_option maxHeartbeats 2000000 in
theorem Max_one (a : Hd) (g c : Nat) (w : World) (hr : w.rangeAt g 0 (hcells [a])) (hg : g < w.heap.size) :
 Calls Tryz.prog 85 #[.slice (some ⟨g, 0, none⟩) 1 c, .func (.func 86) #[] #[]] w fun e w' => e = .returned (hd4 a) ∧ Below w.heap.size w w' := by
 obtain ⟨t, f, gg, l⟩ := a
 have HR := hide hr
 have h0 := hr 0 _ rfl
 have h1 := hr 1 _ rfl
 have h2 := hr 2 _ rfl
 have h3 := hr 3 _ rfl
 simp only [Nat.zero_add] at h0 h1 h2 h3
 have hb1 := hx_below w 0 0 0 0
 have hb2 := hx_below (w.alloc (.cells (hcs 0 0 0 0) 121)) t f gg l
 have HX0 := hide ((Hx.new w 0 0 0 0).below hb2)
 have HX1 := hide (show Hx ((w.alloc (.cells (hcs 0 0 0 0) 121)).alloc (.cells (hcs t f gg l) 121)) (w.heap.size + 1) t f gg l by have := Hx.new (w.alloc (.cells (hcs 0 0 0 0) 121)) t f gg l; simpa using this)
 have HY := hide (hb1.trans (hb2.mono hb1.size))
 clear hr hb1 hb2
 go_enter Tryz.func85, Tryz.ntmps85
 go_wp2
 go_loopw [6] (fun j wr => j = .int .i64 1 ∧ Hid (Hx wr w.heap.size 0 0 0 0) ∧ Hid (Hx wr (w.heap.size + 1) t f gg l) ∧ Hid (Below w.heap.size w wr)) (fun _ _ => 0)
 case atStart => exact ⟨rfl, HX0, HX1, HY⟩
 case round =>
  obtain ⟨rfl, hx0, hx1, hb⟩ := hrel
  have hz0 := hx1.out.c0
  have hz1 := hx1.out.c1
  have hz2 := hx1.out.c2
  have hz3 := hx1.out.c3
  have hw0 := hx0.out.c0
  have hw1 := hx0.out.c1
  have hw2 := hx0.out.c2
  have hw3 := hx0.out.c3
  have hy0 := hx0.out.free 0
  have hy1 := hx0.out.free 1
  have hy2 := hx0.out.free 2
  have hy3 := hx0.out.free 3
  have HX := hide (hx0.out.put t f gg l)
  have HF := hide (below_put4 hb.out (Nat.le_refl _) t f gg l)
  clear hx0 hx1 hb h0 h1 h2 h3
  go_wp2
  refine bodyPost_ret (v := .agg (hcs t f gg l)) (results_cell_row rfl _ _ w.heap.size 121 _ (0, 0) _ rfl (show _ from HX.out) Tryz.underlying121 rfl head_size) rfl ?_
  exact ⟨rfl, HF.out⟩
set_option maxRecDepth 100000 in
set_option maxHeartbeats 2000000 in
theorem Max_two (a b : Hd) (g c : Nat) (w : World) (hr : w.rangeAt g 0 (hcells [a, b])) (hg : g < w.heap.size) :
 Calls Tryz.prog 85 #[.slice (some ⟨g, 0, none⟩) 2 c, .func (.func 86) #[] #[]] w fun e w' => e = .returned (hd4 (later a b)) ∧ Below w.heap.size w w' := by
 have hcm := cmp_pos a b
 obtain ⟨cm, hcd⟩ : ∃ x, x = cmpI b.t a.t := ⟨_, rfl⟩
 have HBT : Hid (∀ W, Calls Tryz.prog 86 #[hd4 b, hd4 a] W fun e w' => e = .returned (.int .i64 cm) ∧ Below W.heap.size W w') := fun W => by rw [hcd]; exact byTurn_any b a W
 rw [← hcd] at hcm
 have HL1 := hide (show a.t < b.t → later a b = b from fun h => if_pos h)
 have HL2 := hide (show ¬ a.t < b.t → later a b = a from fun h => if_neg h)
 generalize later a b = z at *
 obtain ⟨tz, fz, gz, lz⟩ := z
 obtain ⟨t', f', gg', l'⟩ := b
 obtain ⟨t, f, gg, l⟩ := a
 have HR := hide hr
 have h0 := hr 0 _ rfl
 have h1 := hr 1 _ rfl
 have h2 := hr 2 _ rfl
 have h3 := hr 3 _ rfl
 simp only [Nat.zero_add] at h0 h1 h2 h3
 have hb1 := hx_below w 0 0 0 0
 have hb2 := hx_below (w.alloc (.cells (hcs 0 0 0 0) 121)) t f gg l
 have HX0 := hide ((Hx.new w 0 0 0 0).below hb2)
 have HX1 := hide (show Hx ((w.alloc (.cells (hcs 0 0 0 0) 121)).alloc (.cells (hcs t f gg l) 121)) (w.heap.size + 1) t f gg l by have := Hx.new (w.alloc (.cells (hcs 0 0 0 0) 121)) t f gg l; simpa using this)
 have HY := hide (hb1.trans (hb2.mono hb1.size))
 have Hcm := hide hcm
 clear hcm hcd
 clear hr hb1 hb2
 go_enter Tryz.func85, Tryz.ntmps85
 go_wp2
 go_loopw [6] (fun j wr => ∃ (k t1 f1 g1 l1 : Nat), k ≤ 2 ∧ 1 ≤ k ∧ j = .int .i64 k ∧ Hid (k = 1 → t1 = t ∧ f1 = f ∧ g1 = gg ∧ l1 = l) ∧ Hid (k = 2 → t1 = tz ∧ f1 = fz ∧ g1 = gz ∧ l1 = lz) ∧ Hid (Hx wr w.heap.size 0 0 0 0) ∧ Hid (Hx wr (w.heap.size + 1) t1 f1 g1 l1) ∧ Hid (Below w.heap.size w wr)) (fun j _ => 2 - (intOf j).toNat)
 case atStart => exact ⟨1, t, f, gg, l, by omega, by omega, rfl, fun _ => ⟨rfl, rfl, rfl, rfl⟩, fun h => by omega, HX0, HX1, HY⟩
 case round =>
  obtain ⟨k, t1, f1, g1, l1, hk2, hk1, rfl, he1, he2, hx0, hx1, hb⟩ := hrel
  rcases (by omega : k = 2 ∨ k = 1) with rfl | rfl
  ·obtain ⟨rfl, rfl, rfl, rfl⟩ := he2.out rfl
   clear he1 he2 hk2 hk1
   have hz0 := hx1.out.c0
   have hz1 := hx1.out.c1
   have hz2 := hx1.out.c2
   have hz3 := hx1.out.c3
   have hw0 := hx0.out.c0
   have hw1 := hx0.out.c1
   have hw2 := hx0.out.c2
   have hw3 := hx0.out.c3
   have hy0 := hx0.out.free 0
   have hy1 := hx0.out.free 1
   have hy2 := hx0.out.free 2
   have hy3 := hx0.out.free 3
   have HX := hide (hx0.out.put t1 f1 g1 l1)
   have HF := hide (below_put4 hb.out (Nat.le_refl _) t1 f1 g1 l1)
   clear hx0 hx1 hb h0 h1 h2 h3
   go_wp2
   refine bodyPost_ret (v := .agg (hcs t1 f1 g1 l1)) (results_cell_row rfl _ _ w.heap.size 121 _ (0, 0) _ rfl (show _ from HX.out) Tryz.underlying121 rfl head_size) rfl ?_
   exact ⟨rfl, HF.out⟩
  ·obtain ⟨rfl, rfl, rfl, rfl⟩ := he1.out rfl
   have hc0 := hx1.out.c0
   have hc1 := hx1.out.c1
   have hc2 := hx1.out.c2
   have hc3 := hx1.out.c3
   have k4 := (hb.out.cell (p := ⟨g, 4, none⟩) hg).trans (by simpa using HR.out 4 _ rfl)
   have k5 := (hb.out.cell (p := ⟨g, 5, none⟩) hg).trans (by simpa using HR.out 5 _ rfl)
   have k6 := (hb.out.cell (p := ⟨g, 6, none⟩) hg).trans (by simpa using HR.out 6 _ rfl)
   have k7 := (hb.out.cell (p := ⟨g, 7, none⟩) hg).trans (by simpa using HR.out 7 _ rfl)
   have Hg := hide hg
   have hsz := hb.out.size
   have Hsz := hide hsz
   have HTT := hide (HBT.out wr.drew)
   clear h0 h1 h2 h3 he1 he2 hk2 hk1 hsz
   go_wp2_with fail
   go_region_with (refine HTT.out.mono ?_; rintro r w2 ⟨rfl, hb2⟩; have HB2 := hide hb2; clear hb2)
   all_goals
    have hb3 : Below w.heap.size w w2 := (Below.drew hb.out).trans (HB2.out.mono Hsz.out)
    have hx0' := hx0.out.below (w' := w2) ((Below.refl _ _).drew.trans HB2.out)
    have hx1' := hx1.out.below (w' := w2) ((Below.refl _ _).drew.trans HB2.out)
    have HY3 := hide hb3
    have HX0' := hide hx0'
    by_cases hcp : t1 < t'
    ·have hcp2 : cm > 0 := Hcm.out.2 hcp
     have e := HL1.out hcp
     simp only [Hd.mk.injEq] at e
     obtain ⟨rfl, rfl, rfl, rfl⟩ := e
     have j4 := (hb3.cell (p := ⟨g, 4, none⟩) Hg.out).trans (by simpa using HR.out 4 _ rfl)
     have j5 := (hb3.cell (p := ⟨g, 5, none⟩) Hg.out).trans (by simpa using HR.out 5 _ rfl)
     have j6 := (hb3.cell (p := ⟨g, 6, none⟩) Hg.out).trans (by simpa using HR.out 6 _ rfl)
     have j7 := (hb3.cell (p := ⟨g, 7, none⟩) Hg.out).trans (by simpa using HR.out 7 _ rfl)
     have hc0 := hx1'.c0
     have hc1 := hx1'.c1
     have hc2 := hx1'.c2
     have hc3 := hx1'.c3
     have hy0 := hx1'.free 0
     have hy1 := hx1'.free 1
     have hy2 := hx1'.free 2
     have hy3 := hx1'.free 3
     have HX2 := hide (hx1'.put tz fz gz lz)
     have HXK := hide (show Hx (put4 w2 (w.heap.size + 1) tz fz gz lz) w.heap.size 0 0 0 0 from (by
      show (put4 w2 (w.heap.size + 1) tz fz gz lz).heap[w.heap.size]? = _
      simp only [put4]
      rw [heap_setCell_other _ _ _ _ (by show w.heap.size ≠ w.heap.size + 1; omega), heap_setCell_other _ _ _ _ (by show w.heap.size ≠ w.heap.size + 1; omega), heap_setCell_other _ _ _ _ (by show w.heap.size ≠ w.heap.size + 1; omega), heap_setCell_other _ _ _ _ (by show w.heap.size ≠ w.heap.size + 1; omega)]
      exact hx0'))
     have HF := hide (below_put4 hb3 (show w.heap.size ≤ w.heap.size + 1 by omega) tz fz gz lz)
     clear hb3 hx0' hx1' k4 k5 k6 k7 hcp
     go_wp2
     go_roundw
     case rel => exact ⟨2, tz, fz, gz, lz, by omega, by omega, by go_num, fun h => by omega, fun _ => ⟨rfl, rfl, rfl, rfl⟩, HXK.out, HX2.out, HF.out⟩
     case measure => simp [intOf]
    ·have hcp2 : ¬ (cm > 0) := fun h => hcp (Hcm.out.1 h)
     have e := HL2.out hcp
     simp only [Hd.mk.injEq] at e
     obtain ⟨rfl, rfl, rfl, rfl⟩ := e
     have HX2 := hide hx1'
     clear hb3 hx0' hx1' k4 k5 k6 k7 hcp
     go_wp2
     go_roundw
     case rel => exact ⟨2, tz, fz, gz, lz, by omega, by omega, by go_num, fun h => by omega, fun _ => ⟨rfl, rfl, rfl, rfl⟩, HX0'.out, HX2.out, HY3.out⟩
     case measure => simp [intOf]
end Go.Proofs.YtapiogcoipeinaaGreatDoor.Jn
namespace Go.Proofs.YtapiogcoipeinaaGreatDoor.Jn
open Go.RowKit
open Pk Sm Fa Rc Dk
noncomputable def fnd (A : List Sec) : Nat → List Hd
 | 0 => []
 | k + 1 => fnd A k ++ (unh k (A.getD k [])).toList
def fsh (A : List Sec) : Nat → Bool
 | 0 => true
 | k + 1 => fsh A k && decide (A.getD k [] = zer)
theorem fnd_le (A : List Sec) : ∀ k, (fnd A k).length ≤ k
 | 0 => Nat.le_refl _
 | k + 1 => by
   rw [fnd, List.length_append]
   have := fnd_le A k
   have : (unh k (A.getD k [])).toList.length ≤ 1 := by cases unh k (A.getD k []) <;> simp
   omega
theorem cur_fnd (A : List Sec) : cur A = match fnd A 2 with | [] => if fsh A 2 = true then some ⟨0, 1, 0, 0⟩ else none | [a] => some a | a :: b :: _ => some (later a b) := by
 unfold cur
 simp only [fnd, fsh, later]
 cases unh 0 (A.getD 0 []) <;> cases unh 1 (A.getD 1 []) <;> simp
theorem hcells_snoc (F : List Hd) (h : Hd) : hcells (F ++ [h]) = hcells F ++ (hcs h.t h.f h.g h.l).toList := by simp [hcells]
theorem head_info : (Tryz.prog.info? 121).map (fun i => (i.zero, i.size, i.bytes)) = some (some (hd4 ⟨0, 0, 0, 0⟩), 4, 32) := by kernel_rfl
theorem fnd_none {A : List Sec} {k : Nat} {s : Sec} (h : A.getD k [] = s) (hu : unh k s = none) : fnd A (k + 1) = fnd A k := by rw [fnd, h, hu]; simp
theorem fnd_some {A : List Sec} {k : Nat} {s : Sec} {x : Hd} (h : A.getD k [] = s) (hu : unh k s = some x) : fnd A (k + 1) = fnd A k ++ [x] := by rw [fnd, h, hu]; rfl
def NowO : Option Hd → Ending → Prop
 | none, e => ∃ h, e = .returned (.tuple #[hd4 h, .bool false])
 | some h, e => e = .returned (.tuple #[hd4 h, .bool true])
def NowIs (A : List Sec) (e : Ending) : Prop := NowO (cur A) e
theorem NowIs.mk {A : List Sec} {e : Ending} {o : Option Hd} (h : cur A = o) (h2 : NowO o e) : NowIs A e := by
 subst h
 exact h2
set_option maxRecDepth 100000 in
set_option maxHeartbeats 4000000 in
theorem current_any (w : World) (G : Nat → Prop) (p : Nat) (S : List Sec) (L : List Wr) (hd : Dsk w G p S L) (h2 : 2 ≤ S.length) (hL : L.length ≤ 1000000) (ht : Tab w) :
 Calls Tryz.prog 63 #[.pointer (some ⟨p, 0, none⟩)] w fun e w' => NowIs (all S L) e ∧ Below w.heap.size w w' := by
 obtain ⟨i0, hi0, hz0, hz1, hz2⟩ := info_parts head_info
 have Hz1 := hide hz1
 have Hz2 := hide hz2
 have HD := hide hd
 have H2 := hide h2
 have HL := hide hL
 have HT := hide ht
 have hpos := ht.pos
 have Hpos := hide hpos
 have HX0 := hide (Hx.new w 0 0 0 0)
 have HB0 := hide (hx_below w 0 0 0 0)
 have HA := hide (all_length L S)
 clear hz1 hz2 hd h2 hL ht hpos
 go_enter Tryz.func63, Tryz.ntmps63
 go_wp2
 go_loopw [4, 5, 11] (fun v fr j wr => ∃ k : Nat, k ≤ 2 ∧ j = .int .i64 k ∧ fr = .bool (fsh (all S L) k) ∧ Hid (wr.ownsRow (w.heap.size + 1) 121 4 v (fnd (all S L) k).length (hcells (fnd (all S L) k))) ∧ Hid (Hx wr w.heap.size 0 0 0 0) ∧ Hid (Below w.heap.size w wr)) (fun _ _ j _ => 2 - (intOf j).toNat)
 case atStart => exact ⟨0, by omega, rfl, rfl, World.ownsRow_nil _ _ _ _, HX0.out, HB0.out⟩
 case round =>
  obtain ⟨k, hk2, rfl, hfr, how, hx, hb⟩ := hrel
  rcases Nat.lt_or_ge k 2 with hlt | hge
  ·have hki : (k : Int) < 2 := by omega
   have Hlt := hide hlt
   have hkS : k < S.length := by have := H2.out; omega
   obtain ⟨s, hs⟩ : ∃ s, (all S L)[k]? = some s := ⟨_, List.getElem?_eq_getElem (by rw [HA.out]; exact hkS)⟩
   have hgd : (all S L).getD k [] = s := by simp [List.getD_eq_getElem?_getD, hs]
   have hls : s.length = 64 := (HD.out.full.all HD.out.fits) s (List.mem_of_getElem? hs)
   have HR := hide (Read_any wr G p k S L s (HD.out.below hb.out) hs hkS HL.out)
   have Hls := hide hls
   have Hgd := hide hgd
   have HF1 := hide (show fsh (all S L) (k + 1) = (fsh (all S L) k && decide (s = zer)) by rw [← hgd]; rfl)
   have HE1 := hide (fun hu => fnd_none (A := all S L) hgd hu)
   have HE2 := hide (fun x hu => fnd_some (A := all S L) (x := x) hgd hu)
   have hfl := fnd_le (all S L) k
   generalize fnd (all S L) k = F at *
   generalize fsh (all S L) k = B at *
   subst hfr
   obtain ⟨VA, vc, rfl, hv1, hv2, hv3⟩ := row_form how.out
   obtain ⟨m, hm⟩ : ∃ m, F.length = m := ⟨_, rfl⟩
   rw [hm] at how hfl
   rw [hm]
   have HMF := hide hm
   have Hfl := hide hfl
   clear hv1 hv2 hv3 hm
   clear hs hgd hls hlt hkS hfl
   go_wp2_with fail
   refine HR.out.mono ?_
   rintro e w2 ⟨g, rfl, hgs, hg2, hb2⟩
   have HB2 := hide (hb.out.trans (hb2.mono hb.out.size))
   have Hgo := hide (fun q hq => Nat.lt_of_lt_of_le (World.ownsRow.lt how.out q hq).2 hgs)
   have hby := Dk.byt_row hg2.out
   have HY2 := hide hby
   have HO2 := hide (Fa.own_below how.out hb2)
   have HX2 := hide (hx.out.below hb2)
   have HDC := hide (decode_any k (some ⟨g, 0, none⟩) 64 s w2 Hls.out (Nat.le_refl _) hby (HT.out.below HB2.out Hpos.out))
   clear hgs hb2 hby HR how hx hb
   go_wp2_with fail
   refine HDC.out.mono ?_
   rintro e w3 ⟨hres, hb3⟩
   have HB3 := hide (HB2.out.trans (hb3.mono HB2.out.size))
   have HY3 := hide ((HY2.out.below hb3).more hb3.size)
   have HG3 := hide ((hb3.block g (heap_lt hg2.out)).trans hg2.out)
   have HO3 := hide (Fa.own_below HO2.out hb3)
   have HX3 := hide (HX2.out.below hb3)
   clear hb3 HDC HB2 HY2 HO2 HX2 hg2
   cases hu : unh k s with
   | none =>
     rw [hu] at hres
     have hres' : e = .returned (.tuple #[hd4 ⟨0, 0, 0, 0⟩, .bool false]) := hres
     subst hres'
     have HFE := hide (HE1.out hu)
     have hb4 := hx_below w3 0 0 0 0
     have HB4 := hide (HB3.out.trans (hb4.mono HB3.out.size))
     have HY4 := hide ((HY3.out.below hb4).more hb4.size)
     have HO4 := hide (Fa.own_below HO3.out hb4)
     have HX4 := hide (HX3.out.below hb4)
     clear hu hres hb4 HB3 HY3 HO3 HX3 HE1 HE2
     cases B with
     | false =>
       go_wp2
       go_roundw
       case rel => exact ⟨k + 1, by have := Hlt.out; omega, by go_num, by rw [HF1.out]; rfl, by rw [HFE.out, HMF.out]; exact HO4.out, HX4.out, HB4.out⟩
       case measure => have := Hlt.out; simp [intOf]; omega
     | true =>
       have HQ := fun W => hide (blank_any (some ⟨g, 0, none⟩) s 64 64 W Hls.out)
       go_wp2_with fail
       generalize w3.alloc _ = W4 at *
       refine (HQ W4 |>.out HY4.out _ (str_same s zer)).mono ?_
       rintro r w5 ⟨rfl, hb5⟩
       have HB5 := hide (HB4.out.trans (hb5.mono HB4.out.size))
       have HO5 := hide (Fa.own_below HO4.out hb5)
       have HX5 := hide (HX4.out.below hb5)
       clear hb5 HO4 HX4 HB4 HY4 HQ
       go_wp2
       go_roundw
       case rel => exact ⟨k + 1, by have := Hlt.out; omega, by go_num, by rw [HF1.out]; rfl, by rw [HFE.out, HMF.out]; exact HO5.out, HX5.out, HB5.out⟩
       case measure => have := Hlt.out; simp [intOf]; omega
   | some x =>
     rw [hu] at hres
     have hres' : e = .returned (.tuple #[hd4 x, .bool true]) := hres
     subst hres'
     obtain ⟨xt, xf, xg, xl⟩ := x
     have HFE := hide (HE2.out _ hu)
     have hb4 := hx_below w3 xt xf xg xl
     have hb4' := hx_below (w3.alloc (.cells (hcs xt xf xg xl) 121)) xt xf xg xl
     have hbb := hb4.trans (hb4'.mono hb4.size)
     have HB4 := hide (HB3.out.trans (hbb.mono HB3.out.size))
     have HY4 := hide ((HY3.out.below hbb).more hbb.size)
     have HO4 := hide (Fa.own_below HO3.out hbb)
     have HX4 := hide (HX3.out.below hbb)
     have HG4 := hide ((hbb.block g (heap_lt HG3.out)).trans HG3.out)
     have HN : Hid (∀ j u, (hcs xt xf xg xl).toList[j]? = some u → ((w3.alloc (.cells (hcs xt xf xg xl) 121)).alloc (.cells (hcs xt xf xg xl) 121)).cell? ((⟨w3.heap.size + 1, 0, none⟩ : Addr).add j) = some u) := fun j u hu => by
      rw [← show (w3.alloc (.cells (hcs xt xf xg xl) 121)).heap.size = w3.heap.size + 1 by simp, Addr.add_mid, Nat.zero_add, cell_of_row _ _ j _ _ _ (heap_alloc_new _ _)]
      simpa using hu
     have Hbase := hide (show w.heap.size + 1 ≤ _ from HX4.out.lt)
     have Hm1 := hide (show m + 1 ≤ maxLen by have := Hfl.out; have := Hlt.out; unfold maxLen; omega)
     have Hm2 := hide (show (m + 1) * 32 ≤ 140737488355328 by have := Hfl.out; have := Hlt.out; omega)
     clear hu hres hb4 hb4' hbb HB3 HY3 HO3 HX3 HE1 HE2
     go_wp2_with (at_builtin; go_must (refine wpList_append_lies _ rfl (.tmp 27) (.tmp 29) 153 rfl (w.heap.size + 1) 121 i0 _ 4 32 Tryz.underlying153 hi0 hz0 Hz1.out Hz2.out rfl (by decide) (.slice VA m vc) m (hcells F) rfl HO4.out ⟨w3.heap.size + 1, 0, none⟩ 1 1 (hcs xt xf xg xl).toList rfl rfl HN.out (hcells_one ⟨xt, xf, xg, xl⟩) (by decide) Hm1.out Hm2.out Hbase.out _ rfl ?_))
     intro g2 cap w6 hown6 hgr6 hor6 hlt6
     have HB6 := hide (HB4.out.grown hgr6 HB4.out.size (fun q hq => by have := (World.ownsRow.lt HO4.out q hq).1; omega))
     have hx6 : Hx w6 w.heap.size 0 0 0 0 := (hgr6.block _ HX4.out.lt (fun e => by have := (World.ownsRow.lt HO4.out _ e.symm).1; omega)).trans HX4.out
     have hg6 := (hgr6.block g (heap_lt HG4.out) (fun e => by have := Hgo.out _ e.symm; omega)).trans HG4.out
     have HY6 := hide (Dk.byt_row hg6)
     have HX6 := hide hx6
     have HO6 := hide hown6
     have HFC := hide (show (fnd (all S L) (k + 1)).length = m + 1 ∧ hcells (fnd (all S L) (k + 1)) = hcells F ++ (hcs xt xf xg xl).toList from ⟨by rw [HFE.out, List.length_append, HMF.out]; rfl, by rw [HFE.out, hcells_snoc]⟩)
     clear hown6 hgr6 hor6 hlt6 hx6 hg6 HB4 HX4 HO4 HG4 HY4 HN Hgo HFE
     cases B with
     | false =>
       go_wp2
       go_roundw
       case rel => exact ⟨k + 1, by have := Hlt.out; omega, by go_num, by rw [HF1.out]; rfl, by rw [HFC.out.1, HFC.out.2]; exact HO6.out, HX6.out, HB6.out⟩
       case measure => have := Hlt.out; simp [intOf]; omega
     | true =>
       go_wp2_with fail
       refine (blank_any (some ⟨g, 0, none⟩) s 64 64 w6 Hls.out HY6.out _ (str_same s zer)).mono ?_
       rintro r w7 ⟨rfl, hb7⟩
       have HB7 := hide (HB6.out.trans (hb7.mono HB6.out.size))
       have HO7 := hide (Fa.own_below HO6.out hb7)
       have HX7 := hide (HX6.out.below hb7)
       clear hb7 HO6 HX6 HB6 HY6
       go_wp2
       go_roundw
       case rel => exact ⟨k + 1, by have := Hlt.out; omega, by go_num, by rw [HF1.out]; rfl, by rw [HFC.out.1, HFC.out.2]; exact HO7.out, HX7.out, HB7.out⟩
       case measure => have := Hlt.out; simp [intOf]; omega
  ·obtain rfl : k = 2 := by omega
   have hcf := cur_fnd (all S L)
   have hfl := fnd_le (all S L) 2
   generalize fnd (all S L) 2 = F at *
   generalize fsh (all S L) 2 = B at *
   subst hfr
   have hz0 := hx.out.c0
   have hz1 := hx.out.c1
   have hz2 := hx.out.c2
   have hz3 := hx.out.c3
   have hy0 := hx.out.free 0
   have hy1 := hx.out.free 1
   have hy2 := hx.out.free 2
   have hy3 := hx.out.free 3
   match F, hcf, how, hfl with
   | [], hcf, how, hfl =>
     obtain ⟨A, c, rfl, _⟩ := row_form how.out
     have Hcf := hide hcf
     have HX := hide (hx.out.put 0 1 0 0)
     have HY := hide (below_put4 hb.out (Nat.le_refl _) 0 1 0 0)
     clear hcf how hfl hx hb hge hk2
     go_wp2
     refine bodyPost_ret (results_ct rfl _ _ w.heap.size 121 _ (0, 0) _ rfl (show _ from HX.out) Tryz.underlying121 rfl head_size) rfl ?_
     refine ⟨NowIs.mk Hcf.out ?_, HY.out⟩
     cases B with
     | false => exact ⟨⟨0, 1, 0, 0⟩, rfl⟩
     | true => exact rfl
   | [a], hcf, how, hfl =>
     obtain ⟨A, c, rfl, hc1, _, hr⟩ := row_form how.out
     obtain ⟨g, rfl, _, hlt, hrg⟩ := hr (by simp)
     obtain ⟨t, f, gg, l⟩ := a
     have Hcf := hide (show cur (all S L) = some ⟨t, f, gg, l⟩ from hcf)
     have HM := hide (Max_one ⟨t, f, gg, l⟩ g c wr hrg hlt)
     clear hcf how hfl hge hk2 hz0 hz1 hz2 hz3 hy0 hy1 hy2 hy3 hr hrg hlt
     go_wp2_with fail
     refine HM.out.mono ?_
     rintro e w2 ⟨rfl, hb2⟩
     have hx2 := hx.out.below hb2
     have hz0 := hx2.c0
     have hz1 := hx2.c1
     have hz2 := hx2.c2
     have hz3 := hx2.c3
     have hy0 := hx2.free 0
     have hy1 := hx2.free 1
     have hy2 := hx2.free 2
     have hy3 := hx2.free 3
     have HX := hide (hx2.put t f gg l)
     have HY := hide (below_put4 (hb.out.trans (hb2.mono hb.out.size)) (Nat.le_refl _) t f gg l)
     clear hx2 hb2 hx hb HM
     go_wp2
     refine bodyPost_ret (results_ct rfl _ _ w.heap.size 121 _ (0, 0) _ rfl (show _ from HX.out) Tryz.underlying121 rfl head_size) rfl ?_
     exact ⟨NowIs.mk Hcf.out (by rfl), HY.out⟩
   | a :: b :: r, hcf, how, hfl =>
     obtain rfl : r = [] := by
      cases r with
      | nil => rfl
      | cons x y => simp at hfl
     obtain ⟨A, c, rfl, hc1, _, hr⟩ := row_form how.out
     obtain ⟨g, rfl, _, hlt, hrg⟩ := hr (by simp)
     have Hcf := hide (show cur (all S L) = some (later a b) from hcf)
     have HM := hide (Max_two a b g c wr hrg hlt)
     generalize later a b = z at *
     obtain ⟨t, f, gg, l⟩ := z
     clear hcf how hfl hge hk2 hz0 hz1 hz2 hz3 hy0 hy1 hy2 hy3 hr hrg hlt
     go_wp2_with fail
     refine HM.out.mono ?_
     rintro e w2 ⟨rfl, hb2⟩
     have hx2 := hx.out.below hb2
     have hz0 := hx2.c0
     have hz1 := hx2.c1
     have hz2 := hx2.c2
     have hz3 := hx2.c3
     have hy0 := hx2.free 0
     have hy1 := hx2.free 1
     have hy2 := hx2.free 2
     have hy3 := hx2.free 3
     have HX := hide (hx2.put t f gg l)
     have HY := hide (below_put4 (hb.out.trans (hb2.mono hb.out.size)) (Nat.le_refl _) t f gg l)
     clear hx2 hb2 hx hb HM
     go_wp2
     refine bodyPost_ret (results_ct rfl _ _ w.heap.size 121 _ (0, 0) _ rfl (show _ from HX.out) Tryz.underlying121 rfl head_size) rfl ?_
     exact ⟨NowIs.mk Hcf.out (by rfl), HY.out⟩
end Go.Proofs.YtapiogcoipeinaaGreatDoor.Jn
namespace Go.Proofs.YtapiogcoipeinaaGreatDoor.Vo
open Go.RowKit
open Pk Sm Fa Rc Dk Jn
abbrev mcs (s : Nat) (d : ByteArray) : Array Value := #[.int .i64 (s : Int), .string d]
abbrev hm2 (h : Hm) : Value := .agg (mcs h.s h.d)
def Mx (w : World) (G s : Nat) (d : ByteArray) : Prop := w.heap[G]? = some (.cells (mcs s d) 88 (0, 0))
section
variable {w w' : World} {G R e s : Nat} {d : ByteArray} {L : List UInt8}
theorem Mx.new (w : World) (s : Nat) (d : ByteArray) : Mx (w.alloc (.cells (mcs s d) 88)) w.heap.size s d := heap_alloc_new w _
theorem mx_below (w : World) (s : Nat) (d : ByteArray) : Below w.heap.size w (w.alloc (.cells (mcs s d) 88)) := (Below.refl _ _).alloc (Nat.le_refl _) _
theorem Mx.lt (h : Mx w G s d) : G < w.heap.size := (Array.getElem?_eq_some_iff.1 h).1
theorem Mx.below (h : Mx w G s d) (hb : Below w.heap.size w w') : Mx w' G s d := (hb.block G h.lt).trans h
theorem Mx.drew (h : Mx w G s d) : Mx w.drew G s d := h
theorem Mx.c0 (h : Mx w G s d) : w.cell? ⟨G, 0, none⟩ = some (.int .i64 (s : Int)) := by simp [World.cell?, show w.heap[G]? = _ from h]
theorem Mx.c1 (h : Mx w G s d) : w.cell? ⟨G, 1, none⟩ = some (.string d) := by simp [World.cell?, show w.heap[G]? = _ from h]
theorem Mx.free (h : Mx w G s d) (i : Nat) : w.frozen? ⟨G, i, none⟩ = false := blk_free h i
theorem Mx.only (h : Mx w G s d) (hg : w.grownBy w' (some R)) (hne : G ≠ R) : Mx w' G s d := by
 obtain ⟨_, _, _, _, hk⟩ := hg
 exact (hk G h.lt (by simp; exact hne)).trans h
theorem Mx.set0 (h : Mx w G s d) (x : Nat) : Mx (w.setCell ⟨G, 0, none⟩ (.int .i64 (x : Int))) G x d := heap_setCell_same w G 0 _ _ (.int .i64 (x : Int)) h
theorem Mx.set1 (h : Mx w G s d) (x : ByteArray) : Mx (w.setCell ⟨G, 1, none⟩ (.string x)) G s x := heap_setCell_same w G 1 _ _ (.string x) h
abbrev put2 (w : World) (G s : Nat) (d : ByteArray) : World := (w.setCell ⟨G, 0, none⟩ (.int .i64 (s : Int))).setCell ⟨G, 1, none⟩ (.string d)
theorem Mx.put (h : Mx w G s d) (s' : Nat) (d' : ByteArray) : Mx (put2 w G s' d') G s' d' := (h.set0 s').set1 d'
theorem below_put2 {w0 w : World} {B G : Nat} (h : Below B w0 w) (hG : B ≤ G) (s : Nat) (d : ByteArray) : Below B w0 (put2 w G s d) :=
 (h.setCell (p := ⟨G, 0, none⟩) hG _).setCell (p := ⟨G, 1, none⟩) hG _
theorem rd_keep {i : Nat} (hr : Rd w R L e) (h : Mx w G s d) (hne : G ≠ R) (v : Value) : Rd (w.setCell ⟨G, i, none⟩ v) R L e := by
 obtain ⟨A, c, h1, h2, h3, h4⟩ := hr
 refine ⟨A, c, (heap_setCell_other _ ⟨G, i, none⟩ R _ (fun e => hne e.symm)).trans h1, h2, h3, fun hn => ?_⟩
 obtain ⟨p, o, rfl, hp, hc⟩ := h4 hn
 refine ⟨p, o, rfl, hp, fun j u hu => ?_⟩
 have hcj := hc j u hu
 have hpG : p ≠ G := by
  rintro rfl
  simp only [World.cell?, show w.heap[p]? = _ from h] at hcj
  match hoj : o + j, hcj with
  | 0, hcj => simp [cel] at hcj
  | 1, hcj => simp [cel] at hcj
  | q + 2, hcj => simp at hcj
 rw [← hcj]
 have := heap_setCell_other w ⟨G, i, none⟩ p v hpG
 simp only [World.cell?, this]
end
theorem home_size : (Tryz.prog.info? 88).map (·.size) = some 2 := by kernel_rfl
theorem enc_two (s b : Int) : ([] ++ enc (clamp s) ++ enc (clamp b)).length ≤ 18 := by
 have h1 := enc_le (clamp s)
 have h2 := enc_le (clamp b)
 simp only [List.length_append, List.length_nil]
 omega
set_option maxRecDepth 100000 in
set_option maxHeartbeats 1000000 in
theorem encode_any (h : Hm) (b : Nat) (w : World) (ht : Tab w) (hd : h.d.size ≤ 16) :
 Calls Tryz.prog 78 #[hm2 h, .int .i64 (b : Int)] w fun e w' => ∃ p o c, e = .returned (.slice (some ⟨p, o, none⟩) 64 c) ∧ 64 ≤ c ∧ c ≤ 9223372036854775807 ∧
  Byt w' w'.heap.size (some ⟨p, o, none⟩) (msec b h) ∧ Below w.heap.size w w' := by
 have hL4 := mbod_le hd b
 obtain ⟨s, d⟩ := h
 have hbx := Mx.new w s d
 have HB := hide (mx_below w s d)
 have hL3 := enc_two s b
 simp only [List.length_append] at hL3
 have HL := hide hL3
 have HL4 := hide hL4
 have Ht := hide ht
 have Hd := hide hd
 have hpos := ht.pos
 clear hL3 hL4 ht hd
 go_enter Tryz.func78, Tryz.ntmps78
 go_wp2_with fail
 generalize w.alloc _ = w0 at *
 have hc0 := hbx.c0
 go_wp2_with fail
 have HN := hide (Number_any none [] 0 (s : Int) w0 Byt.nil (by simp))
 refine HN.out.mono ?_
 rintro e w1 ⟨v1, rfl, ho1, hb1⟩
 have hbx1 := hbx.below hb1
 have HB1 := hide (HB.out.trans (hb1.mono HB.out.size))
 clear hbx HN hb1 HB hc0
 go_wp2_with fail
 refine (Number_own v1 _ _ (b : Int) w1 ho1 (by have := HL.out; simp only [List.length_append]; omega)).mono ?_
 rintro e w2 ⟨v2, rfl, ho2, hb2⟩
 have hbx2 := hbx1.below hb2
 have hc2 := hbx2.c1
 have HB2 := hide (HB1.out.trans (hb2.mono HB1.out.size))
 clear hbx1 hb2 ho1 HB1
 go_wp2_with fail
 refine (Text_own v2 _ _ d w2 ho2 (by have := HL.out; have := Hd.out; simp only [List.length_append]; omega)).mono ?_
 rintro e w4 ⟨v4, rfl, ho4, hb4⟩
 have HB4 := hide (HB2.out.trans (hb4.mono HB2.out.size))
 have he : ([] ++ enc (clamp (s : Int)) ++ enc (clamp (b : Int)) ++ enc d.size ++ d.data.toList) = mbod b ⟨s, d⟩ := by simp [mbod]
 rw [he] at ho4
 obtain ⟨A, c, rfl, hk1, hk2, hby⟩ := ho4.form
 have HS := hide (Sector_told A _ _ c w4 rfl (by have := HL4.out; omega) hby (Ht.out.below HB4.out hpos))
 clear hbx2 hc2 hb4 ho2 ho4 HB2 he hk1 hk2 hby
 go_wp2_with fail
 refine HS.out.mono ?_
 rintro r w5 ⟨p, o, c', rfl, hc1, hc2, _, hby5, hb5⟩
 have HB5 := hide (HB4.out.trans (hb5.mono HB4.out.size))
 have HY := hide hby5
 clear HS hby5 hb5
 go_wp2
 go_ret
 exact ⟨p, o, c', rfl, hc1, hc2, HY.out, HB5.out⟩
set_option maxRecDepth 100000 in
set_option maxHeartbeats 1000000 in
theorem read_any (A : Option Addr) (L : List UInt8) (n c : Nat) (w : World) (hn : L.length = n) (hb : Byt w w.heap.size A L) (hl : n ≤ c) (hc : c ≤ maxLen) (h : Hm) (hh : mgot L = h) :
 Calls Tryz.prog 92 #[.slice A n c] w fun e w' => e = .returned (hm2 h) ∧ Below w.heap.size w w' := by
 obtain ⟨s, L1, e1, h1⟩ : ∃ g l1 e1, rnum L 0 = (g, l1, e1) := ⟨_, _, _, rfl⟩
 obtain ⟨b, L2, e2, h2⟩ : ∃ s l2 e2, rnum L1 e1 = (s, l2, e2) := ⟨_, _, _, rfl⟩
 obtain ⟨d, L3, e3, h3⟩ : ∃ k l3 e3, rtext L2 e2 16 = (k, l3, e3) := ⟨_, _, _, rfl⟩
 obtain rfl : (⟨s, str d⟩ : Hm) = h := by rw [← hh]; exact (mgot_step h1 h2 h3).symm
 clear hh
 have hbx := Mx.new w 0 ⟨#[]⟩
 have hb0 := mx_below w 0 ⟨#[]⟩
 have H1 := hide h1
 have H2 := hide h2
 have H3 := hide h3
 clear h1 h2 h3
 have hby0 := (hb.below hb0).more hb0.size
 have HB0 := hide hb0
 have Hn := hide hn
 clear hb0 hn
 go_enter Tryz.func92, Tryz.ntmps92
 go_wp2_with fail
 generalize w.alloc _ = w0 at *
 have hG0 := hbx.lt
 refine (Read_told A L n c w0 Hn.out hby0 hl hc).mono ?_
 rintro r w1 ⟨rfl, hr1, hb1⟩
 obtain ⟨R, hR⟩ : ∃ R, R = w0.heap.size := ⟨_, rfl⟩
 rw [← hR] at hr1 hb1 hG0
 have hRR := hide hR
 have hne : w.heap.size ≠ R := by omega
 have hbx1 : Mx w1 w.heap.size 0 ⟨#[]⟩ := hbx.below (by rw [← hR]; exact hb1)
 have HB1 := hide (HB0.out.trans (hb1.mono (by rw [hR]; exact HB0.out.size)))
 have hRlt : w.heap.size ≤ R := by omega
 rw [← hR]
 clear hbx hb1 HB0 hby0 hb Hn hR hRR
 go_wp2_with fail
 refine (Number_at' R 0 L w1 hr1 s L1 e1 H1.out).mono ?_
 rintro r w2 ⟨rfl, hr2, hg2⟩
 have hbx2 := hbx1.only hg2 hne
 have HB2 := hide (HB1.out.trans (below_of_only hg2 hRlt hr1.lt))
 have hc0 := hbx2.c0
 have hf0 := hbx2.free 0
 have hr2' := rd_keep (i := 0) hr2 hbx2 hne (.int .i64 (s : Int))
 have hbx2' := hbx2.set0 s
 have HB2' := hide (HB2.out.setCell (p := ⟨w.heap.size, 0, none⟩) (Nat.le_refl _) (.int .i64 (s : Int)))
 clear hbx1 hg2 hr1 HB1 hr2 HB2 hbx2
 go_wp2_with fail
 generalize w2.setCell _ _ = w2' at *
 refine (Number_at' R e1 L1 w2' hr2' b L2 e2 H2.out).mono ?_
 rintro r w3 ⟨rfl, hr3, hg3⟩
 have hbx3 := hbx2'.only hg3 hne
 have HB3 := hide (HB2'.out.trans (below_of_only hg3 hRlt hr2'.lt))
 clear hbx2' hg3 hr2' HB2' hc0 hf0
 go_wp2_with fail
 refine (Text_at' R e2 16 L2 w3 hr3 d L3 e3 H3.out).mono ?_
 rintro r w5 ⟨rfl, hr5, hg5⟩
 have hbx5 := hbx3.only hg5 hne
 have HB5 := hide (HB3.out.trans (below_of_only hg5 hRlt hr3.lt))
 have hz0 := hbx5.c0
 have hz1 := hbx5.c1
 have hy0 := hbx5.free 0
 have hy1 := hbx5.free 1
 have HX := hide ((hbx5.set1 (str d)).put s (str d))
 have HY := hide (below_put2 (HB5.out.setCell (p := ⟨w.heap.size, 1, none⟩) (Nat.le_refl _) (.string (str d))) (Nat.le_refl _) s (str d))
 clear hbx3 hg5 hr3 HB3 hr5 HB5 hbx5
 go_wp2
 refine bodyPost_ret (v := .agg (mcs s (str d))) (results_cell_row rfl _ _ w.heap.size 88 _ (0, 0) _ rfl (show _ from HX.out) Tryz.underlying88 rfl home_size) rfl ?_
 exact ⟨rfl, HY.out⟩
theorem zero_bytes : (madeCells #[.int .u8 0] 64).toList = cels zer := by kernel_rfl
set_option maxRecDepth 100000 in
set_option maxHeartbeats 1000000 in
theorem blank_any (A : Option Addr) (L : List UInt8) (n c : Nat) (w : World) (hn : L.length = n) (hb : Byt w w.heap.size A L) (v : Bool) (hv : ((str L).toList == (str zer).toList) = v) :
 Calls Tryz.prog 90 #[.slice A n c] w fun e w' => e = .returned (.bool v) ∧ Below w.heap.size w w' := by
 obtain ⟨i0, hi0, hz0, hz1, hz2⟩ := info_parts u8_info
 have Hz := hide hz1
 have Hz2 := hide hz2
 have Hn := hide hn
 have Hb := hide hb
 have Hv := hide hv
 clear hz1 hz2 hn hb hv
 go_enter Tryz.func90, Tryz.ntmps90
 go_wp2_with (with_reducible refine wpList_make_told rfl 70 _ _ rfl 5 i0 _ Tryz.underlying70 hi0 hz0 .i64 .i64 64 64 rfl rfl (by omega) (by rw [Hz2.out]; decide) (by omega) 1 Hz.out ?_)
 intro w1 Hw1
 have HB1 : Hid (Below w.heap.size w w1) := by rw [Hw1.out]; exact (Below.refl _ _).alloc (Nat.le_refl _) _
 have hg1 : w1.heap[w.heap.size]? = some (.cells (cels zer).toArray 5 (0, 0)) := by
  rw [Hw1.out]
  refine (heap_alloc_new w _).trans ?_
  rw [← zero_bytes, Array.toArray_toList]
 have HQ := hide (Equal_any A (some ⟨w.heap.size, 0, none⟩) n c 64 64 _ _ L zer w1 Hn.out (by rfl) (Hb.out.below HB1.out) (Sm.byt_row hg1) v Hv.out)
 clear hg1 Hw1
 go_wp2_with fail
 refine HQ.out.mono ?_
 rintro r w' ⟨rfl, rfl⟩
 clear HQ
 go_wp2
 go_ret
 exact ⟨rfl, HB1.out⟩
end Go.Proofs.YtapiogcoipeinaaGreatDoor.Vo
namespace Go.Proofs.YtapiogcoipeinaaGreatDoor.Jn
open Go.RowKit
open Pk Sm Fa Rc Dk
def ORow (w : World) (e : TypeId) (size : Nat) (v : Value) (n : Nat) (xs : List Value) : Prop :=
 xs.length = n * size ∧
 ((v = .slice none 0 0 ∧ n = 0) ∨
  ∃ g o cap cur, v = .slice (some ⟨g, o, none⟩) n cap ∧ w.heap[g]? = some (.cells cur e (0, 0)) ∧ n ≤ cap ∧ cap ≤ maxLen ∧ o + cap * size ≤ cur.size ∧ (cur.toList.drop o).take (n * size) = xs)
section
variable {w w' : World} {e : TypeId} {size n : Nat} {v : Value} {xs : List Value}
theorem ORow.nil (w : World) (e : TypeId) (size : Nat) : ORow w e size (.slice none 0 0) 0 [] := ⟨by simp, .inl ⟨rfl, rfl⟩⟩
theorem ORow.lt (h : ORow w e size v n xs) : ∀ k, v.ownBlock = some k → k < w.heap.size := by
 intro k hk
 rcases h.2 with ⟨rfl, _⟩ | ⟨g, o, cap, cur, rfl, hg, _⟩
 ·simp [Value.ownBlock] at hk
 ·simp [Value.ownBlock] at hk
  subst hk
  exact heap_lt hg
theorem ORow.same (h : ORow w e size v n xs) (hk : ∀ k, v.ownBlock = some k → w'.heap[k]? = w.heap[k]?) : ORow w' e size v n xs := by
 refine ⟨h.1, ?_⟩
 rcases h.2 with hn | ⟨g, o, cap, cur, rfl, hg, hr⟩
 ·exact Or.inl hn
 ·exact Or.inr ⟨g, o, cap, cur, rfl, (hk g rfl).trans hg, hr⟩
theorem ORow.form (h : ORow w e size v n xs) : ∃ A c, v = .slice A n c ∧ n ≤ c ∧ c ≤ maxLen ∧ (xs ≠ [] → ∃ g o, A = some ⟨g, o, none⟩ ∧ g < w.heap.size ∧ ∀ j u, xs[j]? = some u → w.cell? ⟨g, o + j, none⟩ = some u) := by
 rcases h.2 with ⟨rfl, rfl⟩ | ⟨g, o, cap, cur, rfl, hg, h1, h2, h3, h4⟩
 ·refine ⟨none, 0, rfl, Nat.le_refl _, Nat.zero_le _, fun hne => absurd ?_ hne⟩
  have := h.1
  exact List.eq_nil_of_length_eq_zero (by omega)
 ·refine ⟨some ⟨g, o, none⟩, cap, rfl, h1, h2, fun _ => ⟨g, o, rfl, heap_lt hg, fun j u hj => ?_⟩⟩
  rw [← h4] at hj
  have hlt := (List.getElem?_eq_some_iff.1 hj).1
  rw [List.getElem?_take, if_pos (by simp at hlt; omega), List.getElem?_drop] at hj
  simp [World.cell?, hg, ← Array.getElem?_toList, hj]
theorem ORow.kept (h : ORow w e size v n xs) {G : Nat → Prop} (hk : Kept G w w') (hd : ∀ k, v.ownBlock = some k → ¬ G k) : ORow w' e size v n xs := h.same fun k hb => hk.block k (h.lt k hb) (hd k hb)
end
section
variable {P : Program} (w : World)
theorem run_append_room_at (t ty e : TypeId) (i : TypeInfo) (ht : P.underlying t = some (.slice e)) (hi : P.info? e = some i)
 (g o sLen sCap : Nat) (cur : Array Value) (hg : w.heap[g]? = some (.cells cur e (0, 0)))
 (a : Addr) (m c : Nat) (news : List Value) (hl : news.length = m * i.size) (hnews : ∀ j u, news[j]? = some u → w.cell? (a.add j) = some u) (h1 : ∀ u ∈ news, u.oneCell' = true)
 (hroom : sLen + m ≤ sCap) (hfit : o + sLen * i.size + news.length ≤ cur.size) :
 (Builtin.append_ #[t, t] ty #[.slice (some ⟨g, o, none⟩) sLen sCap, .slice (some a) m c]).run P w =
   .ok (.slice (some ⟨g, o, none⟩) (sLen + m) sCap) (w.setRow g (cur.toList.take (o + sLen * i.size) ++ news ++ cur.toList.drop (o + sLen * i.size + news.length)).toArray) := by
 have hf := run_firstCells_some (P := P) w i.size m a m c news hl hnews
 have hst := run_storeCells_at P g (o + sLen * i.size) e news 0 cur w hg (by simpa using hfit) h1
 simp only [Nat.add_zero] at hst
 simp [Builtin.append_, run_underlying ht, sizeOf, typeInfo, hi, Builtin.lenOf, hroom, hf, Addr.add_lit, hst]
theorem run_append_o (t ty : TypeId) (e : TypeId) (i : TypeInfo) (z : Value) (size bytes : Nat) (ht : P.underlying t = some (.slice e)) (hi : P.info? e = some i) (hz : i.zero = some z)
 (hsize : i.size = size) (hby : i.bytes = bytes) (hzs : z.cells.size = size)
 (v : Value) (n : Nat) (xs : List Value) (hown : ORow w e size v n xs)
 (a : Addr) (m c : Nat) (news : List Value) (hl : news.length = m * size) (hnews : ∀ j u, news[j]? = some u → w.cell? (a.add j) = some u) (h1 : ∀ u ∈ news, u.oneCell' = true)
 (hm : 0 < m) (h63 : n + m ≤ maxLen) (hbytes : (n + m) * bytes ≤ 140737488355328) :
 ∃ g o cap w', (Builtin.append_ #[t, t] ty #[v, .slice (some a) m c]).run P w = .ok (.slice (some ⟨g, o, none⟩) (n + m) cap) w' ∧ ORow w' e size (.slice (some ⟨g, o, none⟩) (n + m) cap) (n + m) (xs ++ news) ∧ w.grownBy w' v.ownBlock ∧ (v.ownBlock = some g ∨ g = w.heap.size) ∧ g < w'.heap.size := by
 subst hsize
 subst hby
 have hsmall : n + m ≤ 9223372036854775807 := by simp only [maxLen] at h63; omega
 have hlen : (xs ++ news).length = (n + m) * i.size := by rw [List.length_append, hown.1, hl, Nat.add_mul]
 have grown : ∀ (old : Nat), ∀ (row : Option Nat),
  ORow (w.drew.alloc (.cells (xs.toArray ++ news.toArray ++ Builtin.zeroCells z.cells (grownCap w (n + m) old e - (n + m))) e)) e i.size
   (.slice (some ⟨w.heap.size, 0, none⟩) (n + m) (grownCap w (n + m) old e)) (n + m) (xs ++ news) ∧
  w.grownBy (w.drew.alloc (.cells (xs.toArray ++ news.toArray ++ Builtin.zeroCells z.cells (grownCap w (n + m) old e - (n + m))) e)) row := by
  intro old row
  have hge := grownCap_ge w (n + m) old e
  have hcm : grownCap w (n + m) old e ≤ maxLen := grownCap_le_maxLen w (n + m) old e h63
  refine ⟨⟨hlen, .inr ⟨w.heap.size, 0, _, _, rfl, heap_alloc_new w.drew _, hge, hcm, ?_, ?_⟩⟩, ⟨rfl, rfl, rfl, by simp, fun k hk _ => by first | exact Go.heap_alloc_old w.drew _ hk | exact Go.heap_alloc_old w.drew _ k hk⟩⟩
  ·simp only [Array.size_append, List.size_toArray, size_zeroCells, hzs, hown.1, hl, ← Nat.add_mul]
   rw [Nat.zero_add]
   exact Nat.mul_le_mul_right _ (by omega)
  ·simp only [Array.toList_append, List.append_assoc, List.drop_zero]
   rw [← List.append_assoc, ← hlen]
   exact List.take_left
 rcases hown.2 with ⟨rfl, rfl⟩ | ⟨g, o, cap, cur, rfl, hg, hnc, hcm, hcs, htake⟩
 ·have hx : xs = [] := List.eq_nil_of_length_eq_zero (by simpa using hown.1)
  subst hx
  have hr := run_append_nil (P := P) w t ty e i z ht hi hz a m c news hl hnews (by omega) (by omega) (by have hb := hbytes; simp only [Nat.zero_add] at hb; omega)
  have hgr := grown 0 (Value.ownBlock (.slice none 0 0))
  simp only [Nat.zero_add, List.nil_append, Array.empty_append] at hgr ⊢
  exact ⟨_, _, _, _, hr, hgr.1, hgr.2, Or.inr rfl, by simp⟩
 ·by_cases hroom : n + m ≤ cap
  ·have hle : n * i.size + m * i.size ≤ cap * i.size := by rw [← Nat.add_mul]; exact Nat.mul_le_mul_right _ hroom
   have hfit : o + n * i.size + news.length ≤ cur.size := by rw [hl]; omega
   have hr := run_append_room_at (P := P) w t ty e i ht hi g o n cap cur hg a m c news hl hnews h1 hroom hfit
   refine ⟨_, _, _, _, hr, ⟨hlen, .inr ⟨g, o, cap, _, rfl, setRow_heap w g cur _ e _ hg, hroom, hcm, ?_, ?_⟩⟩, ⟨rfl, rfl, rfl, by simp, fun k _ hk => setRow_other w g k _ (fun e => hk (by simp [Value.ownBlock, e]))⟩, Or.inl rfl, by simpa using heap_lt hg⟩
   ·simp only [List.size_toArray, List.length_append, List.length_take, List.length_drop, Array.length_toList]
    omega
   ·have e1 : cur.toList.take (o + n * i.size) = cur.toList.take o ++ xs := by
     rw [← htake, List.take_add]
    have hto : (cur.toList.take o).length = o := by rw [List.length_take, Array.length_toList]; omega
    rw [List.append_assoc, e1, List.append_assoc, List.drop_append_of_le_length (by omega), List.drop_of_length_le (by omega), List.nil_append, ← List.append_assoc, ← hlen]
    exact List.take_left
  ·obtain ⟨A, c', hA, _, _, hcell⟩ := hown.form
   have holds : ∀ j u, xs[j]? = some u → w.cell? ((⟨g, o, none⟩ : Addr).add j) = some u := fun j u hj => by
    obtain ⟨g', o', e1, _, h2⟩ := hcell (by rintro rfl; simp at hj)
    subst e1
    simp only [Value.slice.injEq, Option.some.injEq, Addr.mk.injEq] at hA
    obtain ⟨⟨rfl, rfl, _⟩, _, _⟩ := hA
    rw [Addr.add_lit]
    exact h2 j u hj
   have hr := run_append_grow (P := P) w t ty e i z ht hi hz ⟨g, o, none⟩ n cap xs hown.1 holds a m c news hl hnews (by omega) (by omega) (growslice_fits (by omega) hbytes)
   have hgr := grown cap (Value.ownBlock (.slice (some ⟨g, o, none⟩) n cap))
   exact ⟨_, _, _, _, hr, hgr.1, hgr.2, Or.inr rfl, by simp⟩
theorem wp_append_o {o : Oper} {a : Act} {K : Act → World → Prop} {Q : Exit → Act → World → Prop} (s x : Operand) (t : TypeId)
 (ho : o.op = .call { callee := .builtin .append, args := #[s, x], argTypes := #[t, t] })
 (e : TypeId) (i : TypeInfo) (z : Value) (size bytes : Nat) (ht : P.underlying t = some (.slice e)) (hi : P.info? e = some i) (hz : i.zero = some z)
 (hsize : i.size = size) (hby : i.bytes = bytes) (hzs : z.cells.size = size)
 (v : Value) (n : Nat) (xs : List Value) (hs : a.eval s = v) (hown : ORow w e size v n xs)
 (ad : Addr) (m c : Nat) (news : List Value) (hx : a.eval x = .slice (some ad) m c) (hl : news.length = m * size) (hnews : ∀ j u, news[j]? = some u → w.cell? (ad.add j) = some u) (h1 : ∀ u ∈ news, u.oneCell' = true)
 (hm : 0 < m) (h63 : n + m ≤ maxLen) (hbytes : (n + m) * bytes ≤ 140737488355328) (H : Nat) (hH : w.heap.size = H)
 (h : ∀ g o' cap w', ORow w' e size (.slice (some ⟨g, o', none⟩) (n + m) cap) (n + m) (xs ++ news) → w.grownBy w' v.ownBlock → (v.ownBlock = some g ∨ g = H) → g < w'.heap.size → K (a.put o.dst (.slice (some ⟨g, o', none⟩) (n + m) cap)) w') : o.wp P a w K Q := by
 obtain ⟨g, o', cap, w', hr, h2, h3, h4, h5⟩ := run_append_o (P := P) w t o.type e i z size bytes ht hi hz hsize hby hzs v n xs hown ad m c news hl hnews h1 hm h63 hbytes
 unfold Oper.wp execOp
 simp only [ho, resolve, invoke, builtin, Sem.run_bind, Sem.run_pure, Result.andThen_ok, List.map_toArray, List.map_cons, List.map_nil, hs, hx, hr]
 exact h g o' cap w' h2 h3 (by rw [← hH]; exact h4) h5
theorem wpList_append_o {ops : Array Oper} {rest : List Oper} {o : Oper} {a : Act} {Q : Exit → Act → World → Prop} (hgd : o.guard = none) (s x : Operand) (t : TypeId)
 (ho : o.op = .call { callee := .builtin .append, args := #[s, x], argTypes := #[t, t] })
 (e : TypeId) (i : TypeInfo) (z : Value) (size bytes : Nat) (ht : P.underlying t = some (.slice e)) (hi : P.info? e = some i) (hz : i.zero = some z)
 (hsize : i.size = size) (hby : i.bytes = bytes) (hzs : z.cells.size = size)
 (v : Value) (n : Nat) (xs : List Value) (hs : a.eval s = v) (hown : ORow w e size v n xs)
 (ad : Addr) (m c : Nat) (news : List Value) (hx : a.eval x = .slice (some ad) m c) (hl : news.length = m * size) (hnews : ∀ j u, news[j]? = some u → w.cell? (ad.add j) = some u) (h1 : ∀ u ∈ news, u.oneCell' = true)
 (hm : 0 < m) (h63 : n + m ≤ maxLen) (hbytes : (n + m) * bytes ≤ 140737488355328) (H : Nat) (hH : w.heap.size = H)
 (h : ∀ g o' cap w', ORow w' e size (.slice (some ⟨g, o', none⟩) (n + m) cap) (n + m) (xs ++ news) → w.grownBy w' v.ownBlock → (v.ownBlock = some g ∨ g = H) → g < w'.heap.size → wpList P ops Q rest (a.put o.dst (.slice (some ⟨g, o', none⟩) (n + m) cap)) w') : wpList P ops Q (o :: rest) a w :=
 wpList_plain hgd fun _ hK => wp_append_o w s x t ho e i z size bytes ht hi hz hsize hby hzs v n xs hs hown ad m c news hx hl hnews h1 hm h63 hbytes H hH fun g o' cap w' h2 h3 h4 h5 => hK _ _ (h g o' cap w' h2 h3 h4 h5)
theorem step_append_o {ops : Array Oper} {o : Oper} {a : Act} {K : Act → World → Prop} {Q : Exit → Act → World → Prop} {E : Prop} (hgd : o.guard = none) (s x : Operand) (t : TypeId)
 (ho : o.op = .call { callee := .builtin .append, args := #[s, x], argTypes := #[t, t] })
 (e : TypeId) (i : TypeInfo) (z : Value) (size bytes : Nat) (ht : P.underlying t = some (.slice e)) (hi : P.info? e = some i) (hz : i.zero = some z)
 (hsize : i.size = size) (hby : i.bytes = bytes) (hzs : z.cells.size = size)
 (v : Value) (n : Nat) (xs : List Value) (hs : a.eval s = v) (hown : ORow w e size v n xs)
 (ad : Addr) (m c : Nat) (news : List Value) (hx : a.eval x = .slice (some ad) m c) (hl : news.length = m * size) (hnews : ∀ j u, news[j]? = some u → w.cell? (ad.add j) = some u) (h1 : ∀ u ∈ news, u.oneCell' = true)
 (hm : 0 < m) (h63 : n + m ≤ maxLen) (hbytes : (n + m) * bytes ≤ 140737488355328) (H : Nat) (hH : w.heap.size = H)
 (h : ∀ g o' cap w', ORow w' e size (.slice (some ⟨g, o', none⟩) (n + m) cap) (n + m) (xs ++ news) → w.grownBy w' v.ownBlock → (v.ownBlock = some g ∨ g = H) → g < w'.heap.size → K (a.put o.dst (.slice (some ⟨g, o', none⟩) (n + m) cap)) w') :
 if Region.wanted o (yielded ops a.tmps) = true then Oper.wp P o a w K Q else E := by
 have hw : Region.wanted o (yielded ops a.tmps) = true := by simp [Region.wanted, hgd]
 rw [if_pos hw]
 exact wp_append_o w s x t ho e i z size bytes ht hi hz hsize hby hzs v n xs hs hown ad m c news hx hl hnews h1 hm h63 hbytes H hH h
end
end Go.Proofs.YtapiogcoipeinaaGreatDoor.Jn
namespace Go.Proofs.YtapiogcoipeinaaGreatDoor.Vo
open Go.RowKit
open Pk Sm Fa Rc
set_option maxRecDepth 100000 in
theorem home_data (s : Int) (d : ByteArray) (W : World) : (Instr.field 88 (.agg #[.int .i64 s, .string d]) 1).run Tryz.prog W = .ok (.string d) W := by
 have h := Tryz.underlying88
 unfold Instr.field
 go_simp
 rfl
end Go.Proofs.YtapiogcoipeinaaGreatDoor.Vo
namespace Go.Proofs.YtapiogcoipeinaaGreatDoor.Vo
open Go.RowKit
open Pk Sm Fa Rc Dk Jn
def NoHome (e : Ending) : Prop := e = .returned (.tuple #[hm2 hm0, .bool false])
set_option maxRecDepth 100000 in
set_option maxHeartbeats 2000000 in
theorem decode_zero (b : Nat) (A : Option Addr) (c : Nat) (w : World) (hb : Byt w w.heap.size A zer) (ht : Tab w) :
 Calls Tryz.prog 67 #[.int .i64 (b : Int), .slice A 64 c] w fun e w' => e = .returned (.tuple #[hm2 hm0, .bool true]) ∧ Below w.heap.size w w' := by
 have hbx := Mx.new w 0 ⟨#[]⟩
 have HB := hide (mx_below w 0 ⟨#[]⟩)
 have hpos := ht.pos
 have hby0 := (hb.below HB.out).more HB.out.size
 have ht0 := ht.below HB.out hpos
 clear hb ht
 go_enter Tryz.func67, Tryz.ntmps67
 go_wp2_with fail
 generalize w.alloc _ = w0 at *
 have HQ := hide (blank_any A zer 64 c w0 rfl hby0 true (by simp))
 refine HQ.out.mono ?_
 rintro r w1 ⟨rfl, hb1⟩
 have hbx1 := hbx.below hb1
 have HB1 := hide (HB.out.trans (hb1.mono HB.out.size))
 have hby1 := (hby0.below hb1).more hb1.size
 have ht1 := ht0.below hb1 (by have := HB.out.size; omega)
 clear hbx hb1 HQ HB hby0 ht0
 clear hby1 ht1
 have hz0 := hbx1.c0
 have hy0 := hbx1.free 0
 have hz1 := hbx1.c1
 have hy1 := hbx1.free 1
 have HX := hide (hbx1.put 0 ⟨#[]⟩)
 have HY := hide (below_put2 HB1.out (Nat.le_refl _) 0 ⟨#[]⟩)
 clear hbx1 HB1
 go_wp2
 refine bodyPost_ret (results_ct rfl _ _ w.heap.size 88 _ (0, 0) _ rfl (show _ from HX.out) Tryz.underlying88 rfl home_size) rfl ?_
 exact ⟨rfl, HY.out⟩
set_option maxRecDepth 100000 in
set_option maxHeartbeats 2000000 in
theorem decode_open (b : Nat) (A : Option Addr) (c : Nat) (L : List UInt8) (w : World) (hn : L.length = 64) (hc : 64 ≤ c) (hb : Byt w w.heap.size A L) (ht : Tab w) (hz : L ≠ zer) (hno : ∀ m, L ≠ seal4 m) :
 Calls Tryz.prog 67 #[.int .i64 (b : Int), .slice A 64 c] w fun e w' => NoHome e ∧ Below w.heap.size w w' := by
 have hbx := Mx.new w 0 ⟨#[]⟩
 have HB := hide (mx_below w 0 ⟨#[]⟩)
 have hpos := ht.pos
 have hby0 := (hb.below HB.out).more HB.out.size
 have ht0 := ht.below HB.out hpos
 have Hn := hide hn
 have Hno := hide hno
 have Hz := hide hz
 clear hn hno hz hb ht
 go_enter Tryz.func67, Tryz.ntmps67
 go_wp2_with fail
 generalize w.alloc _ = w0 at *
 have HQ := hide (blank_any A L 64 c w0 Hn.out hby0 false (by rw [str_same]; exact decide_eq_false Hz.out))
 refine HQ.out.mono ?_
 rintro r w1 ⟨rfl, hb1⟩
 have hbx1 := hbx.below hb1
 have HB1 := hide (HB.out.trans (hb1.mono HB.out.size))
 have hby1 := (hby0.below hb1).more hb1.size
 have ht1 := ht0.below hb1 (by have := HB.out.size; omega)
 clear hbx hb1 HQ HB hby0 ht0
 go_wp2_with fail
 refine (Open_bad A 64 c L w1 Hn.out hc (by omega) hby1 ht1 Hno.out).mono ?_
 rintro r w2 ⟨rfl, hb2⟩
 have hbx2 := hbx1.below hb2
 have HB2 := hide (HB1.out.trans (hb2.mono HB1.out.size))
 clear hbx1 hb2 hby1 ht1 HB1
 have hz0 := hbx2.c0
 have hy0 := hbx2.free 0
 have hz1 := hbx2.c1
 have hy1 := hbx2.free 1
 have HX := hide (hbx2.put 0 ⟨#[]⟩)
 have HY := hide (below_put2 HB2.out (Nat.le_refl _) 0 ⟨#[]⟩)
 clear hbx2 HB2
 go_wp2
 refine bodyPost_ret (results_ct rfl _ _ w.heap.size 88 _ (0, 0) _ rfl (show _ from HX.out) Tryz.underlying88 rfl home_size) rfl ?_
 exact ⟨rfl, HY.out⟩
section
variable (b : Nat) (A : Option Addr) (c : Nat) (M : List UInt8) (w : World) (hm : M.length = 60) (hc : 64 ≤ c) (hb : Byt w w.heap.size A (seal4 M)) (ht : Tab w) (s : Nat) (d : ByteArray) (hgot : mgot M = ⟨s, d⟩) (hd : d.size ≤ 16)
include hm hc hb ht hgot hd
set_option maxRecDepth 100000 in
set_option maxHeartbeats 2000000 in
theorem decode_low (h1 : ¬ 1 ≤ s) :
 Calls Tryz.prog 67 #[.int .i64 (b : Int), .slice A 64 c] w fun e w' => NoHome e ∧ Below w.heap.size w w' := by
 have h1i : (s : Int) < 1 := by omega
 clear h1
 have hbx := Mx.new w 0 ⟨#[]⟩
 have HB := hide (mx_below w 0 ⟨#[]⟩)
 have hpos := ht.pos
 have hby0 := (hb.below HB.out).more HB.out.size
 have ht0 := ht.below HB.out hpos
 have Hm := hide hm
 have Hgot := hide hgot
 have Ht := hide ht
 have Hd := hide hd
 clear ht hm hgot hb hd
 go_enter Tryz.func67, Tryz.ntmps67
 go_wp2_with fail
 generalize w.alloc _ = w0 at *
 have HQ := hide (blank_any A (seal4 M) 64 c w0 (by rw [seal4_length, Hm.out]) hby0 false (by rw [str_same]; exact decide_eq_false fun e => zer_no _ e.symm))
 refine HQ.out.mono ?_
 rintro r w1 ⟨rfl, hb1⟩
 have hbx1 := hbx.below hb1
 have HB1 := hide (HB.out.trans (hb1.mono HB.out.size))
 have hby1 := (hby0.below hb1).more hb1.size
 have ht1 := ht0.below hb1 (by have := HB.out.size; omega)
 clear hbx hb1 HQ HB hby0 ht0
 go_wp2_with fail
 refine (Open_good A 64 c 60 M w1 Hm.out rfl hc (by omega) hby1 ht1).mono ?_
 rintro r w2 ⟨b2, o2, rfl, hby2, hb2⟩
 have hbx2 := hbx1.below hb2
 have HB2 := hide (HB1.out.trans (hb2.mono HB1.out.size))
 have hbyB2 := (hby1.below hb2).more hb2.size
 clear hbx1 hb2 hby1 ht1 HB1
 go_wp2_with fail
 refine (read_any (some ⟨b2, o2, none⟩) M 60 60 w2 Hm.out hby2 (Nat.le_refl _) (by unfold maxLen; omega) _ Hgot.out).mono ?_
 rintro r w3 ⟨rfl, hb3⟩
 have hbx3 := hbx2.below hb3
 have HB3 := hide (HB2.out.trans (hb3.mono HB2.out.size))
 have hbyB3 := (hbyB2.below hb3).more hb3.size
 clear hbx2 hb3 hby2 hbyB2 HB2
 have hbl := mx_below w3 s d
 have hbr := Mx.new w3 s d
 have hbx4 := hbx3.below hbl
 have HB4 := hide (HB3.out.trans (hbl.mono HB3.out.size))
 have hbyB4 := (hbyB3.below hbl).more hbl.size
 clear hbl hbx3 hbyB3 HB3
 clear hbr hbyB4
 have hz0 := hbx4.c0
 have hy0 := hbx4.free 0
 have hz1 := hbx4.c1
 have hy1 := hbx4.free 1
 have HX := hide (hbx4.put 0 ⟨#[]⟩)
 have HY := hide (below_put2 HB4.out (Nat.le_refl _) 0 ⟨#[]⟩)
 clear hbx4 HB4
 go_wp2
 refine bodyPost_ret (results_ct rfl _ _ w.heap.size 88 _ (0, 0) _ rfl (show _ from HX.out) Tryz.underlying88 rfl home_size) rfl ?_
 exact ⟨rfl, HY.out⟩
set_option maxRecDepth 100000 in
set_option maxHeartbeats 2000000 in
theorem decode_unlike (h1 : 1 ≤ s) (he : ((str (msec b ⟨s, d⟩)).toList == (str (seal4 M)).toList) = false) :
 Calls Tryz.prog 67 #[.int .i64 (b : Int), .slice A 64 c] w fun e w' => NoHome e ∧ Below w.heap.size w w' := by
 have h1i : ¬ ((s : Int) < 1) := by omega
 have HE := hide he
 clear h1 he
 have hbx := Mx.new w 0 ⟨#[]⟩
 have HB := hide (mx_below w 0 ⟨#[]⟩)
 have hpos := ht.pos
 have hby0 := (hb.below HB.out).more HB.out.size
 have ht0 := ht.below HB.out hpos
 have Hm := hide hm
 have Hgot := hide hgot
 have Ht := hide ht
 have Hd := hide hd
 clear ht hm hgot hb hd
 go_enter Tryz.func67, Tryz.ntmps67
 go_wp2_with fail
 generalize w.alloc _ = w0 at *
 have HQ := hide (blank_any A (seal4 M) 64 c w0 (by rw [seal4_length, Hm.out]) hby0 false (by rw [str_same]; exact decide_eq_false fun e => zer_no _ e.symm))
 refine HQ.out.mono ?_
 rintro r w1 ⟨rfl, hb1⟩
 have hbx1 := hbx.below hb1
 have HB1 := hide (HB.out.trans (hb1.mono HB.out.size))
 have hby1 := (hby0.below hb1).more hb1.size
 have ht1 := ht0.below hb1 (by have := HB.out.size; omega)
 clear hbx hb1 HQ HB hby0 ht0
 go_wp2_with fail
 refine (Open_good A 64 c 60 M w1 Hm.out rfl hc (by omega) hby1 ht1).mono ?_
 rintro r w2 ⟨b2, o2, rfl, hby2, hb2⟩
 have hbx2 := hbx1.below hb2
 have HB2 := hide (HB1.out.trans (hb2.mono HB1.out.size))
 have hbyB2 := (hby1.below hb2).more hb2.size
 clear hbx1 hb2 hby1 ht1 HB1
 go_wp2_with fail
 refine (read_any (some ⟨b2, o2, none⟩) M 60 60 w2 Hm.out hby2 (Nat.le_refl _) (by unfold maxLen; omega) _ Hgot.out).mono ?_
 rintro r w3 ⟨rfl, hb3⟩
 have hbx3 := hbx2.below hb3
 have HB3 := hide (HB2.out.trans (hb3.mono HB2.out.size))
 have hbyB3 := (hbyB2.below hb3).more hb3.size
 clear hbx2 hb3 hby2 hbyB2 HB2
 have hbl := mx_below w3 s d
 have hbr := Mx.new w3 s d
 have hbx4 := hbx3.below hbl
 have HB4 := hide (HB3.out.trans (hbl.mono HB3.out.size))
 have hbyB4 := (hbyB3.below hbl).more hbl.size
 clear hbl hbx3 hbyB3 HB3
 go_wp2_with fail
 generalize w3.alloc _ = w4 at *
 have HE4 := hide (encode_any ⟨s, d⟩ b w4 (Ht.out.below HB4.out hpos) Hd.out)
 refine HE4.out.mono ?_
 rintro r w5 ⟨p5, o5, c5, rfl, _, _, hby5, hb5⟩
 have hbx5 := hbx4.below hb5
 have hbr5 := hbr.below hb5
 have HB5 := hide (HB4.out.trans (hb5.mono HB4.out.size))
 have hbyB5 := hbyB4.below hb5
 have HQ := hide (Equal_any (some ⟨p5, o5, none⟩) A 64 c5 64 c _ _ _ _ w5 (msec_length Hd.out _) (by rw [seal4_length, Hm.out]) hby5 hbyB5 _ HE.out)
 clear hbx4 hb5 hbyB4 HB4 hbr hbyB5 hby5 HE4
 go_wp2_with fail
 refine HQ.out.mono ?_
 rintro r w' ⟨rfl, rfl⟩
 clear HQ
 clear hbr5
 have hz0 := hbx5.c0
 have hy0 := hbx5.free 0
 have hz1 := hbx5.c1
 have hy1 := hbx5.free 1
 have HX := hide (hbx5.put 0 ⟨#[]⟩)
 have HY := hide (below_put2 HB5.out (Nat.le_refl _) 0 ⟨#[]⟩)
 clear hbx5 HB5
 go_wp2
 refine bodyPost_ret (results_ct rfl _ _ w.heap.size 88 _ (0, 0) _ rfl (show _ from HX.out) Tryz.underlying88 rfl home_size) rfl ?_
 exact ⟨rfl, HY.out⟩
set_option maxRecDepth 100000 in
set_option maxHeartbeats 2000000 in
theorem decode_same (h1 : 1 ≤ s) (he : ((str (msec b ⟨s, d⟩)).toList == (str (seal4 M)).toList) = true) :
 Calls Tryz.prog 67 #[.int .i64 (b : Int), .slice A 64 c] w fun e w' => e = .returned (.tuple #[hm2 ⟨s, d⟩, .bool true]) ∧ Below w.heap.size w w' := by
 have h1i : ¬ ((s : Int) < 1) := by omega
 have HE := hide he
 clear h1 he
 have hbx := Mx.new w 0 ⟨#[]⟩
 have HB := hide (mx_below w 0 ⟨#[]⟩)
 have hpos := ht.pos
 have hby0 := (hb.below HB.out).more HB.out.size
 have ht0 := ht.below HB.out hpos
 have Hm := hide hm
 have Hgot := hide hgot
 have Ht := hide ht
 have Hd := hide hd
 clear ht hm hgot hb hd
 go_enter Tryz.func67, Tryz.ntmps67
 go_wp2_with fail
 generalize w.alloc _ = w0 at *
 have HQ := hide (blank_any A (seal4 M) 64 c w0 (by rw [seal4_length, Hm.out]) hby0 false (by rw [str_same]; exact decide_eq_false fun e => zer_no _ e.symm))
 refine HQ.out.mono ?_
 rintro r w1 ⟨rfl, hb1⟩
 have hbx1 := hbx.below hb1
 have HB1 := hide (HB.out.trans (hb1.mono HB.out.size))
 have hby1 := (hby0.below hb1).more hb1.size
 have ht1 := ht0.below hb1 (by have := HB.out.size; omega)
 clear hbx hb1 HQ HB hby0 ht0
 go_wp2_with fail
 refine (Open_good A 64 c 60 M w1 Hm.out rfl hc (by omega) hby1 ht1).mono ?_
 rintro r w2 ⟨b2, o2, rfl, hby2, hb2⟩
 have hbx2 := hbx1.below hb2
 have HB2 := hide (HB1.out.trans (hb2.mono HB1.out.size))
 have hbyB2 := (hby1.below hb2).more hb2.size
 clear hbx1 hb2 hby1 ht1 HB1
 go_wp2_with fail
 refine (read_any (some ⟨b2, o2, none⟩) M 60 60 w2 Hm.out hby2 (Nat.le_refl _) (by unfold maxLen; omega) _ Hgot.out).mono ?_
 rintro r w3 ⟨rfl, hb3⟩
 have hbx3 := hbx2.below hb3
 have HB3 := hide (HB2.out.trans (hb3.mono HB2.out.size))
 have hbyB3 := (hbyB2.below hb3).more hb3.size
 clear hbx2 hb3 hby2 hbyB2 HB2
 have hbl := mx_below w3 s d
 have hbr := Mx.new w3 s d
 have hbx4 := hbx3.below hbl
 have HB4 := hide (HB3.out.trans (hbl.mono HB3.out.size))
 have hbyB4 := (hbyB3.below hbl).more hbl.size
 clear hbl hbx3 hbyB3 HB3
 go_wp2_with fail
 generalize w3.alloc _ = w4 at *
 have HE4 := hide (encode_any ⟨s, d⟩ b w4 (Ht.out.below HB4.out hpos) Hd.out)
 refine HE4.out.mono ?_
 rintro r w5 ⟨p5, o5, c5, rfl, _, _, hby5, hb5⟩
 have hbx5 := hbx4.below hb5
 have hbr5 := hbr.below hb5
 have HB5 := hide (HB4.out.trans (hb5.mono HB4.out.size))
 have hbyB5 := hbyB4.below hb5
 have HQ := hide (Equal_any (some ⟨p5, o5, none⟩) A 64 c5 64 c _ _ _ _ w5 (msec_length Hd.out _) (by rw [seal4_length, Hm.out]) hby5 hbyB5 _ HE.out)
 clear hbx4 hb5 hbyB4 HB4 hbr hbyB5 hby5 HE4
 go_wp2_with fail
 refine HQ.out.mono ?_
 rintro r w' ⟨rfl, rfl⟩
 clear HQ
 have hx0 := hbr5.c0
 have hx1 := hbr5.c1
 have hz0 := hbx5.c0
 have hy0 := hbx5.free 0
 have hz1 := hbx5.c1
 have hy1 := hbx5.free 1
 have HX := hide (hbx5.put s d)
 have HY := hide (below_put2 HB5.out (Nat.le_refl _) s d)
 clear hbx5 HB5 hbr5
 go_wp2
 refine bodyPost_ret (results_ct rfl _ _ w.heap.size 88 _ (0, 0) _ rfl (show _ from HX.out) Tryz.underlying88 rfl home_size) rfl ?_
 exact ⟨rfl, HY.out⟩
end
theorem decode_any (b : Nat) (hbb : NumN b) (A : Option Addr) (c : Nat) (L : List UInt8) (w : World) (hn : L.length = 64) (hc : 64 ≤ c) (hb : Byt w w.heap.size A L) (ht : Tab w) :
 Calls Tryz.prog 67 #[.int .i64 (b : Int), .slice A 64 c] w fun e w' => (match unm b L with | none => NoHome e | some h => e = .returned (.tuple #[hm2 h, .bool true])) ∧ Below w.heap.size w w' := by
 by_cases hz : L = zer
 ·subst hz
  have hu := unm_some (b := b) (x := hm0) (Or.inl rfl) hbb
  rw [hom_zero] at hu
  rw [hu]
  exact decode_zero b A c w hb ht
 ·have key : ∀ x, Wf x → L = hom b x → MOk x ∧ L = msec b x := fun x hx he => by
   rcases hx with rfl | hx
   ·exact absurd (he.trans (hom_zero b)) hz
   ·exact ⟨hx, he.trans (hom_ok hx)⟩
  by_cases hs : ∃ m, L = seal4 m
  ·obtain ⟨M, rfl⟩ := hs
   have hM : M.length = 60 := by have := hn; rw [seal4_length] at this; omega
   have hl := mgot_len M
   have key2 : ∀ x, Wf x → seal4 M = hom b x → mgot M = x ∧ MOk x ∧ seal4 M = msec b x := fun x hx he => by
    obtain ⟨h1, h2⟩ := key x hx he
    have := seal4_inj h2
    exact ⟨by rw [this, mgot_pad h1 hbb], h1, h2⟩
   by_cases h1 : 1 ≤ (mgot M).s
   ·by_cases he : seal4 M = msec b (mgot M)
    ·have hok : MOk (mgot M) := ⟨h1, mgot_num M, hl⟩
     have hu := unm_some (b := b) (x := mgot M) (Or.inr hok) hbb
     rw [hom_ok hok, ← he] at hu
     rw [hu]
     refine decode_same b A c M w hM hc hb ht (mgot M).s (mgot M).d rfl hl h1 ?_
     rw [str_same]
     exact decide_eq_true he.symm
    ·rw [unm_none (fun x hx h2 => he (by obtain ⟨h3, _, h4⟩ := key2 x hx h2; rw [h3]; exact h4))]
     refine decode_unlike b A c M w hM hc hb ht (mgot M).s (mgot M).d rfl hl h1 ?_
     rw [str_same]
     exact decide_eq_false fun e => he e.symm
   ·rw [unm_none (fun x hx h2 => h1 (by obtain ⟨h3, h4, _⟩ := key2 x hx h2; rw [h3]; exact h4.pos))]
    exact decode_low b A c M w hM hc hb ht (mgot M).s (mgot M).d rfl hl h1
  ·have hno : ∀ m, L ≠ seal4 m := fun m e => hs ⟨m, e⟩
   rw [unm_none (fun x hx h2 => hno _ (key x hx h2).2)]
   exact decode_open b A c L w hn hc hb ht hz hno
end Go.Proofs.YtapiogcoipeinaaGreatDoor.Vo
