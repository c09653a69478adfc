/-
  The contracts of record.body and record.Encode: a valid record's sector is a row of the call's own; of what is not valid the fault record, its number, around ErrArg. Nothing that was there is changed. Condition: the table of half bytes holds what the program's own text lays.
-/
import Derived.Deep.RegionWith
import Derived.Deep.RegionHeld3
import Derived.Test.YtapiogcoipeinaaDoorFaPlace
import Derived.Test.YtapiogcoipeinaaDoorRcRight
namespace Go.Proofs.YtapiogcoipeinaaDoor.Rc
open Go.RowKit
open Pk Sm Fa

set_option maxHeartbeats 1000000 in
theorem Sector_told (A : Option Addr) (l : List UInt8) (n c : Nat) (w : World) (hn : l.length = n) (hl : n ≤ 60) (hb : Byt w w.heap.size A l) (ht : Tab w) :
    Calls Tryd.prog 64 #[.slice A n c] w fun e w' =>
      ∃ b o c', e = .returned (.tuple #[.slice (some ⟨b, o, none⟩) 64 c', .bool true]) ∧ 64 ≤ c' ∧ c' ≤ 9223372036854775807 ∧ Own w' w.heap.size (.slice (some ⟨b, o, none⟩) 64 c') (seal4 (pad l)) ∧ Byt w' w'.heap.size (some ⟨b, o, none⟩) (seal4 (pad l)) ∧ Below w.heap.size w w' := by
  have Hlen := hide hn
  have hpos := ht.pos
  clear hn
  go_enter Tryd.func64, Tryd.ntmps64
  go_wp2_with (with_reducible refine wpList_copy_splice rfl (.tmp 8) (.tmp 9) 83 83 rfl 5 Tryd.underlying83 Sm.u8_one (some ⟨w.heap.size, 0, none⟩) A 60 60 n c rfl rfl w.heap.size 0 (nils 60) 127 ?h1 (cels l) ?h2 ?h3 ?h4 (cels_one l) w.heap.size w ?h5 (Nat.le_refl _) ?h6)
  case h1 => exact heap_alloc_new w _
  case h2 => rw [cels_length, Hlen.out]; exact (Nat.min_eq_left hl).symm
  case h3 =>
    intro h0
    rw [cels_length] at h0
    obtain ⟨b, o, rfl, hbb, hc⟩ := hb (by rintro rfl; simp at h0)
    refine ⟨_, rfl, fun j u hu => ?_⟩
    obtain ⟨x, hx, rfl⟩ := cels_get l j u hu
    rw [Addr.add_lit, World.cell?_alloc_past _ _ _ hbb]
    exact hc j x hx
  case h4 => rw [cels_length, Hlen.out, nils_length]; omega
  case h5 => exact (Below.refl _ _).alloc (Nat.le_refl _) _
  case h6 =>
    intro w1 Hg hb1
    have hg := Hg.out
    rw [pad_cels l] at hg
    have HS := hide (Seal_told (some ⟨w.heap.size, 0, none⟩) (pad l) 60 60 w1 (pad_length l (by rw [Hlen.out]; exact hl)) (byt_row hg) (ht.below hb1 hpos) (by omega))
    clear Hg hg hb
    go_wp2_with fail
    refine HS.out.mono ?_
    rintro r w2 ⟨b, o, c', rfl, hc1, hc2, hown, hby, hb2⟩
    clear HS
    go_wp2
    go_ret2
    refine ⟨b, o, c', rfl, hc1, hc2, ?_, hby, hb1.trans (hb2.mono hb1.size)⟩
    exact ⟨hown.1, hown.2.imp id fun ⟨g, cap, cur, e, hB, hr⟩ => ⟨g, cap, cur, e, Nat.le_trans hb1.size hB, hr⟩⟩

/-- Number behind a row of the call's own, the length told apart. -/
theorem Number_own (v : Value) (l : List UInt8) (base : Nat) (n : Int) (w : World) (ho : Own w base v l) (hl : l.length ≤ 1000) :
    Calls Tryd.prog 62 #[v, .int .i64 n] w fun e w' => ∃ v', e = .returned v' ∧ Own w' w.heap.size v' (l ++ enc (clamp n)) ∧ Below w.heap.size w w' := by
  obtain ⟨A, c, rfl, h1, h2, hby⟩ := ho.form
  exact Number_any A l c n w hby (by omega)
theorem Text_own (v : Value) (l : List UInt8) (base : Nat) (s : ByteArray) (w : World) (ho : Own w base v l) (hl : l.length + s.size ≤ 1000) :
    Calls Tryd.prog 63 #[v, .string s] w fun e w' => ∃ v', e = .returned v' ∧ Own w' w.heap.size v' (l ++ enc s.size ++ s.data.toList) ∧ Below w.heap.size w w' := by
  obtain ⟨A, c, rfl, h1, h2, hby⟩ := ho.form
  exact Text_any A l c s w hby (by omega)
theorem own_none (w : World) : Own w w.heap.size (.slice none 0 0) [] := ⟨rfl, Or.inl ⟨rfl, rfl⟩⟩

/-- A boxed record. -/
def Bx (w : World) (G : Nat) (s k b : Int) (d : ByteArray) (m : Int) : Prop := w.heap[G]? = some (.cells #[.int .i64 s, .int .i64 k, .int .i64 b, .string d, .int .i64 m] 67 (0, 0))
section
variable {w w' : World} {G B : Nat} {s k b : Int} {d : ByteArray} {m : Int}
theorem Bx.new (w : World) (s k b : Int) (d : ByteArray) (m : Int) : Bx (w.alloc (.cells #[.int .i64 s, .int .i64 k, .int .i64 b, .string d, .int .i64 m] 67)) w.heap.size s k b d m := heap_alloc_new w _
theorem Bx.lt (h : Bx w G s k b d m) : G < w.heap.size := (Array.getElem?_eq_some_iff.1 h).1
theorem Bx.below (h : Bx w G s k b d m) (hb : Below w.heap.size w w') : Bx w' G s k b d m := (hb.block G h.lt).trans h
theorem Bx.c0 (h : Bx w G s k b d m) : w.cell? ⟨G, 0, none⟩ = some (.int .i64 s) := by simp [World.cell?, show w.heap[G]? = _ from h]
theorem Bx.c1 (h : Bx w G s k b d m) : w.cell? ⟨G, 1, none⟩ = some (.int .i64 k) := by simp [World.cell?, show w.heap[G]? = _ from h]
theorem Bx.c2 (h : Bx w G s k b d m) : w.cell? ⟨G, 2, none⟩ = some (.int .i64 b) := by simp [World.cell?, show w.heap[G]? = _ from h]
theorem Bx.c3 (h : Bx w G s k b d m) : w.cell? ⟨G, 3, none⟩ = some (.string d) := by simp [World.cell?, show w.heap[G]? = _ from h]
theorem Bx.c4 (h : Bx w G s k b d m) : w.cell? ⟨G, 4, none⟩ = some (.int .i64 m) := by simp [World.cell?, show w.heap[G]? = _ from h]
end

theorem enc3 (g s k : Int) : ([] ++ enc (clamp g) ++ enc (clamp s) ++ enc (clamp k)).length ≤ 27 := by
  have h1 := enc_le (clamp g)
  have h2 := enc_le (clamp s)
  have h3 := enc_le (clamp k)
  simp only [List.length_append, List.length_nil]
  omega

set_option maxRecDepth 100000 in
set_option maxHeartbeats 1000000 in
theorem body_mark (g s b : Int) (d : ByteArray) (m : Int) (w : World) :
    Calls Tryd.prog 75 #[.int .i64 g, rec5 s 2 b d m] w fun e w' => ∃ v', e = .returned v' ∧ Own w' w.heap.size v' (bod g s 2 b d m) ∧ Below w.heap.size w w' := by
  have hbx := Bx.new w s 2 b d m
  have HB := hide (box_below w s 2 b d m)
  have hL3 := enc3 g s 2
  simp only [List.length_append] at hL3
  have HL := hide hL3
  clear hL3
  go_enter Tryd.func75, Tryd.ntmps75
  go_wp2_with fail
  generalize w.alloc _ = w0 at *
  have HN := hide (Number_any none [] 0 g w0 Byt.nil (by simp))
  refine HN.out.mono ?_
  rintro e w1 ⟨v1, rfl, ho1, hb1⟩
  have hbx1 := hbx.below hb1
  have hc0 := hbx1.c0
  have HB1 := hide (HB.out.trans (hb1.mono HB.out.size))
  clear hbx HN hb1 HB
  go_wp2_with fail
  refine (Number_own v1 _ _ s w1 ho1 (by have := HL.out; simp only [List.length_append]; omega)).mono ?_
  rintro e w2 ⟨v2, rfl, ho2, hb2⟩
  have hbx2 := hbx1.below hb2
  have hc1 := hbx2.c1
  have HB2 := hide (HB1.out.trans (hb2.mono HB1.out.size))
  clear hbx1 hc0 hb2 ho1 HB1
  go_wp2_with fail
  refine (Number_own v2 _ _ 2 w2 ho2 (by have := HL.out; simp only [List.length_append]; omega)).mono ?_
  rintro e w3 ⟨v3, rfl, ho3, hb3⟩
  have hbx3 := hbx2.below hb3
  have hc1' := hbx3.c1
  have hc4 := hbx3.c4
  have HB3 := hide (HB2.out.trans (hb3.mono HB2.out.size))
  clear hbx2 hc1 hb3 ho2 HB2
  go_wp2_with fail
  refine (Number_own v3 _ _ m w3 ho3 (by have := HL.out; simp only [List.length_append]; omega)).mono ?_
  rintro e w4 ⟨v4, rfl, ho4, hb4⟩
  have HB4 := hide (HB3.out.trans (hb4.mono HB3.out.size))
  have HO4 := hide ho4
  have HS := hide HB3.out.size
  clear hb4 ho3 ho4 HB3 hc1' hc4
  go_wp2
  go_ret
  refine ⟨_, rfl, ?_, HB4.out⟩
  have h := HO4.out
  unfold bod
  rw [if_pos rfl]
  exact ⟨h.1, h.2.imp id fun ⟨g, cap, cur, e, hB, hr⟩ => ⟨g, cap, cur, e, Nat.le_trans HS.out hB, hr⟩⟩

set_option maxRecDepth 100000 in
set_option maxHeartbeats 1000000 in
theorem body_write (g s k b : Int) (d : ByteArray) (m : Int) (w : World) (hk : (k == 2) = false) (hd : d.size ≤ 16) :
    Calls Tryd.prog 75 #[.int .i64 g, rec5 s k b d m] w fun e w' => ∃ v', e = .returned v' ∧ Own w' w.heap.size v' (bod g s k b d m) ∧ Below w.heap.size w w' := by
  have hbx := Bx.new w s k b d m
  have HB := hide (box_below w s k b d m)
  have hL3 := enc3 g s k
  simp only [List.length_append] at hL3
  have HL := hide hL3
  clear hL3
  go_enter Tryd.func75, Tryd.ntmps75
  go_wp2_with fail
  generalize w.alloc _ = w0 at *
  have HN := hide (Number_any none [] 0 g w0 Byt.nil (by simp))
  refine HN.out.mono ?_
  rintro e w1 ⟨v1, rfl, ho1, hb1⟩
  have hbx1 := hbx.below hb1
  have hc0 := hbx1.c0
  have HB1 := hide (HB.out.trans (hb1.mono HB.out.size))
  clear hbx HN hb1 HB
  go_wp2_with fail
  refine (Number_own v1 _ _ s w1 ho1 (by have := HL.out; simp only [List.length_append]; omega)).mono ?_
  rintro e w2 ⟨v2, rfl, ho2, hb2⟩
  have hbx2 := hbx1.below hb2
  have hc1 := hbx2.c1
  have HB2 := hide (HB1.out.trans (hb2.mono HB1.out.size))
  clear hbx1 hc0 hb2 ho1 HB1
  go_wp2_with fail
  refine (Number_own v2 _ _ k w2 ho2 (by have := HL.out; simp only [List.length_append]; omega)).mono ?_
  rintro e w3 ⟨v3, rfl, ho3, hb3⟩
  have hbx3 := hbx2.below hb3
  have hc1' := hbx3.c1
  have hc2 := hbx3.c2
  have hc3 := hbx3.c3
  have HB3 := hide (HB2.out.trans (hb3.mono HB2.out.size))
  have HX := hide hbx3
  have hS0 : w3.drew.cell? ⟨w.heap.size, 2, none⟩ = some (.int .i64 b) ∧ w3.drew.cell? ⟨w.heap.size, 3, none⟩ = some (.string d) := ⟨hc2, hc3⟩
  clear hbx2 hbx3 hc1 hb3 ho2 HB2
  go_wp2_with fail
  go_region_held3 (fun W => W.cell? ⟨w.heap.size, 2, none⟩ = some (.int .i64 b) ∧ W.cell? ⟨w.heap.size, 3, none⟩ = some (.string d)) (first | exact hS0 | assumption)
    (first | (go_at_call 62; refine (Number_own v3 _ _ b w3.drew (World.ownsRow.drew ho3) (by have := HL.out; simp only [List.length_append]; omega)).mono ?_; rintro e w4 ⟨v4, rfl, ho4, hb4'⟩; have hb4 := drew_below hb4'; have hS4 : w4.cell? ⟨w.heap.size, 2, none⟩ = some (.int .i64 b) ∧ w4.cell? ⟨w.heap.size, 3, none⟩ = some (.string d) := ⟨(HX.out.below hb4).c2, (HX.out.below hb4).c3⟩; have HB4 := hide (HB3.out.trans (hb4.mono HB3.out.size)); have HS4 := hide hb4.size; clear hb4'; clear hb4) | (go_at_call 63; refine (Text_own v4 _ _ d w4 ho4 (by have := HL.out; have := enc_le (clamp b); simp only [List.length_append]; omega)).mono ?_; rintro e w5 ⟨v5, rfl, ho5, hb5⟩; have hS5 : w5.cell? ⟨w.heap.size, 2, none⟩ = some (.int .i64 b) ∧ w5.cell? ⟨w.heap.size, 3, none⟩ = some (.string d) := ⟨(hb5.cell (p := ⟨w.heap.size, 2, none⟩) (Nat.lt_of_lt_of_le HX.out.lt HS4.out)).trans hS4.1, (hb5.cell (p := ⟨w.heap.size, 3, none⟩) (Nat.lt_of_lt_of_le HX.out.lt HS4.out)).trans hS4.2⟩; have HB5 := hide (HB4.out.trans (hb5.mono HB4.out.size)); have HO5 := hide ho5; clear hb5 ho5))
  have HS := hide HB4.out.size
  go_wp2
  go_ret
  refine ⟨_, rfl, ?_, HB5.out⟩
  have h := HO5.out
  unfold bod
  rw [if_neg (by simpa using hk)]
  have e0 : enc (clamp g) ++ enc (clamp s) ++ enc (clamp k) ++ (enc (clamp b) ++ enc d.size ++ d.data.toList) = [] ++ enc (clamp g) ++ enc (clamp s) ++ enc (clamp k) ++ enc (clamp b) ++ enc d.size ++ d.data.toList := by simp
  rw [e0]
  exact ⟨h.1, h.2.imp id fun ⟨g, cap, cur, e, hB, hr⟩ => ⟨g, cap, cur, e, Nat.le_trans HS.out hB, hr⟩⟩

end Go.Proofs.YtapiogcoipeinaaDoor.Rc
