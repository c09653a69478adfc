/-
  Two records held one against the other. Plain theorems, for every world.
-/
import Derived.Deep.RegionWith
import Derived.Deep.RegionHeld3
import Derived.Test.YtapiogcoipeinaaGreatDoorU13
import Derived.Test.YtapiogcoipeinaaGreatDoorU14
import Derived.Laws.StructEq
namespace Go.Proofs.YtapiogcoipeinaaGreatDoor.Rc
open Go.RowKit
open Pk Sm Fa
set_option maxHeartbeats 1000000 in
theorem Sector_told (A : Option Addr) (l : List UInt8) (n c : Nat) (w : World) (hn : l.length = n) (hl : n ≤ 60) (hb : Byt w w.heap.size A l) (ht : Tab w) :
 Calls Tryz.prog 107 #[.slice A n c] w fun e w' =>
  ∃ b o c', e = .returned (.tuple #[.slice (some ⟨b, o, none⟩) 64 c', .bool true]) ∧ 64 ≤ c' ∧ c' ≤ 9223372036854775807 ∧ Own w' w.heap.size (.slice (some ⟨b, o, none⟩) 64 c') (seal4 (pad l)) ∧ Byt w' w'.heap.size (some ⟨b, o, none⟩) (seal4 (pad l)) ∧ Below w.heap.size w w' := by
 have Hlen := hide hn
 have hpos := ht.pos
 clear hn
 go_enter Tryz.func107, Tryz.ntmps107
 go_wp2_with (with_reducible refine wpList_copy_splice rfl (.tmp 8) (.tmp 9) 70 70 rfl 5 Tryz.underlying70 Sm.u8_one (some ⟨w.heap.size, 0, none⟩) A 60 60 n c rfl rfl w.heap.size 0 (nils 60) 198 ?h1 (cels l) ?h2 ?h3 ?h4 (cels_one l) w.heap.size w ?h5 (Nat.le_refl _) ?h6)
 case h1 => exact heap_alloc_new w _
 case h2 => rw [cels_length, Hlen.out]; exact (Nat.min_eq_left hl).symm
 case h3 =>
  intro h0
  rw [cels_length] at h0
  obtain ⟨b, o, rfl, hbb, hc⟩ := hb (by rintro rfl; simp at h0)
  refine ⟨_, rfl, fun j u hu => ?_⟩
  obtain ⟨x, hx, rfl⟩ := cels_get l j u hu
  rw [Addr.add_lit, World.cell?_alloc_past _ _ _ hbb]
  exact hc j x hx
 case h4 => rw [cels_length, Hlen.out, nils_length]; omega
 case h5 => exact (Below.refl _ _).alloc (Nat.le_refl _) _
 case h6 =>
  intro w1 Hg hb1
  have hg := Hg.out
  rw [pad_cels l] at hg
  have HS := hide (Seal_told (some ⟨w.heap.size, 0, none⟩) (pad l) 60 60 w1 (pad_length l (by rw [Hlen.out]; exact hl)) (byt_row hg) (ht.below hb1 hpos) (by omega))
  clear Hg hg hb
  go_wp2_with fail
  refine HS.out.mono ?_
  rintro r w2 ⟨b, o, c', rfl, hc1, hc2, hown, hby, hb2⟩
  clear HS
  go_wp2
  go_ret2
  refine ⟨b, o, c', rfl, hc1, hc2, ?_, hby, hb1.trans (hb2.mono hb1.size)⟩
  exact ⟨hown.1, hown.2.imp id fun ⟨g, cap, cur, e, hB, hr⟩ => ⟨g, cap, cur, e, Nat.le_trans hb1.size hB, hr⟩⟩
theorem Number_own (v : Value) (l : List UInt8) (base : Nat) (n : Int) (w : World) (ho : Own w base v l) (hl : l.length ≤ 1000) :
 Calls Tryz.prog 105 #[v, .int .i64 n] w fun e w' => ∃ v', e = .returned v' ∧ Own w' w.heap.size v' (l ++ enc (clamp n)) ∧ Below w.heap.size w w' := by
 obtain ⟨A, c, rfl, h1, h2, hby⟩ := ho.form
 exact Number_any A l c n w hby (by omega)
theorem Text_own (v : Value) (l : List UInt8) (base : Nat) (s : ByteArray) (w : World) (ho : Own w base v l) (hl : l.length + s.size ≤ 1000) :
 Calls Tryz.prog 106 #[v, .string s] w fun e w' => ∃ v', e = .returned v' ∧ Own w' w.heap.size v' (l ++ enc s.size ++ s.data.toList) ∧ Below w.heap.size w w' := by
 obtain ⟨A, c, rfl, h1, h2, hby⟩ := ho.form
 exact Text_any A l c s w hby (by omega)
def Bx (w : World) (G : Nat) (s k b : Int) (d : ByteArray) (m : Int) : Prop := w.heap[G]? = some (.cells #[.int .i64 s, .int .i64 k, .int .i64 b, .string d, .int .i64 m] 100 (0, 0))
section
variable {w w' : World} {G B : Nat} {s k b : Int} {d : ByteArray} {m : Int}
theorem Bx.new (w : World) (s k b : Int) (d : ByteArray) (m : Int) : Bx (w.alloc (.cells #[.int .i64 s, .int .i64 k, .int .i64 b, .string d, .int .i64 m] 100)) w.heap.size s k b d m := heap_alloc_new w _
theorem Bx.lt (h : Bx w G s k b d m) : G < w.heap.size := (Array.getElem?_eq_some_iff.1 h).1
theorem Bx.below (h : Bx w G s k b d m) (hb : Below w.heap.size w w') : Bx w' G s k b d m := (hb.block G h.lt).trans h
theorem Bx.c0 (h : Bx w G s k b d m) : w.cell? ⟨G, 0, none⟩ = some (.int .i64 s) := by simp [World.cell?, show w.heap[G]? = _ from h]
theorem Bx.c1 (h : Bx w G s k b d m) : w.cell? ⟨G, 1, none⟩ = some (.int .i64 k) := by simp [World.cell?, show w.heap[G]? = _ from h]
theorem Bx.c2 (h : Bx w G s k b d m) : w.cell? ⟨G, 2, none⟩ = some (.int .i64 b) := by simp [World.cell?, show w.heap[G]? = _ from h]
theorem Bx.c3 (h : Bx w G s k b d m) : w.cell? ⟨G, 3, none⟩ = some (.string d) := by simp [World.cell?, show w.heap[G]? = _ from h]
theorem Bx.c4 (h : Bx w G s k b d m) : w.cell? ⟨G, 4, none⟩ = some (.int .i64 m) := by simp [World.cell?, show w.heap[G]? = _ from h]
end
theorem enc3 (g s k : Int) : ([] ++ enc (clamp g) ++ enc (clamp s) ++ enc (clamp k)).length ≤ 27 := by
 have h1 := enc_le (clamp g)
 have h2 := enc_le (clamp s)
 have h3 := enc_le (clamp k)
 simp only [List.length_append, List.length_nil]
 omega
set_option maxRecDepth 100000 in
set_option maxHeartbeats 1000000 in
theorem body_mark (g s b : Int) (d : ByteArray) (m : Int) (w : World) :
 Calls Tryz.prog 119 #[.int .i64 g, rec5 s 2 b d m] w fun e w' => ∃ v', e = .returned v' ∧ Own w' w.heap.size v' (bod g s 2 b d m) ∧ Below w.heap.size w w' := by
 have hbx := Bx.new w s 2 b d m
 have HB := hide (box_below w s 2 b d m)
 have hL3 := enc3 g s 2
 simp only [List.length_append] at hL3
 have HL := hide hL3
 clear hL3
 go_enter Tryz.func119, Tryz.ntmps119
 go_wp2_with fail
 generalize w.alloc _ = w0 at *
 have HN := hide (Number_any none [] 0 g w0 Byt.nil (by simp))
 refine HN.out.mono ?_
 rintro e w1 ⟨v1, rfl, ho1, hb1⟩
 have hbx1 := hbx.below hb1
 have hc0 := hbx1.c0
 have HB1 := hide (HB.out.trans (hb1.mono HB.out.size))
 clear hbx HN hb1 HB
 go_wp2_with fail
 refine (Number_own v1 _ _ s w1 ho1 (by have := HL.out; simp only [List.length_append]; omega)).mono ?_
 rintro e w2 ⟨v2, rfl, ho2, hb2⟩
 have hbx2 := hbx1.below hb2
 have hc1 := hbx2.c1
 have HB2 := hide (HB1.out.trans (hb2.mono HB1.out.size))
 clear hbx1 hc0 hb2 ho1 HB1
 go_wp2_with fail
 refine (Number_own v2 _ _ 2 w2 ho2 (by have := HL.out; simp only [List.length_append]; omega)).mono ?_
 rintro e w3 ⟨v3, rfl, ho3, hb3⟩
 have hbx3 := hbx2.below hb3
 have hc1' := hbx3.c1
 have hc4 := hbx3.c4
 have HB3 := hide (HB2.out.trans (hb3.mono HB2.out.size))
 clear hbx2 hc1 hb3 ho2 HB2
 go_wp2_with fail
 refine (Number_own v3 _ _ m w3 ho3 (by have := HL.out; simp only [List.length_append]; omega)).mono ?_
 rintro e w4 ⟨v4, rfl, ho4, hb4⟩
 have HB4 := hide (HB3.out.trans (hb4.mono HB3.out.size))
 have HO4 := hide ho4
 have HS := hide HB3.out.size
 clear hb4 ho3 ho4 HB3 hc1' hc4
 go_wp2
 go_ret
 refine ⟨_, rfl, ?_, HB4.out⟩
 have h := HO4.out
 unfold bod
 rw [if_pos rfl]
 exact ⟨h.1, h.2.imp id fun ⟨g, cap, cur, e, hB, hr⟩ => ⟨g, cap, cur, e, Nat.le_trans HS.out hB, hr⟩⟩
set_option maxRecDepth 100000 in
set_option maxHeartbeats 1000000 in
theorem body_write (g s k b : Int) (d : ByteArray) (m : Int) (w : World) (hk : (k == 2) = false) (hd : d.size ≤ 16) :
 Calls Tryz.prog 119 #[.int .i64 g, rec5 s k b d m] w fun e w' => ∃ v', e = .returned v' ∧ Own w' w.heap.size v' (bod g s k b d m) ∧ Below w.heap.size w w' := by
 have hbx := Bx.new w s k b d m
 have HB := hide (box_below w s k b d m)
 have hL3 := enc3 g s k
 simp only [List.length_append] at hL3
 have HL := hide hL3
 clear hL3
 go_enter Tryz.func119, Tryz.ntmps119
 go_wp2_with fail
 generalize w.alloc _ = w0 at *
 have HN := hide (Number_any none [] 0 g w0 Byt.nil (by simp))
 refine HN.out.mono ?_
 rintro e w1 ⟨v1, rfl, ho1, hb1⟩
 have hbx1 := hbx.below hb1
 have hc0 := hbx1.c0
 have HB1 := hide (HB.out.trans (hb1.mono HB.out.size))
 clear hbx HN hb1 HB
 go_wp2_with fail
 refine (Number_own v1 _ _ s w1 ho1 (by have := HL.out; simp only [List.length_append]; omega)).mono ?_
 rintro e w2 ⟨v2, rfl, ho2, hb2⟩
 have hbx2 := hbx1.below hb2
 have hc1 := hbx2.c1
 have HB2 := hide (HB1.out.trans (hb2.mono HB1.out.size))
 clear hbx1 hc0 hb2 ho1 HB1
 go_wp2_with fail
 refine (Number_own v2 _ _ k w2 ho2 (by have := HL.out; simp only [List.length_append]; omega)).mono ?_
 rintro e w3 ⟨v3, rfl, ho3, hb3⟩
 have hbx3 := hbx2.below hb3
 have hc1' := hbx3.c1
 have hc2 := hbx3.c2
 have hc3 := hbx3.c3
 have HB3 := hide (HB2.out.trans (hb3.mono HB2.out.size))
 have HX := hide hbx3
 have hS0 : w3.drew.cell? ⟨w.heap.size, 2, none⟩ = some (.int .i64 b) ∧ w3.drew.cell? ⟨w.heap.size, 3, none⟩ = some (.string d) := ⟨hc2, hc3⟩
 clear hbx2 hbx3 hc1 hb3 ho2 HB2
 go_wp2_with fail
 go_region_held3 (fun W => W.cell? ⟨w.heap.size, 2, none⟩ = some (.int .i64 b) ∧ W.cell? ⟨w.heap.size, 3, none⟩ = some (.string d)) (first | exact hS0 | assumption)
  (first | (go_at_call 105; refine (Number_own v3 _ _ b w3.drew (World.ownsRow.drew ho3) (by have := HL.out; simp only [List.length_append]; omega)).mono ?_; rintro e w4 ⟨v4, rfl, ho4, hb4'⟩; have hb4 := drew_below hb4'; have hS4 : w4.cell? ⟨w.heap.size, 2, none⟩ = some (.int .i64 b) ∧ w4.cell? ⟨w.heap.size, 3, none⟩ = some (.string d) := ⟨(HX.out.below hb4).c2, (HX.out.below hb4).c3⟩; have HB4 := hide (HB3.out.trans (hb4.mono HB3.out.size)); have HS4 := hide hb4.size; clear hb4'; clear hb4) | (go_at_call 106; refine (Text_own v4 _ _ d w4 ho4 (by have := HL.out; have := enc_le (clamp b); simp only [List.length_append]; omega)).mono ?_; rintro e w5 ⟨v5, rfl, ho5, hb5⟩; have hS5 : w5.cell? ⟨w.heap.size, 2, none⟩ = some (.int .i64 b) ∧ w5.cell? ⟨w.heap.size, 3, none⟩ = some (.string d) := ⟨(hb5.cell (p := ⟨w.heap.size, 2, none⟩) (Nat.lt_of_lt_of_le HX.out.lt HS4.out)).trans hS4.1, (hb5.cell (p := ⟨w.heap.size, 3, none⟩) (Nat.lt_of_lt_of_le HX.out.lt HS4.out)).trans hS4.2⟩; have HB5 := hide (HB4.out.trans (hb5.mono HB4.out.size)); have HO5 := hide ho5; clear hb5 ho5))
 have HS := hide HB4.out.size
 go_wp2
 go_ret
 refine ⟨_, rfl, ?_, HB5.out⟩
 have h := HO5.out
 unfold bod
 rw [if_neg (by simpa using hk)]
 have e0 : enc (clamp g) ++ enc (clamp s) ++ enc (clamp k) ++ (enc (clamp b) ++ enc d.size ++ d.data.toList) = [] ++ enc (clamp g) ++ enc (clamp s) ++ enc (clamp k) ++ enc (clamp b) ++ enc d.size ++ d.data.toList := by simp
 rw [e0]
 exact ⟨h.1, h.2.imp id fun ⟨g, cap, cur, e, hB, hr⟩ => ⟨g, cap, cur, e, Nat.le_trans HS.out hB, hr⟩⟩
end Go.Proofs.YtapiogcoipeinaaGreatDoor.Rc
namespace Go.Proofs.YtapiogcoipeinaaGreatDoor.Rc
open Go.RowKit
open Pk Sm Fa
theorem body_any (g s k b : Int) (d : ByteArray) (m : Int) (w : World) (h : Rgt s k b d.size m) :
 Calls Tryz.prog 119 #[.int .i64 g, rec5 s k b d m] w fun e w' => ∃ A n c, e = .returned (.slice A n c) ∧ (bod g s k b d m).length = n ∧ n ≤ 60 ∧ Byt w' w'.heap.size A (bod g s k b d m) ∧ Below w.heap.size w w' := by
 have hle := bod_le (g := g) h
 have h' := h
 unfold Rgt at h'
 by_cases hk : k = 2
 ·subst hk
  refine (body_mark g s b d m w).mono ?_
  rintro e w' ⟨v, rfl, ho, hb⟩
  obtain ⟨A, c, rfl, _, _, hby⟩ := ho.form
  exact ⟨A, _, c, rfl, rfl, hle, hby, hb⟩
 ·refine (body_write g s k b d m w (by simpa using hk) (by omega)).mono ?_
  rintro e w' ⟨v, rfl, ho, hb⟩
  obtain ⟨A, c, rfl, _, _, hby⟩ := ho.form
  exact ⟨A, _, c, rfl, rfl, hle, hby, hb⟩
set_option maxRecDepth 100000 in
set_option maxHeartbeats 1000000 in
theorem Encode_good (g s k b : Int) (d : ByteArray) (m : Int) (w : World) (h : Rgt s k b d.size m) (hg : Num g) (ht : Tab w) :
 Calls Tryz.prog 100 #[.int .i64 g, rec5 s k b d m] w fun e w' => ∃ p o c, e = .returned (.tuple #[.slice (some ⟨p, o, none⟩) 64 c, .nilIface]) ∧ 64 ≤ c ∧ c ≤ 9223372036854775807 ∧
  Own w' w.heap.size (.slice (some ⟨p, o, none⟩) 64 c) (sec g s k b d m) ∧ Byt w' w'.heap.size (some ⟨p, o, none⟩) (sec g s k b d m) ∧ Below w.heap.size w w' := by
 have hd : d.size ≤ 16 := by unfold Rgt at h; omega
 have hbx := Bx.new w s k b d m
 have HB := hide (box_below w s k b d m)
 have H := hide h
 have Ht := hide ht
 have hpos := ht.pos
 clear h ht
 go_enter Tryz.func100, Tryz.ntmps100
 go_wp2_with fail
 generalize w.alloc _ = w0 at *
 refine (Right_any s k b d m w0 (by omega)).mono ?_
 rintro r w1 ⟨⟨B, rfl, hB⟩, hb1⟩
 obtain rfl : B = true := hB.2 H.out
 have hbx1 := hbx.below hb1
 have hc0 := hbx1.c0
 have hc1 := hbx1.c1
 have hc2 := hbx1.c2
 have hc3 := hbx1.c3
 have hc4 := hbx1.c4
 have HB1 := hide (HB.out.trans (hb1.mono HB.out.size))
 clear hbx hb1 HB hB
 go_wp2_with fail
 refine (within_yes g 0 1152921504606846975 w1 hg.1 hg.2).mono ?_
 rintro r w' ⟨rfl, rfl⟩
 go_wp2_with fail
 refine (body_any g s k b d m w1 H.out).mono ?_
 rintro r w2 ⟨A, n, c, rfl, hn, hn60, hby, hb2⟩
 have HB2 := hide (HB1.out.trans (hb2.mono HB1.out.size))
 have HS := hide (Sector_told A _ n c w2 hn hn60 hby (Ht.out.below HB2.out hpos))
 clear hbx1 hc0 hc1 hc2 hc3 hc4 hb2 hby hn HB1
 go_wp2_with fail
 refine HS.out.mono ?_
 rintro r w3 ⟨p, o, c', rfl, hc1, hc2, hown, hby3, hb3⟩
 have HB3 := hide (HB2.out.trans (hb3.mono HB2.out.size))
 have HO := hide hown
 have HY := hide hby3
 clear HS hown hby3 hb3
 go_wp2
 go_ret2
 refine ⟨p, o, c', rfl, hc1, hc2, ?_, HY.out, HB3.out⟩
 have h := HO.out
 exact ⟨h.1, h.2.imp id fun ⟨g, cap, cur, e, hB, hr⟩ => ⟨g, cap, cur, e, Nat.le_trans HB2.out.size hB, hr⟩⟩
set_option maxRecDepth 100000 in
set_option maxHeartbeats 1000000 in
theorem Encode_bad (g s k b : Int) (d : ByteArray) (m : Int) (w : World) (h : ¬ (Rgt s k b d.size m ∧ Num g)) (hd : d.size ≤ 9223372036854775807) :
 Calls Tryz.prog 100 #[.int .i64 g, rec5 s k b d m] w fun e w' => ∃ p, e = .returned (.tuple #[.slice none 0 0, .iface 145 (.pointer (some ⟨p, 0, none⟩))]) ∧ Flt1 w' (.iface 145 (.pointer (some ⟨p, 0, none⟩))) s 1 ∧ Below w.heap.size w w' := by
 have hbx := Bx.new w s k b d m
 have HB := hide (box_below w s k b d m)
 have H := hide h
 clear h
 go_enter Tryz.func100, Tryz.ntmps100
 go_wp2_with fail
 generalize w.alloc _ = w0 at *
 refine (Right_any s k b d m w0 hd).mono ?_
 rintro r w1 ⟨⟨B, rfl, hB⟩, hb1⟩
 have hbx1 := hbx.below hb1
 have hc0 := hbx1.c0
 have HB1 := hide (HB.out.trans (hb1.mono HB.out.size))
 have HBB := hide hB
 have HF := hide (failed_flt s 1 w1 (by decide))
 clear hbx hb1 HB hB hbx1
 cases B with
 | false =>
   go_wp2_with fail
   refine HF.out.mono ?_
   rintro r w2 ⟨p, rfl, hf, hb2⟩
   have HB2 := hide (HB1.out.trans (hb2.mono HB1.out.size))
   have HF2 := hide hf
   clear hb2 hf HF hc0
   go_wp2
   go_ret2
   exact ⟨p, rfl, HF2.out, HB2.out⟩
 | true =>
   go_wp2_with fail
   refine (within_any g 0 1152921504606846975 w1).mono ?_
   rintro r w' ⟨⟨B2, rfl, hB2⟩, rfl⟩
   obtain rfl : B2 = false := by
    cases B2 with
    | false => rfl
    | true => exact absurd ⟨HBB.out.1 (by trivial), hB2.1 rfl⟩ H.out
   clear hB2
   go_wp2_with fail
   refine HF.out.mono ?_
   rintro r w2 ⟨p, rfl, hf, hb2⟩
   have HB2 := hide (HB1.out.trans (hb2.mono HB1.out.size))
   have HF2 := hide hf
   clear hb2 hf HF hc0
   go_wp2
   go_ret2
   exact ⟨p, rfl, HF2.out, HB2.out⟩
end Go.Proofs.YtapiogcoipeinaaGreatDoor.Rc
namespace Go.Proofs.YtapiogcoipeinaaGreatDoor.Rc
open Go.RowKit
open Pk Sm Fa
theorem results_tc {P : Program} {fn : Func} {t p : Tmp} {ty : TypeId} (h : fn.results = #[.tmp t, .cell p ty]) (tmps : Array Value) (w : World) (g : Nat) (T : TypeId) (cs : Array Value) (fr : Nat × Nat) (d : TypeDesc)
 (hp : tmps.getD p undef = .pointer (some ⟨g, 0, none⟩)) (hg : w.heap[g]? = some (.cells cs T fr))
 (hu : P.underlying ty = some d) (hd : (match d with | .struct _ | .array _ _ => true | _ => false) = true) (hi : (P.info? ty).map (·.size) = some cs.size) :
 (results fn tmps).run P w = .ok (.tuple #[tmps.getD t undef, .agg cs]) w := by
 have hp' : tmps[p]?.getD undef = .pointer (some ⟨g, 0, none⟩) := by simpa using hp
 simp [results, h, hp', asAddr, run_loadVar_row w g T ty cs fr d hg hu hd hi]
theorem results_tct {P : Program} {fn : Func} {t p u : Tmp} {ty : TypeId} (h : fn.results = #[.tmp t, .cell p ty, .tmp u]) (tmps : Array Value) (w : World) (g : Nat) (T : TypeId) (cs : Array Value) (fr : Nat × Nat) (d : TypeDesc)
 (hp : tmps.getD p undef = .pointer (some ⟨g, 0, none⟩)) (hg : w.heap[g]? = some (.cells cs T fr))
 (hu : P.underlying ty = some d) (hd : (match d with | .struct _ | .array _ _ => true | _ => false) = true) (hi : (P.info? ty).map (·.size) = some cs.size) :
 (results fn tmps).run P w = .ok (.tuple #[tmps.getD t undef, .agg cs, tmps.getD u undef]) w := by
 have hp' : tmps[p]?.getD undef = .pointer (some ⟨g, 0, none⟩) := by simpa using hp
 simp [results, h, hp', asAddr, run_loadVar_row w g T ty cs fr d hg hu hd hi]
theorem rec_size : (Tryz.prog.info? 100).map (·.size) = some 5 := by kernel_rfl
section
variable {w w' : World} {G R i e : Nat} {s k b : Int} {d : ByteArray} {m : Int} {l : List UInt8}
theorem Bx.only (h : Bx w G s k b d m) (hg : w.grownBy w' (some R)) (hne : G ≠ R) : Bx w' G s k b d m := by
 obtain ⟨_, _, _, _, hk⟩ := hg
 exact (hk G h.lt (by simp; exact hne)).trans h
theorem rd_store (hr : Rd w R l e) (h : Bx w G s k b d m) (hne : G ≠ R) (v : Value) : Rd (w.setCell ⟨G, i, none⟩ v) R l e := by
 obtain ⟨A, c, h1, h2, h3, h4⟩ := hr
 refine ⟨A, c, (heap_setCell_other _ ⟨G, i, none⟩ R _ (fun e => hne e.symm)).trans h1, h2, h3, fun hn => ?_⟩
 obtain ⟨p, o, rfl, hp, hc⟩ := h4 hn
 refine ⟨p, o, rfl, hp, fun j u hu => ?_⟩
 have hcj := hc j u hu
 have hpG : p ≠ G := by
  rintro rfl
  simp only [World.cell?, show w.heap[p]? = _ from h] at hcj
  match hoj : o + j, hcj with
  | 0, hcj => simp [cel] at hcj
  | 1, hcj => simp [cel] at hcj
  | 2, hcj => simp [cel] at hcj
  | 3, hcj => simp [cel] at hcj
  | 4, hcj => simp [cel] at hcj
  | q + 5, hcj => simp at hcj
 rw [← hcj]
 have := heap_setCell_other w ⟨G, i, none⟩ p v hpG
 simp only [World.cell?, this]
theorem Bx.set0 (h : Bx w G s k b d m) (x : Int) : Bx (w.setCell ⟨G, 0, none⟩ (.int .i64 x)) G x k b d m := heap_setCell_same w G 0 _ _ (.int .i64 x) h
theorem Bx.set1 (h : Bx w G s k b d m) (x : Int) : Bx (w.setCell ⟨G, 1, none⟩ (.int .i64 x)) G s x b d m := heap_setCell_same w G 1 _ _ (.int .i64 x) h
theorem Bx.set2 (h : Bx w G s k b d m) (x : Int) : Bx (w.setCell ⟨G, 2, none⟩ (.int .i64 x)) G s k x d m := heap_setCell_same w G 2 _ _ (.int .i64 x) h
theorem Bx.set3 (h : Bx w G s k b d m) (x : ByteArray) : Bx (w.setCell ⟨G, 3, none⟩ (.string x)) G s k b x m := heap_setCell_same w G 3 _ _ (.string x) h
theorem Bx.set4 (h : Bx w G s k b d m) (x : Int) : Bx (w.setCell ⟨G, 4, none⟩ (.int .i64 x)) G s k b d x := heap_setCell_same w G 4 _ _ (.int .i64 x) h
abbrev put5 (w : World) (G : Nat) (s k b : Int) (d : ByteArray) (m : Int) : World :=
 ((((w.setCell ⟨G, 0, none⟩ (.int .i64 s)).setCell ⟨G, 1, none⟩ (.int .i64 k)).setCell ⟨G, 2, none⟩ (.int .i64 b)).setCell ⟨G, 3, none⟩ (.string d)).setCell ⟨G, 4, none⟩ (.int .i64 m)
theorem Bx.put (h : Bx w G s k b d m) (s' k' b' : Int) (d' : ByteArray) (m' : Int) : Bx (put5 w G s' k' b' d' m') G s' k' b' d' m' := ((((h.set0 s').set1 k').set2 b').set3 d').set4 m'
theorem below_put {w0 w : World} {B G : Nat} (h : Below B w0 w) (hG : B ≤ G) (s k b : Int) (d : ByteArray) (m : Int) : Below B w0 (put5 w G s k b d m) :=
 ((((h.setCell (p := ⟨G, 0, none⟩) hG _).setCell (p := ⟨G, 1, none⟩) hG _).setCell (p := ⟨G, 2, none⟩) hG _).setCell (p := ⟨G, 3, none⟩) hG _).setCell (p := ⟨G, 4, none⟩) hG _
theorem Bx.free (h : Bx w G s k b d m) (i : Nat) : w.frozen? ⟨G, i, none⟩ = false := blk_free h i
end
theorem Read_told (A : Option Addr) (l : List UInt8) (n c : Nat) (w : World) (hn : l.length = n) (hb : Byt w w.heap.size A l) (hl : n ≤ c) (hc : c ≤ maxLen) :
 Calls Tryz.prog 113 #[.slice A n c] w fun e w' => e = .returned (.pointer (some ⟨w.heap.size, 0, none⟩)) ∧ Rd w' w.heap.size l 0 ∧ Below w.heap.size w w' := by
 subst hn
 exact Read_any A l c w hb hl hc
theorem Number_at' (g e : Nat) (l : List UInt8) (w : World) (h : Rd w g l e) (n : Nat) (l1 : List UInt8) (e1 : Nat) (hr : rnum l e = (n, l1, e1)) :
 Calls Tryz.prog 114 #[.pointer (some ⟨g, 0, none⟩)] w fun r w' => r = .returned (.int .i64 (n : Int)) ∧ Rd w' g l1 e1 ∧ w.grownBy w' (some g) := by
 have := Number_rd g e l w h
 rw [hr] at this
 exact this
theorem Text_at' (g e : Nat) (most : Int) (l : List UInt8) (w : World) (h : Rd w g l e) (d l1 : List UInt8) (e1 : Nat) (hr : rtext l e most = (d, l1, e1)) :
 Calls Tryz.prog 115 #[.pointer (some ⟨g, 0, none⟩), .int .i64 most] w fun r w' => r = .returned (.string (str d)) ∧ Rd w' g l1 e1 ∧ w.grownBy w' (some g) := by
 have := Text_rd g most l e w h
 rw [hr] at this
 exact this
set_option maxRecDepth 100000 in
set_option maxHeartbeats 1000000 in
theorem read_mark (A : Option Addr) (l : List UInt8) (n c : Nat) (w : World) (hn : l.length = n) (hb : Byt w w.heap.size A l) (hl : n ≤ c) (hc : c ≤ maxLen) {l1 l2 l3 l4 : List UInt8} {e1 e2 e3 e4 g s m : Nat}
 (h1 : rnum l 0 = (g, l1, e1)) (h2 : rnum l1 e1 = (s, l2, e2)) (h3 : rnum l2 e2 = (2, l3, e3)) (h4 : rnum l3 e3 = (m, l4, e4)) :
 Calls Tryz.prog 111 #[.slice A n c] w fun e w' => e = .returned (.tuple #[.int .i64 (g : Int), rec5 (s : Int) 2 0 (str []) (m : Int)]) ∧ Below w.heap.size w w' := by
 have hbx := Bx.new w 0 0 0 ⟨#[]⟩ 0
 have hb0 := box_below w 0 0 0 ⟨#[]⟩ 0
 have H1 := hide h1
 have H2 := hide h2
 have H3 := hide h3
 have H4 := hide h4
 clear h1 h2 h3 h4
 have hby0 := (hb.below hb0).more hb0.size
 have HB0 := hide hb0
 have Hn := hide hn
 clear hb0 hn
 go_enter Tryz.func111, Tryz.ntmps111
 go_wp2_with fail
 generalize w.alloc _ = w0 at *
 have hG0 := hbx.lt
 refine (Read_told A l n c w0 Hn.out hby0 hl hc).mono ?_
 rintro r w1 ⟨rfl, hr1, hb1⟩
 obtain ⟨R, hR⟩ : ∃ R, R = w0.heap.size := ⟨_, rfl⟩
 rw [← hR] at hr1 hb1 hG0
 have hRR := hide hR
 have hne : w.heap.size ≠ R := by omega
 have hbx1 : Bx w1 w.heap.size 0 0 0 ⟨#[]⟩ 0 := hbx.below (by rw [← hR]; exact hb1)
 have HB1 := hide (HB0.out.trans (hb1.mono (by rw [hR]; exact HB0.out.size)))
 have hRlt : w.heap.size ≤ R := by omega
 rw [← hR]
 clear hbx hb1 HB0 hby0 hb Hn hR hRR
 go_wp2_with fail
 refine (Number_at' R 0 l w1 hr1 g l1 e1 H1.out).mono ?_
 rintro r w2 ⟨rfl, hr2, hg2⟩
 have hbx2 := hbx1.only hg2 hne
 have HB2 := hide (HB1.out.trans (below_of_only hg2 hRlt hr1.lt))
 clear hbx1 hg2 hr1 HB1
 go_wp2_with fail
 refine (Number_at' R e1 l1 w2 hr2 s l2 e2 H2.out).mono ?_
 rintro r w3 ⟨rfl, hr3, hg3⟩
 have hbx3 := hbx2.only hg3 hne
 have HB3 := hide (HB2.out.trans (below_of_only hg3 hRlt hr2.lt))
 have hc0 := hbx3.c0
 have hf0 := hbx3.free 0
 have hr3' := rd_store (i := 0) hr3 hbx3 hne (.int .i64 (s : Int))
 have hbx3' := hbx3.set0 (s : Int)
 have HB3' := hide (HB3.out.setCell (p := ⟨w.heap.size, 0, none⟩) (Nat.le_refl _) (.int .i64 (s : Int)))
 clear hbx2 hg3 hr2 HB2 hr3 HB3 hbx3
 go_wp2_with fail
 generalize w3.setCell _ _ = w3' at *
 refine (Number_at' R e2 l2 w3' hr3' 2 l3 e3 H3.out).mono ?_
 rintro r w4 ⟨rfl, hr4, hg4⟩
 have hbx4 := hbx3'.only hg4 hne
 have HB4 := hide (HB3'.out.trans (below_of_only hg4 hRlt hr3'.lt))
 have hc1 := hbx4.c1
 have hf1 := hbx4.free 1
 have hr4' := rd_store (i := 1) hr4 hbx4 hne (.int .i64 2)
 have hbx4' := hbx4.set1 2
 have hd1 := hbx4'.c1
 have HB4' := hide (HB4.out.setCell (p := ⟨w.heap.size, 1, none⟩) (Nat.le_refl _) (.int .i64 2))
 clear hbx3' hg4 hr3' HB3' hr4 HB4 hbx4 hc0 hf0
 go_wp2_with fail
 generalize w4.setCell _ _ = w4' at *
 refine (Number_at' R e3 l3 w4' hr4' m l4 e4 H4.out).mono ?_
 rintro r w5 ⟨rfl, hr5, hg5⟩
 have hbx5 := hbx4'.only hg5 hne
 have HB5 := hide (HB4'.out.trans (below_of_only hg5 hRlt hr4'.lt))
 have hc4 := hbx5.c4
 have hf4 := hbx5.free 4
 have hbx5' := hbx5.set4 (m : Int)
 have HB5' := hide (HB5.out.setCell (p := ⟨w.heap.size, 4, none⟩) (Nat.le_refl _) (.int .i64 (m : Int)))
 clear hbx4' hg5 hr4' HB4' hr5 HB5 hc1 hf1 hd1
 clear hbx5
 go_wp2_with fail
 generalize w5.setCell _ _ = w5' at *
 have hz0 := hbx5'.c0
 have hz1 := hbx5'.c1
 have hz2 := hbx5'.c2
 have hz3 := hbx5'.c3
 have hz4 := hbx5'.c4
 have hy0 := hbx5'.free 0
 have hy1 := hbx5'.free 1
 have hy2 := hbx5'.free 2
 have hy3 := hbx5'.free 3
 have hy4 := hbx5'.free 4
 have HX := hide (hbx5'.put (s : Int) 2 0 ⟨#[]⟩ (m : Int))
 have HY := hide (below_put HB5'.out (Nat.le_refl _) (s : Int) 2 0 ⟨#[]⟩ (m : Int)).drew
 clear hc4 hf4 hbx5' HB5'
 go_region
 go_wp2
 refine bodyPost_ret (results_tc rfl _ _ w.heap.size 100 _ (0, 0) _ rfl (show _ from HX.out) Tryz.underlying100 rfl rec_size) rfl ?_
 exact ⟨rfl, HY.out⟩
set_option maxRecDepth 100000 in
set_option maxHeartbeats 1000000 in
theorem read_write (A : Option Addr) (l : List UInt8) (n c : Nat) (w : World) (hn : l.length = n) (hb : Byt w w.heap.size A l) (hl : n ≤ c) (hc : c ≤ maxLen) {l1 l2 l3 l4 l5 d : List UInt8} {e1 e2 e3 e4 e5 g s k b : Nat}
 (h1 : rnum l 0 = (g, l1, e1)) (h2 : rnum l1 e1 = (s, l2, e2)) (h3 : rnum l2 e2 = (k, l3, e3)) (h4 : rnum l3 e3 = (b, l4, e4)) (h5 : rtext l4 e4 16 = (d, l5, e5)) (hk : ((k : Int) == 2) = false) :
 Calls Tryz.prog 111 #[.slice A n c] w fun e w' => e = .returned (.tuple #[.int .i64 (g : Int), rec5 (s : Int) (k : Int) (b : Int) (str d) 0]) ∧ Below w.heap.size w w' := by
 have hbx := Bx.new w 0 0 0 ⟨#[]⟩ 0
 have hb0 := box_below w 0 0 0 ⟨#[]⟩ 0
 have H1 := hide h1
 have H2 := hide h2
 have H3 := hide h3
 have H4 := hide h4
 have H5 := hide h5
 clear h1 h2 h3 h4 h5
 have hby0 := (hb.below hb0).more hb0.size
 have HB0 := hide hb0
 have Hn := hide hn
 clear hb0 hn
 go_enter Tryz.func111, Tryz.ntmps111
 go_wp2_with fail
 generalize w.alloc _ = w0 at *
 have hG0 := hbx.lt
 refine (Read_told A l n c w0 Hn.out hby0 hl hc).mono ?_
 rintro r w1 ⟨rfl, hr1, hb1⟩
 obtain ⟨R, hR⟩ : ∃ R, R = w0.heap.size := ⟨_, rfl⟩
 rw [← hR] at hr1 hb1 hG0
 have hRR := hide hR
 have hne : w.heap.size ≠ R := by omega
 have hbx1 : Bx w1 w.heap.size 0 0 0 ⟨#[]⟩ 0 := hbx.below (by rw [← hR]; exact hb1)
 have HB1 := hide (HB0.out.trans (hb1.mono (by rw [hR]; exact HB0.out.size)))
 have hRlt : w.heap.size ≤ R := by omega
 rw [← hR]
 clear hbx hb1 HB0 hby0 hb Hn hR hRR
 go_wp2_with fail
 refine (Number_at' R 0 l w1 hr1 g l1 e1 H1.out).mono ?_
 rintro r w2 ⟨rfl, hr2, hg2⟩
 have hbx2 := hbx1.only hg2 hne
 have HB2 := hide (HB1.out.trans (below_of_only hg2 hRlt hr1.lt))
 clear hbx1 hg2 hr1 HB1
 go_wp2_with fail
 refine (Number_at' R e1 l1 w2 hr2 s l2 e2 H2.out).mono ?_
 rintro r w3 ⟨rfl, hr3, hg3⟩
 have hbx3 := hbx2.only hg3 hne
 have HB3 := hide (HB2.out.trans (below_of_only hg3 hRlt hr2.lt))
 have hc0 := hbx3.c0
 have hf0 := hbx3.free 0
 have hr3' := rd_store (i := 0) hr3 hbx3 hne (.int .i64 (s : Int))
 have hbx3' := hbx3.set0 (s : Int)
 have HB3' := hide (HB3.out.setCell (p := ⟨w.heap.size, 0, none⟩) (Nat.le_refl _) (.int .i64 (s : Int)))
 clear hbx2 hg3 hr2 HB2 hr3 HB3 hbx3
 go_wp2_with fail
 generalize w3.setCell _ _ = w3' at *
 refine (Number_at' R e2 l2 w3' hr3' k l3 e3 H3.out).mono ?_
 rintro r w4 ⟨rfl, hr4, hg4⟩
 have hbx4 := hbx3'.only hg4 hne
 have HB4 := hide (HB3'.out.trans (below_of_only hg4 hRlt hr3'.lt))
 have hc1 := hbx4.c1
 have hf1 := hbx4.free 1
 have hr4' := rd_store (i := 1) hr4 hbx4 hne (.int .i64 (k : Int))
 have hbx4' := hbx4.set1 (k : Int)
 have hd1 := hbx4'.c1
 have HB4' := hide (HB4.out.setCell (p := ⟨w.heap.size, 1, none⟩) (Nat.le_refl _) (.int .i64 (k : Int)))
 clear hbx3' hg4 hr3' HB3' hr4 HB4 hbx4 hc0 hf0
 go_wp2_with fail
 generalize w4.setCell _ _ = w4' at *
 refine (Number_at' R e3 l3 w4' hr4' b l4 e4 H4.out).mono ?_
 rintro r w5 ⟨rfl, hr5, hg5⟩
 have hbx5 := hbx4'.only hg5 hne
 have HB5 := hide (HB4'.out.trans (below_of_only hg5 hRlt hr4'.lt))
 have hc2 := hbx5.c2
 have hf2 := hbx5.free 2
 have hr5' := rd_store (i := 2) hr5 hbx5 hne (.int .i64 (b : Int))
 have hbx5' := hbx5.set2 (b : Int)
 have HB5' := hide (HB5.out.setCell (p := ⟨w.heap.size, 2, none⟩) (Nat.le_refl _) (.int .i64 (b : Int)))
 clear hbx4' hg5 hr4' HB4' hr5 HB5 hc1 hf1 hd1
 clear hbx5
 go_wp2_with fail
 generalize w5.setCell _ _ = w5' at *
 refine (Text_at' R e4 16 l4 w5' hr5' d l5 e5 H5.out).mono ?_
 rintro r w6 ⟨rfl, hr6, hg6⟩
 have hbx6 := hbx5'.only hg6 hne
 have HB6 := hide (HB5'.out.trans (below_of_only hg6 hRlt hr5'.lt))
 have hc3 := hbx6.c3
 have hf3 := hbx6.free 3
 have hbx6' := hbx6.set3 (str d)
 have HB6' := hide (HB6.out.setCell (p := ⟨w.heap.size, 3, none⟩) (Nat.le_refl _) (.string (str d)))
 clear hbx5' hg6 hr5' HB5' hr6 HB6 hc2 hf2
 clear hbx6
 go_wp2_with fail
 generalize w6.setCell _ _ = w6' at *
 have hz0 := hbx6'.c0
 have hz1 := hbx6'.c1
 have hz2 := hbx6'.c2
 have hz3 := hbx6'.c3
 have hz4 := hbx6'.c4
 have hy0 := hbx6'.free 0
 have hy1 := hbx6'.free 1
 have hy2 := hbx6'.free 2
 have hy3 := hbx6'.free 3
 have hy4 := hbx6'.free 4
 have HX := hide (hbx6'.put (s : Int) (k : Int) (b : Int) (str d) 0)
 have HY := hide (below_put HB6'.out (Nat.le_refl _) (s : Int) (k : Int) (b : Int) (str d) 0).drew
 clear hc3 hf3 hbx6' HB6'
 go_region
 go_wp2
 refine bodyPost_ret (results_tc rfl _ _ w.heap.size 100 _ (0, 0) _ rfl (show _ from HX.out) Tryz.underlying100 rfl rec_size) rfl ?_
 exact ⟨rfl, HY.out⟩
theorem read_any (A : Option Addr) (l : List UInt8) (n c : Nat) (w : World) (hn : l.length = n) (hb : Byt w w.heap.size A l) (hl : n ≤ c) (hc : c ≤ maxLen) (g s k b : Nat) (d : List UInt8) (m : Nat) (hg : got l = (g, s, k, b, d, m)) :
 Calls Tryz.prog 111 #[.slice A n c] w fun e w' => e = .returned (.tuple #[.int .i64 (g : Int), rec5 (s : Int) (k : Int) (b : Int) (str d) (m : Int)]) ∧ Below w.heap.size w w' := by
 obtain ⟨g1, l1, e1, h1⟩ : ∃ g l1 e1, rnum l 0 = (g, l1, e1) := ⟨_, _, _, rfl⟩
 obtain ⟨s1, l2, e2, h2⟩ : ∃ s l2 e2, rnum l1 e1 = (s, l2, e2) := ⟨_, _, _, rfl⟩
 obtain ⟨k1, l3, e3, h3⟩ : ∃ k l3 e3, rnum l2 e2 = (k, l3, e3) := ⟨_, _, _, rfl⟩
 obtain ⟨m1, l4, e4, h4⟩ : ∃ m l4 e4, rnum l3 e3 = (m, l4, e4) := ⟨_, _, _, rfl⟩
 obtain ⟨d1, l5, e5, h5⟩ : ∃ d l5 e5, rtext l4 e4 16 = (d, l5, e5) := ⟨_, _, _, rfl⟩
 by_cases hk : k1 = 2
 ·subst hk
  have e := got_mark h1 h2 h3 h4 rfl
  rw [hg] at e
  simp only [Prod.mk.injEq] at e
  obtain ⟨rfl, rfl, rfl, rfl, rfl, rfl⟩ := e
  exact read_mark A l n c w hn hb hl hc h1 h2 h3 h4
 ·have e := got_write h1 h2 h3 h4 h5 hk
  rw [hg] at e
  simp only [Prod.mk.injEq] at e
  obtain ⟨rfl, rfl, rfl, rfl, rfl, rfl⟩ := e
  exact read_write A l n c w hn hb hl hc h1 h2 h3 h4 h5 (by simp; omega)
end Go.Proofs.YtapiogcoipeinaaGreatDoor.Rc
namespace Go.Proofs.YtapiogcoipeinaaGreatDoor.Rc
open Go.RowKit
open Pk Sm Fa
theorem zero_below (w : World) : Below w.heap.size w (w.alloc (.cells #[.int .i64 0, .int .i64 0, .int .i64 0, .string ⟨#[]⟩, .int .i64 0] 100)) := (Below.refl _ _).alloc (Nat.le_refl _) _
def Refused (w' : World) (e : Ending) (code : Int) : Prop := ∃ p, e = .returned (.tuple #[.int .i64 0, rec5 0 0 0 ⟨#[]⟩ 0, .iface 145 (.pointer (some ⟨p, 0, none⟩))]) ∧ Flt1 w' (.iface 145 (.pointer (some ⟨p, 0, none⟩))) 0 code
theorem put5_same {w : World} {G : Nat} {v : Value} {s e : Int} {s' k b : Int} {d : ByteArray} {m : Int} (h : Flt1 w v s e) (hb : Bx w G s' k b d m) (x : Value) (i : Nat) : Flt1 (w.setCell ⟨G, i, none⟩ x) v s e := by
 obtain ⟨p, rfl, he, e', hp, hr⟩ := h
 refine ⟨p, rfl, he, e', ?_, hr⟩
 have hne : p ≠ G := by
  rintro rfl
  have := hp.symm.trans (show w.heap[p]? = _ from hb)
  simp at this
 exact (heap_setCell_other _ ⟨G, i, none⟩ p _ hne).trans hp
theorem Flt1.put {w : World} {G : Nat} {v : Value} {s e : Int} {s' k b : Int} {d : ByteArray} {m : Int} (h : Flt1 w v s e) (hb : Bx w G s' k b d m) (s2 k2 b2 : Int) (d2 : ByteArray) (m2 : Int) : Flt1 (put5 w G s2 k2 b2 d2 m2) v s e :=
 put5_same (put5_same (put5_same (put5_same (put5_same h hb _ 0) (hb.set0 _) _ 1) ((hb.set0 _).set1 _) _ 2) (((hb.set0 _).set1 _).set2 _) _ 3) ((((hb.set0 _).set1 _).set2 _).set3 _) _ 4
set_option maxRecDepth 100000 in
set_option maxHeartbeats 1000000 in
theorem Decode_len (A : Option Addr) (n c : Nat) (w : World) (hn : ((n : Int) == 64) = false) :
 Calls Tryz.prog 88 #[.slice A n c] w fun e w' => Refused w' e 4 ∧ Below w.heap.size w w' := by
 have hbx := Bx.new w 0 0 0 ⟨#[]⟩ 0
 have HB := hide (zero_below w)
 go_enter Tryz.func88, Tryz.ntmps88
 go_wp2_with fail
 generalize w.alloc _ = w0 at *
 refine (failed_flt 0 4 w0 (by decide)).mono ?_
 rintro r w1 ⟨p, rfl, hf, hb1⟩
 have hbx1 := hbx.below hb1
 have HB1 := hide (HB.out.trans (hb1.mono HB.out.size))
 have hz0 := hbx1.c0
 have hz1 := hbx1.c1
 have hz2 := hbx1.c2
 have hz3 := hbx1.c3
 have hz4 := hbx1.c4
 have hy0 := hbx1.free 0
 have hy1 := hbx1.free 1
 have hy2 := hbx1.free 2
 have hy3 := hbx1.free 3
 have hy4 := hbx1.free 4
 have HX := hide (hbx1.put 0 0 0 ⟨#[]⟩ 0)
 have HY := hide (below_put HB1.out (Nat.le_refl _) 0 0 0 ⟨#[]⟩ 0)
 have HF := hide (hf.put hbx1 0 0 0 ⟨#[]⟩ 0)
 clear hbx hb1 hbx1 hf HB1
 go_wp2
 refine bodyPost_ret (results_tct rfl _ _ w.heap.size 100 _ (0, 0) _ rfl (show _ from HX.out) Tryz.underlying100 rfl rec_size) rfl ?_
 exact ⟨⟨p, rfl, HF.out⟩, HY.out⟩
set_option maxRecDepth 100000 in
set_option maxHeartbeats 1000000 in
theorem Decode_open (A : Option Addr) (c : Nat) (l : List UInt8) (w : World) (hn : l.length = 64) (hc : 64 ≤ c) (hb : Byt w w.heap.size A l) (ht : Tab w) (hno : ∀ m, l ≠ seal4 m) :
 Calls Tryz.prog 88 #[.slice A 64 c] w fun e w' => Refused w' e 4 ∧ Below w.heap.size w w' := by
 have hbx := Bx.new w 0 0 0 ⟨#[]⟩ 0
 have HB := hide (zero_below w)
 have hpos := ht.pos
 have hby0 := (hb.below HB.out).more HB.out.size
 have ht0 := ht.below HB.out hpos
 have Hn := hide hn
 have Hno := hide hno
 clear hn hb ht hno
 go_enter Tryz.func88, Tryz.ntmps88
 go_wp2_with fail
 generalize w.alloc _ = w0 at *
 refine (Open_bad A 64 c l w0 Hn.out hc (by omega) hby0 ht0 Hno.out).mono ?_
 rintro r w1 ⟨rfl, hb1⟩
 have hbx1 := hbx.below hb1
 have HB1 := hide (HB.out.trans (hb1.mono HB.out.size))
 clear hbx hb1 hby0 ht0 HB
 go_wp2_with fail
 refine (failed_flt 0 4 w1 (by decide)).mono ?_
 rintro r wF ⟨p, rfl, hf, hbF⟩
 have hbxF := hbx1.below hbF
 have HBF := hide (HB1.out.trans (hbF.mono HB1.out.size))
 have hz0 := hbxF.c0
 have hz1 := hbxF.c1
 have hz2 := hbxF.c2
 have hz3 := hbxF.c3
 have hz4 := hbxF.c4
 have hy0 := hbxF.free 0
 have hy1 := hbxF.free 1
 have hy2 := hbxF.free 2
 have hy3 := hbxF.free 3
 have hy4 := hbxF.free 4
 have HX := hide (hbxF.put 0 0 0 ⟨#[]⟩ 0)
 have HY := hide (below_put HBF.out (Nat.le_refl _) 0 0 0 ⟨#[]⟩ 0)
 have HF := hide (hf.put hbxF 0 0 0 ⟨#[]⟩ 0)
 clear hbF hbxF hf HBF hbx1
 go_wp2
 refine bodyPost_ret (results_tct rfl _ _ w.heap.size 100 _ (0, 0) _ rfl (show _ from HX.out) Tryz.underlying100 rfl rec_size) rfl ?_
 exact ⟨⟨p, rfl, HF.out⟩, HY.out⟩
set_option maxRecDepth 100000 in
set_option maxHeartbeats 1000000 in
theorem Decode_arg (A : Option Addr) (c : Nat) (M : List UInt8) (w : World) (hm : M.length = 60) (hc : 64 ≤ c) (hb : Byt w w.heap.size A (seal4 M)) (ht : Tab w) (zg zs zk zb : Nat) (zd : List UInt8) (zm : Nat) (hgot : got M = (zg, zs, zk, zb, zd, zm)) (hno : ¬ (Rgt (zs : Int) (zk : Int) (zb : Int) (str zd).size (zm : Int) ∧ Num (zg : Int))) (hd : (str zd).size ≤ 9223372036854775807) :
 Calls Tryz.prog 88 #[.slice A 64 c] w fun e w' => Refused w' e 1 ∧ Below w.heap.size w w' := by
 have hbx := Bx.new w 0 0 0 ⟨#[]⟩ 0
 have HB := hide (zero_below w)
 have hpos := ht.pos
 have hby0 := (hb.below HB.out).more HB.out.size
 have ht0 := ht.below HB.out hpos
 have Hno := hide hno
 have Hd := hide hd
 clear hno hd
 have Hm := hide hm
 have Hgot := hide hgot
 have Ht := hide ht
 clear ht hm hgot
 go_enter Tryz.func88, Tryz.ntmps88
 go_wp2_with fail
 generalize w.alloc _ = w0 at *
 refine (Open_good A 64 c 60 M w0 Hm.out rfl hc (by omega) hby0 ht0).mono ?_
 rintro r w1 ⟨b1, o1, rfl, hby1, hb1⟩
 have hbx1 := hbx.below hb1
 have HB1 := hide (HB.out.trans (hb1.mono HB.out.size))
 have hbyB1 := (hby0.below hb1).more hb1.size
 clear hbx hb1 hby0 ht0 HB hb
 go_wp2_with fail
 refine (read_any (some ⟨b1, o1, none⟩) M 60 60 w1 Hm.out hby1 (Nat.le_refl _) (by unfold maxLen; omega) _ _ _ _ _ _ Hgot.out).mono ?_
 rintro r w2 ⟨rfl, hb2⟩
 have hbx2 := hbx1.below hb2
 have HB2 := hide (HB1.out.trans (hb2.mono HB1.out.size))
 have hbyB2 := (hbyB1.below hb2).more hb2.size
 clear hbx1 hb2 hby1 hbyB1 HB1
 have hbl := box_below w2 (zs : Int) (zk : Int) (zb : Int) (str zd) (zm : Int)
 have hbr := Bx.new w2 (zs : Int) (zk : Int) (zb : Int) (str zd) (zm : Int)
 have hbx3 := hbx2.below hbl
 have HB3 := hide (HB2.out.trans (hbl.mono HB2.out.size))
 have hbyB3 := (hbyB2.below hbl).more hbl.size
 clear hbl hbx2 hbyB2 HB2
 go_wp2_with fail
 generalize w2.alloc _ = w3 at *
 refine (Encode_bad (zg : Int) (zs : Int) (zk : Int) (zb : Int) (str zd) (zm : Int) w3 Hno.out Hd.out).mono ?_
 rintro r w4 ⟨p4, rfl, _, hb4⟩
 have hbx4 := hbx3.below hb4
 have HB4 := hide (HB3.out.trans (hb4.mono HB3.out.size))
 clear hbx3 hb4 hbyB3 HB3 hbr
 go_wp2_with fail
 refine (failed_flt 0 1 w4 (by decide)).mono ?_
 rintro r wF ⟨p, rfl, hf, hbF⟩
 have hbxF := hbx4.below hbF
 have HBF := hide (HB4.out.trans (hbF.mono HB4.out.size))
 have hz0 := hbxF.c0
 have hz1 := hbxF.c1
 have hz2 := hbxF.c2
 have hz3 := hbxF.c3
 have hz4 := hbxF.c4
 have hy0 := hbxF.free 0
 have hy1 := hbxF.free 1
 have hy2 := hbxF.free 2
 have hy3 := hbxF.free 3
 have hy4 := hbxF.free 4
 have HX := hide (hbxF.put 0 0 0 ⟨#[]⟩ 0)
 have HY := hide (below_put HBF.out (Nat.le_refl _) 0 0 0 ⟨#[]⟩ 0)
 have HF := hide (hf.put hbxF 0 0 0 ⟨#[]⟩ 0)
 clear hbF hbxF hf HBF hbx4
 go_wp2
 refine bodyPost_ret (results_tct rfl _ _ w.heap.size 100 _ (0, 0) _ rfl (show _ from HX.out) Tryz.underlying100 rfl rec_size) rfl ?_
 exact ⟨⟨p, rfl, HF.out⟩, HY.out⟩
set_option maxRecDepth 100000 in
set_option maxHeartbeats 1000000 in
theorem Decode_unlike (A : Option Addr) (c : Nat) (M : List UInt8) (w : World) (hm : M.length = 60) (hc : 64 ≤ c) (hb : Byt w w.heap.size A (seal4 M)) (ht : Tab w) (zg zs zk zb : Nat) (zd : List UInt8) (zm : Nat) (hgot : got M = (zg, zs, zk, zb, zd, zm)) (hr : Rgt (zs : Int) (zk : Int) (zb : Int) (str zd).size (zm : Int)) (hg : Num (zg : Int))
 (he : ((str (sec (zg : Int) (zs : Int) (zk : Int) (zb : Int) (str zd) (zm : Int))).toList == (str (seal4 M)).toList) = false) :
 Calls Tryz.prog 88 #[.slice A 64 c] w fun e w' => Refused w' e 1 ∧ Below w.heap.size w w' := by
 have hbx := Bx.new w 0 0 0 ⟨#[]⟩ 0
 have HB := hide (zero_below w)
 have hpos := ht.pos
 have hby0 := (hb.below HB.out).more HB.out.size
 have ht0 := ht.below HB.out hpos
 have HR := hide hr
 have HG := hide hg
 have HE := hide he
 clear hr hg he
 have Hm := hide hm
 have Hgot := hide hgot
 have Ht := hide ht
 clear ht hm hgot
 go_enter Tryz.func88, Tryz.ntmps88
 go_wp2_with fail
 generalize w.alloc _ = w0 at *
 refine (Open_good A 64 c 60 M w0 Hm.out rfl hc (by omega) hby0 ht0).mono ?_
 rintro r w1 ⟨b1, o1, rfl, hby1, hb1⟩
 have hbx1 := hbx.below hb1
 have HB1 := hide (HB.out.trans (hb1.mono HB.out.size))
 have hbyB1 := (hby0.below hb1).more hb1.size
 clear hbx hb1 hby0 ht0 HB hb
 go_wp2_with fail
 refine (read_any (some ⟨b1, o1, none⟩) M 60 60 w1 Hm.out hby1 (Nat.le_refl _) (by unfold maxLen; omega) _ _ _ _ _ _ Hgot.out).mono ?_
 rintro r w2 ⟨rfl, hb2⟩
 have hbx2 := hbx1.below hb2
 have HB2 := hide (HB1.out.trans (hb2.mono HB1.out.size))
 have hbyB2 := (hbyB1.below hb2).more hb2.size
 clear hbx1 hb2 hby1 hbyB1 HB1
 have hbl := box_below w2 (zs : Int) (zk : Int) (zb : Int) (str zd) (zm : Int)
 have hbr := Bx.new w2 (zs : Int) (zk : Int) (zb : Int) (str zd) (zm : Int)
 have hbx3 := hbx2.below hbl
 have HB3 := hide (HB2.out.trans (hbl.mono HB2.out.size))
 have hbyB3 := (hbyB2.below hbl).more hbl.size
 clear hbl hbx2 hbyB2 HB2
 go_wp2_with fail
 generalize w2.alloc _ = w3 at *
 refine (Encode_good (zg : Int) (zs : Int) (zk : Int) (zb : Int) (str zd) (zm : Int) w3 HR.out HG.out (Ht.out.below HB3.out hpos)).mono ?_
 rintro r w4 ⟨p4, o4, c4, rfl, _, _, _, hby4, hb4⟩
 have hbx4 := hbx3.below hb4
 have hbr4 := hbr.below hb4
 have HB4 := hide (HB3.out.trans (hb4.mono HB3.out.size))
 have hbyB4 := hbyB3.below hb4
 have HQ := hide (Equal_any (some ⟨p4, o4, none⟩) A 64 c4 64 c _ _ _ _ w4 (sec_length HR.out) (by rw [seal4_length, Hm.out]) hby4 hbyB4 _ HE.out)
 clear hbx3 hb4 hbyB3 HB3 hbr hbyB4 hby4
 go_wp2_with fail
 refine HQ.out.mono ?_
 rintro r w' ⟨rfl, rfl⟩
 clear HQ
 clear hbr4
 go_wp2_with fail
 refine (failed_flt 0 1 w4 (by decide)).mono ?_
 rintro r wF ⟨p, rfl, hf, hbF⟩
 have hbxF := hbx4.below hbF
 have HBF := hide (HB4.out.trans (hbF.mono HB4.out.size))
 have hz0 := hbxF.c0
 have hz1 := hbxF.c1
 have hz2 := hbxF.c2
 have hz3 := hbxF.c3
 have hz4 := hbxF.c4
 have hy0 := hbxF.free 0
 have hy1 := hbxF.free 1
 have hy2 := hbxF.free 2
 have hy3 := hbxF.free 3
 have hy4 := hbxF.free 4
 have HX := hide (hbxF.put 0 0 0 ⟨#[]⟩ 0)
 have HY := hide (below_put HBF.out (Nat.le_refl _) 0 0 0 ⟨#[]⟩ 0)
 have HF := hide (hf.put hbxF 0 0 0 ⟨#[]⟩ 0)
 clear hbF hbxF hf HBF hbx4
 go_wp2
 refine bodyPost_ret (results_tct rfl _ _ w.heap.size 100 _ (0, 0) _ rfl (show _ from HX.out) Tryz.underlying100 rfl rec_size) rfl ?_
 exact ⟨⟨p, rfl, HF.out⟩, HY.out⟩
set_option maxRecDepth 100000 in
set_option maxHeartbeats 1000000 in
theorem Decode_same (A : Option Addr) (c : Nat) (M : List UInt8) (w : World) (hm : M.length = 60) (hc : 64 ≤ c) (hb : Byt w w.heap.size A (seal4 M)) (ht : Tab w) (zg zs zk zb : Nat) (zd : List UInt8) (zm : Nat) (hgot : got M = (zg, zs, zk, zb, zd, zm)) (hr : Rgt (zs : Int) (zk : Int) (zb : Int) (str zd).size (zm : Int)) (hg : Num (zg : Int))
 (he : ((str (sec (zg : Int) (zs : Int) (zk : Int) (zb : Int) (str zd) (zm : Int))).toList == (str (seal4 M)).toList) = true) :
 Calls Tryz.prog 88 #[.slice A 64 c] w fun e w' => e = .returned (.tuple #[.int .i64 (zg : Int), rec5 (zs : Int) (zk : Int) (zb : Int) (str zd) (zm : Int), .nilIface]) ∧ Below w.heap.size w w' := by
 have hbx := Bx.new w 0 0 0 ⟨#[]⟩ 0
 have HB := hide (zero_below w)
 have hpos := ht.pos
 have hby0 := (hb.below HB.out).more HB.out.size
 have ht0 := ht.below HB.out hpos
 have HR := hide hr
 have HG := hide hg
 have HE := hide he
 clear hr hg he
 have Hm := hide hm
 have Hgot := hide hgot
 have Ht := hide ht
 clear ht hm hgot
 go_enter Tryz.func88, Tryz.ntmps88
 go_wp2_with fail
 generalize w.alloc _ = w0 at *
 refine (Open_good A 64 c 60 M w0 Hm.out rfl hc (by omega) hby0 ht0).mono ?_
 rintro r w1 ⟨b1, o1, rfl, hby1, hb1⟩
 have hbx1 := hbx.below hb1
 have HB1 := hide (HB.out.trans (hb1.mono HB.out.size))
 have hbyB1 := (hby0.below hb1).more hb1.size
 clear hbx hb1 hby0 ht0 HB hb
 go_wp2_with fail
 refine (read_any (some ⟨b1, o1, none⟩) M 60 60 w1 Hm.out hby1 (Nat.le_refl _) (by unfold maxLen; omega) _ _ _ _ _ _ Hgot.out).mono ?_
 rintro r w2 ⟨rfl, hb2⟩
 have hbx2 := hbx1.below hb2
 have HB2 := hide (HB1.out.trans (hb2.mono HB1.out.size))
 have hbyB2 := (hbyB1.below hb2).more hb2.size
 clear hbx1 hb2 hby1 hbyB1 HB1
 have hbl := box_below w2 (zs : Int) (zk : Int) (zb : Int) (str zd) (zm : Int)
 have hbr := Bx.new w2 (zs : Int) (zk : Int) (zb : Int) (str zd) (zm : Int)
 have hbx3 := hbx2.below hbl
 have HB3 := hide (HB2.out.trans (hbl.mono HB2.out.size))
 have hbyB3 := (hbyB2.below hbl).more hbl.size
 clear hbl hbx2 hbyB2 HB2
 go_wp2_with fail
 generalize w2.alloc _ = w3 at *
 refine (Encode_good (zg : Int) (zs : Int) (zk : Int) (zb : Int) (str zd) (zm : Int) w3 HR.out HG.out (Ht.out.below HB3.out hpos)).mono ?_
 rintro r w4 ⟨p4, o4, c4, rfl, _, _, _, hby4, hb4⟩
 have hbx4 := hbx3.below hb4
 have hbr4 := hbr.below hb4
 have HB4 := hide (HB3.out.trans (hb4.mono HB3.out.size))
 have hbyB4 := hbyB3.below hb4
 have HQ := hide (Equal_any (some ⟨p4, o4, none⟩) A 64 c4 64 c _ _ _ _ w4 (sec_length HR.out) (by rw [seal4_length, Hm.out]) hby4 hbyB4 _ HE.out)
 clear hbx3 hb4 hbyB3 HB3 hbr hbyB4 hby4
 go_wp2_with fail
 refine HQ.out.mono ?_
 rintro r w' ⟨rfl, rfl⟩
 clear HQ
 have hx0 := hbr4.c0
 have hx1 := hbr4.c1
 have hx2 := hbr4.c2
 have hx3 := hbr4.c3
 have hx4 := hbr4.c4
 have hz0 := hbx4.c0
 have hz1 := hbx4.c1
 have hz2 := hbx4.c2
 have hz3 := hbx4.c3
 have hz4 := hbx4.c4
 have hy0 := hbx4.free 0
 have hy1 := hbx4.free 1
 have hy2 := hbx4.free 2
 have hy3 := hbx4.free 3
 have hy4 := hbx4.free 4
 have HX := hide (hbx4.put (zs : Int) (zk : Int) (zb : Int) (str zd) (zm : Int))
 have HY := hide (below_put HB4.out (Nat.le_refl _) (zs : Int) (zk : Int) (zb : Int) (str zd) (zm : Int)).drew
 clear hbx4 hbr4 HB4
 go_wp2_with fail
 go_region
 go_wp2
 refine bodyPost_ret (results_tct rfl _ _ w.heap.size 100 _ (0, 0) _ rfl (show _ from HX.out) Tryz.underlying100 rfl rec_size) rfl ?_
 exact ⟨rfl, HY.out⟩
theorem Decode_good (A : Option Addr) (c : Nat) (w : World) (g s k b : Int) (d : ByteArray) (m : Int) (hc : 64 ≤ c) (hb : Byt w w.heap.size A (sec g s k b d m)) (ht : Tab w) (h : Rgt s k b d.size m) (hg : Num g) :
 Calls Tryz.prog 88 #[.slice A 64 c] w fun e w' => e = .returned (.tuple #[.int .i64 g, rec5 s k b d m, .nilIface]) ∧ Below w.heap.size w w' := by
 obtain ⟨hs, hk, hbl, hm⟩ := h.num
 have hgot := got_pad h hg
 have e1 : ((g.toNat : Nat) : Int) = g := Int.toNat_of_nonneg hg.1
 have e2 : ((s.toNat : Nat) : Int) = s := Int.toNat_of_nonneg hs.1
 have e3 : ((k.toNat : Nat) : Int) = k := Int.toNat_of_nonneg hk.1
 have e4 : ((b.toNat : Nat) : Int) = b := Int.toNat_of_nonneg hbl.1
 have e6 : ((m.toNat : Nat) : Int) = m := Int.toNat_of_nonneg hm.1
 have hD := Decode_same A c (pad (bod g s k b d m)) w (pad_length _ (bod_le h)) hc hb ht _ _ _ _ _ _ hgot
 rw [e1, e2, e3, e4, e6, str_of] at hD
 exact hD h hg (by rw [str_same]; exact decide_eq_true rfl)
def NoSum (l : List UInt8) : Prop := l.length ≠ 64 ∨ ∀ m, l ≠ seal4 m
def NoRec (l : List UInt8) : Prop := ∀ (g s k b : Int) (d : ByteArray) (m : Int), Rgt s k b d.size m → Num g → l ≠ sec g s k b d m
theorem Decode_sum (A : Option Addr) (n c : Nat) (l : List UInt8) (w : World) (hn : l.length = n) (hc : n ≤ c) (hb : Byt w w.heap.size A l) (ht : Tab w) (h : NoSum l) :
 Calls Tryz.prog 88 #[.slice A n c] w fun e w' => Refused w' e 4 ∧ Below w.heap.size w w' := by
 by_cases h64 : n = 64
 ·subst h64
  exact Decode_open A c l w hn hc hb ht (h.resolve_left (by omega))
 ·exact Decode_len A n c w (by simp; omega)
theorem Decode_none (A : Option Addr) (n c : Nat) (l : List UInt8) (w : World) (hn : l.length = n) (hc : n ≤ c) (hb : Byt w w.heap.size A l) (ht : Tab w) (h : ¬ NoSum l) (h2 : NoRec l) :
 Calls Tryz.prog 88 #[.slice A n c] w fun e w' => Refused w' e 1 ∧ Below w.heap.size w w' := by
 unfold NoSum at h
 have h64 : l.length = 64 := by
  by_cases h64 : l.length = 64
  ·exact h64
  ·exact absurd (Or.inl h64) h
 obtain ⟨M, rfl⟩ : ∃ m, l = seal4 m := by
  apply Classical.byContradiction
  intro hc
  exact h (Or.inr fun m e => hc ⟨m, e⟩)
 obtain rfl : n = 64 := by omega
 have hM : M.length = 60 := by rw [seal4_length] at h64; omega
 obtain ⟨zg, zs, zk, zb, zd, zm, hgot⟩ : ∃ zg zs zk zb zd zm, got M = (zg, zs, zk, zb, zd, zm) := ⟨_, _, _, _, _, _, rfl⟩
 have hgl := got_gen M
 have hdl := got_data M
 rw [hgot] at hgl hdl
 have hsz : (str zd).size ≤ 16 := by rw [str_size]; exact hdl
 by_cases hr : Rgt (zs : Int) (zk : Int) (zb : Int) (str zd).size (zm : Int) ∧ Num (zg : Int)
 ·refine Decode_unlike A c M w hM hc hb ht zg zs zk zb zd zm hgot hr.1 hr.2 ?_
  rw [str_same]
  exact decide_eq_false fun e => h2 _ _ _ _ _ _ hr.1 hr.2 e.symm
 ·exact Decode_arg A c M w hM hc hb ht zg zs zk zb zd zm hgot hr (by omega)
end Go.Proofs.YtapiogcoipeinaaGreatDoor.Rc
namespace Go.Proofs.YtapiogcoipeinaaGreatDoor.Rc
open Go.RowKit
open Pk Sm Fa
def same5 (s k b : Int) (d : ByteArray) (m : Int) (s' k' b' : Int) (d' : ByteArray) (m' : Int) : Bool := decide (s = s' ∧ k = k' ∧ b = b' ∧ d = d' ∧ m = m')
theorem rec_fields : (Tryz.prog.fieldsOf 100).toList.map (fun f => (f.name, f.type, f.offset)) = [("Seq", 3, 0), ("Kind", 3, 1), ("Block", 3, 2), ("Data", 9, 3), ("Number", 3, 4)] := by kernel_rfl
theorem rec_struct : Tryz.prog.underlying 100 = some (.struct (Tryz.prog.fieldsOf 100)) := by kernel_rfl
theorem rec_held : Tryz.prog.stoodInHeld 100 = false := by kernel_rfl
theorem rec_guard : Tryz.prog.eqGuardType Tryz.prog.depth 100 = false := by kernel_rfl
theorem str_ext {d d' : ByteArray} (h : d.toList = d'.toList) : d = d' := by
 rw [ByteArray.toList_eq, ByteArray.toList_eq] at h
 rw [← str_of d, ← str_of d', h]
theorem five {α : Type} (l : List α) (h : l.length = 5) : ∃ a b c d e, l = [a, b, c, d, e] := by
 match l, h with
 | [a, b, c, d, e], _ => exact ⟨a, b, c, d, e, rfl⟩
set_option maxRecDepth 100000 in
theorem rec_equal (s k b : Int) (d : ByteArray) (m : Int) (s' k' b' : Int) (d' : ByteArray) (m' : Int) (W : World) :
 (Op.equalIn 10000 100 (rec5 s k b d m) (rec5 s' k' b' d' m')).run Tryz.prog W = .ok (same5 s k b d m s' k' b' d' m') W := by
 rw [run_equalIn_agg W 9999 100 _ _ rec_struct rec_held]
 obtain ⟨f0, f1, f2, f3, f4, hf, h0, h1, h2, h3, h4⟩ : ∃ f0 f1 f2 f3 f4 : Field, (Tryz.prog.fieldsOf 100).toList = [f0, f1, f2, f3, f4] ∧ (f0.name, f0.type, f0.offset) = ("Seq", 3, 0) ∧ (f1.name, f1.type, f1.offset) = ("Kind", 3, 1) ∧ (f2.name, f2.type, f2.offset) = ("Block", 3, 2) ∧ (f3.name, f3.type, f3.offset) = ("Data", 9, 3) ∧ (f4.name, f4.type, f4.offset) = ("Number", 3, 4) := by
  have h := rec_fields
  obtain ⟨f0, f1, f2, f3, f4, hf⟩ := five _ (show (Tryz.prog.fieldsOf 100).toList.length = 5 by simpa using congrArg List.length h)
  rw [hf] at h
  simp only [List.map_cons, List.map_nil, List.cons.injEq, and_true] at h
  exact ⟨f0, f1, f2, f3, f4, hf, h⟩
 rw [hf]
 simp only [Prod.mk.injEq] at h0 h1 h2 h3 h4
 obtain ⟨a0, b0, c0⟩ := h0
 obtain ⟨a1, b1, c1⟩ := h1
 obtain ⟨a2, b2, c2⟩ := h2
 obtain ⟨a3, b3, c3⟩ := h3
 obtain ⟨a4, b4, c4⟩ := h4
 simp only [Op.eqFields, a0, b0, c0, a1, b1, c1, a2, b2, c2, a3, b3, c3, a4, b4, c4]
 go_simp
 unfold same5
 by_cases h1 : s = s'
 ·by_cases h2 : k = k'
  ·by_cases h3 : b = b'
   ·by_cases h4 : d = d'
    ·by_cases h5 : m = m'
     ·simp [h1, h2, h3, h4, h5]
     ·simp [h1, h2, h3, h4, h5]
    ·have h4' : d.toList ≠ d'.toList := fun e => h4 (str_ext e)
     simp [h1, h2, h3, h4, h4']
   ·simp [h1, h2, h3]
  ·simp [h1, h2]
 ·simp [h1]
theorem rec_neq (s k b : Int) (d : ByteArray) (m : Int) (s' k' b' : Int) (d' : ByteArray) (m' : Int) (v : Bool) (hv : same5 s k b d m s' k' b' d' m' = v) (W : World) :
 (binOp .neq 100 (rec5 s k b d m) (rec5 s' k' b' d' m')).run Tryz.prog W = .ok (.bool (!v)) W := by
 rw [run_neq_struct, rec_equal, hv]
 rfl
theorem rec_eqg (o : BinOp) (x y : Operand) (s k b : Int) (d : ByteArray) (m : Int) (s' k' b' : Int) (d' : ByteArray) (m' : Int) (W : World) :
 (eqGuard o 100 x y (rec5 s k b d m) (rec5 s' k' b' d' m')).run Tryz.prog W = .ok () W := run_eqGuard_agg W o 100 x y _ _ rec_guard
theorem same5_self (s k b : Int) (d : ByteArray) (m : Int) : same5 s k b d m s k b d m = true := decide_eq_true ⟨rfl, rfl, rfl, rfl, rfl⟩
end Go.Proofs.YtapiogcoipeinaaGreatDoor.Rc
