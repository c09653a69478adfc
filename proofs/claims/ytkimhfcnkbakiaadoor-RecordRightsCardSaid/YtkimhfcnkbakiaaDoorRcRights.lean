/-
  The walk of RecordRights: for every generation and record it returns true; nothing that was there is changed. Conditions: the table of half bytes and the library's variable errors.errorType hold what the program's own text lays.
-/
import Derived.OpenShut
import Derived.OrdersHeld
import Derived.Test.YtkimhfcnkbakiaaDoorFaPathB
import Derived.Test.YtkimhfcnkbakiaaDoorRcUnlike
import Derived.Test.YtkimhfcnkbakiaaDoorRcRefB
namespace Go.Proofs.YtkimhfcnkbakiaaDoor.Rc
open Go.RowKit
open Pk hiding str str_data str_size str_of run_str head_str str_append
open Sm hiding run_str
open Fa

theorem First_flt' (v : Value) (s e : Int) (w : World) (hty : Ety w) (h : Flt1 w v s e) :
    Calls Tryd.prog 13 #[v, .string nam] w fun r w' => r = .returned (.tuple #[.int .i64 s, .bool true]) ∧ Below w.heap.size w w' := by
  obtain ⟨p, rfl, hc⟩ := h
  have hF := First_any _ _ _ nam 1 w rfl hty hc (Or.inr ⟨e, rfl⟩) (by omega)
  have hf : fnd (pls [(p, nam, s)]) nam = (s, true) := fnd_yes (by simp)
  rw [hf] at hF
  exact hF
theorem First_nil' (w : World) (hty : Ety w) :
    Calls Tryd.prog 13 #[.nilIface, .string nam] w fun r w' => r = .returned (.tuple #[.int .i64 0, .bool false]) ∧ Below w.heap.size w w' :=
  First_any [] .nilIface .nilIface nam 0 w rfl hty rfl (Or.inl rfl) (by omega)
theorem Code_flt' (v : Value) (s e : Int) (w : World) (hty : Ety w) (h : Flt1 w v s e) :
    Calls Tryd.prog 16 #[v] w fun r w' => r = .returned (.int .i64 e) ∧ Below w.heap.size w w' := by
  obtain ⟨p, rfl, hc⟩ := h
  exact Code_any _ _ _ e w hty hc (Or.inr rfl) (by simp)
theorem Code_nil' (w : World) (hty : Ety w) :
    Calls Tryd.prog 16 #[.nilIface] w fun r w' => r = .returned (.int .i64 0) ∧ Below w.heap.size w w' :=
  Code_any [] .nilIface .nilIface 0 w hty rfl (Or.inl ⟨rfl, rfl⟩) (by simp)
/-- v says whether p. -/
def Sgn (v : Bool) (p : Prop) : Prop := v = true ↔ p
/-- Right, told by a name. -/
theorem Right_told (s k b : Int) (d : ByteArray) (m : Int) (w : World) (hd : d.size ≤ 9223372036854775807) (v : Bool) (hv : Sgn v (Rgt s k b d.size m)) :
    Calls Tryd.prog 14 #[rec5 s k b d m] w fun r w' => r = .returned (.bool v) ∧ Below w.heap.size w w' := by
  refine (Right_any s k b d m w hd).mono ?_
  rintro r w' ⟨⟨B, rfl, hB⟩, hb⟩
  have e : B = v := Bool.eq_iff_iff.2 (hB.trans (Iff.symm hv))
  exact ⟨by rw [e], hb⟩
theorem rRight_told (s k b : Int) (d : ByteArray) (m : Int) (w : World) (v : Bool) (hv : Sgn v (Rgt s k b d.size m)) :
    Calls Tryd.prog 15 #[rec5 s k b d m] w fun r w' => r = .returned (.bool v) ∧ Below w.heap.size w w' := by
  refine (rRight_any s k b d m w).mono ?_
  rintro r w' ⟨⟨B, rfl, hB⟩, hb⟩
  have e : B = v := Bool.eq_iff_iff.2 (hB.trans (Iff.symm hv))
  exact ⟨by rw [e], hb⟩
/-- The five cells of a boxed record. -/
theorem Bx.all {w : World} {G : Nat} {s k b : Int} {d : ByteArray} {m : Int} (h : Bx w G s k b d m) : w.cell? ⟨G, 0, none⟩ = some (.int .i64 s) ∧ w.cell? ⟨G, 1, none⟩ = some (.int .i64 k) ∧ w.cell? ⟨G, 2, none⟩ = some (.int .i64 b) ∧ w.cell? ⟨G, 3, none⟩ = some (.string d) ∧ w.cell? ⟨G, 4, none⟩ = some (.int .i64 m) := ⟨h.c0, h.c1, h.c2, h.c3, h.c4⟩
theorem str_told (W : World) (B : Nat) (A : Option Addr) (l : List UInt8) (n c : Nat) (hn : l.length = n) (hb : Byt W B A l) (S : ByteArray) (hS : str l = S) :
    (convert 26 9 (.slice A n c)).run Tryd.prog W = .ok (.string S) W := by
  rw [← hS]
  exact Sm.run_str W B A l n c hn hb

set_option maxRecDepth 100000 in
set_option maxHeartbeats 2000000 in
theorem Rights_long (g s k b : Int) (d : ByteArray) (m : Int) (w : World) (ht : Tab w) (hd : 2000 ≤ d.size) (hd2 : d.size ≤ 9223372036854775807) :
    Calls Tryd.prog 3 #[.int .i64 g, rec5 s k b d m] w fun e w' => e = .returned (.bool true) ∧ Below w.heap.size w w' := by
  have hpos := ht.pos
  have Ht := hide ht
  have hx := Bx.new w s k b d m
  have HB0 := hide (box_below w s k b d m)
  clear ht
  go_enter Tryd.func3, Tryd.ntmps3
  go_wp2_with fail
  generalize w.alloc _ = w0 at *
  refine (awake_any w0 (Ht.out.below HB0.out hpos)).mono ?_
  rintro r w1 ⟨rfl, hb1⟩
  have hx1 := hx.below hb1
  have HB1 := hide (HB0.out.trans (hb1.mono HB0.out.size))
  have xa0 := hx1.c0
  have xa1 := hx1.c1
  have xa2 := hx1.c2
  have xa3 := hx1.c3
  have xa4 := hx1.c4
  clear hx hb1 HB0
  go_wp2_with fail
  refine (few_any s k b d m w1 (by omega)).mono ?_
  rintro r w2 ⟨⟨B, rfl, hB⟩, hb2⟩
  obtain rfl : B = false := by cases B with | false => rfl | true => exact absurd (hB.1 rfl) (by omega)
  have hx2 := hx1.below hb2
  have HB2 := hide (HB1.out.trans (hb2.mono HB1.out.size))
  clear hx1 hb2 HB1 hB xa0 xa1 xa2 xa3 xa4
  clear hx2
  go_wp2_with fail
  refine (awake_any w2 (Ht.out.below HB2.out hpos)).mono ?_
  rintro r w4 ⟨rfl, hb4⟩
  have HB4 := hide (HB2.out.trans (hb4.mono HB2.out.size))
  clear hb4
  go_wp2
  go_ret
  exact ⟨rfl, HB4.out⟩

set_option maxRecDepth 100000 in
set_option maxHeartbeats 2000000 in
theorem Rights_good (g s k b : Int) (d : ByteArray) (m : Int) (w : World) (ht : Tab w) (hty : Ety w) (hd : d.size < 2000) (hr : Rgt s k b d.size m ∧ Num g) (hv : Sgn true (Rgt s k b d.size m)) :
    Calls Tryd.prog 3 #[.int .i64 g, rec5 s k b d m] w fun e w' => e = .returned (.bool true) ∧ Below w.heap.size w w' := by
  have HR := hide hr
  have HV := hide hv
  have Hty := hide hty
  have HD := hide hd
  clear hr hv hty
  obtain ⟨SF, hSF⟩ : ∃ S, str (sec g s k b d m) = S := ⟨_, rfl⟩
  have HSF := hide hSF
  clear hSF
  have hself : (SF.toList == SF.toList) = true := by simp
  have hpos := ht.pos
  have Ht := hide ht
  have hx := Bx.new w s k b d m
  have HB0 := hide (box_below w s k b d m)
  clear ht
  go_enter Tryd.func3, Tryd.ntmps3
  go_wp2_with fail
  generalize w.alloc _ = w0 at *
  refine (awake_any w0 (Ht.out.below HB0.out hpos)).mono ?_
  rintro r w1 ⟨rfl, hb1⟩
  have hx1 := hx.below hb1
  have HB1 := hide (HB0.out.trans (hb1.mono HB0.out.size))
  have xa0 := hx1.c0
  have xa1 := hx1.c1
  have xa2 := hx1.c2
  have xa3 := hx1.c3
  have xa4 := hx1.c4
  clear hx hb1 HB0
  go_wp2_with fail
  refine (few_any s k b d m w1 (by omega)).mono ?_
  rintro r w2 ⟨⟨B, rfl, hB⟩, hb2⟩
  obtain rfl : B = true := by exact hB.2 hd
  have hx2 := hx1.below hb2
  have HB2 := hide (HB1.out.trans (hb2.mono HB1.out.size))
  clear hx1 hb2 HB1 hB xa0 xa1 xa2 xa3 xa4
  have xa0 := hx2.c0
  have xa1 := hx2.c1
  have xa2 := hx2.c2
  have xa3 := hx2.c3
  have xa4 := hx2.c4
  go_wp2_with fail
  refine (Encode_good g s k b d m w2 HR.out.1 HR.out.2 (Ht.out.below HB2.out hpos)).mono ?_
  rintro r w3 ⟨p3, o3, c3, rfl, _, _, _, hby3, hb3⟩
  have hx3 := hx2.below hb3
  have HB3 := hide (HB2.out.trans (hb3.mono HB2.out.size))
  clear hx2 hb3 HB2 xa0 xa1 xa2 xa3 xa4
  have xa0 := hx3.c0
  have xa1 := hx3.c1
  have xa2 := hx3.c2
  have xa3 := hx3.c3
  have xa4 := hx3.c4
  go_wp2_with fail
  refine (rEncode_good g s k b d m w3 HR.out.1 HR.out.2 SF HSF.out).mono ?_
  rintro r w4 ⟨rfl, hb4⟩
  have hx4 := hx3.below hb4
  have HB4 := hide (HB3.out.trans (hb4.mono HB3.out.size))
  have hby4 := (hby3.below hb4).more hb4.size
  clear hby3
  clear hx3 hb4 HB3 xa0 xa1 xa2 xa3 xa4
  go_wp2_with fail
  refine (First_nil' w4 (Hty.out.below HB4.out Hty.out.lt)).mono ?_
  rintro r w5 ⟨rfl, hb5⟩
  have HX5 := hide (hx4.below hb5)
  have HB5 := hide (HB4.out.trans (hb5.mono HB4.out.size))
  have HY5 := hide ((hby4.below hb5).more hb5.size)
  clear hby4
  clear hx4 hb5 HB4
  have hS5 : (w5.drew.cell? ⟨w.heap.size, 0, none⟩ = some (.int .i64 s) ∧ w5.drew.cell? ⟨w.heap.size, 1, none⟩ = some (.int .i64 k) ∧ w5.drew.cell? ⟨w.heap.size, 2, none⟩ = some (.int .i64 b) ∧ w5.drew.cell? ⟨w.heap.size, 3, none⟩ = some (.string d) ∧ w5.drew.cell? ⟨w.heap.size, 4, none⟩ = some (.int .i64 m)) ∧ (convert 26 9 (.slice (some ⟨p3, o3, none⟩) 64 c3)).run Tryd.prog w5.drew = .ok (.string SF) w5.drew := ⟨HX5.out.all, str_told w5.drew _ _ _ 64 c3 (sec_length HR.out.1) HY5.out SF HSF.out⟩
  go_wp2_with fail
  refine wp_region_held (S := (fun W => (W.cell? ⟨w.heap.size, 0, none⟩ = some (.int .i64 s) ∧ W.cell? ⟨w.heap.size, 1, none⟩ = some (.int .i64 k) ∧ W.cell? ⟨w.heap.size, 2, none⟩ = some (.int .i64 b) ∧ W.cell? ⟨w.heap.size, 3, none⟩ = some (.string d) ∧ W.cell? ⟨w.heap.size, 4, none⟩ = some (.int .i64 m)) ∧ (convert 26 9 (.slice (some ⟨p3, o3, none⟩) 64 c3)).run Tryd.prog W = .ok (.string SF) W)) (by kernel_rfl) ?_
  change wpAnyH _ _ _ _ _ _ _ _ (World.drew _)
  refine wpAnyH_take (i := 0) (oi := ⟨some 36, _, _, _, _, _⟩) (v := ?_) rfl (by kernel_rfl) (by kernel_rfl) (by kernel_rfl) (fun _ _ _ h => h) (Or.inl ⟨by rfl, ?_⟩) hS5 ?_
  rotate_left 1
  · (intro w hSw; obtain ⟨hSw1, hSw2⟩ := hSw; go_simp; try with_reducible rfl)
  simp only [Act.put, List.setIfInBounds_toArray, List.set_cons_zero, List.set_cons_succ]
  refine wpAnyH_take (i := 2) (oi := ⟨some 38, _, _, _, _, _⟩) (v := ?_) rfl (by kernel_rfl) (by kernel_rfl) (by kernel_rfl) (fun _ _ _ h => h) (Or.inl ⟨by rfl, ?_⟩) hS5 ?_
  rotate_left 1
  · (intro w hSw; obtain ⟨hSw1, hSw2⟩ := hSw; go_simp; try with_reducible rfl)
  simp only [Act.put, List.setIfInBounds_toArray, List.set_cons_zero, List.set_cons_succ]
  refine wpAnyH_ready (rs := [1]) (by kernel_rfl) (by simp) ?_
  refine AllReadyH.cons (o := ⟨some 37, _, _, _, _, _⟩) rfl (fun K hK => ?_) AllReadyH.nil
  go_simp
  refine (Right_told s k b d m _ (by have := HD.out; omega) true HV.out).mono ?_
  rintro e w6 ⟨rfl, hb6'⟩
  have hb6 := drew_below hb6'
  clear hb6'
  have HX6 := hide (HX5.out.below hb6)
  have HB6 := hide (HB5.out.trans (hb6.mono HB5.out.size))
  have HY6 := hide ((HY5.out.below hb6).more hb6.size)
  have hS6 : (w6.cell? ⟨w.heap.size, 0, none⟩ = some (.int .i64 s) ∧ w6.cell? ⟨w.heap.size, 1, none⟩ = some (.int .i64 k) ∧ w6.cell? ⟨w.heap.size, 2, none⟩ = some (.int .i64 b) ∧ w6.cell? ⟨w.heap.size, 3, none⟩ = some (.string d) ∧ w6.cell? ⟨w.heap.size, 4, none⟩ = some (.int .i64 m)) ∧ (convert 26 9 (.slice (some ⟨p3, o3, none⟩) 64 c3)).run Tryd.prog w6 = .ok (.string SF) w6 := ⟨HX6.out.all, str_told w6 _ _ _ 64 c3 (sec_length HR.out.1) HY6.out SF HSF.out⟩
  clear hb6
  refine hK.out _ _ hS6 (fun hHeld => ?_)
  clear hK K
  clear hHeld
  refine wpAnyH_ready (rs := [3]) (by kernel_rfl) (by simp) ?_
  refine AllReadyH.cons (o := ⟨some 39, _, _, _, _, _⟩) rfl (fun K hK => ?_) AllReadyH.nil
  go_simp
  refine (rRight_told s k b d m _ true HV.out).mono ?_
  rintro e w7 ⟨rfl, hb7⟩
  have HX7 := hide (HX6.out.below hb7)
  have HB7 := hide (HB6.out.trans (hb7.mono HB6.out.size))
  have HY7 := hide ((HY6.out.below hb7).more hb7.size)
  have hS7 : (w7.cell? ⟨w.heap.size, 0, none⟩ = some (.int .i64 s) ∧ w7.cell? ⟨w.heap.size, 1, none⟩ = some (.int .i64 k) ∧ w7.cell? ⟨w.heap.size, 2, none⟩ = some (.int .i64 b) ∧ w7.cell? ⟨w.heap.size, 3, none⟩ = some (.string d) ∧ w7.cell? ⟨w.heap.size, 4, none⟩ = some (.int .i64 m)) ∧ (convert 26 9 (.slice (some ⟨p3, o3, none⟩) 64 c3)).run Tryd.prog w7 = .ok (.string SF) w7 := ⟨HX7.out.all, str_told w7 _ _ _ 64 c3 (sec_length HR.out.1) HY7.out SF HSF.out⟩
  clear hb7
  refine hK.out _ _ hS7 (fun hHeld => ?_)
  clear hK K
  clear hHeld
  refine wpAnyH_take (i := 4) (oi := ⟨some 40, _, _, _, _, _⟩) (v := ?_) rfl (by kernel_rfl) (by kernel_rfl) (by kernel_rfl) (fun _ _ _ h => h) (Or.inl ⟨by rfl, ?_⟩) hS7 ?_
  rotate_left 1
  · (intro w hSw; obtain ⟨hSw1, hSw2⟩ := hSw; go_simp; try with_reducible rfl)
  simp only [Act.put, List.setIfInBounds_toArray, List.set_cons_zero, List.set_cons_succ]
  refine wpAnyH_take (i := 5) (oi := ⟨some 41, _, _, _, _, _⟩) (v := ?_) rfl (by kernel_rfl) (by kernel_rfl) (by kernel_rfl) (fun _ _ _ h => h) (Or.inl ⟨by rfl, ?_⟩) hS7 ?_
  rotate_left 1
  · (intro w hSw; obtain ⟨hSw1, hSw2⟩ := hSw; go_simp; try with_reducible rfl)
  simp only [Act.put, List.setIfInBounds_toArray, List.set_cons_zero, List.set_cons_succ]
  refine wpAnyH_take (i := 6) (oi := ⟨some 42, _, _, _, _, _⟩) (v := ?_) rfl (by kernel_rfl) (by kernel_rfl) (by kernel_rfl) (fun _ _ _ h => h) (Or.inl ⟨by rfl, ?_⟩) hS7 ?_
  rotate_left 1
  · (intro w hSw; obtain ⟨hSw1, hSw2⟩ := hSw; go_simp; try with_reducible rfl)
  simp only [Act.put, List.setIfInBounds_toArray, List.set_cons_zero, List.set_cons_succ]
  refine wpAnyH_take (i := 7) (oi := ⟨some 43, _, _, _, _, _⟩) (v := ?_) rfl (by kernel_rfl) (by kernel_rfl) (by kernel_rfl) (fun _ _ _ h => h) (Or.inl ⟨by rfl, ?_⟩) hS7 ?_
  rotate_left 1
  · (intro w hSw; obtain ⟨hSw1, hSw2⟩ := hSw; go_simp; try with_reducible rfl)
  simp only [Act.put, List.setIfInBounds_toArray, List.set_cons_zero, List.set_cons_succ]
  refine wpAnyH_take (i := 8) (oi := ⟨some 44, _, _, _, _, _⟩) (v := ?_) rfl (by kernel_rfl) (by kernel_rfl) (by kernel_rfl) (fun _ _ _ h => h) (Or.inl ⟨by rfl, ?_⟩) hS7 ?_
  rotate_left 1
  · (intro w hSw; obtain ⟨hSw1, hSw2⟩ := hSw; go_simp; try with_reducible rfl)
  simp only [Act.put, List.setIfInBounds_toArray, List.set_cons_zero, List.set_cons_succ]
  refine wpAnyH_take (i := 9) (oi := ⟨some 45, _, _, _, _, _⟩) (v := ?_) rfl (by kernel_rfl) (by kernel_rfl) (by kernel_rfl) (fun _ _ _ h => h) (Or.inl ⟨by rfl, ?_⟩) hS7 ?_
  rotate_left 1
  · (intro w hSw; obtain ⟨hSw1, hSw2⟩ := hSw; go_simp; try with_reducible rfl)
  simp only [Act.put, List.setIfInBounds_toArray, List.set_cons_zero, List.set_cons_succ]
  refine wpAnyH_take (i := 10) (oi := ⟨some 46, _, _, _, _, _⟩) (v := ?_) rfl (by kernel_rfl) (by kernel_rfl) (by kernel_rfl) (fun _ _ _ h => h) (Or.inl ⟨by rfl, ?_⟩) hS7 ?_
  rotate_left 1
  · (intro w hSw; obtain ⟨hSw1, hSw2⟩ := hSw; go_simp; try with_reducible rfl)
  simp only [Act.put, List.setIfInBounds_toArray, List.set_cons_zero, List.set_cons_succ]
  refine wpAnyH_take (i := 11) (oi := ⟨some 47, _, _, _, _, _⟩) (v := ?_) rfl (by kernel_rfl) (by kernel_rfl) (by kernel_rfl) (fun _ _ _ h => h) (Or.inl ⟨by rfl, ?_⟩) hS7 ?_
  rotate_left 1
  · (intro w hSw; obtain ⟨hSw1, hSw2⟩ := hSw; go_simp; try with_reducible rfl)
  simp only [Act.put, List.setIfInBounds_toArray, List.set_cons_zero, List.set_cons_succ]
  refine wpAnyH_take (i := 12) (oi := ⟨some 48, _, _, _, _, _⟩) (v := ?_) rfl (by kernel_rfl) (by kernel_rfl) (by kernel_rfl) (fun _ _ _ h => h) (Or.inl ⟨by rfl, ?_⟩) hS7 ?_
  rotate_left 1
  · (intro w hSw; obtain ⟨hSw1, hSw2⟩ := hSw; go_simp; try with_reducible rfl)
  simp only [Act.put, List.setIfInBounds_toArray, List.set_cons_zero, List.set_cons_succ]
  refine wpAnyH_take (i := 14) (oi := ⟨some 50, _, _, _, _, _⟩) (v := ?_) rfl (by kernel_rfl) (by kernel_rfl) (by kernel_rfl) (fun _ _ _ h => h) (Or.inl ⟨by rfl, ?_⟩) hS7 ?_
  rotate_left 1
  · (intro w hSw; obtain ⟨hSw1, hSw2⟩ := hSw; go_simp; try with_reducible rfl)
  simp only [Act.put, List.setIfInBounds_toArray, List.set_cons_zero, List.set_cons_succ]
  refine wpAnyH_ready (rs := [13]) (by kernel_rfl) (by simp) ?_
  refine AllReadyH.cons (o := ⟨some 49, _, _, _, _, _⟩) rfl (fun K hK => ?_) AllReadyH.nil
  go_simp
  refine (Code_nil' w7 (Hty.out.below HB7.out Hty.out.lt)).mono ?_
  rintro e w8 ⟨rfl, hb8⟩
  have HX8 := hide (HX7.out.below hb8)
  have HB8 := hide (HB7.out.trans (hb8.mono HB7.out.size))
  have HY8 := hide ((HY7.out.below hb8).more hb8.size)
  have hS8 : (w8.cell? ⟨w.heap.size, 0, none⟩ = some (.int .i64 s) ∧ w8.cell? ⟨w.heap.size, 1, none⟩ = some (.int .i64 k) ∧ w8.cell? ⟨w.heap.size, 2, none⟩ = some (.int .i64 b) ∧ w8.cell? ⟨w.heap.size, 3, none⟩ = some (.string d) ∧ w8.cell? ⟨w.heap.size, 4, none⟩ = some (.int .i64 m)) ∧ (convert 26 9 (.slice (some ⟨p3, o3, none⟩) 64 c3)).run Tryd.prog w8 = .ok (.string SF) w8 := ⟨HX8.out.all, str_told w8 _ _ _ 64 c3 (sec_length HR.out.1) HY8.out SF HSF.out⟩
  clear hb8
  refine hK.out _ _ hS8 (fun hHeld => ?_)
  clear hK K
  clear hHeld
  refine wpAnyH_take (i := 15) (oi := ⟨some 51, _, _, _, _, _⟩) (v := ?_) rfl (by kernel_rfl) (by kernel_rfl) (by kernel_rfl) (fun _ _ _ h => h) (Or.inl ⟨by rfl, ?_⟩) hS8 ?_
  rotate_left 1
  · (intro w hSw; obtain ⟨hSw1, hSw2⟩ := hSw; go_simp; try with_reducible rfl)
  simp only [Act.put, List.setIfInBounds_toArray, List.set_cons_zero, List.set_cons_succ]
  refine wpAnyH_take (i := 16) (oi := ⟨some 52, _, _, _, _, _⟩) (v := ?_) rfl (by kernel_rfl) (by kernel_rfl) (by kernel_rfl) (fun _ _ _ h => h) (Or.inl ⟨by rfl, ?_⟩) hS8 ?_
  rotate_left 1
  · (intro w hSw; obtain ⟨hSw1, hSw2⟩ := hSw; go_simp; try with_reducible rfl)
  simp only [Act.put, List.setIfInBounds_toArray, List.set_cons_zero, List.set_cons_succ]
  refine wpAnyH_take (i := 17) (oi := ⟨some 53, _, _, _, _, _⟩) (v := ?_) rfl (by kernel_rfl) (by kernel_rfl) (by kernel_rfl) (fun _ _ _ h => h) (Or.inl ⟨by rfl, ?_⟩) hS8 ?_
  rotate_left 1
  · (intro w hSw; obtain ⟨hSw1, hSw2⟩ := hSw; go_simp; try with_reducible rfl)
  simp only [Act.put, List.setIfInBounds_toArray, List.set_cons_zero, List.set_cons_succ]
  refine wpAnyH_take (i := 18) (oi := ⟨some 54, _, _, _, _, _⟩) (v := ?_) rfl (by kernel_rfl) (by kernel_rfl) (by kernel_rfl) (fun _ _ _ h => h) (Or.inl ⟨by rfl, ?_⟩) hS8 ?_
  rotate_left 1
  · (intro w hSw; obtain ⟨hSw1, hSw2⟩ := hSw; go_simp; try with_reducible rfl)
  simp only [Act.put, List.setIfInBounds_toArray, List.set_cons_zero, List.set_cons_succ]
  refine wpAnyH_take (i := 19) (oi := ⟨some 55, _, _, _, _, _⟩) (v := ?_) rfl (by kernel_rfl) (by kernel_rfl) (by kernel_rfl) (fun _ _ _ h => h) (Or.inl ⟨by rfl, ?_⟩) hS8 ?_
  rotate_left 1
  · (intro w hSw; obtain ⟨hSw1, hSw2⟩ := hSw; go_simp; try with_reducible rfl)
  simp only [Act.put, List.setIfInBounds_toArray, List.set_cons_zero, List.set_cons_succ]
  refine wpAnyH_take (i := 20) (oi := ⟨some 56, _, _, _, _, _⟩) (v := ?_) rfl (by kernel_rfl) (by kernel_rfl) (by kernel_rfl) (fun _ _ _ h => h) (Or.inl ⟨by rfl, ?_⟩) hS8 ?_
  rotate_left 1
  · (intro w hSw; obtain ⟨hSw1, hSw2⟩ := hSw; go_simp; try with_reducible rfl)
  simp only [Act.put, List.setIfInBounds_toArray, List.set_cons_zero, List.set_cons_succ]
  refine wpAnyH_take (i := 21) (oi := ⟨some 57, _, _, _, _, _⟩) (v := ?_) rfl (by kernel_rfl) (by kernel_rfl) (by kernel_rfl) (fun _ _ _ h => h) (Or.inl ⟨by rfl, ?_⟩) hS8 ?_
  rotate_left 1
  · (intro w hSw; obtain ⟨hSw1, hSw2⟩ := hSw; go_simp; try with_reducible rfl)
  simp only [Act.put, List.setIfInBounds_toArray, List.set_cons_zero, List.set_cons_succ]
  refine wpAnyH_take (i := 22) (oi := ⟨some 58, _, _, _, _, _⟩) (v := ?_) rfl (by kernel_rfl) (by kernel_rfl) (by kernel_rfl) (fun _ _ _ h => h) (Or.inl ⟨by rfl, ?_⟩) hS8 ?_
  rotate_left 1
  · (intro w hSw; obtain ⟨hSw1, hSw2⟩ := hSw; go_simp; try with_reducible rfl)
  simp only [Act.put, List.setIfInBounds_toArray, List.set_cons_zero, List.set_cons_succ]
  refine wpAnyH_take (i := 23) (oi := ⟨some 59, _, _, _, _, _⟩) (v := ?_) rfl (by kernel_rfl) (by kernel_rfl) (by kernel_rfl) (fun _ _ _ h => h) (Or.inl ⟨by rfl, ?_⟩) hS8 ?_
  rotate_left 1
  · (intro w hSw; obtain ⟨hSw1, hSw2⟩ := hSw; go_simp; try with_reducible rfl)
  simp only [Act.put, List.setIfInBounds_toArray, List.set_cons_zero, List.set_cons_succ]
  refine wpAnyH_take (i := 24) (oi := ⟨some 60, _, _, _, _, _⟩) (v := ?_) rfl (by kernel_rfl) (by kernel_rfl) (by kernel_rfl) (fun _ _ _ h => h) (Or.inl ⟨by rfl, ?_⟩) hS8 ?_
  rotate_left 1
  · (intro w hSw; obtain ⟨hSw1, hSw2⟩ := hSw; go_simp; try with_reducible rfl)
  simp only [Act.put, List.setIfInBounds_toArray, List.set_cons_zero, List.set_cons_succ]
  refine wpAnyH_take (i := 25) (oi := ⟨some 61, _, _, _, _, _⟩) (v := ?_) rfl (by kernel_rfl) (by kernel_rfl) (by kernel_rfl) (fun _ _ _ h => h) (Or.inl ⟨by rfl, ?_⟩) hS8 ?_
  rotate_left 1
  · (intro w hSw; obtain ⟨hSw1, hSw2⟩ := hSw; go_simp; try with_reducible rfl)
  simp only [Act.put, List.setIfInBounds_toArray, List.set_cons_zero, List.set_cons_succ]
  refine wpAnyH_take (i := 26) (oi := ⟨some 62, _, _, _, _, _⟩) (v := ?_) rfl (by kernel_rfl) (by kernel_rfl) (by kernel_rfl) (fun _ _ _ h => h) (Or.inl ⟨by rfl, ?_⟩) hS8 ?_
  rotate_left 1
  · (intro w hSw; obtain ⟨hSw1, hSw2⟩ := hSw; go_simp; try with_reducible rfl)
  simp only [Act.put, List.setIfInBounds_toArray, List.set_cons_zero, List.set_cons_succ]
  refine wpAnyH_take (i := 27) (oi := ⟨some 63, _, _, _, _, _⟩) (v := undef) rfl (by kernel_rfl) (by kernel_rfl) (by kernel_rfl) (fun _ _ _ h => h) (Or.inr ⟨by rfl, rfl⟩) hS8 ?_
  simp only [Act.put, List.setIfInBounds_toArray, List.set_cons_zero, List.set_cons_succ]
  refine wpAnyH_take (i := 28) (oi := ⟨some 64, _, _, _, _, _⟩) (v := undef) rfl (by kernel_rfl) (by kernel_rfl) (by kernel_rfl) (fun _ _ _ h => h) (Or.inr ⟨by rfl, rfl⟩) hS8 ?_
  simp only [Act.put, List.setIfInBounds_toArray, List.set_cons_zero, List.set_cons_succ]
  refine wpAnyH_take (i := 29) (oi := ⟨some 65, _, _, _, _, _⟩) (v := undef) rfl (by kernel_rfl) (by kernel_rfl) (by kernel_rfl) (fun _ _ _ h => h) (Or.inr ⟨by rfl, rfl⟩) hS8 ?_
  simp only [Act.put, List.setIfInBounds_toArray, List.set_cons_zero, List.set_cons_succ]
  refine wpAnyH_take (i := 30) (oi := ⟨some 66, _, _, _, _, _⟩) (v := undef) rfl (by kernel_rfl) (by kernel_rfl) (by kernel_rfl) (fun _ _ _ h => h) (Or.inr ⟨by rfl, rfl⟩) hS8 ?_
  simp only [Act.put, List.setIfInBounds_toArray, List.set_cons_zero, List.set_cons_succ]
  refine wpAnyH_take (i := 31) (oi := ⟨some 67, _, _, _, _, _⟩) (v := ?_) rfl (by kernel_rfl) (by kernel_rfl) (by kernel_rfl) (fun _ _ _ h => h) (Or.inl ⟨by rfl, ?_⟩) hS8 ?_
  rotate_left 1
  · (intro w hSw; obtain ⟨hSw1, hSw2⟩ := hSw; go_simp; try with_reducible rfl)
  simp only [Act.put, List.setIfInBounds_toArray, List.set_cons_zero, List.set_cons_succ]
  refine wpAnyH_take (i := 32) (oi := ⟨some 68, _, _, _, _, _⟩) (v := ?_) rfl (by kernel_rfl) (by kernel_rfl) (by kernel_rfl) (fun _ _ _ h => h) (Or.inl ⟨by rfl, ?_⟩) hS8 ?_
  rotate_left 1
  · (intro w hSw; obtain ⟨hSw1, hSw2⟩ := hSw; go_simp; try with_reducible rfl)
  simp only [Act.put, List.setIfInBounds_toArray, List.set_cons_zero, List.set_cons_succ]
  refine wpAnyH_take (i := 33) (oi := ⟨some 4, _, _, _, _, _⟩) (v := ?_) rfl (by kernel_rfl) (by kernel_rfl) (by kernel_rfl) (fun _ _ _ h => h) (Or.inl ⟨by rfl, ?_⟩) hS8 ?_
  rotate_left 1
  · (intro w hSw; obtain ⟨hSw1, hSw2⟩ := hSw; go_simp; try with_reducible rfl)
  simp only [Act.put, List.setIfInBounds_toArray, List.set_cons_zero, List.set_cons_succ]
  refine wpAnyH_done (by kernel_rfl) ?_ _
  clear hS5 hS6 hS7 hS8
  go_wp2
  go_ret
  exact ⟨rfl, HB8.out⟩

set_option maxRecDepth 100000 in
set_option maxHeartbeats 2000000 in
theorem Rights_gen (g s k b : Int) (d : ByteArray) (m : Int) (w : World) (ht : Tab w) (hty : Ety w) (hd : d.size < 2000) (hr : ¬ (Rgt s k b d.size m ∧ Num g)) (hv : Sgn true (Rgt s k b d.size m)) :
    Calls Tryd.prog 3 #[.int .i64 g, rec5 s k b d m] w fun e w' => e = .returned (.bool true) ∧ Below w.heap.size w w' := by
  have HR := hide hr
  have HV := hide hv
  have Hty := hide hty
  have HD := hide hd
  clear hr hv hty
  have hpos := ht.pos
  have Ht := hide ht
  have hx := Bx.new w s k b d m
  have HB0 := hide (box_below w s k b d m)
  clear ht
  go_enter Tryd.func3, Tryd.ntmps3
  go_wp2_with fail
  generalize w.alloc _ = w0 at *
  refine (awake_any w0 (Ht.out.below HB0.out hpos)).mono ?_
  rintro r w1 ⟨rfl, hb1⟩
  have hx1 := hx.below hb1
  have HB1 := hide (HB0.out.trans (hb1.mono HB0.out.size))
  have xa0 := hx1.c0
  have xa1 := hx1.c1
  have xa2 := hx1.c2
  have xa3 := hx1.c3
  have xa4 := hx1.c4
  clear hx hb1 HB0
  go_wp2_with fail
  refine (few_any s k b d m w1 (by omega)).mono ?_
  rintro r w2 ⟨⟨B, rfl, hB⟩, hb2⟩
  obtain rfl : B = true := by exact hB.2 hd
  have hx2 := hx1.below hb2
  have HB2 := hide (HB1.out.trans (hb2.mono HB1.out.size))
  clear hx1 hb2 HB1 hB xa0 xa1 xa2 xa3 xa4
  have xa0 := hx2.c0
  have xa1 := hx2.c1
  have xa2 := hx2.c2
  have xa3 := hx2.c3
  have xa4 := hx2.c4
  go_wp2_with fail
  refine (Encode_bad g s k b d m w2 HR.out (by omega)).mono ?_
  rintro r w3 ⟨p3, rfl, hf3, hb3⟩
  have hx3 := hx2.below hb3
  have HB3 := hide (HB2.out.trans (hb3.mono HB2.out.size))
  clear hx2 hb3 HB2 xa0 xa1 xa2 xa3 xa4
  have xa0 := hx3.c0
  have xa1 := hx3.c1
  have xa2 := hx3.c2
  have xa3 := hx3.c3
  have xa4 := hx3.c4
  go_wp2_with fail
  refine (rEncode_bad g s k b d m w3 HR.out).mono ?_
  rintro r w4 ⟨rfl, hb4⟩
  have hx4 := hx3.below hb4
  have HB4 := hide (HB3.out.trans (hb4.mono HB3.out.size))
  have hf4 := hf3.below (Nat.le_refl _) hb4
  clear hf3
  clear hx3 hb4 HB3 xa0 xa1 xa2 xa3 xa4
  go_wp2_with fail
  refine (First_flt' _ s 1 w4 (Hty.out.below HB4.out Hty.out.lt) hf4).mono ?_
  rintro r w5 ⟨rfl, hb5⟩
  have HX5 := hide (hx4.below hb5)
  have HB5 := hide (HB4.out.trans (hb5.mono HB4.out.size))
  have HF5 := hide (hf4.below (Nat.le_refl _) hb5)
  clear hf4
  clear hx4 hb5 HB4
  have hS5 : (w5.drew.cell? ⟨w.heap.size, 0, none⟩ = some (.int .i64 s) ∧ w5.drew.cell? ⟨w.heap.size, 1, none⟩ = some (.int .i64 k) ∧ w5.drew.cell? ⟨w.heap.size, 2, none⟩ = some (.int .i64 b) ∧ w5.drew.cell? ⟨w.heap.size, 3, none⟩ = some (.string d) ∧ w5.drew.cell? ⟨w.heap.size, 4, none⟩ = some (.int .i64 m)) ∧ (convert 26 9 (.slice none 0 0)).run Tryd.prog w5.drew = .ok (.string ⟨#[]⟩) w5.drew := ⟨HX5.out.all, str_told w5.drew 0 none [] 0 0 rfl Byt.nil ⟨#[]⟩ rfl⟩
  go_wp2_with fail
  refine wp_region_held (S := (fun W => (W.cell? ⟨w.heap.size, 0, none⟩ = some (.int .i64 s) ∧ W.cell? ⟨w.heap.size, 1, none⟩ = some (.int .i64 k) ∧ W.cell? ⟨w.heap.size, 2, none⟩ = some (.int .i64 b) ∧ W.cell? ⟨w.heap.size, 3, none⟩ = some (.string d) ∧ W.cell? ⟨w.heap.size, 4, none⟩ = some (.int .i64 m)) ∧ (convert 26 9 (.slice none 0 0)).run Tryd.prog W = .ok (.string ⟨#[]⟩) W)) (by kernel_rfl) ?_
  change wpAnyH _ _ _ _ _ _ _ _ (World.drew _)
  refine wpAnyH_take (i := 0) (oi := ⟨some 36, _, _, _, _, _⟩) (v := ?_) rfl (by kernel_rfl) (by kernel_rfl) (by kernel_rfl) (fun _ _ _ h => h) (Or.inl ⟨by rfl, ?_⟩) hS5 ?_
  rotate_left 1
  · (intro w hSw; obtain ⟨hSw1, hSw2⟩ := hSw; go_simp; try with_reducible rfl)
  simp only [Act.put, List.setIfInBounds_toArray, List.set_cons_zero, List.set_cons_succ]
  refine wpAnyH_take (i := 2) (oi := ⟨some 38, _, _, _, _, _⟩) (v := ?_) rfl (by kernel_rfl) (by kernel_rfl) (by kernel_rfl) (fun _ _ _ h => h) (Or.inl ⟨by rfl, ?_⟩) hS5 ?_
  rotate_left 1
  · (intro w hSw; obtain ⟨hSw1, hSw2⟩ := hSw; go_simp; try with_reducible rfl)
  simp only [Act.put, List.setIfInBounds_toArray, List.set_cons_zero, List.set_cons_succ]
  refine wpAnyH_ready (rs := [1]) (by kernel_rfl) (by simp) ?_
  refine AllReadyH.cons (o := ⟨some 37, _, _, _, _, _⟩) rfl (fun K hK => ?_) AllReadyH.nil
  go_simp
  refine (Right_told s k b d m _ (by have := HD.out; omega) true HV.out).mono ?_
  rintro e w6 ⟨rfl, hb6'⟩
  have hb6 := drew_below hb6'
  clear hb6'
  have HX6 := hide (HX5.out.below hb6)
  have HB6 := hide (HB5.out.trans (hb6.mono HB5.out.size))
  have HF6 := hide (HF5.out.below (Nat.le_refl _) hb6)
  have hS6 : (w6.cell? ⟨w.heap.size, 0, none⟩ = some (.int .i64 s) ∧ w6.cell? ⟨w.heap.size, 1, none⟩ = some (.int .i64 k) ∧ w6.cell? ⟨w.heap.size, 2, none⟩ = some (.int .i64 b) ∧ w6.cell? ⟨w.heap.size, 3, none⟩ = some (.string d) ∧ w6.cell? ⟨w.heap.size, 4, none⟩ = some (.int .i64 m)) ∧ (convert 26 9 (.slice none 0 0)).run Tryd.prog w6 = .ok (.string ⟨#[]⟩) w6 := ⟨HX6.out.all, str_told w6 0 none [] 0 0 rfl Byt.nil ⟨#[]⟩ rfl⟩
  clear hb6
  refine hK.out _ _ hS6 (fun hHeld => ?_)
  clear hK K
  clear hHeld
  refine wpAnyH_ready (rs := [3]) (by kernel_rfl) (by simp) ?_
  refine AllReadyH.cons (o := ⟨some 39, _, _, _, _, _⟩) rfl (fun K hK => ?_) AllReadyH.nil
  go_simp
  refine (rRight_told s k b d m _ true HV.out).mono ?_
  rintro e w7 ⟨rfl, hb7⟩
  have HX7 := hide (HX6.out.below hb7)
  have HB7 := hide (HB6.out.trans (hb7.mono HB6.out.size))
  have HF7 := hide (HF6.out.below (Nat.le_refl _) hb7)
  have hS7 : (w7.cell? ⟨w.heap.size, 0, none⟩ = some (.int .i64 s) ∧ w7.cell? ⟨w.heap.size, 1, none⟩ = some (.int .i64 k) ∧ w7.cell? ⟨w.heap.size, 2, none⟩ = some (.int .i64 b) ∧ w7.cell? ⟨w.heap.size, 3, none⟩ = some (.string d) ∧ w7.cell? ⟨w.heap.size, 4, none⟩ = some (.int .i64 m)) ∧ (convert 26 9 (.slice none 0 0)).run Tryd.prog w7 = .ok (.string ⟨#[]⟩) w7 := ⟨HX7.out.all, str_told w7 0 none [] 0 0 rfl Byt.nil ⟨#[]⟩ rfl⟩
  clear hb7
  refine hK.out _ _ hS7 (fun hHeld => ?_)
  clear hK K
  clear hHeld
  refine wpAnyH_take (i := 4) (oi := ⟨some 40, _, _, _, _, _⟩) (v := ?_) rfl (by kernel_rfl) (by kernel_rfl) (by kernel_rfl) (fun _ _ _ h => h) (Or.inl ⟨by rfl, ?_⟩) hS7 ?_
  rotate_left 1
  · (intro w hSw; obtain ⟨hSw1, hSw2⟩ := hSw; go_simp; try with_reducible rfl)
  simp only [Act.put, List.setIfInBounds_toArray, List.set_cons_zero, List.set_cons_succ]
  refine wpAnyH_take (i := 5) (oi := ⟨some 41, _, _, _, _, _⟩) (v := ?_) rfl (by kernel_rfl) (by kernel_rfl) (by kernel_rfl) (fun _ _ _ h => h) (Or.inl ⟨by rfl, ?_⟩) hS7 ?_
  rotate_left 1
  · (intro w hSw; obtain ⟨hSw1, hSw2⟩ := hSw; go_simp; try with_reducible rfl)
  simp only [Act.put, List.setIfInBounds_toArray, List.set_cons_zero, List.set_cons_succ]
  refine wpAnyH_take (i := 6) (oi := ⟨some 42, _, _, _, _, _⟩) (v := ?_) rfl (by kernel_rfl) (by kernel_rfl) (by kernel_rfl) (fun _ _ _ h => h) (Or.inl ⟨by rfl, ?_⟩) hS7 ?_
  rotate_left 1
  · (intro w hSw; obtain ⟨hSw1, hSw2⟩ := hSw; go_simp; try with_reducible rfl)
  simp only [Act.put, List.setIfInBounds_toArray, List.set_cons_zero, List.set_cons_succ]
  refine wpAnyH_take (i := 7) (oi := ⟨some 43, _, _, _, _, _⟩) (v := ?_) rfl (by kernel_rfl) (by kernel_rfl) (by kernel_rfl) (fun _ _ _ h => h) (Or.inl ⟨by rfl, ?_⟩) hS7 ?_
  rotate_left 1
  · (intro w hSw; obtain ⟨hSw1, hSw2⟩ := hSw; go_simp; try with_reducible rfl)
  simp only [Act.put, List.setIfInBounds_toArray, List.set_cons_zero, List.set_cons_succ]
  refine wpAnyH_take (i := 8) (oi := ⟨some 44, _, _, _, _, _⟩) (v := ?_) rfl (by kernel_rfl) (by kernel_rfl) (by kernel_rfl) (fun _ _ _ h => h) (Or.inl ⟨by rfl, ?_⟩) hS7 ?_
  rotate_left 1
  · (intro w hSw; obtain ⟨hSw1, hSw2⟩ := hSw; go_simp; try with_reducible rfl)
  simp only [Act.put, List.setIfInBounds_toArray, List.set_cons_zero, List.set_cons_succ]
  refine wpAnyH_take (i := 9) (oi := ⟨some 45, _, _, _, _, _⟩) (v := ?_) rfl (by kernel_rfl) (by kernel_rfl) (by kernel_rfl) (fun _ _ _ h => h) (Or.inl ⟨by rfl, ?_⟩) hS7 ?_
  rotate_left 1
  · (intro w hSw; obtain ⟨hSw1, hSw2⟩ := hSw; go_simp; try with_reducible rfl)
  simp only [Act.put, List.setIfInBounds_toArray, List.set_cons_zero, List.set_cons_succ]
  refine wpAnyH_take (i := 10) (oi := ⟨some 46, _, _, _, _, _⟩) (v := ?_) rfl (by kernel_rfl) (by kernel_rfl) (by kernel_rfl) (fun _ _ _ h => h) (Or.inl ⟨by rfl, ?_⟩) hS7 ?_
  rotate_left 1
  · (intro w hSw; obtain ⟨hSw1, hSw2⟩ := hSw; go_simp; try with_reducible rfl)
  simp only [Act.put, List.setIfInBounds_toArray, List.set_cons_zero, List.set_cons_succ]
  refine wpAnyH_take (i := 11) (oi := ⟨some 47, _, _, _, _, _⟩) (v := ?_) rfl (by kernel_rfl) (by kernel_rfl) (by kernel_rfl) (fun _ _ _ h => h) (Or.inl ⟨by rfl, ?_⟩) hS7 ?_
  rotate_left 1
  · (intro w hSw; obtain ⟨hSw1, hSw2⟩ := hSw; go_simp; try with_reducible rfl)
  simp only [Act.put, List.setIfInBounds_toArray, List.set_cons_zero, List.set_cons_succ]
  refine wpAnyH_take (i := 12) (oi := ⟨some 48, _, _, _, _, _⟩) (v := ?_) rfl (by kernel_rfl) (by kernel_rfl) (by kernel_rfl) (fun _ _ _ h => h) (Or.inl ⟨by rfl, ?_⟩) hS7 ?_
  rotate_left 1
  · (intro w hSw; obtain ⟨hSw1, hSw2⟩ := hSw; go_simp; try with_reducible rfl)
  simp only [Act.put, List.setIfInBounds_toArray, List.set_cons_zero, List.set_cons_succ]
  refine wpAnyH_take (i := 14) (oi := ⟨some 50, _, _, _, _, _⟩) (v := ?_) rfl (by kernel_rfl) (by kernel_rfl) (by kernel_rfl) (fun _ _ _ h => h) (Or.inl ⟨by rfl, ?_⟩) hS7 ?_
  rotate_left 1
  · (intro w hSw; obtain ⟨hSw1, hSw2⟩ := hSw; go_simp; try with_reducible rfl)
  simp only [Act.put, List.setIfInBounds_toArray, List.set_cons_zero, List.set_cons_succ]
  refine wpAnyH_ready (rs := [13]) (by kernel_rfl) (by simp) ?_
  refine AllReadyH.cons (o := ⟨some 49, _, _, _, _, _⟩) rfl (fun K hK => ?_) AllReadyH.nil
  go_simp
  refine (Code_flt' _ s 1 w7 (Hty.out.below HB7.out Hty.out.lt) HF7.out).mono ?_
  rintro e w8 ⟨rfl, hb8⟩
  have HX8 := hide (HX7.out.below hb8)
  have HB8 := hide (HB7.out.trans (hb8.mono HB7.out.size))
  have HF8 := hide (HF7.out.below (Nat.le_refl _) hb8)
  have hS8 : (w8.cell? ⟨w.heap.size, 0, none⟩ = some (.int .i64 s) ∧ w8.cell? ⟨w.heap.size, 1, none⟩ = some (.int .i64 k) ∧ w8.cell? ⟨w.heap.size, 2, none⟩ = some (.int .i64 b) ∧ w8.cell? ⟨w.heap.size, 3, none⟩ = some (.string d) ∧ w8.cell? ⟨w.heap.size, 4, none⟩ = some (.int .i64 m)) ∧ (convert 26 9 (.slice none 0 0)).run Tryd.prog w8 = .ok (.string ⟨#[]⟩) w8 := ⟨HX8.out.all, str_told w8 0 none [] 0 0 rfl Byt.nil ⟨#[]⟩ rfl⟩
  clear hb8
  refine hK.out _ _ hS8 (fun hHeld => ?_)
  clear hK K
  clear hHeld
  refine wpAnyH_take (i := 15) (oi := ⟨some 51, _, _, _, _, _⟩) (v := ?_) rfl (by kernel_rfl) (by kernel_rfl) (by kernel_rfl) (fun _ _ _ h => h) (Or.inl ⟨by rfl, ?_⟩) hS8 ?_
  rotate_left 1
  · (intro w hSw; obtain ⟨hSw1, hSw2⟩ := hSw; go_simp; try with_reducible rfl)
  simp only [Act.put, List.setIfInBounds_toArray, List.set_cons_zero, List.set_cons_succ]
  refine wpAnyH_take (i := 16) (oi := ⟨some 52, _, _, _, _, _⟩) (v := ?_) rfl (by kernel_rfl) (by kernel_rfl) (by kernel_rfl) (fun _ _ _ h => h) (Or.inl ⟨by rfl, ?_⟩) hS8 ?_
  rotate_left 1
  · (intro w hSw; obtain ⟨hSw1, hSw2⟩ := hSw; go_simp; try with_reducible rfl)
  simp only [Act.put, List.setIfInBounds_toArray, List.set_cons_zero, List.set_cons_succ]
  refine wpAnyH_take (i := 17) (oi := ⟨some 53, _, _, _, _, _⟩) (v := ?_) rfl (by kernel_rfl) (by kernel_rfl) (by kernel_rfl) (fun _ _ _ h => h) (Or.inl ⟨by rfl, ?_⟩) hS8 ?_
  rotate_left 1
  · (intro w hSw; obtain ⟨hSw1, hSw2⟩ := hSw; go_simp; try with_reducible rfl)
  simp only [Act.put, List.setIfInBounds_toArray, List.set_cons_zero, List.set_cons_succ]
  refine wpAnyH_take (i := 18) (oi := ⟨some 54, _, _, _, _, _⟩) (v := ?_) rfl (by kernel_rfl) (by kernel_rfl) (by kernel_rfl) (fun _ _ _ h => h) (Or.inl ⟨by rfl, ?_⟩) hS8 ?_
  rotate_left 1
  · (intro w hSw; obtain ⟨hSw1, hSw2⟩ := hSw; go_simp; try with_reducible rfl)
  simp only [Act.put, List.setIfInBounds_toArray, List.set_cons_zero, List.set_cons_succ]
  refine wpAnyH_take (i := 19) (oi := ⟨some 55, _, _, _, _, _⟩) (v := ?_) rfl (by kernel_rfl) (by kernel_rfl) (by kernel_rfl) (fun _ _ _ h => h) (Or.inl ⟨by rfl, ?_⟩) hS8 ?_
  rotate_left 1
  · (intro w hSw; obtain ⟨hSw1, hSw2⟩ := hSw; go_simp; try with_reducible rfl)
  simp only [Act.put, List.setIfInBounds_toArray, List.set_cons_zero, List.set_cons_succ]
  refine wpAnyH_take (i := 20) (oi := ⟨some 56, _, _, _, _, _⟩) (v := ?_) rfl (by kernel_rfl) (by kernel_rfl) (by kernel_rfl) (fun _ _ _ h => h) (Or.inl ⟨by rfl, ?_⟩) hS8 ?_
  rotate_left 1
  · (intro w hSw; obtain ⟨hSw1, hSw2⟩ := hSw; go_simp; try with_reducible rfl)
  simp only [Act.put, List.setIfInBounds_toArray, List.set_cons_zero, List.set_cons_succ]
  refine wpAnyH_take (i := 21) (oi := ⟨some 57, _, _, _, _, _⟩) (v := ?_) rfl (by kernel_rfl) (by kernel_rfl) (by kernel_rfl) (fun _ _ _ h => h) (Or.inl ⟨by rfl, ?_⟩) hS8 ?_
  rotate_left 1
  · (intro w hSw; obtain ⟨hSw1, hSw2⟩ := hSw; go_simp; try with_reducible rfl)
  simp only [Act.put, List.setIfInBounds_toArray, List.set_cons_zero, List.set_cons_succ]
  refine wpAnyH_take (i := 22) (oi := ⟨some 58, _, _, _, _, _⟩) (v := ?_) rfl (by kernel_rfl) (by kernel_rfl) (by kernel_rfl) (fun _ _ _ h => h) (Or.inl ⟨by rfl, ?_⟩) hS8 ?_
  rotate_left 1
  · (intro w hSw; obtain ⟨hSw1, hSw2⟩ := hSw; go_simp; try with_reducible rfl)
  simp only [Act.put, List.setIfInBounds_toArray, List.set_cons_zero, List.set_cons_succ]
  refine wpAnyH_take (i := 23) (oi := ⟨some 59, _, _, _, _, _⟩) (v := ?_) rfl (by kernel_rfl) (by kernel_rfl) (by kernel_rfl) (fun _ _ _ h => h) (Or.inl ⟨by rfl, ?_⟩) hS8 ?_
  rotate_left 1
  · (intro w hSw; obtain ⟨hSw1, hSw2⟩ := hSw; go_simp; try with_reducible rfl)
  simp only [Act.put, List.setIfInBounds_toArray, List.set_cons_zero, List.set_cons_succ]
  refine wpAnyH_take (i := 24) (oi := ⟨some 60, _, _, _, _, _⟩) (v := ?_) rfl (by kernel_rfl) (by kernel_rfl) (by kernel_rfl) (fun _ _ _ h => h) (Or.inl ⟨by rfl, ?_⟩) hS8 ?_
  rotate_left 1
  · (intro w hSw; obtain ⟨hSw1, hSw2⟩ := hSw; go_simp; try with_reducible rfl)
  simp only [Act.put, List.setIfInBounds_toArray, List.set_cons_zero, List.set_cons_succ]
  refine wpAnyH_take (i := 25) (oi := ⟨some 61, _, _, _, _, _⟩) (v := ?_) rfl (by kernel_rfl) (by kernel_rfl) (by kernel_rfl) (fun _ _ _ h => h) (Or.inl ⟨by rfl, ?_⟩) hS8 ?_
  rotate_left 1
  · (intro w hSw; obtain ⟨hSw1, hSw2⟩ := hSw; go_simp; try with_reducible rfl)
  simp only [Act.put, List.setIfInBounds_toArray, List.set_cons_zero, List.set_cons_succ]
  refine wpAnyH_take (i := 26) (oi := ⟨some 62, _, _, _, _, _⟩) (v := ?_) rfl (by kernel_rfl) (by kernel_rfl) (by kernel_rfl) (fun _ _ _ h => h) (Or.inl ⟨by rfl, ?_⟩) hS8 ?_
  rotate_left 1
  · (intro w hSw; obtain ⟨hSw1, hSw2⟩ := hSw; go_simp; try with_reducible rfl)
  simp only [Act.put, List.setIfInBounds_toArray, List.set_cons_zero, List.set_cons_succ]
  refine wpAnyH_take (i := 27) (oi := ⟨some 63, _, _, _, _, _⟩) (v := ?_) rfl (by kernel_rfl) (by kernel_rfl) (by kernel_rfl) (fun _ _ _ h => h) (Or.inl ⟨by rfl, ?_⟩) hS8 ?_
  rotate_left 1
  · (intro w hSw; obtain ⟨hSw1, hSw2⟩ := hSw; go_simp; try with_reducible rfl)
  simp only [Act.put, List.setIfInBounds_toArray, List.set_cons_zero, List.set_cons_succ]
  refine wpAnyH_take (i := 28) (oi := ⟨some 64, _, _, _, _, _⟩) (v := ?_) rfl (by kernel_rfl) (by kernel_rfl) (by kernel_rfl) (fun _ _ _ h => h) (Or.inl ⟨by rfl, ?_⟩) hS8 ?_
  rotate_left 1
  · (intro w hSw; obtain ⟨hSw1, hSw2⟩ := hSw; go_simp; try with_reducible rfl)
  simp only [Act.put, List.setIfInBounds_toArray, List.set_cons_zero, List.set_cons_succ]
  refine wpAnyH_take (i := 29) (oi := ⟨some 65, _, _, _, _, _⟩) (v := ?_) rfl (by kernel_rfl) (by kernel_rfl) (by kernel_rfl) (fun _ _ _ h => h) (Or.inl ⟨by rfl, ?_⟩) hS8 ?_
  rotate_left 1
  · (intro w hSw; obtain ⟨hSw1, hSw2⟩ := hSw; go_simp; try with_reducible rfl)
  simp only [Act.put, List.setIfInBounds_toArray, List.set_cons_zero, List.set_cons_succ]
  refine wpAnyH_take (i := 30) (oi := ⟨some 66, _, _, _, _, _⟩) (v := ?_) rfl (by kernel_rfl) (by kernel_rfl) (by kernel_rfl) (fun _ _ _ h => h) (Or.inl ⟨by rfl, ?_⟩) hS8 ?_
  rotate_left 1
  · (intro w hSw; obtain ⟨hSw1, hSw2⟩ := hSw; go_simp; try with_reducible rfl)
  simp only [Act.put, List.setIfInBounds_toArray, List.set_cons_zero, List.set_cons_succ]
  refine wpAnyH_take (i := 31) (oi := ⟨some 67, _, _, _, _, _⟩) (v := ?_) rfl (by kernel_rfl) (by kernel_rfl) (by kernel_rfl) (fun _ _ _ h => h) (Or.inl ⟨by rfl, ?_⟩) hS8 ?_
  rotate_left 1
  · (intro w hSw; obtain ⟨hSw1, hSw2⟩ := hSw; go_simp; try with_reducible rfl)
  simp only [Act.put, List.setIfInBounds_toArray, List.set_cons_zero, List.set_cons_succ]
  refine wpAnyH_take (i := 32) (oi := ⟨some 68, _, _, _, _, _⟩) (v := ?_) rfl (by kernel_rfl) (by kernel_rfl) (by kernel_rfl) (fun _ _ _ h => h) (Or.inl ⟨by rfl, ?_⟩) hS8 ?_
  rotate_left 1
  · (intro w hSw; obtain ⟨hSw1, hSw2⟩ := hSw; go_simp; try with_reducible rfl)
  simp only [Act.put, List.setIfInBounds_toArray, List.set_cons_zero, List.set_cons_succ]
  refine wpAnyH_take (i := 33) (oi := ⟨some 4, _, _, _, _, _⟩) (v := ?_) rfl (by kernel_rfl) (by kernel_rfl) (by kernel_rfl) (fun _ _ _ h => h) (Or.inl ⟨by rfl, ?_⟩) hS8 ?_
  rotate_left 1
  · (intro w hSw; obtain ⟨hSw1, hSw2⟩ := hSw; go_simp; try with_reducible rfl)
  simp only [Act.put, List.setIfInBounds_toArray, List.set_cons_zero, List.set_cons_succ]
  refine wpAnyH_done (by kernel_rfl) ?_ _
  clear hS5 hS6 hS7 hS8
  go_wp2
  go_ret
  exact ⟨rfl, HB8.out⟩

set_option maxRecDepth 100000 in
set_option maxHeartbeats 2000000 in
theorem Rights_rec (g s k b : Int) (d : ByteArray) (m : Int) (w : World) (ht : Tab w) (hty : Ety w) (hd : d.size < 2000) (hr : ¬ (Rgt s k b d.size m ∧ Num g)) (hv : Sgn false (Rgt s k b d.size m)) :
    Calls Tryd.prog 3 #[.int .i64 g, rec5 s k b d m] w fun e w' => e = .returned (.bool true) ∧ Below w.heap.size w w' := by
  have HR := hide hr
  have HV := hide hv
  have Hty := hide hty
  have HD := hide hd
  clear hr hv hty
  have hpos := ht.pos
  have Ht := hide ht
  have hx := Bx.new w s k b d m
  have HB0 := hide (box_below w s k b d m)
  clear ht
  go_enter Tryd.func3, Tryd.ntmps3
  go_wp2_with fail
  generalize w.alloc _ = w0 at *
  refine (awake_any w0 (Ht.out.below HB0.out hpos)).mono ?_
  rintro r w1 ⟨rfl, hb1⟩
  have hx1 := hx.below hb1
  have HB1 := hide (HB0.out.trans (hb1.mono HB0.out.size))
  have xa0 := hx1.c0
  have xa1 := hx1.c1
  have xa2 := hx1.c2
  have xa3 := hx1.c3
  have xa4 := hx1.c4
  clear hx hb1 HB0
  go_wp2_with fail
  refine (few_any s k b d m w1 (by omega)).mono ?_
  rintro r w2 ⟨⟨B, rfl, hB⟩, hb2⟩
  obtain rfl : B = true := by exact hB.2 hd
  have hx2 := hx1.below hb2
  have HB2 := hide (HB1.out.trans (hb2.mono HB1.out.size))
  clear hx1 hb2 HB1 hB xa0 xa1 xa2 xa3 xa4
  have xa0 := hx2.c0
  have xa1 := hx2.c1
  have xa2 := hx2.c2
  have xa3 := hx2.c3
  have xa4 := hx2.c4
  go_wp2_with fail
  refine (Encode_bad g s k b d m w2 HR.out (by omega)).mono ?_
  rintro r w3 ⟨p3, rfl, hf3, hb3⟩
  have hx3 := hx2.below hb3
  have HB3 := hide (HB2.out.trans (hb3.mono HB2.out.size))
  clear hx2 hb3 HB2 xa0 xa1 xa2 xa3 xa4
  have xa0 := hx3.c0
  have xa1 := hx3.c1
  have xa2 := hx3.c2
  have xa3 := hx3.c3
  have xa4 := hx3.c4
  go_wp2_with fail
  refine (rEncode_bad g s k b d m w3 HR.out).mono ?_
  rintro r w4 ⟨rfl, hb4⟩
  have hx4 := hx3.below hb4
  have HB4 := hide (HB3.out.trans (hb4.mono HB3.out.size))
  have hf4 := hf3.below (Nat.le_refl _) hb4
  clear hf3
  clear hx3 hb4 HB3 xa0 xa1 xa2 xa3 xa4
  go_wp2_with fail
  refine (First_flt' _ s 1 w4 (Hty.out.below HB4.out Hty.out.lt) hf4).mono ?_
  rintro r w5 ⟨rfl, hb5⟩
  have HX5 := hide (hx4.below hb5)
  have HB5 := hide (HB4.out.trans (hb5.mono HB4.out.size))
  have HF5 := hide (hf4.below (Nat.le_refl _) hb5)
  clear hf4
  clear hx4 hb5 HB4
  have hS5 : (w5.drew.cell? ⟨w.heap.size, 0, none⟩ = some (.int .i64 s) ∧ w5.drew.cell? ⟨w.heap.size, 1, none⟩ = some (.int .i64 k) ∧ w5.drew.cell? ⟨w.heap.size, 2, none⟩ = some (.int .i64 b) ∧ w5.drew.cell? ⟨w.heap.size, 3, none⟩ = some (.string d) ∧ w5.drew.cell? ⟨w.heap.size, 4, none⟩ = some (.int .i64 m)) ∧ (convert 26 9 (.slice none 0 0)).run Tryd.prog w5.drew = .ok (.string ⟨#[]⟩) w5.drew := ⟨HX5.out.all, str_told w5.drew 0 none [] 0 0 rfl Byt.nil ⟨#[]⟩ rfl⟩
  go_wp2_with fail
  refine wp_region_held (S := (fun W => (W.cell? ⟨w.heap.size, 0, none⟩ = some (.int .i64 s) ∧ W.cell? ⟨w.heap.size, 1, none⟩ = some (.int .i64 k) ∧ W.cell? ⟨w.heap.size, 2, none⟩ = some (.int .i64 b) ∧ W.cell? ⟨w.heap.size, 3, none⟩ = some (.string d) ∧ W.cell? ⟨w.heap.size, 4, none⟩ = some (.int .i64 m)) ∧ (convert 26 9 (.slice none 0 0)).run Tryd.prog W = .ok (.string ⟨#[]⟩) W)) (by kernel_rfl) ?_
  change wpAnyH _ _ _ _ _ _ _ _ (World.drew _)
  refine wpAnyH_take (i := 0) (oi := ⟨some 36, _, _, _, _, _⟩) (v := ?_) rfl (by kernel_rfl) (by kernel_rfl) (by kernel_rfl) (fun _ _ _ h => h) (Or.inl ⟨by rfl, ?_⟩) hS5 ?_
  rotate_left 1
  · (intro w hSw; obtain ⟨hSw1, hSw2⟩ := hSw; go_simp; try with_reducible rfl)
  simp only [Act.put, List.setIfInBounds_toArray, List.set_cons_zero, List.set_cons_succ]
  refine wpAnyH_take (i := 2) (oi := ⟨some 38, _, _, _, _, _⟩) (v := ?_) rfl (by kernel_rfl) (by kernel_rfl) (by kernel_rfl) (fun _ _ _ h => h) (Or.inl ⟨by rfl, ?_⟩) hS5 ?_
  rotate_left 1
  · (intro w hSw; obtain ⟨hSw1, hSw2⟩ := hSw; go_simp; try with_reducible rfl)
  simp only [Act.put, List.setIfInBounds_toArray, List.set_cons_zero, List.set_cons_succ]
  refine wpAnyH_ready (rs := [1]) (by kernel_rfl) (by simp) ?_
  refine AllReadyH.cons (o := ⟨some 37, _, _, _, _, _⟩) rfl (fun K hK => ?_) AllReadyH.nil
  go_simp
  refine (Right_told s k b d m _ (by have := HD.out; omega) false HV.out).mono ?_
  rintro e w6 ⟨rfl, hb6'⟩
  have hb6 := drew_below hb6'
  clear hb6'
  have HX6 := hide (HX5.out.below hb6)
  have HB6 := hide (HB5.out.trans (hb6.mono HB5.out.size))
  have HF6 := hide (HF5.out.below (Nat.le_refl _) hb6)
  have hS6 : (w6.cell? ⟨w.heap.size, 0, none⟩ = some (.int .i64 s) ∧ w6.cell? ⟨w.heap.size, 1, none⟩ = some (.int .i64 k) ∧ w6.cell? ⟨w.heap.size, 2, none⟩ = some (.int .i64 b) ∧ w6.cell? ⟨w.heap.size, 3, none⟩ = some (.string d) ∧ w6.cell? ⟨w.heap.size, 4, none⟩ = some (.int .i64 m)) ∧ (convert 26 9 (.slice none 0 0)).run Tryd.prog w6 = .ok (.string ⟨#[]⟩) w6 := ⟨HX6.out.all, str_told w6 0 none [] 0 0 rfl Byt.nil ⟨#[]⟩ rfl⟩
  clear hb6
  refine hK.out _ _ hS6 (fun hHeld => ?_)
  clear hK K
  clear hHeld
  refine wpAnyH_ready (rs := [3]) (by kernel_rfl) (by simp) ?_
  refine AllReadyH.cons (o := ⟨some 39, _, _, _, _, _⟩) rfl (fun K hK => ?_) AllReadyH.nil
  go_simp
  refine (rRight_told s k b d m _ false HV.out).mono ?_
  rintro e w7 ⟨rfl, hb7⟩
  have HX7 := hide (HX6.out.below hb7)
  have HB7 := hide (HB6.out.trans (hb7.mono HB6.out.size))
  have HF7 := hide (HF6.out.below (Nat.le_refl _) hb7)
  have hS7 : (w7.cell? ⟨w.heap.size, 0, none⟩ = some (.int .i64 s) ∧ w7.cell? ⟨w.heap.size, 1, none⟩ = some (.int .i64 k) ∧ w7.cell? ⟨w.heap.size, 2, none⟩ = some (.int .i64 b) ∧ w7.cell? ⟨w.heap.size, 3, none⟩ = some (.string d) ∧ w7.cell? ⟨w.heap.size, 4, none⟩ = some (.int .i64 m)) ∧ (convert 26 9 (.slice none 0 0)).run Tryd.prog w7 = .ok (.string ⟨#[]⟩) w7 := ⟨HX7.out.all, str_told w7 0 none [] 0 0 rfl Byt.nil ⟨#[]⟩ rfl⟩
  clear hb7
  refine hK.out _ _ hS7 (fun hHeld => ?_)
  clear hK K
  clear hHeld
  refine wpAnyH_take (i := 4) (oi := ⟨some 40, _, _, _, _, _⟩) (v := ?_) rfl (by kernel_rfl) (by kernel_rfl) (by kernel_rfl) (fun _ _ _ h => h) (Or.inl ⟨by rfl, ?_⟩) hS7 ?_
  rotate_left 1
  · (intro w hSw; obtain ⟨hSw1, hSw2⟩ := hSw; go_simp; try with_reducible rfl)
  simp only [Act.put, List.setIfInBounds_toArray, List.set_cons_zero, List.set_cons_succ]
  refine wpAnyH_take (i := 5) (oi := ⟨some 41, _, _, _, _, _⟩) (v := ?_) rfl (by kernel_rfl) (by kernel_rfl) (by kernel_rfl) (fun _ _ _ h => h) (Or.inl ⟨by rfl, ?_⟩) hS7 ?_
  rotate_left 1
  · (intro w hSw; obtain ⟨hSw1, hSw2⟩ := hSw; go_simp; try with_reducible rfl)
  simp only [Act.put, List.setIfInBounds_toArray, List.set_cons_zero, List.set_cons_succ]
  refine wpAnyH_take (i := 6) (oi := ⟨some 42, _, _, _, _, _⟩) (v := ?_) rfl (by kernel_rfl) (by kernel_rfl) (by kernel_rfl) (fun _ _ _ h => h) (Or.inl ⟨by rfl, ?_⟩) hS7 ?_
  rotate_left 1
  · (intro w hSw; obtain ⟨hSw1, hSw2⟩ := hSw; go_simp; try with_reducible rfl)
  simp only [Act.put, List.setIfInBounds_toArray, List.set_cons_zero, List.set_cons_succ]
  refine wpAnyH_take (i := 7) (oi := ⟨some 43, _, _, _, _, _⟩) (v := ?_) rfl (by kernel_rfl) (by kernel_rfl) (by kernel_rfl) (fun _ _ _ h => h) (Or.inl ⟨by rfl, ?_⟩) hS7 ?_
  rotate_left 1
  · (intro w hSw; obtain ⟨hSw1, hSw2⟩ := hSw; go_simp; try with_reducible rfl)
  simp only [Act.put, List.setIfInBounds_toArray, List.set_cons_zero, List.set_cons_succ]
  refine wpAnyH_take (i := 8) (oi := ⟨some 44, _, _, _, _, _⟩) (v := ?_) rfl (by kernel_rfl) (by kernel_rfl) (by kernel_rfl) (fun _ _ _ h => h) (Or.inl ⟨by rfl, ?_⟩) hS7 ?_
  rotate_left 1
  · (intro w hSw; obtain ⟨hSw1, hSw2⟩ := hSw; go_simp; try with_reducible rfl)
  simp only [Act.put, List.setIfInBounds_toArray, List.set_cons_zero, List.set_cons_succ]
  refine wpAnyH_take (i := 9) (oi := ⟨some 45, _, _, _, _, _⟩) (v := ?_) rfl (by kernel_rfl) (by kernel_rfl) (by kernel_rfl) (fun _ _ _ h => h) (Or.inl ⟨by rfl, ?_⟩) hS7 ?_
  rotate_left 1
  · (intro w hSw; obtain ⟨hSw1, hSw2⟩ := hSw; go_simp; try with_reducible rfl)
  simp only [Act.put, List.setIfInBounds_toArray, List.set_cons_zero, List.set_cons_succ]
  refine wpAnyH_take (i := 10) (oi := ⟨some 46, _, _, _, _, _⟩) (v := ?_) rfl (by kernel_rfl) (by kernel_rfl) (by kernel_rfl) (fun _ _ _ h => h) (Or.inl ⟨by rfl, ?_⟩) hS7 ?_
  rotate_left 1
  · (intro w hSw; obtain ⟨hSw1, hSw2⟩ := hSw; go_simp; try with_reducible rfl)
  simp only [Act.put, List.setIfInBounds_toArray, List.set_cons_zero, List.set_cons_succ]
  refine wpAnyH_take (i := 11) (oi := ⟨some 47, _, _, _, _, _⟩) (v := ?_) rfl (by kernel_rfl) (by kernel_rfl) (by kernel_rfl) (fun _ _ _ h => h) (Or.inl ⟨by rfl, ?_⟩) hS7 ?_
  rotate_left 1
  · (intro w hSw; obtain ⟨hSw1, hSw2⟩ := hSw; go_simp; try with_reducible rfl)
  simp only [Act.put, List.setIfInBounds_toArray, List.set_cons_zero, List.set_cons_succ]
  refine wpAnyH_take (i := 12) (oi := ⟨some 48, _, _, _, _, _⟩) (v := ?_) rfl (by kernel_rfl) (by kernel_rfl) (by kernel_rfl) (fun _ _ _ h => h) (Or.inl ⟨by rfl, ?_⟩) hS7 ?_
  rotate_left 1
  · (intro w hSw; obtain ⟨hSw1, hSw2⟩ := hSw; go_simp; try with_reducible rfl)
  simp only [Act.put, List.setIfInBounds_toArray, List.set_cons_zero, List.set_cons_succ]
  refine wpAnyH_take (i := 14) (oi := ⟨some 50, _, _, _, _, _⟩) (v := ?_) rfl (by kernel_rfl) (by kernel_rfl) (by kernel_rfl) (fun _ _ _ h => h) (Or.inl ⟨by rfl, ?_⟩) hS7 ?_
  rotate_left 1
  · (intro w hSw; obtain ⟨hSw1, hSw2⟩ := hSw; go_simp; try with_reducible rfl)
  simp only [Act.put, List.setIfInBounds_toArray, List.set_cons_zero, List.set_cons_succ]
  refine wpAnyH_ready (rs := [13]) (by kernel_rfl) (by simp) ?_
  refine AllReadyH.cons (o := ⟨some 49, _, _, _, _, _⟩) rfl (fun K hK => ?_) AllReadyH.nil
  go_simp
  refine (Code_flt' _ s 1 w7 (Hty.out.below HB7.out Hty.out.lt) HF7.out).mono ?_
  rintro e w8 ⟨rfl, hb8⟩
  have HX8 := hide (HX7.out.below hb8)
  have HB8 := hide (HB7.out.trans (hb8.mono HB7.out.size))
  have HF8 := hide (HF7.out.below (Nat.le_refl _) hb8)
  have hS8 : (w8.cell? ⟨w.heap.size, 0, none⟩ = some (.int .i64 s) ∧ w8.cell? ⟨w.heap.size, 1, none⟩ = some (.int .i64 k) ∧ w8.cell? ⟨w.heap.size, 2, none⟩ = some (.int .i64 b) ∧ w8.cell? ⟨w.heap.size, 3, none⟩ = some (.string d) ∧ w8.cell? ⟨w.heap.size, 4, none⟩ = some (.int .i64 m)) ∧ (convert 26 9 (.slice none 0 0)).run Tryd.prog w8 = .ok (.string ⟨#[]⟩) w8 := ⟨HX8.out.all, str_told w8 0 none [] 0 0 rfl Byt.nil ⟨#[]⟩ rfl⟩
  clear hb8
  refine hK.out _ _ hS8 (fun hHeld => ?_)
  clear hK K
  clear hHeld
  refine wpAnyH_take (i := 15) (oi := ⟨some 51, _, _, _, _, _⟩) (v := ?_) rfl (by kernel_rfl) (by kernel_rfl) (by kernel_rfl) (fun _ _ _ h => h) (Or.inl ⟨by rfl, ?_⟩) hS8 ?_
  rotate_left 1
  · (intro w hSw; obtain ⟨hSw1, hSw2⟩ := hSw; go_simp; try with_reducible rfl)
  simp only [Act.put, List.setIfInBounds_toArray, List.set_cons_zero, List.set_cons_succ]
  refine wpAnyH_take (i := 16) (oi := ⟨some 52, _, _, _, _, _⟩) (v := ?_) rfl (by kernel_rfl) (by kernel_rfl) (by kernel_rfl) (fun _ _ _ h => h) (Or.inl ⟨by rfl, ?_⟩) hS8 ?_
  rotate_left 1
  · (intro w hSw; obtain ⟨hSw1, hSw2⟩ := hSw; go_simp; try with_reducible rfl)
  simp only [Act.put, List.setIfInBounds_toArray, List.set_cons_zero, List.set_cons_succ]
  refine wpAnyH_take (i := 17) (oi := ⟨some 53, _, _, _, _, _⟩) (v := ?_) rfl (by kernel_rfl) (by kernel_rfl) (by kernel_rfl) (fun _ _ _ h => h) (Or.inl ⟨by rfl, ?_⟩) hS8 ?_
  rotate_left 1
  · (intro w hSw; obtain ⟨hSw1, hSw2⟩ := hSw; go_simp; try with_reducible rfl)
  simp only [Act.put, List.setIfInBounds_toArray, List.set_cons_zero, List.set_cons_succ]
  refine wpAnyH_take (i := 18) (oi := ⟨some 54, _, _, _, _, _⟩) (v := ?_) rfl (by kernel_rfl) (by kernel_rfl) (by kernel_rfl) (fun _ _ _ h => h) (Or.inl ⟨by rfl, ?_⟩) hS8 ?_
  rotate_left 1
  · (intro w hSw; obtain ⟨hSw1, hSw2⟩ := hSw; go_simp; try with_reducible rfl)
  simp only [Act.put, List.setIfInBounds_toArray, List.set_cons_zero, List.set_cons_succ]
  refine wpAnyH_take (i := 19) (oi := ⟨some 55, _, _, _, _, _⟩) (v := ?_) rfl (by kernel_rfl) (by kernel_rfl) (by kernel_rfl) (fun _ _ _ h => h) (Or.inl ⟨by rfl, ?_⟩) hS8 ?_
  rotate_left 1
  · (intro w hSw; obtain ⟨hSw1, hSw2⟩ := hSw; go_simp; try with_reducible rfl)
  simp only [Act.put, List.setIfInBounds_toArray, List.set_cons_zero, List.set_cons_succ]
  refine wpAnyH_take (i := 20) (oi := ⟨some 56, _, _, _, _, _⟩) (v := ?_) rfl (by kernel_rfl) (by kernel_rfl) (by kernel_rfl) (fun _ _ _ h => h) (Or.inl ⟨by rfl, ?_⟩) hS8 ?_
  rotate_left 1
  · (intro w hSw; obtain ⟨hSw1, hSw2⟩ := hSw; go_simp; try with_reducible rfl)
  simp only [Act.put, List.setIfInBounds_toArray, List.set_cons_zero, List.set_cons_succ]
  refine wpAnyH_take (i := 21) (oi := ⟨some 57, _, _, _, _, _⟩) (v := ?_) rfl (by kernel_rfl) (by kernel_rfl) (by kernel_rfl) (fun _ _ _ h => h) (Or.inl ⟨by rfl, ?_⟩) hS8 ?_
  rotate_left 1
  · (intro w hSw; obtain ⟨hSw1, hSw2⟩ := hSw; go_simp; try with_reducible rfl)
  simp only [Act.put, List.setIfInBounds_toArray, List.set_cons_zero, List.set_cons_succ]
  refine wpAnyH_take (i := 22) (oi := ⟨some 58, _, _, _, _, _⟩) (v := ?_) rfl (by kernel_rfl) (by kernel_rfl) (by kernel_rfl) (fun _ _ _ h => h) (Or.inl ⟨by rfl, ?_⟩) hS8 ?_
  rotate_left 1
  · (intro w hSw; obtain ⟨hSw1, hSw2⟩ := hSw; go_simp; try with_reducible rfl)
  simp only [Act.put, List.setIfInBounds_toArray, List.set_cons_zero, List.set_cons_succ]
  refine wpAnyH_take (i := 23) (oi := ⟨some 59, _, _, _, _, _⟩) (v := ?_) rfl (by kernel_rfl) (by kernel_rfl) (by kernel_rfl) (fun _ _ _ h => h) (Or.inl ⟨by rfl, ?_⟩) hS8 ?_
  rotate_left 1
  · (intro w hSw; obtain ⟨hSw1, hSw2⟩ := hSw; go_simp; try with_reducible rfl)
  simp only [Act.put, List.setIfInBounds_toArray, List.set_cons_zero, List.set_cons_succ]
  refine wpAnyH_take (i := 24) (oi := ⟨some 60, _, _, _, _, _⟩) (v := ?_) rfl (by kernel_rfl) (by kernel_rfl) (by kernel_rfl) (fun _ _ _ h => h) (Or.inl ⟨by rfl, ?_⟩) hS8 ?_
  rotate_left 1
  · (intro w hSw; obtain ⟨hSw1, hSw2⟩ := hSw; go_simp; try with_reducible rfl)
  simp only [Act.put, List.setIfInBounds_toArray, List.set_cons_zero, List.set_cons_succ]
  refine wpAnyH_take (i := 25) (oi := ⟨some 61, _, _, _, _, _⟩) (v := ?_) rfl (by kernel_rfl) (by kernel_rfl) (by kernel_rfl) (fun _ _ _ h => h) (Or.inl ⟨by rfl, ?_⟩) hS8 ?_
  rotate_left 1
  · (intro w hSw; obtain ⟨hSw1, hSw2⟩ := hSw; go_simp; try with_reducible rfl)
  simp only [Act.put, List.setIfInBounds_toArray, List.set_cons_zero, List.set_cons_succ]
  refine wpAnyH_take (i := 26) (oi := ⟨some 62, _, _, _, _, _⟩) (v := ?_) rfl (by kernel_rfl) (by kernel_rfl) (by kernel_rfl) (fun _ _ _ h => h) (Or.inl ⟨by rfl, ?_⟩) hS8 ?_
  rotate_left 1
  · (intro w hSw; obtain ⟨hSw1, hSw2⟩ := hSw; go_simp; try with_reducible rfl)
  simp only [Act.put, List.setIfInBounds_toArray, List.set_cons_zero, List.set_cons_succ]
  refine wpAnyH_take (i := 27) (oi := ⟨some 63, _, _, _, _, _⟩) (v := ?_) rfl (by kernel_rfl) (by kernel_rfl) (by kernel_rfl) (fun _ _ _ h => h) (Or.inl ⟨by rfl, ?_⟩) hS8 ?_
  rotate_left 1
  · (intro w hSw; obtain ⟨hSw1, hSw2⟩ := hSw; go_simp; try with_reducible rfl)
  simp only [Act.put, List.setIfInBounds_toArray, List.set_cons_zero, List.set_cons_succ]
  refine wpAnyH_take (i := 28) (oi := ⟨some 64, _, _, _, _, _⟩) (v := ?_) rfl (by kernel_rfl) (by kernel_rfl) (by kernel_rfl) (fun _ _ _ h => h) (Or.inl ⟨by rfl, ?_⟩) hS8 ?_
  rotate_left 1
  · (intro w hSw; obtain ⟨hSw1, hSw2⟩ := hSw; go_simp; try with_reducible rfl)
  simp only [Act.put, List.setIfInBounds_toArray, List.set_cons_zero, List.set_cons_succ]
  refine wpAnyH_take (i := 29) (oi := ⟨some 65, _, _, _, _, _⟩) (v := ?_) rfl (by kernel_rfl) (by kernel_rfl) (by kernel_rfl) (fun _ _ _ h => h) (Or.inl ⟨by rfl, ?_⟩) hS8 ?_
  rotate_left 1
  · (intro w hSw; obtain ⟨hSw1, hSw2⟩ := hSw; go_simp; try with_reducible rfl)
  simp only [Act.put, List.setIfInBounds_toArray, List.set_cons_zero, List.set_cons_succ]
  refine wpAnyH_take (i := 30) (oi := ⟨some 66, _, _, _, _, _⟩) (v := ?_) rfl (by kernel_rfl) (by kernel_rfl) (by kernel_rfl) (fun _ _ _ h => h) (Or.inl ⟨by rfl, ?_⟩) hS8 ?_
  rotate_left 1
  · (intro w hSw; obtain ⟨hSw1, hSw2⟩ := hSw; go_simp; try with_reducible rfl)
  simp only [Act.put, List.setIfInBounds_toArray, List.set_cons_zero, List.set_cons_succ]
  refine wpAnyH_take (i := 31) (oi := ⟨some 67, _, _, _, _, _⟩) (v := ?_) rfl (by kernel_rfl) (by kernel_rfl) (by kernel_rfl) (fun _ _ _ h => h) (Or.inl ⟨by rfl, ?_⟩) hS8 ?_
  rotate_left 1
  · (intro w hSw; obtain ⟨hSw1, hSw2⟩ := hSw; go_simp; try with_reducible rfl)
  simp only [Act.put, List.setIfInBounds_toArray, List.set_cons_zero, List.set_cons_succ]
  refine wpAnyH_take (i := 32) (oi := ⟨some 68, _, _, _, _, _⟩) (v := ?_) rfl (by kernel_rfl) (by kernel_rfl) (by kernel_rfl) (fun _ _ _ h => h) (Or.inl ⟨by rfl, ?_⟩) hS8 ?_
  rotate_left 1
  · (intro w hSw; obtain ⟨hSw1, hSw2⟩ := hSw; go_simp; try with_reducible rfl)
  simp only [Act.put, List.setIfInBounds_toArray, List.set_cons_zero, List.set_cons_succ]
  refine wpAnyH_take (i := 33) (oi := ⟨some 4, _, _, _, _, _⟩) (v := ?_) rfl (by kernel_rfl) (by kernel_rfl) (by kernel_rfl) (fun _ _ _ h => h) (Or.inl ⟨by rfl, ?_⟩) hS8 ?_
  rotate_left 1
  · (intro w hSw; obtain ⟨hSw1, hSw2⟩ := hSw; go_simp; try with_reducible rfl)
  simp only [Act.put, List.setIfInBounds_toArray, List.set_cons_zero, List.set_cons_succ]
  refine wpAnyH_done (by kernel_rfl) ?_ _
  clear hS5 hS6 hS7 hS8
  go_wp2
  go_ret
  exact ⟨rfl, HB8.out⟩

theorem Rights_walk (g s k b : Int) (d : ByteArray) (m : Int) (w : World) (ht : Tab w) (hty : Ety w) (_hg : Int64 g) (hd : d.size ≤ maxLen) :
    Calls Tryd.prog 3 #[.int .i64 g, rec5 s k b d m] w fun e w' => e = .returned (.bool true) ∧ Below w.heap.size w w' := by
  unfold maxLen at hd
  rcases Nat.lt_or_ge d.size 2000 with h | h
  · by_cases hr : Rgt s k b d.size m
    · have hv : Sgn true (Rgt s k b d.size m) := ⟨fun _ => hr, fun _ => rfl⟩
      by_cases hg : Num g
      · exact Rights_good g s k b d m w ht hty h ⟨hr, hg⟩ hv
      · exact Rights_gen g s k b d m w ht hty h (fun h => hg h.2) hv
    · exact Rights_rec g s k b d m w ht hty h (fun h => hr h.1) ⟨fun h => absurd h Bool.false_ne_true, fun h => absurd h hr⟩
  · exact Rights_long g s k b d m w ht h (by omega)

end Go.Proofs.YtkimhfcnkbakiaaDoor.Rc
