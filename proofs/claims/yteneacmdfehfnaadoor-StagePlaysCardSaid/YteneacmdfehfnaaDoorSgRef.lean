/-
  The document's stage in memory; the contracts of its calls. Nothing but its own blocks is changed.
-/
import Derived.Test.YteneacmdfehfnaaDoorRcRef
import Derived.Test.YteneacmdfehfnaaDoorThAll
import Derived.Test.YteneacmdfehfnaaDoorSgMore
namespace Go.Proofs.YteneacmdfehfnaaDoor.Sg
open Go.RowKit
open Pk Dk Wn Lk Rc

abbrev rbox (f b : Nat) (m : Int) (X : Value) : Array Value := #[.int .i64 ((b : Int) + 1), .int .i64 (f : Int), .int .i64 m, X]
def rst1 (q : Nat) (L : List Rd) (f b : Nat) (m : Int) (X : Value) : Thg := oneT q (rbox f b m X) 37 30 5 X L.length (rcels L)
/-- The document's stage of the records L, of which f are fast; b: the first number minus 1; m: the marker of the last Drop. -/
def rstT (q : Nat) (L : List Rd) (f b : Nat) (m : Int) : Thg := exT (rst1 q L f b m)
section
variable {w w' W w2 : World} {G : Nat → Prop} {q f b f' b' : Nat} {m m' : Int} {L L' : List Rd} {X : Value}
theorem Rst.view (h : (rstT q L f b m).P w G) : ∃ A n c, (rst1 q L f b m (.slice A n c)).P w G ∧ n = L.length ∧ n ≤ c ∧ c ≤ maxLen ∧ Src w A (rcels L) ∧ q < w.heap.size ∧ w.cell? ⟨q, 0, none⟩ = some (.int .i64 ((b : Int) + 1)) ∧ w.cell? ⟨q, 1, none⟩ = some (.int .i64 (f : Int)) ∧ w.cell? ⟨q, 2, none⟩ = some (.int .i64 m) ∧ w.cell? ⟨q, 3, none⟩ = some (.slice A n c) ∧ ∀ j, w.frozen? ⟨q, j, none⟩ = false := by
  obtain ⟨X, hx⟩ := h
  have hr := One.row hx
  obtain ⟨A, c, rfl, h1, h2, _⟩ := hr.form
  exact ⟨A, _, c, hx, rfl, h1, h2, hr.src, One.lt hx, One.cell hx 0, One.cell hx 1, One.cell hx 2, One.cell hx 3, One.frozen hx⟩
theorem Rst.of (h : After (rst1 q L f b m X) w G w') : After (rstT q L f b m) w G w' := After.imp h fun _ hp => ⟨X, hp⟩
set_option maxRecDepth 100000 in
theorem RNew_any (first : Int) (w : World) : Calls Tryd.prog 8 #[.int .i64 first] w fun e w' => e = .returned (.pointer (some ⟨w.heap.size, 0, none⟩)) ∧ (∃ G, (rstT w.heap.size [] 0 (beg first) 0).P w' G ∧ ∀ k, G k → w.heap.size ≤ k) ∧ Below w.heap.size w w' := by
  obtain ⟨b, hb⟩ : ∃ b, beg first = b := ⟨_, rfl⟩
  have hb' := beg_le first
  rw [hb] at hb' ⊢
  have h1 : max 1 (min first 1152921504606846975) = (b : Int) + 1 := by rw [← hb]; unfold beg; omega
  have HF : Hid (∃ G, (rstT w.heap.size [] 0 b 0).P (w.alloc (.cells #[.int .i64 ((b : Int) + 1), .int .i64 0, .int .i64 0, .slice none 0 0] 37)) G ∧ ∀ k, G k → w.heap.size ≤ k) := by
    obtain ⟨G, h1, h2⟩ := One.fresh w #[.int .i64 ((b : Int) + 1), .int .i64 0, .int .i64 0, .slice none 0 0] 37 30 5
    exact ⟨G, ⟨.slice none 0 0, h1⟩, h2⟩
  have HB := hide (show Below w.heap.size w (w.alloc (.cells #[.int .i64 ((b : Int) + 1), .int .i64 0, .int .i64 0, .slice none 0 0] 37)) from (Below.refl _ _).alloc (Nat.le_refl _) _)
  clear hb hb'
  go_enter Tryd.func8, Tryd.ntmps8
  go_wp2
  go_ret
  exact ⟨rfl, HF.out, HB.out⟩
set_option maxRecDepth 100000 in
set_option maxHeartbeats 1000000 in
theorem RTaken_any (h : (rstT q L f b m).P w G) {t : Nat} (ht : b + L.length = t) (htl : t ≤ 1152921504606846975 := by omega) : Calls Tryd.prog 9 #[.pointer (some ⟨q, 0, none⟩)] w fun e w' => e = .returned (.int .i64 (t : Int)) ∧ Below w.heap.size w w' := by
  obtain ⟨A, n, c, _, hn, _, _, _, _, c0, _, _, c3, _⟩ := Rst.view h
  rw [← hn] at ht
  have h1 : (b : Int) + 1 + (n : Int) = (t : Int) + 1 := by omega
  have h2 : IntKind.i64.wrap ((b : Int) + 1 + (n : Int)) = (t : Int) + 1 := by rw [h1]; exact wrap_id (by omega) (by omega)
  have h2' : IntKind.i64.wrap ((t : Int) + 1) = (t : Int) + 1 := wrap_id (by omega) (by omega)
  have h3 : IntKind.i64.wrap ((t : Int) + 1 - 1) = (t : Int) := by rw [Int.add_sub_cancel]; exact wrap_id (by omega) (by omega)
  have h4 : IntKind.i64.wrap (t : Int) = (t : Int) := wrap_id (by omega) (by omega)
  clear h hn ht
  go_enter Tryd.func9, Tryd.ntmps9
  go_wp2_with fail
  go_quiet (fail)
  go_wp2
  go_ret
  exact ⟨by first | rfl | simp, ⟨rfl, rfl, rfl, Nat.le_refl _, fun _ _ => rfl⟩⟩
/-! ### Take -/
set_option maxRecDepth 100000 in
set_option maxHeartbeats 4000000 in
theorem RTake_bad (h : (rstT q L f b m).P w G) (r : Rd) (hd : r.d.size ≤ 9223372036854775807) {t : Nat} (ht : b + L.length = t) (htl : t ≤ 1152921504606846975) (hr : ¬ Rgt r.s r.k r.b r.d.size r.m) : Calls Tryd.prog 11 #[.pointer (some ⟨q, 0, none⟩), r.val] w fun e w' => e = .returned (.int .i64 (t : Int)) ∧ Below w.heap.size w w' := by
  obtain ⟨rs, rk, rb, rd, rm⟩ := r
  show Calls Tryd.prog 11 #[.pointer (some ⟨q, 0, none⟩), .agg #[.int .i64 rs, .int .i64 rk, .int .i64 rb, .string rd, .int .i64 rm]] w _
  have Hh := hide h
  have Ht := hide ht
  have Htl := hide htl
  have Hd := hide hd
  have Hr := hide hr
  clear h ht hd hr htl
  go_enter Tryd.func11, Tryd.ntmps11
  go_wp2_with (refine wpList_box_told rfl 30 (.tmp 1) rfl _ rfl ?_)
  intro w1 Hw1
  obtain ⟨hb1, hl1, c0, c1, c2, c3, c4⟩ := box_told (r := ⟨rs, rk, rb, rd, rm⟩) Hw1.out
  have HB1 := hide hb1
  have Hl1 := hide hl1
  have HN : Hid (∀ (W W2 : World), W.cell? ⟨w.heap.size, 0, none⟩ = some (.int .i64 rs) ∧ W.cell? ⟨w.heap.size, 1, none⟩ = some (.int .i64 rk) ∧ W.cell? ⟨w.heap.size, 2, none⟩ = some (.int .i64 rb) ∧ W.cell? ⟨w.heap.size, 3, none⟩ = some (.string rd) ∧ W.cell? ⟨w.heap.size, 4, none⟩ = some (.int .i64 rm) ∧ Below w1.heap.size w1 W → Below W.heap.size W W2 → W2.cell? ⟨w.heap.size, 0, none⟩ = some (.int .i64 rs) ∧ W2.cell? ⟨w.heap.size, 1, none⟩ = some (.int .i64 rk) ∧ W2.cell? ⟨w.heap.size, 2, none⟩ = some (.int .i64 rb) ∧ W2.cell? ⟨w.heap.size, 3, none⟩ = some (.string rd) ∧ W2.cell? ⟨w.heap.size, 4, none⟩ = some (.int .i64 rm) ∧ Below w1.heap.size w1 W2) := fun W W2 ⟨z0, z1, z2, z3, z4, z5⟩ hb => by
    have hl : w.heap.size < W.heap.size := Nat.lt_of_lt_of_le Hl1.out z5.size
    exact ⟨(hb.cell (p := ⟨w.heap.size, 0, none⟩) hl).trans z0, (hb.cell (p := ⟨w.heap.size, 1, none⟩) hl).trans z1, (hb.cell (p := ⟨w.heap.size, 2, none⟩) hl).trans z2, (hb.cell (p := ⟨w.heap.size, 3, none⟩) hl).trans z3, (hb.cell (p := ⟨w.heap.size, 4, none⟩) hl).trans z4, z5.trans (hb.mono z5.size)⟩
  rw [Nat.zero_add] at c1 c2 c3 c4
  have hS0 : (fun W : World => W.cell? ⟨w.heap.size, 0, none⟩ = some (.int .i64 rs) ∧ W.cell? ⟨w.heap.size, 1, none⟩ = some (.int .i64 rk) ∧ W.cell? ⟨w.heap.size, 2, none⟩ = some (.int .i64 rb) ∧ W.cell? ⟨w.heap.size, 3, none⟩ = some (.string rd) ∧ W.cell? ⟨w.heap.size, 4, none⟩ = some (.int .i64 rm) ∧ Below w1.heap.size w1 W) w1.drew := ⟨c0, c1, c2, c3, c4, (Below.refl _ _).drew⟩
  clear Hw1 hb1 hl1 c0 c1 c2 c3 c4
  go_wp2_with fail
  refine wp_region_held (S := (fun W => W.cell? ⟨w.heap.size, 0, none⟩ = some (.int .i64 rs) ∧ W.cell? ⟨w.heap.size, 1, none⟩ = some (.int .i64 rk) ∧ W.cell? ⟨w.heap.size, 2, none⟩ = some (.int .i64 rb) ∧ W.cell? ⟨w.heap.size, 3, none⟩ = some (.string rd) ∧ W.cell? ⟨w.heap.size, 4, none⟩ = some (.int .i64 rm) ∧ Below w1.heap.size w1 W)) (by kernel_rfl) ?_
  change wpAnyH _ _ _ _ _ _ _ _ (World.drew _)
  refine wpAnyH_take (i := 0) (oi := ⟨some 5, _, _, _, _, _⟩) (v := ?_) rfl (by kernel_rfl) (by kernel_rfl) (by kernel_rfl) (fun _ _ _ h => h) (Or.inl ⟨by rfl, ?_⟩) hS0 ?_
  rotate_left 1
  · (intro w hSw; obtain ⟨hSw0, hSw1, hSw2, hSw3, hSw4, hSw5⟩ := hSw; go_simp; try with_reducible rfl)
  simp only [Act.put, List.setIfInBounds_toArray, List.set_cons_zero, List.set_cons_succ]
  refine wpAnyH_ready (rs := [1]) (by kernel_rfl) (by simp) ?_
  refine AllReadyH.cons (o := ⟨some 6, _, _, _, _, _⟩) rfl (fun K hK => ?_) AllReadyH.nil
  go_simp
  refine (rRight_any rs rk rb rd rm _).mono ?_
  rintro e w5 ⟨⟨B5, rfl, hB5⟩, hb5⟩
  obtain rfl : B5 = false := by cases B5 with | false => rfl | true => exact absurd (hB5.1 rfl) Hr.out
  have hS5 := HN.out _ w5 hS0 ((Below.refl _ _).trans hb5)
  have hb5w := hS5.2.2.2.2.2
  refine hK.out _ _ hS5 (fun hHeld => ?_)
  clear hK K
  clear hHeld
  refine wpAnyH_take (i := 2) (oi := ⟨some 7, _, _, _, _, _⟩) (v := ?_) rfl (by kernel_rfl) (by kernel_rfl) (by kernel_rfl) (fun _ _ _ h => h) (Or.inl ⟨by rfl, ?_⟩) hS5 ?_
  rotate_left 1
  · (intro w hSw; obtain ⟨hSw0, hSw1, hSw2, hSw3, hSw4, hSw5⟩ := hSw; go_simp; try with_reducible rfl)
  simp only [Act.put, List.setIfInBounds_toArray, List.set_cons_zero, List.set_cons_succ]
  refine wpAnyH_take (i := 3) (oi := ⟨some 8, _, _, _, _, _⟩) (v := undef) rfl (by kernel_rfl) (by kernel_rfl) (by kernel_rfl) (fun _ _ _ h => h) (Or.inr ⟨by rfl, rfl⟩) hS5 ?_
  simp only [Act.put, List.setIfInBounds_toArray, List.set_cons_zero, List.set_cons_succ]
  refine wpAnyH_take (i := 4) (oi := ⟨some 9, _, _, _, _, _⟩) (v := undef) rfl (by kernel_rfl) (by kernel_rfl) (by kernel_rfl) (fun _ _ _ h => h) (Or.inr ⟨by rfl, rfl⟩) hS5 ?_
  simp only [Act.put, List.setIfInBounds_toArray, List.set_cons_zero, List.set_cons_succ]
  refine wpAnyH_take (i := 5) (oi := ⟨some 10, _, _, _, _, _⟩) (v := undef) rfl (by kernel_rfl) (by kernel_rfl) (by kernel_rfl) (fun _ _ _ h => h) (Or.inr ⟨by rfl, rfl⟩) hS5 ?_
  simp only [Act.put, List.setIfInBounds_toArray, List.set_cons_zero, List.set_cons_succ]
  refine wpAnyH_take (i := 6) (oi := ⟨some 11, _, _, _, _, _⟩) (v := undef) rfl (by kernel_rfl) (by kernel_rfl) (by kernel_rfl) (fun _ _ _ h => h) (Or.inr ⟨by rfl, rfl⟩) hS5 ?_
  simp only [Act.put, List.setIfInBounds_toArray, List.set_cons_zero, List.set_cons_succ]
  refine wpAnyH_take (i := 7) (oi := ⟨some 12, _, _, _, _, _⟩) (v := undef) rfl (by kernel_rfl) (by kernel_rfl) (by kernel_rfl) (fun _ _ _ h => h) (Or.inr ⟨by rfl, rfl⟩) hS5 ?_
  simp only [Act.put, List.setIfInBounds_toArray, List.set_cons_zero, List.set_cons_succ]
  refine wpAnyH_take (i := 8) (oi := ⟨some 13, _, _, _, _, _⟩) (v := undef) rfl (by kernel_rfl) (by kernel_rfl) (by kernel_rfl) (fun _ _ _ h => h) (Or.inr ⟨by rfl, rfl⟩) hS5 ?_
  simp only [Act.put, List.setIfInBounds_toArray, List.set_cons_zero, List.set_cons_succ]
  refine wpAnyH_take (i := 9) (oi := ⟨some 14, _, _, _, _, _⟩) (v := ?_) rfl (by kernel_rfl) (by kernel_rfl) (by kernel_rfl) (fun _ _ _ h => h) (Or.inl ⟨by rfl, ?_⟩) hS5 ?_
  rotate_left 1
  · (intro w hSw; obtain ⟨hSw0, hSw1, hSw2, hSw3, hSw4, hSw5⟩ := hSw; go_simp; try with_reducible rfl)
  simp only [Act.put, List.setIfInBounds_toArray, List.set_cons_zero, List.set_cons_succ]
  refine wpAnyH_done (by kernel_rfl) ?_ _
  have HB5 := hide (HB1.out.trans (hb5w.mono HB1.out.size))
  clear hS5 hb5w hb5 hB5 hS0
  go_wp2_with fail
  refine (RTaken_any (Thg.below (T := rstT q L f b m) Hh.out HB5.out) Ht.out Htl.out).mono ?_
  rintro e w7 ⟨rfl, hb7⟩
  have HB7 := hide (HB5.out.trans (hb7.mono HB5.out.size))
  clear hb7
  go_wp2
  go_ret
  exact ⟨rfl, HB7.out⟩
set_option maxRecDepth 100000 in
set_option maxHeartbeats 4000000 in
theorem RTake_skip (h : (rstT q L f b m).P w G) (r : Rd) (hd : r.d.size ≤ 9223372036854775807) {t : Nat} (ht : b + L.length = t) (htl : t ≤ 1152921504606846975) (hr : r.s ≠ (t : Int) + 1 ∧ Rgt r.s r.k r.b r.d.size r.m) : Calls Tryd.prog 11 #[.pointer (some ⟨q, 0, none⟩), r.val] w fun e w' => e = .returned (.int .i64 (t : Int)) ∧ Below w.heap.size w w' := by
  obtain ⟨rs, rk, rb, rd, rm⟩ := r
  show Calls Tryd.prog 11 #[.pointer (some ⟨q, 0, none⟩), .agg #[.int .i64 rs, .int .i64 rk, .int .i64 rb, .string rd, .int .i64 rm]] w _
  have Hh := hide h
  have Ht := hide ht
  have Htl := hide htl
  have Hd := hide hd
  have Hr0 := hide hr
  clear h ht hd hr htl
  go_enter Tryd.func11, Tryd.ntmps11
  go_wp2_with (refine wpList_box_told rfl 30 (.tmp 1) rfl _ rfl ?_)
  intro w1 Hw1
  obtain ⟨hb1, hl1, c0, c1, c2, c3, c4⟩ := box_told (r := ⟨rs, rk, rb, rd, rm⟩) Hw1.out
  have HB1 := hide hb1
  have Hl1 := hide hl1
  have HN : Hid (∀ (W W2 : World), W.cell? ⟨w.heap.size, 0, none⟩ = some (.int .i64 rs) ∧ W.cell? ⟨w.heap.size, 1, none⟩ = some (.int .i64 rk) ∧ W.cell? ⟨w.heap.size, 2, none⟩ = some (.int .i64 rb) ∧ W.cell? ⟨w.heap.size, 3, none⟩ = some (.string rd) ∧ W.cell? ⟨w.heap.size, 4, none⟩ = some (.int .i64 rm) ∧ Below w1.heap.size w1 W → Below W.heap.size W W2 → W2.cell? ⟨w.heap.size, 0, none⟩ = some (.int .i64 rs) ∧ W2.cell? ⟨w.heap.size, 1, none⟩ = some (.int .i64 rk) ∧ W2.cell? ⟨w.heap.size, 2, none⟩ = some (.int .i64 rb) ∧ W2.cell? ⟨w.heap.size, 3, none⟩ = some (.string rd) ∧ W2.cell? ⟨w.heap.size, 4, none⟩ = some (.int .i64 rm) ∧ Below w1.heap.size w1 W2) := fun W W2 ⟨z0, z1, z2, z3, z4, z5⟩ hb => by
    have hl : w.heap.size < W.heap.size := Nat.lt_of_lt_of_le Hl1.out z5.size
    exact ⟨(hb.cell (p := ⟨w.heap.size, 0, none⟩) hl).trans z0, (hb.cell (p := ⟨w.heap.size, 1, none⟩) hl).trans z1, (hb.cell (p := ⟨w.heap.size, 2, none⟩) hl).trans z2, (hb.cell (p := ⟨w.heap.size, 3, none⟩) hl).trans z3, (hb.cell (p := ⟨w.heap.size, 4, none⟩) hl).trans z4, z5.trans (hb.mono z5.size)⟩
  rw [Nat.zero_add] at c1 c2 c3 c4
  have e0 : IntKind.i64.wrap ((t : Int) + 1) = (t : Int) + 1 := wrap_id (by omega) (by have := Htl.out; omega)
  have HP := hide (Thg.below (T := rstT q L f b m) Hh.out HB1.out)
  have hS0 : (fun W : World => W.cell? ⟨w.heap.size, 0, none⟩ = some (.int .i64 rs) ∧ W.cell? ⟨w.heap.size, 1, none⟩ = some (.int .i64 rk) ∧ W.cell? ⟨w.heap.size, 2, none⟩ = some (.int .i64 rb) ∧ W.cell? ⟨w.heap.size, 3, none⟩ = some (.string rd) ∧ W.cell? ⟨w.heap.size, 4, none⟩ = some (.int .i64 rm) ∧ Below w1.heap.size w1 W) w1.drew := ⟨c0, c1, c2, c3, c4, (Below.refl _ _).drew⟩
  clear Hw1 hb1 hl1 c0 c1 c2 c3 c4
  have hq1 : (rs == (t : Int) + 1) = false := by simpa using Hr0.out.1
  have Hr := hide Hr0.out.2
  go_wp2_with fail
  refine wp_region_held (S := (fun W => W.cell? ⟨w.heap.size, 0, none⟩ = some (.int .i64 rs) ∧ W.cell? ⟨w.heap.size, 1, none⟩ = some (.int .i64 rk) ∧ W.cell? ⟨w.heap.size, 2, none⟩ = some (.int .i64 rb) ∧ W.cell? ⟨w.heap.size, 3, none⟩ = some (.string rd) ∧ W.cell? ⟨w.heap.size, 4, none⟩ = some (.int .i64 rm) ∧ Below w1.heap.size w1 W)) (by kernel_rfl) ?_
  change wpAnyH _ _ _ _ _ _ _ _ (World.drew _)
  refine wpAnyH_take (i := 0) (oi := ⟨some 5, _, _, _, _, _⟩) (v := ?_) rfl (by kernel_rfl) (by kernel_rfl) (by kernel_rfl) (fun _ _ _ h => h) (Or.inl ⟨by rfl, ?_⟩) hS0 ?_
  rotate_left 1
  · (intro w hSw; obtain ⟨hSw0, hSw1, hSw2, hSw3, hSw4, hSw5⟩ := hSw; go_simp; try with_reducible rfl)
  simp only [Act.put, List.setIfInBounds_toArray, List.set_cons_zero, List.set_cons_succ]
  refine wpAnyH_ready (rs := [1]) (by kernel_rfl) (by simp) ?_
  refine AllReadyH.cons (o := ⟨some 6, _, _, _, _, _⟩) rfl (fun K hK => ?_) AllReadyH.nil
  go_simp
  refine (rRight_any rs rk rb rd rm _).mono ?_
  rintro e w5 ⟨⟨B5, rfl, hB5⟩, hb5⟩
  obtain rfl : B5 = true := hB5.2 Hr.out
  have hS5 := HN.out _ w5 hS0 ((Below.refl _ _).trans hb5)
  have hb5w := hS5.2.2.2.2.2
  refine hK.out _ _ hS5 (fun hHeld => ?_)
  clear hK K
  clear hHeld
  refine wpAnyH_take (i := 2) (oi := ⟨some 7, _, _, _, _, _⟩) (v := ?_) rfl (by kernel_rfl) (by kernel_rfl) (by kernel_rfl) (fun _ _ _ h => h) (Or.inl ⟨by rfl, ?_⟩) hS5 ?_
  rotate_left 1
  · (intro w hSw; obtain ⟨hSw0, hSw1, hSw2, hSw3, hSw4, hSw5⟩ := hSw; go_simp; try with_reducible rfl)
  simp only [Act.put, List.setIfInBounds_toArray, List.set_cons_zero, List.set_cons_succ]
  refine wpAnyH_take (i := 3) (oi := ⟨some 8, _, _, _, _, _⟩) (v := ?_) rfl (by kernel_rfl) (by kernel_rfl) (by kernel_rfl) (fun _ _ _ h => h) (Or.inl ⟨by rfl, ?_⟩) hS5 ?_
  rotate_left 1
  · (intro w hSw; obtain ⟨hSw0, hSw1, hSw2, hSw3, hSw4, hSw5⟩ := hSw; go_simp; try with_reducible rfl)
  simp only [Act.put, List.setIfInBounds_toArray, List.set_cons_zero, List.set_cons_succ]
  refine wpAnyH_take (i := 4) (oi := ⟨some 9, _, _, _, _, _⟩) (v := ?_) rfl (by kernel_rfl) (by kernel_rfl) (by kernel_rfl) (fun _ _ _ h => h) (Or.inl ⟨by rfl, ?_⟩) hS5 ?_
  rotate_left 1
  · (intro w hSw; obtain ⟨hSw0, hSw1, hSw2, hSw3, hSw4, hSw5⟩ := hSw; go_simp; try with_reducible rfl)
  simp only [Act.put, List.setIfInBounds_toArray, List.set_cons_zero, List.set_cons_succ]
  refine wpAnyH_take (i := 5) (oi := ⟨some 10, _, _, _, _, _⟩) (v := ?_) rfl (by kernel_rfl) (by kernel_rfl) (by kernel_rfl) (fun _ _ _ h => h) (Or.inl ⟨by rfl, ?_⟩) hS5 ?_
  rotate_left 1
  · (intro w hSw; obtain ⟨hSw0, hSw1, hSw2, hSw3, hSw4, hSw5⟩ := hSw; go_simp; try with_reducible rfl)
  simp only [Act.put, List.setIfInBounds_toArray, List.set_cons_zero, List.set_cons_succ]
  refine wpAnyH_ready (rs := [6]) (by kernel_rfl) (by simp) ?_
  refine AllReadyH.cons (o := ⟨some 11, _, _, _, _, _⟩) rfl (fun K hK => ?_) AllReadyH.nil
  go_simp
  refine (RTaken_any (Thg.below (T := rstT q L f b m) HP.out hb5w) Ht.out Htl.out).mono ?_
  rintro e w6 ⟨rfl, hb6⟩
  have hS6 := HN.out _ w6 hS5 hb6
  have hb6w := hS6.2.2.2.2.2
  refine hK.out _ _ hS6 (fun hHeld => ?_)
  clear hK K
  clear hHeld
  refine wpAnyH_take (i := 7) (oi := ⟨some 12, _, _, _, _, _⟩) (v := ?_) rfl (by kernel_rfl) (by kernel_rfl) (by kernel_rfl) (fun _ _ _ h => h) (Or.inl ⟨by rfl, ?_⟩) hS6 ?_
  rotate_left 1
  · (intro w hSw; obtain ⟨hSw0, hSw1, hSw2, hSw3, hSw4, hSw5⟩ := hSw; go_simp; try with_reducible rfl)
  simp only [Act.put, List.setIfInBounds_toArray, List.set_cons_zero, List.set_cons_succ]
  refine wpAnyH_take (i := 8) (oi := ⟨some 13, _, _, _, _, _⟩) (v := ?_) rfl (by kernel_rfl) (by kernel_rfl) (by kernel_rfl) (fun _ _ _ h => h) (Or.inl ⟨by rfl, ?_⟩) hS6 ?_
  rotate_left 1
  · (intro w hSw; obtain ⟨hSw0, hSw1, hSw2, hSw3, hSw4, hSw5⟩ := hSw; go_simp; try with_reducible rfl)
  simp only [Act.put, List.setIfInBounds_toArray, List.set_cons_zero, List.set_cons_succ]
  refine wpAnyH_take (i := 9) (oi := ⟨some 14, _, _, _, _, _⟩) (v := ?_) rfl (by kernel_rfl) (by kernel_rfl) (by kernel_rfl) (fun _ _ _ h => h) (Or.inl ⟨by rfl, ?_⟩) hS6 ?_
  rotate_left 1
  · (intro w hSw; obtain ⟨hSw0, hSw1, hSw2, hSw3, hSw4, hSw5⟩ := hSw; go_simp; try with_reducible rfl)
  simp only [Act.put, List.setIfInBounds_toArray, List.set_cons_zero, List.set_cons_succ]
  refine wpAnyH_done (by kernel_rfl) ?_ _
  have HB5 := hide (HB1.out.trans (hb6w.mono HB1.out.size))
  clear hS5 hb5w hb5 hB5 hS0 hS6 hb6 hb6w
  go_wp2_with fail
  refine (RTaken_any (Thg.below (T := rstT q L f b m) Hh.out HB5.out) Ht.out Htl.out).mono ?_
  rintro e w7 ⟨rfl, hb7⟩
  have HB7 := hide (HB5.out.trans (hb7.mono HB5.out.size))
  clear hb7
  go_wp2
  go_ret
  exact ⟨rfl, HB7.out⟩
set_option maxRecDepth 100000 in
set_option maxHeartbeats 4000000 in
theorem RTake_yes (h : (rstT q L f b m).P w G) (r : Rd) (hd : r.d.size ≤ 9223372036854775807) {t : Nat} (ht : b + L.length = t) (htl : t ≤ 1152921504606846975) (hr : r.s = (t : Int) + 1 ∧ Rgt r.s r.k r.b r.d.size r.m) (hf : L.length < 100000) : Calls Tryd.prog 11 #[.pointer (some ⟨q, 0, none⟩), r.val] w fun e w' => e = .returned (.int .i64 ((t : Int) + 1)) ∧ After (rstT q (L ++ [r]) f b m) w G w' := by
  obtain ⟨rs, rk, rb, rd, rm⟩ := r
  show Calls Tryd.prog 11 #[.pointer (some ⟨q, 0, none⟩), .agg #[.int .i64 rs, .int .i64 rk, .int .i64 rb, .string rd, .int .i64 rm]] w _
  have Hh := hide h
  have Ht := hide ht
  have Htl := hide htl
  have Hd := hide hd
  have Hr0 := hide hr
  have Hf := hide hf
  clear h ht hd hr htl hf
  go_enter Tryd.func11, Tryd.ntmps11
  go_wp2_with (refine wpList_box_told rfl 30 (.tmp 1) rfl _ rfl ?_)
  intro w1 Hw1
  obtain ⟨hb1, hl1, c0, c1, c2, c3, c4⟩ := box_told (r := ⟨rs, rk, rb, rd, rm⟩) Hw1.out
  have HB1 := hide hb1
  have Hl1 := hide hl1
  have HN : Hid (∀ (W W2 : World), W.cell? ⟨w.heap.size, 0, none⟩ = some (.int .i64 rs) ∧ W.cell? ⟨w.heap.size, 1, none⟩ = some (.int .i64 rk) ∧ W.cell? ⟨w.heap.size, 2, none⟩ = some (.int .i64 rb) ∧ W.cell? ⟨w.heap.size, 3, none⟩ = some (.string rd) ∧ W.cell? ⟨w.heap.size, 4, none⟩ = some (.int .i64 rm) ∧ Below w1.heap.size w1 W → Below W.heap.size W W2 → W2.cell? ⟨w.heap.size, 0, none⟩ = some (.int .i64 rs) ∧ W2.cell? ⟨w.heap.size, 1, none⟩ = some (.int .i64 rk) ∧ W2.cell? ⟨w.heap.size, 2, none⟩ = some (.int .i64 rb) ∧ W2.cell? ⟨w.heap.size, 3, none⟩ = some (.string rd) ∧ W2.cell? ⟨w.heap.size, 4, none⟩ = some (.int .i64 rm) ∧ Below w1.heap.size w1 W2) := fun W W2 ⟨z0, z1, z2, z3, z4, z5⟩ hb => by
    have hl : w.heap.size < W.heap.size := Nat.lt_of_lt_of_le Hl1.out z5.size
    exact ⟨(hb.cell (p := ⟨w.heap.size, 0, none⟩) hl).trans z0, (hb.cell (p := ⟨w.heap.size, 1, none⟩) hl).trans z1, (hb.cell (p := ⟨w.heap.size, 2, none⟩) hl).trans z2, (hb.cell (p := ⟨w.heap.size, 3, none⟩) hl).trans z3, (hb.cell (p := ⟨w.heap.size, 4, none⟩) hl).trans z4, z5.trans (hb.mono z5.size)⟩
  rw [Nat.zero_add] at c1 c2 c3 c4
  have e0 : IntKind.i64.wrap ((t : Int) + 1) = (t : Int) + 1 := wrap_id (by omega) (by have := Htl.out; omega)
  have HP := hide (Thg.below (T := rstT q L f b m) Hh.out HB1.out)
  have hS0 : (fun W : World => W.cell? ⟨w.heap.size, 0, none⟩ = some (.int .i64 rs) ∧ W.cell? ⟨w.heap.size, 1, none⟩ = some (.int .i64 rk) ∧ W.cell? ⟨w.heap.size, 2, none⟩ = some (.int .i64 rb) ∧ W.cell? ⟨w.heap.size, 3, none⟩ = some (.string rd) ∧ W.cell? ⟨w.heap.size, 4, none⟩ = some (.int .i64 rm) ∧ Below w1.heap.size w1 W) w1.drew := ⟨c0, c1, c2, c3, c4, (Below.refl _ _).drew⟩
  clear Hw1 hb1 hl1 c0 c1 c2 c3 c4
  have hq1 : (rs == (t : Int) + 1) = true := by simpa using Hr0.out.1
  have Hr := hide Hr0.out.2
  go_wp2_with fail
  refine wp_region_held (S := (fun W => W.cell? ⟨w.heap.size, 0, none⟩ = some (.int .i64 rs) ∧ W.cell? ⟨w.heap.size, 1, none⟩ = some (.int .i64 rk) ∧ W.cell? ⟨w.heap.size, 2, none⟩ = some (.int .i64 rb) ∧ W.cell? ⟨w.heap.size, 3, none⟩ = some (.string rd) ∧ W.cell? ⟨w.heap.size, 4, none⟩ = some (.int .i64 rm) ∧ Below w1.heap.size w1 W)) (by kernel_rfl) ?_
  change wpAnyH _ _ _ _ _ _ _ _ (World.drew _)
  refine wpAnyH_take (i := 0) (oi := ⟨some 5, _, _, _, _, _⟩) (v := ?_) rfl (by kernel_rfl) (by kernel_rfl) (by kernel_rfl) (fun _ _ _ h => h) (Or.inl ⟨by rfl, ?_⟩) hS0 ?_
  rotate_left 1
  · (intro w hSw; obtain ⟨hSw0, hSw1, hSw2, hSw3, hSw4, hSw5⟩ := hSw; go_simp; try with_reducible rfl)
  simp only [Act.put, List.setIfInBounds_toArray, List.set_cons_zero, List.set_cons_succ]
  refine wpAnyH_ready (rs := [1]) (by kernel_rfl) (by simp) ?_
  refine AllReadyH.cons (o := ⟨some 6, _, _, _, _, _⟩) rfl (fun K hK => ?_) AllReadyH.nil
  go_simp
  refine (rRight_any rs rk rb rd rm _).mono ?_
  rintro e w5 ⟨⟨B5, rfl, hB5⟩, hb5⟩
  obtain rfl : B5 = true := hB5.2 Hr.out
  have hS5 := HN.out _ w5 hS0 ((Below.refl _ _).trans hb5)
  have hb5w := hS5.2.2.2.2.2
  refine hK.out _ _ hS5 (fun hHeld => ?_)
  clear hK K
  clear hHeld
  refine wpAnyH_take (i := 2) (oi := ⟨some 7, _, _, _, _, _⟩) (v := ?_) rfl (by kernel_rfl) (by kernel_rfl) (by kernel_rfl) (fun _ _ _ h => h) (Or.inl ⟨by rfl, ?_⟩) hS5 ?_
  rotate_left 1
  · (intro w hSw; obtain ⟨hSw0, hSw1, hSw2, hSw3, hSw4, hSw5⟩ := hSw; go_simp; try with_reducible rfl)
  simp only [Act.put, List.setIfInBounds_toArray, List.set_cons_zero, List.set_cons_succ]
  refine wpAnyH_take (i := 3) (oi := ⟨some 8, _, _, _, _, _⟩) (v := ?_) rfl (by kernel_rfl) (by kernel_rfl) (by kernel_rfl) (fun _ _ _ h => h) (Or.inl ⟨by rfl, ?_⟩) hS5 ?_
  rotate_left 1
  · (intro w hSw; obtain ⟨hSw0, hSw1, hSw2, hSw3, hSw4, hSw5⟩ := hSw; go_simp; try with_reducible rfl)
  simp only [Act.put, List.setIfInBounds_toArray, List.set_cons_zero, List.set_cons_succ]
  refine wpAnyH_take (i := 4) (oi := ⟨some 9, _, _, _, _, _⟩) (v := ?_) rfl (by kernel_rfl) (by kernel_rfl) (by kernel_rfl) (fun _ _ _ h => h) (Or.inl ⟨by rfl, ?_⟩) hS5 ?_
  rotate_left 1
  · (intro w hSw; obtain ⟨hSw0, hSw1, hSw2, hSw3, hSw4, hSw5⟩ := hSw; go_simp; try with_reducible rfl)
  simp only [Act.put, List.setIfInBounds_toArray, List.set_cons_zero, List.set_cons_succ]
  refine wpAnyH_take (i := 5) (oi := ⟨some 10, _, _, _, _, _⟩) (v := ?_) rfl (by kernel_rfl) (by kernel_rfl) (by kernel_rfl) (fun _ _ _ h => h) (Or.inl ⟨by rfl, ?_⟩) hS5 ?_
  rotate_left 1
  · (intro w hSw; obtain ⟨hSw0, hSw1, hSw2, hSw3, hSw4, hSw5⟩ := hSw; go_simp; try with_reducible rfl)
  simp only [Act.put, List.setIfInBounds_toArray, List.set_cons_zero, List.set_cons_succ]
  refine wpAnyH_ready (rs := [6]) (by kernel_rfl) (by simp) ?_
  refine AllReadyH.cons (o := ⟨some 11, _, _, _, _, _⟩) rfl (fun K hK => ?_) AllReadyH.nil
  go_simp
  refine (RTaken_any (Thg.below (T := rstT q L f b m) HP.out hb5w) Ht.out Htl.out).mono ?_
  rintro e w6 ⟨rfl, hb6⟩
  have hS6 := HN.out _ w6 hS5 hb6
  have hb6w := hS6.2.2.2.2.2
  refine hK.out _ _ hS6 (fun hHeld => ?_)
  clear hK K
  clear hHeld
  refine wpAnyH_take (i := 7) (oi := ⟨some 12, _, _, _, _, _⟩) (v := ?_) rfl (by kernel_rfl) (by kernel_rfl) (by kernel_rfl) (fun _ _ _ h => h) (Or.inl ⟨by rfl, ?_⟩) hS6 ?_
  rotate_left 1
  · (intro w hSw; obtain ⟨hSw0, hSw1, hSw2, hSw3, hSw4, hSw5⟩ := hSw; go_simp; try with_reducible rfl)
  simp only [Act.put, List.setIfInBounds_toArray, List.set_cons_zero, List.set_cons_succ]
  refine wpAnyH_take (i := 8) (oi := ⟨some 13, _, _, _, _, _⟩) (v := ?_) rfl (by kernel_rfl) (by kernel_rfl) (by kernel_rfl) (fun _ _ _ h => h) (Or.inl ⟨by rfl, ?_⟩) hS6 ?_
  rotate_left 1
  · (intro w hSw; obtain ⟨hSw0, hSw1, hSw2, hSw3, hSw4, hSw5⟩ := hSw; go_simp; try with_reducible rfl)
  simp only [Act.put, List.setIfInBounds_toArray, List.set_cons_zero, List.set_cons_succ]
  refine wpAnyH_take (i := 9) (oi := ⟨some 14, _, _, _, _, _⟩) (v := ?_) rfl (by kernel_rfl) (by kernel_rfl) (by kernel_rfl) (fun _ _ _ h => h) (Or.inl ⟨by rfl, ?_⟩) hS6 ?_
  rotate_left 1
  · (intro w hSw; obtain ⟨hSw0, hSw1, hSw2, hSw3, hSw4, hSw5⟩ := hSw; go_simp; try with_reducible rfl)
  simp only [Act.put, List.setIfInBounds_toArray, List.set_cons_zero, List.set_cons_succ]
  refine wpAnyH_done (by kernel_rfl) ?_ _
  have HB5 := hide (HB1.out.trans (hb6w.mono HB1.out.size))
  have hat6 : RAt w6 w.heap.size 0 ⟨rs, rk, rb, rd, rm⟩ := by
    obtain ⟨z0, z1, z2, z3, z4, _⟩ := hS6
    exact ⟨z0, z1, z2, z3, z4⟩
  have Hat6 := hide hat6
  have Hl6 := hide (Nat.lt_of_lt_of_le Hl1.out hb6w.size)
  clear hat6 hS5 hb5w hb5 hB5 hS0 hS6 hb6 hb6w HN
  obtain ⟨A, n, c, hx, hn, hnc, hcm, _, hp, _, _, _, d3, _⟩ := Rst.view (Thg.below (T := rstT q L f b m) Hh.out HB5.out)
  have hbt : t + 1 ≤ 1152921504606846975 := by have h1 := Hr0.out.1; have h2 := Hr.out.1; omega
  have HC : Hid (∀ W : World, Below w6.heap.size w6 W → W.cell? ⟨q, 3, none⟩ = some (.slice A n c) ∧ W.cell? ⟨w.heap.size, 0, none⟩ = some (.int .i64 rs) ∧ W.cell? ⟨w.heap.size, 1, none⟩ = some (.int .i64 rk) ∧ W.cell? ⟨w.heap.size, 2, none⟩ = some (.int .i64 rb) ∧ W.cell? ⟨w.heap.size, 3, none⟩ = some (.string rd) ∧ W.cell? ⟨w.heap.size, 4, none⟩ = some (.int .i64 rm)) := fun W hW => by
    have := Hat6.out.below Hl6.out hW
    unfold RAt at this
    simp only [Nat.zero_add] at this
    exact ⟨(hW.cell (p := ⟨q, 3, none⟩) hp).trans d3, this⟩
  have HO : Hid (∀ W, Below w6.heap.size w6 W → ORow W 30 5 (.slice A n c) n (rcels L)) := fun W hW => by
    have := (One.row hx).below hW
    rw [← hn] at this
    exact this
  have Hm1 := hide (show n + 1 ≤ maxLen by have := Hf.out; unfold maxLen; omega)
  have Hm2 := hide (show (n + 1) * 48 ≤ 140737488355328 by have := Hf.out; omega)
  have HS := hide (fun (W W2 : World) (v : Value) (hW : Below w6.heap.size w6 W) (hg : Grown W 30 5 (.slice A n c) (n + 1) (rcels L ++ rcel ⟨rs, rk, rb, rd, rm⟩) v W2) => by
    have h1 := One.put hx hW hg 3
    have e1 : W2.cell? ⟨q, 3, none⟩ = some (.slice A n c) := by rw [cell_of_row W2 q 3 _ _ _ h1.1]; rfl
    have e2 : W2.frozen? ⟨q, 3, none⟩ = false := by have := h1.1; simp [World.frozen?, this]
    have e3 : After (rstT q (L ++ [⟨rs, rk, rb, rd, rm⟩]) f b m) w6 G (W2.setCell ⟨q, 3, none⟩ v) := by
      refine Rst.of (X := v) ?_
      unfold rst1
      rw [List.length_append, rcels_append, rcels_one]
      rw [hn] at h1
      exact h1.2
    exact (⟨e1, e2, e3⟩ : W2.cell? ⟨q, 3, none⟩ = some (.slice A n c) ∧ W2.frozen? ⟨q, 3, none⟩ = false ∧ After (rstT q (L ++ [⟨rs, rk, rb, rd, rm⟩]) f b m) w6 G (W2.setCell ⟨q, 3, none⟩ v)))
  have K0 : Hid (Below w6.heap.size w6 w6.drew) := (Below.refl _ _).drew
  clear hx hn hnc hcm hp d3 hq1
  go_wp2_with fail
  refine wp_region_any (by kernel_rfl) ?_
  change wpAny _ _ _ _ _ _ _ (World.drew _)
  generalize World.drew _ = wd at *
  refine wpAny_take (i := 0) (oi := ⟨some 15, _, _, _, _, _⟩) (v := ?_) rfl (by kernel_rfl) (by kernel_rfl) (by kernel_rfl) (fun _ _ _ h => h) (Or.inl ⟨by rfl, ?_⟩) ?_
  rotate_left 1
  · (intro w; go_simp; try with_reducible rfl)
  simp only [Act.put, List.setIfInBounds_toArray, List.set_cons_zero, List.set_cons_succ]
  refine wpAny_take (i := 1) (oi := ⟨some 16, _, _, _, _, _⟩) (v := ?_) rfl (by kernel_rfl) (by kernel_rfl) (by kernel_rfl) (fun _ _ _ h => h) (Or.inl ⟨by rfl, ?_⟩) ?_
  rotate_left 1
  · (intro w; go_simp; try with_reducible rfl)
  simp only [Act.put, List.setIfInBounds_toArray, List.set_cons_zero, List.set_cons_succ]
  refine wpAny_take (i := 2) (oi := ⟨some 17, _, _, _, _, _⟩) (v := ?_) rfl (by kernel_rfl) (by kernel_rfl) (by kernel_rfl) (fun _ _ _ h => h) (Or.inl ⟨by rfl, ?_⟩) ?_
  rotate_left 1
  · (intro w; go_simp; try with_reducible rfl)
  simp only [Act.put, List.setIfInBounds_toArray, List.set_cons_zero, List.set_cons_succ]
  refine wpAny_take (i := 3) (oi := ⟨some 18, _, _, _, _, _⟩) (v := ?_) rfl (by kernel_rfl) (by kernel_rfl) (by kernel_rfl) (fun _ _ _ h => h) (Or.inl ⟨by rfl, ?_⟩) ?_
  rotate_left 1
  · (intro w; go_simp; try with_reducible rfl)
  simp only [Act.put, List.setIfInBounds_toArray, List.set_cons_zero, List.set_cons_succ]
  refine wpAny_ready (rs := [4, 5]) (by kernel_rfl) (by simp) ?_
  refine AllReady.cons (o := ⟨some 19, _, _, _, _, _⟩) rfl (fun K hK => ?_) (AllReady.cons (o := ⟨some 20, _, _, _, _, _⟩) rfl (fun K hK => ?_) AllReady.nil)
  · have hq := (HC.out _ K0.out).1
    go_simp
    clear hq
    refine hK _ _ ?_
    clear hK K
    refine wpAny_ready (rs := [5]) (by kernel_rfl) (by simp) ?_
    refine AllReady.cons (o := ⟨some 20, _, _, _, _, _⟩) rfl (fun K hK => ?_) AllReady.nil
    obtain ⟨hq0, hq1, hq2, hq3, hq4⟩ := (HC.out _ K0.out).2
    go_simp
    clear hq0 hq1 hq2 hq3 hq4
    refine hK _ _ ?_
    clear hK K
    refine wpAny_ready (rs := [6]) (by kernel_rfl) (by simp) ?_
    refine AllReady.cons (o := ⟨some 21, _, _, _, _, _⟩) rfl (fun K hK => ?_) AllReady.nil
    go_simp
    have HM := hide (Made.rcd K0.out ⟨rs, rk, rb, rd, rm⟩)
    have K1 := hide HM.out.bel
    generalize World.alloc _ _ = W1 at *
    refine hK _ _ ?_
    clear hK K
    refine wpAny_ready (rs := [7]) (by kernel_rfl) (by simp) ?_
    refine AllReady.cons (o := ⟨some 22, _, _, _, _, _⟩) rfl (fun K hK => ?_) AllReady.nil
    refine step_app app_rc (by rfl) (.tmp 19) (.tmp 21) rfl (.slice A n c) n (rcels L) rfl (HO.out _ K1.out) _ 1 1 (rcel ⟨rs, rk, rb, rd, rm⟩) rfl rfl HM.out.src (rcel_ones _) (by decide) Hm1.out Hm2.out ?_
    intro v2 w2 hg
    obtain ⟨s0, s1, s2⟩ := HS.out _ _ _ K1.out hg.out
    have HA := hide s2
    obtain ⟨A2, c2, rfl, _, _, _⟩ := hg.out.row.form
    clear hg s2
    refine hK _ _ ?_
    clear hK K
    refine wpAny_take (i := 8) (oi := ⟨some 23, _, _, _, _, _⟩) (v := ?_) rfl (by kernel_rfl) (by kernel_rfl) (by kernel_rfl) (fun _ _ _ h => h) (Or.inl ⟨by rfl, ?_⟩) ?_
    rotate_left 1
    · (intro w; go_simp; try with_reducible rfl)
    simp only [Act.put, List.setIfInBounds_toArray, List.set_cons_zero, List.set_cons_succ]
    refine wpAny_take (i := 9) (oi := ⟨some 24, _, _, _, _, _⟩) (v := ?_) rfl (by kernel_rfl) (by kernel_rfl) (by kernel_rfl) (fun _ _ _ h => h) (Or.inl ⟨by rfl, ?_⟩) ?_
    rotate_left 1
    · (intro w; go_simp; try with_reducible rfl)
    simp only [Act.put, List.setIfInBounds_toArray, List.set_cons_zero, List.set_cons_succ]
    refine wpAny_ready (rs := [10]) (by kernel_rfl) (by simp) ?_
    refine AllReady.cons (o := ⟨none, _, _, _, _, _⟩) rfl (fun K hK => ?_) AllReady.nil
    go_simp
    generalize World.setCell _ _ _ = w3 at *
    refine hK _ _ ?_
    clear hK K
    refine wpAny_done (by kernel_rfl) ?_ _
    obtain ⟨G3, hp3, hg3, hk3⟩ := HA.out
    have HT3 := hide (RTaken_any (show (rstT q (L ++ [⟨rs, rk, rb, rd, rm⟩]) f b m).P w3 G3 from hp3) (t := t + 1) (by have := Ht.out; rw [List.length_append]; simp; omega) hbt)
    clear s0 s1 hp3 hg3 hk3
    go_wp2_with fail
    refine HT3.out.mono ?_
    rintro e w9 ⟨rfl, hb9⟩
    have HA9 := hide (After.below (After.from HA.out HB5.out) hb9)
    clear hb9 HT3
    go_wp2
    go_ret
    exact ⟨by first | rfl | simp, HA9.out⟩
  · obtain ⟨hq0, hq1, hq2, hq3, hq4⟩ := (HC.out _ K0.out).2
    go_simp
    clear hq0 hq1 hq2 hq3 hq4
    refine hK _ _ ?_
    clear hK K
    refine wpAny_ready (rs := [4, 6]) (by kernel_rfl) (by simp) ?_
    refine AllReady.cons (o := ⟨some 19, _, _, _, _, _⟩) rfl (fun K hK => ?_) (AllReady.cons (o := ⟨some 21, _, _, _, _, _⟩) rfl (fun K hK => ?_) AllReady.nil)
    · have hq := (HC.out _ K0.out).1
      go_simp
      clear hq
      refine hK _ _ ?_
      clear hK K
      refine wpAny_ready (rs := [6]) (by kernel_rfl) (by simp) ?_
      refine AllReady.cons (o := ⟨some 21, _, _, _, _, _⟩) rfl (fun K hK => ?_) AllReady.nil
      go_simp
      have HM := hide (Made.rcd K0.out ⟨rs, rk, rb, rd, rm⟩)
      have K1 := hide HM.out.bel
      generalize World.alloc _ _ = W1 at *
      refine hK _ _ ?_
      clear hK K
      refine wpAny_ready (rs := [7]) (by kernel_rfl) (by simp) ?_
      refine AllReady.cons (o := ⟨some 22, _, _, _, _, _⟩) rfl (fun K hK => ?_) AllReady.nil
      refine step_app app_rc (by rfl) (.tmp 19) (.tmp 21) rfl (.slice A n c) n (rcels L) rfl (HO.out _ K1.out) _ 1 1 (rcel ⟨rs, rk, rb, rd, rm⟩) rfl rfl HM.out.src (rcel_ones _) (by decide) Hm1.out Hm2.out ?_
      intro v2 w2 hg
      obtain ⟨s0, s1, s2⟩ := HS.out _ _ _ K1.out hg.out
      have HA := hide s2
      obtain ⟨A2, c2, rfl, _, _, _⟩ := hg.out.row.form
      clear hg s2
      refine hK _ _ ?_
      clear hK K
      refine wpAny_take (i := 8) (oi := ⟨some 23, _, _, _, _, _⟩) (v := ?_) rfl (by kernel_rfl) (by kernel_rfl) (by kernel_rfl) (fun _ _ _ h => h) (Or.inl ⟨by rfl, ?_⟩) ?_
      rotate_left 1
      · (intro w; go_simp; try with_reducible rfl)
      simp only [Act.put, List.setIfInBounds_toArray, List.set_cons_zero, List.set_cons_succ]
      refine wpAny_take (i := 9) (oi := ⟨some 24, _, _, _, _, _⟩) (v := ?_) rfl (by kernel_rfl) (by kernel_rfl) (by kernel_rfl) (fun _ _ _ h => h) (Or.inl ⟨by rfl, ?_⟩) ?_
      rotate_left 1
      · (intro w; go_simp; try with_reducible rfl)
      simp only [Act.put, List.setIfInBounds_toArray, List.set_cons_zero, List.set_cons_succ]
      refine wpAny_ready (rs := [10]) (by kernel_rfl) (by simp) ?_
      refine AllReady.cons (o := ⟨none, _, _, _, _, _⟩) rfl (fun K hK => ?_) AllReady.nil
      go_simp
      generalize World.setCell _ _ _ = w3 at *
      refine hK _ _ ?_
      clear hK K
      refine wpAny_done (by kernel_rfl) ?_ _
      obtain ⟨G3, hp3, hg3, hk3⟩ := HA.out
      have HT3 := hide (RTaken_any (show (rstT q (L ++ [⟨rs, rk, rb, rd, rm⟩]) f b m).P w3 G3 from hp3) (t := t + 1) (by have := Ht.out; rw [List.length_append]; simp; omega) hbt)
      clear s0 s1 hp3 hg3 hk3
      go_wp2_with fail
      refine HT3.out.mono ?_
      rintro e w9 ⟨rfl, hb9⟩
      have HA9 := hide (After.below (After.from HA.out HB5.out) hb9)
      clear hb9 HT3
      go_wp2
      go_ret
      exact ⟨by first | rfl | simp, HA9.out⟩
    · go_simp
      have HM := hide (Made.rcd K0.out ⟨rs, rk, rb, rd, rm⟩)
      have K1 := hide HM.out.bel
      generalize World.alloc _ _ = W1 at *
      refine hK _ _ ?_
      clear hK K
      refine wpAny_ready (rs := [4]) (by kernel_rfl) (by simp) ?_
      refine AllReady.cons (o := ⟨some 19, _, _, _, _, _⟩) rfl (fun K hK => ?_) AllReady.nil
      have hq := (HC.out _ K1.out).1
      go_simp
      clear hq
      refine hK _ _ ?_
      clear hK K
      refine wpAny_ready (rs := [7]) (by kernel_rfl) (by simp) ?_
      refine AllReady.cons (o := ⟨some 22, _, _, _, _, _⟩) rfl (fun K hK => ?_) AllReady.nil
      refine step_app app_rc (by rfl) (.tmp 19) (.tmp 21) rfl (.slice A n c) n (rcels L) rfl (HO.out _ K1.out) _ 1 1 (rcel ⟨rs, rk, rb, rd, rm⟩) rfl rfl HM.out.src (rcel_ones _) (by decide) Hm1.out Hm2.out ?_
      intro v2 w2 hg
      obtain ⟨s0, s1, s2⟩ := HS.out _ _ _ K1.out hg.out
      have HA := hide s2
      obtain ⟨A2, c2, rfl, _, _, _⟩ := hg.out.row.form
      clear hg s2
      refine hK _ _ ?_
      clear hK K
      refine wpAny_take (i := 8) (oi := ⟨some 23, _, _, _, _, _⟩) (v := ?_) rfl (by kernel_rfl) (by kernel_rfl) (by kernel_rfl) (fun _ _ _ h => h) (Or.inl ⟨by rfl, ?_⟩) ?_
      rotate_left 1
      · (intro w; go_simp; try with_reducible rfl)
      simp only [Act.put, List.setIfInBounds_toArray, List.set_cons_zero, List.set_cons_succ]
      refine wpAny_take (i := 9) (oi := ⟨some 24, _, _, _, _, _⟩) (v := ?_) rfl (by kernel_rfl) (by kernel_rfl) (by kernel_rfl) (fun _ _ _ h => h) (Or.inl ⟨by rfl, ?_⟩) ?_
      rotate_left 1
      · (intro w; go_simp; try with_reducible rfl)
      simp only [Act.put, List.setIfInBounds_toArray, List.set_cons_zero, List.set_cons_succ]
      refine wpAny_ready (rs := [10]) (by kernel_rfl) (by simp) ?_
      refine AllReady.cons (o := ⟨none, _, _, _, _, _⟩) rfl (fun K hK => ?_) AllReady.nil
      go_simp
      generalize World.setCell _ _ _ = w3 at *
      refine hK _ _ ?_
      clear hK K
      refine wpAny_done (by kernel_rfl) ?_ _
      obtain ⟨G3, hp3, hg3, hk3⟩ := HA.out
      have HT3 := hide (RTaken_any (show (rstT q (L ++ [⟨rs, rk, rb, rd, rm⟩]) f b m).P w3 G3 from hp3) (t := t + 1) (by have := Ht.out; rw [List.length_append]; simp; omega) hbt)
      clear s0 s1 hp3 hg3 hk3
      go_wp2_with fail
      refine HT3.out.mono ?_
      rintro e w9 ⟨rfl, hb9⟩
      have HA9 := hide (After.below (After.from HA.out HB5.out) hb9)
      clear hb9 HT3
      go_wp2
      go_ret
      exact ⟨by first | rfl | simp, HA9.out⟩
end

end Go.Proofs.YteneacmdfehfnaaDoor.Sg
