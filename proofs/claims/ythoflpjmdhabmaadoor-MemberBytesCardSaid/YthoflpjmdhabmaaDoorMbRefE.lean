/-
  The contract of the document's own Bytes of a group. Nothing is changed.
-/
import Derived.Deep.RegionHeld3
import Derived.Test.YthoflpjmdhabmaaDoorMbRefC
import Derived.Test.YthoflpjmdhabmaaDoorMbCode
import Derived.Test.YthoflpjmdhabmaaDoorPkRefLay
import Derived.Test.YthoflpjmdhabmaaDoorFaPlace
namespace Go.Proofs.YthoflpjmdhabmaaDoor.Mb
open Go.RowKit
open Pk hiding str str_data str_size str_of run_str str_append
open Sm hiding run_str
open Fa Dk Wn Lk

/-! ### Bytes -/
theorem rNum15 (n : Nat) (hn : n < 1152921504606846976) (W : World) (S : ByteArray) (hS : str (enc n) = S) : Calls Tryd.prog 40 #[.int .i64 (n : Int)] W fun e w' => e = .returned (.string S) ∧ Below W.heap.size W w' := by
  subst hS
  have := RNum_any (n : Int) W
  rw [clamp_size n (by omega)] at this
  exact this
theorem add15 (l m : List UInt8) (h : l.length + m.length ≤ 1000000) (SA SB SC : ByteArray) (hA : str l = SA) (hB : str m = SB) (hC : str (l ++ m) = SC) (W : World) :
    (Op.stringOp .add SA SB).run Tryd.prog W = .ok (.string SC) W := by
  subst hA hB hC
  exact run_add l m h W
theorem bn_sum : ∀ s, s < 16 → bn s 0 + 2 * bn s 1 + 4 * bn s 2 + 8 * bn s 3 = (s : Int) := by decide
theorem bn_le (s v : Nat) : 0 ≤ bn s v ∧ bn s v ≤ 1 := by unfold bn; split <;> omega
section
variable {w : World} {G : Nat → Prop} {p s : Nat} {M : List Ch}
set_option maxRecDepth 100000 in
set_option maxHeartbeats 8000000 in
theorem RBytes_any (h : (rgrpT p s M).P w G) (hF : Fine s M) (hs : s < 16) (S : ByteArray) (hS : str (wrote s M) = S) : Calls Tryd.prog 21 #[.pointer (some ⟨p, 0, none⟩)] w fun e w' => e = .returned (.string S) ∧ Below w.heap.size w w' := by
  obtain ⟨A, n, c, _, hn, hnc, hcm, hsr, hp, hc0, c1, _⟩ := Rgp.cells h
  have hn100 : n ≤ 100 := by rw [hn]; exact hF.len
  have hni : (n : Int) ≤ 100 := by omega
  have HC : Hid (∀ W, Below w.heap.size w W → W.cell? ⟨p, 0, none⟩ = some (.int .i64 (bn s 0)) ∧ W.cell? ⟨p, 1, none⟩ = some (.int .i64 (bn s 1)) ∧ W.cell? ⟨p, 2, none⟩ = some (.int .i64 (bn s 2)) ∧ W.cell? ⟨p, 3, none⟩ = some (.int .i64 (bn s 3)) ∧ W.cell? ⟨p, 4, none⟩ = some (.slice A n c) ∧ Below w.heap.size w W) := fun W hW =>
    ⟨(hW.cell (p := ⟨p, 0, none⟩) hp).trans (hc0 0 (by decide)), (hW.cell (p := ⟨p, 1, none⟩) hp).trans (hc0 1 (by decide)), (hW.cell (p := ⟨p, 2, none⟩) hp).trans (hc0 2 (by decide)), (hW.cell (p := ⟨p, 3, none⟩) hp).trans (hc0 3 (by decide)), (hW.cell (p := ⟨p, 4, none⟩) hp).trans c1, hW⟩
  have hsum := bn_sum s hs
  obtain ⟨p0, p1⟩ := bn_le s 0
  obtain ⟨p2, p3⟩ := bn_le s 1
  obtain ⟨p4, p5⟩ := bn_le s 2
  obtain ⟨p6, p7⟩ := bn_le s 3
  have Hsum := hide (show IntKind.i64.wrap (IntKind.i64.wrap (IntKind.i64.wrap (bn s 0 + IntKind.i64.wrap (2 * bn s 1)) + IntKind.i64.wrap (4 * bn s 2)) + IntKind.i64.wrap (8 * bn s 3)) = (s : Int) by simp only [IntKind.wrap_i64]; omega)
  have Hn := hide hn
  have HF := hide hF
  have Hsr := hide hsr
  obtain ⟨S0, h0⟩ : ∃ S, str (enc s) = S := ⟨_, rfl⟩
  obtain ⟨S1, h1⟩ : ∃ S, str (enc n) = S := ⟨_, rfl⟩
  obtain ⟨S2, h2⟩ : ∃ S, str (enc s ++ enc n) = S := ⟨_, rfl⟩
  have l0 := enc_le s
  have l1 := enc_le n
  have hadd := fun W => add15 (enc s) (enc n) (by omega) S0 S1 S2 h0 h1 h2 W
  have HN0 := hide (fun W => rNum15 s (by omega) W S0 h0)
  have HN1 := hide (fun W => rNum15 n (by omega) W S1 h1)
  have H2 := hide h2
  have HSS := hide hS
  have Hl : Hid (∀ k, k ≤ n → (enc s ++ enc n ++ (M.take k).flatMap wch).length ≤ 1818) := fun k hk => by
    have h3 := flat_le (M.take k)
    have h4 := List.length_take_le k M
    rw [List.length_append, List.length_append]
    omega
  generalize bn s 0 = b0 at *
  generalize bn s 1 = b1 at *
  generalize bn s 2 = b2 at *
  generalize bn s 3 = b3 at *
  clear h hF hs hn hnc hcm hsr hp hc0 c1 hsum h0 h1 h2 l0 l1 hS hn100
  go_enter Tryd.func21, Tryd.ntmps21
  go_wp2_with fail
  have hS0 := HC.out w.drew (Below.refl _ _).drew
  refine wp_region_held (S := (fun W : World => W.cell? ⟨p, 0, none⟩ = some (.int .i64 b0) ∧ W.cell? ⟨p, 1, none⟩ = some (.int .i64 b1) ∧ W.cell? ⟨p, 2, none⟩ = some (.int .i64 b2) ∧ W.cell? ⟨p, 3, none⟩ = some (.int .i64 b3) ∧ W.cell? ⟨p, 4, none⟩ = some (.slice A n c) ∧ Below w.heap.size w W)) (by kernel_rfl) ?_
  change wpAnyH _ _ _ _ _ _ _ _ (World.drew _)
  refine wpAnyH_take (i := 0) (oi := ⟨some 6, _, _, _, _, _⟩) (v := ?_) rfl (by kernel_rfl) (by kernel_rfl) (by kernel_rfl) (fun _ _ _ h => h) (Or.inl ⟨by rfl, ?_⟩) hS0 ?_
  rotate_left 1
  · (intro w hSw; obtain ⟨hSw1, hSw2, hSw3, hSw4, hSw5, hSw6⟩ := hSw; go_simp; try with_reducible rfl)
  simp only [Act.put, List.setIfInBounds_toArray, List.set_cons_zero, List.set_cons_succ]
  refine wpAnyH_take (i := 1) (oi := ⟨some 7, _, _, _, _, _⟩) (v := ?_) rfl (by kernel_rfl) (by kernel_rfl) (by kernel_rfl) (fun _ _ _ h => h) (Or.inl ⟨by rfl, ?_⟩) hS0 ?_
  rotate_left 1
  · (intro w hSw; obtain ⟨hSw1, hSw2, hSw3, hSw4, hSw5, hSw6⟩ := hSw; go_simp; try with_reducible rfl)
  simp only [Act.put, List.setIfInBounds_toArray, List.set_cons_zero, List.set_cons_succ]
  refine wpAnyH_take (i := 2) (oi := ⟨some 8, _, _, _, _, _⟩) (v := ?_) rfl (by kernel_rfl) (by kernel_rfl) (by kernel_rfl) (fun _ _ _ h => h) (Or.inl ⟨by rfl, ?_⟩) hS0 ?_
  rotate_left 1
  · (intro w hSw; obtain ⟨hSw1, hSw2, hSw3, hSw4, hSw5, hSw6⟩ := hSw; go_simp; try with_reducible rfl)
  simp only [Act.put, List.setIfInBounds_toArray, List.set_cons_zero, List.set_cons_succ]
  refine wpAnyH_take (i := 3) (oi := ⟨some 9, _, _, _, _, _⟩) (v := ?_) rfl (by kernel_rfl) (by kernel_rfl) (by kernel_rfl) (fun _ _ _ h => h) (Or.inl ⟨by rfl, ?_⟩) hS0 ?_
  rotate_left 1
  · (intro w hSw; obtain ⟨hSw1, hSw2, hSw3, hSw4, hSw5, hSw6⟩ := hSw; go_simp; try with_reducible rfl)
  simp only [Act.put, List.setIfInBounds_toArray, List.set_cons_zero, List.set_cons_succ]
  refine wpAnyH_take (i := 4) (oi := ⟨some 10, _, _, _, _, _⟩) (v := ?_) rfl (by kernel_rfl) (by kernel_rfl) (by kernel_rfl) (fun _ _ _ h => h) (Or.inl ⟨by rfl, ?_⟩) hS0 ?_
  rotate_left 1
  · (intro w hSw; obtain ⟨hSw1, hSw2, hSw3, hSw4, hSw5, hSw6⟩ := hSw; go_simp; try with_reducible rfl)
  simp only [Act.put, List.setIfInBounds_toArray, List.set_cons_zero, List.set_cons_succ]
  refine wpAnyH_take (i := 5) (oi := ⟨some 11, _, _, _, _, _⟩) (v := ?_) rfl (by kernel_rfl) (by kernel_rfl) (by kernel_rfl) (fun _ _ _ h => h) (Or.inl ⟨by rfl, ?_⟩) hS0 ?_
  rotate_left 1
  · (intro w hSw; obtain ⟨hSw1, hSw2, hSw3, hSw4, hSw5, hSw6⟩ := hSw; go_simp; try with_reducible rfl)
  simp only [Act.put, List.setIfInBounds_toArray, List.set_cons_zero, List.set_cons_succ]
  refine wpAnyH_take (i := 6) (oi := ⟨some 12, _, _, _, _, _⟩) (v := ?_) rfl (by kernel_rfl) (by kernel_rfl) (by kernel_rfl) (fun _ _ _ h => h) (Or.inl ⟨by rfl, ?_⟩) hS0 ?_
  rotate_left 1
  · (intro w hSw; obtain ⟨hSw1, hSw2, hSw3, hSw4, hSw5, hSw6⟩ := hSw; go_simp; try with_reducible rfl)
  simp only [Act.put, List.setIfInBounds_toArray, List.set_cons_zero, List.set_cons_succ]
  refine wpAnyH_take (i := 7) (oi := ⟨some 13, _, _, _, _, _⟩) (v := ?_) rfl (by kernel_rfl) (by kernel_rfl) (by kernel_rfl) (fun _ _ _ h => h) (Or.inl ⟨by rfl, ?_⟩) hS0 ?_
  rotate_left 1
  · (intro w hSw; obtain ⟨hSw1, hSw2, hSw3, hSw4, hSw5, hSw6⟩ := hSw; go_simp; try with_reducible rfl)
  simp only [Act.put, List.setIfInBounds_toArray, List.set_cons_zero, List.set_cons_succ]
  refine wpAnyH_take (i := 8) (oi := ⟨some 14, _, _, _, _, _⟩) (v := ?_) rfl (by kernel_rfl) (by kernel_rfl) (by kernel_rfl) (fun _ _ _ h => h) (Or.inl ⟨by rfl, ?_⟩) hS0 ?_
  rotate_left 1
  · (intro w hSw; obtain ⟨hSw1, hSw2, hSw3, hSw4, hSw5, hSw6⟩ := hSw; go_simp; try with_reducible rfl)
  simp only [Act.put, List.setIfInBounds_toArray, List.set_cons_zero, List.set_cons_succ]
  refine wpAnyH_take (i := 9) (oi := ⟨some 15, _, _, _, _, _⟩) (v := ?_) rfl (by kernel_rfl) (by kernel_rfl) (by kernel_rfl) (fun _ _ _ h => h) (Or.inl ⟨by rfl, ?_⟩) hS0 ?_
  rotate_left 1
  · (intro w hSw; obtain ⟨hSw1, hSw2, hSw3, hSw4, hSw5, hSw6⟩ := hSw; go_simp; try with_reducible rfl)
  simp only [Act.put, List.setIfInBounds_toArray, List.set_cons_zero, List.set_cons_succ]
  refine wpAnyH_take (i := 10) (oi := ⟨some 16, _, _, _, _, _⟩) (v := ?_) rfl (by kernel_rfl) (by kernel_rfl) (by kernel_rfl) (fun _ _ _ h => h) (Or.inl ⟨by rfl, ?_⟩) hS0 ?_
  rotate_left 1
  · (intro w hSw; obtain ⟨hSw1, hSw2, hSw3, hSw4, hSw5, hSw6⟩ := hSw; go_simp; try with_reducible rfl)
  simp only [Act.put, List.setIfInBounds_toArray, List.set_cons_zero, List.set_cons_succ]
  refine wpAnyH_take (i := 11) (oi := ⟨some 17, _, _, _, _, _⟩) (v := ?_) rfl (by kernel_rfl) (by kernel_rfl) (by kernel_rfl) (fun _ _ _ h => h) (Or.inl ⟨by rfl, ?_⟩) hS0 ?_
  rotate_left 1
  · (intro w hSw; obtain ⟨hSw1, hSw2, hSw3, hSw4, hSw5, hSw6⟩ := hSw; go_simp; try with_reducible rfl)
  simp only [Act.put, List.setIfInBounds_toArray, List.set_cons_zero, List.set_cons_succ]
  refine wpAnyH_take (i := 12) (oi := ⟨some 18, _, _, _, _, _⟩) (v := ?_) rfl (by kernel_rfl) (by kernel_rfl) (by kernel_rfl) (fun _ _ _ h => h) (Or.inl ⟨by rfl, ?_⟩) hS0 ?_
  rotate_left 1
  · (intro w hSw; obtain ⟨hSw1, hSw2, hSw3, hSw4, hSw5, hSw6⟩ := hSw; go_simp; try with_reducible rfl)
  simp only [Act.put, List.setIfInBounds_toArray, List.set_cons_zero, List.set_cons_succ]
  refine wpAnyH_take (i := 13) (oi := ⟨some 19, _, _, _, _, _⟩) (v := ?_) rfl (by kernel_rfl) (by kernel_rfl) (by kernel_rfl) (fun _ _ _ h => h) (Or.inl ⟨by rfl, ?_⟩) hS0 ?_
  rotate_left 1
  · (intro w hSw; obtain ⟨hSw1, hSw2, hSw3, hSw4, hSw5, hSw6⟩ := hSw; go_simp; try with_reducible rfl)
  simp only [Act.put, List.setIfInBounds_toArray, List.set_cons_zero, List.set_cons_succ]
  refine wpAnyH_take (i := 14) (oi := ⟨some 20, _, _, _, _, _⟩) (v := ?_) rfl (by kernel_rfl) (by kernel_rfl) (by kernel_rfl) (fun _ _ _ h => h) (Or.inl ⟨by rfl, ?_⟩) hS0 ?_
  rotate_left 1
  · (intro w hSw; obtain ⟨hSw1, hSw2, hSw3, hSw4, hSw5, hSw6⟩ := hSw; go_simp; try with_reducible rfl)
  simp only [Act.put, List.setIfInBounds_toArray, List.set_cons_zero, List.set_cons_succ]
  refine wpAnyH_take (i := 15) (oi := ⟨some 21, _, _, _, _, _⟩) (v := ?_) rfl (by kernel_rfl) (by kernel_rfl) (by kernel_rfl) (fun _ _ _ h => h) (Or.inl ⟨by rfl, ?_⟩) hS0 ?_
  rotate_left 1
  · (intro w hSw; obtain ⟨hSw1, hSw2, hSw3, hSw4, hSw5, hSw6⟩ := hSw; go_simp; try with_reducible rfl)
  simp only [Act.put, List.setIfInBounds_toArray, List.set_cons_zero, List.set_cons_succ]
  refine wpAnyH_take (i := 16) (oi := ⟨some 22, _, _, _, _, _⟩) (v := ?_) rfl (by kernel_rfl) (by kernel_rfl) (by kernel_rfl) (fun _ _ _ h => h) (Or.inl ⟨by rfl, ?_⟩) hS0 ?_
  rotate_left 1
  · (intro w hSw; obtain ⟨hSw1, hSw2, hSw3, hSw4, hSw5, hSw6⟩ := hSw; go_simp; try with_reducible rfl)
  simp only [Act.put, List.setIfInBounds_toArray, List.set_cons_zero, List.set_cons_succ]
  refine wpAnyH_take (i := 17) (oi := ⟨some 23, _, _, _, _, _⟩) (v := ?_) rfl (by kernel_rfl) (by kernel_rfl) (by kernel_rfl) (fun _ _ _ h => h) (Or.inl ⟨by rfl, ?_⟩) hS0 ?_
  rotate_left 1
  · (intro w hSw; obtain ⟨hSw1, hSw2, hSw3, hSw4, hSw5, hSw6⟩ := hSw; go_simp; try with_reducible rfl)
  simp only [Act.put, List.setIfInBounds_toArray, List.set_cons_zero, List.set_cons_succ]
  refine wpAnyH_take (i := 18) (oi := ⟨some 24, _, _, _, _, _⟩) (v := ?_) rfl (by kernel_rfl) (by kernel_rfl) (by kernel_rfl) (fun _ _ _ h => h) (Or.inl ⟨by rfl, ?_⟩) hS0 ?_
  rotate_left 1
  · (intro w hSw; obtain ⟨hSw1, hSw2, hSw3, hSw4, hSw5, hSw6⟩ := hSw; go_simp; try with_reducible rfl)
  simp only [Act.put, List.setIfInBounds_toArray, List.set_cons_zero, List.set_cons_succ]
  refine wpAnyH_take (i := 19) (oi := ⟨some 25, _, _, _, _, _⟩) (v := ?_) rfl (by kernel_rfl) (by kernel_rfl) (by kernel_rfl) (fun _ _ _ h => h) (Or.inl ⟨by rfl, ?_⟩) hS0 ?_
  rotate_left 1
  · (intro w hSw; obtain ⟨hSw1, hSw2, hSw3, hSw4, hSw5, hSw6⟩ := hSw; go_simp; try with_reducible rfl)
  simp only [Act.put, List.setIfInBounds_toArray, List.set_cons_zero, List.set_cons_succ]
  refine wpAnyH_take (i := 20) (oi := ⟨some 26, _, _, _, _, _⟩) (v := ?_) rfl (by kernel_rfl) (by kernel_rfl) (by kernel_rfl) (fun _ _ _ h => h) (Or.inl ⟨by rfl, ?_⟩) hS0 ?_
  rotate_left 1
  · (intro w hSw; obtain ⟨hSw1, hSw2, hSw3, hSw4, hSw5, hSw6⟩ := hSw; go_simp; try with_reducible rfl)
  simp only [Act.put, List.setIfInBounds_toArray, List.set_cons_zero, List.set_cons_succ]
  refine wpAnyH_take (i := 21) (oi := ⟨some 27, _, _, _, _, _⟩) (v := ?_) rfl (by kernel_rfl) (by kernel_rfl) (by kernel_rfl) (fun _ _ _ h => h) (Or.inl ⟨by rfl, ?_⟩) hS0 ?_
  rotate_left 1
  · (intro w hSw; obtain ⟨hSw1, hSw2, hSw3, hSw4, hSw5, hSw6⟩ := hSw; go_simp; try with_reducible rfl)
  simp only [Act.put, List.setIfInBounds_toArray, List.set_cons_zero, List.set_cons_succ]
  refine wpAnyH_take (i := 22) (oi := ⟨some 28, _, _, _, _, _⟩) (v := ?_) rfl (by kernel_rfl) (by kernel_rfl) (by kernel_rfl) (fun _ _ _ h => h) (Or.inl ⟨by rfl, ?_⟩) hS0 ?_
  rotate_left 1
  · (intro w hSw; obtain ⟨hSw1, hSw2, hSw3, hSw4, hSw5, hSw6⟩ := hSw; go_simp; try with_reducible rfl)
  simp only [Act.put, List.setIfInBounds_toArray, List.set_cons_zero, List.set_cons_succ]
  refine wpAnyH_take (i := 23) (oi := ⟨some 29, _, _, _, _, _⟩) (v := ?_) rfl (by kernel_rfl) (by kernel_rfl) (by kernel_rfl) (fun _ _ _ h => h) (Or.inl ⟨by rfl, ?_⟩) hS0 ?_
  rotate_left 1
  · (intro w hSw; obtain ⟨hSw1, hSw2, hSw3, hSw4, hSw5, hSw6⟩ := hSw; go_simp; try with_reducible rfl)
  simp only [Act.put, List.setIfInBounds_toArray, List.set_cons_zero, List.set_cons_succ]
  refine wpAnyH_take (i := 24) (oi := ⟨some 30, _, _, _, _, _⟩) (v := ?_) rfl (by kernel_rfl) (by kernel_rfl) (by kernel_rfl) (fun _ _ _ h => h) (Or.inl ⟨by rfl, ?_⟩) hS0 ?_
  rotate_left 1
  · (intro w hSw; obtain ⟨hSw1, hSw2, hSw3, hSw4, hSw5, hSw6⟩ := hSw; go_simp; try with_reducible rfl)
  simp only [Act.put, List.setIfInBounds_toArray, List.set_cons_zero, List.set_cons_succ]
  refine wpAnyH_take (i := 25) (oi := ⟨some 31, _, _, _, _, _⟩) (v := ?_) rfl (by kernel_rfl) (by kernel_rfl) (by kernel_rfl) (fun _ _ _ h => h) (Or.inl ⟨by rfl, ?_⟩) hS0 ?_
  rotate_left 1
  · (intro w hSw; obtain ⟨hSw1, hSw2, hSw3, hSw4, hSw5, hSw6⟩ := hSw; go_simp; try with_reducible rfl)
  simp only [Act.put, List.setIfInBounds_toArray, List.set_cons_zero, List.set_cons_succ]
  refine wpAnyH_take (i := 27) (oi := ⟨some 33, _, _, _, _, _⟩) (v := ?_) rfl (by kernel_rfl) (by kernel_rfl) (by kernel_rfl) (fun _ _ _ h => h) (Or.inl ⟨by rfl, ?_⟩) hS0 ?_
  rotate_left 1
  · (intro w hSw; obtain ⟨hSw1, hSw2, hSw3, hSw4, hSw5, hSw6⟩ := hSw; go_simp; try with_reducible rfl)
  simp only [Act.put, List.setIfInBounds_toArray, List.set_cons_zero, List.set_cons_succ]
  refine wpAnyH_take (i := 28) (oi := ⟨some 34, _, _, _, _, _⟩) (v := ?_) rfl (by kernel_rfl) (by kernel_rfl) (by kernel_rfl) (fun _ _ _ h => h) (Or.inl ⟨by rfl, ?_⟩) hS0 ?_
  rotate_left 1
  · (intro w hSw; obtain ⟨hSw1, hSw2, hSw3, hSw4, hSw5, hSw6⟩ := hSw; go_simp; try with_reducible rfl)
  simp only [Act.put, List.setIfInBounds_toArray, List.set_cons_zero, List.set_cons_succ]
  refine wpAnyH_take (i := 29) (oi := ⟨some 35, _, _, _, _, _⟩) (v := ?_) rfl (by kernel_rfl) (by kernel_rfl) (by kernel_rfl) (fun _ _ _ h => h) (Or.inl ⟨by rfl, ?_⟩) hS0 ?_
  rotate_left 1
  · (intro w hSw; obtain ⟨hSw1, hSw2, hSw3, hSw4, hSw5, hSw6⟩ := hSw; go_simp; try with_reducible rfl)
  simp only [Act.put, List.setIfInBounds_toArray, List.set_cons_zero, List.set_cons_succ]
  refine wpAnyH_take (i := 30) (oi := ⟨some 36, _, _, _, _, _⟩) (v := ?_) rfl (by kernel_rfl) (by kernel_rfl) (by kernel_rfl) (fun _ _ _ h => h) (Or.inl ⟨by rfl, ?_⟩) hS0 ?_
  rotate_left 1
  · (intro w hSw; obtain ⟨hSw1, hSw2, hSw3, hSw4, hSw5, hSw6⟩ := hSw; go_simp; try with_reducible rfl)
  simp only [Act.put, List.setIfInBounds_toArray, List.set_cons_zero, List.set_cons_succ]
  refine wpAnyH_take (i := 31) (oi := ⟨some 37, _, _, _, _, _⟩) (v := ?_) rfl (by kernel_rfl) (by kernel_rfl) (by kernel_rfl) (fun _ _ _ h => h) (Or.inl ⟨by rfl, ?_⟩) hS0 ?_
  rotate_left 1
  · (intro w hSw; obtain ⟨hSw1, hSw2, hSw3, hSw4, hSw5, hSw6⟩ := hSw; go_simp; try with_reducible rfl)
  simp only [Act.put, List.setIfInBounds_toArray, List.set_cons_zero, List.set_cons_succ]
  refine wpAnyH_ready (rs := [26]) (by kernel_rfl) (by simp) ?_
  refine AllReadyH.cons (o := ⟨some 32, _, _, _, _, _⟩) rfl (fun K hK => ?_) AllReadyH.nil
  go_simp
  rw [Hsum.out]
  refine (HN0.out _).mono ?_
  rintro e w4 ⟨rfl, hb4⟩
  have hS1 := HC.out w4 (hS0.2.2.2.2.2.trans (hb4.mono hS0.2.2.2.2.2.size))
  clear hb4 hS0
  have hS0 := hS1
  clear hS1
  refine hK.out _ _ hS0 (fun hHeld => ?_)
  clear hK K
  clear hHeld
  refine wpAnyH_ready (rs := [32]) (by kernel_rfl) (by simp) ?_
  refine AllReadyH.cons (o := ⟨some 38, _, _, _, _, _⟩) rfl (fun K hK => ?_) AllReadyH.nil
  go_simp
  refine (HN1.out _).mono ?_
  rintro e w4 ⟨rfl, hb4⟩
  have hS1 := HC.out w4 (hS0.2.2.2.2.2.trans (hb4.mono hS0.2.2.2.2.2.size))
  clear hb4 hS0
  have hS0 := hS1
  clear hS1
  refine hK.out _ _ hS0 (fun hHeld => ?_)
  clear hK K
  clear hHeld
  refine wpAnyH_take (i := 33) (oi := ⟨some 39, _, _, _, _, _⟩) (v := ?_) rfl (by kernel_rfl) (by kernel_rfl) (by kernel_rfl) (fun _ _ _ h => h) (Or.inl ⟨by rfl, ?_⟩) hS0 ?_
  rotate_left 1
  · (intro w hSw; obtain ⟨hSw1, hSw2, hSw3, hSw4, hSw5, hSw6⟩ := hSw; go_simp; try with_reducible rfl)
  simp only [Act.put, List.setIfInBounds_toArray, List.set_cons_zero, List.set_cons_succ]
  refine wpAnyH_take (i := 34) (oi := ⟨some 3, _, _, _, _, _⟩) (v := ?_) rfl (by kernel_rfl) (by kernel_rfl) (by kernel_rfl) (fun _ _ _ h => h) (Or.inl ⟨by rfl, ?_⟩) hS0 ?_
  rotate_left 1
  · (intro w hSw; obtain ⟨hSw1, hSw2, hSw3, hSw4, hSw5, hSw6⟩ := hSw; go_simp; try with_reducible rfl)
  simp only [Act.put, List.setIfInBounds_toArray, List.set_cons_zero, List.set_cons_succ]
  refine wpAnyH_done (by kernel_rfl) ?_ _
  have HB4 := hide hS0.2.2.2.2.2
  clear hS0
  have q4 := (HC.out _ HB4.out).2.2.2.2.1
  go_wp2_with fail
  clear q4
  go_loopw [3, 45] (fun sv iv wr => ∃ k : Nat, k ≤ n ∧ iv = .int .i64 (k : Int) ∧ ∃ S, sv = .string S ∧ Hid (str (enc s ++ enc n ++ (M.take k).flatMap wch) = S) ∧ Hid (Below w.heap.size w wr)) (fun _ iv _ => n - (intOf iv).toNat)
  case atStart => exact ⟨0, Nat.zero_le _, rfl, S2, rfl, by have := H2.out; simpa [Hid] using this, HB4.out⟩
  case round =>
    obtain ⟨k, hk, rfl, S3, rfl, hO, hb⟩ := hrel
    rcases Nat.lt_or_ge k n with hlt | hge
    · have Hlt := hide hlt
      have hki : (k : Int) < (n : Int) := by omega
      obtain ⟨d, hd⟩ : ∃ d, M[k]? = some d := ⟨_, List.getElem?_eq_getElem (by rw [← Hn.out]; exact hlt)⟩
      obtain ⟨g, o, rfl, hgl, hat⟩ := Src.chg (Hsr.out.below hb.out) hd
      have hdf := HF.out.last_le.2.2 d (List.mem_of_getElem? hd)
      have hdl := HF.out.last_le.2.1
      have hW : (enc s ++ enc n ++ (M.take k).flatMap wch) ++ enc d.m.toNat ++ enc (code d) = enc s ++ enc n ++ (M.take (k + 1)).flatMap wch := by
        rw [List.take_add_one, hd, List.flatMap_append]
        simp [wch]
      have hl1 := Hl.out k hk
      obtain ⟨lk, hlk⟩ : ∃ lk, enc s ++ enc n ++ (M.take k).flatMap wch = lk := ⟨_, rfl⟩
      rw [hlk] at hW hl1 hO
      obtain ⟨dm, dv, dr⟩ := d
      obtain ⟨a0, a1, a2⟩ := hat
      simp only at a0 a1 a2 hdf
      obtain ⟨v, rfl⟩ : ∃ v : Nat, dv = (v : Int) := ⟨dv.toNat, by omega⟩
      obtain ⟨m, rfl⟩ : ∃ m : Nat, dm = (m : Int) := ⟨dm.toNat, by omega⟩
      have hv4 : v < 4 := by omega
      rw [show (⟨(m : Int), (v : Int), dr⟩ : Ch).m.toNat = m from Int.toNat_natCast m] at hW
      have hc7 : code ⟨(m : Int), (v : Int), dr⟩ ≤ 7 := code_lt (by show (v : Int) < 4; omega)
      obtain ⟨cd, hcd⟩ : ∃ cd, code ⟨(m : Int), (v : Int), dr⟩ = cd := ⟨_, rfl⟩
      rw [hcd] at hW hc7
      obtain ⟨S4, h4⟩ : ∃ S, str (enc m) = S := ⟨_, rfl⟩
      obtain ⟨S5, h5⟩ : ∃ S, str (lk ++ enc m) = S := ⟨_, rfl⟩
      obtain ⟨S6, h6⟩ : ∃ S, str (enc cd) = S := ⟨_, rfl⟩
      obtain ⟨S7, h7⟩ : ∃ S, str (lk ++ enc m ++ enc cd) = S := ⟨_, rfl⟩
      have l3 := enc_le m
      have l4 := enc_le cd
      have hadd1 := fun W => add15 lk (enc m) (by omega) S3 S4 S5 hO.out h4 h5 W
      have hadd2 := fun W => add15 (lk ++ enc m) (enc cd) (by rw [List.length_append]; omega) S5 S6 S7 h5 h6 h7 W
      have HNa := hide (fun W => rNum15 m (by omega) W S4 h4)
      have HNb := hide (fun W => rNum15 cd (by omega) W S6 h6)
      have HC0 := hide (HC.out wr hb.out)
      have H7 : Hid (str (enc s ++ enc n ++ (M.take (k + 1)).flatMap wch) = S7) := by rw [← hW]; exact h7
      have HAt : Hid (∀ W, Below wr.heap.size wr W → W.cell? ⟨g, o + k * 3, none⟩ = some (.int .i64 (m : Int)) ∧ W.cell? ⟨p, 4, none⟩ = some (.slice (some ⟨g, o, none⟩) n c)) := fun W hW => ⟨(hW.cell (p := ⟨g, o + k * 3, none⟩) hgl).trans a0, (HC.out W (hb.out.trans (hW.mono hb.out.size))).2.2.2.2.1⟩
      have q4 := HC0.out.2.2.2.2.1
      cases dr with
      | true =>
        have HE : Hid (2 * (v : Int) + 1 = (cd : Int)) := by rw [← hcd]; unfold code; simp [Hid]
        have hx0 : (cd : Int) ≤ 7 := by omega
        clear hlt hk hd hdf hdl hl1 hlk hgl hW hcd hc7 h4 h5 h6 h7 l3 l4 hO HC0 hadd
        go_wp2_with fail
        refine (HNa.out _).mono ?_
        rintro e w5 ⟨rfl, hb5⟩
        have HB5 := hide (hb.out.trans (hb5.mono hb.out.size))
        clear hb5 HNa
        go_wp2_with fail
        rw [HE.out]
        refine (HNb.out _).mono ?_
        rintro e w6 ⟨rfl, hb6⟩
        have HB6 := hide (HB5.out.trans (hb6.mono HB5.out.size))
        clear hb6 HNb HB5 hb
        go_wp2
        go_roundw
        case rel => exact ⟨k + 1, Hlt.out, by go_num, S7, rfl, H7.out, HB6.out⟩
        case measure => have := Hlt.out; simp [intOf]; omega
      | false =>
        have HE : Hid (2 * (v : Int) = (cd : Int)) := by rw [← hcd]; unfold code; simp [Hid]
        have hx0 : (cd : Int) ≤ 7 := by omega
        clear hlt hk hd hdf hdl hl1 hlk hgl hW hcd hc7 h4 h5 h6 h7 l3 l4 hO HC0 hadd
        go_wp2_with fail
        refine (HNa.out _).mono ?_
        rintro e w5 ⟨rfl, hb5⟩
        have HB5 := hide (hb.out.trans (hb5.mono hb.out.size))
        clear hb5 HNa
        go_wp2_with fail
        rw [HE.out]
        refine (HNb.out _).mono ?_
        rintro e w6 ⟨rfl, hb6⟩
        have HB6 := hide (HB5.out.trans (hb6.mono HB5.out.size))
        clear hb6 HNb HB5 hb
        go_wp2
        go_roundw
        case rel => exact ⟨k + 1, Hlt.out, by go_num, S7, rfl, H7.out, HB6.out⟩
        case measure => have := Hlt.out; simp [intOf]; omega
    · obtain rfl : k = n := by omega
      have hOw := hO.out
      rw [List.take_of_length_le (by rw [Hn.out]; exact Nat.le_refl _)] at hOw
      have HO9 : Hid (S3 = S) := by
        rw [← HSS.out, ← hOw]
        unfold wrote
        rw [Hn.out]
        rfl
      clear hge hk hO hOw
      go_wp2
      go_ret
      exact ⟨by rw [HO9.out]; rfl, hb.out⟩
end

end Go.Proofs.YthoflpjmdhabmaaDoor.Mb
