/-
  The contracts of check, take, Add and Remove of a group, and of slices.Clip at changes. Nothing but the group's own blocks is changed.
-/
import Derived.Deep.RegionWith
import Derived.Deep.RegionHeld3
import Derived.Lib.SliceRun
import Derived.Test.YthoflpjmdhabmaaDoorMbErr
import Derived.Test.YthoflpjmdhabmaaDoorMbOps
namespace Go.Proofs.YthoflpjmdhabmaaDoor.Mb
open Go.RowKit
open Pk Dk Wn Lk

theorem drew_below {w w' : World} (h : Below w.drew.heap.size w.drew w') : Below w.heap.size w w' := (Below.refl _ w).drew.trans h
/-- A variable's block holds a change, and all that was there then is still there. -/
def Vs (b : Nat) (m v : Int) (r : Bool) (w1 W : World) : Prop := W.cell? ⟨b, 0, none⟩ = some (.int .i64 m) ∧ W.cell? ⟨b, 1, none⟩ = some (.int .i64 v) ∧ W.cell? ⟨b, 2, none⟩ = some (.bool r) ∧ Below w1.heap.size w1 W
theorem Vs.next {b : Nat} {m v : Int} {r : Bool} {w1 W W' : World} (hb : b < w1.heap.size) (h : Vs b m v r w1 W) (hW : Below W.heap.size W W') : Vs b m v r w1 W' := by
  obtain ⟨h0, h1, h2, h3⟩ := h
  have hl : b < W.heap.size := Nat.lt_of_lt_of_le hb h3.size
  exact ⟨(hW.cell (p := ⟨b, 0, none⟩) hl).trans h0, (hW.cell (p := ⟨b, 1, none⟩) hl).trans h1, (hW.cell (p := ⟨b, 2, none⟩) hl).trans h2, h3.trans (hW.mono h3.size)⟩
theorem Vs.new (w : World) (m v : Int) (r : Bool) : Vs w.heap.size m v r (w.alloc (.cells #[.int .i64 m, .int .i64 v, .bool r] 70)) (w.alloc (.cells #[.int .i64 m, .int .i64 v, .bool r] 70)) := by
  have h := fun j => cell_of_row (w.alloc (.cells #[.int .i64 m, .int .i64 v, .bool r] 70)) w.heap.size j _ _ _ (heap_alloc_new w _)
  exact ⟨h 0, h 1, h 2, Below.refl _ _⟩
section
variable {w : World} {G : Nat → Prop} {p s : Nat} {L : List Ch}
set_option maxRecDepth 100000 in
set_option maxHeartbeats 8000000 in
theorem check_any (h : (grpT p s L).P w G) (hl : L.length ≤ 100) (hs : s < 1152921504606846976) (hv : Vok L) (m v : Int) (r : Bool) : Calls Tryd.prog 48 #[.pointer (some ⟨p, 0, none⟩), .agg #[.int .i64 m, .int .i64 v, .bool r]] w fun e w' => e = .returned (.int .i64 (chk s L v m r)) ∧ Below w.heap.size w w' := by
  obtain ⟨A, n, c, _, hn, hnc, hcm, hsr, hp, c0, c1, _⟩ := Grp.cells h
  have hb1 : Below w.heap.size w (w.alloc (.cells #[.int .i64 m, .int .i64 v, .bool r] 70)) := (Below.refl _ _).alloc (Nat.le_refl _) _
  have HB1 := hide hb1
  have HS1 := hide (Vs.new w m v r)
  have HN : Hid (∀ W W', Vs w.heap.size m v r (w.alloc (.cells #[.int .i64 m, .int .i64 v, .bool r] 70)) W → Below W.heap.size W W' → Vs w.heap.size m v r (w.alloc (.cells #[.int .i64 m, .int .i64 v, .bool r] 70)) W') := fun W W' h1 h2 => Vs.next (by simp) h1 h2
  have HP : Hid (∀ W, Below (w.alloc (.cells #[.int .i64 m, .int .i64 v, .bool r] 70)).heap.size (w.alloc (.cells #[.int .i64 m, .int .i64 v, .bool r] 70)) W → Below w.heap.size w W) := fun W hW => hb1.trans (hW.mono hb1.size)
  have HL : Hid (∀ W, Below w.heap.size w W → Calls Tryd.prog 14 #[.pointer (some ⟨p, 0, none⟩)] W fun e w' => e = .returned (.int .i64 (last L)) ∧ Below W.heap.size W w') := fun W hW => Last_any (Thg.below h hW) hl
  have HO : Hid (∀ W, Below w.heap.size w W → Calls Tryd.prog 37 #[.pointer (some ⟨p, 0, none⟩)] W fun e w' => e = .returned (.int .i64 (atS s L (last L) : Int)) ∧ Below W.heap.size W w') := fun W hW => now_any (Thg.below h hW) hl hs hv
  have HC1 : Hid (∀ W, Below w.heap.size w W → W.cell? ⟨p, 1, none⟩ = some (.slice A n c)) := fun W hW => (hW.cell (p := ⟨p, 1, none⟩) hp).trans c1
  have h60 : atS s L (last L) < 1152921504606846976 := atS_lt L s 60 (last L) hs (by decide) fun c hc => (hv c hc).2
  obtain ⟨t, ht⟩ : ∃ t, atS s L (last L) = t := ⟨_, rfl⟩
  obtain ⟨k, hk⟩ : ∃ k, last L = k := ⟨_, rfl⟩
  obtain ⟨x, hx⟩ : ∃ x, chk s L v m r = x := ⟨_, rfl⟩
  have HX := hide hx
  rw [hx]
  unfold chk at HX
  rw [← hn] at HX
  rw [ht] at HX HO h60
  rw [hk] at HX HL
  have H60 := hide h60
  clear h hl hs hv hn hnc hcm hsr hp c0 c1 ht hk hx h60 hb1
  go_enter Tryd.func48, Tryd.ntmps48
  go_wp2_with fail
  generalize World.alloc _ _ = w1 at *
  refine (isVolume_any v w1).mono ?_
  rintro e w2 ⟨rfl, hw2⟩
  subst hw2
  by_cases hv : 0 ≤ v ∧ v < 4
  · have e1 : isV v = true := by simp [isV, hv]
    rw [e1]
    rw [if_neg (Decidable.not_not.2 hv)] at HX
    obtain ⟨u, rfl⟩ : ∃ u : Nat, v = (u : Int) := ⟨v.toNat, by omega⟩
    have Hu := hide (show u < 4 by omega)
    clear e1 hv
    rw [Int.toNat_natCast] at HX
    go_wp2_with fail
    have hS0 : Vs w.heap.size m (u : Int) r w1 w1.drew := HN.out _ _ HS1.out (Below.refl _ _).drew
    refine wp_region_held (S := (fun W : World => W.cell? ⟨w.heap.size, 0, none⟩ = some (.int .i64 m) ∧ W.cell? ⟨w.heap.size, 1, none⟩ = some (.int .i64 (u : Int)) ∧ W.cell? ⟨w.heap.size, 2, none⟩ = some (.bool r) ∧ Below w1.heap.size w1 W)) (by kernel_rfl) ?_
    change wpAnyH _ _ _ _ _ _ _ _ (World.drew _)
    refine wpAnyH_take (i := 0) (oi := ⟨some 11, _, _, _, _, _⟩) (v := ?_) rfl (by kernel_rfl) (by kernel_rfl) (by kernel_rfl) (fun _ _ _ h => h) (Or.inl ⟨by rfl, ?_⟩) hS0 ?_
    rotate_left 1
    · (intro w hSw; obtain ⟨hSw1, hSw2, hSw3, hSw4⟩ := hSw; go_simp; try with_reducible rfl)
    simp only [Act.put, List.setIfInBounds_toArray, List.set_cons_zero, List.set_cons_succ]
    refine wpAnyH_take (i := 1) (oi := ⟨some 12, _, _, _, _, _⟩) (v := ?_) rfl (by kernel_rfl) (by kernel_rfl) (by kernel_rfl) (fun _ _ _ h => h) (Or.inl ⟨by rfl, ?_⟩) hS0 ?_
    rotate_left 1
    · (intro w hSw; obtain ⟨hSw1, hSw2, hSw3, hSw4⟩ := hSw; go_simp; try with_reducible rfl)
    simp only [Act.put, List.setIfInBounds_toArray, List.set_cons_zero, List.set_cons_succ]
    refine wpAnyH_take (i := 2) (oi := ⟨some 13, _, _, _, _, _⟩) (v := ?_) rfl (by kernel_rfl) (by kernel_rfl) (by kernel_rfl) (fun _ _ _ h => h) (Or.inl ⟨by rfl, ?_⟩) hS0 ?_
    rotate_left 1
    · (intro w hSw; obtain ⟨hSw1, hSw2, hSw3, hSw4⟩ := hSw; go_simp; try with_reducible rfl)
    simp only [Act.put, List.setIfInBounds_toArray, List.set_cons_zero, List.set_cons_succ]
    refine wpAnyH_ready (rs := [3]) (by kernel_rfl) (by simp) ?_
    refine AllReadyH.cons (o := ⟨some 14, _, _, _, _, _⟩) rfl (fun K hK => ?_) AllReadyH.nil
    go_simp
    refine (HL.out _ (HP.out _ hS0.2.2.2)).mono ?_
    rintro e w2 ⟨rfl, hb2⟩
    have hS1 : Vs w.heap.size m (u : Int) r w1 w2 := HN.out _ _ hS0 hb2
    refine hK.out _ _ hS1 (fun hHeld => ?_)
    clear hK K
    clear hHeld
    refine wpAnyH_take (i := 4) (oi := ⟨some 15, _, _, _, _, _⟩) (v := ?_) rfl (by kernel_rfl) (by kernel_rfl) (by kernel_rfl) (fun _ _ _ h => h) (Or.inl ⟨by rfl, ?_⟩) hS1 ?_
    rotate_left 1
    · (intro w hSw; obtain ⟨hSw1, hSw2, hSw3, hSw4⟩ := hSw; go_simp; try with_reducible rfl)
    simp only [Act.put, List.setIfInBounds_toArray, List.set_cons_zero, List.set_cons_succ]
    refine wpAnyH_take (i := 5) (oi := ⟨some 10, _, _, _, _, _⟩) (v := ?_) rfl (by kernel_rfl) (by kernel_rfl) (by kernel_rfl) (fun _ _ _ h => h) (Or.inl ⟨by rfl, ?_⟩) hS1 ?_
    rotate_left 1
    · (intro w hSw; obtain ⟨hSw1, hSw2, hSw3, hSw4⟩ := hSw; go_simp; try with_reducible rfl)
    simp only [Act.put, List.setIfInBounds_toArray, List.set_cons_zero, List.set_cons_succ]
    refine wpAnyH_done (by kernel_rfl) ?_ _
    have HS2 := hide hS1
    have HB2 := hide (HP.out _ hS1.2.2.2)
    clear hS0 hS1 hb2
    by_cases hm : m ≤ k
    · rw [if_pos hm] at HX
      have HX' := hide HX.out.symm
      clear HX
      go_wp2
      go_ret
      exact ⟨by rw [HX'.out]; rfl, HB2.out⟩
    · rw [if_neg hm] at HX
      have q0 := HS2.out.1
      by_cases hm2 : 1152921504606846975 < m
      · rw [if_pos hm2] at HX
        have HX' := hide HX.out.symm
        clear HX
        go_wp2
        go_ret
        exact ⟨by rw [HX'.out]; rfl, HB2.out⟩
      · rw [if_neg hm2] at HX
        go_wp2_with fail
        have hS3 : Vs w.heap.size m (u : Int) r w1 w2.drew := HN.out _ _ HS2.out (Below.refl _ _).drew
        clear q0
        refine wp_region_held (S := (fun W : World => W.cell? ⟨w.heap.size, 0, none⟩ = some (.int .i64 m) ∧ W.cell? ⟨w.heap.size, 1, none⟩ = some (.int .i64 (u : Int)) ∧ W.cell? ⟨w.heap.size, 2, none⟩ = some (.bool r) ∧ Below w1.heap.size w1 W)) (by kernel_rfl) ?_
        change wpAnyH _ _ _ _ _ _ _ _ (World.drew _)
        refine wpAnyH_take (i := 0) (oi := ⟨some 21, _, _, _, _, _⟩) (v := ?_) rfl (by kernel_rfl) (by kernel_rfl) (by kernel_rfl) (fun _ _ _ h => h) (Or.inl ⟨by rfl, ?_⟩) hS3 ?_
        rotate_left 1
        · (intro w hSw; obtain ⟨hSw1, hSw2, hSw3, hSw4⟩ := hSw; go_simp; try with_reducible rfl)
        simp only [Act.put, List.setIfInBounds_toArray, List.set_cons_zero, List.set_cons_succ]
        refine wpAnyH_take (i := 2) (oi := ⟨some 23, _, _, _, _, _⟩) (v := ?_) rfl (by kernel_rfl) (by kernel_rfl) (by kernel_rfl) (fun _ _ _ h => h) (Or.inl ⟨by rfl, ?_⟩) hS3 ?_
        rotate_left 1
        · (intro w hSw; obtain ⟨hSw1, hSw2, hSw3, hSw4⟩ := hSw; go_simp; try with_reducible rfl)
        simp only [Act.put, List.setIfInBounds_toArray, List.set_cons_zero, List.set_cons_succ]
        refine wpAnyH_take (i := 3) (oi := ⟨some 24, _, _, _, _, _⟩) (v := ?_) rfl (by kernel_rfl) (by kernel_rfl) (by kernel_rfl) (fun _ _ _ h => h) (Or.inl ⟨by rfl, ?_⟩) hS3 ?_
        rotate_left 1
        · (intro w hSw; obtain ⟨hSw1, hSw2, hSw3, hSw4⟩ := hSw; go_simp; try with_reducible rfl)
        simp only [Act.put, List.setIfInBounds_toArray, List.set_cons_zero, List.set_cons_succ]
        refine wpAnyH_take (i := 5) (oi := ⟨some 26, _, _, _, _, _⟩) (v := ?_) rfl (by kernel_rfl) (by kernel_rfl) (by kernel_rfl) (fun _ _ _ h => h) (Or.inl ⟨by rfl, ?_⟩) hS3 ?_
        rotate_left 1
        · (intro w hSw; obtain ⟨hSw1, hSw2, hSw3, hSw4⟩ := hSw; go_simp; try with_reducible rfl)
        simp only [Act.put, List.setIfInBounds_toArray, List.set_cons_zero, List.set_cons_succ]
        refine wpAnyH_take (i := 6) (oi := ⟨some 27, _, _, _, _, _⟩) (v := ?_) rfl (by kernel_rfl) (by kernel_rfl) (by kernel_rfl) (fun _ _ _ h => h) (Or.inl ⟨by rfl, ?_⟩) hS3 ?_
        rotate_left 1
        · (intro w hSw; obtain ⟨hSw1, hSw2, hSw3, hSw4⟩ := hSw; go_simp; try with_reducible rfl)
        simp only [Act.put, List.setIfInBounds_toArray, List.set_cons_zero, List.set_cons_succ]
        refine wpAnyH_ready (rs := [1]) (by kernel_rfl) (by simp) ?_
        refine AllReadyH.cons (o := ⟨some 22, _, _, _, _, _⟩) rfl (fun K hK => ?_) AllReadyH.nil
        go_simp
        refine (HO.out _ (HP.out _ hS3.2.2.2)).mono ?_
        rintro e w3 ⟨rfl, hb3⟩
        have hS4 : Vs w.heap.size m (u : Int) r w1 w3 := HN.out _ _ hS3 hb3
        refine hK.out _ _ hS4 (fun hHeld => ?_)
        clear hK K
        clear hHeld
        refine wpAnyH_ready (rs := [4]) (by kernel_rfl) (by simp) ?_
        refine AllReadyH.cons (o := ⟨some 25, _, _, _, _, _⟩) rfl (fun K hK => ?_) AllReadyH.nil
        go_simp
        refine (has_any t u _ H60.out Hu.out).mono ?_
        rintro e w4 ⟨rfl, hw4⟩
        subst hw4
        have hS5 := hS4
        refine hK.out _ _ hS5 (fun hHeld => ?_)
        clear hK K
        clear hHeld
        refine wpAnyH_take (i := 7) (oi := ⟨some 28, _, _, _, _, _⟩) (v := ?_) rfl (by kernel_rfl) (by kernel_rfl) (by kernel_rfl) (fun _ _ _ h => h) (Or.inl ⟨by rfl, ?_⟩) hS5 ?_
        rotate_left 1
        · (intro w hSw; obtain ⟨hSw1, hSw2, hSw3, hSw4⟩ := hSw; go_simp; try with_reducible rfl)
        simp only [Act.put, List.setIfInBounds_toArray, List.set_cons_zero, List.set_cons_succ]
        refine wpAnyH_take (i := 8) (oi := ⟨some 20, _, _, _, _, _⟩) (v := ?_) rfl (by kernel_rfl) (by kernel_rfl) (by kernel_rfl) (fun _ _ _ h => h) (Or.inl ⟨by rfl, ?_⟩) hS5 ?_
        rotate_left 1
        · (intro w hSw; obtain ⟨hSw1, hSw2, hSw3, hSw4⟩ := hSw; go_simp; try with_reducible rfl)
        simp only [Act.put, List.setIfInBounds_toArray, List.set_cons_zero, List.set_cons_succ]
        refine wpAnyH_done (by kernel_rfl) ?_ _
        have HB4 := hide (HP.out _ hS5.2.2.2)
        clear hS3 hS4 hS5 hb3
        cases hbr : (bt t u == r) with
        | false =>
          rw [if_pos (by simp [bne, hbr])] at HX
          have HX' := hide HX.out.symm
          clear HX
          go_wp2
          go_ret
          exact ⟨by rw [HX'.out]; rfl, HB4.out⟩
        | true =>
          rw [if_neg (by simp [bne, hbr])] at HX
          have q1 := HC1.out _ HB4.out
          by_cases hf : 100 ≤ n
          · rw [if_pos hf] at HX
            have HX' := hide HX.out.symm
            have hfi : (100 : Int) ≤ (n : Int) := by omega
            clear HX hf
            go_wp2
            go_ret
            exact ⟨by rw [HX'.out]; rfl, HB4.out⟩
          · rw [if_neg hf] at HX
            have HX' := hide HX.out.symm
            have hfi : ¬ (100 : Int) ≤ (n : Int) := by omega
            clear HX
            go_wp2
            go_ret
            exact ⟨by rw [HX'.out]; rfl, HB4.out⟩
  · have e1 : isV v = false := by simp [isV, hv]
    rw [e1]
    rw [if_pos hv] at HX
    have HX' := hide HX.out.symm
    clear e1 hv HX
    go_wp2
    go_ret
    exact ⟨by rw [HX'.out]; rfl, HB1.out⟩
set_option maxRecDepth 100000 in
theorem Clip_any (A : Option Addr) (n c : Nat) (w : World) (hn : n ≤ c) (hc : c ≤ maxLen) : Calls Tryd.prog 49 #[.slice A n c] w fun e w' => e = .returned (.slice A n n) ∧ w = w' := by
  unfold maxLen at hc
  have h1 : (n : Int) ≤ (c : Int) := by omega
  have h3 : c ≤ 9223372036854775807 := by omega
  go_enter Tryd.func49, Tryd.ntmps49
  go_wp2
  go_ret
  exact ⟨rfl, rfl⟩
set_option maxRecDepth 100000 in
set_option maxHeartbeats 8000000 in
theorem take_ok (h : (grpT p s L).P w G) (hs : s < 1152921504606846976) (hv : Vok L) {m v : Int} {r : Bool} (hk : chk s L v m r = 0) : Calls Tryd.prog 33 #[.pointer (some ⟨p, 0, none⟩), .agg #[.int .i64 m, .int .i64 v, .bool r]] w fun e w' => e = .returned .nilIface ∧ After (grpT p s (L ++ [⟨m, v, r⟩])) w G w' := by
  have hl := (chk_zero hk).2.2.2.2
  obtain ⟨A, n, c, hx, hn, hnc, hcm, hsr, hp, c0, c1, _⟩ := Grp.cells h
  obtain ⟨hro, hcl⟩ := Grp.clip hx
  have hb1 : Below w.heap.size w (w.alloc (.cells #[.int .i64 m, .int .i64 v, .bool r] 70)) := (Below.refl _ _).alloc (Nat.le_refl _) _
  have HS1 := hide (Vs.new w m v r)
  have HN : Hid (∀ W W', Vs w.heap.size m v r (w.alloc (.cells #[.int .i64 m, .int .i64 v, .bool r] 70)) W → Below W.heap.size W W' → Vs w.heap.size m v r (w.alloc (.cells #[.int .i64 m, .int .i64 v, .bool r] 70)) W') := fun W W' h1 h2 => Vs.next (by simp) h1 h2
  have HP : Hid (∀ W, Below (w.alloc (.cells #[.int .i64 m, .int .i64 v, .bool r] 70)).heap.size (w.alloc (.cells #[.int .i64 m, .int .i64 v, .bool r] 70)) W → Below w.heap.size w W) := fun W hW => hb1.trans (hW.mono hb1.size)
  have HK := hide (check_any (Thg.below h hb1) (by omega) hs hv m v r)
  rw [hk] at HK
  have HC1 : Hid (∀ W, Below w.heap.size w W → W.cell? ⟨p, 1, none⟩ = some (.slice A n c)) := fun W hW => (hW.cell (p := ⟨p, 1, none⟩) hp).trans c1
  have HCl : Hid (∀ W, Calls Tryd.prog 49 #[.slice A n c] W fun e w' => e = .returned (.slice A n n) ∧ W = w') := fun W => Clip_any A n c W hnc hcm
  have HO : Hid (∀ W, Below w.heap.size w W → ORow W 70 3 (.slice A n n) n (ccels L)) := fun W hW => hro.below hW
  have HS : Hid (∀ W v2 w2, Below w.heap.size w W → Grown W 70 3 (.slice A n n) (n + 1) (ccels L ++ ccel ⟨m, v, r⟩) v2 w2 → w2.cell? ⟨p, 1, none⟩ = some (.slice A n c) ∧ w2.frozen? ⟨p, 1, none⟩ = false ∧ After (grpT p s (L ++ [⟨m, v, r⟩])) w G (w2.setCell ⟨p, 1, none⟩ v2)) := fun W v2 w2 hW hg => by
    rw [← ccels_snoc] at hg
    obtain ⟨s0, s1, s2⟩ := hcl hW hg (by rw [List.length_append]; simp; omega)
    exact ⟨s0.trans c1, s1, s2⟩
  have Hm1 := hide (show n + 1 ≤ maxLen by unfold maxLen; omega)
  have Hm2 := hide (show (n + 1) * 24 ≤ 140737488355328 by omega)
  clear h hl hx hs hv hn hnc hcm hsr hp c0 c1 hk hb1 hro hcl
  go_enter Tryd.func33, Tryd.ntmps33
  have hC0 := HS1.out.1
  have hC1 := HS1.out.2.1
  have hC2 := HS1.out.2.2.1
  go_wp2_with fail
  generalize World.alloc _ _ = w1 at *
  refine HK.out.mono ?_
  rintro e w2 ⟨rfl, hb2⟩
  have HV2 := hide (HN.out _ _ HS1.out hb2)
  clear hb2 HK hC0 hC1 hC2
  go_wp2_with fail
  have V0 := hide (HN.out _ _ HV2.out (Below.refl _ _).drew)
  have K0 := hide (HP.out _ V0.out.2.2.2)
  clear HV2
  refine wp_region_any (by kernel_rfl) ?_
  change wpAny _ _ _ _ _ _ _ (World.drew _)
  generalize World.drew _ = wd at *
  refine wpAny_take (i := 0) (oi := ⟨some 18, _, _, _, _, _⟩) (v := ?_) rfl (by kernel_rfl) (by kernel_rfl) (by kernel_rfl) (fun _ _ _ h => h) (Or.inl ⟨by rfl, ?_⟩) ?_
  rotate_left 1
  · (intro w; go_simp; try with_reducible rfl)
  simp only [Act.put, List.setIfInBounds_toArray, List.set_cons_zero, List.set_cons_succ]
  refine wpAny_take (i := 1) (oi := ⟨some 19, _, _, _, _, _⟩) (v := ?_) rfl (by kernel_rfl) (by kernel_rfl) (by kernel_rfl) (fun _ _ _ h => h) (Or.inl ⟨by rfl, ?_⟩) ?_
  rotate_left 1
  · (intro w; go_simp; try with_reducible rfl)
  simp only [Act.put, List.setIfInBounds_toArray, List.set_cons_zero, List.set_cons_succ]
  refine wpAny_take (i := 2) (oi := ⟨some 20, _, _, _, _, _⟩) (v := ?_) rfl (by kernel_rfl) (by kernel_rfl) (by kernel_rfl) (fun _ _ _ h => h) (Or.inl ⟨by rfl, ?_⟩) ?_
  rotate_left 1
  · (intro w; go_simp; try with_reducible rfl)
  simp only [Act.put, List.setIfInBounds_toArray, List.set_cons_zero, List.set_cons_succ]
  refine wpAny_take (i := 3) (oi := ⟨some 21, _, _, _, _, _⟩) (v := ?_) rfl (by kernel_rfl) (by kernel_rfl) (by kernel_rfl) (fun _ _ _ h => h) (Or.inl ⟨by rfl, ?_⟩) ?_
  rotate_left 1
  · (intro w; go_simp; try with_reducible rfl)
  simp only [Act.put, List.setIfInBounds_toArray, List.set_cons_zero, List.set_cons_succ]
  refine wpAny_ready (rs := [4, 6]) (by kernel_rfl) (by simp) ?_
  refine AllReady.cons (o := ⟨some 22, _, _, _, _, _⟩) rfl (fun K hK => ?_) (AllReady.cons (o := ⟨some 24, _, _, _, _, _⟩) rfl (fun K hK => ?_) AllReady.nil)
  · have hq := HC1.out _ K0.out
    go_simp
    clear hq
    refine hK _ _ ?_
    clear hK K
    refine wpAny_ready (rs := [5, 6]) (by kernel_rfl) (by simp) ?_
    refine AllReady.cons (o := ⟨some 23, _, _, _, _, _⟩) rfl (fun K hK => ?_) (AllReady.cons (o := ⟨some 24, _, _, _, _, _⟩) rfl (fun K hK => ?_) AllReady.nil)
    · go_simp
      refine (HCl.out _).mono ?_
      rintro e w5 ⟨rfl, hw5⟩
      subst hw5
      refine hK _ _ ?_
      clear hK K
      refine wpAny_ready (rs := [6]) (by kernel_rfl) (by simp) ?_
      refine AllReady.cons (o := ⟨some 24, _, _, _, _, _⟩) rfl (fun K hK => ?_) AllReady.nil
      obtain ⟨hq0, hq1, hq2, _⟩ := V0.out
      go_simp
      clear hq0 hq1 hq2
      refine hK _ _ ?_
      clear hK K
      refine wpAny_ready (rs := [7]) (by kernel_rfl) (by simp) ?_
      refine AllReady.cons (o := ⟨some 25, _, _, _, _, _⟩) rfl (fun K hK => ?_) AllReady.nil
      go_simp
      have HM := hide (Made.row K0.out #[.int .i64 m, .int .i64 v, .bool r] 70)
      have K1 := hide HM.out.bel
      generalize World.alloc _ _ = W1 at *
      refine hK _ _ ?_
      clear hK K
      refine wpAny_ready (rs := [8]) (by kernel_rfl) (by simp) ?_
      refine AllReady.cons (o := ⟨some 26, _, _, _, _, _⟩) rfl (fun K hK => ?_) AllReady.nil
      refine step_app app_ch (by rfl) (.tmp 23) (.tmp 25) rfl (.slice A n n) n (ccels L) rfl (HO.out _ K1.out) _ 1 1 (ccel ⟨m, v, r⟩) rfl rfl HM.out.src (ccel_ones _) (by decide) Hm1.out Hm2.out ?_
      intro v2 w2 hg
      obtain ⟨s0, s1, s2⟩ := HS.out _ _ _ K1.out hg.out
      have HA := hide s2
      obtain ⟨A2, c2, rfl, _, _, _⟩ := hg.out.row.form
      clear hg s2
      refine hK _ _ ?_
      clear hK K
      refine wpAny_take (i := 9) (oi := ⟨some 27, _, _, _, _, _⟩) (v := ?_) rfl (by kernel_rfl) (by kernel_rfl) (by kernel_rfl) (fun _ _ _ h => h) (Or.inl ⟨by rfl, ?_⟩) ?_
      rotate_left 1
      · (intro w; go_simp; try with_reducible rfl)
      simp only [Act.put, List.setIfInBounds_toArray, List.set_cons_zero, List.set_cons_succ]
      refine wpAny_take (i := 10) (oi := ⟨some 28, _, _, _, _, _⟩) (v := ?_) rfl (by kernel_rfl) (by kernel_rfl) (by kernel_rfl) (fun _ _ _ h => h) (Or.inl ⟨by rfl, ?_⟩) ?_
      rotate_left 1
      · (intro w; go_simp; try with_reducible rfl)
      simp only [Act.put, List.setIfInBounds_toArray, List.set_cons_zero, List.set_cons_succ]
      refine wpAny_ready (rs := [11]) (by kernel_rfl) (by simp) ?_
      refine AllReady.cons (o := ⟨none, _, _, _, _, _⟩) rfl (fun K hK => ?_) AllReady.nil
      go_simp
      generalize World.setCell _ _ _ = w3 at *
      refine hK _ _ ?_
      clear hK K
      refine wpAny_done (by kernel_rfl) ?_ _
      clear s0 s1
      go_wp2
      go_ret
      exact ⟨rfl, HA.out⟩
    · obtain ⟨hq0, hq1, hq2, _⟩ := V0.out
      go_simp
      clear hq0 hq1 hq2
      refine hK _ _ ?_
      clear hK K
      refine wpAny_ready (rs := [5, 7]) (by kernel_rfl) (by simp) ?_
      refine AllReady.cons (o := ⟨some 23, _, _, _, _, _⟩) rfl (fun K hK => ?_) (AllReady.cons (o := ⟨some 25, _, _, _, _, _⟩) rfl (fun K hK => ?_) AllReady.nil)
      · go_simp
        refine (HCl.out _).mono ?_
        rintro e w5 ⟨rfl, hw5⟩
        subst hw5
        refine hK _ _ ?_
        clear hK K
        refine wpAny_ready (rs := [7]) (by kernel_rfl) (by simp) ?_
        refine AllReady.cons (o := ⟨some 25, _, _, _, _, _⟩) rfl (fun K hK => ?_) AllReady.nil
        go_simp
        have HM := hide (Made.row K0.out #[.int .i64 m, .int .i64 v, .bool r] 70)
        have K1 := hide HM.out.bel
        generalize World.alloc _ _ = W1 at *
        refine hK _ _ ?_
        clear hK K
        refine wpAny_ready (rs := [8]) (by kernel_rfl) (by simp) ?_
        refine AllReady.cons (o := ⟨some 26, _, _, _, _, _⟩) rfl (fun K hK => ?_) AllReady.nil
        refine step_app app_ch (by rfl) (.tmp 23) (.tmp 25) rfl (.slice A n n) n (ccels L) rfl (HO.out _ K1.out) _ 1 1 (ccel ⟨m, v, r⟩) rfl rfl HM.out.src (ccel_ones _) (by decide) Hm1.out Hm2.out ?_
        intro v2 w2 hg
        obtain ⟨s0, s1, s2⟩ := HS.out _ _ _ K1.out hg.out
        have HA := hide s2
        obtain ⟨A2, c2, rfl, _, _, _⟩ := hg.out.row.form
        clear hg s2
        refine hK _ _ ?_
        clear hK K
        refine wpAny_take (i := 9) (oi := ⟨some 27, _, _, _, _, _⟩) (v := ?_) rfl (by kernel_rfl) (by kernel_rfl) (by kernel_rfl) (fun _ _ _ h => h) (Or.inl ⟨by rfl, ?_⟩) ?_
        rotate_left 1
        · (intro w; go_simp; try with_reducible rfl)
        simp only [Act.put, List.setIfInBounds_toArray, List.set_cons_zero, List.set_cons_succ]
        refine wpAny_take (i := 10) (oi := ⟨some 28, _, _, _, _, _⟩) (v := ?_) rfl (by kernel_rfl) (by kernel_rfl) (by kernel_rfl) (fun _ _ _ h => h) (Or.inl ⟨by rfl, ?_⟩) ?_
        rotate_left 1
        · (intro w; go_simp; try with_reducible rfl)
        simp only [Act.put, List.setIfInBounds_toArray, List.set_cons_zero, List.set_cons_succ]
        refine wpAny_ready (rs := [11]) (by kernel_rfl) (by simp) ?_
        refine AllReady.cons (o := ⟨none, _, _, _, _, _⟩) rfl (fun K hK => ?_) AllReady.nil
        go_simp
        generalize World.setCell _ _ _ = w3 at *
        refine hK _ _ ?_
        clear hK K
        refine wpAny_done (by kernel_rfl) ?_ _
        clear s0 s1
        go_wp2
        go_ret
        exact ⟨rfl, HA.out⟩
      · go_simp
        have HM := hide (Made.row K0.out #[.int .i64 m, .int .i64 v, .bool r] 70)
        have K1 := hide HM.out.bel
        generalize World.alloc _ _ = W1 at *
        refine hK _ _ ?_
        clear hK K
        refine wpAny_ready (rs := [5]) (by kernel_rfl) (by simp) ?_
        refine AllReady.cons (o := ⟨some 23, _, _, _, _, _⟩) rfl (fun K hK => ?_) AllReady.nil
        go_simp
        refine (HCl.out _).mono ?_
        rintro e w5 ⟨rfl, hw5⟩
        subst hw5
        refine hK _ _ ?_
        clear hK K
        refine wpAny_ready (rs := [8]) (by kernel_rfl) (by simp) ?_
        refine AllReady.cons (o := ⟨some 26, _, _, _, _, _⟩) rfl (fun K hK => ?_) AllReady.nil
        refine step_app app_ch (by rfl) (.tmp 23) (.tmp 25) rfl (.slice A n n) n (ccels L) rfl (HO.out _ K1.out) _ 1 1 (ccel ⟨m, v, r⟩) rfl rfl HM.out.src (ccel_ones _) (by decide) Hm1.out Hm2.out ?_
        intro v2 w2 hg
        obtain ⟨s0, s1, s2⟩ := HS.out _ _ _ K1.out hg.out
        have HA := hide s2
        obtain ⟨A2, c2, rfl, _, _, _⟩ := hg.out.row.form
        clear hg s2
        refine hK _ _ ?_
        clear hK K
        refine wpAny_take (i := 9) (oi := ⟨some 27, _, _, _, _, _⟩) (v := ?_) rfl (by kernel_rfl) (by kernel_rfl) (by kernel_rfl) (fun _ _ _ h => h) (Or.inl ⟨by rfl, ?_⟩) ?_
        rotate_left 1
        · (intro w; go_simp; try with_reducible rfl)
        simp only [Act.put, List.setIfInBounds_toArray, List.set_cons_zero, List.set_cons_succ]
        refine wpAny_take (i := 10) (oi := ⟨some 28, _, _, _, _, _⟩) (v := ?_) rfl (by kernel_rfl) (by kernel_rfl) (by kernel_rfl) (fun _ _ _ h => h) (Or.inl ⟨by rfl, ?_⟩) ?_
        rotate_left 1
        · (intro w; go_simp; try with_reducible rfl)
        simp only [Act.put, List.setIfInBounds_toArray, List.set_cons_zero, List.set_cons_succ]
        refine wpAny_ready (rs := [11]) (by kernel_rfl) (by simp) ?_
        refine AllReady.cons (o := ⟨none, _, _, _, _, _⟩) rfl (fun K hK => ?_) AllReady.nil
        go_simp
        generalize World.setCell _ _ _ = w3 at *
        refine hK _ _ ?_
        clear hK K
        refine wpAny_done (by kernel_rfl) ?_ _
        clear s0 s1
        go_wp2
        go_ret
        exact ⟨rfl, HA.out⟩
  · obtain ⟨hq0, hq1, hq2, _⟩ := V0.out
    go_simp
    clear hq0 hq1 hq2
    refine hK _ _ ?_
    clear hK K
    refine wpAny_ready (rs := [4, 7]) (by kernel_rfl) (by simp) ?_
    refine AllReady.cons (o := ⟨some 22, _, _, _, _, _⟩) rfl (fun K hK => ?_) (AllReady.cons (o := ⟨some 25, _, _, _, _, _⟩) rfl (fun K hK => ?_) AllReady.nil)
    · have hq := HC1.out _ K0.out
      go_simp
      clear hq
      refine hK _ _ ?_
      clear hK K
      refine wpAny_ready (rs := [5, 7]) (by kernel_rfl) (by simp) ?_
      refine AllReady.cons (o := ⟨some 23, _, _, _, _, _⟩) rfl (fun K hK => ?_) (AllReady.cons (o := ⟨some 25, _, _, _, _, _⟩) rfl (fun K hK => ?_) AllReady.nil)
      · go_simp
        refine (HCl.out _).mono ?_
        rintro e w5 ⟨rfl, hw5⟩
        subst hw5
        refine hK _ _ ?_
        clear hK K
        refine wpAny_ready (rs := [7]) (by kernel_rfl) (by simp) ?_
        refine AllReady.cons (o := ⟨some 25, _, _, _, _, _⟩) rfl (fun K hK => ?_) AllReady.nil
        go_simp
        have HM := hide (Made.row K0.out #[.int .i64 m, .int .i64 v, .bool r] 70)
        have K1 := hide HM.out.bel
        generalize World.alloc _ _ = W1 at *
        refine hK _ _ ?_
        clear hK K
        refine wpAny_ready (rs := [8]) (by kernel_rfl) (by simp) ?_
        refine AllReady.cons (o := ⟨some 26, _, _, _, _, _⟩) rfl (fun K hK => ?_) AllReady.nil
        refine step_app app_ch (by rfl) (.tmp 23) (.tmp 25) rfl (.slice A n n) n (ccels L) rfl (HO.out _ K1.out) _ 1 1 (ccel ⟨m, v, r⟩) rfl rfl HM.out.src (ccel_ones _) (by decide) Hm1.out Hm2.out ?_
        intro v2 w2 hg
        obtain ⟨s0, s1, s2⟩ := HS.out _ _ _ K1.out hg.out
        have HA := hide s2
        obtain ⟨A2, c2, rfl, _, _, _⟩ := hg.out.row.form
        clear hg s2
        refine hK _ _ ?_
        clear hK K
        refine wpAny_take (i := 9) (oi := ⟨some 27, _, _, _, _, _⟩) (v := ?_) rfl (by kernel_rfl) (by kernel_rfl) (by kernel_rfl) (fun _ _ _ h => h) (Or.inl ⟨by rfl, ?_⟩) ?_
        rotate_left 1
        · (intro w; go_simp; try with_reducible rfl)
        simp only [Act.put, List.setIfInBounds_toArray, List.set_cons_zero, List.set_cons_succ]
        refine wpAny_take (i := 10) (oi := ⟨some 28, _, _, _, _, _⟩) (v := ?_) rfl (by kernel_rfl) (by kernel_rfl) (by kernel_rfl) (fun _ _ _ h => h) (Or.inl ⟨by rfl, ?_⟩) ?_
        rotate_left 1
        · (intro w; go_simp; try with_reducible rfl)
        simp only [Act.put, List.setIfInBounds_toArray, List.set_cons_zero, List.set_cons_succ]
        refine wpAny_ready (rs := [11]) (by kernel_rfl) (by simp) ?_
        refine AllReady.cons (o := ⟨none, _, _, _, _, _⟩) rfl (fun K hK => ?_) AllReady.nil
        go_simp
        generalize World.setCell _ _ _ = w3 at *
        refine hK _ _ ?_
        clear hK K
        refine wpAny_done (by kernel_rfl) ?_ _
        clear s0 s1
        go_wp2
        go_ret
        exact ⟨rfl, HA.out⟩
      · go_simp
        have HM := hide (Made.row K0.out #[.int .i64 m, .int .i64 v, .bool r] 70)
        have K1 := hide HM.out.bel
        generalize World.alloc _ _ = W1 at *
        refine hK _ _ ?_
        clear hK K
        refine wpAny_ready (rs := [5]) (by kernel_rfl) (by simp) ?_
        refine AllReady.cons (o := ⟨some 23, _, _, _, _, _⟩) rfl (fun K hK => ?_) AllReady.nil
        go_simp
        refine (HCl.out _).mono ?_
        rintro e w5 ⟨rfl, hw5⟩
        subst hw5
        refine hK _ _ ?_
        clear hK K
        refine wpAny_ready (rs := [8]) (by kernel_rfl) (by simp) ?_
        refine AllReady.cons (o := ⟨some 26, _, _, _, _, _⟩) rfl (fun K hK => ?_) AllReady.nil
        refine step_app app_ch (by rfl) (.tmp 23) (.tmp 25) rfl (.slice A n n) n (ccels L) rfl (HO.out _ K1.out) _ 1 1 (ccel ⟨m, v, r⟩) rfl rfl HM.out.src (ccel_ones _) (by decide) Hm1.out Hm2.out ?_
        intro v2 w2 hg
        obtain ⟨s0, s1, s2⟩ := HS.out _ _ _ K1.out hg.out
        have HA := hide s2
        obtain ⟨A2, c2, rfl, _, _, _⟩ := hg.out.row.form
        clear hg s2
        refine hK _ _ ?_
        clear hK K
        refine wpAny_take (i := 9) (oi := ⟨some 27, _, _, _, _, _⟩) (v := ?_) rfl (by kernel_rfl) (by kernel_rfl) (by kernel_rfl) (fun _ _ _ h => h) (Or.inl ⟨by rfl, ?_⟩) ?_
        rotate_left 1
        · (intro w; go_simp; try with_reducible rfl)
        simp only [Act.put, List.setIfInBounds_toArray, List.set_cons_zero, List.set_cons_succ]
        refine wpAny_take (i := 10) (oi := ⟨some 28, _, _, _, _, _⟩) (v := ?_) rfl (by kernel_rfl) (by kernel_rfl) (by kernel_rfl) (fun _ _ _ h => h) (Or.inl ⟨by rfl, ?_⟩) ?_
        rotate_left 1
        · (intro w; go_simp; try with_reducible rfl)
        simp only [Act.put, List.setIfInBounds_toArray, List.set_cons_zero, List.set_cons_succ]
        refine wpAny_ready (rs := [11]) (by kernel_rfl) (by simp) ?_
        refine AllReady.cons (o := ⟨none, _, _, _, _, _⟩) rfl (fun K hK => ?_) AllReady.nil
        go_simp
        generalize World.setCell _ _ _ = w3 at *
        refine hK _ _ ?_
        clear hK K
        refine wpAny_done (by kernel_rfl) ?_ _
        clear s0 s1
        go_wp2
        go_ret
        exact ⟨rfl, HA.out⟩
    · go_simp
      have HM := hide (Made.row K0.out #[.int .i64 m, .int .i64 v, .bool r] 70)
      have K1 := hide HM.out.bel
      generalize World.alloc _ _ = W1 at *
      refine hK _ _ ?_
      clear hK K
      refine wpAny_ready (rs := [4]) (by kernel_rfl) (by simp) ?_
      refine AllReady.cons (o := ⟨some 22, _, _, _, _, _⟩) rfl (fun K hK => ?_) AllReady.nil
      have hq := HC1.out _ K1.out
      go_simp
      clear hq
      refine hK _ _ ?_
      clear hK K
      refine wpAny_ready (rs := [5]) (by kernel_rfl) (by simp) ?_
      refine AllReady.cons (o := ⟨some 23, _, _, _, _, _⟩) rfl (fun K hK => ?_) AllReady.nil
      go_simp
      refine (HCl.out _).mono ?_
      rintro e w5 ⟨rfl, hw5⟩
      subst hw5
      refine hK _ _ ?_
      clear hK K
      refine wpAny_ready (rs := [8]) (by kernel_rfl) (by simp) ?_
      refine AllReady.cons (o := ⟨some 26, _, _, _, _, _⟩) rfl (fun K hK => ?_) AllReady.nil
      refine step_app app_ch (by rfl) (.tmp 23) (.tmp 25) rfl (.slice A n n) n (ccels L) rfl (HO.out _ K1.out) _ 1 1 (ccel ⟨m, v, r⟩) rfl rfl HM.out.src (ccel_ones _) (by decide) Hm1.out Hm2.out ?_
      intro v2 w2 hg
      obtain ⟨s0, s1, s2⟩ := HS.out _ _ _ K1.out hg.out
      have HA := hide s2
      obtain ⟨A2, c2, rfl, _, _, _⟩ := hg.out.row.form
      clear hg s2
      refine hK _ _ ?_
      clear hK K
      refine wpAny_take (i := 9) (oi := ⟨some 27, _, _, _, _, _⟩) (v := ?_) rfl (by kernel_rfl) (by kernel_rfl) (by kernel_rfl) (fun _ _ _ h => h) (Or.inl ⟨by rfl, ?_⟩) ?_
      rotate_left 1
      · (intro w; go_simp; try with_reducible rfl)
      simp only [Act.put, List.setIfInBounds_toArray, List.set_cons_zero, List.set_cons_succ]
      refine wpAny_take (i := 10) (oi := ⟨some 28, _, _, _, _, _⟩) (v := ?_) rfl (by kernel_rfl) (by kernel_rfl) (by kernel_rfl) (fun _ _ _ h => h) (Or.inl ⟨by rfl, ?_⟩) ?_
      rotate_left 1
      · (intro w; go_simp; try with_reducible rfl)
      simp only [Act.put, List.setIfInBounds_toArray, List.set_cons_zero, List.set_cons_succ]
      refine wpAny_ready (rs := [11]) (by kernel_rfl) (by simp) ?_
      refine AllReady.cons (o := ⟨none, _, _, _, _, _⟩) rfl (fun K hK => ?_) AllReady.nil
      go_simp
      generalize World.setCell _ _ _ = w3 at *
      refine hK _ _ ?_
      clear hK K
      refine wpAny_done (by kernel_rfl) ?_ _
      clear s0 s1
      go_wp2
      go_ret
      exact ⟨rfl, HA.out⟩
set_option maxRecDepth 100000 in
set_option maxHeartbeats 4000000 in
theorem take_no (h : (grpT p s L).P w G) (hl : L.length ≤ 100) (hs : s < 1152921504606846976) (hv : Vok L) {m v x : Int} {r : Bool} (hk : chk s L v m r = x) (hx : (x == 0) = false) : Calls Tryd.prog 33 #[.pointer (some ⟨p, 0, none⟩), .agg #[.int .i64 m, .int .i64 v, .bool r]] w fun e w' => ∃ q, e = .returned (.iface 86 (.pointer (some ⟨q, 0, none⟩))) ∧ Fails w v x q w' := by
  have hb1 : Below w.heap.size w (w.alloc (.cells #[.int .i64 m, .int .i64 v, .bool r] 70)) := (Below.refl _ _).alloc (Nat.le_refl _) _
  have HS1 := hide (Vs.new w m v r)
  have HN : Hid (∀ W W', Vs w.heap.size m v r (w.alloc (.cells #[.int .i64 m, .int .i64 v, .bool r] 70)) W → Below W.heap.size W W' → Vs w.heap.size m v r (w.alloc (.cells #[.int .i64 m, .int .i64 v, .bool r] 70)) W') := fun W W' h1 h2 => Vs.next (by simp) h1 h2
  have HP : Hid (∀ W, Below (w.alloc (.cells #[.int .i64 m, .int .i64 v, .bool r] 70)).heap.size (w.alloc (.cells #[.int .i64 m, .int .i64 v, .bool r] 70)) W → Below w.heap.size w W) := fun W hW => hb1.trans (hW.mono hb1.size)
  have HK := hide (check_any (Thg.below h hb1) hl hs hv m v r)
  rw [hk] at HK
  clear h hl hs hv hk hb1
  have Hx := hide hx
  go_enter Tryd.func33, Tryd.ntmps33
  have hC0 := HS1.out.1
  have hC1 := HS1.out.2.1
  have hC2 := HS1.out.2.2.1
  go_wp2_with fail
  generalize World.alloc _ _ = w1 at *
  refine HK.out.mono ?_
  rintro e w2 ⟨rfl, hb2⟩
  have HV2 := hide (HN.out _ _ HS1.out hb2)
  clear hb2 HK hC0 hC1 hC2
  have hd1 := HV2.out.2.1
  go_wp2_with fail
  refine (failed_any v x w2 Hx.out).mono ?_
  rintro e w3 ⟨q, rfl, hF, hb3⟩
  have HF := hide hF
  have HB := hide (HP.out _ (HV2.out.2.2.2.trans (hb3.mono HV2.out.2.2.2.size)))
  clear hF hb3 HV2 hd1 hx
  go_wp2
  go_ret
  exact ⟨q, rfl, HF.out, HB.out⟩
end
set_option maxRecDepth 100000 in
set_option maxHeartbeats 4000000 in
theorem take_nil (m v : Int) (r : Bool) (w : World) : Calls Tryd.prog 33 #[.pointer none, .agg #[.int .i64 m, .int .i64 v, .bool r]] w fun e w' => ∃ q, e = .returned (.iface 86 (.pointer (some ⟨q, 0, none⟩))) ∧ Fails w 0 11 q w' := by
  have hb1 : Below w.heap.size w (w.alloc (.cells #[.int .i64 m, .int .i64 v, .bool r] 70)) := (Below.refl _ _).alloc (Nat.le_refl _) _
  have HB1 := hide hb1
  clear hb1
  go_enter Tryd.func33, Tryd.ntmps33
  go_wp2_with fail
  generalize World.alloc _ _ = w1 at *
  refine (failed_any 0 11 w1 rfl).mono ?_
  rintro e w3 ⟨q, rfl, hF, hb3⟩
  have HF := hide hF
  have HB := hide (HB1.out.trans (hb3.mono HB1.out.size))
  clear hF hb3 HB1
  go_wp2
  go_ret
  exact ⟨q, rfl, HF.out, HB.out⟩

end Go.Proofs.YthoflpjmdhabmaaDoor.Mb
