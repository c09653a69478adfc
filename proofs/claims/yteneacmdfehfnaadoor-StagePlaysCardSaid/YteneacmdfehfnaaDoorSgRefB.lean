/-
  The document's stage: Crash, UpTo, Marks, Drop; the contracts of the statements' own same, and of the document's Same, at alike rows. Nothing but the stage's own blocks is changed.
-/
import Derived.StillTailTactics
import Derived.Test.YteneacmdfehfnaaDoorRcEq
import Derived.Test.YteneacmdfehfnaaDoorSgRef
namespace Go.Proofs.YteneacmdfehfnaaDoor.Sg
open Go.RowKit
open Pk Dk Wn Lk Rc

section
variable {w w' : World} {G : Nat → Prop} {q f b : Nat} {m : Int} {L : List Rd}
set_option maxRecDepth 100000 in
set_option maxHeartbeats 4000000 in
theorem RCrash_any (h : (rstT q L f b m).P w G) (keep : Int) {z : Nat} (hfl : f ≤ L.length) (hfew : L.length ≤ 100000) (hz : left keep f L.length = z) : Calls Tryd.prog 14 #[.pointer (some ⟨q, 0, none⟩), .int .i64 keep] w fun e w' => e = .returned (.tuple #[]) ∧ After (rstT q (L.take z) z b m) w G w' := by
  obtain ⟨A, n, c, hx, hn, hnc, hcm, _, _, _, c1, _, c3, fz⟩ := Rst.view h
  rw [← hn] at hz hfl hfew
  have hzl : z ≤ n := by rw [← hz]; exact left_le keep hfl
  obtain ⟨d, hd⟩ : ∃ d, n - f = d := ⟨_, rfl⟩
  obtain ⟨e, he⟩ : ∃ e, (min (max keep 0) ((n - f : Nat) : Int)).toNat = e := ⟨_, rfl⟩
  have h1 : (n : Int) - (f : Int) = (d : Int) := by omega
  have h2 : max 0 (min keep (d : Int)) = (e : Int) := by rw [← he, hd]; omega
  have h3 : (f : Int) + (e : Int) = (z : Int) := by unfold left at hz; rw [he] at hz; omega
  have h4 : IntKind.i64.wrap (d : Int) = (d : Int) := wrap_id (by omega) (by omega)
  have h5 : IntKind.i64.wrap (z : Int) = (z : Int) := wrap_id (by omega) (by omega)
  have h6 : IntKind.i64.wrap ((n : Int) - (f : Int)) = (d : Int) := by rw [h1]; exact h4
  have h7 : IntKind.i64.wrap ((f : Int) + (e : Int)) = (z : Int) := by rw [h3]; exact h5
  have hz1 : (z : Int) ≤ (c : Int) := by omega
  have hz2 : z ≤ c := by omega
  have hc63 : c ≤ 9223372036854775807 := by unfold maxLen at hcm; omega
  have hf1 := fz 1
  have Hzl := hide hzl
  have HX : Hid (∀ wd, Below w.heap.size w wd → wd.cell? ⟨q, 1, none⟩ = some (.int .i64 (f : Int)) ∧ wd.cell? ⟨q, 3, none⟩ = some (.slice A n c) ∧ wd.frozen? ⟨q, 1, none⟩ = false ∧ After (rst1 q L z b m (.slice A n c)) w G (wd.setCell ⟨q, 1, none⟩ (.int .i64 (z : Int)))) := fun wd hb => by
    have hx1 := Thg.below (T := rst1 q L f b m (.slice A n c)) hx hb
    exact ⟨One.cell hx1 1, One.cell hx1 3, One.frozen hx1 1, After.from (One.set hx1 1 (.int .i64 (z : Int))) hb⟩
  have HN : Hid (∀ w1 wd, After (rst1 q L z b m (.slice A n c)) w G w1 → Below w1.heap.size w1 wd → wd.cell? ⟨q, 1, none⟩ = some (.int .i64 (z : Int)) ∧ wd.cell? ⟨q, 3, none⟩ = some (.slice A n c) ∧ wd.frozen? ⟨q, 3, none⟩ = false ∧ After (rstT q (L.take z) z b m) w G (wd.setCell ⟨q, 3, none⟩ (.slice A z c))) := fun w1 wd hA hb => by
    have hA2 := After.below hA hb
    obtain ⟨G1, hp1, hg1, hk1⟩ := hA2
    have hp1' : (oneT q (rbox z b m (.slice A n c)) 37 30 5 (.slice A n c) L.length (rcels L)).P wd G1 := hp1
    refine ⟨One.cell hp1' 1, One.cell hp1' 3, One.frozen hp1' 3, Rst.of (X := .slice A z c) (After.next hg1 hk1 ?_)⟩
    have hr := One.row hp1'
    rw [← hn] at hr
    have hs := ORow.shorter hr hzl
    rw [rcels_take] at hs
    have h9 := (One.same hp1' (Below.refl _ _) hs (fun k hk => by cases A <;> exact hk) 3).2
    unfold rst1
    rw [List.length_take, ← hn, Nat.min_eq_left hzl]
    exact h9
  obtain ⟨_, _, _, hA⟩ := HX.out w (Below.refl _ _)
  have HA := hide hA
  clear h hx hn hnc hcm fz hfl hfew hzl hz hd he h1 h3 hA HX
  go_enter Tryd.func14, Tryd.ntmps14
  go_wp2
  go_still_tail 21, (by kernel_rfl)
  go_wp2
  generalize World.setCell _ _ _ = w1 at *
  obtain ⟨d1, d3, df, hA2⟩ := HN.out w1 w1 HA.out (Below.refl _ _)
  have HA2 := hide hA2
  clear c1 c3 hf1 hA2 HN
  refine wp_region_any (by kernel_rfl) ?_
  change wpAny _ _ _ _ _ _ _ (World.drew _)
  refine wpAny_take (i := 0) (oi := ⟨some 25, _, _, _, _, _⟩) (v := ?_) rfl (by kernel_rfl) (by kernel_rfl) (by kernel_rfl) (fun _ _ _ h => h) (Or.inl ⟨by rfl, ?_⟩) ?_
  rotate_left 1
  · (intro w; go_simp; try with_reducible rfl)
  simp only [Act.put, List.setIfInBounds_toArray, List.set_cons_zero, List.set_cons_succ]
  refine wpAny_take (i := 1) (oi := ⟨some 26, _, _, _, _, _⟩) (v := ?_) rfl (by kernel_rfl) (by kernel_rfl) (by kernel_rfl) (fun _ _ _ h => h) (Or.inl ⟨by rfl, ?_⟩) ?_
  rotate_left 1
  · (intro w; go_simp; try with_reducible rfl)
  simp only [Act.put, List.setIfInBounds_toArray, List.set_cons_zero, List.set_cons_succ]
  refine wpAny_take (i := 2) (oi := ⟨some 27, _, _, _, _, _⟩) (v := ?_) rfl (by kernel_rfl) (by kernel_rfl) (by kernel_rfl) (fun _ _ _ h => h) (Or.inl ⟨by rfl, ?_⟩) ?_
  rotate_left 1
  · (intro w; go_simp; try with_reducible rfl)
  simp only [Act.put, List.setIfInBounds_toArray, List.set_cons_zero, List.set_cons_succ]
  refine wpAny_take (i := 3) (oi := ⟨some 28, _, _, _, _, _⟩) (v := ?_) rfl (by kernel_rfl) (by kernel_rfl) (by kernel_rfl) (fun _ _ _ h => h) (Or.inl ⟨by rfl, ?_⟩) ?_
  rotate_left 1
  · (intro w; go_simp; try with_reducible rfl)
  simp only [Act.put, List.setIfInBounds_toArray, List.set_cons_zero, List.set_cons_succ]
  refine wpAny_take (i := 5) (oi := ⟨some 30, _, _, _, _, _⟩) (v := ?_) rfl (by kernel_rfl) (by kernel_rfl) (by kernel_rfl) (fun _ _ _ h => h) (Or.inl ⟨by rfl, ?_⟩) ?_
  rotate_left 1
  · (intro w; go_simp; try with_reducible rfl)
  simp only [Act.put, List.setIfInBounds_toArray, List.set_cons_zero, List.set_cons_succ]
  refine wpAny_take (i := 6) (oi := ⟨some 31, _, _, _, _, _⟩) (v := ?_) rfl (by kernel_rfl) (by kernel_rfl) (by kernel_rfl) (fun _ _ _ h => h) (Or.inl ⟨by rfl, ?_⟩) ?_
  rotate_left 1
  · (intro w; go_simp; try with_reducible rfl)
  simp only [Act.put, List.setIfInBounds_toArray, List.set_cons_zero, List.set_cons_succ]
  refine wpAny_take (i := 7) (oi := ⟨some 32, _, _, _, _, _⟩) (v := ?_) rfl (by kernel_rfl) (by kernel_rfl) (by kernel_rfl) (fun _ _ _ h => h) (Or.inl ⟨by rfl, ?_⟩) ?_
  rotate_left 1
  · (intro w; go_simp; try with_reducible rfl)
  simp only [Act.put, List.setIfInBounds_toArray, List.set_cons_zero, List.set_cons_succ]
  refine wpAny_ready (rs := [4, 8]) (by kernel_rfl) (by simp) ?_
  refine AllReady.cons (o := ⟨some 29, _, _, _, _, _⟩) rfl (fun K hK => ?_) (AllReady.cons (o := ⟨some 33, _, _, _, _, _⟩) rfl (fun K hK => ?_) AllReady.nil)
  · go_simp
    refine hK _ _ ?_
    clear hK K
    refine wpAny_ready (rs := [8]) (by kernel_rfl) (by simp) ?_
    refine AllReady.cons (o := ⟨some 33, _, _, _, _, _⟩) rfl (fun K hK => ?_) AllReady.nil
    go_simp
    refine hK _ _ ?_
    clear hK K
    refine wpAny_take (i := 9) (oi := ⟨some 34, _, _, _, _, _⟩) (v := ?_) rfl (by kernel_rfl) (by kernel_rfl) (by kernel_rfl) (fun _ _ _ h => h) (Or.inl ⟨by rfl, ?_⟩) ?_
    rotate_left 1
    · (intro w; go_simp; try with_reducible rfl)
    simp only [Act.put, List.setIfInBounds_toArray, List.set_cons_zero, List.set_cons_succ]
    refine wpAny_take (i := 10) (oi := ⟨some 35, _, _, _, _, _⟩) (v := ?_) rfl (by kernel_rfl) (by kernel_rfl) (by kernel_rfl) (fun _ _ _ h => h) (Or.inl ⟨by rfl, ?_⟩) ?_
    rotate_left 1
    · (intro w; go_simp; try with_reducible rfl)
    simp only [Act.put, List.setIfInBounds_toArray, List.set_cons_zero, List.set_cons_succ]
    refine wpAny_take (i := 11) (oi := ⟨some 36, _, _, _, _, _⟩) (v := ?_) rfl (by kernel_rfl) (by kernel_rfl) (by kernel_rfl) (fun _ _ _ h => h) (Or.inl ⟨by rfl, ?_⟩) ?_
    rotate_left 1
    · (intro w; go_simp; try with_reducible rfl)
    simp only [Act.put, List.setIfInBounds_toArray, List.set_cons_zero, List.set_cons_succ]
    refine wpAny_ready (rs := [12]) (by kernel_rfl) (by simp) ?_
    refine AllReady.cons (o := ⟨none, _, _, _, _, _⟩) rfl (fun K hK => ?_) AllReady.nil
    go_simp
    generalize World.setCell _ _ _ = w3 at *
    refine hK _ _ ?_
    clear hK K
    refine wpAny_done (by kernel_rfl) ?_ _
    go_wp2
    go_end0
    exact ⟨rfl, After.below HA2.out ⟨rfl, rfl, rfl, Nat.le_refl _, fun _ _ => rfl⟩⟩
  · go_simp
    refine hK _ _ ?_
    clear hK K
    refine wpAny_ready (rs := [4]) (by kernel_rfl) (by simp) ?_
    refine AllReady.cons (o := ⟨some 29, _, _, _, _, _⟩) rfl (fun K hK => ?_) AllReady.nil
    go_simp
    refine hK _ _ ?_
    clear hK K
    refine wpAny_take (i := 9) (oi := ⟨some 34, _, _, _, _, _⟩) (v := ?_) rfl (by kernel_rfl) (by kernel_rfl) (by kernel_rfl) (fun _ _ _ h => h) (Or.inl ⟨by rfl, ?_⟩) ?_
    rotate_left 1
    · (intro w; go_simp; try with_reducible rfl)
    simp only [Act.put, List.setIfInBounds_toArray, List.set_cons_zero, List.set_cons_succ]
    refine wpAny_take (i := 10) (oi := ⟨some 35, _, _, _, _, _⟩) (v := ?_) rfl (by kernel_rfl) (by kernel_rfl) (by kernel_rfl) (fun _ _ _ h => h) (Or.inl ⟨by rfl, ?_⟩) ?_
    rotate_left 1
    · (intro w; go_simp; try with_reducible rfl)
    simp only [Act.put, List.setIfInBounds_toArray, List.set_cons_zero, List.set_cons_succ]
    refine wpAny_take (i := 11) (oi := ⟨some 36, _, _, _, _, _⟩) (v := ?_) rfl (by kernel_rfl) (by kernel_rfl) (by kernel_rfl) (fun _ _ _ h => h) (Or.inl ⟨by rfl, ?_⟩) ?_
    rotate_left 1
    · (intro w; go_simp; try with_reducible rfl)
    simp only [Act.put, List.setIfInBounds_toArray, List.set_cons_zero, List.set_cons_succ]
    refine wpAny_ready (rs := [12]) (by kernel_rfl) (by simp) ?_
    refine AllReady.cons (o := ⟨none, _, _, _, _, _⟩) rfl (fun K hK => ?_) AllReady.nil
    go_simp
    generalize World.setCell _ _ _ = w3 at *
    refine hK _ _ ?_
    clear hK K
    refine wpAny_done (by kernel_rfl) ?_ _
    go_wp2
    go_end0
    exact ⟨rfl, After.below HA2.out ⟨rfl, rfl, rfl, Nat.le_refl _, fun _ _ => rfl⟩⟩
set_option maxRecDepth 100000 in
set_option maxHeartbeats 4000000 in
theorem RUpTo_any (h : (rstT q L f b m).P w G) (mark : Int) {k : Nat} (hfl : f ≤ L.length) (hfew : L.length ≤ 100000) (hk : reach mark (L.take f) = k) {z : Int} (hz : z = if k = 0 then -1 else (k : Int)) : Calls Tryd.prog 16 #[.pointer (some ⟨q, 0, none⟩), .int .i64 mark] w fun e w' => e = .returned (.int .i64 z) ∧ w' = w := by
  obtain ⟨A, n, c, _, hn, hnc, hcm, hs, _, _, c1, _, c3, _⟩ := Rst.view h
  have hT : (L.take f).length = f := by rw [List.length_take]; omega
  have Hs := hide (show Src w A (rcels (L.take f)) by rw [← rcels_take]; exact Lk.Src.take hs _)
  generalize L.take f = M at *
  have HT := hide hT
  have Hk := hide hk
  have Hz := hide hz
  have hfi : (f : Int) ≤ 100000 := by omega
  have hfn : f ≤ n := by omega
  have hfn' : (f : Int) ≤ (n : Int) := by omega
  clear h hn hcm hs hfl hfew hT hk hz
  go_enter Tryd.func16, Tryd.ntmps16
  go_wp2_with fail
  go_loop [5] (fun j => ∃ x : Nat, x ≤ f ∧ j = .int .i64 (x : Int) ∧ Hid (∀ i y, i < x → M[i]? = some y → ¬ (y.k = 2 ∧ y.m = mark))) (fun j => f - (intOf j).toNat)
  case atStart => exact ⟨0, Nat.zero_le _, rfl, fun i y hi => absurd hi (Nat.not_lt_zero _)⟩
  case round =>
    obtain ⟨x, hx, rfl, hno⟩ := hrel
    rcases Nat.lt_or_ge x f with hlt | hge
    · have Hlt := hide hlt
      have hxi : (x : Int) < (f : Int) := by omega
      have hxn : (x : Int) < (n : Int) := by omega
      have hxn' : x < n := by omega
      obtain ⟨r, hr⟩ : ∃ r, M[x]? = some r := ⟨_, List.getElem?_eq_getElem (by rw [HT.out]; exact hlt)⟩
      obtain ⟨g, o, rfl, _, d0, d1, d2, d3, d4⟩ := Src.rcd Hs.out hr
      have HR := hide hr
      by_cases hit : r.k = 2 ∧ r.m = mark
      · have HI : Hid (z = ((x : Int) + 1)) := by
          have h1 := reach_some mark M x r hr hit hno.out
          have h2 := Hz.out
          rw [Hk.out] at h1
          rw [if_neg (by omega), h1] at h2
          show z = _
          omega
        rw [hit.1] at d1
        rw [hit.2] at d4
        have e3 : IntKind.i64.wrap ((x : Int) + 1) = (x : Int) + 1 := wrap_id (by omega) (by omega)
        clear hr hno hlt hit hx
        go_wp2
        go_ret
        exact ⟨by rw [HI.out]; rfl, rfl⟩
      · have HI : Hid (∀ i y, i < x + 1 → M[i]? = some y → ¬ (y.k = 2 ∧ y.m = mark)) := fun i y hi hy => by
          rcases Nat.lt_or_ge i x with h1 | h1
          · exact hno.out i y h1 hy
          · obtain rfl : i = x := by omega
            obtain rfl : r = y := by rw [HR.out] at hy; simpa using hy
            exact hit
        by_cases hk2 : r.k = 2
        · have hm : (r.m == mark) = false := by simpa using fun e => hit ⟨hk2, e⟩
          rw [hk2] at d1
          clear hr hno hlt hit hx hk2
          go_wp2
          go_round
          case rel => exact ⟨x + 1, Hlt.out, by go_num, HI.out⟩
          case measure => have := Hlt.out; simp [intOf]; omega
        · have hk3 : (r.k == 2) = false := by simpa using hk2
          clear hr hno hlt hit hx hk2
          go_wp2
          go_round
          case rel => exact ⟨x + 1, Hlt.out, by go_num, HI.out⟩
          case measure => have := Hlt.out; simp [intOf]; omega
    · obtain rfl : x = f := by omega
      have HI : Hid (z = -1) := by
        have h1 := reach_none mark M fun r hr => by
          obtain ⟨i, hi⟩ := List.mem_iff_getElem?.1 hr
          have := (List.getElem?_eq_some_iff.1 hi).1
          exact hno.out i r (by have := HT.out; omega) hi
        have h2 := Hz.out
        rw [Hk.out] at h1
        rw [if_pos h1] at h2
        exact h2
      clear hno hge hx
      go_wp2
      go_ret
      exact ⟨by rw [HI.out]; rfl, rfl⟩
set_option maxRecDepth 100000 in
set_option maxHeartbeats 4000000 in
theorem RMarks_any (h : (rstT q L f b m).P w G) (hfl : f ≤ L.length) (hfew : L.length ≤ 100000) : Calls Tryd.prog 27 #[.pointer (some ⟨q, 0, none⟩)] w fun e w' => ∃ v, e = .returned v ∧ Ints w' w.heap.size v (marks (L.take f)) ∧ Below w.heap.size w w' := by
  obtain ⟨A, n, c, _, hn, hnc, hcm, hs, hq, _, c1, _, c3, _⟩ := Rst.view h
  have hT : (L.take f).length = f := by rw [List.length_take]; omega
  have Hs := hide (show Src w A (rcels (L.take f)) by rw [← rcels_take]; exact Lk.Src.take hs _)
  generalize L.take f = M at *
  have HT := hide hT
  have hfi : (f : Int) ≤ 100000 := by omega
  have hfn : f ≤ n := by omega
  have Hf := hide (show f ≤ 100000 by omega)
  have HC : Hid (∀ W, Below w.heap.size w W → W.cell? ⟨q, 1, none⟩ = some (.int .i64 (f : Int)) ∧ W.cell? ⟨q, 3, none⟩ = some (.slice A n c)) := fun W hW => ⟨(hW.cell (p := ⟨q, 1, none⟩) hq).trans c1, (hW.cell (p := ⟨q, 3, none⟩) hq).trans c3⟩
  have HB0 := hide (Below.refl w.heap.size w)
  clear h hn hcm hs hfl hfew hT hq c1 c3
  go_enter Tryd.func27, Tryd.ntmps27
  go_wp2_with fail
  go_loopw [3, 4] (fun v j wr => ∃ k : Nat, k ≤ f ∧ j = .int .i64 (k : Int) ∧ Hid (Ints wr w.heap.size v (marks (M.take k))) ∧ Hid (Below w.heap.size w wr)) (fun _ j _ => f - (intOf j).toNat)
  case atStart => exact ⟨0, Nat.zero_le _, rfl, ⟨ORow.nil _ _ _, fun k hk => by simp [Value.ownBlock] at hk⟩, HB0.out⟩
  case round =>
    obtain ⟨k, hk, rfl, hv, hb⟩ := hrel
    obtain ⟨c1, c3⟩ := HC.out wr hb.out
    rcases Nat.lt_or_ge k f with hlt | hge
    · have Hlt := hide hlt
      have hki : (k : Int) < (f : Int) := by omega
      have hkn : (k : Int) < (n : Int) := by omega
      have hkn' : k < n := by omega
      obtain ⟨r, hr⟩ : ∃ r, M[k]? = some r := ⟨_, List.getElem?_eq_getElem (by rw [HT.out]; exact hlt)⟩
      obtain ⟨g, o, rfl, hgl, hat⟩ := Src.rcd (Hs.out.below hb.out) hr
      have HT2 := hide (show marks (M.take (k + 1)) = marks (M.take k) ++ marks [r] by rw [List.take_add_one, hr]; exact marks_append _ _)
      obtain ⟨rs, rk, rb, rd, rm⟩ := r
      obtain ⟨d0, d1, d2, d3, d4⟩ := hat
      obtain ⟨z, hz⟩ : ∃ z, (marks (M.take k)).length = z := ⟨_, rfl⟩
      have hz1 : z ≤ k := by
        have := marks_len (M.take k)
        rw [hz, List.length_take] at this
        omega
      obtain ⟨VA, vc, rfl, _, _, _⟩ := hv.out.form
      by_cases h2 : rk = 2
      · subst h2
        have hb5 : Below wr.heap.size wr (wr.alloc (.cells #[.int .i64 rm] 3)) := (Below.refl _ _).alloc (Nat.le_refl _) _
        have hvr := (hv.out.below hb5).row
        rw [hz] at hvr ⊢
        have HO := hide hvr
        have HM : Hid (Src (wr.alloc (.cells #[.int .i64 rm] 3)) (some ⟨wr.heap.size, 0, none⟩) (nums [rm])) := (Made.row (Below.refl _ wr) #[.int .i64 rm] 3).src
        have HG : Hid (∀ (W2 : World) (v2 : Value), Grown (wr.alloc (.cells #[.int .i64 rm] 3)) 3 1 (.slice VA z vc) (z + 1) (nums (marks (M.take k)) ++ nums [rm]) v2 W2 → Ints W2 w.heap.size v2 (marks (M.take (k + 1))) ∧ Below w.heap.size w W2) := fun W2 v2 hg => by
          have hkp := hg.kept (G := fun i => w.heap.size ≤ i) hb5 (fun i hi => hv.out.own i (by rw [hz]; exact hi))
          refine ⟨⟨?_, fun i hi => ?_⟩, hb.out.trans (hkp.below (fun _ h => h) hb.out.size)⟩
          · rw [HT2.out]
            have := hg.row
            simpa [nums, marks, hz] using this
          · rcases hg.own i hi with h1 | h1
            · exact hv.out.own i (by rw [hz]; exact h1)
            · have := hb5.size
              have := hb.out.size
              omega
        have Hm1 := hide (show z + 1 ≤ maxLen by have := Hf.out; unfold maxLen; omega)
        have Hm2 := hide (show (z + 1) * 8 ≤ 140737488355328 by have := Hf.out; omega)
        clear hvr hb5 hz hz1 hv hb hr hgl hlt HT2
        go_wp2_with (at_builtin; go_must (refine wpList_app app_int rfl (.tmp 22) (.tmp 31) rfl (.slice VA z vc) z (nums (marks (M.take k))) rfl HO.out _ 1 1 (nums [rm]) rfl rfl HM.out (fun u hu => by simp [nums] at hu; subst hu; rfl) (by decide) Hm1.out Hm2.out ?_))
        intro v2 W2 hg
        obtain ⟨hI, hB⟩ := HG.out _ _ hg.out
        have HI := hide hI
        have HB := hide hB
        clear hI hB hg HG HO HM
        go_wp2
        go_roundw
        case rel => exact ⟨k + 1, Hlt.out, by go_num, HI.out, HB.out⟩
        case measure => have := Hlt.out; simp [intOf]; omega
      · have h2' : (rk == 2) = false := by simpa using h2
        have HI := hide (show Ints wr w.heap.size (.slice VA (marks (M.take k)).length vc) (marks (M.take (k + 1))) by
          have e : marks (M.take (k + 1)) = marks (M.take k) := by rw [HT2.out]; simp [marks, h2]
          rw [e]
          exact hv.out)
        rw [hz] at HI ⊢
        clear hz hz1 hv hr hgl hlt HT2 h2
        go_wp2
        go_roundw
        case rel => exact ⟨k + 1, Hlt.out, by go_num, HI.out, hb.out⟩
        case measure => have := Hlt.out; simp [intOf]; omega
    · obtain rfl : k = f := by omega
      have HI := hide hv.out
      rw [List.take_of_length_le (by rw [HT.out]; exact Nat.le_refl _)] at HI
      clear hv hge hk
      go_wp2
      go_ret
      exact ⟨_, rfl, HI.out, hb.out⟩
set_option maxRecDepth 100000 in
set_option maxHeartbeats 1000000 in
theorem RDrop_none (h : (rstT q L f b m).P w G) (mark : Int) (hfl : f ≤ L.length) (hfew : L.length ≤ 100000) (hk : reach mark (L.take f) = 0) : Calls Tryd.prog 21 #[.pointer (some ⟨q, 0, none⟩), .int .i64 mark] w fun e w' => e = .returned (.int .i64 8) ∧ Below w.heap.size w w' := by
  have HR := hide (RUpTo_any h mark hfl hfew hk (z := -1) rfl)
  clear h hk
  go_enter Tryd.func21, Tryd.ntmps21
  go_wp2_with fail
  refine HR.out.mono ?_
  rintro e w2 ⟨rfl, hw⟩
  subst hw
  go_wp2
  go_ret
  exact ⟨rfl, Below.refl _ _⟩
set_option maxRecDepth 100000 in
set_option maxHeartbeats 4000000 in
theorem RDrop_ok (h : (rstT q L f b m).P w G) (mark : Int) {k : Nat} (hfl : f ≤ L.length) (hfew : L.length ≤ 100000) (hbb : b + L.length ≤ 1152921504606846975) (hk : reach mark (L.take f) = k) (h0 : 0 < k) : Calls Tryd.prog 21 #[.pointer (some ⟨q, 0, none⟩), .int .i64 mark] w fun e w' => e = .returned (.int .i64 0) ∧ After (rstT q (L.drop k) (f - k) (b + k) mark) w G w' := by
  have hkf : k ≤ f := by
    have := reach_le mark (L.take f)
    rw [hk, List.length_take] at this
    omega
  have HR := hide (RUpTo_any h mark hfl hfew hk (z := (k : Int)) (by rw [if_neg (by omega)]))
  obtain ⟨f', hf'⟩ : ∃ f', f - k = f' := ⟨_, rfl⟩
  obtain ⟨b', hb'⟩ : ∃ b', b + k = b' := ⟨_, rfl⟩
  rw [hf', hb']
  obtain ⟨A, n, c, hx, hn, hnc, hcm, hs, hq, c0, c1, c2, c3, fz⟩ := Rst.view h
  rw [← hn] at hfl hfew hbb
  have hkn : k ≤ n := by omega
  have h1 : After (rst1 q L f b mark (.slice A n c)) w G (w.setCell ⟨q, 2, none⟩ (.int .i64 mark)) := One.set hx 2 _
  have h2 : After (rst1 q L f b' mark (.slice A n c)) w G ((w.setCell ⟨q, 2, none⟩ (.int .i64 mark)).setCell ⟨q, 0, none⟩ (.int .i64 ((b' : Int) + 1))) := After.then h1 fun G1 hp => One.set hp 0 _
  have h3 : After (rst1 q L f' b' mark (.slice A n c)) w G (((w.setCell ⟨q, 2, none⟩ (.int .i64 mark)).setCell ⟨q, 0, none⟩ (.int .i64 ((b' : Int) + 1))).setCell ⟨q, 1, none⟩ (.int .i64 (f' : Int))) := After.then h2 fun G1 hp => One.set hp 1 _
  obtain ⟨W4, hW4⟩ : ∃ W4, (((w.setCell ⟨q, 2, none⟩ (.int .i64 mark)).setCell ⟨q, 0, none⟩ (.int .i64 ((b' : Int) + 1))).setCell ⟨q, 1, none⟩ (.int .i64 (f' : Int))) = W4 := ⟨_, rfl⟩
  rw [hW4] at h3
  obtain ⟨W5, hW5⟩ : ∃ W5, W4.alloc (.cells #[] 30) = W5 := ⟨_, rfl⟩
  have hb5 : Below W4.heap.size W4 W5 := by rw [← hW5]; exact (Below.refl _ _).alloc (Nat.le_refl _) _
  have hsz : W4.heap.size = w.heap.size := by rw [← hW4]; simp [World.setCell]
  have HO : Hid (ORow W5 30 5 (.slice (some ⟨w.heap.size, 0, none⟩) 0 0) 0 []) := by
    refine ⟨rfl, Or.inr ⟨w.heap.size, 0, 0, #[], rfl, ?_, Nat.le_refl _, Nat.zero_le _, by simp, rfl⟩⟩
    rw [← hW5, ← hsz]
    exact heap_alloc_new W4 _
  obtain ⟨G4, hp4, hg4, hk4⟩ := h3
  have hrow4 := One.row (show (oneT q (rbox f' b' mark (.slice A n c)) 37 30 5 (.slice A n c) L.length (rcels L)).P W4 G4 from hp4)
  rw [← hn] at hrow4
  obtain ⟨g, o, rfl, hgl, _⟩ := hs (by
    intro e
    have := rcels_len L
    rw [e, ← hn] at this
    simp at *
    omega)
  have HSr : Hid (Src W5 (some ⟨g, o + k * 5, none⟩) (rcels (L.drop k))) := by
    have := hrow4.cut (k := k) hkn rfl
    rw [rcels_drop] at this
    exact this.src.below hb5
  have HSr0 : Hid (n = k → rcels (L.drop k) = []) := fun e => by rw [List.drop_of_length_le (by omega)]; rfl
  have Hl : Hid ((rcels (L.drop k)).length = (n - k) * 5) := by show _ = _; rw [rcels_len, List.length_drop, hn]
  have HS : Hid (∀ v W6, Grown W5 30 5 (.slice (some ⟨w.heap.size, 0, none⟩) 0 0) (n - k) (rcels (L.drop k)) v W6 → W6.cell? ⟨q, 3, none⟩ = some (.slice (some ⟨g, o, none⟩) n c) ∧ W6.frozen? ⟨q, 3, none⟩ = false ∧ After (rstT q (L.drop k) f' b' mark) w G (W6.setCell ⟨q, 3, none⟩ v)) := fun v W6 hg => by
    obtain ⟨hb6, ho6⟩ := Grown.new hg hb5 (fun i hi => by
      have hi' : w.heap.size = i := by simpa [Value.ownBlock] using hi
      omega)
    have hr6 := hg.row
    obtain ⟨r1, r2⟩ := One.renew (show (oneT q (rbox f' b' mark (.slice (some ⟨g, o, none⟩) n c)) 37 30 5 (.slice (some ⟨g, o, none⟩) n c) L.length (rcels L)).P W4 G4 from hp4) hb6 hr6 ho6 3
    refine ⟨by rw [cell_of_row W6 q 3 _ _ _ r1]; rfl, by simp [World.frozen?, r1], Rst.of (X := v) (After.next hg4 hk4 ?_)⟩
    unfold rst1
    rw [List.length_drop, ← hn]
    exact r2
  have Hm1 := hide (show 0 + (n - k) ≤ maxLen by unfold maxLen; omega)
  have Hm2 := hide (show (0 + (n - k)) * 48 ≤ 140737488355328 by omega)
  have e1 : (f : Int) - (k : Int) = (f' : Int) := by omega
  have e2 : (b : Int) + 1 + (k : Int) = (b' : Int) + 1 := by omega
  have e3 : IntKind.i64.wrap (f' : Int) = (f' : Int) := wrap_id (by omega) (by omega)
  have e4 : IntKind.i64.wrap ((b' : Int) + 1) = (b' : Int) + 1 := wrap_id (by omega) (by omega)
  have e5 : c ≤ 9223372036854775807 := by unfold maxLen at hcm; omega
  have e6 : (k : Int) ≤ (n : Int) := by omega
  have e7 : (n : Int) ≤ (c : Int) := by omega
  have e8 : (k : Int) ≤ (c : Int) := by omega
  have e9 : k ≤ c := by omega
  have hk0 : ¬ (k : Int) < 0 := by omega
  have z0 := fz 0
  have z1 := fz 1
  have z2 := fz 2
  have z3 := fz 3
  have HW4 := hide hW4
  have HW5 := hide hW5
  have Hkn := hide hkn
  have Hnc := hide hnc
  by_cases hck : c = k
  · have Hnk : Hid (n = k) := by show n = k; omega
    clear h hx hn hnc hcm hs hfl hfew hbb hk h0 hkf hf' hb' h1 h2 hW4 hW5 hb5 hsz hp4 hg4 hk4 hrow4 hgl hkn fz
    subst hck
    go_enter Tryd.func21, Tryd.ntmps21
    go_wp2_with fail
    refine HR.out.mono ?_
    rintro e w2 ⟨rfl, hw⟩
    subst hw
    go_wp2_with (at_builtin; go_must (rw [HW4.out, HW5.out]; refine wpList_app app_rc rfl (.tmp 34) (.tmp 40) rfl (.slice (some ⟨w2.heap.size, 0, none⟩) 0 0) 0 [] rfl HO.out (some ⟨g, o, none⟩) (n - c) 0 (rcels (L.drop c)) rfl Hl.out (by rw [HSr0.out Hnk.out]; exact Lk.Src.none _ _) (rcels_ones _) (by decide) Hm1.out Hm2.out ?_))
    intro v W6 hg
    obtain ⟨s0, s1, s2⟩ := HS.out v W6 hg.out
    have HA := hide s2
    obtain ⟨A', c', rfl, _, _, _⟩ := hg.out.row.form
    clear s2 hg HS HO HSr Hl
    go_wp2
    go_ret
    exact ⟨rfl, HA.out⟩
  · clear h hx hn hnc hcm hs hfl hfew hbb hk h0 hkf hf' hb' h1 h2 hW4 hW5 hb5 hsz hp4 hg4 hk4 hrow4 hgl hkn fz
    go_enter Tryd.func21, Tryd.ntmps21
    go_wp2_with fail
    refine HR.out.mono ?_
    rintro e w2 ⟨rfl, hw⟩
    subst hw
    go_wp2_with (at_builtin; go_must (rw [HW4.out, HW5.out]; refine wpList_app app_rc rfl (.tmp 34) (.tmp 40) rfl (.slice (some ⟨w2.heap.size, 0, none⟩) 0 0) 0 [] rfl HO.out (some ⟨g, o + k * 5, none⟩) (n - k) (c - k) (rcels (L.drop k)) rfl Hl.out HSr.out (rcels_ones _) (by decide) Hm1.out Hm2.out ?_))
    intro v W6 hg
    obtain ⟨s0, s1, s2⟩ := HS.out v W6 hg.out
    have HA := hide s2
    obtain ⟨A', c', rfl, _, _, _⟩ := hg.out.row.form
    clear s2 hg HS HO HSr Hl
    go_wp2
    go_ret
    exact ⟨rfl, HA.out⟩
end

end Go.Proofs.YteneacmdfehfnaaDoor.Sg
