/-
  The contracts of Send and Deliver of a link of packets, which hold their message in a variable. Nothing but the link's own blocks is changed.
-/
import Derived.Deep.RegionHeld3
import Derived.Test.YtidojlagdodkkabLpOps
namespace Go.Proofs.Ytidojlagdodkkab.Lp
open Go.RowKit
open Pk Dk Wn Lk

theorem box_pkt {w w1 : World} {q : Int × Int} (h : w1 = w.alloc (.cells #[.int .i64 q.1, .int .i64 q.2] 33)) : Below w.heap.size w w1 ∧ w.heap.size < w1.heap.size ∧ w1.cell? ⟨w.heap.size, 0, none⟩ = some (.int .i64 q.1) ∧ w1.cell? ⟨w.heap.size, 1, none⟩ = some (.int .i64 q.2) := by
  have hq : w1.heap[w.heap.size]? = some (.cells #[.int .i64 q.1, .int .i64 q.2] 33 (0, 0)) := by rw [h]; exact heap_alloc_new w _
  refine ⟨by rw [h]; exact (Below.refl _ _).alloc (Nat.le_refl _) _, by rw [h]; simp, ?_, ?_⟩
  · rw [cell_of_row w1 _ 0 _ _ _ hq]; rfl
  · rw [cell_of_row w1 _ 1 _ _ _ hq]; rfl
section
variable {w : World} {G : Nat → Prop} {p R : Nat} {C : Bool} {L : List (Int × Int)}
set_option maxRecDepth 100000 in
theorem Send_full (h : Lnk p L R C w G) (hf : L.length = R) (x : Int × Int) : Calls Try.prog 8 #[.pointer (some ⟨p, 0, none⟩), .agg #[.int .i64 x.1, .int .i64 x.2]] w fun e w' => ∃ v, e = .returned v ∧ Below w.heap.size w w' := by
  have HH := hide h
  have hd : decide (R ≤ L.length) = true := by rw [hf]; simp
  have HD := hide hd
  obtain ⟨n, hn⟩ : ∃ n, L.length = n := ⟨_, rfl⟩
  have HN := hide hn
  clear h hf hd hn
  go_enter Try.func8, Try.ntmps8
  go_wp2_with (refine wpList_box_told rfl 33 (.tmp 1) rfl _ rfl ?_)
  intro w0 Hw0
  have HB0 := hide (box_pkt Hw0.out).1
  have HH0 := hide (HH.out.below HB0.out)
  clear Hw0
  go_wp2_with fail
  refine (full_any HH0.out).mono ?_
  rintro e w1 ⟨rfl, hb1⟩
  rw [HD.out]
  have HB1 := hide (HB0.out.trans (hb1.mono HB0.out.size))
  have HH1 := hide (HH0.out.below hb1)
  clear hb1
  go_wp2_with fail
  refine (Len_any HH1.out).mono ?_
  rintro e w2 ⟨rfl, hb2⟩
  rw [HN.out]
  have HB2 := hide (HB1.out.trans (hb2.mono HB1.out.size))
  clear hb2
  go_wp2_with fail
  refine (failed_any (n : Int) 6 w2 rfl).mono ?_
  rintro e w3 ⟨q, rfl, hf⟩
  have HF := hide (HB2.out.trans (hf.2.mono HB2.out.size))
  clear hf
  go_wp2
  go_ret
  exact ⟨_, rfl, HF.out⟩
set_option maxRecDepth 100000 in
set_option maxHeartbeats 2000000 in
theorem Send_ok (h : Lnk p L R C w G) (hf : L.length < R) (x : Int × Int) : Calls Try.prog 8 #[.pointer (some ⟨p, 0, none⟩), .agg #[.int .i64 x.1, .int .i64 x.2]] w fun e w' => ∃ v, e = .returned v ∧ After (lnkT p (L ++ [x]) R C) w G w' := by
  have HH := hide h
  have hd : decide (R ≤ L.length) = false := by simp; omega
  have HD := hide hd
  have Hf := hide hf
  clear h hf hd
  go_enter Try.func8, Try.ntmps8
  go_wp2_with (refine wpList_box_told rfl 33 (.tmp 1) rfl _ rfl ?_)
  intro w0 Hw0
  obtain ⟨hb0, hl0, z0, z1⟩ := box_pkt Hw0.out
  have HB0 := hide hb0
  have HH0 := hide (HH.out.below hb0)
  obtain ⟨Bo, hBo⟩ : ∃ Bo, w.heap.size = Bo := ⟨_, rfl⟩
  rw [hBo] at hl0 z0 z1 ⊢
  have HZ := hide (And.intro hl0 (And.intro z0 z1))
  clear Hw0 hb0 hl0 z0 z1 hBo
  go_wp2_with fail
  refine (full_any HH0.out).mono ?_
  rintro e w1 ⟨rfl, hb1⟩
  rw [HD.out]
  have HB1 := hide (HB0.out.trans (hb1.mono HB0.out.size))
  have HH1 := hide (HH0.out.below hb1)
  obtain ⟨A, m, c, hx, hm, _, _, _, c0, _, _, _⟩ := HH1.out.cells
  have hpl := hx.lt p hx.mine
  have hbo : Bo < w1.heap.size := Nat.lt_of_lt_of_le HZ.out.1 hb1.size
  have y0 : w1.cell? ⟨Bo, 0, none⟩ = some (.int .i64 x.1) := (hb1.cell (p := ⟨Bo, 0, none⟩) HZ.out.1).trans HZ.out.2.1
  have y1 : w1.cell? ⟨Bo, 1, none⟩ = some (.int .i64 x.2) := (hb1.cell (p := ⟨Bo, 1, none⟩) HZ.out.1).trans HZ.out.2.2
  have HC : Hid (∀ W : World, Below w1.heap.size w1 W → W.cell? ⟨p, 0, none⟩ = some (.slice A m c) ∧ W.cell? ⟨Bo, 0, none⟩ = some (.int .i64 x.1) ∧ W.cell? ⟨Bo, 1, none⟩ = some (.int .i64 x.2)) := fun W hW =>
    ⟨(hW.cell (p := ⟨p, 0, none⟩) hpl).trans c0, (hW.cell (p := ⟨Bo, 0, none⟩) hbo).trans y0, (hW.cell (p := ⟨Bo, 1, none⟩) hbo).trans y1⟩
  have HO : Hid (∀ W, Below w1.heap.size w1 W → ORow W 33 2 (.slice A m c) m (vals L)) := fun W hW => hx.row.below hW
  have Hm1 := hide (show m + 1 ≤ maxLen by have := Hf.out; have := HH1.out.room; unfold maxLen; omega)
  have Hm2 := hide (show (m + 1) * 16 ≤ 140737488355328 by have := Hf.out; have := HH1.out.room; omega)
  have HS := hide (fun (W W2 : World) (v : Value) (hW : Below w1.heap.size w1 W) (hg : Grown W 33 2 (.slice A m c) (m + 1) (vals L ++ cel x) v W2) => (⟨(hx.cell' (hx.p_same hW hg) 0), hx.frozen' (hx.p_same hW hg) 0, Lnk.of (L := L ++ [x]) (hx.put hW hg) (by rw [List.length_append, ← hm]; rfl) (by rw [vals_append, vals_one1]; rfl) (by rw [List.length_append]; exact Hf.out) HH1.out.room⟩ : W2.cell? ⟨p, 0, none⟩ = some (.slice A m c) ∧ W2.frozen? ⟨p, 0, none⟩ = false ∧ After (lnkT p (L ++ [x]) R C) w1 G (W2.setCell ⟨p, 0, none⟩ v)))
  have HBF : Hid (∀ w', After (lnkT p (L ++ [x]) R C) w1 G w' → After (lnkT p (L ++ [x]) R C) w G w') := fun w' hA => hA.from HB1.out
  have K0 : Hid (Below w1.heap.size w1 w1.drew) := (Below.refl _ _).drew
  clear hb1 hx hm c0 y0 y1 hpl hbo HZ
  go_wp2_with fail
  refine wp_region_any (by kernel_rfl) ?_
  change wpAny _ _ _ _ _ _ _ (World.drew _)
  generalize World.drew w1 = wd at *
  refine wpAny_take (i := 0) (oi := ⟨some 15, _, _, _, _, _⟩) (v := ?_) rfl (by kernel_rfl) (by kernel_rfl) (by kernel_rfl) (fun _ _ _ h => h) (Or.inl ⟨by rfl, ?_⟩) ?_
  rotate_left 1
  · (intro w; go_simp; try with_reducible rfl)
  simp only [Act.put, List.setIfInBounds_toArray, List.set_cons_zero, List.set_cons_succ]
  refine wpAny_take (i := 1) (oi := ⟨some 16, _, _, _, _, _⟩) (v := ?_) rfl (by kernel_rfl) (by kernel_rfl) (by kernel_rfl) (fun _ _ _ h => h) (Or.inl ⟨by rfl, ?_⟩) ?_
  rotate_left 1
  · (intro w; go_simp; try with_reducible rfl)
  simp only [Act.put, List.setIfInBounds_toArray, List.set_cons_zero, List.set_cons_succ]
  refine wpAny_take (i := 2) (oi := ⟨some 17, _, _, _, _, _⟩) (v := ?_) rfl (by kernel_rfl) (by kernel_rfl) (by kernel_rfl) (fun _ _ _ h => h) (Or.inl ⟨by rfl, ?_⟩) ?_
  rotate_left 1
  · (intro w; go_simp; try with_reducible rfl)
  simp only [Act.put, List.setIfInBounds_toArray, List.set_cons_zero, List.set_cons_succ]
  refine wpAny_take (i := 3) (oi := ⟨some 18, _, _, _, _, _⟩) (v := ?_) rfl (by kernel_rfl) (by kernel_rfl) (by kernel_rfl) (fun _ _ _ h => h) (Or.inl ⟨by rfl, ?_⟩) ?_
  rotate_left 1
  · (intro w; go_simp; try with_reducible rfl)
  simp only [Act.put, List.setIfInBounds_toArray, List.set_cons_zero, List.set_cons_succ]
  refine wpAny_ready (rs := [4, 5]) (by kernel_rfl) (by simp) ?_
  refine AllReady.cons (o := ⟨some 19, _, _, _, _, _⟩) rfl (fun K hK => ?_) (AllReady.cons (o := ⟨some 20, _, _, _, _, _⟩) rfl (fun K hK => ?_) AllReady.nil)
  · have hq := (HC.out _ K0.out).1
    go_simp
    clear hq
    refine hK _ _ ?_
    clear hK K
    refine wpAny_ready (rs := [5]) (by kernel_rfl) (by simp) ?_
    refine AllReady.cons (o := ⟨some 20, _, _, _, _, _⟩) rfl (fun K hK => ?_) AllReady.nil
    have hq := (HC.out _ K0.out).2.1
    have hq2 := (HC.out _ K0.out).2.2
    go_simp
    clear hq hq2
    refine hK _ _ ?_
    clear hK K
    refine wpAny_ready (rs := [6]) (by kernel_rfl) (by simp) ?_
    refine AllReady.cons (o := ⟨some 21, _, _, _, _, _⟩) rfl (fun K hK => ?_) AllReady.nil
    go_simp
    obtain ⟨hb, hsrc⟩ := made_msg K0.out x
    have HM := hide hsrc
    have K1 := hide hb
    clear hb hsrc
    generalize World.alloc _ _ = W1 at *
    refine hK _ _ ?_
    clear hK K
    refine wpAny_ready (rs := [7]) (by kernel_rfl) (by simp) ?_
    refine AllReady.cons (o := ⟨some 22, _, _, _, _, _⟩) rfl (fun K hK => ?_) AllReady.nil
    refine step_app app_el (by rfl) (.tmp 19) (.tmp 21) rfl (.slice A m c) m (vals L) rfl (HO.out _ K1.out) _ 1 1 (cel x) rfl rfl HM.out (cel_one _) (by decide) Hm1.out Hm2.out ?_
    intro v3 w3 hg
    obtain ⟨s0, s1, s2⟩ := HS.out _ _ _ K1.out hg.out
    have HA := hide (HBF.out _ s2)
    obtain ⟨A2, c2, rfl, _, _, _⟩ := hg.out.row.form
    clear hg s2
    refine hK _ _ ?_
    clear hK K
    refine wpAny_take (i := 8) (oi := ⟨some 23, _, _, _, _, _⟩) (v := ?_) rfl (by kernel_rfl) (by kernel_rfl) (by kernel_rfl) (fun _ _ _ h => h) (Or.inl ⟨by rfl, ?_⟩) ?_
    rotate_left 1
    · (intro w; go_simp; try with_reducible rfl)
    simp only [Act.put, List.setIfInBounds_toArray, List.set_cons_zero, List.set_cons_succ]
    refine wpAny_take (i := 9) (oi := ⟨some 24, _, _, _, _, _⟩) (v := ?_) rfl (by kernel_rfl) (by kernel_rfl) (by kernel_rfl) (fun _ _ _ h => h) (Or.inl ⟨by rfl, ?_⟩) ?_
    rotate_left 1
    · (intro w; go_simp; try with_reducible rfl)
    simp only [Act.put, List.setIfInBounds_toArray, List.set_cons_zero, List.set_cons_succ]
    refine wpAny_ready (rs := [10]) (by kernel_rfl) (by simp) ?_
    refine AllReady.cons (o := ⟨none, _, _, _, _, _⟩) rfl (fun K hK => ?_) AllReady.nil
    go_simp
    clear s0 s1
    generalize World.setCell _ _ _ = w4 at *
    refine hK _ _ ?_
    clear hK K
    refine wpAny_done (by kernel_rfl) ?_ _
    go_wp2
    go_ret
    exact ⟨_, rfl, HA.out⟩
  · have hq := (HC.out _ K0.out).2.1
    have hq2 := (HC.out _ K0.out).2.2
    go_simp
    clear hq hq2
    refine hK _ _ ?_
    clear hK K
    refine wpAny_ready (rs := [4, 6]) (by kernel_rfl) (by simp) ?_
    refine AllReady.cons (o := ⟨some 19, _, _, _, _, _⟩) rfl (fun K hK => ?_) (AllReady.cons (o := ⟨some 21, _, _, _, _, _⟩) rfl (fun K hK => ?_) AllReady.nil)
    · have hq := (HC.out _ K0.out).1
      go_simp
      clear hq
      refine hK _ _ ?_
      clear hK K
      refine wpAny_ready (rs := [6]) (by kernel_rfl) (by simp) ?_
      refine AllReady.cons (o := ⟨some 21, _, _, _, _, _⟩) rfl (fun K hK => ?_) AllReady.nil
      go_simp
      obtain ⟨hb, hsrc⟩ := made_msg K0.out x
      have HM := hide hsrc
      have K1 := hide hb
      clear hb hsrc
      generalize World.alloc _ _ = W1 at *
      refine hK _ _ ?_
      clear hK K
      refine wpAny_ready (rs := [7]) (by kernel_rfl) (by simp) ?_
      refine AllReady.cons (o := ⟨some 22, _, _, _, _, _⟩) rfl (fun K hK => ?_) AllReady.nil
      refine step_app app_el (by rfl) (.tmp 19) (.tmp 21) rfl (.slice A m c) m (vals L) rfl (HO.out _ K1.out) _ 1 1 (cel x) rfl rfl HM.out (cel_one _) (by decide) Hm1.out Hm2.out ?_
      intro v3 w3 hg
      obtain ⟨s0, s1, s2⟩ := HS.out _ _ _ K1.out hg.out
      have HA := hide (HBF.out _ s2)
      obtain ⟨A2, c2, rfl, _, _, _⟩ := hg.out.row.form
      clear hg s2
      refine hK _ _ ?_
      clear hK K
      refine wpAny_take (i := 8) (oi := ⟨some 23, _, _, _, _, _⟩) (v := ?_) rfl (by kernel_rfl) (by kernel_rfl) (by kernel_rfl) (fun _ _ _ h => h) (Or.inl ⟨by rfl, ?_⟩) ?_
      rotate_left 1
      · (intro w; go_simp; try with_reducible rfl)
      simp only [Act.put, List.setIfInBounds_toArray, List.set_cons_zero, List.set_cons_succ]
      refine wpAny_take (i := 9) (oi := ⟨some 24, _, _, _, _, _⟩) (v := ?_) rfl (by kernel_rfl) (by kernel_rfl) (by kernel_rfl) (fun _ _ _ h => h) (Or.inl ⟨by rfl, ?_⟩) ?_
      rotate_left 1
      · (intro w; go_simp; try with_reducible rfl)
      simp only [Act.put, List.setIfInBounds_toArray, List.set_cons_zero, List.set_cons_succ]
      refine wpAny_ready (rs := [10]) (by kernel_rfl) (by simp) ?_
      refine AllReady.cons (o := ⟨none, _, _, _, _, _⟩) rfl (fun K hK => ?_) AllReady.nil
      go_simp
      clear s0 s1
      generalize World.setCell _ _ _ = w4 at *
      refine hK _ _ ?_
      clear hK K
      refine wpAny_done (by kernel_rfl) ?_ _
      go_wp2
      go_ret
      exact ⟨_, rfl, HA.out⟩
    · go_simp
      obtain ⟨hb, hsrc⟩ := made_msg K0.out x
      have HM := hide hsrc
      have K1 := hide hb
      clear hb hsrc
      generalize World.alloc _ _ = W1 at *
      refine hK _ _ ?_
      clear hK K
      refine wpAny_ready (rs := [4]) (by kernel_rfl) (by simp) ?_
      refine AllReady.cons (o := ⟨some 19, _, _, _, _, _⟩) rfl (fun K hK => ?_) AllReady.nil
      have hq := (HC.out _ K1.out).1
      go_simp
      clear hq
      refine hK _ _ ?_
      clear hK K
      refine wpAny_ready (rs := [7]) (by kernel_rfl) (by simp) ?_
      refine AllReady.cons (o := ⟨some 22, _, _, _, _, _⟩) rfl (fun K hK => ?_) AllReady.nil
      refine step_app app_el (by rfl) (.tmp 19) (.tmp 21) rfl (.slice A m c) m (vals L) rfl (HO.out _ K1.out) _ 1 1 (cel x) rfl rfl HM.out (cel_one _) (by decide) Hm1.out Hm2.out ?_
      intro v3 w3 hg
      obtain ⟨s0, s1, s2⟩ := HS.out _ _ _ K1.out hg.out
      have HA := hide (HBF.out _ s2)
      obtain ⟨A2, c2, rfl, _, _, _⟩ := hg.out.row.form
      clear hg s2
      refine hK _ _ ?_
      clear hK K
      refine wpAny_take (i := 8) (oi := ⟨some 23, _, _, _, _, _⟩) (v := ?_) rfl (by kernel_rfl) (by kernel_rfl) (by kernel_rfl) (fun _ _ _ h => h) (Or.inl ⟨by rfl, ?_⟩) ?_
      rotate_left 1
      · (intro w; go_simp; try with_reducible rfl)
      simp only [Act.put, List.setIfInBounds_toArray, List.set_cons_zero, List.set_cons_succ]
      refine wpAny_take (i := 9) (oi := ⟨some 24, _, _, _, _, _⟩) (v := ?_) rfl (by kernel_rfl) (by kernel_rfl) (by kernel_rfl) (fun _ _ _ h => h) (Or.inl ⟨by rfl, ?_⟩) ?_
      rotate_left 1
      · (intro w; go_simp; try with_reducible rfl)
      simp only [Act.put, List.setIfInBounds_toArray, List.set_cons_zero, List.set_cons_succ]
      refine wpAny_ready (rs := [10]) (by kernel_rfl) (by simp) ?_
      refine AllReady.cons (o := ⟨none, _, _, _, _, _⟩) rfl (fun K hK => ?_) AllReady.nil
      go_simp
      clear s0 s1
      generalize World.setCell _ _ _ = w4 at *
      refine hK _ _ ?_
      clear hK K
      refine wpAny_done (by kernel_rfl) ?_ _
      go_wp2
      go_ret
      exact ⟨_, rfl, HA.out⟩
end

/-! ### Deliver -/
/-- A new variable of zeros, the world behind it under a name of its own. -/
theorem wpList_alloc_told {P : Program} {ops : Array Oper} {rest : List Oper} {o : Oper} {a : Act} {w : World} {Q : Exit → Act → World → Prop} (hg : o.guard = none) (t : TypeId) (ho : o.op = .alloc t)
    (z : Array Value) (hz : (P.info? t).map (·.zero) = some (some (.agg z)))
    (h : ∀ w', Hid (w' = w.alloc (.cells z t)) → wpList P ops Q rest (a.put o.dst (.pointer (some ⟨w.heap.size, 0, none⟩))) w') : wpList P ops Q (o :: rest) a w := by
  refine wpList_plain hg fun K hK => ?_
  cases hq : P.info? t with
  | none => simp [hq] at hz
  | some i =>
    have hz' : i.zero = some (.agg z) := by simpa [hq] using hz
    have hrun : (zeroValue t).run P w = .ok (.agg z) w := by simp [zeroValue, typeInfo, hq, hz']
    unfold Oper.wp execOp
    simp only [ho, Sem.run_bind, Instr.alloc, newVar, newRow, run_newObj_alloc, Sem.run_pure, Result.andThen_ok, hrun, Value.cells]
    exact hK _ _ (h _ rfl)
/-- A whole block written anew, likewise. -/
theorem wp_store_told {P : Program} {o : Oper} {a : Act} {w : World} {K : Act → World → Prop} {Q : Exit → Act → World → Prop} (ty : TypeId) (x y : Operand) (ho : o.op = .store ty x y)
    (b : Nat) (cs : Array Value) (hx : a.eval x = .pointer (some ⟨b, 0, none⟩)) (hy : a.eval y = .agg cs) (old : Array Value) (hb : w.heap[b]? = some (.cells old ty (0, 0)))
    (hi : (P.info? ty).map (·.size) = some cs.size) (hs : old.size = cs.size) (h1 : cs.all (·.oneCell') = true)
    (h : ∀ w', Hid (w' = w.setRow b cs) → K (a.put o.dst undef) w') : o.wp P a w K Q := by
  have hrun := run_storeVar_row (P := P) w b ty ty old cs hb hi hs h1
  unfold Oper.wp execOp
  simp only [ho, hx, hy, Instr.storeAt, Instr.sureAddr, Sem.run_bind, hrun, Sem.run_pure, Result.andThen_ok]
  exact h _ rfl
theorem wpList_store_told {P : Program} {ops : Array Oper} {rest : List Oper} {o : Oper} {a : Act} {w : World} {Q : Exit → Act → World → Prop} (hg : o.guard = none) (ty : TypeId) (x y : Operand) (ho : o.op = .store ty x y)
    (b : Nat) (cs : Array Value) (hx : a.eval x = .pointer (some ⟨b, 0, none⟩)) (hy : a.eval y = .agg cs) (old : Array Value) (hb : w.heap[b]? = some (.cells old ty (0, 0)))
    (hi : (P.info? ty).map (·.size) = some cs.size) (hs : old.size = cs.size) (h1 : cs.all (·.oneCell') = true)
    (h : ∀ w', Hid (w' = w.setRow b cs) → wpList P ops Q rest (a.put o.dst undef) w') : wpList P ops Q (o :: rest) a w :=
  wpList_plain hg fun _ hK => wp_store_told ty x y ho b cs hx hy old hb hi hs h1 fun w' hw => hK _ _ (h w' hw)
theorem step_store_told {P : Program} {ops : Array Oper} {o : Oper} {a : Act} {w : World} {K : Act → World → Prop} {Q : Exit → Act → World → Prop} {E : Prop} (hg : o.guard = none) (ty : TypeId) (x y : Operand) (ho : o.op = .store ty x y)
    (b : Nat) (cs : Array Value) (hx : a.eval x = .pointer (some ⟨b, 0, none⟩)) (hy : a.eval y = .agg cs) (old : Array Value) (hb : w.heap[b]? = some (.cells old ty (0, 0)))
    (hi : (P.info? ty).map (·.size) = some cs.size) (hs : old.size = cs.size) (h1 : cs.all (·.oneCell') = true)
    (h : ∀ w', Hid (w' = w.setRow b cs) → K (a.put o.dst undef) w') : if Region.wanted o (yielded ops a.tmps) = true then Oper.wp P o a w K Q else E := by
  have hw : Region.wanted o (yielded ops a.tmps) = true := by simp [Region.wanted, hg]
  rw [if_pos hw]
  exact wp_store_told ty x y ho b cs hx hy old hb hi hs h1 h
/-- Results of which the first one is a packet in memory. -/
theorem results_ct {P : Program} {fn : Func} {t p : Tmp} {ty : TypeId} (h : fn.results = #[.cell p ty, .tmp t]) (tmps : Array Value) (w : World) (g : Nat) (T : TypeId) (cs : Array Value) (fr : Nat × Nat) (d : TypeDesc)
    (hp : tmps.getD p undef = .pointer (some ⟨g, 0, none⟩)) (hg : w.heap[g]? = some (.cells cs T fr))
    (hu : P.underlying ty = some d) (hd : (match d with | .struct _ | .array _ _ => true | _ => false) = true) (hi : (P.info? ty).map (·.size) = some cs.size) :
    (results fn tmps).run P w = .ok (.tuple #[.agg cs, tmps.getD t undef]) w := by
  have hp' : tmps[p]?.getD undef = .pointer (some ⟨g, 0, none⟩) := by simpa using hp
  simp [results, h, hp', asAddr, run_loadVar_row w g T ty cs fr d hg hu hd hi]
theorem pk_size : (Try.prog.info? 33).map (·.size) = some 2 := by kernel_rfl
theorem pk_zero : (Try.prog.info? 33).map (·.zero) = some (some (.agg #[.int .i64 0, .int .i64 0])) := by kernel_rfl
abbrev pcs (q : Int × Int) : Array Value := #[.int .i64 q.1, .int .i64 q.2]
/-- A variable that holds a packet. -/
def Var (w : World) (b : Nat) (q : Int × Int) : Prop := w.heap[b]? = some (.cells (pcs q) 33 (0, 0))
theorem Var.lt {w : World} {b : Nat} {q : Int × Int} (h : Var w b q) : b < w.heap.size := (Array.getElem?_eq_some_iff.1 h).1
theorem Var.below {w w' : World} {b : Nat} {q : Int × Int} (h : Var w b q) (hb : Below w.heap.size w w') : Var w' b q := (hb.block b h.lt).trans h
theorem Var.cells {w : World} {b : Nat} {q : Int × Int} (h : Var w b q) : w.cell? ⟨b, 0, none⟩ = some (.int .i64 q.1) ∧ w.cell? ⟨b, 1, none⟩ = some (.int .i64 q.2) := by
  constructor
  · rw [cell_of_row w _ 0 _ _ _ h]; rfl
  · rw [cell_of_row w _ 1 _ _ _ h]; rfl
theorem Var.new {w w' : World} {q : Int × Int} (h : w' = w.alloc (.cells (pcs q) 33)) : Var w' w.heap.size q ∧ Below w.heap.size w w' := by
  subst h
  exact ⟨heap_alloc_new w _, (Below.refl _ _).alloc (Nat.le_refl _) _⟩
theorem Var.set {w w' : World} {b : Nat} {q q' : Int × Int} (h : Var w b q) (hw : w' = w.setRow b (pcs q')) : Var w' b q' := by
  subst hw
  exact setRow_heap w b _ _ _ _ h
theorem pcs_one (q : Int × Int) : (pcs q).all (·.oneCell') = true := all_oneCell_toArray (cs := [.int .i64 q.1, .int .i64 q.2]) (fun u hu => by
  simp at hu
  rcases hu with rfl | rfl <;> rfl)
theorem After.setRow {T : Thg} {w w5 w6 w7 : World} {G : Nat → Prop} {r : Nat} {cs : Array Value} (h : After T w5 G w6) (hb : Below w.heap.size w w5) (hG : ∀ k, G k → k < w.heap.size) (h1 : w.heap.size ≤ r) (h2 : r < w5.heap.size) (hw : w7 = w6.setRow r cs) : After T w G w7 := by
  subst hw
  obtain ⟨G', hp, hg, hk⟩ := h
  have hs := hb.size
  have hr : ¬ G' r := fun h3 => by
    rcases hg r h3 with h4 | h4
    · have := hG r h4; omega
    · omega
  have hk2 : Kept (· = r) w6 (w6.setRow r cs) := ⟨rfl, rfl, rfl, by simp, fun k _ hn => setRow_other _ _ _ _ hn⟩
  refine ⟨G', T.kept hp hk2 (fun k h3 e => hr (by rw [← e]; exact h3)), fun k h3 => (hg k h3).imp id (fun h4 => by omega), hk.os.trans hb.os, hk.tape.trans hb.tape, hk.output.trans hb.output, by have := hk.size; simp; omega, fun k h3 h4 => ?_⟩
  rw [setRow_other _ _ _ _ (by omega), hk.block k (by omega) h4, hb.block k h3]
theorem below_set {w w6 w7 : World} {r : Nat} {cs : Array Value} (hb : Below w.heap.size w w6) (h1 : w.heap.size ≤ r) (hw : w7 = w6.setRow r cs) : Below w.heap.size w w7 := by
  subst hw
  exact below_setRow hb h1 _
section
variable {w : World} {G : Nat → Prop} {p R : Nat} {L : List (Int × Int)}
set_option maxRecDepth 100000 in
set_option maxHeartbeats 2000000 in
theorem Deliver_none (h : Lnk p L R false w G) (i : Int) (hi : i < 0 ∨ (L.length : Int) ≤ i) : Calls Try.prog 9 #[.pointer (some ⟨p, 0, none⟩), .int .i64 i] w fun e w' => ∃ q, e = .returned (.tuple #[.agg #[.int .i64 0, .int .i64 0], .iface 62 (.pointer (some ⟨q, 0, none⟩))]) ∧ Below w.heap.size w w' := by
  have HH := hide h
  have Hi := hide hi
  clear h hi
  go_enter Try.func9, Try.ntmps9
  go_wp2_with (refine wpList_alloc_told rfl 33 rfl _ pk_zero ?_)
  intro w1 H1
  have HV1 := hide (Var.new (q := (0, 0)) H1.out)
  clear H1
  go_wp2_with (refine wpList_alloc_told rfl 33 rfl _ pk_zero ?_)
  intro w2 H2
  have HV2 := hide (Var.new (q := (0, 0)) H2.out)
  have HB2 := hide (HV1.out.2.trans (HV2.out.2.mono HV1.out.2.size))
  have HR2 := hide (HV1.out.1.below HV2.out.2)
  have HH2 := hide (HH.out.below HB2.out)
  obtain ⟨_, _, _, _, _, _, _, _, _, _, c2, _⟩ := HH2.out.cells
  obtain ⟨ro, hro⟩ : ∃ ro, w.heap.size = ro := ⟨_, rfl⟩
  obtain ⟨no, hno⟩ : ∃ no, w1.heap.size = no := ⟨_, rfl⟩
  have HRO := hide hro
  rw [hro] at HR2 ⊢
  rw [hno] at HV2 ⊢
  clear H2 hro hno HV1
  go_wp2_with fail
  refine (has_no HH2.out i Hi.out).mono ?_
  rintro e w3 ⟨rfl, hb3⟩
  have HB3 := hide (HB2.out.trans (hb3.mono HB2.out.size))
  have HR3 := hide (HR2.out.below hb3)
  have HN3 := hide (HV2.out.1.below hb3)
  have HC : Hid (∀ W : World, Below w3.heap.size w3 W → W.cell? ⟨no, 0, none⟩ = some (.int .i64 0) ∧ W.cell? ⟨no, 1, none⟩ = some (.int .i64 0)) := fun W hW => (HN3.out.below hW).cells
  have K0 : Hid (Below w3.heap.size w3 w3.drew) := (Below.refl _ _).drew
  clear hb3 HR2 HV2 c2
  go_wp2_with fail
  refine wp_region_any (by kernel_rfl) ?_
  change wpAny _ _ _ _ _ _ _ (World.drew _)
  generalize World.drew w3 = wd at *
  refine wpAny_take (i := 1) (oi := ⟨some 27, _, _, _, _, _⟩) (v := ?_) rfl (by kernel_rfl) (by kernel_rfl) (by kernel_rfl) (fun _ _ _ h => h) (Or.inl ⟨by rfl, ?_⟩) ?_
  rotate_left 1
  · (intro w; go_simp; try with_reducible rfl)
  simp only [Act.put, List.setIfInBounds_toArray, List.set_cons_zero, List.set_cons_succ]
  refine wpAny_ready (rs := [0, 2]) (by kernel_rfl) (by simp) ?_
  refine AllReady.cons (o := ⟨some 26, _, _, _, _, _⟩) rfl (fun K hK => ?_) (AllReady.cons (o := ⟨some 28, _, _, _, _, _⟩) rfl (fun K hK => ?_) AllReady.nil)
  · have hq := (HC.out _ K0.out).1
    have hq2 := (HC.out _ K0.out).2
    go_simp
    clear hq hq2
    refine hK _ _ ?_
    clear hK K
    refine wpAny_ready (rs := [2]) (by kernel_rfl) (by simp) ?_
    refine AllReady.cons (o := ⟨some 28, _, _, _, _, _⟩) rfl (fun K hK => ?_) AllReady.nil
    go_simp
    refine (failed_any i 5 _ rfl).mono ?_
    rintro e w4 ⟨q4, rfl, hf⟩
    have K1 := hide (K0.out.trans (hf.2.mono K0.out.size))
    clear hf
    refine hK _ _ ?_
    clear hK K
    refine wpAny_ready (rs := [3]) (by kernel_rfl) (by simp) ?_
    refine AllReady.cons (o := ⟨none, _, _, _, _, _⟩) rfl (fun K hK => ?_) AllReady.nil
    refine step_store_told (by rfl) 33 (.tmp 4) (.tmp 26) rfl ro (pcs (0, 0)) rfl rfl _ (HR3.out.below K1.out) pk_size rfl (pcs_one (0, 0)) ?_
    intro w5 H5
    have HV5 := hide (Var.set (q' := (0, 0)) (HR3.out.below K1.out) H5.out)
    have HB5 := hide (below_set (HB3.out.trans (K1.out.mono HB3.out.size)) (by rw [HRO.out]; exact Nat.le_refl _) H5.out)
    clear H5
    refine hK _ _ ?_
    clear hK K
    refine wpAny_take (i := 4) (oi := ⟨some 5, _, _, _, _, _⟩) (v := ?_) rfl (by kernel_rfl) (by kernel_rfl) (by kernel_rfl) (fun _ _ _ h => h) (Or.inl ⟨by rfl, ?_⟩) ?_
    rotate_left 1
    · (intro w; go_simp; try with_reducible rfl)
    simp only [Act.put, List.setIfInBounds_toArray, List.set_cons_zero, List.set_cons_succ]
    refine wpAny_done (by kernel_rfl) ?_ _
    clear HC K0 K1 HR3 HN3
    go_wp2
    refine bodyPost_ret (results_ct rfl _ _ ro 33 _ (0, 0) _ rfl (show _ from HV5.out) Try.underlying33 rfl pk_size) rfl ?_
    exact ⟨_, rfl, HB5.out⟩
  · go_simp
    refine (failed_any i 5 _ rfl).mono ?_
    rintro e w4 ⟨q4, rfl, hf⟩
    have K1 := hide (K0.out.trans (hf.2.mono K0.out.size))
    clear hf
    refine hK _ _ ?_
    clear hK K
    refine wpAny_ready (rs := [0]) (by kernel_rfl) (by simp) ?_
    refine AllReady.cons (o := ⟨some 26, _, _, _, _, _⟩) rfl (fun K hK => ?_) AllReady.nil
    have hq := (HC.out _ K1.out).1
    have hq2 := (HC.out _ K1.out).2
    go_simp
    clear hq hq2
    refine hK _ _ ?_
    clear hK K
    refine wpAny_ready (rs := [3]) (by kernel_rfl) (by simp) ?_
    refine AllReady.cons (o := ⟨none, _, _, _, _, _⟩) rfl (fun K hK => ?_) AllReady.nil
    refine step_store_told (by rfl) 33 (.tmp 4) (.tmp 26) rfl ro (pcs (0, 0)) rfl rfl _ (HR3.out.below K1.out) pk_size rfl (pcs_one (0, 0)) ?_
    intro w5 H5
    have HV5 := hide (Var.set (q' := (0, 0)) (HR3.out.below K1.out) H5.out)
    have HB5 := hide (below_set (HB3.out.trans (K1.out.mono HB3.out.size)) (by rw [HRO.out]; exact Nat.le_refl _) H5.out)
    clear H5
    refine hK _ _ ?_
    clear hK K
    refine wpAny_take (i := 4) (oi := ⟨some 5, _, _, _, _, _⟩) (v := ?_) rfl (by kernel_rfl) (by kernel_rfl) (by kernel_rfl) (fun _ _ _ h => h) (Or.inl ⟨by rfl, ?_⟩) ?_
    rotate_left 1
    · (intro w; go_simp; try with_reducible rfl)
    simp only [Act.put, List.setIfInBounds_toArray, List.set_cons_zero, List.set_cons_succ]
    refine wpAny_done (by kernel_rfl) ?_ _
    clear HC K0 K1 HR3 HN3
    go_wp2
    refine bodyPost_ret (results_ct rfl _ _ ro 33 _ (0, 0) _ rfl (show _ from HV5.out) Try.underlying33 rfl pk_size) rfl ?_
    exact ⟨_, rfl, HB5.out⟩
set_option maxRecDepth 100000 in
set_option maxHeartbeats 2000000 in
theorem Deliver_ok (h : Lnk p L R false w G) (i : Nat) (x : Int × Int) (hi : L[i]? = some x) : Calls Try.prog 9 #[.pointer (some ⟨p, 0, none⟩), .int .i64 (i : Int)] w fun e w' => e = .returned (.tuple #[.agg #[.int .i64 x.1, .int .i64 x.2], .nilIface]) ∧ After (lnkT p (L.eraseIdx i) R false) w G w' := by
  have HH := hide h
  have hil := (List.getElem?_eq_some_iff.1 hi).1
  have Hi := hide hi
  have Hil := hide hil
  have HG := hide (Lnk.lt h)
  clear h hi hil
  go_enter Try.func9, Try.ntmps9
  go_wp2_with (refine wpList_alloc_told rfl 33 rfl _ pk_zero ?_)
  intro w1 H1
  have HV1 := hide (Var.new (q := (0, 0)) H1.out)
  clear H1
  go_wp2_with (refine wpList_alloc_told rfl 33 rfl _ pk_zero ?_)
  intro w2 H2
  have HV2 := hide (Var.new (q := (0, 0)) H2.out)
  have HB2 := hide (HV1.out.2.trans (HV2.out.2.mono HV1.out.2.size))
  have HR2 := hide (HV1.out.1.below HV2.out.2)
  have HH2 := hide (HH.out.below HB2.out)
  obtain ⟨_, _, _, _, _, _, _, _, _, _, c2, _⟩ := HH2.out.cells
  obtain ⟨ro, hro⟩ : ∃ ro, w.heap.size = ro := ⟨_, rfl⟩
  have HRO := hide hro
  rw [hro] at HR2 ⊢
  clear H2 hro HV1 HV2
  go_wp2_with fail
  refine (has_yes HH2.out i Hil.out).mono ?_
  rintro e w3 ⟨rfl, hb3⟩
  have HB3 := hide (HB2.out.trans (hb3.mono HB2.out.size))
  have HR3 := hide (HR2.out.below hb3)
  have HH3 := hide (HH2.out.below hb3)
  obtain ⟨A, n, c, _, hn, hnc, _, hs, c0, _, _, _⟩ := HH3.out.cells
  obtain ⟨g, o, rfl, _, hcell0, hcell1⟩ := Src.msg hs Hi.out
  have hin : i < n := by rw [hn]; exact Hil.out
  have hini : (i : Int) < (n : Int) := by omega
  clear hb3 hn hs c2 HR2
  go_wp2_with (refine wpList_alloc_told rfl 33 rfl _ pk_zero ?_)
  intro w4 H4
  have HV4 := hide (Var.new (q := (0, 0)) H4.out)
  have HB4 := hide (HB3.out.trans (HV4.out.2.mono HB3.out.size))
  have HR4 := hide (HR3.out.below HV4.out.2)
  have HL4 := hide HB3.out.size
  have HR3L := hide HR3.out.lt
  obtain ⟨xo, hxo⟩ : ∃ xo, w3.heap.size = xo := ⟨_, rfl⟩
  have HXO := hide hxo
  rw [hxo] at HV4 ⊢
  clear H4 hxo HR3 c0 hcell0 hcell1
  go_wp2_with (refine wpList_store_told rfl 33 (.tmp 7) (.tmp 35) rfl xo (pcs x) rfl rfl _ HV4.out.1 pk_size rfl (pcs_one x) ?_)
  intro w5 H5
  have HV5 := hide (HV4.out.1.set H5.out)
  have HB5 := hide (below_set HB4.out (by rw [← HXO.out]; exact HL4.out) H5.out)
  have HR5 : Hid (Var w5 ro (0, 0)) := by
    show w5.heap[ro]? = _
    rw [H5.out, setRow_other _ _ _ _ (fun e => by have h1 := HR3L.out; have h3 := HXO.out; omega)]
    exact HR4.out
  clear H5 HV4 HR4
  have HH5 := hide (HH.out.below HB5.out)
  go_wp2_with fail
  refine (remove_any HH5.out i Hil.out).mono ?_
  rintro e w6 ⟨rfl, hA⟩
  have HA := hide hA
  have HK6 : Hid (Var w6 xo x ∧ Var w6 ro (0, 0)) := by
    obtain ⟨G', hp, hg, hk⟩ := hA
    exact ⟨(hk.block xo HV5.out.lt (fun e => by have := HG.out xo e; have := HL4.out; have := HXO.out; omega)).trans HV5.out, (hk.block ro HR5.out.lt (fun e => by have := HG.out ro e; have := HRO.out; omega)).trans HR5.out⟩
  obtain ⟨x0, x1⟩ := HK6.out.1.cells
  clear hA HH5
  go_wp2_with (refine wpList_store_told rfl 33 (.tmp 4) (.tmp 39) rfl ro (pcs x) rfl rfl _ HK6.out.2 pk_size rfl (pcs_one x) ?_)
  intro w7 H7
  have HV7 := hide (HK6.out.2.set H7.out)
  have HA7 := hide (After.setRow HA.out HB5.out HG.out (by rw [HRO.out]; exact Nat.le_refl _) HR5.out.lt H7.out)
  clear H7 x0 x1 HA HK6
  go_wp2
  refine bodyPost_ret (results_ct rfl _ _ ro 33 _ (0, 0) _ rfl (show _ from HV7.out) Try.underlying33 rfl pk_size) rfl ?_
  exact ⟨rfl, HA7.out⟩
end

/-! ### Among other things -/
section
variable {w0 w : World} {Ts : List Thg} {i p R : Nat} {L : List (Int × Int)}
theorem New_st (h : St w0 Ts w) (r : Int) : Calls Try.prog 4 #[.int .i64 r] w fun e w' => ∃ p, e = .returned (.pointer (some ⟨p, 0, none⟩)) ∧ Hid (St w0 (Ts ++ [lnkT p [] (cap r) false]) w') := by
  refine (New_any r w).mono ?_
  rintro e w' ⟨rfl, hl, hb⟩
  exact ⟨_, rfl, h.add hb (T := lnkT w.heap.size [] (cap r) false) hl (fun k hk => by rw [hk]; exact Nat.le_refl _)⟩
/-- Some of the messages, and copies of some. -/
theorem Send_st (h : St w0 Ts w) (hi : Ts[i]? = some (lnkT p L R false)) (x : Int × Int) : Calls Try.prog 8 #[.pointer (some ⟨p, 0, none⟩), .agg #[.int .i64 x.1, .int .i64 x.2]] w fun e w' => ∃ v L', e = .returned v ∧ (∀ q ∈ L', q ∈ L ∨ q = x) ∧ St w0 (Ts.set i (lnkT p L' R false)) w' := by
  obtain ⟨G, hp, _, hs⟩ := St.opened h hi
  have hp' : Lnk p L R false w G := hp
  by_cases hf : L.length < R
  · refine (Send_ok hp' hf x).mono ?_
    rintro e w' ⟨v, rfl, hA⟩
    exact ⟨v, L ++ [x], rfl, fun q hq => by simpa using hq, hs _ _ hA⟩
  · refine (Send_full hp' (by have := hp'.len; omega) x).mono ?_
    rintro e w' ⟨v, rfl, hb⟩
    exact ⟨v, L, rfl, fun q hq => Or.inl hq, hs _ _ (hp'.after hb)⟩
theorem index_cases (L : List (Int × Int)) (j : Int) : (∃ (k : Nat) (x : Int × Int), j = (k : Int) ∧ L[k]? = some x) ∨ (j < 0 ∨ (L.length : Int) ≤ j) := by
  by_cases h : j < 0 ∨ (L.length : Int) ≤ j
  · exact Or.inr h
  · refine Or.inl ⟨j.toNat, L[j.toNat]'(by omega), by omega, List.getElem?_eq_getElem (by omega)⟩
theorem Deliver_st (h : St w0 Ts w) (hi : Ts[i]? = some (lnkT p L R false)) (j : Int) : Calls Try.prog 9 #[.pointer (some ⟨p, 0, none⟩), .int .i64 j] w fun e w' =>
    (∃ x L', x ∈ L ∧ (∀ q ∈ L', q ∈ L) ∧ e = .returned (.tuple #[.agg #[.int .i64 x.1, .int .i64 x.2], .nilIface]) ∧ Hid (St w0 (Ts.set i (lnkT p L' R false)) w')) ∨
    (∃ q, e = .returned (.tuple #[.agg #[.int .i64 0, .int .i64 0], .iface 62 (.pointer (some ⟨q, 0, none⟩))]) ∧ Below w.heap.size w w') := by
  obtain ⟨G, hp, _, hs⟩ := St.opened h hi
  rcases index_cases L j with ⟨k, x, rfl, hk⟩ | hj
  · refine (Deliver_ok hp k x hk).mono ?_
    rintro e w' ⟨rfl, hA⟩
    exact Or.inl ⟨x, L.eraseIdx k, List.mem_of_getElem? hk, fun q hq => List.mem_of_mem_eraseIdx hq, rfl, hs _ _ hA⟩
  · refine (Deliver_none hp j hj).mono ?_
    rintro e w' ⟨q, rfl, hb⟩
    exact Or.inr ⟨q, rfl, hb⟩
theorem Double_st (h : St w0 Ts w) (hi : Ts[i]? = some (lnkT p L R false)) (j : Int) : Calls Try.prog 13 #[.pointer (some ⟨p, 0, none⟩), .int .i64 j] w fun e w' => ∃ v L', e = .returned v ∧ (∀ q ∈ L', q ∈ L) ∧ St w0 (Ts.set i (lnkT p L' R false)) w' := by
  obtain ⟨G, hp, _, hs⟩ := St.opened h hi
  have hp' : Lnk p L R false w G := hp
  rcases index_cases L j with ⟨k, x, rfl, hk⟩ | hj
  · by_cases hf : L.length < R
    · refine (Double_ok hp' hf k x hk).mono ?_
      rintro e w' ⟨rfl, hA⟩
      refine ⟨_, L ++ [x], rfl, fun q hq => ?_, hs _ _ hA⟩
      rcases List.mem_append.1 hq with h1 | h1
      · exact h1
      · rw [List.mem_singleton.1 h1]; exact List.mem_of_getElem? hk
    · refine (Double_full hp' (by have := hp'.len; omega) k (List.getElem?_eq_some_iff.1 hk).1).mono ?_
      rintro e w' ⟨q, rfl, hF⟩
      exact ⟨_, L, rfl, fun _ hq => hq, hs _ _ (hp'.after hF.2)⟩
  · refine (Double_none hp' j hj).mono ?_
    rintro e w' ⟨q, rfl, hF⟩
    exact ⟨_, L, rfl, fun _ hq => hq, hs _ _ (hp'.after hF.2)⟩
theorem Drop_st (h : St w0 Ts w) (hi : Ts[i]? = some (lnkT p L R false)) (j : Int) : Calls Try.prog 12 #[.pointer (some ⟨p, 0, none⟩), .int .i64 j] w fun e w' => ∃ v L', e = .returned v ∧ (∀ q ∈ L', q ∈ L) ∧ St w0 (Ts.set i (lnkT p L' R false)) w' := by
  obtain ⟨G, hp, _, hs⟩ := St.opened h hi
  have hp' : Lnk p L R false w G := hp
  rcases index_cases L j with ⟨k, x, rfl, hk⟩ | hj
  · refine (Drop_ok hp' k (List.getElem?_eq_some_iff.1 hk).1).mono ?_
    rintro e w' ⟨rfl, hA⟩
    exact ⟨_, L.eraseIdx k, rfl, fun q hq => List.mem_of_mem_eraseIdx hq, hs _ _ hA⟩
  · refine (Drop_none hp' j hj).mono ?_
    rintro e w' ⟨q, rfl, hF⟩
    exact ⟨_, L, rfl, fun _ hq => hq, hs _ _ (hp'.after hF.2)⟩
end

end Go.Proofs.Ytidojlagdodkkab.Lp
