/-
  The contracts of drop and Ack of a sender, of Take and List of a receiver, of one that is nil too. Nothing but the blocks of the sender's, or of the receiver's own is changed.
-/
import Derived.Lib.SliceRun
import Derived.Test.YtidojlagdodkkabWiOps1
namespace Go.Proofs.Ytidojlagdodkkab.Wi
open Go.RowKit
open Pk Dk Wn

theorem wpList_box_told {P : Program} {ops : Array Oper} {rest : List Oper} {o : Oper} {a : Act} {w : World} {Q : Exit → Act → World → Prop} (hg : o.guard = none) (t : TypeId) (x : Operand) (ho : o.op = .box t x)
    (z : Array Value) (hz : a.eval x = .agg z)
    (h : ∀ w', Hid (w' = w.alloc (.cells z t)) → wpList P ops Q rest (a.put o.dst (.pointer (some ⟨w.heap.size, 0, none⟩))) w') : wpList P ops Q (o :: rest) a w := by
  refine wpList_plain hg fun K hK => ?_
  unfold Oper.wp execOp
  simp only [ho, hz, Sem.run_bind, Instr.box, newVar, newRow, run_newObj_alloc, Sem.run_pure, Result.andThen_ok, Value.cells]
  exact hK _ _ (h _ rfl)
/-! ### Ack -/
section
variable {w : World} {G : Nat → Prop} {p n a : Nat} {L : List Int}
/-- What drop leaves. -/
def Dropped (p n a k : Nat) (L : List Int) (w : World) (G : Nat → Prop) (w' : World) : Prop := ∃ G' X, BAt 26 3 1 p X (more n a) (L.length - (a + k)) (vals (L.drop (a + k))) w' G' ∧ Grew w G G' ∧ Kept G w w'
theorem dropped {g o m c k : Nat} {w1 : World} (hx : BAt 26 3 1 p (.slice (some ⟨g, o, none⟩) m c) (more n a) m (vals (L.drop a)) w G) (hm : m = L.length - a) (hk : k ≤ m) (hc : Cleared w g o (k * 1) w1) (v : Value) (hv : v = if c = k then .slice (some ⟨g, o, none⟩) 0 0 else .slice (some ⟨g, o + k, none⟩) (m - k) (c - k)) :
    w1.cell? ⟨p, 0, none⟩ = some (.slice (some ⟨g, o, none⟩) m c) ∧ w1.frozen? ⟨p, 0, none⟩ = false ∧ Dropped p n a k L w G (w1.setCell ⟨p, 0, none⟩ v) := by
  have hg : ∃ cur, w.heap[g]? = some (.cells cur 3 (0, 0)) := by
    rcases hx.row.2 with ⟨h0, _⟩ | ⟨g', o', cap, cur, h0, hg, _⟩
    · simp at h0
    · simp only [Value.slice.injEq, Option.some.injEq, Addr.mk.injEq] at h0
      obtain ⟨⟨rfl, _, _⟩, _, _⟩ := h0
      exact ⟨cur, hg⟩
  obtain ⟨cur, hg⟩ := hg
  have hk1 := hc.kept hg
  have hgG := hx.own g rfl
  have hK : Kept G w w1 := ⟨hk1.os, hk1.tape, hk1.output, hk1.size, fun i hi hn => hk1.block i hi fun e => hn (by rw [e]; exact hgG.1)⟩
  have hp : w1.heap[p]? = w.heap[p]? := hk1.block p (hx.lt p hx.mine) fun e => hgG.2 e.symm
  have hr := hx.row.cleared hk hc
  rw [Nat.mul_one, ← hv, vals_drop, List.drop_drop] at hr
  refine ⟨hx.cell' hp 0, hx.frozen' hp 0, ?_⟩
  have ho : ∀ i, v.ownBlock = some i → (Value.slice (some ⟨g, o, none⟩) m c).ownBlock = some i ∨ w.heap.size ≤ i := by
    intro i hi
    rw [hv] at hi
    split at hi
    · exact Or.inl hi
    · exact Or.inl hi
  obtain ⟨G', h1, h2, h3⟩ := hx.put0 hK hp hr ho
  exact ⟨G', v, by rw [show L.length - (a + k) = m - k by omega]; exact h1, h2, h3⟩

set_option maxRecDepth 100000 in
set_option maxHeartbeats 4000000 in
theorem drop_any (h : Snd p L n a w G) (k : Nat) (hk : 0 < k) (hkl : a + k ≤ L.length) : Calls Try.prog 24 #[.pointer (some ⟨p, 0, none⟩), .int .i64 (k : Int)] w fun e w' => e = .returned (.tuple #[]) ∧ Dropped p n a k L w G w' := by
  obtain ⟨A, m, c, hx, hm, hmc, hcm, hs, c0, _, _, _⟩ := h.cells
  have hkm : k ≤ m := by omega
  obtain ⟨g, o, rfl, hgl, _⟩ := hs (by
    intro e
    have := vals_len (L.drop a)
    rw [e, List.length_drop] at this
    simp at this
    omega)
  have hcx : c ≤ 9223372036854775807 := by unfold maxLen at hcm; omega
  have hkmi : (k : Int) ≤ (m : Int) := by omega
  have hmci : (m : Int) ≤ (c : Int) := by omega
  have hkci : (k : Int) ≤ (c : Int) := by omega
  have HR := hide hx.row
  have HD := hide (fun (w1 : World) (hc : Cleared w g o (k * 1) w1) => dropped hx hm hkm hc _ rfl)
  have Hk := hide hk
  have Hkm := hide hkm
  have hkc : k ≤ c := by omega
  by_cases he : c = k
  · have hmk : m = k := by omega
    subst he hmk
    obtain ⟨w1, hcl, hc⟩ := run_clear app_el one_el (by decide) w 0 HR.out Hk.out Hkm.out
    obtain ⟨s0, s1, s2⟩ := HD.out w1 hc
    rw [if_pos rfl] at s2
    have HA := hide s2
    clear s2 HD hc
    clear h hx hm hs hgl hcm
    go_enter Try.func24, Try.ntmps24
    go_wp2
    go_end0
    exact ⟨rfl, HA.out⟩
  · obtain ⟨w1, hcl, hc⟩ := run_clear app_el one_el (by decide) w 0 HR.out Hk.out Hkm.out
    obtain ⟨s0, s1, s2⟩ := HD.out w1 hc
    rw [if_neg he] at s2
    have HA := hide s2
    clear s2 HD hc
    clear h hx hm hs hgl hcm
    go_enter Try.func24, Try.ntmps24
    go_wp2
    go_end0
    exact ⟨rfl, HA.out⟩

set_option maxRecDepth 100000 in
theorem Ack_nil (k : Int) (w : World) : Calls Try.prog 10 #[.pointer none, .int .i64 k] w fun e w' => ∃ q, e = .returned (.iface 62 (.pointer (some ⟨q, 0, none⟩))) ∧ Fails w k 5 q w' := by
  go_enter Try.func10, Try.ntmps10
  go_wp2_with fail
  refine (failed_any k 5 w rfl).mono ?_
  rintro e w' ⟨q, rfl, hf⟩
  have HF := hide hf
  clear hf
  go_wp2
  go_ret
  exact ⟨_, rfl, HF.out⟩
set_option maxRecDepth 100000 in
theorem Ack_bad (h : Snd p L n a w G) (k : Int) (hk : k < 0 ∨ (n : Int) < k) : Calls Try.prog 10 #[.pointer (some ⟨p, 0, none⟩), .int .i64 k] w fun e w' => ∃ q, e = .returned (.iface 62 (.pointer (some ⟨q, 0, none⟩))) ∧ Fails w k 5 q w' := by
  obtain ⟨_, _, _, _, _, _, _, _, _, c1, _, _⟩ := h.cells
  clear h
  by_cases h1 : k < 0
  · clear hk
    go_enter Try.func10, Try.ntmps10
    go_wp2_with fail
    refine (failed_any k 5 w rfl).mono ?_
    rintro e w' ⟨q, rfl, hf⟩
    have HF := hide hf
    clear hf
    go_wp2
    go_ret
    exact ⟨_, rfl, HF.out⟩
  · have h2 : (n : Int) < k := by omega
    clear hk
    go_enter Try.func10, Try.ntmps10
    go_wp2_with fail
    refine (failed_any k 5 w rfl).mono ?_
    rintro e w' ⟨q, rfl, hf⟩
    have HF := hide hf
    clear hf
    go_wp2
    go_ret
    exact ⟨_, rfl, HF.out⟩
set_option maxRecDepth 100000 in
set_option maxHeartbeats 1000000 in
theorem Ack_ok (h : Snd p L n a w G) (k : Nat) (hk : k ≤ n) : Calls Try.prog 10 #[.pointer (some ⟨p, 0, none⟩), .int .i64 (k : Int)] w fun e w' => e = .returned .nilIface ∧ After (sndT p L n (max a k)) w G w' := by
  obtain ⟨_, _, _, hx0, _, _, _, _, _, c1, c2, _⟩ := h.cells
  have hpl := hx0.lt p hx0.mine
  have h0 : ¬ (k : Int) < 0 := by omega
  have h1 : ¬ (n : Int) < (k : Int) := by omega
  clear hx0
  by_cases hka : k ≤ a
  · have HA := hide (h.after (Below.refl w.heap.size w))
    have h2 : ¬ (a : Int) < (k : Int) := by omega
    rw [Nat.max_eq_left hka]
    clear h hk hka hpl
    go_enter Try.func10, Try.ntmps10
    go_wp2
    go_ret
    exact ⟨rfl, HA.out⟩
  · obtain ⟨d, hd⟩ : ∃ d, k = a + d := ⟨k - a, by omega⟩
    rw [Nat.max_eq_right (by omega)]
    have hd0 : 0 < d := by omega
    have h2 : (a : Int) < (k : Int) := by omega
    have h3 : (k : Int) - (a : Int) = (d : Int) := by omega
    have hf := h.few
    have hnl := h.nl
    have h4 : IntKind.i64.wrap (d : Int) = (d : Int) := wrap_id (by omega) (by omega)
    have HH := hide h
    have Hd := hide hd
    have Hd0 := hide hd0
    have Hnl := hide hnl
    have Hf := hide hf
    have Hk := hide hk
    clear h hd hd0 hnl hf hk hka hpl
    go_enter Try.func10, Try.ntmps10
    go_wp2_with fail
    refine (drop_any HH.out d Hd0.out (by have := Hd.out; have := Hk.out; have := Hnl.out; omega)).mono ?_
    rintro e w1 ⟨rfl, G1, X, hx, hg, hkp⟩
    have hc := hx.cell 2
    have hfz := hx.frozen 2
    have HS := hide (hx.set 1 (.int .i64 (k : Int)))
    have HGK := hide (And.intro hg hkp)
    clear hx hg hkp c1 c2
    go_wp2
    go_ret
    refine ⟨rfl, G1, ⟨⟨X, ?_⟩, Hk.out, Hnl.out, ?_, Hf.out⟩, HGK.out.1, HGK.out.2.trans HGK.out.1 HS.out.2⟩
    · unfold SAt
      rw [List.length_drop, Hd.out]
      have := HS.out.1
      rw [Hd.out] at this
      exact this
    · have := HH.out.win
      have := Hd.out
      omega
end

/-! ### A receiver -/
set_option maxRecDepth 100000 in
theorem Take_nil (k : Int) (x : Int) (w : World) : Calls Try.prog 11 #[.pointer none, .agg #[.int .i64 k, .int .i64 x]] w fun e w' => e = .returned (.int .i64 0) ∧ Below w.heap.size w w' := by
  go_enter Try.func11, Try.ntmps11
  go_wp2_with (refine wpList_box_told rfl 33 (.tmp 1) rfl _ rfl ?_)
  intro w1 Hw1
  have HB1 : Hid (Below w.heap.size w w1) := by rw [Hw1.out]; exact (Below.refl _ _).alloc (Nat.le_refl _) _
  clear Hw1
  go_wp2
  go_ret
  exact ⟨rfl, HB1.out⟩
section
variable {w : World} {G : Nat → Prop} {r : Nat} {T : List Int}
set_option maxRecDepth 100000 in
set_option maxHeartbeats 4000000 in
theorem Take_next (h : Rcv r T w G) (hf : T.length < 100000) (x : Int) : Calls Try.prog 11 #[.pointer (some ⟨r, 0, none⟩), .agg #[.int .i64 ((T.length : Int) + 1), .int .i64 x]] w fun e w' => e = .returned (.int .i64 ((T.length : Int) + 1)) ∧ After (rcvT r (T ++ [x])) w G w' := by
  obtain ⟨m, hm⟩ : ∃ m, T.length = m := ⟨_, rfl⟩
  have HT := hide hm
  have HH := hide h
  have Hf := hide hf
  rw [hm] at hf ⊢
  have hmi : (m : Int) ≤ 100000 := by omega
  have Hm1 := hide (show m + 1 ≤ maxLen by unfold maxLen; omega)
  have Hm2 := hide (show (m + 1) * 8 ≤ 140737488355328 by omega)
  clear h hf hm
  go_enter Try.func11, Try.ntmps11
  go_wp2_with (refine wpList_box_told rfl 33 (.tmp 1) rfl _ rfl ?_)
  intro w1 Hw1
  have HB1 : Hid (Below w.heap.size w w1) := by rw [Hw1.out]; exact (Below.refl _ _).alloc (Nat.le_refl _) _
  have hq : w1.heap[w.heap.size]? = some (.cells #[.int .i64 ((m : Int) + 1), .int .i64 x] 33 (0, 0)) := by rw [Hw1.out]; exact heap_alloc_new w _
  have hl1 : w.heap.size < w1.heap.size := by rw [Hw1.out]; simp
  have hq0 : w1.cell? ⟨w.heap.size, 0, none⟩ = some (.int .i64 ((m : Int) + 1)) := by rw [cell_of_row w1 _ 0 _ _ _ hq]; rfl
  have hq1 : w1.cell? ⟨w.heap.size, 1, none⟩ = some (.int .i64 x) := by rw [cell_of_row w1 _ 1 _ _ _ hq]; rfl
  obtain ⟨A, m', c, hx, hm', _, _, _, c0, _⟩ := (HH.out.below HB1.out).cells
  obtain rfl : m = m' := by rw [hm', HT.out]
  have hrl := hx.lt r hx.mine
  have HC : Hid (∀ W : World, Below w1.heap.size w1 W → W.cell? ⟨r, 0, none⟩ = some (.slice A m c) ∧ W.cell? ⟨w.heap.size, 1, none⟩ = some (.int .i64 x)) := fun W hW => ⟨(hW.cell (p := ⟨r, 0, none⟩) hrl).trans c0, (hW.cell (p := ⟨w.heap.size, 1, none⟩) hl1).trans hq1⟩
  have HO : Hid (∀ W, Below w1.heap.size w1 W → ORow W 3 1 (.slice A m c) m (vals T)) := fun W hW => hx.row.below hW
  have HS := hide (fun (W W2 : World) (v : Value) (hW : Below w1.heap.size w1 W) (hg : Grown W 3 1 (.slice A m c) (m + 1) (vals T ++ vals [x]) v W2) => (⟨(hx.cell' (hx.p_same hW hg) 0), hx.frozen' (hx.p_same hW hg) 0, by
    obtain ⟨G', h1, h2, h3⟩ := hx.put hW hg
    refine ⟨G', ⟨⟨v, ?_⟩, ?_⟩, h2, h3⟩
    · rw [List.length_append, HT.out, vals_append]; exact h1
    · rw [List.length_append]; have := Hf.out; simp; omega⟩ : W2.cell? ⟨r, 0, none⟩ = some (.slice A m c) ∧ W2.frozen? ⟨r, 0, none⟩ = false ∧ After (rcvT r (T ++ [x])) w1 G (W2.setCell ⟨r, 0, none⟩ v)))
  clear Hw1 hq hx hm' hrl hl1
  go_wp2_with fail
  go_quiet (fail)
  have K0 : Hid (Below w1.heap.size w1 _) := (⟨rfl, rfl, rfl, Nat.le_refl _, fun _ _ => rfl⟩ : Below w1.heap.size w1 (w1.drewN nq).drew)
  clear c0 hq0 hq1
  go_wp2_with fail
  refine wp_region_any (by kernel_rfl) ?_
  change wpAny _ _ _ _ _ _ _ (World.drew _)
  generalize World.drew _ = wd at *
  refine wpAny_take (i := 0) (oi := ⟨some 16, _, _, _, _, _⟩) (v := ?_) rfl (by kernel_rfl) (by kernel_rfl) (by kernel_rfl) (fun _ _ _ h => h) (Or.inl ⟨by rfl, ?_⟩) ?_
  rotate_left 1
  · (intro w; go_simp; try with_reducible rfl)
  simp only [Act.put, List.setIfInBounds_toArray, List.set_cons_zero, List.set_cons_succ]
  refine wpAny_take (i := 1) (oi := ⟨some 17, _, _, _, _, _⟩) (v := ?_) rfl (by kernel_rfl) (by kernel_rfl) (by kernel_rfl) (fun _ _ _ h => h) (Or.inl ⟨by rfl, ?_⟩) ?_
  rotate_left 1
  · (intro w; go_simp; try with_reducible rfl)
  simp only [Act.put, List.setIfInBounds_toArray, List.set_cons_zero, List.set_cons_succ]
  refine wpAny_take (i := 2) (oi := ⟨some 18, _, _, _, _, _⟩) (v := ?_) rfl (by kernel_rfl) (by kernel_rfl) (by kernel_rfl) (fun _ _ _ h => h) (Or.inl ⟨by rfl, ?_⟩) ?_
  rotate_left 1
  · (intro w; go_simp; try with_reducible rfl)
  simp only [Act.put, List.setIfInBounds_toArray, List.set_cons_zero, List.set_cons_succ]
  refine wpAny_take (i := 3) (oi := ⟨some 19, _, _, _, _, _⟩) (v := ?_) rfl (by kernel_rfl) (by kernel_rfl) (by kernel_rfl) (fun _ _ _ h => h) (Or.inl ⟨by rfl, ?_⟩) ?_
  rotate_left 1
  · (intro w; go_simp; try with_reducible rfl)
  simp only [Act.put, List.setIfInBounds_toArray, List.set_cons_zero, List.set_cons_succ]
  refine wpAny_take (i := 5) (oi := ⟨some 21, _, _, _, _, _⟩) (v := ?_) rfl (by kernel_rfl) (by kernel_rfl) (by kernel_rfl) (fun _ _ _ h => h) (Or.inl ⟨by rfl, ?_⟩) ?_
  rotate_left 1
  · (intro w; go_simp; try with_reducible rfl)
  simp only [Act.put, List.setIfInBounds_toArray, List.set_cons_zero, List.set_cons_succ]
  refine wpAny_ready (rs := [4, 6]) (by kernel_rfl) (by simp) ?_
  refine AllReady.cons (o := ⟨some 20, _, _, _, _, _⟩) rfl (fun K hK => ?_) (AllReady.cons (o := ⟨some 22, _, _, _, _, _⟩) rfl (fun K hK => ?_) AllReady.nil)
  · have hq := (HC.out _ K0.out).1
    go_simp
    clear hq
    refine hK _ _ ?_
    clear hK K
    refine wpAny_ready (rs := [6]) (by kernel_rfl) (by simp) ?_
    refine AllReady.cons (o := ⟨some 22, _, _, _, _, _⟩) rfl (fun K hK => ?_) AllReady.nil
    have hq := (HC.out _ K0.out).2
    go_simp
    clear hq
    refine hK _ _ ?_
    clear hK K
    refine wpAny_ready (rs := [7]) (by kernel_rfl) (by simp) ?_
    refine AllReady.cons (o := ⟨some 23, _, _, _, _, _⟩) rfl (fun K hK => ?_) AllReady.nil
    go_simp
    have HM := hide (Made.el K0.out x)
    have K1 := hide HM.out.bel
    generalize World.alloc _ _ = W1 at *
    refine hK _ _ ?_
    clear hK K
    refine wpAny_ready (rs := [8]) (by kernel_rfl) (by simp) ?_
    refine AllReady.cons (o := ⟨some 24, _, _, _, _, _⟩) rfl (fun K hK => ?_) AllReady.nil
    refine step_app app_el (by rfl) (.tmp 20) (.tmp 23) rfl (.slice A m c) m (vals T) rfl (HO.out _ K1.out) _ 1 1 (vals [x]) rfl rfl HM.out.src (vals_one _) (by decide) Hm1.out Hm2.out ?_
    intro v2 w2 hg
    obtain ⟨s0, s1, s2⟩ := HS.out _ _ _ K1.out hg.out
    have HA := hide s2
    obtain ⟨A2, c2, rfl, _, _, _⟩ := hg.out.row.form
    clear hg s2
    refine hK _ _ ?_
    clear hK K
    refine wpAny_take (i := 9) (oi := ⟨some 25, _, _, _, _, _⟩) (v := ?_) rfl (by kernel_rfl) (by kernel_rfl) (by kernel_rfl) (fun _ _ _ h => h) (Or.inl ⟨by rfl, ?_⟩) ?_
    rotate_left 1
    · (intro w; go_simp; try with_reducible rfl)
    simp only [Act.put, List.setIfInBounds_toArray, List.set_cons_zero, List.set_cons_succ]
    refine wpAny_take (i := 10) (oi := ⟨some 26, _, _, _, _, _⟩) (v := ?_) rfl (by kernel_rfl) (by kernel_rfl) (by kernel_rfl) (fun _ _ _ h => h) (Or.inl ⟨by rfl, ?_⟩) ?_
    rotate_left 1
    · (intro w; go_simp; try with_reducible rfl)
    simp only [Act.put, List.setIfInBounds_toArray, List.set_cons_zero, List.set_cons_succ]
    refine wpAny_ready (rs := [11]) (by kernel_rfl) (by simp) ?_
    refine AllReady.cons (o := ⟨none, _, _, _, _, _⟩) rfl (fun K hK => ?_) AllReady.nil
    go_simp
    generalize World.setCell _ _ _ = w3 at *
    refine hK _ _ ?_
    clear hK K
    refine wpAny_done (by kernel_rfl) ?_ _
    obtain ⟨G3, hr3, _⟩ := HA.out
    obtain ⟨A3, m3, c3, _, hm3, _, _, _, d0, _⟩ := hr3.cells
    have hmm : m3 = m + 1 := by rw [hm3, List.length_append, HT.out]; rfl
    subst hmm
    clear hr3 hm3 s0 s1
    go_wp2
    go_ret
    exact ⟨by first | rfl | simp, HA.out.from HB1.out⟩
  · have hq := (HC.out _ K0.out).2
    go_simp
    clear hq
    refine hK _ _ ?_
    clear hK K
    refine wpAny_ready (rs := [4, 7]) (by kernel_rfl) (by simp) ?_
    refine AllReady.cons (o := ⟨some 20, _, _, _, _, _⟩) rfl (fun K hK => ?_) (AllReady.cons (o := ⟨some 23, _, _, _, _, _⟩) rfl (fun K hK => ?_) AllReady.nil)
    · have hq := (HC.out _ K0.out).1
      go_simp
      clear hq
      refine hK _ _ ?_
      clear hK K
      refine wpAny_ready (rs := [7]) (by kernel_rfl) (by simp) ?_
      refine AllReady.cons (o := ⟨some 23, _, _, _, _, _⟩) rfl (fun K hK => ?_) AllReady.nil
      go_simp
      have HM := hide (Made.el K0.out x)
      have K1 := hide HM.out.bel
      generalize World.alloc _ _ = W1 at *
      refine hK _ _ ?_
      clear hK K
      refine wpAny_ready (rs := [8]) (by kernel_rfl) (by simp) ?_
      refine AllReady.cons (o := ⟨some 24, _, _, _, _, _⟩) rfl (fun K hK => ?_) AllReady.nil
      refine step_app app_el (by rfl) (.tmp 20) (.tmp 23) rfl (.slice A m c) m (vals T) rfl (HO.out _ K1.out) _ 1 1 (vals [x]) rfl rfl HM.out.src (vals_one _) (by decide) Hm1.out Hm2.out ?_
      intro v2 w2 hg
      obtain ⟨s0, s1, s2⟩ := HS.out _ _ _ K1.out hg.out
      have HA := hide s2
      obtain ⟨A2, c2, rfl, _, _, _⟩ := hg.out.row.form
      clear hg s2
      refine hK _ _ ?_
      clear hK K
      refine wpAny_take (i := 9) (oi := ⟨some 25, _, _, _, _, _⟩) (v := ?_) rfl (by kernel_rfl) (by kernel_rfl) (by kernel_rfl) (fun _ _ _ h => h) (Or.inl ⟨by rfl, ?_⟩) ?_
      rotate_left 1
      · (intro w; go_simp; try with_reducible rfl)
      simp only [Act.put, List.setIfInBounds_toArray, List.set_cons_zero, List.set_cons_succ]
      refine wpAny_take (i := 10) (oi := ⟨some 26, _, _, _, _, _⟩) (v := ?_) rfl (by kernel_rfl) (by kernel_rfl) (by kernel_rfl) (fun _ _ _ h => h) (Or.inl ⟨by rfl, ?_⟩) ?_
      rotate_left 1
      · (intro w; go_simp; try with_reducible rfl)
      simp only [Act.put, List.setIfInBounds_toArray, List.set_cons_zero, List.set_cons_succ]
      refine wpAny_ready (rs := [11]) (by kernel_rfl) (by simp) ?_
      refine AllReady.cons (o := ⟨none, _, _, _, _, _⟩) rfl (fun K hK => ?_) AllReady.nil
      go_simp
      generalize World.setCell _ _ _ = w3 at *
      refine hK _ _ ?_
      clear hK K
      refine wpAny_done (by kernel_rfl) ?_ _
      obtain ⟨G3, hr3, _⟩ := HA.out
      obtain ⟨A3, m3, c3, _, hm3, _, _, _, d0, _⟩ := hr3.cells
      have hmm : m3 = m + 1 := by rw [hm3, List.length_append, HT.out]; rfl
      subst hmm
      clear hr3 hm3 s0 s1
      go_wp2
      go_ret
      exact ⟨by first | rfl | simp, HA.out.from HB1.out⟩
    · go_simp
      have HM := hide (Made.el K0.out x)
      have K1 := hide HM.out.bel
      generalize World.alloc _ _ = W1 at *
      refine hK _ _ ?_
      clear hK K
      refine wpAny_ready (rs := [4]) (by kernel_rfl) (by simp) ?_
      refine AllReady.cons (o := ⟨some 20, _, _, _, _, _⟩) rfl (fun K hK => ?_) AllReady.nil
      have hq := (HC.out _ K1.out).1
      go_simp
      clear hq
      refine hK _ _ ?_
      clear hK K
      refine wpAny_ready (rs := [8]) (by kernel_rfl) (by simp) ?_
      refine AllReady.cons (o := ⟨some 24, _, _, _, _, _⟩) rfl (fun K hK => ?_) AllReady.nil
      refine step_app app_el (by rfl) (.tmp 20) (.tmp 23) rfl (.slice A m c) m (vals T) rfl (HO.out _ K1.out) _ 1 1 (vals [x]) rfl rfl HM.out.src (vals_one _) (by decide) Hm1.out Hm2.out ?_
      intro v2 w2 hg
      obtain ⟨s0, s1, s2⟩ := HS.out _ _ _ K1.out hg.out
      have HA := hide s2
      obtain ⟨A2, c2, rfl, _, _, _⟩ := hg.out.row.form
      clear hg s2
      refine hK _ _ ?_
      clear hK K
      refine wpAny_take (i := 9) (oi := ⟨some 25, _, _, _, _, _⟩) (v := ?_) rfl (by kernel_rfl) (by kernel_rfl) (by kernel_rfl) (fun _ _ _ h => h) (Or.inl ⟨by rfl, ?_⟩) ?_
      rotate_left 1
      · (intro w; go_simp; try with_reducible rfl)
      simp only [Act.put, List.setIfInBounds_toArray, List.set_cons_zero, List.set_cons_succ]
      refine wpAny_take (i := 10) (oi := ⟨some 26, _, _, _, _, _⟩) (v := ?_) rfl (by kernel_rfl) (by kernel_rfl) (by kernel_rfl) (fun _ _ _ h => h) (Or.inl ⟨by rfl, ?_⟩) ?_
      rotate_left 1
      · (intro w; go_simp; try with_reducible rfl)
      simp only [Act.put, List.setIfInBounds_toArray, List.set_cons_zero, List.set_cons_succ]
      refine wpAny_ready (rs := [11]) (by kernel_rfl) (by simp) ?_
      refine AllReady.cons (o := ⟨none, _, _, _, _, _⟩) rfl (fun K hK => ?_) AllReady.nil
      go_simp
      generalize World.setCell _ _ _ = w3 at *
      refine hK _ _ ?_
      clear hK K
      refine wpAny_done (by kernel_rfl) ?_ _
      obtain ⟨G3, hr3, _⟩ := HA.out
      obtain ⟨A3, m3, c3, _, hm3, _, _, _, d0, _⟩ := hr3.cells
      have hmm : m3 = m + 1 := by rw [hm3, List.length_append, HT.out]; rfl
      subst hmm
      clear hr3 hm3 s0 s1
      go_wp2
      go_ret
      exact ⟨by first | rfl | simp, HA.out.from HB1.out⟩
set_option maxRecDepth 100000 in
set_option maxHeartbeats 4000000 in
theorem Take_other (h : Rcv r T w G) (k : Int) (x : Int) (hk : k ≠ (T.length : Int) + 1) : Calls Try.prog 11 #[.pointer (some ⟨r, 0, none⟩), .agg #[.int .i64 k, .int .i64 x]] w fun e w' => e = .returned (.int .i64 (T.length : Int)) ∧ Below w.heap.size w w' := by
  obtain ⟨m, hm⟩ : ∃ m, T.length = m := ⟨_, rfl⟩
  have HT := hide hm
  have HH := hide h
  have hf := h.few
  rw [hm] at hf hk ⊢
  have hmi : (m : Int) ≤ 100000 := by omega
  have hkq : (k == (m : Int) + 1) = false := by simpa using hk
  clear h hf hm hk
  go_enter Try.func11, Try.ntmps11
  go_wp2_with (refine wpList_box_told rfl 33 (.tmp 1) rfl _ rfl ?_)
  intro w1 Hw1
  have HB1 : Hid (Below w.heap.size w w1) := by rw [Hw1.out]; exact (Below.refl _ _).alloc (Nat.le_refl _) _
  have hq : w1.heap[w.heap.size]? = some (.cells #[.int .i64 k, .int .i64 x] 33 (0, 0)) := by rw [Hw1.out]; exact heap_alloc_new w _
  have hq0 : w1.cell? ⟨w.heap.size, 0, none⟩ = some (.int .i64 k) := by rw [cell_of_row w1 _ 0 _ _ _ hq]; rfl
  obtain ⟨A, m', c, hx, hm', _, _, _, c0, _⟩ := (HH.out.below HB1.out).cells
  obtain rfl : m = m' := by rw [hm', HT.out]
  clear Hw1 hq hx hm'
  go_wp2_with fail
  go_quiet (fail)
  go_wp2
  go_ret
  exact ⟨rfl, HB1.out.trans ⟨rfl, rfl, rfl, Nat.le_refl _, fun _ _ => rfl⟩⟩

set_option maxRecDepth 100000 in
set_option maxHeartbeats 1000000 in
theorem Clone_any (A : Option Addr) (m c : Nat) (T : List Int) (w : World) (hm : T.length = m) (hf : m ≤ 100000) (hs : Src w A (vals T)) : Calls Try.prog 25 #[.slice A m c] w fun e w' => ∃ v, e = .returned v ∧ Els w' w.heap.size v T ∧ Below w.heap.size w w' := by
  cases A with
  | none =>
    obtain rfl : T = [] := by
      by_cases hT : T = []
      · exact hT
      · obtain ⟨_, _, h, _⟩ := hs (by intro e; apply hT; have := vals_len T; rw [e] at this; exact List.eq_nil_of_length_eq_zero this.symm)
        cases h
    have HE := hide (Els.nil w w.heap.size)
    have HB := hide (Below.refl w.heap.size w)
    have he := Go.Lib.run_eql_slice_nil w 24 3 none m c 0 0 Try.underlying24
    clear hs hf hm
    go_enter Try.func25, Try.ntmps25
    go_wp2
    go_ret
    exact ⟨_, rfl, HE.out, HB.out⟩
  | some A =>
    have hb : Below w.heap.size w (w.alloc (.cells #[] 3)) := (Below.refl _ _).alloc (Nat.le_refl _) _
    have HB := hide hb
    have HO : Hid (ORow (w.alloc (.cells #[] 3)) 3 1 (.slice (some ⟨w.heap.size, 0, none⟩) 0 0) 0 []) := ORow.made (heap_alloc_new w _) rfl (Nat.zero_le _)
    have HS := hide (hs.below hb)
    have Hl := hide (show (vals T).length = m * 1 by rw [vals_len1, hm])
    have Hm := hide hm
    have Hm1 := hide (show 0 + m ≤ maxLen by unfold maxLen; omega)
    have Hm2 := hide (show (0 + m) * 8 ≤ 140737488355328 by omega)
    have he := Go.Lib.run_eql_slice_nil w 24 3 (some A) m c 0 0 Try.underlying24
    clear hs hb hm hf
    go_enter Try.func25, Try.ntmps25
    go_wp2_with (at_builtin; go_must (refine wpList_app app_el rfl (.tmp 5) (.tmp 6) rfl _ 0 [] rfl HO.out _ m c (vals T) rfl Hl.out HS.out (vals_one _) (by decide) Hm1.out Hm2.out ?_))
    intro v w' hg
    have HE : Hid (Els w' w.heap.size v T) := ⟨by have := hg.out.row; rw [Hm.out]; simpa using this, fun k hk => by
      rcases hg.out.own k hk with h1 | h1
      · simp [Value.ownBlock] at h1; omega
      · have := HB.out.size; omega⟩
    have HB2 : Hid (Below w.heap.size w w') := (hg.out.kept (G := fun i => w.heap.size ≤ i) HB.out (fun i hi => by simp [Value.ownBlock] at hi; omega)).below (fun _ h => h) (Nat.le_refl _)
    clear hg HO HS Hl
    go_wp2
    go_ret
    exact ⟨_, rfl, HE.out, HB2.out⟩
set_option maxRecDepth 100000 in
theorem List_nil (w : World) : Calls Try.prog 14 #[.pointer none] w fun e w' => e = .returned (.slice none 0 0) ∧ Below w.heap.size w w' := by
  have HB := hide (Below.refl w.heap.size w)
  go_enter Try.func14, Try.ntmps14
  go_wp2
  go_ret
  exact ⟨rfl, HB.out⟩
set_option maxRecDepth 100000 in
theorem List_any (h : Rcv r T w G) : Calls Try.prog 14 #[.pointer (some ⟨r, 0, none⟩)] w fun e w' => ∃ v, e = .returned v ∧ Els w' w.heap.size v T ∧ Below w.heap.size w w' := by
  obtain ⟨A, m, c, _, hm, _, _, hs, c0, _⟩ := h.cells
  have HC := hide (Clone_any A m c T w hm.symm (by rw [hm]; exact h.few) hs)
  clear h hm hs
  go_enter Try.func14, Try.ntmps14
  go_wp2_with fail
  refine HC.out.mono ?_
  rintro e w1 ⟨v, rfl, he, hb⟩
  have HE := hide he
  have HB := hide hb
  clear he hb
  go_wp2
  go_ret
  exact ⟨_, rfl, HE.out, HB.out⟩
end

end Go.Proofs.Ytidojlagdodkkab.Wi
