/-
  The contracts of gate.after, Thaw and Tick: the calls that waited, a row of the call's own. Nothing but the gate's own block is changed.
-/
import Derived.Deep.AppendLies
import Derived.Test.YtjholhmgainbfaaDoorGaOps
namespace Go.Proofs.YtjholhmgainbfaaDoor.Ga
open Go.RowKit
open Pk Dk

theorem call_info : (Tryd.prog.info? 32).map (fun i => (i.zero, i.size, i.bytes)) = some (some (.agg #[.int .i64 0, .int .i64 0, .string ⟨#[]⟩]), 3, 32) := by kernel_rfl
theorem built_open (a : Int) : Tryd.prog.built 35 [(0, .int .i64 a)] = some (gcs a 0 noQ 0).toArray := by kernel_rfl

section
variable {w w' : World} {g n : Nat} {a l : Int} {Q : List Cl}
theorem Bx.drew (h : Bx w g a l Q n) : Bx w.drew g a l Q n := { h with box := ((Below.refl w.heap.size w).drew.block g h.lt).trans h.box }
/-- The last tick. -/
theorem Gt.spent (h : Gt w g a 1 Q n) : Bx (w.setCell ⟨g, 1, none⟩ (.int .i64 0)) g a 0 Q n :=
  { h.bx with box := by rw [heap_setCell_same _ g 1 _ _ _ h.box]; rfl }
theorem Bx.emptied (h : Bx w g a l Q n) (hb : w'.heap[g]? = some (.cells (gcs a 0 noQ 0).toArray 35 (0, 0))) : Gt w' g a 0 noQ 0 :=
  ⟨hb, rfl, by omega, h.a0, by omega, h.a64, by omega, fun _ => rfl, fun h => absurd rfl h⟩
theorem Rowq.setRow {base : Nat} {v : Value} {L : List Cl} (h : Rowq w base v L) (hg : g < base) {cs : Array Value} : Rowq (w.setRow g cs) base v L :=
  own_same h fun k hk => setRow_other _ _ _ _ (fun e => by have := (World.ownsRow.lt h k hk).1; omega)
theorem Rowq.below {base : Nat} {v : Value} {L : List Cl} (h : Rowq w base v L) (hb : Below w.heap.size w w') : Rowq w' base v L :=
  own_same h fun k hk => hb.block k (World.ownsRow.lt h k hk).2

/-- append(nil, queue[:n]...) -/
theorem step_append_queue {ops : Array Oper} {o : Oper} {ac : Act} {K : Act → World → Prop} {R : Exit → Act → World → Prop} {E : Prop} (hgd : o.guard = none) (s x : Operand)
    (ho : o.op = .call { callee := .builtin .append, args := #[s, x], argTypes := #[43, 43] }) (hG : Bx w g a l Q n) (hs : ac.eval s = .slice none 0 0) (hx : ac.eval x = .slice (some ⟨g, 2, none⟩) n 4)
    (h : ∀ v' w', Rowq w' w.heap.size v' (Q.take n) → Below w.heap.size w w' → K (ac.put o.dst v') w') : if Region.wanted o (yielded ops ac.tmps) = true then Oper.wp Tryd.prog o ac w K R else E := by
  have hw : Region.wanted o (yielded ops ac.tmps) = true := by simp [Region.wanted, hgd]
  rw [if_pos hw]
  obtain ⟨i0, hi0, hz0, hz1, hz2⟩ := info_parts call_info
  have hf := hG.few
  have hl : (Q.take n).length = n := by rw [List.length_take, hG.len]; omega
  obtain ⟨v', w', hr, h2, h3, _, _⟩ := run_append_own_at (P := Tryd.prog) w w.heap.size 43 o.type 32 i0 _ 3 32 Tryd.underlying43 hi0 hz0 hz1 hz2 rfl (by decide) (.slice none 0 0) 0 [] (World.ownsRow_nil _ _ _ _)
    ⟨g, 2, none⟩ n 4 (ccels (Q.take n)) (by rw [ccels_length, hl]) hG.queue (ccels_one _) (by unfold maxLen; omega) (by omega) (Nat.le_refl _)
  unfold Oper.wp execOp
  simp only [ho, resolve, invoke, builtin, Sem.run_bind, Sem.run_pure, Result.andThen_ok, List.map_toArray, List.map_cons, List.map_nil, hs, hx, hr]
  refine h v' w' ?_ ⟨h3.os, h3.tape, h3.output, h3.size, fun k hk => h3.block k hk (by simp [Value.ownBlock])⟩
  unfold Rowq
  rw [hl]
  rw [Nat.zero_add, List.nil_append] at h2
  exact h2

/-! ### after -/
set_option maxRecDepth 100000 in
/-- Thaw's own code. -/
theorem after_thaw (h : Gt w g a l Q n) :
    Calls Tryd.prog 25 #[.pointer (some ⟨g, 0, none⟩), .int .i64 1] w fun e w' => ∃ v, e = .returned v ∧ Rowq w' w.heap.size v (Q.take n) ∧ GP w g a 0 noQ 0 w' := by
  have HG := hide h.bx
  have HK := hide (Kept.refl (· = g) w)
  have Hq := hide (show (gcs a l Q n).toArray.size = (gcs a 0 noQ 0).toArray.size by rw [List.size_toArray, List.size_toArray, gcs_length h.len, gcs_length rfl])
  have Hs15 := hide (show (Tryd.prog.info? 35).map (·.size) = some (gcs a 0 noQ 0).toArray.size by rw [gate_size, List.size_toArray, gcs_length rfl])
  have hn4 : (n : Int) ≤ 4 := by have := h.few; omega
  have hn0 : (0 : Int) ≤ (n : Int) := by omega
  have hc14 : w.drew.cell? ⟨g, 14, none⟩ = some (.int .i64 (n : Int)) := h.bx.drew.c14
  clear h
  go_enter Tryd.func25, Tryd.ntmps25
  go_wp2
  refine wp_region_any (by kernel_rfl) ?_
  change wpAny _ _ _ _ _ _ _ (World.drew _)
  refine wpAny_take (i := 0) (oi := ⟨some 23, _, _, _, _, _⟩) (v := ?_) rfl (by kernel_rfl) (by kernel_rfl) (by kernel_rfl) (fun _ _ _ h => h) (Or.inl ⟨by rfl, ?_⟩) ?_
  rotate_left 1
  · (intro w; go_simp; try with_reducible rfl)
  simp only [Act.put, List.setIfInBounds_toArray, List.set_cons_zero, List.set_cons_succ]
  refine wpAny_take (i := 1) (oi := ⟨some 24, _, _, _, _, _⟩) (v := ?_) rfl (by kernel_rfl) (by kernel_rfl) (by kernel_rfl) (fun _ _ _ h => h) (Or.inl ⟨by rfl, ?_⟩) ?_
  rotate_left 1
  · (intro w; go_simp; try with_reducible rfl)
  simp only [Act.put, List.setIfInBounds_toArray, List.set_cons_zero, List.set_cons_succ]
  refine wpAny_take (i := 2) (oi := ⟨some 25, _, _, _, _, _⟩) (v := ?_) rfl (by kernel_rfl) (by kernel_rfl) (by kernel_rfl) (fun _ _ _ h => h) (Or.inl ⟨by rfl, ?_⟩) ?_
  rotate_left 1
  · (intro w; go_simp; try with_reducible rfl)
  simp only [Act.put, List.setIfInBounds_toArray, List.set_cons_zero, List.set_cons_succ]
  refine wpAny_take (i := 3) (oi := ⟨some 26, _, _, _, _, _⟩) (v := ?_) rfl (by kernel_rfl) (by kernel_rfl) (by kernel_rfl) (fun _ _ _ h => h) (Or.inl ⟨by rfl, ?_⟩) ?_
  rotate_left 1
  · (intro w; go_simp; try with_reducible rfl)
  simp only [Act.put, List.setIfInBounds_toArray, List.set_cons_zero, List.set_cons_succ]
  refine wpAny_take (i := 4) (oi := ⟨some 27, _, _, _, _, _⟩) (v := ?_) rfl (by kernel_rfl) (by kernel_rfl) (by kernel_rfl) (fun _ _ _ h => h) (Or.inl ⟨by rfl, ?_⟩) ?_
  rotate_left 1
  · (intro w; go_simp; try with_reducible rfl)
  simp only [Act.put, List.setIfInBounds_toArray, List.set_cons_zero, List.set_cons_succ]
  refine wpAny_take (i := 5) (oi := ⟨some 28, _, _, _, _, _⟩) (v := ?_) rfl (by kernel_rfl) (by kernel_rfl) (by kernel_rfl) (fun _ _ _ h => h) (Or.inl ⟨by rfl, ?_⟩) ?_
  rotate_left 1
  · (intro w; go_simp; try with_reducible rfl)
  simp only [Act.put, List.setIfInBounds_toArray, List.set_cons_zero, List.set_cons_succ]
  refine wpAny_take (i := 6) (oi := ⟨some 29, _, _, _, _, _⟩) (v := ?_) rfl (by kernel_rfl) (by kernel_rfl) (by kernel_rfl) (fun _ _ _ h => h) (Or.inl ⟨by rfl, ?_⟩) ?_
  rotate_left 1
  · (intro w; go_simp; try with_reducible rfl)
  simp only [Act.put, List.setIfInBounds_toArray, List.set_cons_zero, List.set_cons_succ]
  refine wpAny_ready (rs := [7]) (by kernel_rfl) (by simp) ?_
  refine AllReady.cons (o := ⟨some 30, _, _, _, _, _⟩) rfl (fun K hK => ?_) AllReady.nil
  go_simp
  refine hK _ _ ?_
  clear hK K
  refine wpAny_take (i := 8) (oi := ⟨some 31, _, _, _, _, _⟩) (v := ?_) rfl (by kernel_rfl) (by kernel_rfl) (by kernel_rfl) (fun _ _ _ h => h) (Or.inl ⟨by rfl, ?_⟩) ?_
  rotate_left 1
  · (intro w; go_simp; try with_reducible rfl)
  simp only [Act.put, List.setIfInBounds_toArray, List.set_cons_zero, List.set_cons_succ]
  refine wpAny_ready (rs := [9]) (by kernel_rfl) (by simp) ?_
  refine AllReady.cons (o := ⟨some 32, _, _, _, _, _⟩) rfl (fun K hK => ?_) AllReady.nil
  refine step_append_queue rfl (.tmp 23) (.tmp 31) rfl HG.out.drew rfl rfl ?_
  intro v w1 hrow hb1
  refine hK _ _ ?_
  clear hK K
  refine wpAny_take (i := 10) (oi := ⟨some 5, _, _, _, _, _⟩) (v := ?_) rfl (by kernel_rfl) (by kernel_rfl) (by kernel_rfl) (fun _ _ _ h => h) (Or.inl ⟨by rfl, ?_⟩) ?_
  rotate_left 1
  · (intro w; go_simp; try with_reducible rfl)
  simp only [Act.put, List.setIfInBounds_toArray, List.set_cons_zero, List.set_cons_succ]
  refine wpAny_done (by kernel_rfl) ?_ _
  have hd0 : Below w.heap.size w w.drew := (Below.refl _ _).drew
  have HB1 := hide (show w1.heap[g]? = some (.cells (gcs a l Q n).toArray 35 (0, 0)) by rw [hb1.block g HG.out.drew.lt]; exact HG.out.drew.box)
  have hc1 : w1.cell? ⟨g, 0, none⟩ = some (.int .i64 a) := by rw [cell_of_row w1 g 0 _ _ _ HB1.out]; rfl
  have HR := hide (hrow.setRow (g := g) (cs := (gcs a 0 noQ 0).toArray) HG.out.drew.lt)
  have HP := hide (show GP w g a 0 noQ 0 (w1.setRow g (gcs a 0 noQ 0).toArray) from ⟨HG.out.emptied (setRow_heap _ _ _ _ _ _ HB1.out), (Kept.trans HK.out (Grew.refl _ _) (Kept.of_below (hd0.trans hb1))).row rfl _⟩)
  clear hrow hb1 hd0
  go_wp2_with (first | refine wpList_built rfl 35 #[(0, .tmp 37)] rfl _ (built_open a) ?_ | with_reducible refine wpList_store_row rfl 35 (.tmp 39) (.tmp 38) rfl g (gcs a 0 noQ 0).toArray rfl rfl 35 (gcs a l Q n).toArray HB1.out Hs15.out Hq.out (all_oneCell_toArray (gcs_one _ _ _ _)) ?_)
  go_ret
  exact ⟨_, rfl, HR.out, HP.out⟩

set_option maxRecDepth 100000 in
/-- A tick that is not the last. -/
theorem after_less (h : Gt w g a l Q n) (hl : 2 ≤ l) :
    Calls Tryd.prog 25 #[.pointer (some ⟨g, 0, none⟩), .int .i64 0] w fun e w' => e = .returned (.slice none 0 0) ∧ GP w g a (l - 1) Q n w' := by
  have hc1 := h.c1
  have hf1 := h.frozen 1
  have hl64 := h.l64
  have hgr : decide (0 < l - 1) = true := decide_eq_true (by omega)
  have h0l : (0 : Int) < l - 1 := by omega
  have HP : Hid (GP w g a (l - 1) Q n (w.setCell ⟨g, 1, none⟩ (.int .i64 (l - 1)))) := ⟨h.tick (l - 1) (by omega) (by omega) (by omega), (Kept.refl (· = g) w).store (p := ⟨g, 1, none⟩) rfl _⟩
  clear h
  go_enter Tryd.func25, Tryd.ntmps25
  go_wp2
  go_ret
  exact ⟨rfl, HP.out⟩

set_option maxRecDepth 100000 in
/-- The last tick: it falls through to thawing. -/
theorem after_last (h : Gt w g a 1 Q n) :
    Calls Tryd.prog 25 #[.pointer (some ⟨g, 0, none⟩), .int .i64 0] w fun e w' => ∃ v, e = .returned v ∧ Rowq w' w.heap.size v (Q.take n) ∧ GP w g a 0 noQ 0 w' := by
  have HG := hide h.spent
  have HK := hide ((Kept.refl (· = g) w).store (p := ⟨g, 1, none⟩) rfl (.int .i64 0))
  have Hq := hide (show (gcs a 0 Q n).toArray.size = (gcs a 0 noQ 0).toArray.size by rw [List.size_toArray, List.size_toArray, gcs_length h.len, gcs_length rfl])
  have Hs15 := hide (show (Tryd.prog.info? 35).map (·.size) = some (gcs a 0 noQ 0).toArray.size by rw [gate_size, List.size_toArray, gcs_length rfl])
  have hn4 : (n : Int) ≤ 4 := by have := h.few; omega
  have hn0 : (0 : Int) ≤ (n : Int) := by omega
  have hc1 := h.c1
  have hf1 := h.frozen 1
  have Hsz := hide (show (w.setCell ⟨g, 1, none⟩ (.int .i64 0)).heap.size = w.heap.size by simp [World.setCell])
  clear h
  go_enter Tryd.func25, Tryd.ntmps25
  go_wp2
  generalize w.setCell ⟨g, 1, none⟩ (.int .i64 0) = w0 at *
  have hc14 : w0.drew.cell? ⟨g, 14, none⟩ = some (.int .i64 (n : Int)) := HG.out.drew.c14
  refine wp_region_any (by kernel_rfl) ?_
  change wpAny _ _ _ _ _ _ _ (World.drew _)
  refine wpAny_take (i := 0) (oi := ⟨some 23, _, _, _, _, _⟩) (v := ?_) rfl (by kernel_rfl) (by kernel_rfl) (by kernel_rfl) (fun _ _ _ h => h) (Or.inl ⟨by rfl, ?_⟩) ?_
  rotate_left 1
  · (intro w; go_simp; try with_reducible rfl)
  simp only [Act.put, List.setIfInBounds_toArray, List.set_cons_zero, List.set_cons_succ]
  refine wpAny_take (i := 1) (oi := ⟨some 24, _, _, _, _, _⟩) (v := ?_) rfl (by kernel_rfl) (by kernel_rfl) (by kernel_rfl) (fun _ _ _ h => h) (Or.inl ⟨by rfl, ?_⟩) ?_
  rotate_left 1
  · (intro w; go_simp; try with_reducible rfl)
  simp only [Act.put, List.setIfInBounds_toArray, List.set_cons_zero, List.set_cons_succ]
  refine wpAny_take (i := 2) (oi := ⟨some 25, _, _, _, _, _⟩) (v := ?_) rfl (by kernel_rfl) (by kernel_rfl) (by kernel_rfl) (fun _ _ _ h => h) (Or.inl ⟨by rfl, ?_⟩) ?_
  rotate_left 1
  · (intro w; go_simp; try with_reducible rfl)
  simp only [Act.put, List.setIfInBounds_toArray, List.set_cons_zero, List.set_cons_succ]
  refine wpAny_take (i := 3) (oi := ⟨some 26, _, _, _, _, _⟩) (v := ?_) rfl (by kernel_rfl) (by kernel_rfl) (by kernel_rfl) (fun _ _ _ h => h) (Or.inl ⟨by rfl, ?_⟩) ?_
  rotate_left 1
  · (intro w; go_simp; try with_reducible rfl)
  simp only [Act.put, List.setIfInBounds_toArray, List.set_cons_zero, List.set_cons_succ]
  refine wpAny_take (i := 4) (oi := ⟨some 27, _, _, _, _, _⟩) (v := ?_) rfl (by kernel_rfl) (by kernel_rfl) (by kernel_rfl) (fun _ _ _ h => h) (Or.inl ⟨by rfl, ?_⟩) ?_
  rotate_left 1
  · (intro w; go_simp; try with_reducible rfl)
  simp only [Act.put, List.setIfInBounds_toArray, List.set_cons_zero, List.set_cons_succ]
  refine wpAny_take (i := 5) (oi := ⟨some 28, _, _, _, _, _⟩) (v := ?_) rfl (by kernel_rfl) (by kernel_rfl) (by kernel_rfl) (fun _ _ _ h => h) (Or.inl ⟨by rfl, ?_⟩) ?_
  rotate_left 1
  · (intro w; go_simp; try with_reducible rfl)
  simp only [Act.put, List.setIfInBounds_toArray, List.set_cons_zero, List.set_cons_succ]
  refine wpAny_take (i := 6) (oi := ⟨some 29, _, _, _, _, _⟩) (v := ?_) rfl (by kernel_rfl) (by kernel_rfl) (by kernel_rfl) (fun _ _ _ h => h) (Or.inl ⟨by rfl, ?_⟩) ?_
  rotate_left 1
  · (intro w; go_simp; try with_reducible rfl)
  simp only [Act.put, List.setIfInBounds_toArray, List.set_cons_zero, List.set_cons_succ]
  refine wpAny_ready (rs := [7]) (by kernel_rfl) (by simp) ?_
  refine AllReady.cons (o := ⟨some 30, _, _, _, _, _⟩) rfl (fun K hK => ?_) AllReady.nil
  go_simp
  refine hK _ _ ?_
  clear hK K
  refine wpAny_take (i := 8) (oi := ⟨some 31, _, _, _, _, _⟩) (v := ?_) rfl (by kernel_rfl) (by kernel_rfl) (by kernel_rfl) (fun _ _ _ h => h) (Or.inl ⟨by rfl, ?_⟩) ?_
  rotate_left 1
  · (intro w; go_simp; try with_reducible rfl)
  simp only [Act.put, List.setIfInBounds_toArray, List.set_cons_zero, List.set_cons_succ]
  refine wpAny_ready (rs := [9]) (by kernel_rfl) (by simp) ?_
  refine AllReady.cons (o := ⟨some 32, _, _, _, _, _⟩) rfl (fun K hK => ?_) AllReady.nil
  refine step_append_queue rfl (.tmp 23) (.tmp 31) rfl HG.out.drew rfl rfl ?_
  intro v w1 hrow hb1
  refine hK _ _ ?_
  clear hK K
  refine wpAny_take (i := 10) (oi := ⟨some 5, _, _, _, _, _⟩) (v := ?_) rfl (by kernel_rfl) (by kernel_rfl) (by kernel_rfl) (fun _ _ _ h => h) (Or.inl ⟨by rfl, ?_⟩) ?_
  rotate_left 1
  · (intro w; go_simp; try with_reducible rfl)
  simp only [Act.put, List.setIfInBounds_toArray, List.set_cons_zero, List.set_cons_succ]
  refine wpAny_done (by kernel_rfl) ?_ _
  have hd0 : Below w0.heap.size w0 w0.drew := (Below.refl _ _).drew
  have HB1 := hide (show w1.heap[g]? = some (.cells (gcs a 0 Q n).toArray 35 (0, 0)) by rw [hb1.block g HG.out.drew.lt]; exact HG.out.drew.box)
  have hc1 : w1.cell? ⟨g, 0, none⟩ = some (.int .i64 a) := by rw [cell_of_row w1 g 0 _ _ _ HB1.out]; rfl
  have HR := hide (hrow.setRow (g := g) (cs := (gcs a 0 noQ 0).toArray) HG.out.drew.lt)
  have HP := hide (show GP w g a 0 noQ 0 (w1.setRow g (gcs a 0 noQ 0).toArray) from ⟨HG.out.emptied (setRow_heap _ _ _ _ _ _ HB1.out), (Kept.trans HK.out (Grew.refl _ _) (Kept.of_below (hd0.trans hb1))).row rfl _⟩)
  clear hrow hb1 hd0
  go_wp2_with (first | refine wpList_built rfl 35 #[(0, .tmp 37)] rfl _ (built_open a) ?_ | with_reducible refine wpList_store_row rfl 35 (.tmp 39) (.tmp 38) rfl g (gcs a 0 noQ 0).toArray rfl rfl 35 (gcs a 0 Q n).toArray HB1.out Hs15.out Hq.out (all_oneCell_toArray (gcs_one _ _ _ _)) ?_)
  go_ret
  exact ⟨_, rfl, by rw [← Hsz.out]; exact HR.out, HP.out⟩

end

end Go.Proofs.YtjholhmgainbfaaDoor.Ga
