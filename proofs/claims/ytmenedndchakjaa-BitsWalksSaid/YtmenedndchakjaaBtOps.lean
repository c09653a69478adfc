/-
  The contracts of bits.isBlock, With, Without and Has. Nothing that was there is changed.
-/
import Derived.Deep.MidRow
import Derived.Deep.WholeRow
import Derived.Test.YtmenedndchakjaaBtMath
namespace Go.Proofs.Ytmenedndchakjaa.Bt
open Go.RowKit
open Pk Sm

theorem set_size : (Try.prog.info? 28).map (·.size) = some 8 := by kernel_rfl
theorem set_zero : (Try.prog.info? 28).map (·.zero) = some (some (.agg (bcels empty).toArray)) := by kernel_rfl

/-- A new variable of zeros, the world behind it under a name of its own. -/
theorem wpList_alloc_told {P : Program} {ops : Array Oper} {rest : List Oper} {o : Oper} {a : Act} {w : World} {Q : Exit → Act → World → Prop} (hg : o.guard = none) (t : TypeId) (ho : o.op = .alloc t)
    (z : Array Value) (hz : (P.info? t).map (·.zero) = some (some (.agg z)))
    (h : ∀ w', Hid (w' = w.alloc (.cells z t)) → wpList P ops Q rest (a.put o.dst (.pointer (some ⟨w.heap.size, 0, none⟩))) w') : wpList P ops Q (o :: rest) a w := by
  refine wpList_plain hg fun K hK => ?_
  cases hq : P.info? t with
  | none => simp [hq] at hz
  | some i =>
    have hz' : i.zero = some (.agg z) := by simpa [hq] using hz
    have hrun : (zeroValue t).run P w = .ok (.agg z) w := by simp [zeroValue, typeInfo, hq, hz']
    unfold Oper.wp execOp
    simp only [ho, Sem.run_bind, Instr.alloc, newVar, newRow, run_newObj_alloc, Sem.run_pure, Result.andThen_ok, hrun, Value.cells]
    exact hK _ _ (h _ rfl)
/-- A value laid into a new variable, likewise. -/
theorem wpList_box_told {P : Program} {ops : Array Oper} {rest : List Oper} {o : Oper} {a : Act} {w : World} {Q : Exit → Act → World → Prop} (hg : o.guard = none) (t : TypeId) (x : Operand) (ho : o.op = .box t x)
    (z : Array Value) (hz : a.eval x = .agg z)
    (h : ∀ w', Hid (w' = w.alloc (.cells z t)) → wpList P ops Q rest (a.put o.dst (.pointer (some ⟨w.heap.size, 0, none⟩))) w') : wpList P ops Q (o :: rest) a w := by
  refine wpList_plain hg fun K hK => ?_
  unfold Oper.wp execOp
  simp only [ho, hz, Sem.run_bind, Instr.box, newVar, newRow, run_newObj_alloc, Sem.run_pure, Result.andThen_ok, Value.cells]
  exact hK _ _ (h _ rfl)

/-- A whole block written anew, likewise. -/
theorem wpList_store_told {P : Program} {ops : Array Oper} {rest : List Oper} {o : Oper} {a : Act} {w : World} {Q : Exit → Act → World → Prop} (hg : o.guard = none) (ty : TypeId) (x y : Operand) (ho : o.op = .store ty x y)
    (b : Nat) (cs : Array Value) (hx : a.eval x = .pointer (some ⟨b, 0, none⟩)) (hy : a.eval y = .agg cs) (old : Array Value) (hb : w.heap[b]? = some (.cells old ty (0, 0)))
    (hi : (P.info? ty).map (·.size) = some cs.size) (hs : old.size = cs.size) (h1 : cs.all (·.oneCell') = true)
    (h : ∀ w', Hid (w' = w.setRow b cs) → wpList P ops Q rest (a.put o.dst undef) w') : wpList P ops Q (o :: rest) a w := by
  refine wpList_plain hg fun K hK => ?_
  have hrun := run_storeVar_row (P := P) w b ty ty old cs hb hi hs h1
  unfold Oper.wp execOp
  simp only [ho, hx, hy, Instr.storeAt, Instr.sureAddr, Sem.run_bind, hrun, Sem.run_pure, Result.andThen_ok]
  exact hK _ _ (h _ rfl)

theorem ret_bool {a b : Bool} (h : a = b) : Ending.returned (.bool a) = .returned (.bool b) := by rw [h]

theorem isBlock_in (k : Nat) (hk : k < 8) (w : World) : Calls Try.prog 26 #[.int .i64 k] w fun e w' => e = .returned (.bool true) ∧ w = w' := by
  have h1 : decide (0 ≤ (k : Int)) = true := decide_eq_true (by omega)
  go_enter Try.func26, Try.ntmps26
  go_wp2
  go_ret
  exact ⟨ret_bool (decide_eq_true (by omega)), rfl⟩
theorem isBlock_out (b : Int) (hb : b < 0 ∨ 8 ≤ b) (w : World) : Calls Try.prog 26 #[.int .i64 b] w fun e w' => e = .returned (.bool false) ∧ w = w' := by
  rcases hb with h | h
  · have h1 : decide (0 ≤ b) = false := decide_eq_false (by omega)
    go_enter Try.func26, Try.ntmps26
    go_wp2
    go_ret
    exact ⟨rfl, rfl⟩
  · have h1 : decide (0 ≤ b) = true := decide_eq_true (by omega)
    go_enter Try.func26, Try.ntmps26
    go_wp2
    go_ret
    exact ⟨ret_bool (decide_eq_false (by omega)), rfl⟩

/-- A set's block: all its cells. -/
def Lies (w : World) (g : Nat) (S : BSet) : Prop := w.heap[g]? = some (.cells (bcels S).toArray 28 (0, 0))
theorem Lies.heap {w : World} {g : Nat} {S : BSet} (h : Lies w g S) : w.heap[g]? = some (.cells (bcels S).toArray 28 (0, 0)) := h
theorem Lies.range {w : World} {g : Nat} {S : BSet} (h : Lies w g S) : w.rangeAt g 0 (bcels S) := fun j v hv => by
  rw [cell_of_row w g (0 + j) _ _ _ h]
  simpa using hv
theorem Lies.cell {w : World} {g k : Nat} {S : BSet} {b : Bool} (h : Lies w g S) (hk : S[k]? = some b) : w.cell? ⟨g, k, none⟩ = some (.bool b) := by
  have := h.range k _ (bcels_get hk)
  rwa [Nat.zero_add] at this
theorem Lies.lt {w : World} {g : Nat} {S : BSet} (h : Lies w g S) : g < w.heap.size := (Array.getElem?_eq_some_iff.1 h).1
theorem Lies.below {w w' : World} {g B : Nat} {S : BSet} (h : Lies w g S) (hb : Below B w w') (hg : g < B) : Lies w' g S := (hb.block g hg).trans h
theorem Lies.alloc {w : World} {g : Nat} {S : BSet} (h : Lies w g S) (o : Obj) : Lies (w.alloc o) g S := (Below.heap_alloc _ _ _ h.lt).trans h
theorem lies_new (w : World) (S : BSet) : Lies (w.alloc (.cells (bcels S).toArray 28)) w.heap.size S := heap_alloc_new w _
/-- One cell stored. -/
theorem Lies.set {w : World} {g k : Nat} {S : BSet} (v : Bool) (h : Lies w g S) : Lies (w.setCell ⟨g, k, none⟩ (.bool v)) g (S.set k v) := by
  unfold Lies
  rw [heap_setCell_same w g k _ _ _ h, ← bcels_set]
  simp
theorem Lies.other {w : World} {g : Nat} {S : BSet} (h : Lies w g S) (p : Addr) (v : Value) (hp : p.block ≠ g) : Lies (w.setCell p v) g S := (heap_setCell_other w p g v (Ne.symm hp)).trans h
theorem Lies.frozen {w : World} {g : Nat} {S : BSet} (h : Lies w g S) (k : Nat) : w.frozen? ⟨g, k, none⟩ = false := by
  have h' : w.heap[g]? = _ := h
  simp [World.frozen?, h']

theorem get_some {S : BSet} (hS : S.length = 8) {k : Nat} (hk : k < 8) : ∃ b, S[k]? = some b := ⟨_, List.getElem?_eq_getElem (by omega)⟩

set_option maxHeartbeats 1000000 in
theorem With_in (S : BSet) (hS : S.length = 8) (k : Nat) (hk : k < 8) (w : World) : Calls Try.prog 12 #[val S, .int .i64 k] w fun e w' => e = .returned (val (S.set k true)) ∧ Below w.heap.size w w' := by
  obtain ⟨b, hb⟩ := get_some hS hk
  have HS := hide hS
  have HB := hide hb
  clear hS hb
  unfold val
  go_enter Try.func12, Try.ntmps12
  go_wp2_with (refine wpList_box_told rfl 28 (.tmp 0) rfl _ rfl ?_)
  intro w1 H1
  have L1 := hide (show Lies w1 w.heap.size S by rw [H1.out]; exact lies_new w S)
  have B1 := hide (show Below w.heap.size w w1 by rw [H1.out]; exact (Below.refl _ _).alloc (Nat.le_refl _) _)
  have hz1 : w.heap.size < w1.heap.size := L1.out.lt
  go_wp2_with (refine wpList_alloc_told rfl 28 rfl _ set_zero ?_)
  intro w2 H2
  have L2 := hide (show Lies w2 w.heap.size S by rw [H2.out]; exact L1.out.alloc _)
  have Z2 := hide (show Lies w2 w1.heap.size empty by rw [H2.out]; exact lies_new w1 empty)
  have B2 := hide (show Below w.heap.size w w2 by rw [H2.out]; exact B1.out.alloc (by omega) _)
  have hc := L2.out.cell HB.out
  have hf := L2.out.frozen k
  have L3 := hide (L2.out.set (k := k) true)
  have Z3 := hide (Z2.out.other ⟨w.heap.size, k, none⟩ (.bool true) (show w.heap.size ≠ w1.heap.size by omega))
  have B3 := hide (B2.out.setCell (p := ⟨w.heap.size, k, none⟩) (Nat.le_refl _) (.bool true))
  have Hl : Hid ((bcels (S.set k true)).length = 8) := by rw [bcels_length, List.length_set]; exact HS.out
  clear H1 H2 L1 B1
  go_wp2_with fail
  refine (isBlock_in k hk _).mono ?_
  rintro e w' ⟨rfl, rfl⟩
  have HR := hide L3.out.range
  go_wp2_with (first | with_reducible refine wpList_load_mid rfl 28 (.tmp 2) rfl w.heap.size 0 rfl (bcels (S.set k true)) _ HR.out Try.underlying28 rfl (by rw [set_size, Hl.out]) ?_ | with_reducible refine wpList_store_row rfl 28 (.tmp 4) (.tmp 10) rfl w1.heap.size (bcels (S.set k true)).toArray rfl rfl 28 _ Z3.out.heap (by rw [set_size, List.size_toArray, Hl.out]) (by rw [List.size_toArray, List.size_toArray, Hl.out, bcels_length, empty_length]) (all_oneCell_toArray (bcels_one _)) ?_)
  refine bodyPost_ret (v := .agg (bcels (S.set k true)).toArray) (results_cell_row rfl _ _ w1.heap.size 28 _ (0, 0) _ rfl (setRow_heap _ _ _ _ _ _ Z3.out.heap) Try.underlying28 rfl (by rw [set_size, List.size_toArray, Hl.out])) rfl ⟨rfl, below_setRow B3.out (by omega) _⟩

set_option maxHeartbeats 1000000 in
theorem With_out (S : BSet) (hS : S.length = 8) (b : Int) (hb : b < 0 ∨ 8 ≤ b) (w : World) : Calls Try.prog 12 #[val S, .int .i64 b] w fun e w' => e = .returned (val S) ∧ Below w.heap.size w w' := by
  have HI := hide (fun W => isBlock_out b hb W)
  have Hl : Hid ((bcels S).length = 8) := by rw [bcels_length]; exact hS
  clear hS hb
  unfold val
  go_enter Try.func12, Try.ntmps12
  go_wp2_with (refine wpList_box_told rfl 28 (.tmp 0) rfl _ rfl ?_)
  intro w1 H1
  have L1 := hide (show Lies w1 w.heap.size S by rw [H1.out]; exact lies_new w S)
  have B1 := hide (show Below w.heap.size w w1 by rw [H1.out]; exact (Below.refl _ _).alloc (Nat.le_refl _) _)
  have hz1 : w.heap.size < w1.heap.size := L1.out.lt
  go_wp2_with (refine wpList_alloc_told rfl 28 rfl _ set_zero ?_)
  intro w2 H2
  have L2 := hide (show Lies w2 w.heap.size S by rw [H2.out]; exact L1.out.alloc _)
  have Z2 := hide (show Lies w2 w1.heap.size empty by rw [H2.out]; exact lies_new w1 empty)
  have B2 := hide (show Below w.heap.size w w2 by rw [H2.out]; exact B1.out.alloc (by omega) _)
  clear H1 H2 L1 B1
  go_wp2_with fail
  refine (HI.out _).mono ?_
  rintro e w' ⟨rfl, rfl⟩
  have HR := hide L2.out.range
  go_wp2_with (first | with_reducible refine wpList_load_mid rfl 28 (.tmp 2) rfl w.heap.size 0 rfl (bcels S) _ HR.out Try.underlying28 rfl (by rw [set_size, Hl.out]) ?_ | with_reducible refine wpList_store_row rfl 28 (.tmp 4) (.tmp 10) rfl w1.heap.size (bcels S).toArray rfl rfl 28 _ Z2.out.heap (by rw [set_size, List.size_toArray, Hl.out]) (by rw [List.size_toArray, List.size_toArray, Hl.out, bcels_length, empty_length]) (all_oneCell_toArray (bcels_one _)) ?_)
  refine bodyPost_ret (v := .agg (bcels S).toArray) (results_cell_row rfl _ _ w1.heap.size 28 _ (0, 0) _ rfl (setRow_heap _ _ _ _ _ _ Z2.out.heap) Try.underlying28 rfl (by rw [set_size, List.size_toArray, Hl.out])) rfl ⟨rfl, below_setRow B2.out (by omega) _⟩
theorem With_any (S : BSet) (hS : S.length = 8) (b : Int) (w : World) : Calls Try.prog 12 #[val S, .int .i64 b] w fun e w' => e = .returned (val (put S b true)) ∧ Below w.heap.size w w' := by
  by_cases h : 0 ≤ b ∧ b < 8
  · obtain ⟨k, rfl⟩ : ∃ k : Nat, (k : Int) = b := ⟨b.toNat, by omega⟩
    rw [put_in S k true (by omega)]
    exact With_in S hS k (by omega) w
  · rw [put_out S b true (by omega)]
    exact With_out S hS b (by omega) w

set_option maxHeartbeats 1000000 in
theorem Without_in (S : BSet) (hS : S.length = 8) (k : Nat) (hk : k < 8) (w : World) : Calls Try.prog 14 #[val S, .int .i64 k] w fun e w' => e = .returned (val (S.set k false)) ∧ Below w.heap.size w w' := by
  obtain ⟨b, hb⟩ := get_some hS hk
  have HS := hide hS
  have HB := hide hb
  clear hS hb
  unfold val
  go_enter Try.func14, Try.ntmps14
  go_wp2_with (refine wpList_box_told rfl 28 (.tmp 0) rfl _ rfl ?_)
  intro w1 H1
  have L1 := hide (show Lies w1 w.heap.size S by rw [H1.out]; exact lies_new w S)
  have B1 := hide (show Below w.heap.size w w1 by rw [H1.out]; exact (Below.refl _ _).alloc (Nat.le_refl _) _)
  have hz1 : w.heap.size < w1.heap.size := L1.out.lt
  go_wp2_with (refine wpList_alloc_told rfl 28 rfl _ set_zero ?_)
  intro w2 H2
  have L2 := hide (show Lies w2 w.heap.size S by rw [H2.out]; exact L1.out.alloc _)
  have Z2 := hide (show Lies w2 w1.heap.size empty by rw [H2.out]; exact lies_new w1 empty)
  have B2 := hide (show Below w.heap.size w w2 by rw [H2.out]; exact B1.out.alloc (by omega) _)
  have hc := L2.out.cell HB.out
  have hf := L2.out.frozen k
  have L3 := hide (L2.out.set (k := k) false)
  have Z3 := hide (Z2.out.other ⟨w.heap.size, k, none⟩ (.bool false) (show w.heap.size ≠ w1.heap.size by omega))
  have B3 := hide (B2.out.setCell (p := ⟨w.heap.size, k, none⟩) (Nat.le_refl _) (.bool false))
  have Hl : Hid ((bcels (S.set k false)).length = 8) := by rw [bcels_length, List.length_set]; exact HS.out
  clear H1 H2 L1 B1
  go_wp2_with fail
  refine (isBlock_in k hk _).mono ?_
  rintro e w' ⟨rfl, rfl⟩
  have HR := hide L3.out.range
  go_wp2_with (first | with_reducible refine wpList_load_mid rfl 28 (.tmp 2) rfl w.heap.size 0 rfl (bcels (S.set k false)) _ HR.out Try.underlying28 rfl (by rw [set_size, Hl.out]) ?_ | with_reducible refine wpList_store_row rfl 28 (.tmp 4) (.tmp 10) rfl w1.heap.size (bcels (S.set k false)).toArray rfl rfl 28 _ Z3.out.heap (by rw [set_size, List.size_toArray, Hl.out]) (by rw [List.size_toArray, List.size_toArray, Hl.out, bcels_length, empty_length]) (all_oneCell_toArray (bcels_one _)) ?_)
  refine bodyPost_ret (v := .agg (bcels (S.set k false)).toArray) (results_cell_row rfl _ _ w1.heap.size 28 _ (0, 0) _ rfl (setRow_heap _ _ _ _ _ _ Z3.out.heap) Try.underlying28 rfl (by rw [set_size, List.size_toArray, Hl.out])) rfl ⟨rfl, below_setRow B3.out (by omega) _⟩

set_option maxHeartbeats 1000000 in
theorem Without_out (S : BSet) (hS : S.length = 8) (b : Int) (hb : b < 0 ∨ 8 ≤ b) (w : World) : Calls Try.prog 14 #[val S, .int .i64 b] w fun e w' => e = .returned (val S) ∧ Below w.heap.size w w' := by
  have HI := hide (fun W => isBlock_out b hb W)
  have Hl : Hid ((bcels S).length = 8) := by rw [bcels_length]; exact hS
  clear hS hb
  unfold val
  go_enter Try.func14, Try.ntmps14
  go_wp2_with (refine wpList_box_told rfl 28 (.tmp 0) rfl _ rfl ?_)
  intro w1 H1
  have L1 := hide (show Lies w1 w.heap.size S by rw [H1.out]; exact lies_new w S)
  have B1 := hide (show Below w.heap.size w w1 by rw [H1.out]; exact (Below.refl _ _).alloc (Nat.le_refl _) _)
  have hz1 : w.heap.size < w1.heap.size := L1.out.lt
  go_wp2_with (refine wpList_alloc_told rfl 28 rfl _ set_zero ?_)
  intro w2 H2
  have L2 := hide (show Lies w2 w.heap.size S by rw [H2.out]; exact L1.out.alloc _)
  have Z2 := hide (show Lies w2 w1.heap.size empty by rw [H2.out]; exact lies_new w1 empty)
  have B2 := hide (show Below w.heap.size w w2 by rw [H2.out]; exact B1.out.alloc (by omega) _)
  clear H1 H2 L1 B1
  go_wp2_with fail
  refine (HI.out _).mono ?_
  rintro e w' ⟨rfl, rfl⟩
  have HR := hide L2.out.range
  go_wp2_with (first | with_reducible refine wpList_load_mid rfl 28 (.tmp 2) rfl w.heap.size 0 rfl (bcels S) _ HR.out Try.underlying28 rfl (by rw [set_size, Hl.out]) ?_ | with_reducible refine wpList_store_row rfl 28 (.tmp 4) (.tmp 10) rfl w1.heap.size (bcels S).toArray rfl rfl 28 _ Z2.out.heap (by rw [set_size, List.size_toArray, Hl.out]) (by rw [List.size_toArray, List.size_toArray, Hl.out, bcels_length, empty_length]) (all_oneCell_toArray (bcels_one _)) ?_)
  refine bodyPost_ret (v := .agg (bcels S).toArray) (results_cell_row rfl _ _ w1.heap.size 28 _ (0, 0) _ rfl (setRow_heap _ _ _ _ _ _ Z2.out.heap) Try.underlying28 rfl (by rw [set_size, List.size_toArray, Hl.out])) rfl ⟨rfl, below_setRow B2.out (by omega) _⟩
theorem Without_any (S : BSet) (hS : S.length = 8) (b : Int) (w : World) : Calls Try.prog 14 #[val S, .int .i64 b] w fun e w' => e = .returned (val (put S b false)) ∧ Below w.heap.size w w' := by
  by_cases h : 0 ≤ b ∧ b < 8
  · obtain ⟨k, rfl⟩ : ∃ k : Nat, (k : Int) = b := ⟨b.toNat, by omega⟩
    rw [put_in S k false (by omega)]
    exact Without_in S hS k (by omega) w
  · rw [put_out S b false (by omega)]
    exact Without_out S hS b (by omega) w

theorem Has_in (S : BSet) (k : Nat) (b : Bool) (hk : k < 8) (hb : S[k]? = some b) (w : World) : Calls Try.prog 23 #[val S, .int .i64 k] w fun e w' => e = .returned (.bool b) ∧ Below w.heap.size w w' := by
  have HB := hide hb
  clear hb
  unfold val
  go_enter Try.func23, Try.ntmps23
  go_wp2_with (refine wpList_box_told rfl 28 (.tmp 0) rfl _ rfl ?_)
  intro w1 H1
  have hc := (show Lies w1 w.heap.size S by rw [H1.out]; exact lies_new w S).cell HB.out
  have B1 := hide (show Below w.heap.size w w1 by rw [H1.out]; exact (Below.refl _ _).alloc (Nat.le_refl _) _)
  clear H1
  go_wp2_with fail
  refine (isBlock_in k hk _).mono ?_
  rintro e w' ⟨rfl, rfl⟩
  go_wp2
  go_ret
  exact ⟨rfl, B1.out⟩
theorem Has_out (S : BSet) (b : Int) (hb : b < 0 ∨ 8 ≤ b) (w : World) : Calls Try.prog 23 #[val S, .int .i64 b] w fun e w' => e = .returned (.bool false) ∧ Below w.heap.size w w' := by
  have HI := hide (fun W => isBlock_out b hb W)
  clear hb
  unfold val
  go_enter Try.func23, Try.ntmps23
  go_wp2_with (refine wpList_box_told rfl 28 (.tmp 0) rfl _ rfl ?_)
  intro w1 H1
  have B1 := hide (show Below w.heap.size w w1 by rw [H1.out]; exact (Below.refl _ _).alloc (Nat.le_refl _) _)
  clear H1
  go_wp2_with fail
  refine (HI.out _).mono ?_
  rintro e w' ⟨rfl, rfl⟩
  go_wp2
  go_ret
  exact ⟨rfl, B1.out⟩
theorem Has_any (S : BSet) (hS : S.length = 8) (b : Int) (w : World) : Calls Try.prog 23 #[val S, .int .i64 b] w fun e w' => e = .returned (.bool (has S b)) ∧ Below w.heap.size w w' := by
  by_cases h : 0 ≤ b ∧ b < 8
  · obtain ⟨k, rfl⟩ : ∃ k : Nat, (k : Int) = b := ⟨b.toNat, by omega⟩
    obtain ⟨v, hv⟩ := get_some hS (k := k) (by omega)
    rw [has_in S k (by omega), hv]
    exact Has_in S k v (by omega) hv w
  · rw [has_out S b (by omega)]
    exact Has_out S b (by omega) w

end Go.Proofs.Ytmenedndchakjaa.Bt
