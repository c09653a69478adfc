/-
  fault.asFault and fault.asNumber: an error that is itself a fault, or a number; the deferred recover finds nothing. Nothing below is changed. Condition: the library's variable errors.errorType holds its own type's handle.
-/
import Derived.Defers
import Derived.Recover
import Derived.Laws.Pointers
import Derived.Test.YtmbhnhfnimijcaaDoorFaAsAll
namespace Go.Proofs.YtmbhnhfnimijcaaDoor.Fa
open Go.RowKit
open Pk

theorem neq_fault (p : Addr) (w : World) : (binOp .neq 42 (.iface 72 (.pointer (some p))) (.iface 72 (.pointer (some p)))).run Tryd.prog w = .ok (.bool false) w := by
  obtain ⟨i, hi, hic⟩ := Option.map_eq_some_iff.1 (show (Tryd.prog.info? 72).map (·.comparable) = some true by kernel_rfl)
  obtain ⟨j, hj, _⟩ := Option.map_eq_some_iff.1 (show (Tryd.prog.info? 74).map (·.size) = some 3 by kernel_rfl)
  have h : (Op.equalIn 10000 42 (.iface 72 (.pointer (some p))) (.iface 72 (.pointer (some p)))).run Tryd.prog w = .ok true w := run_equalIn_iface_ptr_same (P := Tryd.prog) w 9998 (ti := 42) (tp := 72) (te := 74) p Tryd.underlying42 Tryd.underlying72 hi hic hj
  simp only [binOp]
  simp [Op.equal, Op.maxDepth, h]
theorem eq_int_in (d : Nat) (a b : Int) (w : World) : (Op.equalIn (d + 2) 42 (.iface 59 (.int .i64 a)) (.iface 59 (.int .i64 b))).run Tryd.prog w = .ok (a == b) w := by
  obtain ⟨i, hi, hic⟩ := Option.map_eq_some_iff.1 (show (Tryd.prog.info? 59).map (·.comparable) = some true by kernel_rfl)
  simp [Op.equalIn, run_underlying Tryd.underlying42, run_underlying Tryd.underlying59, typeInfo, hi, hic]
theorem eq_int (a b : Int) (w : World) : (Op.equalIn 10000 42 (.iface 59 (.int .i64 a)) (.iface 59 (.int .i64 b))).run Tryd.prog w = .ok (a == b) w := eq_int_in 9998 a b w
theorem eql_errno (a b : Int) (w : World) : (binOp .eql 42 (.iface 59 (.int .i64 a)) (.iface 59 (.int .i64 b))).run Tryd.prog w = .ok (.bool (a == b)) w := by
  simp only [binOp]
  simp [Op.equal, Op.maxDepth, eq_int]
theorem neq_errno (a : Int) (w : World) : (binOp .neq 42 (.iface 59 (.int .i64 a)) (.iface 59 (.int .i64 a))).run Tryd.prog w = .ok (.bool false) w := by
  simp only [binOp]
  simp [Op.equal, Op.maxDepth, eq_int]

theorem asFault_idle (p : Addr) (w : World) :
    CallsD Tryd.prog 39 #[.pointer (some p)] .returning w fun e u' w' => e = .returned (.tuple #[]) ∧ u' = .returning ∧ w' = w := by
  refine callsD_of_wpS Tryd.func39 rfl fun c₀ cs hu => ?_
  apply wpS_seq
  apply wpS_region
  simp [wpOpsS, go_sem, recoverD, hu, Tryd.ntmps39, Exit.thenS]
  refine wpS_cond (t := false) (by simp [Act.eval, Array.replicate]) ?_
  simp only [Bool.false_eq_true, if_false]
  refine wpS_of_wp (wp_skip ?_)
  cases c₀
  simp_all [bodyPostS, results, Tryd.results39]

theorem asNumber_idle (p : Addr) (w : World) :
    CallsD Tryd.prog 37 #[.pointer (some p)] .returning w fun e u' w' => e = .returned (.tuple #[]) ∧ u' = .returning ∧ w' = w := by
  refine callsD_of_wpS Tryd.func37 rfl fun c₀ cs hu => ?_
  apply wpS_seq
  apply wpS_region
  simp [wpOpsS, go_sem, recoverD, hu, Tryd.ntmps37, Exit.thenS]
  refine wpS_cond (t := false) (by simp [Act.eval, Array.replicate]) ?_
  simp only [Bool.false_eq_true, if_false]
  refine wpS_of_wp (wp_skip ?_)
  cases c₀
  simp_all [bodyPostS, results, Tryd.results37]

set_option maxHeartbeats 1000000 in
theorem asFault_hit (e : Addr) (w : World) (hty : Ety w) :
    Calls Tryd.prog 35 #[.iface 72 (.pointer (some e))] w fun r w' => r = .returned (.pointer (some e)) ∧ Below w.heap.size w w' := by
  have hmf : ∀ (fn : Fn) (first cap : Array Value) (w : World), (Instr.makeFunc fn first cap).run Tryd.prog w = .ok (.func fn first cap) w := fun _ _ _ _ => rfl
  have hg : ((w.alloc (.cells #[.pointer none] 72)).heap)[w.heap.size]? = some (.cells #[.pointer none] 72 (0, 0)) := heap_alloc_new w _
  have hb1 : Below w.heap.size w (w.alloc (.cells #[.pointer none] 72)) := (Below.refl _ _).alloc (Nat.le_refl _) _
  have HA := hide (As_hitF e w.heap.size (.pointer none) (w.alloc (.cells #[.pointer none] 72)) (hty.below hb1 hty.lt) hg)
  have HB := hide hb1
  have hn := neq_fault e
  clear hg hb1 hty
  go_enter_defers Tryd.func35, Tryd.ntmps35
  go_wp2_with (go_at_call 38; refine HA.out.mono ?_)
  rintro r w2 ⟨rfl, hg2, hgr⟩
  have hc := one_cell hg2
  have hf := one_free hg2
  have HG := hide hg2
  have HGR := hide hgr
  clear hg2 hgr
  go_wp2
  refine leaves_cons (f := 39) (args := #[.pointer (some ⟨w.heap.size, 0, none⟩)]) (by simp) (by simp [go_sem]) ?_
  refine (asFault_idle ⟨w.heap.size, 0, none⟩ _).mono ?_
  rintro e' u' w'' ⟨rfl, rfl, rfl⟩
  simp [Leaves, settle, results, Tryd.results35, go_sem, hc]
  exact (Below.grown HB.out HGR.out (by simp) (fun k hk => by cases hk; exact Nat.le_refl _)).setCell (p := ⟨w.heap.size, 0, none⟩) (Nat.le_refl _) _

set_option maxHeartbeats 1000000 in
theorem asFault_N (v : Value) (w : World) (hty : Ety w) :
    Calls Tryd.prog 35 #[.iface 59 v] w fun r w' => r = .returned (.pointer none) ∧ Below w.heap.size w w' := by
  have hmf : ∀ (fn : Fn) (first cap : Array Value) (w : World), (Instr.makeFunc fn first cap).run Tryd.prog w = .ok (.func fn first cap) w := fun _ _ _ _ => rfl
  have hg : ((w.alloc (.cells #[.pointer none] 72)).heap)[w.heap.size]? = some (.cells #[.pointer none] 72 (0, 0)) := heap_alloc_new w _
  have hb1 : Below w.heap.size w (w.alloc (.cells #[.pointer none] 72)) := (Below.refl _ _).alloc (Nat.le_refl _) _
  have HA := hide (As_missFN v w.heap.size (.pointer none) (w.alloc (.cells #[.pointer none] 72)) (hty.below hb1 hty.lt) hg)
  have HB := hide hb1
  have HG := hide hg
  clear hg hb1 hty
  go_enter_defers Tryd.func35, Tryd.ntmps35
  go_wp2_with (go_at_call 38; refine HA.out.mono ?_)
  rintro r w2 ⟨rfl, hbl⟩
  have hg2 := (hbl.block _ (by simp)).trans HG.out
  have HL := hide hbl
  have hc := one_cell hg2
  have hf := one_free hg2
  clear hg2 hbl
  go_wp2
  refine leaves_cons (f := 39) (args := #[.pointer (some ⟨w.heap.size, 0, none⟩)]) (by simp) (by simp [go_sem]) ?_
  refine (asFault_idle ⟨w.heap.size, 0, none⟩ _).mono ?_
  rintro e' u' w'' ⟨rfl, rfl, rfl⟩
  simp [Leaves, settle, results, Tryd.results35, go_sem, hc]
  exact (HB.out.trans (HL.out.mono HB.out.size)).setCell (p := ⟨w.heap.size, 0, none⟩) (Nat.le_refl _) _

set_option maxHeartbeats 1000000 in
theorem asFault_nil (w : World) :
    Calls Tryd.prog 35 #[.nilIface] w fun r w' => r = .returned (.pointer none) ∧ Below w.heap.size w w' := by
  have hmf : ∀ (fn : Fn) (first cap : Array Value) (w : World), (Instr.makeFunc fn first cap).run Tryd.prog w = .ok (.func fn first cap) w := fun _ _ _ _ => rfl
  have hg : ((w.alloc (.cells #[.pointer none] 72)).heap)[w.heap.size]? = some (.cells #[.pointer none] 72 (0, 0)) := heap_alloc_new w _
  have hb1 : Below w.heap.size w (w.alloc (.cells #[.pointer none] 72)) := (Below.refl _ _).alloc (Nat.le_refl _) _
  have HA := hide (As_nil (.iface 95 (.pointer (some ⟨w.heap.size, 0, none⟩))) (w.alloc (.cells #[.pointer none] 72)))
  have HB := hide hb1
  have HG := hide hg
  clear hg hb1 
  go_enter_defers Tryd.func35, Tryd.ntmps35
  go_wp2_with (go_at_call 38; refine HA.out.mono ?_)
  rintro r w2 ⟨rfl, rfl⟩
  have hg2 := HG.out
  have hc := one_cell hg2
  have hf := one_free hg2
  clear hg2 
  go_wp2
  refine leaves_cons (f := 39) (args := #[.pointer (some ⟨w.heap.size, 0, none⟩)]) (by simp) (by simp [go_sem]) ?_
  refine (asFault_idle ⟨w.heap.size, 0, none⟩ _).mono ?_
  rintro e' u' w'' ⟨rfl, rfl, rfl⟩
  simp [Leaves, settle, results, Tryd.results35, go_sem, hc]
  exact HB.out

set_option maxHeartbeats 1000000 in
theorem asNumber_hit (e : Int) (w : World) (hty : Ety w) :
    Calls Tryd.prog 31 #[.iface 59 (.int .i64 e)] w fun r w' => r = .returned (.int .i64 e) ∧ Below w.heap.size w w' := by
  have hmf : ∀ (fn : Fn) (first cap : Array Value) (w : World), (Instr.makeFunc fn first cap).run Tryd.prog w = .ok (.func fn first cap) w := fun _ _ _ _ => rfl
  have hg : ((w.alloc (.cells #[.int .i64 0] 59)).heap)[w.heap.size]? = some (.cells #[.int .i64 0] 59 (0, 0)) := heap_alloc_new w _
  have hb1 : Below w.heap.size w (w.alloc (.cells #[.int .i64 0] 59)) := (Below.refl _ _).alloc (Nat.le_refl _) _
  have HA := hide (As_hitN e w.heap.size (.int .i64 0) (w.alloc (.cells #[.int .i64 0] 59)) (hty.below hb1 hty.lt) hg)
  have HB := hide hb1
  have hn := neq_errno e
  clear hg hb1 hty
  go_enter_defers Tryd.func31, Tryd.ntmps31
  go_wp2_with (go_at_call 38; refine HA.out.mono ?_)
  rintro r w2 ⟨rfl, hg2, hgr⟩
  have hc := one_cell hg2
  have hf := one_free hg2
  have HG := hide hg2
  have HGR := hide hgr
  clear hg2 hgr
  go_wp2
  refine leaves_cons (f := 37) (args := #[.pointer (some ⟨w.heap.size, 0, none⟩)]) (by simp) (by simp [go_sem]) ?_
  refine (asNumber_idle ⟨w.heap.size, 0, none⟩ _).mono ?_
  rintro e' u' w'' ⟨rfl, rfl, rfl⟩
  simp [Leaves, settle, results, Tryd.results31, go_sem, hc]
  exact (Below.grown HB.out HGR.out (by simp) (fun k hk => by cases hk; exact Nat.le_refl _)).setCell (p := ⟨w.heap.size, 0, none⟩) (Nat.le_refl _) _

set_option maxHeartbeats 1000000 in
theorem asNumber_nil (w : World) :
    Calls Tryd.prog 31 #[.nilIface] w fun r w' => r = .returned (.int .i64 0) ∧ Below w.heap.size w w' := by
  have hmf : ∀ (fn : Fn) (first cap : Array Value) (w : World), (Instr.makeFunc fn first cap).run Tryd.prog w = .ok (.func fn first cap) w := fun _ _ _ _ => rfl
  have hg : ((w.alloc (.cells #[.int .i64 0] 59)).heap)[w.heap.size]? = some (.cells #[.int .i64 0] 59 (0, 0)) := heap_alloc_new w _
  have hb1 : Below w.heap.size w (w.alloc (.cells #[.int .i64 0] 59)) := (Below.refl _ _).alloc (Nat.le_refl _) _
  have HA := hide (As_nil (.iface 84 (.pointer (some ⟨w.heap.size, 0, none⟩))) (w.alloc (.cells #[.int .i64 0] 59)))
  have HB := hide hb1
  have HG := hide hg
  clear hg hb1 
  go_enter_defers Tryd.func31, Tryd.ntmps31
  go_wp2_with (go_at_call 38; refine HA.out.mono ?_)
  rintro r w2 ⟨rfl, rfl⟩
  have hg2 := HG.out
  have hc := one_cell hg2
  have hf := one_free hg2
  clear hg2 
  go_wp2
  refine leaves_cons (f := 37) (args := #[.pointer (some ⟨w.heap.size, 0, none⟩)]) (by simp) (by simp [go_sem]) ?_
  refine (asNumber_idle ⟨w.heap.size, 0, none⟩ _).mono ?_
  rintro e' u' w'' ⟨rfl, rfl, rfl⟩
  simp [Leaves, settle, results, Tryd.results31, go_sem, hc]
  exact HB.out

end Go.Proofs.YtmbhnhfnimijcaaDoor.Fa
