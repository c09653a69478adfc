/-
  fault.asFault and fault.asNumber: an error that is itself a fault, or a number; the deferred recover finds nothing. Nothing below is changed. Condition: the library's variable errors.errorType holds its own type's handle.
-/
import Derived.Defers
import Derived.Recover
import Derived.Laws.Pointers
import Derived.Test.YthoflpjmdhabmaaDoorFaAsAll
namespace Go.Proofs.YthoflpjmdhabmaaDoor.Fa
open Go.RowKit
open Pk

theorem neq_fault (p : Addr) (w : World) : (binOp .neq 27 (.iface 86 (.pointer (some p))) (.iface 86 (.pointer (some p)))).run Tryd.prog w = .ok (.bool false) w := by
  obtain ⟨i, hi, hic⟩ := Option.map_eq_some_iff.1 (show (Tryd.prog.info? 86).map (·.comparable) = some true by kernel_rfl)
  obtain ⟨j, hj, _⟩ := Option.map_eq_some_iff.1 (show (Tryd.prog.info? 88).map (·.size) = some 3 by kernel_rfl)
  have h : (Op.equalIn 10000 27 (.iface 86 (.pointer (some p))) (.iface 86 (.pointer (some p)))).run Tryd.prog w = .ok true w := run_equalIn_iface_ptr_same (P := Tryd.prog) w 9998 (ti := 27) (tp := 86) (te := 88) p Tryd.underlying27 Tryd.underlying86 hi hic hj
  simp only [binOp]
  simp [Op.equal, Op.maxDepth, h]
theorem eq_int_in (d : Nat) (a b : Int) (w : World) : (Op.equalIn (d + 2) 27 (.iface 52 (.int .i64 a)) (.iface 52 (.int .i64 b))).run Tryd.prog w = .ok (a == b) w := by
  obtain ⟨i, hi, hic⟩ := Option.map_eq_some_iff.1 (show (Tryd.prog.info? 52).map (·.comparable) = some true by kernel_rfl)
  simp [Op.equalIn, run_underlying Tryd.underlying27, run_underlying Tryd.underlying52, typeInfo, hi, hic]
theorem eq_int (a b : Int) (w : World) : (Op.equalIn 10000 27 (.iface 52 (.int .i64 a)) (.iface 52 (.int .i64 b))).run Tryd.prog w = .ok (a == b) w := eq_int_in 9998 a b w
theorem eql_errno (a b : Int) (w : World) : (binOp .eql 27 (.iface 52 (.int .i64 a)) (.iface 52 (.int .i64 b))).run Tryd.prog w = .ok (.bool (a == b)) w := by
  simp only [binOp]
  simp [Op.equal, Op.maxDepth, eq_int]
theorem neq_errno (a : Int) (w : World) : (binOp .neq 27 (.iface 52 (.int .i64 a)) (.iface 52 (.int .i64 a))).run Tryd.prog w = .ok (.bool false) w := by
  simp only [binOp]
  simp [Op.equal, Op.maxDepth, eq_int]

theorem asFault_idle (p : Addr) (w : World) :
    CallsD Tryd.prog 65 #[.pointer (some p)] .returning w fun e u' w' => e = .returned (.tuple #[]) ∧ u' = .returning ∧ w' = w := by
  refine callsD_of_wpS Tryd.func65 rfl fun c₀ cs hu => ?_
  apply wpS_seq
  apply wpS_region
  simp [wpOpsS, go_sem, recoverD, hu, Tryd.ntmps65, Exit.thenS]
  refine wpS_cond (t := false) (by simp [Act.eval, Array.replicate]) ?_
  simp only [Bool.false_eq_true, if_false]
  refine wpS_of_wp (wp_skip ?_)
  cases c₀
  simp_all [bodyPostS, results, Tryd.results65]

theorem asNumber_idle (p : Addr) (w : World) :
    CallsD Tryd.prog 59 #[.pointer (some p)] .returning w fun e u' w' => e = .returned (.tuple #[]) ∧ u' = .returning ∧ w' = w := by
  refine callsD_of_wpS Tryd.func59 rfl fun c₀ cs hu => ?_
  apply wpS_seq
  apply wpS_region
  simp [wpOpsS, go_sem, recoverD, hu, Tryd.ntmps59, Exit.thenS]
  refine wpS_cond (t := false) (by simp [Act.eval, Array.replicate]) ?_
  simp only [Bool.false_eq_true, if_false]
  refine wpS_of_wp (wp_skip ?_)
  cases c₀
  simp_all [bodyPostS, results, Tryd.results59]

set_option maxHeartbeats 1000000 in
theorem asFault_hit (e : Addr) (w : World) (hty : Ety w) :
    Calls Tryd.prog 57 #[.iface 86 (.pointer (some e))] w fun r w' => r = .returned (.pointer (some e)) ∧ Below w.heap.size w w' := by
  have hmf : ∀ (fn : Fn) (first cap : Array Value) (w : World), (Instr.makeFunc fn first cap).run Tryd.prog w = .ok (.func fn first cap) w := fun _ _ _ _ => rfl
  have hg : ((w.alloc (.cells #[.pointer none] 86)).heap)[w.heap.size]? = some (.cells #[.pointer none] 86 (0, 0)) := heap_alloc_new w _
  have hb1 : Below w.heap.size w (w.alloc (.cells #[.pointer none] 86)) := (Below.refl _ _).alloc (Nat.le_refl _) _
  have HA := hide (As_hitF e w.heap.size (.pointer none) (w.alloc (.cells #[.pointer none] 86)) (hty.below hb1 hty.lt) hg)
  have HB := hide hb1
  have hn := neq_fault e
  clear hg hb1 hty
  go_enter_defers Tryd.func57, Tryd.ntmps57
  go_wp2_with (go_at_call 60; refine HA.out.mono ?_)
  rintro r w2 ⟨rfl, hg2, hgr⟩
  have hc := one_cell hg2
  have hf := one_free hg2
  have HG := hide hg2
  have HGR := hide hgr
  clear hg2 hgr
  go_wp2
  refine leaves_cons (f := 65) (args := #[.pointer (some ⟨w.heap.size, 0, none⟩)]) (by simp) (by simp [go_sem]) ?_
  refine (asFault_idle ⟨w.heap.size, 0, none⟩ _).mono ?_
  rintro e' u' w'' ⟨rfl, rfl, rfl⟩
  simp [Leaves, settle, results, Tryd.results57, go_sem, hc]
  exact (Below.grown HB.out HGR.out (by simp) (fun k hk => by cases hk; exact Nat.le_refl _)).setCell (p := ⟨w.heap.size, 0, none⟩) (Nat.le_refl _) _

set_option maxHeartbeats 1000000 in
theorem asFault_N (v : Value) (w : World) (hty : Ety w) :
    Calls Tryd.prog 57 #[.iface 52 v] w fun r w' => r = .returned (.pointer none) ∧ Below w.heap.size w w' := by
  have hmf : ∀ (fn : Fn) (first cap : Array Value) (w : World), (Instr.makeFunc fn first cap).run Tryd.prog w = .ok (.func fn first cap) w := fun _ _ _ _ => rfl
  have hg : ((w.alloc (.cells #[.pointer none] 86)).heap)[w.heap.size]? = some (.cells #[.pointer none] 86 (0, 0)) := heap_alloc_new w _
  have hb1 : Below w.heap.size w (w.alloc (.cells #[.pointer none] 86)) := (Below.refl _ _).alloc (Nat.le_refl _) _
  have HA := hide (As_missFN v w.heap.size (.pointer none) (w.alloc (.cells #[.pointer none] 86)) (hty.below hb1 hty.lt) hg)
  have HB := hide hb1
  have HG := hide hg
  clear hg hb1 hty
  go_enter_defers Tryd.func57, Tryd.ntmps57
  go_wp2_with (go_at_call 60; refine HA.out.mono ?_)
  rintro r w2 ⟨rfl, hbl⟩
  have hg2 := (hbl.block _ (by simp)).trans HG.out
  have HL := hide hbl
  have hc := one_cell hg2
  have hf := one_free hg2
  clear hg2 hbl
  go_wp2
  refine leaves_cons (f := 65) (args := #[.pointer (some ⟨w.heap.size, 0, none⟩)]) (by simp) (by simp [go_sem]) ?_
  refine (asFault_idle ⟨w.heap.size, 0, none⟩ _).mono ?_
  rintro e' u' w'' ⟨rfl, rfl, rfl⟩
  simp [Leaves, settle, results, Tryd.results57, go_sem, hc]
  exact (HB.out.trans (HL.out.mono HB.out.size)).setCell (p := ⟨w.heap.size, 0, none⟩) (Nat.le_refl _) _

set_option maxHeartbeats 1000000 in
theorem asFault_nil (w : World) :
    Calls Tryd.prog 57 #[.nilIface] w fun r w' => r = .returned (.pointer none) ∧ Below w.heap.size w w' := by
  have hmf : ∀ (fn : Fn) (first cap : Array Value) (w : World), (Instr.makeFunc fn first cap).run Tryd.prog w = .ok (.func fn first cap) w := fun _ _ _ _ => rfl
  have hg : ((w.alloc (.cells #[.pointer none] 86)).heap)[w.heap.size]? = some (.cells #[.pointer none] 86 (0, 0)) := heap_alloc_new w _
  have hb1 : Below w.heap.size w (w.alloc (.cells #[.pointer none] 86)) := (Below.refl _ _).alloc (Nat.le_refl _) _
  have HA := hide (As_nil (.iface 104 (.pointer (some ⟨w.heap.size, 0, none⟩))) (w.alloc (.cells #[.pointer none] 86)))
  have HB := hide hb1
  have HG := hide hg
  clear hg hb1 
  go_enter_defers Tryd.func57, Tryd.ntmps57
  go_wp2_with (go_at_call 60; refine HA.out.mono ?_)
  rintro r w2 ⟨rfl, rfl⟩
  have hg2 := HG.out
  have hc := one_cell hg2
  have hf := one_free hg2
  clear hg2 
  go_wp2
  refine leaves_cons (f := 65) (args := #[.pointer (some ⟨w.heap.size, 0, none⟩)]) (by simp) (by simp [go_sem]) ?_
  refine (asFault_idle ⟨w.heap.size, 0, none⟩ _).mono ?_
  rintro e' u' w'' ⟨rfl, rfl, rfl⟩
  simp [Leaves, settle, results, Tryd.results57, go_sem, hc]
  exact HB.out

set_option maxHeartbeats 1000000 in
theorem asNumber_hit (e : Int) (w : World) (hty : Ety w) :
    Calls Tryd.prog 46 #[.iface 52 (.int .i64 e)] w fun r w' => r = .returned (.int .i64 e) ∧ Below w.heap.size w w' := by
  have hmf : ∀ (fn : Fn) (first cap : Array Value) (w : World), (Instr.makeFunc fn first cap).run Tryd.prog w = .ok (.func fn first cap) w := fun _ _ _ _ => rfl
  have hg : ((w.alloc (.cells #[.int .i64 0] 52)).heap)[w.heap.size]? = some (.cells #[.int .i64 0] 52 (0, 0)) := heap_alloc_new w _
  have hb1 : Below w.heap.size w (w.alloc (.cells #[.int .i64 0] 52)) := (Below.refl _ _).alloc (Nat.le_refl _) _
  have HA := hide (As_hitN e w.heap.size (.int .i64 0) (w.alloc (.cells #[.int .i64 0] 52)) (hty.below hb1 hty.lt) hg)
  have HB := hide hb1
  have hn := neq_errno e
  clear hg hb1 hty
  go_enter_defers Tryd.func46, Tryd.ntmps46
  go_wp2_with (go_at_call 60; refine HA.out.mono ?_)
  rintro r w2 ⟨rfl, hg2, hgr⟩
  have hc := one_cell hg2
  have hf := one_free hg2
  have HG := hide hg2
  have HGR := hide hgr
  clear hg2 hgr
  go_wp2
  refine leaves_cons (f := 59) (args := #[.pointer (some ⟨w.heap.size, 0, none⟩)]) (by simp) (by simp [go_sem]) ?_
  refine (asNumber_idle ⟨w.heap.size, 0, none⟩ _).mono ?_
  rintro e' u' w'' ⟨rfl, rfl, rfl⟩
  simp [Leaves, settle, results, Tryd.results46, go_sem, hc]
  exact (Below.grown HB.out HGR.out (by simp) (fun k hk => by cases hk; exact Nat.le_refl _)).setCell (p := ⟨w.heap.size, 0, none⟩) (Nat.le_refl _) _

set_option maxHeartbeats 1000000 in
theorem asNumber_nil (w : World) :
    Calls Tryd.prog 46 #[.nilIface] w fun r w' => r = .returned (.int .i64 0) ∧ Below w.heap.size w w' := by
  have hmf : ∀ (fn : Fn) (first cap : Array Value) (w : World), (Instr.makeFunc fn first cap).run Tryd.prog w = .ok (.func fn first cap) w := fun _ _ _ _ => rfl
  have hg : ((w.alloc (.cells #[.int .i64 0] 52)).heap)[w.heap.size]? = some (.cells #[.int .i64 0] 52 (0, 0)) := heap_alloc_new w _
  have hb1 : Below w.heap.size w (w.alloc (.cells #[.int .i64 0] 52)) := (Below.refl _ _).alloc (Nat.le_refl _) _
  have HA := hide (As_nil (.iface 99 (.pointer (some ⟨w.heap.size, 0, none⟩))) (w.alloc (.cells #[.int .i64 0] 52)))
  have HB := hide hb1
  have HG := hide hg
  clear hg hb1 
  go_enter_defers Tryd.func46, Tryd.ntmps46
  go_wp2_with (go_at_call 60; refine HA.out.mono ?_)
  rintro r w2 ⟨rfl, rfl⟩
  have hg2 := HG.out
  have hc := one_cell hg2
  have hf := one_free hg2
  clear hg2 
  go_wp2
  refine leaves_cons (f := 59) (args := #[.pointer (some ⟨w.heap.size, 0, none⟩)]) (by simp) (by simp [go_sem]) ?_
  refine (asNumber_idle ⟨w.heap.size, 0, none⟩ _).mono ?_
  rintro e' u' w'' ⟨rfl, rfl, rfl⟩
  simp [Leaves, settle, results, Tryd.results46, go_sem, hc]
  exact HB.out

end Go.Proofs.YthoflpjmdhabmaaDoor.Fa
