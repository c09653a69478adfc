/-
  errors.As at the targets **fault.Fault and *api.Errno, walked through Go's own text: what it finds in nil, in an api.Errno, in an error of errors.New and in a fault, and what it sets. Nothing below the target's own block is changed. Condition: the library's variable errors.errorType holds its own type's handle.
-/
import Derived.Test.YtmbhnhfnimijcaaDoorFaFacts
import Derived.Below
namespace Go.Proofs.YtmbhnhfnimijcaaDoor.Fa
open Go.RowKit Go.Extern.Stop Go.Stop Go.Extern
open Pk

theorem cell_lt {w : World} {p : Addr} {v : Value} (h : w.cell? p = some v) : p.block < w.heap.size := by
  rcases Nat.lt_or_ge p.block w.heap.size with h' | h'
  · exact h'
  · simp [World.cell?, Array.getElem?_eq_none h'] at h

theorem ext_valueOf (args : Array Value) (w : World) : (callFunc 40 args).run Tryd.prog w = ((((fun args => ReflectliteValue.unpack (args.getD 0 (.tuple #[])))) args).run Tryd.prog w).andThen fun v w' => .ok (.value v) w' :=
  run_callFunc_extern (e := (fun args => ReflectliteValue.unpack (args.getD 0 (.tuple #[])))) Tryd.func40 (by kernel_rfl) (by kernel_rfl) (by kernel_rfl) (by kernel_rfl) args w
theorem ext_type (args : Array Value) (w : World) : (callFunc 41 args).run Tryd.prog w = ((((ReflectliteValue.methodAny (ReflectliteValue.valueError "reflectlite.Value.Type" 0) (fun t _ _ _ => ReflectliteType.toType t))) args).run Tryd.prog w).andThen fun v w' => .ok (.value v) w' :=
  run_callFunc_extern (e := (ReflectliteValue.methodAny (ReflectliteValue.valueError "reflectlite.Value.Type" 0) (fun t _ _ _ => ReflectliteType.toType t))) Tryd.func41 (by kernel_rfl) (by kernel_rfl) (by kernel_rfl) (by kernel_rfl) args w
theorem ext_isNil (args : Array Value) (w : World) : (callFunc 42 args).run Tryd.prog w = ((((ReflectliteValue.method (ReflectliteValue.valueError "reflectlite.Value.IsNil" 0) ReflectliteValue.isNil)) args).run Tryd.prog w).andThen fun v w' => .ok (.value v) w' :=
  run_callFunc_extern (e := (ReflectliteValue.method (ReflectliteValue.valueError "reflectlite.Value.IsNil" 0) ReflectliteValue.isNil)) Tryd.func42 (by kernel_rfl) (by kernel_rfl) (by kernel_rfl) (by kernel_rfl) args w
theorem ext_kind (args : Array Value) (w : World) : (callFunc 60 args).run Tryd.prog w = ((((ReflectliteType.abiMethod fun t => do pure (.int .u8 (← Rtype.kind t)))) args).run Tryd.prog w).andThen fun v w' => .ok (.value v) w' :=
  run_callFunc_extern (e := (ReflectliteType.abiMethod fun t => do pure (.int .u8 (← Rtype.kind t)))) Tryd.func60 (by kernel_rfl) (by kernel_rfl) (by kernel_rfl) (by kernel_rfl) args w
theorem ext_elem (args : Array Value) (w : World) : (callFunc 68 args).run Tryd.prog w = ((((ReflectliteType.method ReflectliteType.elem)) args).run Tryd.prog w).andThen fun v w' => .ok (.value v) w' :=
  run_callFunc_extern (e := (ReflectliteType.method ReflectliteType.elem)) Tryd.func68 (by kernel_rfl) (by kernel_rfl) (by kernel_rfl) (by kernel_rfl) args w
theorem ext_impl (args : Array Value) (w : World) : (callFunc 69 args).run Tryd.prog w = ((((ReflectliteType.relation "Implements" ReflectliteType.implements_)) args).run Tryd.prog w).andThen fun v w' => .ok (.value v) w' :=
  run_callFunc_extern (e := (ReflectliteType.relation "Implements" ReflectliteType.implements_)) Tryd.func69 (by kernel_rfl) (by kernel_rfl) (by kernel_rfl) (by kernel_rfl) args w
theorem ext_typeOf (args : Array Value) (w : World) : (callFunc 33 args).run Tryd.prog w = (((ReflectliteType.typeOf) args).run Tryd.prog w).andThen fun v w' => .ok (.value v) w' :=
  run_callFunc_extern (e := ReflectliteType.typeOf) Tryd.func33 (by kernel_rfl) (by kernel_rfl) (by kernel_rfl) (by kernel_rfl) args w
theorem ext_asg (args : Array Value) (w : World) : (callFunc 66 args).run Tryd.prog w = ((((ReflectliteType.relation "AssignableTo" ReflectliteType.assignableTo)) args).run Tryd.prog w).andThen fun v w' => .ok (.value v) w' :=
  run_callFunc_extern (e := (ReflectliteType.relation "AssignableTo" ReflectliteType.assignableTo)) Tryd.func66 (by kernel_rfl) (by kernel_rfl) (by kernel_rfl) (by kernel_rfl) args w
theorem ext_elemV (args : Array Value) (w : World) : (callFunc 44 args).run Tryd.prog w = ((((ReflectliteValue.method (ReflectliteValue.valueError "reflectlite.Value.Elem" 0) ReflectliteValue.elem)) args).run Tryd.prog w).andThen fun v w' => .ok (.value v) w' :=
  run_callFunc_extern (e := (ReflectliteValue.method (ReflectliteValue.valueError "reflectlite.Value.Elem" 0) ReflectliteValue.elem)) Tryd.func44 (by kernel_rfl) (by kernel_rfl) (by kernel_rfl) (by kernel_rfl) args w
theorem ext_set (args : Array Value) (w : World) : (callFunc 45 args).run Tryd.prog w = (((ReflectliteValue.set) args).run Tryd.prog w).andThen fun v w' => .ok (.value v) w' :=
  run_callFunc_extern (e := ReflectliteValue.set) Tryd.func45 (by kernel_rfl) (by kernel_rfl) (by kernel_rfl) (by kernel_rfl) args w

/-- errors.As(nil, target). -/
theorem As_nil (t : Value) (w : World) :
    Calls Tryd.prog 38 #[.nilIface, t] w fun e w' => e = .returned (.bool false) ∧ w' = w := by
  go_enter Tryd.func38, Tryd.ntmps38
  go_wp2
  go_ret
  exact ⟨rfl, rfl⟩

/-- Unwrap of a fault. -/
theorem Unwrap_any (p : Nat) (op : ByteArray) (n : Int) (e : Value) (w : World) (hp : w.heap[p]? = some (.cells #[.string op, .int .i64 n, e] 74 (0, 0))) :
    Calls Tryd.prog 36 #[.pointer (some ⟨p, 0, none⟩)] w fun r w' => r = .returned e ∧ w' = w := by
  have hc : w.cell? ⟨p, 2, none⟩ = some e := by simp [World.cell?, hp]
  clear hp
  go_enter Tryd.func36, Tryd.ntmps36
  go_wp2
  go_ret
  exact ⟨rfl, rfl⟩
theorem Unwrap_nil (w : World) : Calls Tryd.prog 36 #[.pointer none] w fun r w' => r = .returned .nilIface ∧ w' = w := by
  go_enter Tryd.func36, Tryd.ntmps36
  go_wp2
  go_ret
  exact ⟨rfl, rfl⟩

set_option maxHeartbeats 1000000 in
set_option maxRecDepth 100000 in
theorem as_hitF (e : Addr) (t a : Addr) (old : Value) (w : World) (ha : w.cell? a = some (.pointer (some t))) (ht0 : w.cell? t = some old) (hf0 : w.frozen? t = false) :
    Calls Tryd.prog 43 #[.iface 72 (.pointer (some e)), .iface 95 (.pointer (some t)), .agg #[.pointer (some ⟨1, 95, none⟩), .pointer (some a), .int .u64 150], .iface 86 (.agg #[.pointer (some ⟨1, 72, none⟩)])] w fun r w' => r = .returned (.bool true) ∧ w' = ((w.alloc (.cells #[.pointer (some ⟨1, 95, none⟩), .pointer (some a), .int .u64 150] 99)).alloc (.cells #[.pointer (some e)] 72)).setCell t (.pointer (some e)) := by
  have h36 := ext_typeOf
  have h35 := ext_asg
  have mA := methodAssignableTo
  have tO := typeOfF
  have aS := assignFF
  have h44 := ext_elemV
  have h32 := ext_valueOf
  have h45 := ext_set
  have vO := valueOfF
  have hal : a.block < w.heap.size := cell_lt ha
  have htl : t.block < w.heap.size := cell_lt ht0
  have el := elemVPF a t (w.alloc (.cells #[.pointer (some ⟨1, 95, none⟩), .pointer (some a), .int .u64 150] 99)) (by rw [World.cell?_alloc_lt _ _ a hal]; exact ha)
  have st := setF t ⟨w.heap.size + 1, 0, none⟩ e old ((w.alloc (.cells #[.pointer (some ⟨1, 95, none⟩), .pointer (some a), .int .u64 150] 99)).alloc (.cells #[.pointer (some e)] 72))
    (by rw [World.cell?_alloc_at _ _ _ _ (by simp)]; rfl)
    (by rw [World.cell?_alloc_lt _ _ t (by simp; omega), World.cell?_alloc_lt _ _ t htl]; exact ht0)
    (by rw [World.frozen?_alloc_old _ _ t (by simp; omega), World.frozen?_alloc_old _ _ t (Nat.ne_of_lt htl)]; exact hf0)
  clear ha ht0 hf0
  go_enter Tryd.func43, Tryd.ntmps43
  go_wp2
  refine wp_loop_rounds 1 ?_
  rw [rounds_succ]
  go_wp2
  go_ret
  exact ⟨rfl, rfl⟩

set_option maxHeartbeats 1000000 in
set_option maxRecDepth 100000 in
theorem as_missFN (v : Value) (t a : Addr) (w : World) :
    Calls Tryd.prog 43 #[.iface 59 v, .iface 95 (.pointer (some t)), .agg #[.pointer (some ⟨1, 95, none⟩), .pointer (some a), .int .u64 150], .iface 86 (.agg #[.pointer (some ⟨1, 72, none⟩)])] w fun r w' => r = .returned (.bool false) ∧ w' = (w.alloc (.cells #[.pointer (some ⟨1, 95, none⟩), .pointer (some a), .int .u64 150] 99)) := by
  have h36 := ext_typeOf
  have h35 := ext_asg
  have mA := methodAssignableTo
  have tO := typeOfN
  have aS := assignNF
  have n1 := noAsN
  have n2 := noUnwrapN
  have n3 := noUnwrapsN
  go_enter Tryd.func43, Tryd.ntmps43
  go_wp2
  refine wp_loop_rounds 1 ?_
  rw [rounds_succ]
  go_wp2
  go_ret
  exact ⟨rfl, rfl⟩

set_option maxHeartbeats 1000000 in
set_option maxRecDepth 100000 in
theorem as_hitN (e : Int) (t a : Addr) (old : Value) (w : World) (ha : w.cell? a = some (.pointer (some t))) (ht0 : w.cell? t = some old) (hf0 : w.frozen? t = false) :
    Calls Tryd.prog 43 #[.iface 59 (.int .i64 e), .iface 84 (.pointer (some t)), .agg #[.pointer (some ⟨1, 84, none⟩), .pointer (some a), .int .u64 150], .iface 86 (.agg #[.pointer (some ⟨1, 59, none⟩)])] w fun r w' => r = .returned (.bool true) ∧ w' = ((w.alloc (.cells #[.pointer (some ⟨1, 84, none⟩), .pointer (some a), .int .u64 150] 99)).alloc (.cells #[.int .i64 e] 59)).setCell t (.int .i64 e) := by
  have h36 := ext_typeOf
  have h35 := ext_asg
  have mA := methodAssignableTo
  have tO := typeOfN
  have aS := assignNN
  have h44 := ext_elemV
  have h32 := ext_valueOf
  have h45 := ext_set
  have vO := valueOfN
  have hal : a.block < w.heap.size := cell_lt ha
  have htl : t.block < w.heap.size := cell_lt ht0
  have el := elemVPN a t (w.alloc (.cells #[.pointer (some ⟨1, 84, none⟩), .pointer (some a), .int .u64 150] 99)) (by rw [World.cell?_alloc_lt _ _ a hal]; exact ha)
  have st := setN t ⟨w.heap.size + 1, 0, none⟩ e old ((w.alloc (.cells #[.pointer (some ⟨1, 84, none⟩), .pointer (some a), .int .u64 150] 99)).alloc (.cells #[.int .i64 e] 59))
    (by rw [World.cell?_alloc_at _ _ _ _ (by simp)]; rfl)
    (by rw [World.cell?_alloc_lt _ _ t (by simp; omega), World.cell?_alloc_lt _ _ t htl]; exact ht0)
    (by rw [World.frozen?_alloc_old _ _ t (by simp; omega), World.frozen?_alloc_old _ _ t (Nat.ne_of_lt htl)]; exact hf0)
  clear ha ht0 hf0
  go_enter Tryd.func43, Tryd.ntmps43
  go_wp2
  refine wp_loop_rounds 1 ?_
  rw [rounds_succ]
  go_wp2
  go_ret
  exact ⟨rfl, rfl⟩

end Go.Proofs.YtmbhnhfnimijcaaDoor.Fa
