/-
  A wrapped error in memory: its faults, the outermost first, and what lies innermost; a slice of values that reads as a list; fault.unwrapped returns just these. Nothing below is changed. Conditions: at most 60000 faults; what lies innermost is nil, or an api.Errno; the library's variable errors.errorType holds its own type's handle.
-/
import Derived.Test.YtapiogcoipeinaaGreatDoorU2
import Derived.Test.YtapiogcoipeinaaGreatDoorU3
import Derived.Deep.LoopGhost
import Derived.Below
import Derived.Defers
import Derived.Recover
import Derived.Laws.Pointers
namespace Go.Proofs.YtapiogcoipeinaaGreatDoor.Fa
open Go.RowKit Go.Extern.Stop Go.Stop Go.Extern
open Pk
theorem valueOfPF (t : Addr) (w : World) : (ReflectliteValue.unpack (.iface 185 (.pointer (some t)))).run Tryz.prog w
 = .ok (.agg #[.pointer (some ⟨2, 185, none⟩), .pointer (some ⟨w.heap.size, 0, none⟩), .int .u64 150]) (w.alloc (.cells #[.pointer (some t)] 185)) := by kernel_rfl
theorem typePF (a : Addr) (w : World) : (ReflectliteValue.methodAny (ReflectliteValue.valueError "reflectlite.Value.Type" 0) (fun t _ _ _ => ReflectliteType.toType t) #[.agg #[.pointer (some ⟨2, 185, none⟩), .pointer (some a), .int .u64 150]]).run Tryz.prog w
 = .ok (.iface 207 (.agg #[.pointer (some ⟨2, 185, none⟩)])) w := by kernel_rfl
theorem kindPF (w : World) : ((ReflectliteType.abiMethod fun t => (fun a : Nat => Value.int IntKind.u8 (a : Int)) <$> Rtype.kind t) #[.pointer (some ⟨2, 185, none⟩)]).run Tryz.prog w = .ok (.int .u8 22) w := by kernel_rfl
theorem kindF (w : World) : ((ReflectliteType.abiMethod fun t => (fun a : Nat => Value.int IntKind.u8 (a : Int)) <$> Rtype.kind t) #[.pointer (some ⟨2, 145, none⟩)]).run Tryz.prog w = .ok (.int .u8 22) w := by kernel_rfl
theorem partsPF (a : Addr) (w : World) : (ReflectliteValue.parts (.agg #[.pointer (some ⟨2, 185, none⟩), .pointer (some a), .int .u64 150])).run Tryz.prog w = .ok (some (185, a, 150)) w := by kernel_rfl
theorem isNilPF (a p : Addr) (W : World) (ha : W.cell? a = some (.pointer (some p))) :
 (ReflectliteValue.method (ReflectliteValue.valueError "reflectlite.Value.IsNil" 0) ReflectliteValue.isNil #[.agg #[.pointer (some ⟨2, 185, none⟩), .pointer (some a), .int .u64 150]]).run Tryz.prog W = .ok (.bool false) W := by
 rw [rlm]
 simp only [Sem.run_bind, partsPF, Result.andThen]
 simp [ReflectliteValue.isNil, loadVar, isAgg, underlying, Tryz.underlying185, ha, Result.andThen]
theorem elemTPF (w : World) : (ReflectliteType.method ReflectliteType.elem #[.agg #[.pointer (some ⟨2, 185, none⟩)]]).run Tryz.prog w = .ok (.iface 207 (.agg #[.pointer (some ⟨2, 145, none⟩)])) w := by kernel_rfl
theorem implementsF (w : World) : (ReflectliteType.relation "Implements" ReflectliteType.implements_ #[.agg #[.pointer (some ⟨2, 145, none⟩)], .iface 207 (.agg #[.pointer (some ⟨2, 32, none⟩)])]).run Tryz.prog w = .ok (.bool true) w := by kernel_rfl
theorem typeOfF (v : Value) (w : World) : (ReflectliteType.typeOf #[.iface 145 v]).run Tryz.prog w = .ok (.iface 207 (.agg #[.pointer (some ⟨2, 145, none⟩)])) w := by kernel_rfl
theorem valueOfF (e : Addr) (w : World) : (ReflectliteValue.unpack (.iface 145 (.pointer (some e)))).run Tryz.prog w
 = .ok (.agg #[.pointer (some ⟨2, 145, none⟩), .pointer (some ⟨w.heap.size, 0, none⟩), .int .u64 150]) (w.alloc (.cells #[.pointer (some e)] 145)) := by kernel_rfl
theorem elemOfPF (w : World) : (Rtype.elem? 185).run Tryz.prog w = .ok (some 145) w := by kernel_rfl
theorem mkF (p : Addr) (w : World) : (ReflectliteValue.mk 145 p ReflectliteValue.flagAddr).run Tryz.prog w = .ok (.agg #[.pointer (some ⟨2, 145, none⟩), .pointer (some p), .int .u64 406]) w := by kernel_rfl
theorem elemVPF (a p : Addr) (W : World) (ha : W.cell? a = some (.pointer (some p))) :
 (ReflectliteValue.method (ReflectliteValue.valueError "reflectlite.Value.Elem" 0) ReflectliteValue.elem #[.agg #[.pointer (some ⟨2, 185, none⟩), .pointer (some a), .int .u64 150]]).run Tryz.prog W
   = .ok (.agg #[.pointer (some ⟨2, 145, none⟩), .pointer (some p), .int .u64 406]) W := by
 rw [rlm]
 simp only [Sem.run_bind, partsPF, Result.andThen]
 simp [ReflectliteValue.elem, loadVar, isAgg, underlying, Tryz.underlying185, ha, Result.andThen, elemOfPF, mkF]
theorem partsFa (a : Addr) (w : World) : (ReflectliteValue.parts (.agg #[.pointer (some ⟨2, 145, none⟩), .pointer (some a), .int .u64 406])).run Tryz.prog w = .ok (some (145, a, 406)) w := by kernel_rfl
theorem partsF (a : Addr) (w : World) : (ReflectliteValue.parts (.agg #[.pointer (some ⟨2, 145, none⟩), .pointer (some a), .int .u64 150])).run Tryz.prog w = .ok (some (145, a, 150)) w := by kernel_rfl
theorem directF (w : World) : (Rtype.directlyAssignable 145 145).run Tryz.prog w = .ok true w := by kernel_rfl
theorem setF (ta b : Addr) (e : Addr) (old : Value) (W : World) (hb : W.cell? b = some (.pointer (some e))) (ht : W.cell? ta = some old) (hf : W.frozen? ta = false) :
 (ReflectliteValue.set #[.agg #[.pointer (some ⟨2, 145, none⟩), .pointer (some ta), .int .u64 406], .agg #[.pointer (some ⟨2, 145, none⟩), .pointer (some b), .int .u64 150]]).run Tryz.prog W
   = .ok (.tuple #[]) (W.setCell ta (.pointer (some e))) := by
 rw [rls]
 simp only [Sem.run_bind, partsFa, partsF, Result.andThen]
 simp [ReflectliteValue.flagAddr, loadVar, isAgg, underlying, Tryz.underlying145, hb, Result.andThen, directF, storeVar, Value.cells, storeCells, Addr.add]
 rw [run_store Tryz.prog W ta _ _ (by rfl)]
 simp [ht, hf]
theorem valueOfPN (t : Addr) (w : World) : (ReflectliteValue.unpack (.iface 171 (.pointer (some t)))).run Tryz.prog w
 = .ok (.agg #[.pointer (some ⟨2, 171, none⟩), .pointer (some ⟨w.heap.size, 0, none⟩), .int .u64 150]) (w.alloc (.cells #[.pointer (some t)] 171)) := by kernel_rfl
theorem typePN (a : Addr) (w : World) : (ReflectliteValue.methodAny (ReflectliteValue.valueError "reflectlite.Value.Type" 0) (fun t _ _ _ => ReflectliteType.toType t) #[.agg #[.pointer (some ⟨2, 171, none⟩), .pointer (some a), .int .u64 150]]).run Tryz.prog w
 = .ok (.iface 207 (.agg #[.pointer (some ⟨2, 171, none⟩)])) w := by kernel_rfl
theorem kindPN (w : World) : ((ReflectliteType.abiMethod fun t => (fun a : Nat => Value.int IntKind.u8 (a : Int)) <$> Rtype.kind t) #[.pointer (some ⟨2, 171, none⟩)]).run Tryz.prog w = .ok (.int .u8 22) w := by kernel_rfl
theorem kindN (w : World) : ((ReflectliteType.abiMethod fun t => (fun a : Nat => Value.int IntKind.u8 (a : Int)) <$> Rtype.kind t) #[.pointer (some ⟨2, 83, none⟩)]).run Tryz.prog w = .ok (.int .u8 2) w := by kernel_rfl
theorem partsPN (a : Addr) (w : World) : (ReflectliteValue.parts (.agg #[.pointer (some ⟨2, 171, none⟩), .pointer (some a), .int .u64 150])).run Tryz.prog w = .ok (some (171, a, 150)) w := by kernel_rfl
theorem isNilPN (a p : Addr) (W : World) (ha : W.cell? a = some (.pointer (some p))) :
 (ReflectliteValue.method (ReflectliteValue.valueError "reflectlite.Value.IsNil" 0) ReflectliteValue.isNil #[.agg #[.pointer (some ⟨2, 171, none⟩), .pointer (some a), .int .u64 150]]).run Tryz.prog W = .ok (.bool false) W := by
 rw [rlm]
 simp only [Sem.run_bind, partsPN, Result.andThen]
 simp [ReflectliteValue.isNil, loadVar, isAgg, underlying, Tryz.underlying171, ha, Result.andThen]
theorem elemTPN (w : World) : (ReflectliteType.method ReflectliteType.elem #[.agg #[.pointer (some ⟨2, 171, none⟩)]]).run Tryz.prog w = .ok (.iface 207 (.agg #[.pointer (some ⟨2, 83, none⟩)])) w := by kernel_rfl
theorem implementsN (w : World) : (ReflectliteType.relation "Implements" ReflectliteType.implements_ #[.agg #[.pointer (some ⟨2, 83, none⟩)], .iface 207 (.agg #[.pointer (some ⟨2, 32, none⟩)])]).run Tryz.prog w = .ok (.bool true) w := by kernel_rfl
theorem typeOfN (v : Value) (w : World) : (ReflectliteType.typeOf #[.iface 83 v]).run Tryz.prog w = .ok (.iface 207 (.agg #[.pointer (some ⟨2, 83, none⟩)])) w := by kernel_rfl
theorem valueOfN (e : Int) (w : World) : (ReflectliteValue.unpack (.iface 83 (.int .i64 e))).run Tryz.prog w
 = .ok (.agg #[.pointer (some ⟨2, 83, none⟩), .pointer (some ⟨w.heap.size, 0, none⟩), .int .u64 130]) (w.alloc (.cells #[.int .i64 e] 83)) := by kernel_rfl
theorem elemOfPN (w : World) : (Rtype.elem? 171).run Tryz.prog w = .ok (some 83) w := by kernel_rfl
theorem mkN (p : Addr) (w : World) : (ReflectliteValue.mk 83 p ReflectliteValue.flagAddr).run Tryz.prog w = .ok (.agg #[.pointer (some ⟨2, 83, none⟩), .pointer (some p), .int .u64 386]) w := by kernel_rfl
theorem elemVPN (a p : Addr) (W : World) (ha : W.cell? a = some (.pointer (some p))) :
 (ReflectliteValue.method (ReflectliteValue.valueError "reflectlite.Value.Elem" 0) ReflectliteValue.elem #[.agg #[.pointer (some ⟨2, 171, none⟩), .pointer (some a), .int .u64 150]]).run Tryz.prog W
   = .ok (.agg #[.pointer (some ⟨2, 83, none⟩), .pointer (some p), .int .u64 386]) W := by
 rw [rlm]
 simp only [Sem.run_bind, partsPN, Result.andThen]
 simp [ReflectliteValue.elem, loadVar, isAgg, underlying, Tryz.underlying171, ha, Result.andThen, elemOfPN, mkN]
theorem partsNa (a : Addr) (w : World) : (ReflectliteValue.parts (.agg #[.pointer (some ⟨2, 83, none⟩), .pointer (some a), .int .u64 386])).run Tryz.prog w = .ok (some (83, a, 386)) w := by kernel_rfl
theorem partsN (a : Addr) (w : World) : (ReflectliteValue.parts (.agg #[.pointer (some ⟨2, 83, none⟩), .pointer (some a), .int .u64 130])).run Tryz.prog w = .ok (some (83, a, 130)) w := by kernel_rfl
theorem directN (w : World) : (Rtype.directlyAssignable 83 83).run Tryz.prog w = .ok true w := by kernel_rfl
theorem setN (ta b : Addr) (e : Int) (old : Value) (W : World) (hb : W.cell? b = some (.int .i64 e)) (ht : W.cell? ta = some old) (hf : W.frozen? ta = false) :
 (ReflectliteValue.set #[.agg #[.pointer (some ⟨2, 83, none⟩), .pointer (some ta), .int .u64 386], .agg #[.pointer (some ⟨2, 83, none⟩), .pointer (some b), .int .u64 130]]).run Tryz.prog W
   = .ok (.tuple #[]) (W.setCell ta (.int .i64 e)) := by
 rw [rls]
 simp only [Sem.run_bind, partsNa, partsN, Result.andThen]
 simp [ReflectliteValue.flagAddr, loadVar, isAgg, underlying, Tryz.underlying83, hb, Result.andThen, directN, storeVar, Value.cells, storeCells, Addr.add]
 rw [run_store Tryz.prog W ta _ _ (by rfl)]
 simp [ht, hf]
theorem assignFF (w : World) : (ReflectliteType.relation "AssignableTo" ReflectliteType.assignableTo #[.agg #[.pointer (some ⟨2, 145, none⟩)], .iface 207 (.agg #[.pointer (some ⟨2, 145, none⟩)])]).run Tryz.prog w = .ok (.bool true) w := by kernel_rfl
theorem assignNF (w : World) : (ReflectliteType.relation "AssignableTo" ReflectliteType.assignableTo #[.agg #[.pointer (some ⟨2, 83, none⟩)], .iface 207 (.agg #[.pointer (some ⟨2, 145, none⟩)])]).run Tryz.prog w = .ok (.bool false) w := by kernel_rfl
theorem assignNN (w : World) : (ReflectliteType.relation "AssignableTo" ReflectliteType.assignableTo #[.agg #[.pointer (some ⟨2, 83, none⟩)], .iface 207 (.agg #[.pointer (some ⟨2, 83, none⟩)])]).run Tryz.prog w = .ok (.bool true) w := by kernel_rfl
theorem noAsN (v : Value) (x : TypeId) (w : World) : (Instr.typeAssert (.iface 83 v) x 212 true).run Tryz.prog w = .ok (.tuple #[.nilIface, .bool false]) w := run_typeAssert_lacksB Tryz.underlying212 (by kernel_rfl) (by kernel_rfl) v x w
theorem noUnwrapN (v : Value) (x : TypeId) (w : World) : (Instr.typeAssert (.iface 83 v) x 215 true).run Tryz.prog w = .ok (.tuple #[.nilIface, .bool false]) w := run_typeAssert_lacksB Tryz.underlying215 (by kernel_rfl) (by kernel_rfl) v x w
theorem noUnwrapsN (v : Value) (x : TypeId) (w : World) : (Instr.typeAssert (.iface 83 v) x 216 true).run Tryz.prog w = .ok (.tuple #[.nilIface, .bool false]) w := run_typeAssert_lacksB Tryz.underlying216 (by kernel_rfl) (by kernel_rfl) v x w
end Go.Proofs.YtapiogcoipeinaaGreatDoor.Fa
namespace Go.Proofs.YtapiogcoipeinaaGreatDoor.Fa
open Go.RowKit Go.Extern.Stop Go.Stop Go.Extern
open Pk
theorem cell_lt {w : World} {p : Addr} {v : Value} (h : w.cell? p = some v) : p.block < w.heap.size := by
 rcases Nat.lt_or_ge p.block w.heap.size with h' | h'
 ·exact h'
 ·simp [World.cell?, Array.getElem?_eq_none h'] at h
theorem ext_valueOf (args : Array Value) (w : World) : (callFunc 121 args).run Tryz.prog w = ((((fun args => ReflectliteValue.unpack (args.getD 0 (.tuple #[])))) args).run Tryz.prog w).andThen fun v w' => .ok (.value v) w' :=
 run_callFunc_extern (e := (fun args => ReflectliteValue.unpack (args.getD 0 (.tuple #[])))) Tryz.func121 (by kernel_rfl) (by kernel_rfl) (by kernel_rfl) (by kernel_rfl) args w
theorem ext_type (args : Array Value) (w : World) : (callFunc 122 args).run Tryz.prog w = ((((ReflectliteValue.methodAny (ReflectliteValue.valueError "reflectlite.Value.Type" 0) (fun t _ _ _ => ReflectliteType.toType t))) args).run Tryz.prog w).andThen fun v w' => .ok (.value v) w' :=
 run_callFunc_extern (e := (ReflectliteValue.methodAny (ReflectliteValue.valueError "reflectlite.Value.Type" 0) (fun t _ _ _ => ReflectliteType.toType t))) Tryz.func122 (by kernel_rfl) (by kernel_rfl) (by kernel_rfl) (by kernel_rfl) args w
theorem ext_isNil (args : Array Value) (w : World) : (callFunc 123 args).run Tryz.prog w = ((((ReflectliteValue.method (ReflectliteValue.valueError "reflectlite.Value.IsNil" 0) ReflectliteValue.isNil)) args).run Tryz.prog w).andThen fun v w' => .ok (.value v) w' :=
 run_callFunc_extern (e := (ReflectliteValue.method (ReflectliteValue.valueError "reflectlite.Value.IsNil" 0) ReflectliteValue.isNil)) Tryz.func123 (by kernel_rfl) (by kernel_rfl) (by kernel_rfl) (by kernel_rfl) args w
theorem ext_kind (args : Array Value) (w : World) : (callFunc 149 args).run Tryz.prog w = ((((ReflectliteType.abiMethod fun t => do pure (.int .u8 (← Rtype.kind t)))) args).run Tryz.prog w).andThen fun v w' => .ok (.value v) w' :=
 run_callFunc_extern (e := (ReflectliteType.abiMethod fun t => do pure (.int .u8 (← Rtype.kind t)))) Tryz.func149 (by kernel_rfl) (by kernel_rfl) (by kernel_rfl) (by kernel_rfl) args w
theorem ext_elem (args : Array Value) (w : World) : (callFunc 162 args).run Tryz.prog w = ((((ReflectliteType.method ReflectliteType.elem)) args).run Tryz.prog w).andThen fun v w' => .ok (.value v) w' :=
 run_callFunc_extern (e := (ReflectliteType.method ReflectliteType.elem)) Tryz.func162 (by kernel_rfl) (by kernel_rfl) (by kernel_rfl) (by kernel_rfl) args w
theorem ext_impl (args : Array Value) (w : World) : (callFunc 163 args).run Tryz.prog w = ((((ReflectliteType.relation "Implements" ReflectliteType.implements_)) args).run Tryz.prog w).andThen fun v w' => .ok (.value v) w' :=
 run_callFunc_extern (e := (ReflectliteType.relation "Implements" ReflectliteType.implements_)) Tryz.func163 (by kernel_rfl) (by kernel_rfl) (by kernel_rfl) (by kernel_rfl) args w
theorem ext_typeOf (args : Array Value) (w : World) : (callFunc 132 args).run Tryz.prog w = (((ReflectliteType.typeOf) args).run Tryz.prog w).andThen fun v w' => .ok (.value v) w' :=
 run_callFunc_extern (e := ReflectliteType.typeOf) Tryz.func132 (by kernel_rfl) (by kernel_rfl) (by kernel_rfl) (by kernel_rfl) args w
theorem ext_asg (args : Array Value) (w : World) : (callFunc 160 args).run Tryz.prog w = ((((ReflectliteType.relation "AssignableTo" ReflectliteType.assignableTo)) args).run Tryz.prog w).andThen fun v w' => .ok (.value v) w' :=
 run_callFunc_extern (e := (ReflectliteType.relation "AssignableTo" ReflectliteType.assignableTo)) Tryz.func160 (by kernel_rfl) (by kernel_rfl) (by kernel_rfl) (by kernel_rfl) args w
theorem ext_elemV (args : Array Value) (w : World) : (callFunc 133 args).run Tryz.prog w = ((((ReflectliteValue.method (ReflectliteValue.valueError "reflectlite.Value.Elem" 0) ReflectliteValue.elem)) args).run Tryz.prog w).andThen fun v w' => .ok (.value v) w' :=
 run_callFunc_extern (e := (ReflectliteValue.method (ReflectliteValue.valueError "reflectlite.Value.Elem" 0) ReflectliteValue.elem)) Tryz.func133 (by kernel_rfl) (by kernel_rfl) (by kernel_rfl) (by kernel_rfl) args w
theorem ext_set (args : Array Value) (w : World) : (callFunc 134 args).run Tryz.prog w = (((ReflectliteValue.set) args).run Tryz.prog w).andThen fun v w' => .ok (.value v) w' :=
 run_callFunc_extern (e := ReflectliteValue.set) Tryz.func134 (by kernel_rfl) (by kernel_rfl) (by kernel_rfl) (by kernel_rfl) args w
theorem As_nil (t : Value) (w : World) :
 Calls Tryz.prog 104 #[.nilIface, t] w fun e w' => e = .returned (.bool false) ∧ w' = w := by
 go_enter Tryz.func104, Tryz.ntmps104
 go_wp2
 go_ret
 exact ⟨rfl, rfl⟩
theorem Unwrap_any (p : Nat) (op : ByteArray) (n : Int) (e : Value) (w : World) (hp : w.heap[p]? = some (.cells #[.string op, .int .i64 n, e] 147 (0, 0))) :
 Calls Tryz.prog 102 #[.pointer (some ⟨p, 0, none⟩)] w fun r w' => r = .returned e ∧ w' = w := by
 have hc : w.cell? ⟨p, 2, none⟩ = some e := by simp [World.cell?, hp]
 clear hp
 go_enter Tryz.func102, Tryz.ntmps102
 go_wp2
 go_ret
 exact ⟨rfl, rfl⟩
set_option maxHeartbeats 1000000 in
set_option maxRecDepth 100000 in
theorem as_hitF (e : Addr) (t a : Addr) (old : Value) (w : World) (ha : w.cell? a = some (.pointer (some t))) (ht0 : w.cell? t = some old) (hf0 : w.frozen? t = false) :
 Calls Tryz.prog 124 #[.iface 145 (.pointer (some e)), .iface 185 (.pointer (some t)), .agg #[.pointer (some ⟨2, 185, none⟩), .pointer (some a), .int .u64 150], .iface 207 (.agg #[.pointer (some ⟨2, 145, none⟩)])] w fun r w' => r = .returned (.bool true) ∧ w' = ((w.alloc (.cells #[.pointer (some ⟨2, 185, none⟩), .pointer (some a), .int .u64 150] 189)).alloc (.cells #[.pointer (some e)] 145)).setCell t (.pointer (some e)) := by
 have h36 := ext_typeOf
 have h35 := ext_asg
 have mA := methodAssignableTo
 have tO := typeOfF
 have aS := assignFF
 have h44 := ext_elemV
 have h32 := ext_valueOf
 have h45 := ext_set
 have vO := valueOfF
 have hal : a.block < w.heap.size := cell_lt ha
 have htl : t.block < w.heap.size := cell_lt ht0
 have el := elemVPF a t (w.alloc (.cells #[.pointer (some ⟨2, 185, none⟩), .pointer (some a), .int .u64 150] 189)) (by rw [World.cell?_alloc_lt _ _ a hal]; exact ha)
 have st := setF t ⟨w.heap.size + 1, 0, none⟩ e old ((w.alloc (.cells #[.pointer (some ⟨2, 185, none⟩), .pointer (some a), .int .u64 150] 189)).alloc (.cells #[.pointer (some e)] 145))
  (by rw [World.cell?_alloc_at _ _ _ _ (by simp)]; rfl)
  (by rw [World.cell?_alloc_lt _ _ t (by simp; omega), World.cell?_alloc_lt _ _ t htl]; exact ht0)
  (by rw [World.frozen?_alloc_old _ _ t (by simp; omega), World.frozen?_alloc_old _ _ t (Nat.ne_of_lt htl)]; exact hf0)
 clear ha ht0 hf0
 go_enter Tryz.func124, Tryz.ntmps124
 go_wp2
 refine wp_loop_rounds 1 ?_
 rw [rounds_succ]
 go_wp2
 go_ret
 exact ⟨rfl, rfl⟩
set_option maxHeartbeats 1000000 in
set_option maxRecDepth 100000 in
theorem as_missFN (v : Value) (t a : Addr) (w : World) :
 Calls Tryz.prog 124 #[.iface 83 v, .iface 185 (.pointer (some t)), .agg #[.pointer (some ⟨2, 185, none⟩), .pointer (some a), .int .u64 150], .iface 207 (.agg #[.pointer (some ⟨2, 145, none⟩)])] w fun r w' => r = .returned (.bool false) ∧ w' = (w.alloc (.cells #[.pointer (some ⟨2, 185, none⟩), .pointer (some a), .int .u64 150] 189)) := by
 have h36 := ext_typeOf
 have h35 := ext_asg
 have mA := methodAssignableTo
 have tO := typeOfN
 have aS := assignNF
 have n1 := noAsN
 have n2 := noUnwrapN
 have n3 := noUnwrapsN
 go_enter Tryz.func124, Tryz.ntmps124
 go_wp2
 refine wp_loop_rounds 1 ?_
 rw [rounds_succ]
 go_wp2
 go_ret
 exact ⟨rfl, rfl⟩
set_option maxHeartbeats 1000000 in
set_option maxRecDepth 100000 in
theorem as_hitN (e : Int) (t a : Addr) (old : Value) (w : World) (ha : w.cell? a = some (.pointer (some t))) (ht0 : w.cell? t = some old) (hf0 : w.frozen? t = false) :
 Calls Tryz.prog 124 #[.iface 83 (.int .i64 e), .iface 171 (.pointer (some t)), .agg #[.pointer (some ⟨2, 171, none⟩), .pointer (some a), .int .u64 150], .iface 207 (.agg #[.pointer (some ⟨2, 83, none⟩)])] w fun r w' => r = .returned (.bool true) ∧ w' = ((w.alloc (.cells #[.pointer (some ⟨2, 171, none⟩), .pointer (some a), .int .u64 150] 189)).alloc (.cells #[.int .i64 e] 83)).setCell t (.int .i64 e) := by
 have h36 := ext_typeOf
 have h35 := ext_asg
 have mA := methodAssignableTo
 have tO := typeOfN
 have aS := assignNN
 have h44 := ext_elemV
 have h32 := ext_valueOf
 have h45 := ext_set
 have vO := valueOfN
 have hal : a.block < w.heap.size := cell_lt ha
 have htl : t.block < w.heap.size := cell_lt ht0
 have el := elemVPN a t (w.alloc (.cells #[.pointer (some ⟨2, 171, none⟩), .pointer (some a), .int .u64 150] 189)) (by rw [World.cell?_alloc_lt _ _ a hal]; exact ha)
 have st := setN t ⟨w.heap.size + 1, 0, none⟩ e old ((w.alloc (.cells #[.pointer (some ⟨2, 171, none⟩), .pointer (some a), .int .u64 150] 189)).alloc (.cells #[.int .i64 e] 83))
  (by rw [World.cell?_alloc_at _ _ _ _ (by simp)]; rfl)
  (by rw [World.cell?_alloc_lt _ _ t (by simp; omega), World.cell?_alloc_lt _ _ t htl]; exact ht0)
  (by rw [World.frozen?_alloc_old _ _ t (by simp; omega), World.frozen?_alloc_old _ _ t (Nat.ne_of_lt htl)]; exact hf0)
 clear ha ht0 hf0
 go_enter Tryz.func124, Tryz.ntmps124
 go_wp2
 refine wp_loop_rounds 1 ?_
 rw [rounds_succ]
 go_wp2
 go_ret
 exact ⟨rfl, rfl⟩
end Go.Proofs.YtapiogcoipeinaaGreatDoor.Fa
namespace Go.Proofs.YtapiogcoipeinaaGreatDoor.Fa
open Go.RowKit Go.Extern.Stop Go.Stop Go.Extern
open Pk
def Ety (w : World) : Prop := w.cell? ⟨0, 0, none⟩ = some (.iface 207 (.agg #[.pointer (some ⟨2, 32, none⟩)]))
theorem Ety.lt {w : World} (h : Ety w) : 0 < w.heap.size := cell_lt h
theorem Ety.below {w w' : World} {B : Nat} (h : Ety w) (hb : Below B w w') (hB : 0 < B) : Ety w' := (hb.cell (p := ⟨0, 0, none⟩) hB).trans h
theorem heap_lt {w : World} {g : Nat} {o : Obj} (h : w.heap[g]? = some o) : g < w.heap.size := (Array.getElem?_eq_some_iff.1 h).1
theorem one_cell {w : World} {g : Nat} {v : Value} {T : TypeId} (h : w.heap[g]? = some (.cells #[v] T (0, 0))) : w.cell? ⟨g, 0, none⟩ = some v := by simp [World.cell?, h]
theorem one_free {w : World} {g : Nat} {v : Value} {T : TypeId} (h : w.heap[g]? = some (.cells #[v] T (0, 0))) : w.frozen? ⟨g, 0, none⟩ = false := by simp [World.frozen?, h]
set_option maxHeartbeats 1000000 in
set_option maxRecDepth 100000 in
theorem As_hitF (e : Addr) (g : Nat) (old : Value) (w : World) (hty : Ety w) (hg : w.heap[g]? = some (.cells #[old] 145 (0, 0))) :
 Calls Tryz.prog 104 #[.iface 145 (.pointer (some e)), .iface 185 (.pointer (some ⟨g, 0, none⟩))] w fun r w' => r = .returned (.bool true) ∧ w'.heap[g]? = some (.cells #[.pointer (some e)] 145 (0, 0)) ∧ w.grownBy w' (some g) := by
 have h32 := ext_valueOf
 have h33 := ext_type
 have h34 := ext_isNil
 have hk := ext_kind
 have he := ext_elem
 have hi := ext_impl
 have mK := methodKind
 have mE := methodElem
 have mI := methodImplements
 have vP := valueOfPF
 have tP := typePF
 have kP := kindPF
 have kE := kindF
 have eP := elemTPF
 have iE := implementsF
 have hlt := heap_lt hg
 have n8 := isNilPF ⟨w.heap.size, 0, none⟩ ⟨g, 0, none⟩ ((w.alloc (.cells #[.pointer (some ⟨g, 0, none⟩)] 185)).alloc (.cells #[.pointer (some ⟨2, 185, none⟩), .pointer (some ⟨w.heap.size, 0, none⟩), .int .u64 150] 189)) (by simp)
 have hg2 : ((w.alloc (.cells #[.pointer (some ⟨g, 0, none⟩)] 185)).alloc (.cells #[.pointer (some ⟨2, 185, none⟩), .pointer (some ⟨w.heap.size, 0, none⟩), .int .u64 150] 189)).cell? ⟨0, 0, none⟩ = some (.iface 207 (.agg #[.pointer (some ⟨2, 32, none⟩)])) := by
  rw [World.cell?_alloc_lt _ _ ⟨0, 0, none⟩ (Nat.lt_of_lt_of_le hty.lt (by simp)), World.cell?_alloc_lt _ _ ⟨0, 0, none⟩ hty.lt]; exact hty
 have hgW : (((w.alloc (.cells #[.pointer (some ⟨g, 0, none⟩)] 185)).alloc (.cells #[.pointer (some ⟨2, 185, none⟩), .pointer (some ⟨w.heap.size, 0, none⟩), .int .u64 150] 189)).heap)[g]? = some (.cells #[old] 145 (0, 0)) := by
  rw [heap_alloc_old _ _ (r := g) (by simp; omega), heap_alloc_old _ _ hlt]; exact hg
 have HA := hide (as_hitF e ⟨g, 0, none⟩ ⟨w.heap.size, 0, none⟩ old ((w.alloc (.cells #[.pointer (some ⟨g, 0, none⟩)] 185)).alloc (.cells #[.pointer (some ⟨2, 185, none⟩), .pointer (some ⟨w.heap.size, 0, none⟩), .int .u64 150] 189)) (by rw [World.cell?_alloc_lt _ _ ⟨w.heap.size, 0, none⟩ (by simp)]; simp) (one_cell hgW) (one_free hgW))
 have HW := hide hgW
 have HL := hide hlt
 clear hty hg hgW hlt
 go_enter Tryz.func104, Tryz.ntmps104
 go_wp2_with (go_at_call 124; refine HA.out.mono ?_; rintro r w' ⟨rfl, rfl⟩)
 go_ret
 have hlt := HL.out
 refine ⟨rfl, ?_, rfl, rfl, rfl, by simp; omega, fun j hj hne => ?_⟩
 ·refine heap_setCell_same _ g 0 #[old] _ _ ?_
  rw [heap_alloc_old _ _ (r := g) (by simp; omega), heap_alloc_old _ _ (r := g) (by simp; omega)]
  exact HW.out
 ·have hjg : j ≠ g := fun e => hne (by rw [e])
  rw [heap_setCell_other _ ⟨g, 0, none⟩ j _ hjg, heap_alloc_old _ _ (r := j) (by simp; omega), heap_alloc_old _ _ (r := j) (by simp; omega), heap_alloc_old _ _ (r := j) (by simp; omega), heap_alloc_old _ _ hj]
set_option maxHeartbeats 1000000 in
set_option maxRecDepth 100000 in
theorem As_missFN (v : Value) (g : Nat) (old : Value) (w : World) (hty : Ety w) (hg : w.heap[g]? = some (.cells #[old] 145 (0, 0))) :
 Calls Tryz.prog 104 #[.iface 83 v, .iface 185 (.pointer (some ⟨g, 0, none⟩))] w fun r w' => r = .returned (.bool false) ∧ Below w.heap.size w w' := by
 have h32 := ext_valueOf
 have h33 := ext_type
 have h34 := ext_isNil
 have hk := ext_kind
 have he := ext_elem
 have hi := ext_impl
 have mK := methodKind
 have mE := methodElem
 have mI := methodImplements
 have vP := valueOfPF
 have tP := typePF
 have kP := kindPF
 have kE := kindF
 have eP := elemTPF
 have iE := implementsF
 have hlt := heap_lt hg
 have n8 := isNilPF ⟨w.heap.size, 0, none⟩ ⟨g, 0, none⟩ ((w.alloc (.cells #[.pointer (some ⟨g, 0, none⟩)] 185)).alloc (.cells #[.pointer (some ⟨2, 185, none⟩), .pointer (some ⟨w.heap.size, 0, none⟩), .int .u64 150] 189)) (by simp)
 have hg2 : ((w.alloc (.cells #[.pointer (some ⟨g, 0, none⟩)] 185)).alloc (.cells #[.pointer (some ⟨2, 185, none⟩), .pointer (some ⟨w.heap.size, 0, none⟩), .int .u64 150] 189)).cell? ⟨0, 0, none⟩ = some (.iface 207 (.agg #[.pointer (some ⟨2, 32, none⟩)])) := by
  rw [World.cell?_alloc_lt _ _ ⟨0, 0, none⟩ (Nat.lt_of_lt_of_le hty.lt (by simp)), World.cell?_alloc_lt _ _ ⟨0, 0, none⟩ hty.lt]; exact hty
 have HA := hide (as_missFN v ⟨g, 0, none⟩ ⟨w.heap.size, 0, none⟩ ((w.alloc (.cells #[.pointer (some ⟨g, 0, none⟩)] 185)).alloc (.cells #[.pointer (some ⟨2, 185, none⟩), .pointer (some ⟨w.heap.size, 0, none⟩), .int .u64 150] 189)))
 clear hty hg hlt
 go_enter Tryz.func104, Tryz.ntmps104
 go_wp2_with (go_at_call 124; refine HA.out.mono ?_; rintro r w' ⟨rfl, rfl⟩)
 go_ret
 exact ⟨rfl, (((Below.refl _ _).alloc (Nat.le_refl _) _).alloc (by simp) _).alloc (by simp; omega) _⟩
set_option maxHeartbeats 1000000 in
set_option maxRecDepth 100000 in
theorem As_hitN (e : Int) (g : Nat) (old : Value) (w : World) (hty : Ety w) (hg : w.heap[g]? = some (.cells #[old] 83 (0, 0))) :
 Calls Tryz.prog 104 #[.iface 83 (.int .i64 e), .iface 171 (.pointer (some ⟨g, 0, none⟩))] w fun r w' => r = .returned (.bool true) ∧ w'.heap[g]? = some (.cells #[.int .i64 e] 83 (0, 0)) ∧ w.grownBy w' (some g) := by
 have h32 := ext_valueOf
 have h33 := ext_type
 have h34 := ext_isNil
 have hk := ext_kind
 have he := ext_elem
 have hi := ext_impl
 have mK := methodKind
 have mE := methodElem
 have mI := methodImplements
 have vP := valueOfPN
 have tP := typePN
 have kP := kindPN
 have kE := kindN
 have eP := elemTPN
 have iE := implementsN
 have hlt := heap_lt hg
 have n8 := isNilPN ⟨w.heap.size, 0, none⟩ ⟨g, 0, none⟩ ((w.alloc (.cells #[.pointer (some ⟨g, 0, none⟩)] 171)).alloc (.cells #[.pointer (some ⟨2, 171, none⟩), .pointer (some ⟨w.heap.size, 0, none⟩), .int .u64 150] 189)) (by simp)
 have hg2 : ((w.alloc (.cells #[.pointer (some ⟨g, 0, none⟩)] 171)).alloc (.cells #[.pointer (some ⟨2, 171, none⟩), .pointer (some ⟨w.heap.size, 0, none⟩), .int .u64 150] 189)).cell? ⟨0, 0, none⟩ = some (.iface 207 (.agg #[.pointer (some ⟨2, 32, none⟩)])) := by
  rw [World.cell?_alloc_lt _ _ ⟨0, 0, none⟩ (Nat.lt_of_lt_of_le hty.lt (by simp)), World.cell?_alloc_lt _ _ ⟨0, 0, none⟩ hty.lt]; exact hty
 have hgW : (((w.alloc (.cells #[.pointer (some ⟨g, 0, none⟩)] 171)).alloc (.cells #[.pointer (some ⟨2, 171, none⟩), .pointer (some ⟨w.heap.size, 0, none⟩), .int .u64 150] 189)).heap)[g]? = some (.cells #[old] 83 (0, 0)) := by
  rw [heap_alloc_old _ _ (r := g) (by simp; omega), heap_alloc_old _ _ hlt]; exact hg
 have HA := hide (as_hitN e ⟨g, 0, none⟩ ⟨w.heap.size, 0, none⟩ old ((w.alloc (.cells #[.pointer (some ⟨g, 0, none⟩)] 171)).alloc (.cells #[.pointer (some ⟨2, 171, none⟩), .pointer (some ⟨w.heap.size, 0, none⟩), .int .u64 150] 189)) (by rw [World.cell?_alloc_lt _ _ ⟨w.heap.size, 0, none⟩ (by simp)]; simp) (one_cell hgW) (one_free hgW))
 have HW := hide hgW
 have HL := hide hlt
 clear hty hg hgW hlt
 go_enter Tryz.func104, Tryz.ntmps104
 go_wp2_with (go_at_call 124; refine HA.out.mono ?_; rintro r w' ⟨rfl, rfl⟩)
 go_ret
 have hlt := HL.out
 refine ⟨rfl, ?_, rfl, rfl, rfl, by simp; omega, fun j hj hne => ?_⟩
 ·refine heap_setCell_same _ g 0 #[old] _ _ ?_
  rw [heap_alloc_old _ _ (r := g) (by simp; omega), heap_alloc_old _ _ (r := g) (by simp; omega)]
  exact HW.out
 ·have hjg : j ≠ g := fun e => hne (by rw [e])
  rw [heap_setCell_other _ ⟨g, 0, none⟩ j _ hjg, heap_alloc_old _ _ (r := j) (by simp; omega), heap_alloc_old _ _ (r := j) (by simp; omega), heap_alloc_old _ _ (r := j) (by simp; omega), heap_alloc_old _ _ hj]
end Go.Proofs.YtapiogcoipeinaaGreatDoor.Fa
namespace Go.Proofs.YtapiogcoipeinaaGreatDoor.Fa
open Go.RowKit
open Pk
theorem neq_fault (p : Addr) (w : World) : (binOp .neq 32 (.iface 145 (.pointer (some p))) (.iface 145 (.pointer (some p)))).run Tryz.prog w = .ok (.bool false) w := by
 obtain ⟨i, hi, hic⟩ := Option.map_eq_some_iff.1 (show (Tryz.prog.info? 145).map (·.comparable) = some true by kernel_rfl)
 obtain ⟨j, hj, _⟩ := Option.map_eq_some_iff.1 (show (Tryz.prog.info? 147).map (·.size) = some 3 by kernel_rfl)
 have h : (Op.equalIn 10000 32 (.iface 145 (.pointer (some p))) (.iface 145 (.pointer (some p)))).run Tryz.prog w = .ok true w := run_equalIn_iface_ptr_same (P := Tryz.prog) w 9998 (ti := 32) (tp := 145) (te := 147) p Tryz.underlying32 Tryz.underlying145 hi hic hj
 simp only [binOp]
 simp [Op.equal, Op.maxDepth, h]
theorem eq_int_in (d : Nat) (a b : Int) (w : World) : (Op.equalIn (d + 2) 32 (.iface 83 (.int .i64 a)) (.iface 83 (.int .i64 b))).run Tryz.prog w = .ok (a == b) w := by
 obtain ⟨i, hi, hic⟩ := Option.map_eq_some_iff.1 (show (Tryz.prog.info? 83).map (·.comparable) = some true by kernel_rfl)
 simp [Op.equalIn, run_underlying Tryz.underlying32, run_underlying Tryz.underlying83, typeInfo, hi, hic]
theorem eq_int (a b : Int) (w : World) : (Op.equalIn 10000 32 (.iface 83 (.int .i64 a)) (.iface 83 (.int .i64 b))).run Tryz.prog w = .ok (a == b) w := eq_int_in 9998 a b w
theorem eql_errno (a b : Int) (w : World) : (binOp .eql 32 (.iface 83 (.int .i64 a)) (.iface 83 (.int .i64 b))).run Tryz.prog w = .ok (.bool (a == b)) w := by
 simp only [binOp]
 simp [Op.equal, Op.maxDepth, eq_int]
theorem neq_errno (a : Int) (w : World) : (binOp .neq 32 (.iface 83 (.int .i64 a)) (.iface 83 (.int .i64 a))).run Tryz.prog w = .ok (.bool false) w := by
 simp only [binOp]
 simp [Op.equal, Op.maxDepth, eq_int]
theorem asFault_idle (p : Addr) (w : World) :
 CallsD Tryz.prog 120 #[.pointer (some p)] .returning w fun e u' w' => e = .returned (.tuple #[]) ∧ u' = .returning ∧ w' = w := by
 refine callsD_of_wpS Tryz.func120 rfl fun c₀ cs hu => ?_
 apply wpS_seq
 apply wpS_region
 simp [wpOpsS, go_sem, recoverD, hu, Tryz.ntmps120, Exit.thenS]
 refine wpS_cond (t := false) (by simp [Act.eval, Array.replicate]) ?_
 simp only [Bool.false_eq_true, if_false]
 refine wpS_of_wp (wp_skip ?_)
 cases c₀
 simp_all [bodyPostS, results, Tryz.results120]
theorem asNumber_idle (p : Addr) (w : World) :
 CallsD Tryz.prog 103 #[.pointer (some p)] .returning w fun e u' w' => e = .returned (.tuple #[]) ∧ u' = .returning ∧ w' = w := by
 refine callsD_of_wpS Tryz.func103 rfl fun c₀ cs hu => ?_
 apply wpS_seq
 apply wpS_region
 simp [wpOpsS, go_sem, recoverD, hu, Tryz.ntmps103, Exit.thenS]
 refine wpS_cond (t := false) (by simp [Act.eval, Array.replicate]) ?_
 simp only [Bool.false_eq_true, if_false]
 refine wpS_of_wp (wp_skip ?_)
 cases c₀
 simp_all [bodyPostS, results, Tryz.results103]
set_option maxHeartbeats 1000000 in
theorem asFault_hit (e : Addr) (w : World) (hty : Ety w) :
 Calls Tryz.prog 101 #[.iface 145 (.pointer (some e))] w fun r w' => r = .returned (.pointer (some e)) ∧ Below w.heap.size w w' := by
 have hmf : ∀ (fn : Fn) (first cap : Array Value) (w : World), (Instr.makeFunc fn first cap).run Tryz.prog w = .ok (.func fn first cap) w := fun _ _ _ _ => rfl
 have hg : ((w.alloc (.cells #[.pointer none] 145)).heap)[w.heap.size]? = some (.cells #[.pointer none] 145 (0, 0)) := heap_alloc_new w _
 have hb1 : Below w.heap.size w (w.alloc (.cells #[.pointer none] 145)) := (Below.refl _ _).alloc (Nat.le_refl _) _
 have HA := hide (As_hitF e w.heap.size (.pointer none) (w.alloc (.cells #[.pointer none] 145)) (hty.below hb1 hty.lt) hg)
 have HB := hide hb1
 have hn := neq_fault e
 clear hg hb1 hty
 go_enter_defers Tryz.func101, Tryz.ntmps101
 go_wp2_with (go_at_call 104; refine HA.out.mono ?_)
 rintro r w2 ⟨rfl, hg2, hgr⟩
 have hc := one_cell hg2
 have hf := one_free hg2
 have HG := hide hg2
 have HGR := hide hgr
 clear hg2 hgr
 go_wp2
 refine leaves_cons (f := 120) (args := #[.pointer (some ⟨w.heap.size, 0, none⟩)]) (by simp) (by simp [go_sem]) ?_
 refine (asFault_idle ⟨w.heap.size, 0, none⟩ _).mono ?_
 rintro e' u' w'' ⟨rfl, rfl, rfl⟩
 simp [Leaves, settle, results, Tryz.results101, go_sem, hc]
 exact (Below.grown HB.out HGR.out (by simp) (fun k hk => by cases hk; exact Nat.le_refl _)).setCell (p := ⟨w.heap.size, 0, none⟩) (Nat.le_refl _) _
set_option maxHeartbeats 1000000 in
theorem asFault_N (v : Value) (w : World) (hty : Ety w) :
 Calls Tryz.prog 101 #[.iface 83 v] w fun r w' => r = .returned (.pointer none) ∧ Below w.heap.size w w' := by
 have hmf : ∀ (fn : Fn) (first cap : Array Value) (w : World), (Instr.makeFunc fn first cap).run Tryz.prog w = .ok (.func fn first cap) w := fun _ _ _ _ => rfl
 have hg : ((w.alloc (.cells #[.pointer none] 145)).heap)[w.heap.size]? = some (.cells #[.pointer none] 145 (0, 0)) := heap_alloc_new w _
 have hb1 : Below w.heap.size w (w.alloc (.cells #[.pointer none] 145)) := (Below.refl _ _).alloc (Nat.le_refl _) _
 have HA := hide (As_missFN v w.heap.size (.pointer none) (w.alloc (.cells #[.pointer none] 145)) (hty.below hb1 hty.lt) hg)
 have HB := hide hb1
 have HG := hide hg
 clear hg hb1 hty
 go_enter_defers Tryz.func101, Tryz.ntmps101
 go_wp2_with (go_at_call 104; refine HA.out.mono ?_)
 rintro r w2 ⟨rfl, hbl⟩
 have hg2 := (hbl.block _ (by simp)).trans HG.out
 have HL := hide hbl
 have hc := one_cell hg2
 have hf := one_free hg2
 clear hg2 hbl
 go_wp2
 refine leaves_cons (f := 120) (args := #[.pointer (some ⟨w.heap.size, 0, none⟩)]) (by simp) (by simp [go_sem]) ?_
 refine (asFault_idle ⟨w.heap.size, 0, none⟩ _).mono ?_
 rintro e' u' w'' ⟨rfl, rfl, rfl⟩
 simp [Leaves, settle, results, Tryz.results101, go_sem, hc]
 exact (HB.out.trans (HL.out.mono HB.out.size)).setCell (p := ⟨w.heap.size, 0, none⟩) (Nat.le_refl _) _
set_option maxHeartbeats 1000000 in
theorem asFault_nil (w : World) :
 Calls Tryz.prog 101 #[.nilIface] w fun r w' => r = .returned (.pointer none) ∧ Below w.heap.size w w' := by
 have hmf : ∀ (fn : Fn) (first cap : Array Value) (w : World), (Instr.makeFunc fn first cap).run Tryz.prog w = .ok (.func fn first cap) w := fun _ _ _ _ => rfl
 have hg : ((w.alloc (.cells #[.pointer none] 145)).heap)[w.heap.size]? = some (.cells #[.pointer none] 145 (0, 0)) := heap_alloc_new w _
 have hb1 : Below w.heap.size w (w.alloc (.cells #[.pointer none] 145)) := (Below.refl _ _).alloc (Nat.le_refl _) _
 have HA := hide (As_nil (.iface 185 (.pointer (some ⟨w.heap.size, 0, none⟩))) (w.alloc (.cells #[.pointer none] 145)))
 have HB := hide hb1
 have HG := hide hg
 clear hg hb1
 go_enter_defers Tryz.func101, Tryz.ntmps101
 go_wp2_with (go_at_call 104; refine HA.out.mono ?_)
 rintro r w2 ⟨rfl, rfl⟩
 have hg2 := HG.out
 have hc := one_cell hg2
 have hf := one_free hg2
 clear hg2
 go_wp2
 refine leaves_cons (f := 120) (args := #[.pointer (some ⟨w.heap.size, 0, none⟩)]) (by simp) (by simp [go_sem]) ?_
 refine (asFault_idle ⟨w.heap.size, 0, none⟩ _).mono ?_
 rintro e' u' w'' ⟨rfl, rfl, rfl⟩
 simp [Leaves, settle, results, Tryz.results101, go_sem, hc]
 exact HB.out
set_option maxHeartbeats 1000000 in
theorem asNumber_hit (e : Int) (w : World) (hty : Ety w) :
 Calls Tryz.prog 77 #[.iface 83 (.int .i64 e)] w fun r w' => r = .returned (.int .i64 e) ∧ Below w.heap.size w w' := by
 have hmf : ∀ (fn : Fn) (first cap : Array Value) (w : World), (Instr.makeFunc fn first cap).run Tryz.prog w = .ok (.func fn first cap) w := fun _ _ _ _ => rfl
 have hg : ((w.alloc (.cells #[.int .i64 0] 83)).heap)[w.heap.size]? = some (.cells #[.int .i64 0] 83 (0, 0)) := heap_alloc_new w _
 have hb1 : Below w.heap.size w (w.alloc (.cells #[.int .i64 0] 83)) := (Below.refl _ _).alloc (Nat.le_refl _) _
 have HA := hide (As_hitN e w.heap.size (.int .i64 0) (w.alloc (.cells #[.int .i64 0] 83)) (hty.below hb1 hty.lt) hg)
 have HB := hide hb1
 have hn := neq_errno e
 clear hg hb1 hty
 go_enter_defers Tryz.func77, Tryz.ntmps77
 go_wp2_with (go_at_call 104; refine HA.out.mono ?_)
 rintro r w2 ⟨rfl, hg2, hgr⟩
 have hc := one_cell hg2
 have hf := one_free hg2
 have HG := hide hg2
 have HGR := hide hgr
 clear hg2 hgr
 go_wp2
 refine leaves_cons (f := 103) (args := #[.pointer (some ⟨w.heap.size, 0, none⟩)]) (by simp) (by simp [go_sem]) ?_
 refine (asNumber_idle ⟨w.heap.size, 0, none⟩ _).mono ?_
 rintro e' u' w'' ⟨rfl, rfl, rfl⟩
 simp [Leaves, settle, results, Tryz.results77, go_sem, hc]
 exact (Below.grown HB.out HGR.out (by simp) (fun k hk => by cases hk; exact Nat.le_refl _)).setCell (p := ⟨w.heap.size, 0, none⟩) (Nat.le_refl _) _
set_option maxHeartbeats 1000000 in
theorem asNumber_nil (w : World) :
 Calls Tryz.prog 77 #[.nilIface] w fun r w' => r = .returned (.int .i64 0) ∧ Below w.heap.size w w' := by
 have hmf : ∀ (fn : Fn) (first cap : Array Value) (w : World), (Instr.makeFunc fn first cap).run Tryz.prog w = .ok (.func fn first cap) w := fun _ _ _ _ => rfl
 have hg : ((w.alloc (.cells #[.int .i64 0] 83)).heap)[w.heap.size]? = some (.cells #[.int .i64 0] 83 (0, 0)) := heap_alloc_new w _
 have hb1 : Below w.heap.size w (w.alloc (.cells #[.int .i64 0] 83)) := (Below.refl _ _).alloc (Nat.le_refl _) _
 have HA := hide (As_nil (.iface 171 (.pointer (some ⟨w.heap.size, 0, none⟩))) (w.alloc (.cells #[.int .i64 0] 83)))
 have HB := hide hb1
 have HG := hide hg
 clear hg hb1
 go_enter_defers Tryz.func77, Tryz.ntmps77
 go_wp2_with (go_at_call 104; refine HA.out.mono ?_)
 rintro r w2 ⟨rfl, rfl⟩
 have hg2 := HG.out
 have hc := one_cell hg2
 have hf := one_free hg2
 clear hg2
 go_wp2
 refine leaves_cons (f := 103) (args := #[.pointer (some ⟨w.heap.size, 0, none⟩)]) (by simp) (by simp [go_sem]) ?_
 refine (asNumber_idle ⟨w.heap.size, 0, none⟩ _).mono ?_
 rintro e' u' w'' ⟨rfl, rfl, rfl⟩
 simp [Leaves, settle, results, Tryz.results77, go_sem, hc]
 exact HB.out
end Go.Proofs.YtapiogcoipeinaaGreatDoor.Fa
namespace Go.Proofs.YtapiogcoipeinaaGreatDoor.Fa
open Go.RowKit
open Pk
abbrev Flt := Nat × ByteArray × Int
def Chain (w : World) : List Flt → Value → Value → Prop
 | [], e, i => e = i
 | (p, op, n) :: r, e, i => e = .iface 145 (.pointer (some ⟨p, 0, none⟩)) ∧ ∃ e', w.heap[p]? = some (.cells #[.string op, .int .i64 n, e'] 147 (0, 0)) ∧ Chain w r e' i
theorem Chain.below {w w' : World} {B : Nat} (hB : w.heap.size ≤ B) (hb : Below B w w') : ∀ {fs : List Flt} {e i : Value}, Chain w fs e i → Chain w' fs e i
 | [], _, _, h => h
 | (p, _, _) :: _, _, _, ⟨he, e', hp, hr⟩ => ⟨he, e', (hb.block p (Nat.lt_of_lt_of_le (heap_lt hp) hB)).trans hp, hr.below hB hb⟩
def Inner (i : Value) : Prop := i = .nilIface ∨ ∃ k : Int, i = .iface 83 (.int .i64 k)
theorem asFault_inner (i : Value) (hi : Inner i) (w : World) (hty : Ety w) :
 Calls Tryz.prog 101 #[i] w fun r w' => r = .returned (.pointer none) ∧ Below w.heap.size w w' := by
 rcases hi with rfl | ⟨k, rfl⟩
 ·exact asFault_nil w
 ·exact asFault_N _ w hty
def ptrs (fs : List Flt) : List Value := fs.map fun f => .pointer (some ⟨f.1, 0, none⟩)
theorem ptrs_length (fs : List Flt) : (ptrs fs).length = fs.length := by simp [ptrs]
theorem ptrs_get {fs : List Flt} {k : Nat} {f : Flt} (h : fs[k]? = some f) : (ptrs fs)[k]? = some (.pointer (some ⟨f.1, 0, none⟩)) := by simp [ptrs, h]
def Vec (w : World) (B : Nat) (A : Option Addr) (xs : List Value) : Prop :=
 xs ≠ [] → ∃ b o, A = some ⟨b, o, none⟩ ∧ b < B ∧ ∀ j u, xs[j]? = some u → w.cell? ⟨b, o + j, none⟩ = some u
section
variable {w w' : World} {B B' : Nat} {A : Option Addr} {xs : List Value}
theorem Vec.nil : Vec w B A [] := fun h => absurd rfl h
theorem Vec.below (h : Vec w B A xs) (hb : Below B w w') : Vec w' B A xs := fun hn => by
 obtain ⟨b, o, e, hlt, hc⟩ := h hn
 exact ⟨b, o, e, hlt, fun j u hu => (hb.cell (p := ⟨b, o + j, none⟩) hlt).trans (hc j u hu)⟩
theorem Vec.more (h : Vec w B A xs) (hB : B ≤ B') : Vec w B' A xs := fun hn => by
 obtain ⟨b, o, e, hlt, hc⟩ := h hn
 exact ⟨b, o, e, by omega, hc⟩
theorem Vec.keep (h : Vec w w.heap.size A xs) (hb : Below w.heap.size w w') : Vec w' w'.heap.size A xs := (h.below hb).more hb.size
end
theorem vec_own {w : World} {base : Nat} {e : TypeId} {v : Value} {n : Nat} {xs : List Value} (h : w.ownsRow base e 1 v n xs) :
 ∃ A c, v = .slice A n c ∧ n ≤ c ∧ c ≤ maxLen ∧ Vec w w.heap.size A xs := by
 have hl : xs.length = n := by have := h.1; omega
 rcases h.2 with ⟨rfl, h0⟩ | ⟨g, cap, cur, rfl, hb, hg, hn, hm, hs, htk⟩
 ·exact ⟨none, 0, by rw [h0], by omega, by unfold maxLen; omega, fun hne => absurd (List.eq_nil_of_length_eq_zero (by omega)) hne⟩
 ·refine ⟨_, cap, rfl, hn, hm, fun _ => ⟨g, 0, rfl, (Array.getElem?_eq_some_iff.1 hg).1, fun j u hu => ?_⟩⟩
  have hj : j < n := by rw [← hl]; exact (List.getElem?_eq_some_iff.1 hu).1
  rw [Nat.zero_add, World.ownsRow.cellAt h j (by omega)]
  exact hu
theorem own_below {w w' : World} {B e size n : Nat} {v : Value} {xs : List Value} (h : w.ownsRow B e size v n xs) (hb : Below w.heap.size w w') : w'.ownsRow B e size v n xs := by
 refine ⟨h.1, ?_⟩
 rcases h.2 with h0 | ⟨g, cap, cur, hv, hB, hg, hr⟩
 ·exact Or.inl h0
 ·exact Or.inr ⟨g, cap, cur, hv, hB, (hb.block g (heap_lt hg)).trans hg, hr⟩
theorem cell_new1 (w : World) (x : Value) (t : TypeId) : ∀ j u, [x][j]? = some u → (w.alloc (.cells #[x] t)).cell? ((⟨w.heap.size, 0, none⟩ : Addr).add j) = some u := by
 intro j u hj
 match j, hj with
 | 0, hj => simp at hj; subst hj; simp [Addr.add]
theorem pf_info : (Tryz.prog.info? 145).map (fun i => (i.zero, i.size, i.bytes)) = some (some (.pointer none), 1, 8) := by kernel_rfl
theorem take_snoc {α : Type} (l : List α) (k : Nat) (x : α) (h : l[k]? = some x) : l.take (k + 1) = l.take k ++ [x] := by
 rw [List.take_add_one, h]
 rfl
theorem asFault_ptr (p : Nat) (w : World) (hty : Ety w) :
 Calls Tryz.prog 101 #[.iface 145 (.pointer (some ⟨p, 0, none⟩))] w fun r w' => r = .returned (.pointer (some ⟨p, 0, none⟩)) ∧ Below w.heap.size w w' := asFault_hit ⟨p, 0, none⟩ w hty
set_option maxHeartbeats 2000000 in
theorem unwrapped_any (fs : List Flt) (e i : Value) (n : Nat) (w : World) (hn : fs.length = n) (hty : Ety w) (hch : Chain w fs e i) (hi : Inner i) (hlen : n ≤ 60000) :
 Calls Tryz.prog 76 #[e] w fun r w' => ∃ A c, r = .returned (.tuple #[.slice A n c, i]) ∧ n ≤ c ∧ c ≤ maxLen ∧ Vec w' w'.heap.size A (ptrs fs) ∧ Below w.heap.size w w' := by
 obtain ⟨i0, hi0, hz0, hz1, hz2⟩ := info_parts pf_info
 have Hn := hide hn
 have Hch := hide hch
 have Hi := hide hi
 have Hty := hide hty
 have Hlen := hide hlen
 clear hn hch hi hty hlen
 go_enter Tryz.func76, Tryz.ntmps76
 go_wp2_with fail
 go_loopw [0, 2, 5] (fun ev v j wr => ∃ k : Nat, k ≤ n ∧ j = .int .i64 k ∧ Hid (Chain w (fs.drop k) ev i) ∧ Hid (wr.ownsRow w.heap.size 145 1 v k ((ptrs fs).take k)) ∧ Hid (Below w.heap.size w wr)) (fun _ _ j _ => n + 1 - (intOf j).toNat)
 case atStart => exact ⟨0, Nat.zero_le _, rfl, Hch.out, ⟨rfl, Or.inl ⟨rfl, rfl⟩⟩, Below.refl _ _⟩
 case round =>
  obtain ⟨k, hk, rfl, hc, how, hbel⟩ := hrel
  have hty1 := Hty.out.below hbel.out Hty.out.lt
  have hlim : (k : Int) < 65537 := by have := Hlen.out; omega
  rcases Nat.lt_or_ge k n with hlt | hge
  ·obtain ⟨⟨p, op, m⟩, hf⟩ : ∃ f, fs[k]? = some f := ⟨_, List.getElem?_eq_getElem (by rw [Hn.out]; exact hlt)⟩
   have hc' := hc.out
   rw [List.drop_eq_getElem_cons (by rw [Hn.out]; exact hlt)] at hc'
   have hfe := (List.getElem?_eq_some_iff.1 hf).2
   rw [hfe] at hc'
   obtain ⟨rfl, e', hp, hr⟩ := hc'
   have HA := hide (asFault_ptr p wr hty1)
   have HP := hide hp
   have HR := hide hr
   have HF := hide hf
   clear hc hp hr hf hfe hty1
   go_wp2_with fail
   refine HA.out.mono ?_
   rintro r w2 ⟨rfl, hb2⟩
   have hown := own_below how.out hb2
   have HB2 := hide (hbel.out.trans (hb2.mono hbel.out.size))
   have hsz := HB2.out.size
   clear HA how hbel hb2
   go_wp2_with (at_builtin; refine wpList_append_own _ rfl (.tmp 13) (.tmp 15) 142 rfl w.heap.size 145 i0 (.pointer none) 1 8 Tryz.underlying142 hi0 hz0 hz1 hz2 rfl (by decide) _ _ _ rfl (World.ownsRow.alloc hown _) ⟨w2.heap.size, 0, none⟩ 1 1 [.pointer (some ⟨p, 0, none⟩)] rfl rfl (cell_new1 _ _ _) ?c2 ?c3 ?c4 ?c5 ?_)
   case c2 => intro u hu; simp at hu; subst hu; rfl
   case c3 => have := Hlen.out; unfold maxLen; omega
   case c4 => have := Hlen.out; omega
   case c5 => simp; omega
   intro v' w3 hown' hgrow _
   have HO := hide (show w3.ownsRow w.heap.size 145 1 v' (k + 1) ((ptrs fs).take (k + 1)) by rw [take_snoc _ k _ (ptrs_get HF.out)]; exact hown')
   have HB3 := hide ((HB2.out.alloc hsz _).grown hgrow (by simp; omega) (fun k hk => (World.ownsRow.lt hown k hk).1))
   have HU := hide (Unwrap_any p op m e' w3 ((HB3.out.block p (heap_lt HP.out)).trans HP.out))
   clear hown hown' hgrow hsz
   go_wp2_with fail
   refine HU.out.mono ?_
   rintro r w4 ⟨rfl, rfl⟩
   go_wp2
   go_roundw
   case rel => exact ⟨k + 1, by omega, by go_num, HR.out, HO.out, HB3.out⟩
   case measure => simp [intOf]; omega
  ·obtain rfl : k = n := by omega
   have hc' := hc.out
   rw [List.drop_eq_nil_of_le (by rw [Hn.out]; exact Nat.le_refl _)] at hc'
   obtain rfl : _ = i := hc'
   have HA := hide (asFault_inner _ Hi.out wr hty1)
   clear hc hty1
   go_wp2_with fail
   refine HA.out.mono ?_
   rintro r w2 ⟨rfl, hb2⟩
   have hown := own_below how.out hb2
   rw [List.take_of_length_le (by rw [ptrs_length, Hn.out]; exact Nat.le_refl _)] at hown
   obtain ⟨A, c, rfl, h1, h2, h3⟩ := vec_own hown
   have HV := hide h3
   have HB2 := hide (hbel.out.trans (hb2.mono hbel.out.size))
   clear HA how hbel hb2 hown h3
   go_wp2
   go_ret2
   exact ⟨A, c, rfl, h1, h2, HV.out, HB2.out⟩
end Go.Proofs.YtapiogcoipeinaaGreatDoor.Fa
