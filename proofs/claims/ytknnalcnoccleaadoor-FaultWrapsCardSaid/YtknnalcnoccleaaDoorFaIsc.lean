/-
  errors.As at the target *api.Errno, and errors.Is, at a wrapped error: what they find. Conditions: in each; the library's variable errors.errorType holds its own type's handle.
-/
import Derived.Test.YtknnalcnoccleaaDoorFaAsc
namespace Go.Proofs.YtknnalcnoccleaaDoor.Fa
open Go.RowKit Go.Extern.Stop Go.Stop Go.Extern
open Pk

theorem Chain.form {w : World} {fs : List Flt} {e : Value} {T : TypeId} {v : Value} (h : Chain w fs e (.iface T v)) : ∃ T' v', e = .iface T' v' := by
  cases fs with
  | nil => exact ⟨_, _, h⟩
  | cons q r => exact ⟨_, _, h.1⟩

set_option maxHeartbeats 1000000 in
set_option maxRecDepth 100000 in
theorem As_chain (fs : List Flt) (e0 : Value) (e : Int) (g : Nat) (old : Value) (w : World) (hty : Ety w) (hch : Chain w fs e0 (.iface 28 (.int .i64 e))) (hg : w.heap[g]? = some (.cells #[old] 28 (0, 0))) :
    Calls Tryd.prog 20 #[e0, .iface 43 (.pointer (some ⟨g, 0, none⟩))] w fun r w' => r = .returned (.bool true) ∧ w'.heap[g]? = some (.cells #[.int .i64 e] 28 (0, 0)) ∧ w.grownBy w' (some g) := by
  have h32 := ext_valueOf
  have h33 := ext_type
  have h34 := ext_isNil
  have hk := ext_kind
  have he := ext_elem
  have hi := ext_impl
  have mK := methodKind
  have mE := methodElem
  have mI := methodImplements
  have vP := valueOfPN
  have tP := typePN
  have kP := kindPN
  have kE := kindN
  have eP := elemTPN
  have iE := implementsN
  have hlt := heap_lt hg
  have n8 := isNilPN ⟨w.heap.size, 0, none⟩ ⟨g, 0, none⟩ ((w.alloc (.cells #[.pointer (some ⟨g, 0, none⟩)] 43)).alloc (.cells #[.pointer (some ⟨4, 43, none⟩), .pointer (some ⟨w.heap.size, 0, none⟩), .int .u64 150] 65)) (by simp)
  have hg2 : ((w.alloc (.cells #[.pointer (some ⟨g, 0, none⟩)] 43)).alloc (.cells #[.pointer (some ⟨4, 43, none⟩), .pointer (some ⟨w.heap.size, 0, none⟩), .int .u64 150] 65)).cell? ⟨0, 0, none⟩ = some (.iface 89 (.agg #[.pointer (some ⟨4, 26, none⟩)])) := by
    rw [World.cell?_alloc_lt _ _ ⟨0, 0, none⟩ (Nat.lt_of_lt_of_le hty.lt (by simp)), World.cell?_alloc_lt _ _ ⟨0, 0, none⟩ hty.lt]; exact hty
  have hgW : (((w.alloc (.cells #[.pointer (some ⟨g, 0, none⟩)] 43)).alloc (.cells #[.pointer (some ⟨4, 43, none⟩), .pointer (some ⟨w.heap.size, 0, none⟩), .int .u64 150] 65)).heap)[g]? = some (.cells #[old] 28 (0, 0)) := by
    rw [heap_alloc_old _ _ (r := g) (by simp; omega), heap_alloc_old _ _ hlt]; exact hg
  have hbW : Below w.heap.size w ((w.alloc (.cells #[.pointer (some ⟨g, 0, none⟩)] 43)).alloc (.cells #[.pointer (some ⟨4, 43, none⟩), .pointer (some ⟨w.heap.size, 0, none⟩), .int .u64 150] 65)) := ((Below.refl _ _).alloc (Nat.le_refl _) _).alloc (by simp) _
  have HA := hide (as_chain fs e0 e ⟨g, 0, none⟩ ⟨w.heap.size, 0, none⟩ old ((w.alloc (.cells #[.pointer (some ⟨g, 0, none⟩)] 43)).alloc (.cells #[.pointer (some ⟨4, 43, none⟩), .pointer (some ⟨w.heap.size, 0, none⟩), .int .u64 150] 65)) (hch.below (Nat.le_refl _) hbW) (by rw [World.cell?_alloc_lt _ _ ⟨w.heap.size, 0, none⟩ (by simp)]; simp) (one_cell hgW) (one_free hgW))
  have HW := hide hgW
  have HL := hide hlt
  obtain ⟨T', v', rfl⟩ := hch.form
  clear hty hg hgW hlt hch hbW
  go_enter Tryd.func20, Tryd.ntmps20
  go_wp2_with (go_at_call 35; refine HA.out.mono ?_; rintro r w' ⟨rfl, rfl⟩)
  go_ret
  have hlt := HL.out
  refine ⟨rfl, ?_, rfl, rfl, rfl, by simp; omega, fun j hj hne => ?_⟩
  · refine heap_setCell_same _ g 0 #[old] _ _ ?_
    rw [heap_alloc_old _ _ (r := g) (by simp; omega), heap_alloc_old _ _ (r := g) (by simp; omega)]
    exact HW.out
  · have hjg : j ≠ g := fun e => hne (by rw [e])
    rw [heap_setCell_other _ ⟨g, 0, none⟩ j _ hjg, heap_alloc_old _ _ (r := j) (by simp; omega), heap_alloc_old _ _ (r := j) (by simp; omega), heap_alloc_old _ _ (r := j) (by simp; omega), heap_alloc_old _ _ hj]

/-! ### errors.Is -/
theorem ext_cmp (args : Array Value) (w : World) : (callFunc 87 args).run Tryd.prog w = (((ReflectliteType.method fun t => do Rtype.noPackHeld "Comparable" t; pure (.bool (← typeInfo t).comparable)) args).run Tryd.prog w).andThen fun v w' => .ok (.value v) w' :=
  run_callFunc_extern (e := (ReflectliteType.method fun t => do Rtype.noPackHeld "Comparable" t; pure (.bool (← typeInfo t).comparable))) Tryd.func87 (by kernel_rfl) (by kernel_rfl) (by kernel_rfl) (by kernel_rfl) args w
theorem cmpF (w : World) : (callFunc 87 #[.agg #[.pointer (some ⟨4, 41, none⟩)]]).run Tryd.prog w = .ok (.value (.bool true)) w := by
  rw [ext_cmp]
  kernel_rfl
theorem cmpN (w : World) : (callFunc 87 #[.agg #[.pointer (some ⟨4, 28, none⟩)]]).run Tryd.prog w = .ok (.value (.bool true)) w := by
  rw [ext_cmp]
  kernel_rfl
theorem cmpO (w : World) : (callFunc 87 #[.agg #[.pointer (some ⟨4, 76, none⟩)]]).run Tryd.prog w = .ok (.value (.bool true)) w := by
  rw [ext_cmp]
  kernel_rfl

/-- The loop's state in errors.is. -/
def Isl (w : World) (i : Value) (m : Nat) (e : Value) (wr : World) : Prop := wr = w ∧ ∃ gs : List Flt, gs.length < m ∧ Chain w gs e i

set_option maxHeartbeats 1000000 in
set_option maxRecDepth 100000 in
theorem is_chainN (fs : List Flt) (e0 v : Value) (T : TypeId) (tv : Value) (b : Bool) (w : World) (hT : T ≠ 41) (hch : Chain w fs e0 (.iface 28 v)) (hb : ∀ W : World, (binOp .eql 26 (.iface 28 v) (.iface T tv)).run Tryd.prog W = .ok (.bool b) W) :
    Calls Tryd.prog 37 #[e0, .iface T tv, .bool true] w fun r w' => r = .returned (.bool b) ∧ w' = w := by
  have hF : ∀ (x : Value) (W : World), (binOp .eql 26 (.iface 41 x) (.iface T tv)).run Tryd.prog W = .ok (.bool false) W := fun x W => run_eql_iface_types 41 T x tv Tryd.underlying26 (Ne.symm hT) W
  have mU := methodUnwrapF
  have n1 := noIsF
  have n2 := hasUnwrapF
  have n3 := noIsN
  have n4 := noUnwrapN
  have n5 := noUnwrapsN
  have Hch := hide hch
  clear hch hT
  go_enter Tryd.func37, Tryd.ntmps37
  go_wp2_with fail
  go_loopg [0] (fs.length + 1) (fun m ev wr => Hid (Isl w (.iface 28 v) m ev wr))
  case atStart => exact ⟨rfl, fs, by omega, Hch.out⟩
  case round =>
    obtain ⟨rfl, gs, hlen, hc⟩ := hrel.out
    clear hrel
    cases gs with
    | nil =>
      obtain rfl := hc
      cases b with
      | true =>
        go_wp2
        go_ret
        exact ⟨rfl, rfl⟩
      | false =>
        go_wp2
        go_ret
        exact ⟨rfl, rfl⟩
    | cons q r =>
      obtain ⟨p, op, n⟩ := q
      obtain ⟨rfl, e', hp, hr⟩ := hc
      have HU := hide (Unwrap_any p op n e' _ hp)
      have Hr := hide hr
      have hl : r.length < gk - 1 := by simp at hlen; omega
      cases r with
      | nil =>
        obtain rfl := hr
        clear hp
        go_wp2_with (go_at_call 21; refine HU.out.mono ?_; rintro r w1 ⟨rfl, rfl⟩)
        go_roundg (gk - 1)
        case measure => simp at hlen; omega
        case rel => exact ⟨rfl, _, hl, Hr.out⟩
      | cons q r =>
        obtain ⟨p2, op2, m2⟩ := q
        obtain ⟨rfl, _⟩ := hr
        clear hp
        go_wp2_with (go_at_call 21; refine HU.out.mono ?_; rintro r w1 ⟨rfl, rfl⟩)
        go_roundg (gk - 1)
        case measure => simp at hlen; omega
        case rel => exact ⟨rfl, _, hl, Hr.out⟩

set_option maxHeartbeats 1000000 in
set_option maxRecDepth 100000 in
theorem is_chainO (fs : List Flt) (e0 v : Value) (T : TypeId) (tv : Value) (b : Bool) (w : World) (hT : T ≠ 41) (hch : Chain w fs e0 (.iface 76 v)) (hb : ∀ W : World, (binOp .eql 26 (.iface 76 v) (.iface T tv)).run Tryd.prog W = .ok (.bool b) W) :
    Calls Tryd.prog 37 #[e0, .iface T tv, .bool true] w fun r w' => r = .returned (.bool b) ∧ w' = w := by
  have hF : ∀ (x : Value) (W : World), (binOp .eql 26 (.iface 41 x) (.iface T tv)).run Tryd.prog W = .ok (.bool false) W := fun x W => run_eql_iface_types 41 T x tv Tryd.underlying26 (Ne.symm hT) W
  have mU := methodUnwrapF
  have n1 := noIsF
  have n2 := hasUnwrapF
  have n3 := noIsO
  have n4 := noUnwrapO
  have n5 := noUnwrapsO
  have Hch := hide hch
  clear hch hT
  go_enter Tryd.func37, Tryd.ntmps37
  go_wp2_with fail
  go_loopg [0] (fs.length + 1) (fun m ev wr => Hid (Isl w (.iface 76 v) m ev wr))
  case atStart => exact ⟨rfl, fs, by omega, Hch.out⟩
  case round =>
    obtain ⟨rfl, gs, hlen, hc⟩ := hrel.out
    clear hrel
    cases gs with
    | nil =>
      obtain rfl := hc
      cases b with
      | true =>
        go_wp2
        go_ret
        exact ⟨rfl, rfl⟩
      | false =>
        go_wp2
        go_ret
        exact ⟨rfl, rfl⟩
    | cons q r =>
      obtain ⟨p, op, n⟩ := q
      obtain ⟨rfl, e', hp, hr⟩ := hc
      have HU := hide (Unwrap_any p op n e' _ hp)
      have Hr := hide hr
      have hl : r.length < gk - 1 := by simp at hlen; omega
      cases r with
      | nil =>
        obtain rfl := hr
        clear hp
        go_wp2_with (go_at_call 21; refine HU.out.mono ?_; rintro r w1 ⟨rfl, rfl⟩)
        go_roundg (gk - 1)
        case measure => simp at hlen; omega
        case rel => exact ⟨rfl, _, hl, Hr.out⟩
      | cons q r =>
        obtain ⟨p2, op2, m2⟩ := q
        obtain ⟨rfl, _⟩ := hr
        clear hp
        go_wp2_with (go_at_call 21; refine HU.out.mono ?_; rintro r w1 ⟨rfl, rfl⟩)
        go_roundg (gk - 1)
        case measure => simp at hlen; omega
        case rel => exact ⟨rfl, _, hl, Hr.out⟩

set_option maxHeartbeats 1000000 in
theorem Is_chainN (fs : List Flt) (e0 v : Value) (k : Int) (b : Bool) (w : World) (hch : Chain w fs e0 (.iface 28 v)) (hb : ∀ W : World, (binOp .eql 26 (.iface 28 v) (.iface 28 (.int .i64 k))).run Tryd.prog W = .ok (.bool b) W) :
    Calls Tryd.prog 22 #[e0, .iface 28 (.int .i64 k)] w fun r w' => r = .returned (.bool b) ∧ w' = w := by
  have h36 := ext_typeOf
  have tO := typeOfN
  have mC := methodComparable
  have hc := cmpN
  have HI := hide (is_chainN fs e0 v _ _ b w (by decide) hch hb)
  obtain ⟨T', v', rfl⟩ := hch.form
  clear hch hb
  go_enter Tryd.func22, Tryd.ntmps22
  go_wp2_with (go_at_call 37; refine HI.out.mono ?_; rintro r w' ⟨rfl, rfl⟩)
  go_ret
  exact ⟨rfl, rfl⟩

set_option maxHeartbeats 1000000 in
theorem Is_chainO (fs : List Flt) (e0 v : Value) (p : Addr) (b : Bool) (w : World) (hch : Chain w fs e0 (.iface 76 v)) (hb : ∀ W : World, (binOp .eql 26 (.iface 76 v) (.iface 76 (.pointer (some p)))).run Tryd.prog W = .ok (.bool b) W) :
    Calls Tryd.prog 22 #[e0, .iface 76 (.pointer (some p))] w fun r w' => r = .returned (.bool b) ∧ w' = w := by
  have h36 := ext_typeOf
  have tO := typeOfO
  have mC := methodComparable
  have hc := cmpO
  have HI := hide (is_chainO fs e0 v _ _ b w (by decide) hch hb)
  obtain ⟨T', v', rfl⟩ := hch.form
  clear hch hb
  go_enter Tryd.func22, Tryd.ntmps22
  go_wp2_with (go_at_call 37; refine HI.out.mono ?_; rintro r w' ⟨rfl, rfl⟩)
  go_ret
  exact ⟨rfl, rfl⟩

end Go.Proofs.YtknnalcnoccleaaDoor.Fa
