/-
  errors.As as a whole at the targets **fault.Fault and *api.Errno: what it returns, what the target's variable then holds; no other block is changed. Condition: the library's variable errors.errorType holds its own type's handle.
-/
import Derived.Test.YtmbhnhfnimijcaaDoorFaAs
namespace Go.Proofs.YtmbhnhfnimijcaaDoor.Fa
open Go.RowKit Go.Extern.Stop Go.Stop Go.Extern
open Pk

/-- The library's variable holds the handle of the type error. -/
def Ety (w : World) : Prop := w.cell? ⟨0, 0, none⟩ = some (.iface 86 (.agg #[.pointer (some ⟨1, 42, none⟩)]))
theorem Ety.lt {w : World} (h : Ety w) : 0 < w.heap.size := cell_lt h
theorem Ety.below {w w' : World} {B : Nat} (h : Ety w) (hb : Below B w w') (hB : 0 < B) : Ety w' := (hb.cell (p := ⟨0, 0, none⟩) hB).trans h

theorem heap_lt {w : World} {g : Nat} {o : Obj} (h : w.heap[g]? = some o) : g < w.heap.size := (Array.getElem?_eq_some_iff.1 h).1
theorem one_cell {w : World} {g : Nat} {v : Value} {T : TypeId} (h : w.heap[g]? = some (.cells #[v] T (0, 0))) : w.cell? ⟨g, 0, none⟩ = some v := by simp [World.cell?, h]
theorem one_free {w : World} {g : Nat} {v : Value} {T : TypeId} (h : w.heap[g]? = some (.cells #[v] T (0, 0))) : w.frozen? ⟨g, 0, none⟩ = false := by simp [World.frozen?, h]

set_option maxHeartbeats 1000000 in
set_option maxRecDepth 100000 in
theorem As_hitF (e : Addr) (g : Nat) (old : Value) (w : World) (hty : Ety w) (hg : w.heap[g]? = some (.cells #[old] 72 (0, 0))) :
    Calls Tryd.prog 38 #[.iface 72 (.pointer (some e)), .iface 95 (.pointer (some ⟨g, 0, none⟩))] w fun r w' => r = .returned (.bool true) ∧ w'.heap[g]? = some (.cells #[.pointer (some e)] 72 (0, 0)) ∧ w.grownBy w' (some g) := by
  have h32 := ext_valueOf
  have h33 := ext_type
  have h34 := ext_isNil
  have hk := ext_kind
  have he := ext_elem
  have hi := ext_impl
  have mK := methodKind
  have mE := methodElem
  have mI := methodImplements
  have vP := valueOfPF
  have tP := typePF
  have kP := kindPF
  have kE := kindF
  have eP := elemTPF
  have iE := implementsF
  have hlt := heap_lt hg
  have n8 := isNilPF ⟨w.heap.size, 0, none⟩ ⟨g, 0, none⟩ ((w.alloc (.cells #[.pointer (some ⟨g, 0, none⟩)] 95)).alloc (.cells #[.pointer (some ⟨1, 95, none⟩), .pointer (some ⟨w.heap.size, 0, none⟩), .int .u64 150] 99)) (by simp)
  have hg2 : ((w.alloc (.cells #[.pointer (some ⟨g, 0, none⟩)] 95)).alloc (.cells #[.pointer (some ⟨1, 95, none⟩), .pointer (some ⟨w.heap.size, 0, none⟩), .int .u64 150] 99)).cell? ⟨0, 0, none⟩ = some (.iface 86 (.agg #[.pointer (some ⟨1, 42, none⟩)])) := by
    rw [World.cell?_alloc_lt _ _ ⟨0, 0, none⟩ (Nat.lt_of_lt_of_le hty.lt (by simp)), World.cell?_alloc_lt _ _ ⟨0, 0, none⟩ hty.lt]; exact hty
  have hgW : (((w.alloc (.cells #[.pointer (some ⟨g, 0, none⟩)] 95)).alloc (.cells #[.pointer (some ⟨1, 95, none⟩), .pointer (some ⟨w.heap.size, 0, none⟩), .int .u64 150] 99)).heap)[g]? = some (.cells #[old] 72 (0, 0)) := by
    rw [heap_alloc_old _ _ (r := g) (by simp; omega), heap_alloc_old _ _ hlt]; exact hg
  have HA := hide (as_hitF e ⟨g, 0, none⟩ ⟨w.heap.size, 0, none⟩ old ((w.alloc (.cells #[.pointer (some ⟨g, 0, none⟩)] 95)).alloc (.cells #[.pointer (some ⟨1, 95, none⟩), .pointer (some ⟨w.heap.size, 0, none⟩), .int .u64 150] 99)) (by rw [World.cell?_alloc_lt _ _ ⟨w.heap.size, 0, none⟩ (by simp)]; simp) (one_cell hgW) (one_free hgW))
  have HW := hide hgW
  have HL := hide hlt
  clear hty hg hgW hlt
  go_enter Tryd.func38, Tryd.ntmps38
  go_wp2_with (go_at_call 43; refine HA.out.mono ?_; rintro r w' ⟨rfl, rfl⟩)
  go_ret
  have hlt := HL.out
  refine ⟨rfl, ?_, rfl, rfl, rfl, by simp; omega, fun j hj hne => ?_⟩
  · refine heap_setCell_same _ g 0 #[old] _ _ ?_
    rw [heap_alloc_old _ _ (r := g) (by simp; omega), heap_alloc_old _ _ (r := g) (by simp; omega)]
    exact HW.out
  · have hjg : j ≠ g := fun e => hne (by rw [e])
    rw [heap_setCell_other _ ⟨g, 0, none⟩ j _ hjg, heap_alloc_old _ _ (r := j) (by simp; omega), heap_alloc_old _ _ (r := j) (by simp; omega), heap_alloc_old _ _ (r := j) (by simp; omega), heap_alloc_old _ _ hj]

set_option maxHeartbeats 1000000 in
set_option maxRecDepth 100000 in
theorem As_missFN (v : Value) (g : Nat) (old : Value) (w : World) (hty : Ety w) (hg : w.heap[g]? = some (.cells #[old] 72 (0, 0))) :
    Calls Tryd.prog 38 #[.iface 59 v, .iface 95 (.pointer (some ⟨g, 0, none⟩))] w fun r w' => r = .returned (.bool false) ∧ Below w.heap.size w w' := by
  have h32 := ext_valueOf
  have h33 := ext_type
  have h34 := ext_isNil
  have hk := ext_kind
  have he := ext_elem
  have hi := ext_impl
  have mK := methodKind
  have mE := methodElem
  have mI := methodImplements
  have vP := valueOfPF
  have tP := typePF
  have kP := kindPF
  have kE := kindF
  have eP := elemTPF
  have iE := implementsF
  have hlt := heap_lt hg
  have n8 := isNilPF ⟨w.heap.size, 0, none⟩ ⟨g, 0, none⟩ ((w.alloc (.cells #[.pointer (some ⟨g, 0, none⟩)] 95)).alloc (.cells #[.pointer (some ⟨1, 95, none⟩), .pointer (some ⟨w.heap.size, 0, none⟩), .int .u64 150] 99)) (by simp)
  have hg2 : ((w.alloc (.cells #[.pointer (some ⟨g, 0, none⟩)] 95)).alloc (.cells #[.pointer (some ⟨1, 95, none⟩), .pointer (some ⟨w.heap.size, 0, none⟩), .int .u64 150] 99)).cell? ⟨0, 0, none⟩ = some (.iface 86 (.agg #[.pointer (some ⟨1, 42, none⟩)])) := by
    rw [World.cell?_alloc_lt _ _ ⟨0, 0, none⟩ (Nat.lt_of_lt_of_le hty.lt (by simp)), World.cell?_alloc_lt _ _ ⟨0, 0, none⟩ hty.lt]; exact hty
  have HA := hide (as_missFN v ⟨g, 0, none⟩ ⟨w.heap.size, 0, none⟩ ((w.alloc (.cells #[.pointer (some ⟨g, 0, none⟩)] 95)).alloc (.cells #[.pointer (some ⟨1, 95, none⟩), .pointer (some ⟨w.heap.size, 0, none⟩), .int .u64 150] 99)))
  clear hty hg hlt
  go_enter Tryd.func38, Tryd.ntmps38
  go_wp2_with (go_at_call 43; refine HA.out.mono ?_; rintro r w' ⟨rfl, rfl⟩)
  go_ret
  exact ⟨rfl, (((Below.refl _ _).alloc (Nat.le_refl _) _).alloc (by simp) _).alloc (by simp; omega) _⟩

set_option maxHeartbeats 1000000 in
set_option maxRecDepth 100000 in
theorem As_hitN (e : Int) (g : Nat) (old : Value) (w : World) (hty : Ety w) (hg : w.heap[g]? = some (.cells #[old] 59 (0, 0))) :
    Calls Tryd.prog 38 #[.iface 59 (.int .i64 e), .iface 84 (.pointer (some ⟨g, 0, none⟩))] w fun r w' => r = .returned (.bool true) ∧ w'.heap[g]? = some (.cells #[.int .i64 e] 59 (0, 0)) ∧ w.grownBy w' (some g) := by
  have h32 := ext_valueOf
  have h33 := ext_type
  have h34 := ext_isNil
  have hk := ext_kind
  have he := ext_elem
  have hi := ext_impl
  have mK := methodKind
  have mE := methodElem
  have mI := methodImplements
  have vP := valueOfPN
  have tP := typePN
  have kP := kindPN
  have kE := kindN
  have eP := elemTPN
  have iE := implementsN
  have hlt := heap_lt hg
  have n8 := isNilPN ⟨w.heap.size, 0, none⟩ ⟨g, 0, none⟩ ((w.alloc (.cells #[.pointer (some ⟨g, 0, none⟩)] 84)).alloc (.cells #[.pointer (some ⟨1, 84, none⟩), .pointer (some ⟨w.heap.size, 0, none⟩), .int .u64 150] 99)) (by simp)
  have hg2 : ((w.alloc (.cells #[.pointer (some ⟨g, 0, none⟩)] 84)).alloc (.cells #[.pointer (some ⟨1, 84, none⟩), .pointer (some ⟨w.heap.size, 0, none⟩), .int .u64 150] 99)).cell? ⟨0, 0, none⟩ = some (.iface 86 (.agg #[.pointer (some ⟨1, 42, none⟩)])) := by
    rw [World.cell?_alloc_lt _ _ ⟨0, 0, none⟩ (Nat.lt_of_lt_of_le hty.lt (by simp)), World.cell?_alloc_lt _ _ ⟨0, 0, none⟩ hty.lt]; exact hty
  have hgW : (((w.alloc (.cells #[.pointer (some ⟨g, 0, none⟩)] 84)).alloc (.cells #[.pointer (some ⟨1, 84, none⟩), .pointer (some ⟨w.heap.size, 0, none⟩), .int .u64 150] 99)).heap)[g]? = some (.cells #[old] 59 (0, 0)) := by
    rw [heap_alloc_old _ _ (r := g) (by simp; omega), heap_alloc_old _ _ hlt]; exact hg
  have HA := hide (as_hitN e ⟨g, 0, none⟩ ⟨w.heap.size, 0, none⟩ old ((w.alloc (.cells #[.pointer (some ⟨g, 0, none⟩)] 84)).alloc (.cells #[.pointer (some ⟨1, 84, none⟩), .pointer (some ⟨w.heap.size, 0, none⟩), .int .u64 150] 99)) (by rw [World.cell?_alloc_lt _ _ ⟨w.heap.size, 0, none⟩ (by simp)]; simp) (one_cell hgW) (one_free hgW))
  have HW := hide hgW
  have HL := hide hlt
  clear hty hg hgW hlt
  go_enter Tryd.func38, Tryd.ntmps38
  go_wp2_with (go_at_call 43; refine HA.out.mono ?_; rintro r w' ⟨rfl, rfl⟩)
  go_ret
  have hlt := HL.out
  refine ⟨rfl, ?_, rfl, rfl, rfl, by simp; omega, fun j hj hne => ?_⟩
  · refine heap_setCell_same _ g 0 #[old] _ _ ?_
    rw [heap_alloc_old _ _ (r := g) (by simp; omega), heap_alloc_old _ _ (r := g) (by simp; omega)]
    exact HW.out
  · have hjg : j ≠ g := fun e => hne (by rw [e])
    rw [heap_setCell_other _ ⟨g, 0, none⟩ j _ hjg, heap_alloc_old _ _ (r := j) (by simp; omega), heap_alloc_old _ _ (r := j) (by simp; omega), heap_alloc_old _ _ (r := j) (by simp; omega), heap_alloc_old _ _ hj]

end Go.Proofs.YtmbhnhfnimijcaaDoor.Fa
