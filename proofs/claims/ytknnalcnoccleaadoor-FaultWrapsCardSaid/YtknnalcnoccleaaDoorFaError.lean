/-
  fault.text; a Fault's Error; fault.Path; fault.First. Each tells what is returned; nothing below is changed. Conditions: at most 1000 faults, whose names have at most 200 bytes and whose numbers' digits can be told; those of fault.unwrapped.
-/
import Derived.Test.YtknnalcnoccleaaDoorFaText
namespace Go.Proofs.YtknnalcnoccleaaDoor.Fa
open Go.RowKit
open Pk Sm

theorem methodErrF (p : Addr) (w : World) : (Go.method 250 41 (.pointer (some p)) "Error").run Tryd.prog w = .ok (25, .pointer (some p)) w := by kernel_rfl
theorem methodErrN (k : Int) (w : World) : (Go.method 250 28 (.int .i64 k) "Error").run Tryd.prog w = .ok (27, .int .i64 k) w := by kernel_rfl
theorem methodErrO (p : Addr) (w : World) : (Go.method 250 76 (.pointer (some p)) "Error").run Tryd.prog w = .ok (83, .pointer (some p)) w := by kernel_rfl

theorem errorString_any (q : Nat) (s : ByteArray) (w : World) (hq : w.heap[q]? = some (.cells #[.string s] 78 (0, 0))) :
    Calls Tryd.prog 83 #[.pointer (some ⟨q, 0, none⟩)] w fun r w' => r = .returned (.string s) ∧ w' = w := by
  have hc := one_cell hq
  clear hq
  go_enter Tryd.func83, Tryd.ntmps83
  go_wp2
  go_ret
  exact ⟨rfl, rfl⟩

/-- The text of what lies innermost. -/
def Txt (w : World) (i : Value) (l : List UInt8) : Prop :=
  (i = .nilIface ∧ l = word 0) ∨ (∃ k : Int, i = .iface 28 (.int .i64 k) ∧ l = word k) ∨
  ∃ q s, i = .iface 76 (.pointer (some ⟨q, 0, none⟩)) ∧ w.heap[q]? = some (.cells #[.string s] 78 (0, 0)) ∧ l = s.data.toList
theorem Txt.inner {w : World} {i : Value} {l : List UInt8} (h : Txt w i l) : Inner i := by
  rcases h with ⟨h, _⟩ | ⟨k, h, _⟩ | ⟨q, s, h, _⟩
  · exact Or.inl h
  · exact Or.inr (Or.inl ⟨k, h⟩)
  · exact Or.inr (Or.inr ⟨_, h⟩)
theorem Txt.below {w w' : World} {i : Value} {l : List UInt8} (h : Txt w i l) (hb : Below w.heap.size w w') : Txt w' i l := by
  rcases h with h | h | ⟨q, s, h1, h2, h3⟩
  · exact Or.inl h
  · exact Or.inr (Or.inl h)
  · exact Or.inr (Or.inr ⟨q, s, h1, (hb.block q (heap_lt h2)).trans h2, h3⟩)

set_option maxHeartbeats 1000000 in
theorem text_nil (w : World) : Calls Tryd.prog 38 #[.nilIface] w fun r w' => r = .returned (.string (str (word 0))) ∧ Below w.heap.size w w' := by
  have hg : ((w.alloc (.cells #[.string ⟨#[]⟩] 9)).heap)[w.heap.size]? = some (.cells #[.string ⟨#[]⟩] 9 (0, 0)) := heap_alloc_new w _
  have HB := hide ((Below.refl w.heap.size w).alloc (Nat.le_refl _) (.cells #[.string ⟨#[]⟩] 9))
  have HG := hide hg
  clear hg
  go_enter_defers Tryd.func38, Tryd.ntmps38
  go_wp2_with (go_at_call 27; refine (Word_any 0 _).mono ?_)
  rintro r w2 ⟨rfl, hb2⟩
  have hg2 := (hb2.block _ (by simp)).trans HG.out
  have hc := one_cell hg2
  have hf := one_free hg2
  have HB2 := hide (HB.out.trans (hb2.mono HB.out.size))
  clear hg2 hb2
  go_wp2
  simp [bodyPostD, Leaves, results, Tryd.results38, go_sem, hc]
  exact HB2.out.setCell (p := ⟨w.heap.size, 0, none⟩) (Nat.le_refl _) _

set_option maxHeartbeats 1000000 in
theorem text_num (k : Int) (w : World) : Calls Tryd.prog 38 #[.iface 28 (.int .i64 k)] w fun r w' => r = .returned (.string (str (word k))) ∧ Below w.heap.size w w' := by
  have hmf : ∀ (fn : Fn) (first cap : Array Value) (w : World), (Instr.makeFunc fn first cap).run Tryd.prog w = .ok (.func fn first cap) w := fun _ _ _ _ => rfl
  have hg : ((w.alloc (.cells #[.string ⟨#[]⟩] 9)).heap)[w.heap.size]? = some (.cells #[.string ⟨#[]⟩] 9 (0, 0)) := heap_alloc_new w _
  have HB := hide ((Below.refl w.heap.size w).alloc (Nat.le_refl _) (.cells #[.string ⟨#[]⟩] 9))
  have HG := hide hg
  have hm := methodErrN
  clear hg
  go_enter_defers Tryd.func38, Tryd.ntmps38
  go_wp2_with (go_at_call 27; refine (Word_any k _).mono ?_)
  rintro r w2 ⟨rfl, hb2⟩
  have hg2 := (hb2.block _ (by simp)).trans HG.out
  have hc := one_cell hg2
  have hf := one_free hg2
  have HB2 := hide (HB.out.trans (hb2.mono HB.out.size))
  clear hg2 hb2
  go_wp2
  refine leaves_cons (f := 46) (args := #[.pointer (some ⟨w.heap.size, 0, none⟩)]) (by simp) (by simp [go_sem]) ?_
  refine (text_idle ⟨w.heap.size, 0, none⟩ _).mono ?_
  rintro e' u' w'' ⟨rfl, rfl, rfl⟩
  simp [Leaves, settle, results, Tryd.results38, go_sem, hc]
  exact HB2.out.setCell (p := ⟨w.heap.size, 0, none⟩) (Nat.le_refl _) _

set_option maxHeartbeats 1000000 in
theorem text_own (q : Nat) (s : ByteArray) (w : World) (hq : w.heap[q]? = some (.cells #[.string s] 78 (0, 0))) :
    Calls Tryd.prog 38 #[.iface 76 (.pointer (some ⟨q, 0, none⟩))] w fun r w' => r = .returned (.string s) ∧ Below w.heap.size w w' := by
  have hmf : ∀ (fn : Fn) (first cap : Array Value) (w : World), (Instr.makeFunc fn first cap).run Tryd.prog w = .ok (.func fn first cap) w := fun _ _ _ _ => rfl
  have hg : ((w.alloc (.cells #[.string ⟨#[]⟩] 9)).heap)[w.heap.size]? = some (.cells #[.string ⟨#[]⟩] 9 (0, 0)) := heap_alloc_new w _
  have HB := hide ((Below.refl w.heap.size w).alloc (Nat.le_refl _) (.cells #[.string ⟨#[]⟩] 9))
  have HE := hide (errorString_any q s (w.alloc (.cells #[.string ⟨#[]⟩] 9)) ((HB.out.block q (heap_lt hq)).trans hq))
  have hc := one_cell hg
  have hf := one_free hg
  have hm := methodErrO
  clear hg hq
  go_enter_defers Tryd.func38, Tryd.ntmps38
  go_wp2_with (go_at_call 83; refine HE.out.mono ?_; rintro r w2 ⟨rfl, rfl⟩)
  refine leaves_cons (f := 46) (args := #[.pointer (some ⟨w.heap.size, 0, none⟩)]) (by simp) (by simp [go_sem]) ?_
  refine (text_idle ⟨w.heap.size, 0, none⟩ _).mono ?_
  rintro e' u' w'' ⟨rfl, rfl, rfl⟩
  simp [Leaves, settle, results, Tryd.results38, go_sem]
  exact (Below.refl w.heap.size w).alloc (Nat.le_refl _) _

theorem text_any (i : Value) (l : List UInt8) (w : World) (h : Txt w i l) :
    Calls Tryd.prog 38 #[i] w fun r w' => r = .returned (.string (str l)) ∧ Below w.heap.size w w' := by
  rcases h with ⟨rfl, rfl⟩ | ⟨k, rfl, rfl⟩ | ⟨q, s, rfl, hq, rfl⟩
  · exact text_nil w
  · exact text_num k w
  · exact text_own q s w hq

end Go.Proofs.YtknnalcnoccleaaDoor.Fa
