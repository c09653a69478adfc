/-
  A wrapped error in memory: its faults, the outermost first, and what lies innermost; a slice of values that reads as a list; fault.unwrapped returns just these. Nothing below is changed. Conditions: at most 60000 faults; what lies innermost is nil, or an api.Errno; the library's variable errors.errorType holds its own type's handle.
-/
import Derived.Test.YteneacmdfehfnaaFaIs1
namespace Go.Proofs.Yteneacmdfehfnaa.Fa
open Go.RowKit
open Pk

/-- A fault's block, its name, its number. -/
abbrev Flt := Nat × ByteArray × Int

/-- e is the faults fs, the outermost first, around i. -/
def Chain (w : World) : List Flt → Value → Value → Prop
  | [], e, i => e = i
  | (p, op, n) :: r, e, i => e = .iface 57 (.pointer (some ⟨p, 0, none⟩)) ∧ ∃ e', w.heap[p]? = some (.cells #[.string op, .int .i64 n, e'] 59 (0, 0)) ∧ Chain w r e' i

theorem Chain.below {w w' : World} {B : Nat} (hB : w.heap.size ≤ B) (hb : Below B w w') : ∀ {fs : List Flt} {e i : Value}, Chain w fs e i → Chain w' fs e i
  | [], _, _, h => h
  | (p, _, _) :: _, _, _, ⟨he, e', hp, hr⟩ => ⟨he, e', (hb.block p (Nat.lt_of_lt_of_le (heap_lt hp) hB)).trans hp, hr.below hB hb⟩

/-- What may lie innermost. -/
def Inner (i : Value) : Prop := i = .nilIface ∨ ∃ k : Int, i = .iface 54 (.int .i64 k)

def ptrs (fs : List Flt) : List Value := fs.map fun f => .pointer (some ⟨f.1, 0, none⟩)
theorem ptrs_length (fs : List Flt) : (ptrs fs).length = fs.length := by simp [ptrs]
theorem ptrs_get {fs : List Flt} {k : Nat} {f : Flt} (h : fs[k]? = some f) : (ptrs fs)[k]? = some (.pointer (some ⟨f.1, 0, none⟩)) := by simp [ptrs, h]

/-- A slice's address leads to the values xs, one behind the other, below block B. -/
def Vec (w : World) (B : Nat) (A : Option Addr) (xs : List Value) : Prop :=
  xs ≠ [] → ∃ b o, A = some ⟨b, o, none⟩ ∧ b < B ∧ ∀ j u, xs[j]? = some u → w.cell? ⟨b, o + j, none⟩ = some u
section
variable {w w' : World} {B B' : Nat} {A : Option Addr} {xs : List Value}
theorem Vec.nil : Vec w B A [] := fun h => absurd rfl h
theorem Vec.below (h : Vec w B A xs) (hb : Below B w w') : Vec w' B A xs := fun hn => by
  obtain ⟨b, o, e, hlt, hc⟩ := h hn
  exact ⟨b, o, e, hlt, fun j u hu => (hb.cell (p := ⟨b, o + j, none⟩) hlt).trans (hc j u hu)⟩
theorem Vec.more (h : Vec w B A xs) (hB : B ≤ B') : Vec w B' A xs := fun hn => by
  obtain ⟨b, o, e, hlt, hc⟩ := h hn
  exact ⟨b, o, e, by omega, hc⟩
theorem Vec.keep (h : Vec w w.heap.size A xs) (hb : Below w.heap.size w w') : Vec w' w'.heap.size A xs := (h.below hb).more hb.size
end

/-- A row of the call's own as a slice that reads as a list. -/
theorem vec_own {w : World} {base : Nat} {e : TypeId} {v : Value} {n : Nat} {xs : List Value} (h : w.ownsRow base e 1 v n xs) :
    ∃ A c, v = .slice A n c ∧ n ≤ c ∧ c ≤ maxLen ∧ Vec w w.heap.size A xs := by
  have hl : xs.length = n := by have := h.1; omega
  rcases h.2 with ⟨rfl, h0⟩ | ⟨g, cap, cur, rfl, hb, hg, hn, hm, hs, htk⟩
  · exact ⟨none, 0, by rw [h0], by omega, by unfold maxLen; omega, fun hne => absurd (List.eq_nil_of_length_eq_zero (by omega)) hne⟩
  · refine ⟨_, cap, rfl, hn, hm, fun _ => ⟨g, 0, rfl, (Array.getElem?_eq_some_iff.1 hg).1, fun j u hu => ?_⟩⟩
    have hj : j < n := by rw [← hl]; exact (List.getElem?_eq_some_iff.1 hu).1
    rw [Nat.zero_add, World.ownsRow.cellAt h j (by omega)]
    exact hu

theorem own_below {w w' : World} {B e size n : Nat} {v : Value} {xs : List Value} (h : w.ownsRow B e size v n xs) (hb : Below w.heap.size w w') : w'.ownsRow B e size v n xs := by
  refine ⟨h.1, ?_⟩
  rcases h.2 with h0 | ⟨g, cap, cur, hv, hB, hg, hr⟩
  · exact Or.inl h0
  · exact Or.inr ⟨g, cap, cur, hv, hB, (hb.block g (heap_lt hg)).trans hg, hr⟩

theorem cell_new1 (w : World) (x : Value) (t : TypeId) : ∀ j u, [x][j]? = some u → (w.alloc (.cells #[x] t)).cell? ((⟨w.heap.size, 0, none⟩ : Addr).add j) = some u := by
  intro j u hj
  match j, hj with
  | 0, hj => simp at hj; subst hj; simp [Addr.add]

theorem pf_info : (Try.prog.info? 57).map (fun i => (i.zero, i.size, i.bytes)) = some (some (.pointer none), 1, 8) := by kernel_rfl

theorem take_snoc {α : Type} (l : List α) (k : Nat) (x : α) (h : l[k]? = some x) : l.take (k + 1) = l.take k ++ [x] := by
  rw [List.take_add_one, h]
  rfl

end Go.Proofs.Yteneacmdfehfnaa.Fa
