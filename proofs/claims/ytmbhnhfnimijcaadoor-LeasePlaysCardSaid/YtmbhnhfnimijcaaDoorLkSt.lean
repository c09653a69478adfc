/-
  Rows among other things in memory: a cell is read or stored; a row of numbers is made. Plain theorems, no program of the project.
-/
import Derived.Laws.OwnMore
import Derived.Test.YtmbhnhfnimijcaaDoorLkRow
namespace Go.Proofs.YtmbhnhfnimijcaaDoor.Lk
open Go.RowKit
open Pk Dk Wn

section
variable {w0 w w' W : World} {Ts : List Thg} {i : Nat} {e : TypeId} {size n m c g o : Nat} {xs xs' : List Value} {v v' : Value} {G : Nat → Prop}
theorem Row.stored (h : Row e size (.slice (some ⟨g, o, none⟩) n c) n xs w G) (j : Nat) (u : Value) (hj : j < xs.length) : After (rowT e size (.slice (some ⟨g, o, none⟩) n c) n (xs.set j u)) w G (w.setCell ⟨g, o + j, none⟩ u) := by
  obtain ⟨cur, hg, h1, h2, h3, h4⟩ := ORow.block h.row
  have hl := h.row.1
  have hle : n * size ≤ c * size := Nat.mul_le_mul_right _ h1
  have hg' := heap_setCell_same w g (o + j) _ _ u hg
  have hsz : (w.setCell ⟨g, o + j, none⟩ u).heap.size = w.heap.size := by simp [World.setCell]
  refine ⟨G, ⟨⟨by rw [List.length_set]; exact hl, Or.inr ⟨g, o, c, _, rfl, hg', h1, h2, by simpa using h3, ?_⟩⟩, h.own, fun k hk => by rw [hsz]; exact h.lt k hk⟩, Grew.refl _ _, ⟨rfl, rfl, rfl, by rw [hsz]; exact Nat.le_refl _, fun k _ hn => heap_setCell_other _ _ _ _ (fun e => hn (by have e' : k = g := e; rw [e']; exact h.own g rfl))⟩⟩
  rw [← h4]
  apply List.ext_getElem?
  intro k
  rw [List.getElem?_set]
  simp only [Array.toList_setIfInBounds, List.getElem?_take, List.getElem?_drop, List.getElem?_set, List.length_take, List.length_drop, Array.length_toList]
  by_cases hk : j = k
  · subst hk
    have a1 : j < n * size := by omega
    have a2 : o + j < cur.size := by omega
    have a3 : j < cur.size - o := by omega
    simp [a1, a2, a3, Nat.lt_min]
  · simp [hk]
theorem Row.cell (h : Row e size (.slice (some ⟨g, o, none⟩) n c) n xs w G) {j : Nat} {u : Value} (hj : xs[j]? = some u) : w.cell? ⟨g, o + j, none⟩ = some u := by
  obtain ⟨g', o', e', _, hc⟩ := h.row.src (by rintro rfl; simp at hj)
  simp only [Option.some.injEq, Addr.mk.injEq] at e'
  obtain ⟨rfl, rfl, _⟩ := e'
  exact hc j u hj
theorem Row.frozen (h : Row e size (.slice (some ⟨g, o, none⟩) n c) n xs w G) (j : Nat) : w.frozen? ⟨g, j, none⟩ = false := by
  obtain ⟨cur, hg, _⟩ := ORow.block h.row
  simp [World.frozen?, hg]
/-- A row among others: its cells, and what a store leaves. -/
theorem St.row (h : St w0 Ts w) (hi : Ts[i]? = some (rowT e size (.slice (some ⟨g, o, none⟩) n c) n xs)) :
    (∀ j u, xs[j]? = some u → w.cell? ⟨g, o + j, none⟩ = some u) ∧ (∀ j, w.frozen? ⟨g, j, none⟩ = false) ∧ ∀ j u, j < xs.length → St w0 (Ts.set i (rowT e size (.slice (some ⟨g, o, none⟩) n c) n (xs.set j u))) (w.setCell ⟨g, o + j, none⟩ u) := by
  obtain ⟨G, hp, _, hs⟩ := St.opened h hi
  have hp' : Row e size (.slice (some ⟨g, o, none⟩) n c) n xs w G := hp
  exact ⟨fun j u hj => Row.cell hp' hj, fun j => Row.frozen hp' j, fun j u hj => hs _ _ (Row.stored hp' j u hj)⟩
theorem St.orow (h : St w0 Ts w) (hi : Ts[i]? = some (rowT e size v n xs)) : ORow w e size v n xs := by
  obtain ⟨G, hp, _, hs⟩ := St.opened h hi
  exact Row.row hp
theorem St.src {A : Option Addr} (h : St w0 Ts w) (hi : Ts[i]? = some (rowT e size (.slice A n c) n xs)) : Src w A xs := (St.orow h hi).src
/-- An append onto a row among others. -/
theorem St.app (h : St w0 Ts w) (hi : Ts[i]? = some (rowT e size v n xs)) (hb : Below w.heap.size w W) (hg : Grown W e size v m xs' v' w') : St w0 (Ts.set i (rowT e size v' m xs')) w' := by
  obtain ⟨G, hp, _, hs⟩ := St.opened h hi
  exact hs _ _ (Row.app hp hb hg)
/-- An append onto a row that the call itself made, which takes the place of another. -/
theorem St.fresh (h : St w0 Ts w) (hi : Ts[i]? = some (rowT e size v n xs)) (hb : Below w.heap.size w w') (hr : ORow w' e size v' m xs') (ho : ∀ k, v'.ownBlock = some k → w.heap.size ≤ k) : St w0 (Ts.set i (rowT e size v' m xs')) w' := by
  obtain ⟨G, hp, _, hs⟩ := St.opened h hi
  have hp' : Row e size v n xs w G := hp
  refine hs _ _ ⟨fun k => G k ∨ (w.heap.size ≤ k ∧ k < w'.heap.size), ⟨hr, fun k hk => Or.inr ⟨ho k hk, hr.lt k hk⟩, fun k hk => ?_⟩, fun k hk => hk.imp id And.left, Kept.of_below hb⟩
  rcases hk with h1 | h1
  · exact Nat.lt_of_lt_of_le (hp'.lt k h1) hb.size
  · exact h1.2
end

/-- make of a slice whose elements have one cell. -/
theorem wpList_make {P : Program} {ops : Array Oper} {rest : List Oper} {o : Oper} {a : Act} {w : World} {Q : Exit → Act → World → Prop} {t e : TypeId} {bytes : Nat} (hA : AppTy P t e 1 bytes) (z : Value) (hz : (P.info? e).map (·.zero) = some (some z)) (hz1 : z.cells = #[z]) (hg : o.guard = none) (x y : Operand) (ho : o.op = .makeSlice t x y)
    (c : Nat) (hx : a.eval x = .int .i64 (c : Int)) (hy : a.eval y = .int .i64 (c : Int)) (hc : c ≤ 1000) (hby : bytes ≤ 1000)
    (h : ∀ w', Hid ((rowT e 1 (.slice (some ⟨w.heap.size, 0, none⟩) c c) c (List.replicate c z)).P w' (· = w.heap.size) ∧ Below w.heap.size w w') → wpList P ops Q rest (a.put o.dst (.slice (some ⟨w.heap.size, 0, none⟩) c c)) w') : wpList P ops Q (o :: rest) a w := by
  obtain ⟨ht, i, z', hi, hz', hsize, hb, hzs⟩ := hA
  rw [hi] at hz
  simp only [Option.map_some, Option.some.injEq] at hz
  rw [hz'] at hz
  obtain rfl := Option.some.inj hz
  refine wpList_plain hg fun K hK => ?_
  have hm : i.bytes * c ≤ 1000 * 1000 := by rw [hb]; exact Nat.mul_le_mul hby hc
  have hm' : (i.bytes : Int) * (c : Int) ≤ 281474976710656 := by
    have : ((i.bytes * c : Nat) : Int) ≤ ((1000 * 1000 : Nat) : Int) := by exact_mod_cast hm
    rw [Int.natCast_mul] at this
    omega
  have hrun := run_make (P := P) w t e i z' ht hi hz' .i64 .i64 c c (by omega) (by omega) hm' (by omega)
  unfold Oper.wp execOp
  simp only [ho, hx, hy, Sem.run_bind, hrun, Sem.run_pure, Result.andThen_ok, Int.toNat_natCast]
  refine hK _ _ (h _ ⟨?_, (Below.refl _ _).alloc (Nat.le_refl _) _⟩)
  have hcs : (madeCells z'.cells (c * i.size)).toList = List.replicate c z' := by rw [hz1, hsize, Nat.mul_one]; exact toList_madeCells_one z' c
  refine ⟨?_, fun k hk => by simpa [Value.ownBlock] using hk.symm, fun k hk => by rw [hk]; simp⟩
  rw [← hcs]
  exact ORow.made (heap_alloc_new w _) (by rw [size_madeCells, hsize]) (by unfold maxLen; omega)

theorem Src.take {w : World} {A : Option Addr} {xs : List Value} (h : Src w A xs) (k : Nat) : Src w A (xs.take k) := fun hn => by
  obtain ⟨g, o, e, hl, hc⟩ := h (by rintro rfl; simp at hn)
  refine ⟨g, o, e, hl, fun j u hj => hc j u ?_⟩
  have hlt := (List.getElem?_eq_some_iff.1 hj).1
  rw [List.getElem?_take, if_pos (by simp at hlt; omega)] at hj
  exact hj
theorem Src.drop {w : World} {g o : Nat} {xs : List Value} (h : Src w (some ⟨g, o, none⟩) xs) (k : Nat) : Src w (some ⟨g, o + k, none⟩) (xs.drop k) := fun hn => by
  obtain ⟨g', o', e, hl, hc⟩ := h (by rintro rfl; simp at hn)
  simp only [Option.some.injEq, Addr.mk.injEq] at e
  obtain ⟨rfl, rfl, _⟩ := e
  refine ⟨g, o + k, rfl, hl, fun j u hj => ?_⟩
  rw [List.getElem?_drop] at hj
  rw [Nat.add_assoc]
  exact hc _ _ hj
theorem Src.none (w : World) (A : Option Addr) : Src w A [] := fun h => absurd rfl h
/-- What a row made by appends onto one that the call made leaves. -/
theorem Grown.new {w W w' : World} {e : TypeId} {size n : Nat} {v v' : Value} {xs : List Value} (hg : Grown W e size v n xs v' w') (hb : Below w.heap.size w W) (ho : ∀ k, v.ownBlock = some k → w.heap.size ≤ k) : Below w.heap.size w w' ∧ ∀ k, v'.ownBlock = some k → w.heap.size ≤ k := by
  refine ⟨(hg.kept (G := fun k => w.heap.size ≤ k) hb ho).below (fun _ h => h) (Nat.le_refl _), fun k hk => ?_⟩
  rcases hg.own k hk with h1 | h1
  · exact ho k h1
  · exact Nat.le_trans hb.size h1
/-- A row of n numbers, told by a function. -/
def Tab (xs : List Value) (n : Nat) (f : Nat → Int) : Prop := xs.length = n ∧ ∀ j, j < n → xs[j]? = some (.int .i64 (f j))
theorem Tab.set {xs : List Value} {n : Nat} {f : Nat → Int} (h : Tab xs n f) (x : Nat) (v : Int) : Tab (xs.set x (.int .i64 v)) n (fun j => if j = x then v else f j) := by
  refine ⟨by rw [List.length_set]; exact h.1, fun j hj => ?_⟩
  rw [List.getElem?_set]
  by_cases he : x = j
  · subst he
    simp [h.1, hj]
  · simp [he, h.2 j hj, show ¬ j = x from fun e => he e.symm]
theorem Tab.congr {xs : List Value} {n : Nat} {f f' : Nat → Int} (h : Tab xs n f) (he : ∀ j, j < n → f' j = f j) : Tab xs n f' := ⟨h.1, fun j hj => by rw [he j hj]; exact h.2 j hj⟩
theorem Tab.zero (n : Nat) : Tab (List.replicate n (.int .i64 0)) n (fun _ => 0) := ⟨by simp, fun j hj => by simp [hj]⟩
/-- The same, of a row that begins with its block. -/
theorem St.row0 {w0 w : World} {Ts : List Thg} {i : Nat} {e : TypeId} {size n c g : Nat} {xs : List Value} (h : St w0 Ts w) (hi : Ts[i]? = some (rowT e size (.slice (some ⟨g, 0, none⟩) n c) n xs)) :
    (∀ j u, xs[j]? = some u → w.cell? ⟨g, j, none⟩ = some u) ∧ (∀ j, w.frozen? ⟨g, j, none⟩ = false) ∧ ∀ j u, j < xs.length → St w0 (Ts.set i (rowT e size (.slice (some ⟨g, 0, none⟩) n c) n (xs.set j u))) (w.setCell ⟨g, j, none⟩ u) := by
  have := St.row h hi
  simpa only [Nat.zero_add] using this

end Go.Proofs.YtmbhnhfnimijcaaDoor.Lk
