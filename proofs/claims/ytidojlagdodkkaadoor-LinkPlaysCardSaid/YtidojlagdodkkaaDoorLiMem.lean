/-
  A link in memory, of messages of one type; messages in a row. Plain theorems, no premise beyond those in each.
-/
import Derived.WalkKit
import Derived.BigQuiet
import Derived.Laws.Pointers
import Derived.Great.BuildSlice
import Derived.Lib.MinMax
import Derived.Test.YtidojlagdodkkaaDoorLkRow
namespace Go.Proofs.YtidojlagdodkkaaDoor.Li
open Go.RowKit
open Pk Dk Wn Lk

/-! ### Messages -/
def cel (x : Int) : List Value := [.int .i64 x]
def vals (L : List Int) : List Value := L.flatMap cel
theorem cel_len (L : List Int) : ∀ x ∈ L, (cel x).length = 1 := fun _ _ => rfl
theorem vals_len (L : List Int) : (vals L).length = L.length * 1 := flat_len L (cel_len L)
theorem vals_append (L M : List Int) : vals (L ++ M) = vals L ++ vals M := by simp [vals]
theorem vals_one1 (x : Int) : vals [x] = [.int .i64 x] := by simp [vals, cel]
theorem cel_one (x : Int) : ∀ u ∈ cel x, u.oneCell' = true := by
  intro u hu
  simp only [cel, List.mem_cons, List.not_mem_nil, or_false] at hu
  rcases hu with rfl <;> rfl
theorem vals_one (L : List Int) : ∀ u ∈ vals L, u.oneCell' = true := by
  intro u hu
  obtain ⟨q, _, hq⟩ := List.mem_flatMap.1 hu
  exact cel_one q u hq
theorem vals_erase (L : List Int) (i : Nat) : vals (L.eraseIdx i) = (vals L).take (i * 1) ++ (vals L).drop ((i + 1) * 1) := flat_erase L (cel_len L) i
theorem app_el : AppTy Tryd.prog 70 3 1 8 := AppTy.of Tryd.underlying70 (by kernel_rfl)
theorem one_el : ∀ i z, Tryd.prog.info? 3 = some i → i.zero = some z → ∀ j (h : j < z.cells.size), (z.cells[j]).oneCell' = true := by
  have h := (show (Tryd.prog.info? 3).map (·.zero) = some (some (.int .i64 0)) by kernel_rfl)
  intro i z hi hz j hj
  rw [hi] at h
  simp only [Option.map_some, Option.some.injEq] at h
  rw [hz] at h
  simp only [Option.some.injEq] at h
  subst h
  match j, hj with
  | 0, _ => rfl
  | j + 1, h => simp [Value.cells] at h
/-- One message of a row. -/
theorem Src.msg {w : World} {A : Option Addr} {L : List Int} {j : Nat} {x : Int} (h : Src w A (vals L)) (hx : L[j]? = some x) : ∃ g o, A = some ⟨g, o, none⟩ ∧ g < w.heap.size ∧ w.cell? ⟨g, o + j, none⟩ = some (.int .i64 x) := by
  have h0 : ∀ k, k < 1 → (vals L)[j * 1 + k]? = (cel x)[k]? := fun k hk => flat_get L (cel_len L) j k x hx hk
  obtain ⟨g, o, e, hl, hc⟩ := h (by intro e; have := h0 0 (by decide); rw [e] at this; simp [cel] at this)
  refine ⟨g, o, e, hl, ?_⟩
  exact hc j _ (by rw [show j = j * 1 + 0 by omega, h0 0 (by decide)]; rfl)

/-! ### A link -/
abbrev more (R : Nat) (C : Bool) : List Value := [.int .i64 (R : Int), .bool C]
/-- A link of the messages L, of capacity R, cut or not. -/
structure Lnk (p : Nat) (L : List Int) (R : Nat) (C : Bool) (w : World) (G : Nat → Prop) : Prop where
  ex : ∃ X, BAt 72 3 1 p X (more R C) L.length (vals L) w G
  len : L.length ≤ R
  room : R ≤ 4096
theorem Lnk.kept {p R : Nat} {C : Bool} {L : List Int} {w w' : World} {G K : Nat → Prop} (h : Lnk p L R C w G) (hk : Kept K w w') (hd : ∀ k, G k → ¬ K k) : Lnk p L R C w' G := by
  obtain ⟨X, hx⟩ := h.ex
  exact ⟨⟨X, BAt.kept hx hk hd⟩, h.len, h.room⟩
theorem Lnk.lt {p R : Nat} {C : Bool} {L : List Int} {w : World} {G : Nat → Prop} (h : Lnk p L R C w G) : ∀ k, G k → k < w.heap.size := by
  obtain ⟨X, hx⟩ := h.ex
  exact hx.lt
def lnkT (p : Nat) (L : List Int) (R : Nat) (C : Bool) : Thg := ⟨Lnk p L R C, fun h hk hd => Lnk.kept h hk hd, fun h => Lnk.lt h⟩
section
variable {w w' : World} {G : Nat → Prop} {p R : Nat} {C C' : Bool} {L L' : List Int} {X : Value}
theorem Lnk.below (h : Lnk p L R C w G) (hb : Below w.heap.size w w') : Lnk p L R C w' G := h.kept (Kept.of_below (G := fun _ => False) hb) fun _ _ h => h
theorem Lnk.after (h : Lnk p L R C w G) (hb : Below w.heap.size w w') : After (lnkT p L R C) w G w' := ⟨G, h.below hb, Grew.refl _ _, Kept.of_below hb⟩
/-- The cells of a link. -/
theorem Lnk.cells (h : Lnk p L R C w G) : ∃ A n c, BAt 72 3 1 p (.slice A n c) (more R C) n (vals L) w G ∧ n = L.length ∧ n ≤ c ∧ c ≤ maxLen ∧ Src w A (vals L) ∧ w.cell? ⟨p, 0, none⟩ = some (.slice A n c) ∧ w.cell? ⟨p, 1, none⟩ = some (.int .i64 (R : Int)) ∧ w.cell? ⟨p, 2, none⟩ = some (.bool C) ∧ ∀ j, w.frozen? ⟨p, j, none⟩ = false := by
  obtain ⟨X, hx⟩ := h.ex
  obtain ⟨A, c, rfl, h1, h2, _⟩ := hx.row.form
  exact ⟨A, _, c, hx, rfl, h1, h2, hx.row.src, hx.cell 0, hx.cell 1, hx.cell 2, hx.frozen⟩
theorem Lnk.of {m : Nat} {ys : List Value} {h1 h2} (h : After ⟨BAt 72 3 1 p X (more R C) m ys, h1, h2⟩ w G w') (hm : m = L.length) (hy : ys = vals L) (hl : L.length ≤ R) (hr : R ≤ 4096) : After (lnkT p L R C) w G w' := by
  obtain ⟨G', hp, hg, hk⟩ := h
  subst hy hm
  exact ⟨G', ⟨⟨X, hp⟩, hl, hr⟩, hg, hk⟩
/-- It is cut, or no longer. -/
theorem Lnk.setc (h : Lnk p L R C w G) : After (lnkT p L R C') w G (w.setCell ⟨p, 2, none⟩ (.bool C')) := by
  obtain ⟨X, hx⟩ := h.ex
  have h5 := hx.set 1 (.bool C')
  exact ⟨G, ⟨⟨X, h5.1⟩, h.len, h.room⟩, Grew.refl _ _, h5.2⟩
end
theorem Lnk.fresh (w : World) (R : Nat) (hR : R ≤ 4096) : Lnk w.heap.size [] R false (w.alloc (.cells #[.slice none 0 0, .int .i64 (R : Int), .bool false] 72)) (· = w.heap.size) :=
  ⟨⟨_, BAt.fresh w _ _ 1 (more R false)⟩, Nat.zero_le _, hR⟩
/-- A message, or several, in a block that was just made. -/
theorem made_row {w0 wd : World} (hb : Below w0.heap.size w0 wd) (cs : Array Value) (t : TypeId) : Below w0.heap.size w0 (wd.alloc (.cells cs t)) ∧ Src (wd.alloc (.cells cs t)) (some ⟨wd.heap.size, 0, none⟩) cs.toList :=
  ⟨hb.alloc hb.size _, fun _ => ⟨wd.heap.size, 0, rfl, by simp, fun j u hu => by rw [Nat.zero_add, cell_of_row _ _ j _ _ _ (heap_alloc_new _ _), ← Array.getElem?_toList]; exact hu⟩⟩
theorem made_msg {w0 wd : World} (hb : Below w0.heap.size w0 wd) (x : Int) : Below w0.heap.size w0 (wd.alloc (.cells #[.int .i64 x] 3)) ∧ Src (wd.alloc (.cells #[.int .i64 x] 3)) (some ⟨wd.heap.size, 0, none⟩) (cel x) := made_row hb _ _

end Go.Proofs.YtidojlagdodkkaaDoor.Li
