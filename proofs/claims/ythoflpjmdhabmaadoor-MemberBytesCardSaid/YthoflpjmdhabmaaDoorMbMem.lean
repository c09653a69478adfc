/-
  A group in memory: its set and the row of its changes; numbers in a slice; changes in a row. Plain theorems on what is in memory; nothing of a call.
-/
import Derived.WalkKit
import Derived.BigQuiet
import Derived.Laws.Pointers
import Derived.Great.BuildSlice
import Derived.Test.YthoflpjmdhabmaaDoorMbMath
import Derived.Test.YthoflpjmdhabmaaDoorThAll
namespace Go.Proofs.YthoflpjmdhabmaaDoor.Mb
open Go.RowKit
open Pk Dk Wn Lk

/-! ### Numbers in a slice -/
def I64 (x : Int) : Prop := -9223372036854775808 ≤ x ∧ x ≤ 9223372036854775807
def nums (l : List Int) : List Value := l.map (.int .i64)
theorem nums_len (l : List Int) : (nums l).length = l.length := by simp [nums]
theorem nums_get {l : List Int} {j : Nat} {x : Int} (h : l[j]? = some x) : (nums l)[j]? = some (.int .i64 x) := by simp [nums, h]
theorem nums_snoc (l : List Int) (x : Int) : nums (l ++ [x]) = nums l ++ [.int .i64 x] := by simp [nums]
theorem app_int : AppTy Tryd.prog 22 3 1 8 := AppTy.of Tryd.underlying22 (by kernel_rfl)
/-- Numbers in a slice that a call made. -/
structure Ints (w : World) (B : Nat) (v : Value) (l : List Int) : Prop where
  row : ORow w 3 1 v l.length (nums l)
  own : ∀ k, v.ownBlock = some k → B ≤ k
theorem Ints.below {w w' : World} {B : Nat} {v : Value} {l : List Int} (h : Ints w B v l) (hb : Below w.heap.size w w') : Ints w' B v l := ⟨h.row.below hb, h.own⟩
theorem Ints.form {w : World} {B : Nat} {v : Value} {l : List Int} (h : Ints w B v l) : ∃ A c, v = .slice A l.length c ∧ l.length ≤ c ∧ c ≤ maxLen ∧ Src w A (nums l) := by
  obtain ⟨A, c, rfl, h1, h2, _⟩ := h.row.form
  exact ⟨A, c, rfl, h1, h2, h.row.src⟩
theorem Ints.nil (w : World) (B : Nat) : Ints w B (.slice none 0 0) [] := ⟨ORow.nil _ _ _, fun k hk => by simp [Value.ownBlock] at hk⟩
theorem Src.num {w : World} {A : Option Addr} {l : List Int} {j : Nat} {x : Int} (h : Src w A (nums l)) (hx : l[j]? = some x) : ∃ g o, A = some ⟨g, o, none⟩ ∧ g < w.heap.size ∧ w.cell? ⟨g, o + j, none⟩ = some (.int .i64 x) := by
  obtain ⟨g, o, e, hl, hc⟩ := h (by intro e; have := nums_get hx; rw [e] at this; simp at this)
  exact ⟨g, o, e, hl, hc _ _ (nums_get hx)⟩
/-- A new row beside what was made before the call. -/
structure Made (w0 W : World) (g : Nat) (news : List Value) : Prop where
  src : Src W (some ⟨g, 0, none⟩) news
  bel : Below w0.heap.size w0 W
theorem Made.row {w0 wd : World} (hb : Below w0.heap.size w0 wd) (cs : Array Value) (t : TypeId) : Made w0 (wd.alloc (.cells cs t)) wd.heap.size cs.toList :=
  ⟨fun _ => ⟨_, 0, rfl, by simp, fun j u hj => by rw [cell_of_row _ _ _ _ _ _ (heap_alloc_new wd _)]; simpa using hj⟩, hb.alloc hb.size _⟩

/-! ### Changes in a row -/
abbrev Ch.val (c : Ch) : Value := .agg #[.int .i64 c.m, .int .i64 c.v, .bool c.r]
def ccel (c : Ch) : List Value := [.int .i64 c.m, .int .i64 c.v, .bool c.r]
def ccels (L : List Ch) : List Value := L.flatMap ccel
theorem ccel_len (L : List Ch) : ∀ c ∈ L, (ccel c).length = 3 := fun _ _ => rfl
theorem ccels_len (L : List Ch) : (ccels L).length = L.length * 3 := flat_len L (ccel_len L)
theorem ccels_snoc (L : List Ch) (c : Ch) : ccels (L ++ [c]) = ccels L ++ ccel c := by simp [ccels]
theorem ccel_ones (c : Ch) : ∀ u ∈ ccel c, u.oneCell' = true := by
  intro u hu
  simp only [ccel, List.mem_cons, List.not_mem_nil, or_false] at hu
  rcases hu with rfl | rfl | rfl <;> rfl
/-- The cells of one change, at a place. -/
structure CAt (w : World) (g o : Nat) (c : Ch) : Prop where
  m : w.cell? ⟨g, o, none⟩ = some (.int .i64 c.m)
  v : w.cell? ⟨g, o + 1, none⟩ = some (.int .i64 c.v)
  r : w.cell? ⟨g, o + 2, none⟩ = some (.bool c.r)
theorem Src.chg {w : World} {A : Option Addr} {L : List Ch} {j : Nat} {c : Ch} (h : Src w A (ccels L)) (hc : L[j]? = some c) : ∃ g o, A = some ⟨g, o, none⟩ ∧ g < w.heap.size ∧ CAt w g (o + j * 3) c := by
  have f := fun i (hi : i < 3) => flat_get (f := ccel) L (ccel_len L) j i c hc hi
  have h0 : (ccels L)[j * 3 + 0]? = some (.int .i64 c.m) := f 0 (by omega)
  have h1 : (ccels L)[j * 3 + 1]? = some (.int .i64 c.v) := f 1 (by omega)
  have h2 : (ccels L)[j * 3 + 2]? = some (.bool c.r) := f 2 (by omega)
  obtain ⟨g, o, e, hl, hd⟩ := h (by intro e; rw [e] at h0; simp at h0)
  exact ⟨g, o, e, hl, hd _ _ h0, by rw [Nat.add_assoc]; exact hd _ _ h1, by rw [Nat.add_assoc]; exact hd _ _ h2⟩
theorem app_ch : AppTy Tryd.prog 56 70 3 24 := AppTy.of Tryd.underlying56 (by kernel_rfl)

/-! ### A group -/
abbrev gcel (s : Nat) (X : Value) : Array Value := #[.int .i64 (s : Int), X]
def grpT (p s : Nat) (L : List Ch) : Thg := exT fun X : Value => oneT p (gcel s X) 58 70 3 X L.length (ccels L)
section
variable {w w' : World} {G : Nat → Prop} {p s : Nat} {L : List Ch}
theorem Grp.cells (h : (grpT p s L).P w G) : ∃ A n c, (oneT p (gcel s (.slice A n c)) 58 70 3 (.slice A n c) n (ccels L)).P w G ∧ n = L.length ∧ n ≤ c ∧ c ≤ maxLen ∧ Src w A (ccels L) ∧ p < w.heap.size ∧ w.cell? ⟨p, 0, none⟩ = some (.int .i64 (s : Int)) ∧ w.cell? ⟨p, 1, none⟩ = some (.slice A n c) ∧ ∀ j, w.frozen? ⟨p, j, none⟩ = false := by
  obtain ⟨X, hx⟩ := h
  obtain ⟨n, hn⟩ : ∃ n, L.length = n := ⟨_, rfl⟩
  rw [hn] at hx
  have hr := One.row hx
  obtain ⟨A, c, rfl, h1, h2, _⟩ := hr.form
  exact ⟨A, n, c, hx, hn.symm, h1, h2, hr.src, One.lt hx, One.cell hx 0, One.cell hx 1, One.frozen hx⟩
/-- A slice without room behind it. -/
theorem Row.clip {e : TypeId} {size n c : Nat} {A : Option Addr} {xs : List Value} (h : Row e size (.slice A n c) n xs w G) : Row e size (.slice A n n) n xs w G := by
  refine ⟨⟨h.row.1, ?_⟩, ?_, h.lt⟩
  · rcases h.row.2 with ⟨h0, h1⟩ | ⟨g, o, cap, cur, h0, hg, h1, h2, h3, h4⟩
    · simp only [Value.slice.injEq] at h0
      obtain ⟨rfl, rfl, rfl⟩ := h0
      exact Or.inl ⟨rfl, rfl⟩
    · simp only [Value.slice.injEq] at h0
      obtain ⟨rfl, _, rfl⟩ := h0
      exact Or.inr ⟨g, o, n, cur, rfl, hg, Nat.le_refl _, Nat.le_trans h1 h2, by have := Nat.mul_le_mul_right size h1; omega, h4⟩
  · intro k hk
    exact h.own k (by cases A with | none => simp [Value.ownBlock] at hk | some a => simpa [Value.ownBlock] using hk)
theorem Grp.clip {A : Option Addr} {n c : Nat} (h : (oneT p (gcel s (.slice A n c)) 58 70 3 (.slice A n c) n (ccels L)).P w G) : ORow w 70 3 (.slice A n n) n (ccels L) ∧ ∀ {W w2 : World} {v : Value} {m : Nat} {M : List Ch}, Below w.heap.size w W → Grown W 70 3 (.slice A n n) m (ccels M) v w2 → m = M.length → w2.cell? ⟨p, 1, none⟩ = w.cell? ⟨p, 1, none⟩ ∧ w2.frozen? ⟨p, 1, none⟩ = false ∧ After (grpT p s M) w G (w2.setCell ⟨p, 1, none⟩ v) := by
  obtain ⟨G1, hp, _, hs⟩ := All.opened h (j := 1) rfl
  have hp1 : Row 70 3 (.slice A n c) n (ccels L) w G1 := hp
  have hp2 := Row.clip hp1
  refine ⟨Row.row hp2, fun {W w2 v m M} hb hg hm => ?_⟩
  subst hm
  have hA := hs w2 (rowT 70 3 v M.length (ccels M)) (Row.app hp2 hb hg)
  obtain ⟨hbox, hst⟩ := One.store (cs := gcel s (.slice A n c)) (j := 1) hA
  have hc0 := One.cell h 1
  refine ⟨?_, ?_, Lk.After.imp hst fun G' h' => ⟨v, h'⟩⟩
  · rw [hc0, cell_of_row w2 p 1 _ _ _ hbox]
  · simp [World.frozen?, hbox]
theorem Grp.fresh (w : World) : ∃ G, (grpT w.heap.size 0 []).P (w.alloc (.cells (gcel 0 (.slice none 0 0)) 58)) G ∧ ∀ k, G k → w.heap.size ≤ k := by
  obtain ⟨G, h1, h2⟩ := One.fresh w (gcel 0 (.slice none 0 0)) 58 70 3
  exact ⟨G, ⟨_, h1⟩, h2⟩
/-- Its set is stored. -/
theorem Grp.set (h : (grpT p s L).P w G) (t : Nat) : After (grpT p t L) w G (w.setCell ⟨p, 0, none⟩ (.int .i64 (t : Int))) := by
  obtain ⟨X, hx⟩ := h
  exact Lk.After.imp (One.set hx 0 (.int .i64 (t : Int))) fun G' h' => ⟨X, h'⟩
end

end Go.Proofs.YthoflpjmdhabmaaDoor.Mb
