/-
  A stage in memory; records in a row. Plain theorems, no premise beyond those in each.
-/
import Derived.WalkKit
import Derived.BigQuiet
import Derived.Laws.Pointers
import Derived.Great.BuildSlice
import Derived.Lib.MinMax
import Derived.Test.YteneacmdfehfnaaDoorLkSt
import Derived.Test.YteneacmdfehfnaaDoorRcRgt
namespace Go.Proofs.YteneacmdfehfnaaDoor.Sg
open Go.RowKit
open Pk Dk Wn Lk Rc

/-! ### Records -/
/-- Seq, Kind, Block, Data, Number. -/
structure Rd where
  s : Int
  k : Int
  b : Int
  d : ByteArray
  m : Int
instance : Inhabited Rd := ⟨⟨0, 0, 0, ⟨#[]⟩, 0⟩⟩
abbrev Rd.val (r : Rd) : Value := .agg #[.int .i64 r.s, .int .i64 r.k, .int .i64 r.b, .string r.d, .int .i64 r.m]
def rcel (r : Rd) : List Value := [.int .i64 r.s, .int .i64 r.k, .int .i64 r.b, .string r.d, .int .i64 r.m]
def rcels (L : List Rd) : List Value := L.flatMap rcel
theorem rcel_len (L : List Rd) : ∀ r ∈ L, (rcel r).length = 5 := fun _ _ => rfl
theorem rcels_len (L : List Rd) : (rcels L).length = L.length * 5 := flat_len L (rcel_len L)
theorem rcels_append (L M : List Rd) : rcels (L ++ M) = rcels L ++ rcels M := by simp [rcels]
theorem rcels_one (r : Rd) : rcels [r] = rcel r := by simp [rcels]
theorem rcels_take (L : List Rd) (k : Nat) : (rcels L).take (k * 5) = rcels (L.take k) := (flat_take L (rcel_len L) k).symm
theorem rcels_drop (L : List Rd) (k : Nat) : (rcels L).drop (k * 5) = rcels (L.drop k) := (flat_drop L (rcel_len L) k).symm
theorem rcel_ones (r : Rd) : ∀ u ∈ rcel r, u.oneCell' = true := by
  intro u hu
  simp only [rcel, List.mem_cons, List.not_mem_nil, or_false] at hu
  rcases hu with rfl | rfl | rfl | rfl | rfl <;> rfl
theorem rcels_ones (L : List Rd) : ∀ u ∈ rcels L, u.oneCell' = true := by
  intro u hu
  obtain ⟨r, _, hr⟩ := List.mem_flatMap.1 hu
  exact rcel_ones r u hr
/-- The cells of one record, at a place. -/
def RAt (w : World) (g o : Nat) (r : Rd) : Prop := w.cell? ⟨g, o, none⟩ = some (.int .i64 r.s) ∧ w.cell? ⟨g, o + 1, none⟩ = some (.int .i64 r.k) ∧ w.cell? ⟨g, o + 2, none⟩ = some (.int .i64 r.b) ∧ w.cell? ⟨g, o + 3, none⟩ = some (.string r.d) ∧ w.cell? ⟨g, o + 4, none⟩ = some (.int .i64 r.m)
theorem RAt.below {w w' : World} {g o B : Nat} {r : Rd} (h : RAt w g o r) (hg : g < B) (hb : Below B w w') : RAt w' g o r :=
  ⟨(hb.cell (p := ⟨g, o, none⟩) hg).trans h.1, (hb.cell (p := ⟨g, o + 1, none⟩) hg).trans h.2.1, (hb.cell (p := ⟨g, o + 2, none⟩) hg).trans h.2.2.1, (hb.cell (p := ⟨g, o + 3, none⟩) hg).trans h.2.2.2.1, (hb.cell (p := ⟨g, o + 4, none⟩) hg).trans h.2.2.2.2⟩
/-- One record of a row. -/
theorem Src.rcd {w : World} {A : Option Addr} {L : List Rd} {j : Nat} {r : Rd} (h : Src w A (rcels L)) (hr : L[j]? = some r) : ∃ g o, A = some ⟨g, o, none⟩ ∧ g < w.heap.size ∧ RAt w g (o + j * 5) r := by
  have f := fun i (hi : i < 5) => flat_get (f := rcel) L (rcel_len L) j i r hr hi
  have h0 : (rcels L)[j * 5 + 0]? = some (.int .i64 r.s) := f 0 (by omega)
  have h1 : (rcels L)[j * 5 + 1]? = some (.int .i64 r.k) := f 1 (by omega)
  have h2 : (rcels L)[j * 5 + 2]? = some (.int .i64 r.b) := f 2 (by omega)
  have h3 : (rcels L)[j * 5 + 3]? = some (.string r.d) := f 3 (by omega)
  have h4 : (rcels L)[j * 5 + 4]? = some (.int .i64 r.m) := f 4 (by omega)
  obtain ⟨g, o, e, hl, hc⟩ := h (by intro e; rw [e] at h0; simp at h0)
  refine ⟨g, o, e, hl, hc _ _ h0, ?_, ?_, ?_, ?_⟩
  · rw [Nat.add_assoc]; exact hc _ _ h1
  · rw [Nat.add_assoc]; exact hc _ _ h2
  · rw [Nat.add_assoc]; exact hc _ _ h3
  · rw [Nat.add_assoc]; exact hc _ _ h4
/-- Which numbers come: valid records, the first one behind b. -/
def Run (b : Nat) (L : List Rd) : Prop := ∀ (j : Nat) (r : Rd), L[j]? = some r → r.s = ((b + j + 1 : Nat) : Int) ∧ Rgt r.s r.k r.b r.d.size r.m
theorem Run.nil (b : Nat) : Run b [] := fun j r h => by simp at h
theorem Run.take {b : Nat} {L : List Rd} (h : Run b L) (n : Nat) : Run b (L.take n) := fun j r hj => by
  rw [List.getElem?_take] at hj
  split at hj
  · exact h j r hj
  · cases hj
theorem Run.drop {b : Nat} {L : List Rd} (h : Run b L) (n : Nat) : Run (b + n) (L.drop n) := fun j r hj => by
  rw [List.getElem?_drop] at hj
  have := h _ r hj
  rw [show b + n + j + 1 = b + (n + j) + 1 by omega]
  exact this
theorem Run.snoc {b : Nat} {L : List Rd} (h : Run b L) {r : Rd} (h1 : r.s = ((b + L.length + 1 : Nat) : Int)) (h2 : Rgt r.s r.k r.b r.d.size r.m) : Run b (L ++ [r]) := fun j q hj => by
  rcases Nat.lt_or_ge j L.length with hl | hl
  · rw [List.getElem?_append_left hl] at hj
    exact h j q hj
  · rw [List.getElem?_append_right hl] at hj
    have hj0 : j - L.length = 0 := by
      rcases Nat.eq_zero_or_pos (j - L.length) with h0 | h0
      · exact h0
      · rw [List.getElem?_eq_none (by simp; omega)] at hj
        cases hj
    rw [hj0] at hj
    obtain rfl : r = q := by simpa using hj
    rw [show j = L.length by omega]
    exact ⟨h1, h2⟩
theorem Run.sum {b : Nat} {L : List Rd} (h : Run b L) (hb : b ≤ 1152921504606846975) : b + L.length ≤ 1152921504606846975 := by
  rcases Nat.eq_zero_or_pos L.length with h0 | h0
  · omega
  · obtain ⟨r, hr⟩ : ∃ r, L[L.length - 1]? = some r := ⟨_, List.getElem?_eq_getElem (by omega)⟩
    obtain ⟨h1, h2⟩ := h _ r hr
    have := h2.1
    omega

theorem app_rc : AppTy Tryd.prog 35 30 5 48 := AppTy.of Tryd.underlying35 (by kernel_rfl)
theorem one_rc : ∀ i z, Tryd.prog.info? 30 = some i → i.zero = some z → ∀ j (h : j < z.cells.size), (z.cells[j]).oneCell' = true := by
  have h := (show (Tryd.prog.info? 30).map (·.zero) = some (some (.agg #[.int .i64 0, .int .i64 0, .int .i64 0, .string ⟨#[]⟩, .int .i64 0])) by kernel_rfl)
  intro i z hi hz j hj
  rw [hi] at h
  simp only [Option.map_some, Option.some.injEq] at h
  rw [hz] at h
  simp only [Option.some.injEq] at h
  subst h
  match j, hj with
  | 0, _ => rfl
  | 1, _ => rfl
  | 2, _ => rfl
  | 3, _ => rfl
  | 4, _ => rfl
  | j + 5, hq => exact absurd (show j + 5 < 5 from hq) (by omega)

/-! ### A stage -/
abbrev more (f b : Nat) (m : Int) : List Value := [.int .i64 (f : Int), .int .i64 (b : Int), .int .i64 m]
/-- Its slice X holds L. -/
abbrev SAt (p : Nat) (X : Value) (L : List Rd) (f b : Nat) (m : Int) : World → (Nat → Prop) → Prop := BAt 58 30 5 p X (more f b m) L.length (rcels L)
/-- A stage of the records L, of which f are durable; b: the first number minus 1; m: the marker of the last Drop. -/
structure Stg (p : Nat) (L : List Rd) (f b : Nat) (m : Int) (w : World) (G : Nat → Prop) : Prop where
  ex : ∃ X, SAt p X L f b m w G
  fl : f ≤ L.length
  few : L.length ≤ 100000
  bb : b ≤ 1152921504606846975
  run : Run b L
theorem Stg.kept {p f b : Nat} {m : Int} {L : List Rd} {w w' : World} {G K : Nat → Prop} (h : Stg p L f b m w G) (hk : Kept K w w') (hd : ∀ k, G k → ¬ K k) : Stg p L f b m w' G := by
  obtain ⟨X, hx⟩ := h.ex
  exact ⟨⟨X, BAt.kept hx hk hd⟩, h.fl, h.few, h.bb, h.run⟩
theorem Stg.lt {p f b : Nat} {m : Int} {L : List Rd} {w : World} {G : Nat → Prop} (h : Stg p L f b m w G) : ∀ k, G k → k < w.heap.size := by
  obtain ⟨X, hx⟩ := h.ex
  exact hx.lt
def stgT (p : Nat) (L : List Rd) (f b : Nat) (m : Int) : Thg := ⟨Stg p L f b m, fun h hk hd => Stg.kept h hk hd, fun h => Stg.lt h⟩
section
variable {w w' : World} {G : Nat → Prop} {p f b f' b' : Nat} {m m' : Int} {L L' : List Rd} {X : Value}
theorem Stg.below (h : Stg p L f b m w G) (hb : Below w.heap.size w w') : Stg p L f b m w' G := h.kept (Kept.of_below (G := fun _ => False) hb) fun _ _ h => h
theorem Stg.after (h : Stg p L f b m w G) (hb : Below w.heap.size w w') : After (stgT p L f b m) w G w' := ⟨G, h.below hb, Grew.refl _ _, Kept.of_below hb⟩
/-- The cells of a stage. -/
theorem Stg.cells (h : Stg p L f b m w G) : ∃ A n c, BAt 58 30 5 p (.slice A n c) (more f b m) n (rcels L) w G ∧ n = L.length ∧ n ≤ c ∧ c ≤ maxLen ∧ Src w A (rcels L) ∧ p < w.heap.size ∧ w.cell? ⟨p, 0, none⟩ = some (.slice A n c) ∧ w.cell? ⟨p, 1, none⟩ = some (.int .i64 (f : Int)) ∧ w.cell? ⟨p, 2, none⟩ = some (.int .i64 (b : Int)) ∧ w.cell? ⟨p, 3, none⟩ = some (.int .i64 m) ∧ ∀ j, w.frozen? ⟨p, j, none⟩ = false := by
  obtain ⟨X, hx⟩ := h.ex
  obtain ⟨n, hn⟩ : ∃ n, L.length = n := ⟨_, rfl⟩
  unfold SAt at hx
  rw [hn] at hx
  obtain ⟨A, c, rfl, h1, h2, _⟩ := hx.row.form
  exact ⟨A, n, c, hx, hn.symm, h1, h2, hx.row.src, hx.lt p hx.mine, hx.cell 0, hx.cell 1, hx.cell 2, hx.cell 3, hx.frozen⟩
theorem Stg.of {n : Nat} {ys : List Value} {h1 h2} (h : After ⟨BAt 58 30 5 p X (more f b m) n ys, h1, h2⟩ w G w') (hn : n = L.length) (hy : ys = rcels L) (h3 : f ≤ L.length) (h4 : L.length ≤ 100000) (h5 : b ≤ 1152921504606846975) (h6 : Run b L) : After (stgT p L f b m) w G w' := by
  obtain ⟨G', hp, hg, hk⟩ := h
  subst hy hn
  exact ⟨G', ⟨⟨X, hp⟩, h3, h4, h5, h6⟩, hg, hk⟩
end
theorem Stg.fresh (w : World) (b : Nat) (hb : b ≤ 1152921504606846975) : Stg w.heap.size [] 0 b 0 (w.alloc (.cells #[.slice none 0 0, .int .i64 0, .int .i64 (b : Int), .int .i64 0] 58)) (· = w.heap.size) :=
  ⟨⟨_, BAt.fresh w _ _ 5 (more 0 b 0)⟩, Nat.le_refl _, by simp, hb, Run.nil b⟩

/-! ### Where a marker is -/
/-- How many of the first f records there are up to the first marker m; 0 if there is none. -/
def reach (m : Int) : List Rd → Nat
  | [] => 0
  | r :: l => if r.k = 2 ∧ r.m = m then 1 else if reach m l = 0 then 0 else reach m l + 1
theorem reach_le (m : Int) : ∀ L : List Rd, reach m L ≤ L.length
  | [] => Nat.le_refl _
  | r :: l => by
    have := reach_le m l
    unfold reach
    split
    · simp
    · split
      · simp
      · simp only [List.length_cons]; omega
theorem reach_none (m : Int) : ∀ L : List Rd, (∀ r ∈ L, ¬ (r.k = 2 ∧ r.m = m)) → reach m L = 0
  | [], _ => rfl
  | r :: l, h => by
    have h1 := reach_none m l fun q hq => h q (by simp [hq])
    unfold reach
    rw [if_neg (h r (by simp)), if_pos h1]
theorem reach_some (m : Int) : ∀ (L : List Rd) (j : Nat) (r : Rd), L[j]? = some r → (r.k = 2 ∧ r.m = m) → (∀ i q, i < j → L[i]? = some q → ¬ (q.k = 2 ∧ q.m = m)) → reach m L = j + 1
  | [], j, r, h, _, _ => by simp at h
  | x :: l, 0, r, h, hr, _ => by
    obtain rfl : x = r := by simpa using h
    unfold reach
    rw [if_pos hr]
  | x :: l, j + 1, r, h, hr, hn => by
    have h1 := reach_some m l j r (by simpa using h) hr fun i q hi hq => hn (i + 1) q (by omega) (by simpa using hq)
    have h0 := hn 0 x (by omega) rfl
    unfold reach
    rw [if_neg h0, h1]
    simp
/-- Which record it is. -/
theorem reach_at (m : Int) : ∀ (L : List Rd), 0 < reach m L → (∃ r, L[reach m L - 1]? = some r ∧ r.k = 2 ∧ r.m = m) ∧ ∀ i q, i + 1 < reach m L → L[i]? = some q → ¬ (q.k = 2 ∧ q.m = m)
  | [], h => by simp [reach] at h
  | x :: l, h => by
    unfold reach at h ⊢
    by_cases c1 : x.k = 2 ∧ x.m = m
    · simp only [if_pos c1] at h ⊢
      exact ⟨⟨x, rfl, c1⟩, fun i q hi => by omega⟩
    · simp only [if_neg c1] at h ⊢
      by_cases c2 : reach m l = 0
      · simp [if_pos c2] at h
      · simp only [if_neg c2] at h ⊢
        obtain ⟨⟨r, h1, h2⟩, h3⟩ := reach_at m l (by omega)
        refine ⟨⟨r, ?_, h2⟩, fun i q hi hq => ?_⟩
        · rw [Nat.add_sub_cancel, show reach m l = (reach m l - 1) + 1 by omega, List.getElem?_cons_succ]
          exact h1
        · cases i with
          | zero =>
            obtain rfl : x = q := by simpa using hq
            exact c1
          | succ i => exact h3 i q (by omega) (by simpa using hq)
/-- The numbers of the markers. -/
def marks : List Rd → List Int
  | [] => []
  | r :: l => if r.k = 2 then r.m :: marks l else marks l
theorem marks_append : ∀ L M : List Rd, marks (L ++ M) = marks L ++ marks M
  | [], M => rfl
  | r :: l, M => by
    have := marks_append l M
    simp only [List.cons_append, marks]
    split <;> simp [this]
theorem marks_len : ∀ L : List Rd, (marks L).length ≤ L.length
  | [] => Nat.le_refl _
  | r :: l => by
    have := marks_len l
    simp only [marks]
    split <;> simp <;> omega
theorem mem_marks (m : Int) : ∀ L : List Rd, m ∈ marks L ↔ 0 < reach m L
  | [] => by simp [marks, reach]
  | r :: l => by
    have := mem_marks m l
    simp only [marks, reach]
    by_cases c1 : r.k = 2
    · by_cases c2 : r.m = m
      · simp [c1, c2]
      · have c3 : ¬ m = r.m := fun e => c2 e.symm
        simp only [c1, if_true, List.mem_cons, c3, false_or, this, c2, and_false, if_false]
        by_cases c4 : reach m l = 0 <;> simp [c4] <;> omega
    · simp only [c1, if_false, false_and, this]
      by_cases c4 : reach m l = 0 <;> simp [c4] <;> omega

end Go.Proofs.YteneacmdfehfnaaDoor.Sg
