/-
  A sender and a receiver in memory, of elements of one type; packets in a row. Plain theorems, no premise beyond those in each.
-/
import Derived.WalkKit
import Derived.BigQuiet
import Derived.Laws.Pointers
import Derived.Great.BuildSlice
import Derived.Lib.MinMax
import Derived.Test.YtidojlagdodkkabWnRow
namespace Go.Proofs.Ytidojlagdodkkab.Wi
open Go.RowKit
open Pk Dk Wn

/-! ### Elements and packets -/
def vals (L : List Int) : List Value := L.map fun x => .int .i64 x
theorem vals_len (L : List Int) : (vals L).length = L.length := by simp [vals]
theorem vals_len1 (L : List Int) : (vals L).length = L.length * 1 := by simp [vals]
theorem vals_append (L M : List Int) : vals (L ++ M) = vals L ++ vals M := by simp [vals]
theorem vals_drop (L : List Int) (k : Nat) : (vals L).drop k = vals (L.drop k) := by simp [vals]
theorem vals_get {L : List Int} {j : Nat} {x : Int} (h : L[j]? = some x) : (vals L)[j]? = some (.int .i64 x) := by simp [vals, h]
theorem vals_one (L : List Int) : ∀ u ∈ vals L, u.oneCell' = true := by
  intro u hu
  simp only [vals, List.mem_map] at hu
  obtain ⟨x, _, rfl⟩ := hu
  rfl
abbrev Pkt := Int × Int
def pcel (q : Pkt) : List Value := [.int .i64 q.1, .int .i64 q.2]
def pcels (P : List Pkt) : List Value := P.flatMap pcel
theorem pcel_len (P : List Pkt) : ∀ q ∈ P, (pcel q).length = 2 := fun _ _ => rfl
theorem pcels_len (P : List Pkt) : (pcels P).length = P.length * 2 := flat_len P (pcel_len P)
theorem pcels_append (P R : List Pkt) : pcels (P ++ R) = pcels P ++ pcels R := by simp [pcels]
theorem pcel_one (q : Pkt) : ∀ u ∈ pcel q, u.oneCell' = true := by
  intro u hu
  simp only [pcel, List.mem_cons, List.not_mem_nil, or_false] at hu
  rcases hu with rfl | rfl <;> rfl
theorem pcels_one (P : List Pkt) : ∀ u ∈ pcels P, u.oneCell' = true := by
  intro u hu
  obtain ⟨q, _, hq⟩ := List.mem_flatMap.1 hu
  exact pcel_one q u hq
theorem pcels_get {P : List Pkt} {j : Nat} {q : Pkt} (h : P[j]? = some q) : (pcels P)[j * 2]? = some (.int .i64 q.1) ∧ (pcels P)[j * 2 + 1]? = some (.int .i64 q.2) :=
  ⟨flat_get P (pcel_len P) j 0 q h (by omega), flat_get P (pcel_len P) j 1 q h (by omega)⟩
/-- The packets of elements that come behind the number b. -/
def pks : Nat → List Int → List Pkt
  | _, [] => []
  | b, x :: r => (((b + 1 : Nat) : Int), x) :: pks (b + 1) r
theorem pks_len : ∀ (b : Nat) (xs : List Int), (pks b xs).length = xs.length
  | _, [] => rfl
  | b, _ :: r => by simp [pks, pks_len (b + 1) r]
theorem pks_snoc : ∀ (b : Nat) (xs : List Int) (x : Int), pks b (xs ++ [x]) = pks b xs ++ [(((b + xs.length + 1 : Nat) : Int), x)]
  | b, [], x => by simp [pks]
  | b, y :: r, x => by
    have := pks_snoc (b + 1) r x
    simp only [List.cons_append, pks, this, List.length_cons]
    rw [show b + 1 + r.length + 1 = b + (r.length + 1) + 1 by omega]
theorem pks_append : ∀ (b : Nat) (xs ys : List Int), pks b (xs ++ ys) = pks b xs ++ pks (b + xs.length) ys
  | b, [], ys => by simp [pks]
  | b, x :: r, ys => by
    simp only [List.cons_append, pks, pks_append (b + 1) r ys, List.length_cons]
    rw [show b + 1 + r.length = b + (r.length + 1) by omega]
theorem pks_get : ∀ (b : Nat) (xs : List Int) (j : Nat), (pks b xs)[j]? = xs[j]?.map fun x => (((b + j + 1 : Nat) : Int), x)
  | b, [], j => by simp [pks]
  | b, x :: r, 0 => by simp [pks]
  | b, x :: r, j + 1 => by
    simp only [pks, List.getElem?_cons_succ, pks_get (b + 1) r j]
    rw [show b + 1 + j + 1 = b + (j + 1) + 1 by omega]
/-- Those behind b up to the number l. -/
def upTo (L : List Int) (b l : Nat) : List Pkt := pks b ((L.drop b).take (l - b))
theorem upTo_len {L : List Int} {b l : Nat} (h : l ≤ L.length) : (upTo L b l).length = l - b := by
  rw [upTo, pks_len, List.length_take, List.length_drop]
  omega
theorem upTo_self (L : List Int) (b : Nat) : upTo L b b = [] := by simp [upTo, pks]
theorem upTo_snoc {L : List Int} {b l : Nat} {x : Int} (hb : b ≤ l) (hx : L[l]? = some x) : upTo L b (l + 1) = upTo L b l ++ [(((l + 1 : Nat) : Int), x)] := by
  have hl := (List.getElem?_eq_some_iff.1 hx).1
  have h1 : (L.drop b).take (l + 1 - b) = (L.drop b).take (l - b) ++ [x] := by
    rw [show l + 1 - b = (l - b) + 1 by omega, List.take_add_one, List.getElem?_drop, show b + (l - b) = l by omega, hx]
    rfl
  rw [upTo, h1, pks_snoc, List.length_take, List.length_drop, show b + min (l - b) (L.length - b) + 1 = l + 1 by omega]
  rfl
theorem upTo_get {L : List Int} {b l j : Nat} (hj : b + j < l) : (upTo L b l)[j]? = L[b + j]?.map fun x => (((b + j + 1 : Nat) : Int), x) := by
  rw [upTo, pks_get, List.getElem?_take, if_pos (by omega), List.getElem?_drop]
theorem upTo_join {L : List Int} {a b l : Nat} (h1 : a ≤ b) (h2 : b ≤ l) (hl : l ≤ L.length) : upTo L a b ++ upTo L b l = upTo L a l := by
  apply List.ext_getElem?
  intro j
  have e1 := upTo_len (L := L) (b := a) (l := b) (by omega)
  have e2 := upTo_len (L := L) (b := b) (l := l) hl
  have e3 := upTo_len (L := L) (b := a) (l := l) hl
  rcases Nat.lt_or_ge j (b - a) with h | h
  · rw [List.getElem?_append_left (by omega), upTo_get (by omega), upTo_get (by omega)]
  · rw [List.getElem?_append_right (by omega), e1]
    rcases Nat.lt_or_ge j (l - a) with h' | h'
    · rw [upTo_get (by omega), upTo_get (by omega), show b + (j - (b - a)) = a + j by omega]
    · rw [List.getElem?_eq_none (by omega), List.getElem?_eq_none (by omega)]

theorem app_el : AppTy Try.prog 24 3 1 8 := AppTy.of Try.underlying24 (by kernel_rfl)
theorem app_pk : AppTy Try.prog 38 33 2 16 := AppTy.of Try.underlying38 (by kernel_rfl)

theorem one_el : ∀ i z, Try.prog.info? 3 = some i → i.zero = some z → ∀ j (h : j < z.cells.size), (z.cells[j]).oneCell' = true := by
  have h := (show (Try.prog.info? 3).map (·.zero) = some (some (.int .i64 0)) by kernel_rfl)
  intro i z hi hz j hj
  rw [hi] at h
  simp only [Option.map_some, Option.some.injEq] at h
  rw [hz] at h
  simp only [Option.some.injEq] at h
  subst h
  match j, hj with
  | 0, _ => rfl
  | j + 1, h => simp [Value.cells] at h

/-! ### A sender -/
abbrev more (n a : Nat) : List Value := [.int .i64 (n : Int), .int .i64 (a : Int)]
/-- Its slice X holds xs; n are sent, a acknowledged. -/
abbrev SAt (p : Nat) (X : Value) (n a : Nat) (xs : List Int) : World → (Nat → Prop) → Prop := BAt 26 3 1 p X (more n a) xs.length (vals xs)
/-- A sender of L, of which n are sent, a acknowledged. -/
structure Snd (p : Nat) (L : List Int) (n a : Nat) (w : World) (G : Nat → Prop) : Prop where
  ex : ∃ X, SAt p X n a (L.drop a) w G
  an : a ≤ n
  nl : n ≤ L.length
  win : n ≤ a + 4
  few : L.length ≤ 100000
theorem Snd.kept {p n a : Nat} {L : List Int} {w w' : World} {G K : Nat → Prop} (h : Snd p L n a w G) (hk : Kept K w w') (hd : ∀ k, G k → ¬ K k) : Snd p L n a w' G := by
  obtain ⟨X, hx⟩ := h.ex
  exact ⟨⟨X, BAt.kept hx hk hd⟩, h.an, h.nl, h.win, h.few⟩
theorem Snd.lt {p n a : Nat} {L : List Int} {w : World} {G : Nat → Prop} (h : Snd p L n a w G) : ∀ k, G k → k < w.heap.size := by
  obtain ⟨X, hx⟩ := h.ex
  exact hx.lt
def sndT (p : Nat) (L : List Int) (n a : Nat) : Thg := ⟨Snd p L n a, fun h hk hd => Snd.kept h hk hd, fun h => Snd.lt h⟩
section
variable {w w' : World} {G : Nat → Prop} {p n a n' a' : Nat} {L L' xs : List Int} {X : Value}
theorem Snd.below (h : Snd p L n a w G) (hb : Below w.heap.size w w') : Snd p L n a w' G := h.kept (Kept.of_below (G := fun _ => False) hb) fun _ _ h => h
theorem Snd.after (h : Snd p L n a w G) (hb : Below w.heap.size w w') : After (sndT p L n a) w G w' := ⟨G, h.below hb, Grew.refl _ _, Kept.of_below hb⟩
/-- The cells of a sender. -/
theorem Snd.cells (h : Snd p L n a w G) : ∃ A m c, BAt 26 3 1 p (.slice A m c) (more n a) m (vals (L.drop a)) w G ∧ m = L.length - a ∧ m ≤ c ∧ c ≤ maxLen ∧ Src w A (vals (L.drop a)) ∧ w.cell? ⟨p, 0, none⟩ = some (.slice A m c) ∧ w.cell? ⟨p, 1, none⟩ = some (.int .i64 (n : Int)) ∧ w.cell? ⟨p, 2, none⟩ = some (.int .i64 (a : Int)) ∧ ∀ j, w.frozen? ⟨p, j, none⟩ = false := by
  obtain ⟨X, hx⟩ := h.ex
  obtain ⟨m, hm⟩ : ∃ m, (L.drop a).length = m := ⟨_, rfl⟩
  unfold SAt at hx
  rw [hm] at hx
  obtain ⟨A, c, rfl, h1, h2, _⟩ := hx.row.form
  exact ⟨A, m, c, hx, by rw [← hm, List.length_drop], h1, h2, hx.row.src, hx.cell 0, hx.cell 1, hx.cell 2, hx.frozen⟩
theorem Snd.of {m : Nat} {ys : List Value} {h1 h2} (h : After ⟨BAt 26 3 1 p X (more n a) m ys, h1, h2⟩ w G w') (hm : m = L.length - a) (hy : ys = vals (L.drop a)) (han : a ≤ n) (hnl : n ≤ L.length) (hw : n ≤ a + 4) (hf : L.length ≤ 100000) : After (sndT p L n a) w G w' := by
  obtain ⟨G', hp, hg, hk⟩ := h
  subst hy hm
  exact ⟨G', ⟨⟨X, by unfold SAt; rw [List.length_drop]; exact hp⟩, han, hnl, hw, hf⟩, hg, hk⟩
/-- The number sent is stored. -/
theorem Snd.setn (h : Snd p L n a w G) (h1 : n ≤ n') (h2 : n' ≤ L.length) (h3 : n' ≤ a + 4) : After (sndT p L n' a) w G (w.setCell ⟨p, 1, none⟩ (.int .i64 (n' : Int))) := by
  obtain ⟨X, hx⟩ := h.ex
  have h5 := hx.set 0 (.int .i64 (n' : Int))
  exact ⟨G, ⟨⟨X, h5.1⟩, Nat.le_trans h.an h1, h2, h3, h.few⟩, Grew.refl _ _, h5.2⟩
end
theorem Snd.fresh (w : World) : Snd w.heap.size [] 0 0 (w.alloc (.cells #[.slice none 0 0, .int .i64 0, .int .i64 0] 26)) (· = w.heap.size) :=
  ⟨⟨_, BAt.fresh w _ _ 1 (more 0 0)⟩, Nat.le_refl _, Nat.le_refl _, by omega, by simp⟩

/-! ### A receiver -/
structure Rcv (r : Nat) (T : List Int) (w : World) (G : Nat → Prop) : Prop where
  ex : ∃ X, BAt 29 3 1 r X [] T.length (vals T) w G
  few : T.length ≤ 100000
theorem Rcv.kept {r : Nat} {T : List Int} {w w' : World} {G K : Nat → Prop} (h : Rcv r T w G) (hk : Kept K w w') (hd : ∀ k, G k → ¬ K k) : Rcv r T w' G := by
  obtain ⟨X, hx⟩ := h.ex
  exact ⟨⟨X, BAt.kept hx hk hd⟩, h.few⟩
theorem Rcv.lt {r : Nat} {T : List Int} {w : World} {G : Nat → Prop} (h : Rcv r T w G) : ∀ k, G k → k < w.heap.size := by
  obtain ⟨X, hx⟩ := h.ex
  exact hx.lt
def rcvT (r : Nat) (T : List Int) : Thg := ⟨Rcv r T, fun h hk hd => Rcv.kept h hk hd, fun h => Rcv.lt h⟩
section
variable {w w' : World} {G : Nat → Prop} {r : Nat} {T : List Int}
theorem Rcv.below (h : Rcv r T w G) (hb : Below w.heap.size w w') : Rcv r T w' G := h.kept (Kept.of_below (G := fun _ => False) hb) fun _ _ h => h
theorem Rcv.after (h : Rcv r T w G) (hb : Below w.heap.size w w') : After (rcvT r T) w G w' := ⟨G, h.below hb, Grew.refl _ _, Kept.of_below hb⟩
theorem Rcv.cells (h : Rcv r T w G) : ∃ A m c, BAt 29 3 1 r (.slice A m c) [] m (vals T) w G ∧ m = T.length ∧ m ≤ c ∧ c ≤ maxLen ∧ Src w A (vals T) ∧ w.cell? ⟨r, 0, none⟩ = some (.slice A m c) ∧ ∀ j, w.frozen? ⟨r, j, none⟩ = false := by
  obtain ⟨X, hx⟩ := h.ex
  obtain ⟨A, c, rfl, h1, h2, _⟩ := hx.row.form
  exact ⟨A, _, c, hx, rfl, h1, h2, hx.row.src, hx.cell 0, hx.frozen⟩
end
theorem Rcv.fresh (w : World) : Rcv w.heap.size [] (w.alloc (.cells #[.slice none 0 0] 29)) (· = w.heap.size) := ⟨⟨_, BAt.fresh w _ _ 1 []⟩, by simp⟩

/-- Packets in a slice that a call made. -/
structure Pkts (w : World) (B : Nat) (v : Value) (P : List Pkt) : Prop where
  row : ORow w 33 2 v P.length (pcels P)
  own : ∀ k, v.ownBlock = some k → B ≤ k
/-- Elements in a slice that a call made. -/
structure Els (w : World) (B : Nat) (v : Value) (L : List Int) : Prop where
  row : ORow w 3 1 v L.length (vals L)
  own : ∀ k, v.ownBlock = some k → B ≤ k
/-- A row of one that was just made. -/
structure Made (w0 W : World) (g : Nat) (news : List Value) : Prop where
  bel : Below w0.heap.size w0 W
  src : Src W (some ⟨g, 0, none⟩) news
theorem Made.row {w0 wd : World} (hb : Below w0.heap.size w0 wd) (cs : Array Value) (t : TypeId) : Made w0 (wd.alloc (.cells cs t)) wd.heap.size cs.toList :=
  ⟨hb.alloc hb.size _, fun _ => ⟨wd.heap.size, 0, rfl, by simp, fun j u hu => by rw [Nat.zero_add, cell_of_row _ _ j _ _ _ (heap_alloc_new _ _), ← Array.getElem?_toList]; exact hu⟩⟩
theorem Made.pkt {w0 wd : World} (hb : Below w0.heap.size w0 wd) (k : Int) (x : Int) : Made w0 (wd.alloc (.cells #[.int .i64 k, .int .i64 x] 33)) wd.heap.size (pcel (k, x)) := Made.row hb _ _
theorem Made.el {w0 wd : World} (hb : Below w0.heap.size w0 wd) (x : Int) : Made w0 (wd.alloc (.cells #[.int .i64 x] 3)) wd.heap.size (vals [x]) := Made.row hb _ _
section
variable {w w' : World} {B : Nat} {v : Value} {P : List Pkt} {L : List Int}
theorem Pkts.nil (w : World) (B : Nat) : Pkts w B (.slice none 0 0) [] := ⟨ORow.nil _ _ _, fun k hk => by simp [Value.ownBlock] at hk⟩
theorem Els.nil (w : World) (B : Nat) : Els w B (.slice none 0 0) [] := ⟨ORow.nil _ _ _, fun k hk => by simp [Value.ownBlock] at hk⟩
theorem Pkts.below (h : Pkts w B v P) (hb : Below w.heap.size w w') : Pkts w' B v P := ⟨h.row.below hb, h.own⟩
theorem Els.below (h : Els w B v L) (hb : Below w.heap.size w w') : Els w' B v L := ⟨h.row.below hb, h.own⟩
theorem Pkts.form (h : Pkts w B v P) : ∃ A c, v = .slice A P.length c ∧ P.length ≤ c ∧ c ≤ maxLen ∧ Src w A (pcels P) := by
  obtain ⟨A, c, rfl, h1, h2, _⟩ := h.row.form
  exact ⟨A, c, rfl, h1, h2, h.row.src⟩
theorem Els.form (h : Els w B v L) : ∃ A c, v = .slice A L.length c ∧ L.length ≤ c ∧ c ≤ maxLen ∧ Src w A (vals L) := by
  obtain ⟨A, c, rfl, h1, h2, _⟩ := h.row.form
  exact ⟨A, c, rfl, h1, h2, h.row.src⟩
/-- As a thing among others. -/
theorem Pkts.thg (h : Pkts w B v P) : (rowT 33 2 v P.length (pcels P)).P w (fun k => v.ownBlock = some k) := ⟨h.row, fun _ hk => hk, fun k hk => h.row.lt k hk⟩
theorem Els.thg (h : Els w B v L) : (rowT 3 1 v L.length (vals L)).P w (fun k => v.ownBlock = some k) := ⟨h.row, fun _ hk => hk, fun k hk => h.row.lt k hk⟩
/-- One packet of a row. -/
theorem Src.pkt {A : Option Addr} {j : Nat} {q : Pkt} (h : Src w A (pcels P)) (hq : P[j]? = some q) : ∃ g o, A = some ⟨g, o, none⟩ ∧ g < w.heap.size ∧ w.cell? ⟨g, o + j * 2, none⟩ = some (.int .i64 q.1) ∧ w.cell? ⟨g, o + j * 2 + 1, none⟩ = some (.int .i64 q.2) := by
  obtain ⟨h1, h2⟩ := pcels_get hq
  obtain ⟨g, o, e, hl, hc⟩ := h (by intro e; rw [e] at h1; simp at h1)
  exact ⟨g, o, e, hl, hc _ _ h1, by rw [Nat.add_assoc]; exact hc _ _ h2⟩
theorem Src.el {A : Option Addr} {j : Nat} {x : Int} (h : Src w A (vals L)) (hx : L[j]? = some x) : ∃ g o, A = some ⟨g, o, none⟩ ∧ g < w.heap.size ∧ w.cell? ⟨g, o + j, none⟩ = some (.int .i64 x) := by
  obtain ⟨g, o, e, hl, hc⟩ := h (by intro e; have := vals_get hx; rw [e] at this; simp at this)
  exact ⟨g, o, e, hl, hc _ _ (vals_get hx)⟩
end

end Go.Proofs.Ytidojlagdodkkab.Wi
