/-
  Words for a disk in memory: its sectors, its loose writes, the blocks that are its own; lists of equal pieces laid one behind the other. Plain theorems, no premise beyond those in each.
-/
import Derived.Deep.AppendLies
import Derived.Deep.MidRow
import Derived.Test.YtmbhnhfnimijcaaDoorSmStr
namespace Go.Proofs.YtmbhnhfnimijcaaDoor.Dk
open Go.RowKit
open Pk Sm

/-! ### Pieces of one length -/
section
variable {α β : Type} {f : α → List β} {m : Nat}
theorem flat_len : ∀ (l : List α), (∀ x ∈ l, (f x).length = m) → (l.flatMap f).length = l.length * m
  | [], _ => by simp
  | a :: r, h => by
    rw [List.flatMap_cons, List.length_append, flat_len r (fun x hx => h x (by simp [hx])), h a (by simp), List.length_cons, Nat.add_mul]
    omega
theorem flat_get : ∀ (l : List α), (∀ x ∈ l, (f x).length = m) → ∀ (k j : Nat) (a : α), l[k]? = some a → j < m → (l.flatMap f)[k * m + j]? = (f a)[j]?
  | [], _, _, _, _, h, _ => by simp at h
  | b :: r, hl, 0, j, a, h, hj => by
    simp at h
    subst h
    rw [List.flatMap_cons, List.getElem?_append_left (by rw [hl b (by simp)]; omega), Nat.zero_mul, Nat.zero_add]
  | b :: r, hl, k + 1, j, a, h, hj => by
    simp at h
    have hb := hl b (by simp)
    rw [List.flatMap_cons, List.getElem?_append_right (by rw [hb, Nat.add_mul]; omega), hb, show (k + 1) * m + j - m = k * m + j by rw [Nat.add_mul]; omega]
    exact flat_get r (fun x hx => hl x (by simp [hx])) k j a h hj
theorem flat_set : ∀ (l : List α), (∀ x ∈ l, (f x).length = m) → ∀ (k : Nat) (y : α), k < l.length → (f y).length = m →
    (l.flatMap f).take (k * m) ++ (f y ++ (l.flatMap f).drop (k * m + m)) = (l.set k y).flatMap f
  | [], _, k, _, h, _ => by simp at h
  | b :: r, hl, 0, y, _, hy => by
    have hb := hl b (by simp)
    simp only [Nat.zero_mul, List.take_zero, List.nil_append, Nat.zero_add, List.set_cons_zero, List.flatMap_cons]
    congr 1
    rw [List.drop_append_of_le_length (by omega), List.drop_of_length_le (by omega), List.nil_append]
  | b :: r, hl, k + 1, y, h, hy => by
    have hb := hl b (by simp)
    have ih := flat_set r (fun x hx => hl x (by simp [hx])) k y (by simpa using h) hy
    simp only [List.set_cons_succ, List.flatMap_cons]
    rw [← ih, List.take_append, List.drop_append, hb, show (k + 1) * m - m = k * m by rw [Nat.add_mul]; omega, show (k + 1) * m + m - m = k * m + m by rw [Nat.add_mul]; omega,
      List.take_of_length_le (by rw [hb, Nat.add_mul]; omega), List.drop_of_length_le (l := f b) (by rw [hb, Nat.add_mul]; omega)]
    simp
end

/-! ### A disk's contents -/
abbrev Sec := List UInt8
abbrev Wr := Nat × List UInt8
def wcel (x : Wr) : List Value := .int .i64 (x.1 : Int) :: cels x.2
def wcels (L : List Wr) : List Value := L.flatMap wcel
def scels (S : List Sec) : List Value := S.flatMap cels
def Full (S : List Sec) : Prop := ∀ s ∈ S, s.length = 64
def Fits (n : Nat) (L : List Wr) : Prop := ∀ x ∈ L, x.1 < n ∧ x.2.length = 64

theorem Full.cels {S : List Sec} (h : Full S) : ∀ s ∈ S, (Pk.cels s).length = 64 := fun s hs => by rw [cels_length, h s hs]
theorem Fits.cels {n : Nat} {L : List Wr} (h : Fits n L) : ∀ x ∈ L, (wcel x).length = 65 := fun x hx => by simp [wcel, cels_length, (h x hx).2]
theorem Full.set {S : List Sec} (h : Full S) (i : Nat) {s : Sec} (hs : s.length = 64) : Full (S.set i s) := fun x hx => by
  rcases List.mem_or_eq_of_mem_set hx with h1 | h1
  · exact h x h1
  · exact h1 ▸ hs
theorem Fits.snoc {n : Nat} {L : List Wr} (h : Fits n L) {i : Nat} {s : Sec} (hi : i < n) (hs : s.length = 64) : Fits n (L ++ [(i, s)]) := fun x hx => by
  rcases List.mem_append.1 hx with h1 | h1
  · exact h x h1
  · simp at h1; subst h1; exact ⟨hi, hs⟩
theorem wcel_one (x : Wr) : ∀ u ∈ wcel x, u.oneCell' = true := by
  intro u hu
  simp only [wcel, List.mem_cons] at hu
  rcases hu with rfl | hu
  · rfl
  · exact cels_one _ u hu
theorem wcels_snoc (L : List Wr) (x : Wr) : wcels (L ++ [x]) = wcels L ++ wcel x := by simp [wcels]

/-- One write done; all; and those that a crash keeps, from index k on. -/
def done (S : List Sec) (x : Wr) : List Sec := S.set x.1 x.2
def all (S : List Sec) (L : List Wr) : List Sec := L.foldl done S
def crash (keep : Nat) : Nat → List Wr → List Sec → List Sec
  | _, [], S => S
  | k, x :: L, S => crash keep (k + 1) L (if keep.testBit (k % 64) then done S x else S)
theorem all_length : ∀ (L : List Wr) (S : List Sec), (all S L).length = S.length
  | [], _ => rfl
  | x :: L, S => by
    show (all (done S x) L).length = _
    rw [all_length L]
    simp [done]
theorem crash_length (keep : Nat) : ∀ (L : List Wr) (k : Nat) (S : List Sec), (crash keep k L S).length = S.length
  | [], _, _ => rfl
  | x :: L, k, S => by
    show (crash keep (k + 1) L _).length = _
    rw [crash_length keep L]
    split <;> simp [done]
theorem Full.all {n : Nat} : ∀ {L : List Wr} {S : List Sec}, Full S → Fits n L → Full (Dk.all S L)
  | [], _, h, _ => h
  | x :: L, S, h, hf => Full.all (L := L) (S := done S x) (h.set _ (hf x (by simp)).2) (fun y hy => hf y (by simp [hy]))
theorem Full.crash {n : Nat} {keep : Nat} : ∀ {L : List Wr} {k : Nat} {S : List Sec}, Full S → Fits n L → Full (Dk.crash keep k L S)
  | [], _, _, h, _ => h
  | x :: L, k, S, h, hf => by
    show Full (Dk.crash keep (k + 1) L _)
    refine Full.crash ?_ (fun y hy => hf y (by simp [hy]))
    split
    · exact h.set _ (hf x (by simp)).2
    · exact h
theorem all_other : ∀ {L : List Wr} {S : List Sec} {i : Nat}, (∀ x ∈ L, x.1 ≠ i) → (all S L)[i]? = S[i]?
  | [], _, _, _ => rfl
  | x :: L, S, i, h => by
    show (all (done S x) L)[i]? = _
    rw [all_other (fun y hy => h y (by simp [hy])), done, List.getElem?_set_ne (h x (by simp))]
theorem all_append (S : List Sec) (L M : List Wr) : all S (L ++ M) = all (all S L) M := List.foldl_append ..
theorem all_last {S : List Sec} {L M : List Wr} {i : Nat} {b : Sec} (hi : i < S.length) (h : ∀ x ∈ M, x.1 ≠ i) : (all S (L ++ (i, b) :: M))[i]? = some b := by
  rw [all_append]
  show (all (done (all S L) (i, b)) M)[i]? = _
  rw [all_other h]
  simp [done, all_length, hi]

/-! ### What may be written -/
structure Kept (G : Nat → Prop) (w w' : World) : Prop where
  os : w'.os = w.os
  tape : w'.tape = w.tape
  output : w'.output = w.output
  size : w.heap.size ≤ w'.heap.size
  block : ∀ k, k < w.heap.size → ¬ G k → w'.heap[k]? = w.heap[k]?

theorem Kept.refl (G : Nat → Prop) (w : World) : Kept G w w := ⟨rfl, rfl, rfl, Nat.le_refl _, fun _ _ _ => rfl⟩
theorem Kept.of_below {G : Nat → Prop} {w w' : World} (h : Below w.heap.size w w') : Kept G w w' := ⟨h.os, h.tape, h.output, h.size, fun k hk _ => h.block k hk⟩
theorem Kept.below {G : Nat → Prop} {w w' : World} {B : Nat} (h : Kept G w w') (hG : ∀ k, G k → B ≤ k) (hB : B ≤ w.heap.size) : Below B w w' :=
  ⟨h.os, h.tape, h.output, h.size, fun k hk => h.block k (by omega) (fun hg => by have := hG k hg; omega)⟩
/-- The blocks of later are those of before, or new. -/
def Grew (w : World) (G G' : Nat → Prop) : Prop := ∀ k, G' k → G k ∨ w.heap.size ≤ k
theorem Grew.refl (w : World) (G : Nat → Prop) : Grew w G G := fun _ h => .inl h
theorem Grew.from {w : World} {G G' : Nat → Prop} {B : Nat} (h : Grew w G G') (hG : ∀ k, G k → B ≤ k) (hB : B ≤ w.heap.size) : ∀ k, G' k → B ≤ k := fun k hk => by
  rcases h k hk with h1 | h1
  · exact hG k h1
  · omega
theorem Kept.trans {G G' : Nat → Prop} {w w' w'' : World} (h : Kept G w w') (hg : Grew w G G') (k : Kept G' w' w'') : Kept G w w'' :=
  ⟨k.os.trans h.os, k.tape.trans h.tape, k.output.trans h.output, Nat.le_trans h.size k.size, fun i hi hn => by
    rw [k.block i (Nat.lt_of_lt_of_le hi h.size) (fun h1 => by rcases hg i h1 with h2 | h2; exact hn h2; omega)]
    exact h.block i hi hn⟩
theorem Grew.trans {G G' G'' : Nat → Prop} {w w' : World} (hs : w.heap.size ≤ w'.heap.size) (h : Grew w G G') (k : Grew w' G' G'') : Grew w G G'' := fun i hi => by
  rcases k i hi with h1 | h1
  · exact h i h1
  · exact .inr (by omega)

theorem own_same {w w' : World} {B e size n : Nat} {v : Value} {xs : List Value} (h : w.ownsRow B e size v n xs) (hb : ∀ k, v.ownBlock = some k → w'.heap[k]? = w.heap[k]?) : w'.ownsRow B e size v n xs := by
  refine ⟨h.1, ?_⟩
  rcases h.2 with h0 | ⟨g, cap, cur, hv, hB, hg, hr⟩
  · exact Or.inl h0
  · exact Or.inr ⟨g, cap, cur, hv, hB, (hb g (by rw [hv]; rfl)).trans hg, hr⟩
/-- A row's form. -/
theorem row_form {w : World} {B e size n : Nat} {v : Value} {xs : List Value} (h : w.ownsRow B e size v n xs) :
    ∃ A c, v = .slice A n c ∧ n ≤ c ∧ c ≤ maxLen ∧ (0 < n → ∃ g, A = some ⟨g, 0, none⟩ ∧ v.ownBlock = some g ∧ g < w.heap.size ∧ w.rangeAt g 0 xs) := by
  rcases h.2 with ⟨rfl, h0⟩ | ⟨g, cap, cur, rfl, hb, hg, hn, hm, hs, htk⟩
  · exact ⟨none, 0, by rw [h0], by omega, by unfold maxLen; omega, fun hn => by omega⟩
  · refine ⟨_, cap, rfl, hn, hm, fun _ => ⟨g, rfl, rfl, (Array.getElem?_eq_some_iff.1 hg).1, fun j u hu => ?_⟩⟩
    have := World.ownsRow.cells h (g := g) rfl j u hu
    rw [Addr.add_mid] at this
    exact this

/-- One piece of a row. -/
theorem range_piece {w : World} {g m : Nat} {α : Type} {f : α → List Value} {l : List α} (h : w.rangeAt g 0 (l.flatMap f)) (hl : ∀ x ∈ l, (f x).length = m) {k : Nat} {a : α} (hk : l[k]? = some a) : w.rangeAt g (k * m) (f a) := fun j u hu => by
  have hj : j < m := by
    rw [← hl a (List.mem_of_getElem? hk)]
    exact (List.getElem?_eq_some_iff.1 hu).1
  have := h (k * m + j) u (by rw [flat_get l hl k j a hk hj]; exact hu)
  rw [Nat.zero_add] at this
  exact this

/-! ### A store of a piece -/
theorem run_storeVar_at {P : Program} (w : World) (g o : Nat) (t ty : TypeId) (cur : Array Value) (cs : List Value) (hg : w.heap[g]? = some (.cells cur t (0, 0))) (hi : (P.info? ty).map (·.size) = some cs.length)
    (hfit : o + cs.length ≤ cur.size) (h1 : ∀ v ∈ cs, v.oneCell' = true) :
    (storeVar ty ⟨g, o, none⟩ (.agg cs.toArray)).run P w = .ok () (w.setRow g (cur.toList.take o ++ (cs ++ cur.toList.drop (o + cs.length))).toArray) := by
  have := run_storeCells_at (P := P) g o t cs 0 cur w hg (by omega) h1
  cases hq : P.info? ty with
  | none => simp [hq] at hi
  | some i =>
    have hs : cs.length = i.size := by simp [hq] at hi; omega
    simp [storeVar, sizeOf, typeInfo, hq, Value.cells, hs] at this ⊢
    rw [this]
theorem wp_store_at {P : Program} {op : Oper} {a : Act} {w : World} {K : Act → World → Prop} {Q : Exit → Act → World → Prop} (ty : TypeId) (x y : Operand) (ho : op.op = .store ty x y)
    (g o : Nat) (cs : List Value) (hx : a.eval x = .pointer (some ⟨g, o, none⟩)) (hy : a.eval y = .agg cs.toArray) (t : TypeId) (cur : Array Value) (hg : w.heap[g]? = some (.cells cur t (0, 0)))
    (hi : (P.info? ty).map (·.size) = some cs.length) (hfit : o + cs.length ≤ cur.size) (h1 : ∀ v ∈ cs, v.oneCell' = true)
    (h : K (a.put op.dst undef) (w.setRow g (cur.toList.take o ++ (cs ++ cur.toList.drop (o + cs.length))).toArray)) : op.wp P a w K Q := by
  unfold Oper.wp execOp
  simp only [ho, hx, hy, Instr.storeAt, Instr.sureAddr, Sem.run_bind, Sem.run_pure, Result.andThen_ok, run_storeVar_at w g o t ty cur cs hg hi hfit h1]
  exact h
theorem wpList_store_at {P : Program} {ops : Array Oper} {rest : List Oper} {op : Oper} {a : Act} {w : World} {Q : Exit → Act → World → Prop} (hgd : op.guard = none) (ty : TypeId) (x y : Operand) (ho : op.op = .store ty x y)
    (g o : Nat) (cs : List Value) (hx : a.eval x = .pointer (some ⟨g, o, none⟩)) (hy : a.eval y = .agg cs.toArray) (t : TypeId) (cur : Array Value) (hg : w.heap[g]? = some (.cells cur t (0, 0)))
    (hi : (P.info? ty).map (·.size) = some cs.length) (hfit : o + cs.length ≤ cur.size) (h1 : ∀ v ∈ cs, v.oneCell' = true)
    (h : wpList P ops Q rest (a.put op.dst undef) (w.setRow g (cur.toList.take o ++ (cs ++ cur.toList.drop (o + cs.length))).toArray)) : wpList P ops Q (op :: rest) a w :=
  wpList_plain hgd fun _ hK => wp_store_at ty x y ho g o cs hx hy t cur hg hi hfit h1 (hK _ _ h)
theorem step_wp {P : Program} {ops : Array Oper} {o : Oper} {a : Act} {w : World} {K : Act → World → Prop} {Q : Exit → Act → World → Prop} {E : Prop} (hgd : o.guard = none) (h : o.wp P a w K Q) :
    if Region.wanted o (yielded ops a.tmps) = true then Oper.wp P o a w K Q else E := by
  rw [if_pos (by simp [Region.wanted, hgd])]
  exact h

end Go.Proofs.YtmbhnhfnimijcaaDoor.Dk
