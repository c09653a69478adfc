/-
  The contract of disk.New: a new disk of zeros; and of the statements' own full and awake. Nothing that was there is changed.
-/
import Derived.Deep.AppendLies
import Derived.Deep.MidRow
import Derived.Test.YtmfgcinikopgnaaGreatDoorSmStr
import Derived.Test.YtmfgcinikopgnaaGreatDoorFaWrapB
import Derived.Great.BuildSlice
import Derived.Lib.MinMax

/-
  Words for a disk in memory: its sectors, its loose writes, the blocks that are its own; lists of equal pieces laid one behind the other. Plain theorems, no premise beyond those in each.
-/
namespace Go.Proofs.YtmfgcinikopgnaaGreatDoor.Dk
open Go.RowKit
open Pk Sm

/-! ### Pieces of one length -/
section
variable {α β : Type} {f : α → List β} {m : Nat}
theorem flat_len : ∀ (l : List α), (∀ x ∈ l, (f x).length = m) → (l.flatMap f).length = l.length * m
  | [], _ => by simp
  | a :: r, h => by
    rw [List.flatMap_cons, List.length_append, flat_len r (fun x hx => h x (by simp [hx])), h a (by simp), List.length_cons, Nat.add_mul]
    omega
theorem flat_get : ∀ (l : List α), (∀ x ∈ l, (f x).length = m) → ∀ (k j : Nat) (a : α), l[k]? = some a → j < m → (l.flatMap f)[k * m + j]? = (f a)[j]?
  | [], _, _, _, _, h, _ => by simp at h
  | b :: r, hl, 0, j, a, h, hj => by
    simp at h
    subst h
    rw [List.flatMap_cons, List.getElem?_append_left (by rw [hl b (by simp)]; omega), Nat.zero_mul, Nat.zero_add]
  | b :: r, hl, k + 1, j, a, h, hj => by
    simp at h
    have hb := hl b (by simp)
    rw [List.flatMap_cons, List.getElem?_append_right (by rw [hb, Nat.add_mul]; omega), hb, show (k + 1) * m + j - m = k * m + j by rw [Nat.add_mul]; omega]
    exact flat_get r (fun x hx => hl x (by simp [hx])) k j a h hj
theorem flat_set : ∀ (l : List α), (∀ x ∈ l, (f x).length = m) → ∀ (k : Nat) (y : α), k < l.length → (f y).length = m →
    (l.flatMap f).take (k * m) ++ (f y ++ (l.flatMap f).drop (k * m + m)) = (l.set k y).flatMap f
  | [], _, k, _, h, _ => by simp at h
  | b :: r, hl, 0, y, _, hy => by
    have hb := hl b (by simp)
    simp only [Nat.zero_mul, List.take_zero, List.nil_append, Nat.zero_add, List.set_cons_zero, List.flatMap_cons]
    congr 1
    rw [List.drop_append_of_le_length (by omega), List.drop_of_length_le (by omega), List.nil_append]
  | b :: r, hl, k + 1, y, h, hy => by
    have hb := hl b (by simp)
    have ih := flat_set r (fun x hx => hl x (by simp [hx])) k y (by simpa using h) hy
    simp only [List.set_cons_succ, List.flatMap_cons]
    rw [← ih, List.take_append, List.drop_append, hb, show (k + 1) * m - m = k * m by rw [Nat.add_mul]; omega, show (k + 1) * m + m - m = k * m + m by rw [Nat.add_mul]; omega,
      List.take_of_length_le (by rw [hb, Nat.add_mul]; omega), List.drop_of_length_le (l := f b) (by rw [hb, Nat.add_mul]; omega)]
    simp
end

/-! ### A disk's contents -/
abbrev Sec := List UInt8
abbrev Wr := Nat × List UInt8
def wcel (x : Wr) : List Value := .int .i64 (x.1 : Int) :: cels x.2
def wcels (L : List Wr) : List Value := L.flatMap wcel
def scels (S : List Sec) : List Value := S.flatMap cels
def Full (S : List Sec) : Prop := ∀ s ∈ S, s.length = 64
def Fits (n : Nat) (L : List Wr) : Prop := ∀ x ∈ L, x.1 < n ∧ x.2.length = 64

theorem Full.cels {S : List Sec} (h : Full S) : ∀ s ∈ S, (Pk.cels s).length = 64 := fun s hs => by rw [cels_length, h s hs]
theorem Fits.cels {n : Nat} {L : List Wr} (h : Fits n L) : ∀ x ∈ L, (wcel x).length = 65 := fun x hx => by simp [wcel, cels_length, (h x hx).2]
theorem Full.set {S : List Sec} (h : Full S) (i : Nat) {s : Sec} (hs : s.length = 64) : Full (S.set i s) := fun x hx => by
  rcases List.mem_or_eq_of_mem_set hx with h1 | h1
  · exact h x h1
  · exact h1 ▸ hs
theorem Fits.snoc {n : Nat} {L : List Wr} (h : Fits n L) {i : Nat} {s : Sec} (hi : i < n) (hs : s.length = 64) : Fits n (L ++ [(i, s)]) := fun x hx => by
  rcases List.mem_append.1 hx with h1 | h1
  · exact h x h1
  · simp at h1; subst h1; exact ⟨hi, hs⟩
theorem wcel_one (x : Wr) : ∀ u ∈ wcel x, u.oneCell' = true := by
  intro u hu
  simp only [wcel, List.mem_cons] at hu
  rcases hu with rfl | hu
  · rfl
  · exact cels_one _ u hu
theorem wcels_snoc (L : List Wr) (x : Wr) : wcels (L ++ [x]) = wcels L ++ wcel x := by simp [wcels]

/-- One write done; all; and those that a crash keeps, from index k on. -/
def done (S : List Sec) (x : Wr) : List Sec := S.set x.1 x.2
def all (S : List Sec) (L : List Wr) : List Sec := L.foldl done S
def crash (keep : Nat) : Nat → List Wr → List Sec → List Sec
  | _, [], S => S
  | k, x :: L, S => crash keep (k + 1) L (if keep.testBit (k % 64) then done S x else S)
theorem all_length : ∀ (L : List Wr) (S : List Sec), (all S L).length = S.length
  | [], _ => rfl
  | x :: L, S => by
    show (all (done S x) L).length = _
    rw [all_length L]
    simp [done]
theorem crash_length (keep : Nat) : ∀ (L : List Wr) (k : Nat) (S : List Sec), (crash keep k L S).length = S.length
  | [], _, _ => rfl
  | x :: L, k, S => by
    show (crash keep (k + 1) L _).length = _
    rw [crash_length keep L]
    split <;> simp [done]
theorem Full.all {n : Nat} : ∀ {L : List Wr} {S : List Sec}, Full S → Fits n L → Full (Dk.all S L)
  | [], _, h, _ => h
  | x :: L, S, h, hf => Full.all (L := L) (S := done S x) (h.set _ (hf x (by simp)).2) (fun y hy => hf y (by simp [hy]))
theorem Full.crash {n : Nat} {keep : Nat} : ∀ {L : List Wr} {k : Nat} {S : List Sec}, Full S → Fits n L → Full (Dk.crash keep k L S)
  | [], _, _, h, _ => h
  | x :: L, k, S, h, hf => by
    show Full (Dk.crash keep (k + 1) L _)
    refine Full.crash ?_ (fun y hy => hf y (by simp [hy]))
    split
    · exact h.set _ (hf x (by simp)).2
    · exact h
theorem all_other : ∀ {L : List Wr} {S : List Sec} {i : Nat}, (∀ x ∈ L, x.1 ≠ i) → (all S L)[i]? = S[i]?
  | [], _, _, _ => rfl
  | x :: L, S, i, h => by
    show (all (done S x) L)[i]? = _
    rw [all_other (fun y hy => h y (by simp [hy])), done, List.getElem?_set_ne (h x (by simp))]
theorem all_append (S : List Sec) (L M : List Wr) : all S (L ++ M) = all (all S L) M := List.foldl_append ..
theorem all_last {S : List Sec} {L M : List Wr} {i : Nat} {b : Sec} (hi : i < S.length) (h : ∀ x ∈ M, x.1 ≠ i) : (all S (L ++ (i, b) :: M))[i]? = some b := by
  rw [all_append]
  show (all (done (all S L) (i, b)) M)[i]? = _
  rw [all_other h]
  simp [done, all_length, hi]

/-! ### What may be written -/
structure Kept (G : Nat → Prop) (w w' : World) : Prop where
  os : w'.os = w.os
  tape : w'.tape = w.tape
  output : w'.output = w.output
  size : w.heap.size ≤ w'.heap.size
  block : ∀ k, k < w.heap.size → ¬ G k → w'.heap[k]? = w.heap[k]?

theorem Kept.refl (G : Nat → Prop) (w : World) : Kept G w w := ⟨rfl, rfl, rfl, Nat.le_refl _, fun _ _ _ => rfl⟩
theorem Kept.of_below {G : Nat → Prop} {w w' : World} (h : Below w.heap.size w w') : Kept G w w' := ⟨h.os, h.tape, h.output, h.size, fun k hk _ => h.block k hk⟩
theorem Kept.below {G : Nat → Prop} {w w' : World} {B : Nat} (h : Kept G w w') (hG : ∀ k, G k → B ≤ k) (hB : B ≤ w.heap.size) : Below B w w' :=
  ⟨h.os, h.tape, h.output, h.size, fun k hk => h.block k (by omega) (fun hg => by have := hG k hg; omega)⟩
/-- The blocks of later are those of before, or new. -/
def Grew (w : World) (G G' : Nat → Prop) : Prop := ∀ k, G' k → G k ∨ w.heap.size ≤ k
theorem Grew.refl (w : World) (G : Nat → Prop) : Grew w G G := fun _ h => .inl h
theorem Grew.from {w : World} {G G' : Nat → Prop} {B : Nat} (h : Grew w G G') (hG : ∀ k, G k → B ≤ k) (hB : B ≤ w.heap.size) : ∀ k, G' k → B ≤ k := fun k hk => by
  rcases h k hk with h1 | h1
  · exact hG k h1
  · omega
theorem Kept.trans {G G' : Nat → Prop} {w w' w'' : World} (h : Kept G w w') (hg : Grew w G G') (k : Kept G' w' w'') : Kept G w w'' :=
  ⟨k.os.trans h.os, k.tape.trans h.tape, k.output.trans h.output, Nat.le_trans h.size k.size, fun i hi hn => by
    rw [k.block i (Nat.lt_of_lt_of_le hi h.size) (fun h1 => by rcases hg i h1 with h2 | h2; exact hn h2; omega)]
    exact h.block i hi hn⟩
theorem Grew.trans {G G' G'' : Nat → Prop} {w w' : World} (hs : w.heap.size ≤ w'.heap.size) (h : Grew w G G') (k : Grew w' G' G'') : Grew w G G'' := fun i hi => by
  rcases k i hi with h1 | h1
  · exact h i h1
  · exact .inr (by omega)

/-- A disk. -/
def DskAt (w : World) (G : Nat → Prop) (p : Nat) (S : List Sec) (L : List Wr) (F X : Value) : Prop :=
  w.heap[p]? = some (.cells #[F, X] 73 (0, 0)) ∧ w.ownsRow 0 103 64 F S.length (scels S) ∧ w.ownsRow 0 105 65 X L.length (wcels L) ∧
    G p ∧ (∀ k, F.ownBlock = some k → G k ∧ k ≠ p) ∧ (∀ k, X.ownBlock = some k → G k ∧ k ≠ p ∧ F.ownBlock ≠ some k) ∧ (∀ k, G k → k < w.heap.size) ∧ Full S ∧ Fits S.length L

def Dsk (w : World) (G : Nat → Prop) (p : Nat) (S : List Sec) (L : List Wr) : Prop := ∃ F X, DskAt w G p S L F X
/-- What a call on a disk leaves. -/
def Post (w : World) (G : Nat → Prop) (p : Nat) (S : List Sec) (L : List Wr) (w' : World) : Prop := ∃ G', Dsk w' G' p S L ∧ Grew w G G' ∧ Kept G w w'

theorem own_same {w w' : World} {B e size n : Nat} {v : Value} {xs : List Value} (h : w.ownsRow B e size v n xs) (hb : ∀ k, v.ownBlock = some k → w'.heap[k]? = w.heap[k]?) : w'.ownsRow B e size v n xs := by
  refine ⟨h.1, ?_⟩
  rcases h.2 with h0 | ⟨g, cap, cur, hv, hB, hg, hr⟩
  · exact Or.inl h0
  · exact Or.inr ⟨g, cap, cur, hv, hB, (hb g (by rw [hv]; rfl)).trans hg, hr⟩
theorem Dsk.kept {w w' : World} {G G2 : Nat → Prop} {p : Nat} {S : List Sec} {L : List Wr} (h : Dsk w G p S L) (hk : Kept G2 w w') (hd : ∀ k, G k → ¬ G2 k) : Dsk w' G p S L := by
  obtain ⟨F, X, h1, h2, h3, h4, h5, h6, h7, h8⟩ := h
  exact ⟨F, X, (hk.block p (h7 p h4) (hd p h4)).trans h1, own_same h2 (fun k hb => hk.block k (h7 k (h5 k hb).1) (hd k (h5 k hb).1)), own_same h3 (fun k hb => hk.block k (h7 k (h6 k hb).1) (hd k (h6 k hb).1)), h4, h5, h6, fun k hg => Nat.lt_of_lt_of_le (h7 k hg) hk.size, h8⟩
theorem Dsk.below {w w' : World} {G : Nat → Prop} {p : Nat} {S : List Sec} {L : List Wr} (h : Dsk w G p S L) (hb : Below w.heap.size w w') : Dsk w' G p S L :=
  h.kept (Kept.of_below (G := fun _ => False) hb) (fun _ _ h => h)
theorem Dsk.lt {w : World} {G : Nat → Prop} {p : Nat} {S : List Sec} {L : List Wr} (h : Dsk w G p S L) : ∀ k, G k → k < w.heap.size := by
  obtain ⟨F, X, h1, h2, h3, h4, h5, h6, h7, h8⟩ := h
  exact h7
theorem Dsk.full {w : World} {G : Nat → Prop} {p : Nat} {S : List Sec} {L : List Wr} (h : Dsk w G p S L) : Full S := by
  obtain ⟨F, X, h1, h2, h3, h4, h5, h6, h7, h8, h9⟩ := h
  exact h8
theorem Dsk.fits {w : World} {G : Nat → Prop} {p : Nat} {S : List Sec} {L : List Wr} (h : Dsk w G p S L) : Fits S.length L := by
  obtain ⟨F, X, h1, h2, h3, h4, h5, h6, h7, h8, h9⟩ := h
  exact h9

/-- A row's form. -/
theorem row_form {w : World} {B e size n : Nat} {v : Value} {xs : List Value} (h : w.ownsRow B e size v n xs) :
    ∃ A c, v = .slice A n c ∧ n ≤ c ∧ c ≤ maxLen ∧ (0 < n → ∃ g, A = some ⟨g, 0, none⟩ ∧ v.ownBlock = some g ∧ g < w.heap.size ∧ w.rangeAt g 0 xs) := by
  rcases h.2 with ⟨rfl, h0⟩ | ⟨g, cap, cur, rfl, hb, hg, hn, hm, hs, htk⟩
  · exact ⟨none, 0, by rw [h0], by omega, by unfold maxLen; omega, fun hn => by omega⟩
  · refine ⟨_, cap, rfl, hn, hm, fun _ => ⟨g, rfl, rfl, (Array.getElem?_eq_some_iff.1 hg).1, fun j u hu => ?_⟩⟩
    have := World.ownsRow.cells h (g := g) rfl j u hu
    rw [Addr.add_mid] at this
    exact this

/-- One piece of a row. -/
theorem range_piece {w : World} {g m : Nat} {α : Type} {f : α → List Value} {l : List α} (h : w.rangeAt g 0 (l.flatMap f)) (hl : ∀ x ∈ l, (f x).length = m) {k : Nat} {a : α} (hk : l[k]? = some a) : w.rangeAt g (k * m) (f a) := fun j u hu => by
  have hj : j < m := by
    rw [← hl a (List.mem_of_getElem? hk)]
    exact (List.getElem?_eq_some_iff.1 hu).1
  have := h (k * m + j) u (by rw [flat_get l hl k j a hk hj]; exact hu)
  rw [Nat.zero_add] at this
  exact this

/-! ### A store of a piece -/
theorem run_storeVar_at {P : Program} (w : World) (g o : Nat) (t ty : TypeId) (cur : Array Value) (cs : List Value) (hg : w.heap[g]? = some (.cells cur t (0, 0))) (hi : (P.info? ty).map (·.size) = some cs.length)
    (hfit : o + cs.length ≤ cur.size) (h1 : ∀ v ∈ cs, v.oneCell' = true) :
    (storeVar ty ⟨g, o, none⟩ (.agg cs.toArray)).run P w = .ok () (w.setRow g (cur.toList.take o ++ (cs ++ cur.toList.drop (o + cs.length))).toArray) := by
  have := run_storeCells_at (P := P) g o t cs 0 cur w hg (by omega) h1
  cases hq : P.info? ty with
  | none => simp [hq] at hi
  | some i =>
    have hs : cs.length = i.size := by simp [hq] at hi; omega
    simp [storeVar, sizeOf, typeInfo, hq, Value.cells, hs] at this ⊢
    rw [this]
theorem wp_store_at {P : Program} {op : Oper} {a : Act} {w : World} {K : Act → World → Prop} {Q : Exit → Act → World → Prop} (ty : TypeId) (x y : Operand) (ho : op.op = .store ty x y)
    (g o : Nat) (cs : List Value) (hx : a.eval x = .pointer (some ⟨g, o, none⟩)) (hy : a.eval y = .agg cs.toArray) (t : TypeId) (cur : Array Value) (hg : w.heap[g]? = some (.cells cur t (0, 0)))
    (hi : (P.info? ty).map (·.size) = some cs.length) (hfit : o + cs.length ≤ cur.size) (h1 : ∀ v ∈ cs, v.oneCell' = true)
    (h : K (a.put op.dst undef) (w.setRow g (cur.toList.take o ++ (cs ++ cur.toList.drop (o + cs.length))).toArray)) : op.wp P a w K Q := by
  unfold Oper.wp execOp
  simp only [ho, hx, hy, Instr.storeAt, Instr.sureAddr, Sem.run_bind, Sem.run_pure, Result.andThen_ok, run_storeVar_at w g o t ty cur cs hg hi hfit h1]
  exact h
theorem wpList_store_at {P : Program} {ops : Array Oper} {rest : List Oper} {op : Oper} {a : Act} {w : World} {Q : Exit → Act → World → Prop} (hgd : op.guard = none) (ty : TypeId) (x y : Operand) (ho : op.op = .store ty x y)
    (g o : Nat) (cs : List Value) (hx : a.eval x = .pointer (some ⟨g, o, none⟩)) (hy : a.eval y = .agg cs.toArray) (t : TypeId) (cur : Array Value) (hg : w.heap[g]? = some (.cells cur t (0, 0)))
    (hi : (P.info? ty).map (·.size) = some cs.length) (hfit : o + cs.length ≤ cur.size) (h1 : ∀ v ∈ cs, v.oneCell' = true)
    (h : wpList P ops Q rest (a.put op.dst undef) (w.setRow g (cur.toList.take o ++ (cs ++ cur.toList.drop (o + cs.length))).toArray)) : wpList P ops Q (op :: rest) a w :=
  wpList_plain hgd fun _ hK => wp_store_at ty x y ho g o cs hx hy t cur hg hi hfit h1 (hK _ _ h)
theorem step_wp {P : Program} {ops : Array Oper} {o : Oper} {a : Act} {w : World} {K : Act → World → Prop} {Q : Exit → Act → World → Prop} {E : Prop} (hgd : o.guard = none) (h : o.wp P a w K Q) :
    if Region.wanted o (yielded ops a.tmps) = true then Oper.wp P o a w K Q else E := by
  rw [if_pos (by simp [Region.wanted, hgd])]
  exact h

end Go.Proofs.YtmfgcinikopgnaaGreatDoor.Dk

/-
  The contracts of disk's Len, Loose, has, failed, and of Write and Read where they refuse; of New. Nothing that was there is changed.
-/
namespace Go.Proofs.YtmfgcinikopgnaaGreatDoor.Dk
open Go.RowKit
open Pk Sm Fa

theorem Len_nil (w : World) : Calls Tryz.prog 26 #[.pointer none] w fun r w' => r = .returned (.int .i64 0) ∧ w = w' := by
  go_enter Tryz.func26, Tryz.ntmps26
  go_wp2
  go_ret
  exact ⟨rfl, rfl⟩
theorem Loose_nil (w : World) : Calls Tryz.prog 25 #[.pointer none] w fun r w' => r = .returned (.int .i64 0) ∧ w = w' := by
  go_enter Tryz.func25, Tryz.ntmps25
  go_wp2
  go_ret
  exact ⟨rfl, rfl⟩
theorem Len_at (p n c : Nat) (A : Option Addr) (X : Value) (w : World) (hp : w.heap[p]? = some (.cells #[.slice A n c, X] 73 (0, 0))) :
    Calls Tryz.prog 26 #[.pointer (some ⟨p, 0, none⟩)] w fun r w' => r = .returned (.int .i64 n) ∧ w = w' := by
  have hc : w.cell? ⟨p, 0, none⟩ = some (.slice A n c) := by simp [World.cell?, hp]
  clear hp
  go_enter Tryz.func26, Tryz.ntmps26
  go_wp2
  go_ret
  exact ⟨rfl, rfl⟩
theorem Loose_at (p n c : Nat) (A : Option Addr) (X : Value) (w : World) (hp : w.heap[p]? = some (.cells #[X, .slice A n c] 73 (0, 0))) :
    Calls Tryz.prog 25 #[.pointer (some ⟨p, 0, none⟩)] w fun r w' => r = .returned (.int .i64 n) ∧ w = w' := by
  have hc : w.cell? ⟨p, 1, none⟩ = some (.slice A n c) := by simp [World.cell?, hp]
  clear hp
  go_enter Tryz.func25, Tryz.ntmps25
  go_wp2
  go_ret
  exact ⟨rfl, rfl⟩

section
variable {w : World} {G : Nat → Prop} {p : Nat} {S : List Sec} {L : List Wr}
theorem Len_any (h : Dsk w G p S L) : Calls Tryz.prog 26 #[.pointer (some ⟨p, 0, none⟩)] w fun r w' => r = .returned (.int .i64 S.length) ∧ w = w' := by
  obtain ⟨F, X, h1, h2, h3, _⟩ := h
  obtain ⟨A, c, rfl, _⟩ := row_form h2
  exact Len_at p _ c A X w h1
theorem Loose_any (h : Dsk w G p S L) : Calls Tryz.prog 25 #[.pointer (some ⟨p, 0, none⟩)] w fun r w' => r = .returned (.int .i64 L.length) ∧ w = w' := by
  obtain ⟨F, X, h1, h2, h3, _⟩ := h
  obtain ⟨A, c, rfl, _⟩ := row_form h3
  exact Loose_at p _ c A F w h1
end

/-- Whatever tells its length n. -/
def Lens (w : World) (r : Value) (n : Nat) : Prop := Calls Tryz.prog 26 #[r] w fun e w' => e = .returned (.int .i64 n) ∧ w = w'

theorem has_neg (r : Value) (i : Int) (w : World) (hi : i < 0) :
    Calls Tryz.prog 45 #[r, .int .i64 i] w fun e w' => e = .returned (.bool false) ∧ w = w' := by
  go_enter Tryz.func45, Tryz.ntmps45
  go_wp2
  go_ret
  exact ⟨rfl, rfl⟩
theorem has_pos (r : Value) (i : Int) (n : Nat) (w : World) (hl : Lens w r n) (hi : 0 ≤ i) :
    Calls Tryz.prog 45 #[r, .int .i64 i] w fun e w' => e = .returned (.bool (decide (i < (n : Int)))) ∧ w = w' := by
  have Hl := hide hl
  clear hl
  go_enter Tryz.func45, Tryz.ntmps45
  go_wp2_with fail
  refine Hl.out.mono ?_
  rintro e w' ⟨rfl, rfl⟩
  go_wp2
  go_ret
  exact ⟨rfl, rfl⟩
theorem has_yes (r : Value) (i : Int) (n : Nat) (w : World) (hl : Lens w r n) (hi : 0 ≤ i) (hn : i < (n : Int)) :
    Calls Tryz.prog 45 #[r, .int .i64 i] w fun e w' => e = .returned (.bool true) ∧ w = w' := by
  have := has_pos r i n w hl hi
  rw [decide_eq_true hn] at this
  exact this
theorem has_no (r : Value) (i : Int) (n : Nat) (w : World) (hl : Lens w r n) (hn : ¬ (0 ≤ i ∧ i < (n : Int))) :
    Calls Tryz.prog 45 #[r, .int .i64 i] w fun e w' => e = .returned (.bool false) ∧ w = w' := by
  by_cases hi : 0 ≤ i
  · have := has_pos r i n w hl hi
    rw [decide_eq_false (by omega)] at this
    exact this
  · exact has_neg r i w (by omega)

/-- The fault of a sector. -/
def flt (i k : Int) : Obj := .cells #[.string ⟨#[100, 105, 115, 107]⟩, .int .i64 i, .iface 39 (.int .i64 k)] 92
abbrev ptr (w : World) : Value := .iface 90 (.pointer (some ⟨w.heap.size, 0, none⟩))
theorem flt_chain (w : World) (i k : Int) : Chain (w.alloc (flt i k)) [(w.heap.size, ⟨#[100, 105, 115, 107]⟩, i)] (ptr w) (.iface 39 (.int .i64 k)) :=
  ⟨rfl, _, heap_alloc_new w _, rfl⟩
theorem flt_below (w : World) (i k : Int) : Below w.heap.size w (w.alloc (flt i k)) := (Below.refl _ _).alloc (Nat.le_refl _) _

theorem failed_any (i k : Int) (w : World) (hk : k ≠ 0) :
    Calls Tryz.prog 46 #[.int .i64 i, .int .i64 k] w fun e w' => e = .returned (ptr w) ∧ w' = w.alloc (flt i k) := by
  have HW := hide (Wrap_real ⟨#[100, 105, 115, 107]⟩ i (.iface 39 (.int .i64 k)) w (Real.num hk))
  go_enter Tryz.func46, Tryz.ntmps46
  go_wp2_with fail
  refine HW.out.mono ?_
  rintro e w' ⟨rfl, rfl⟩
  go_wp2
  go_ret
  exact ⟨rfl, rfl⟩

theorem Write_out (r : Value) (i : Int) (b : Value) (n : Nat) (w : World) (hl : Lens w r n) (hn : ¬ (0 ≤ i ∧ i < (n : Int))) :
    Calls Tryz.prog 39 #[r, .int .i64 i, b] w fun e w' => e = .returned (ptr w) ∧ w' = w.alloc (flt i 5) := by
  have HH := hide (has_no r i n w hl hn)
  have HF := hide (failed_any i 5 w (by decide))
  clear hl hn
  go_enter Tryz.func39, Tryz.ntmps39
  go_wp2_with fail
  refine HH.out.mono ?_
  rintro e w' ⟨rfl, rfl⟩
  go_wp2_with fail
  refine HF.out.mono ?_
  rintro e w' ⟨rfl, rfl⟩
  go_wp2
  go_ret
  exact ⟨rfl, rfl⟩

theorem Write_bad (r : Value) (i : Int) (A : Option Addr) (m c n : Nat) (w : World) (hl : Lens w r n) (hi : 0 ≤ i) (hn : i < (n : Int)) (hm : (m : Int) ≠ 64) :
    Calls Tryz.prog 39 #[r, .int .i64 i, .slice A m c] w fun e w' => e = .returned (ptr w) ∧ w' = w.alloc (flt i 1) := by
  have HH := hide (has_yes r i n w hl hi hn)
  have HF := hide (failed_any i 1 w (by decide))
  clear hl hn hi
  go_enter Tryz.func39, Tryz.ntmps39
  go_wp2_with fail
  refine HH.out.mono ?_
  rintro e w' ⟨rfl, rfl⟩
  go_wp2_with fail
  refine HF.out.mono ?_
  rintro e w' ⟨rfl, rfl⟩
  go_wp2
  go_ret
  exact ⟨rfl, rfl⟩

theorem Read_out (r : Value) (i : Int) (n : Nat) (w : World) (hl : Lens w r n) (hn : ¬ (0 ≤ i ∧ i < (n : Int))) :
    Calls Tryz.prog 27 #[r, .int .i64 i] w fun e w' => e = .returned (.tuple #[.slice none 0 0, ptr w]) ∧ w' = w.alloc (flt i 5) := by
  have HH := hide (has_no r i n w hl hn)
  have HF := hide (failed_any i 5 w (by decide))
  clear hl hn
  go_enter Tryz.func27, Tryz.ntmps27
  go_wp2_with fail
  refine HH.out.mono ?_
  rintro e w' ⟨rfl, rfl⟩
  go_wp2_with fail
  refine HF.out.mono ?_
  rintro e w' ⟨rfl, rfl⟩
  go_wp2
  go_ret2
  exact ⟨rfl, rfl⟩

end Go.Proofs.YtmfgcinikopgnaaGreatDoor.Dk

/-
  The contract of disk's current and Read: the contents of a sector, in memory of the call's own. Nothing that was there is changed.
-/
namespace Go.Proofs.YtmfgcinikopgnaaGreatDoor.Dk
open Go.RowKit
open Pk Sm Fa

theorem sec_size : (Tryz.prog.info? 103).map (·.size) = some 64 := by kernel_rfl
theorem wr_size : (Tryz.prog.info? 105).map (·.size) = some 65 := by kernel_rfl
theorem u8_one : (Tryz.prog.info? 5).map (·.size) = some 1 := by kernel_rfl
def zero : Sec := List.replicate 64 0
theorem zero_length : zero.length = 64 := List.length_replicate
theorem sec_zero : (Tryz.prog.info? 103).map (·.zero) = some (some (.agg (cels zero).toArray)) := by kernel_rfl
theorem wr_zero : (Tryz.prog.info? 105).map (·.zero) = some (some (.agg (wcel (0, zero)).toArray)) := by kernel_rfl

/-- A new variable of zeros, the world behind it under a name of its own. -/
theorem wpList_alloc_told {P : Program} {ops : Array Oper} {rest : List Oper} {o : Oper} {a : Act} {w : World} {Q : Exit → Act → World → Prop} (hg : o.guard = none) (t : TypeId) (ho : o.op = .alloc t)
    (z : Array Value) (hz : (P.info? t).map (·.zero) = some (some (.agg z)))
    (h : ∀ w', Hid (w' = w.alloc (.cells z t)) → wpList P ops Q rest (a.put o.dst (.pointer (some ⟨w.heap.size, 0, none⟩))) w') : wpList P ops Q (o :: rest) a w := by
  refine wpList_plain hg fun K hK => ?_
  cases hq : P.info? t with
  | none => simp [hq] at hz
  | some i =>
    have hz' : i.zero = some (.agg z) := by simpa [hq] using hz
    have hrun : (zeroValue t).run P w = .ok (.agg z) w := by simp [zeroValue, typeInfo, hq, hz']
    unfold Oper.wp execOp
    simp only [ho, Sem.run_bind, Instr.alloc, newVar, newRow, run_newObj_alloc, Sem.run_pure, Result.andThen_ok, hrun, Value.cells]
    exact hK _ _ (h _ rfl)

theorem drop_cons {α : Type} {l : List α} {k : Nat} {x : α} (h : l[k]? = some x) : l.drop k = x :: l.drop (k + 1) := by
  obtain ⟨h1, h2⟩ := List.getElem?_eq_some_iff.1 h
  rw [List.drop_eq_getElem_cons h1, h2]
theorem range_tail {w : World} {g o : Nat} {v : Value} {cs : List Value} (h : w.rangeAt g o (v :: cs)) : w.rangeAt g (o + 1) cs := fun j u hu => by
  have := h (j + 1) u (by simpa using hu)
  rwa [show o + (j + 1) = o + 1 + j by omega] at this

set_option maxRecDepth 100000 in
set_option maxHeartbeats 1000000 in
theorem current_any (w : World) (G : Nat → Prop) (p i : Nat) (S : List Sec) (L : List Wr) (s : Sec) (h : Dsk w G p S L) (hs : (all S L)[i]? = some s) (hi : i < S.length) (hL : L.length ≤ 1000000) :
    Calls Tryz.prog 47 #[.pointer (some ⟨p, 0, none⟩), .int .i64 i] w fun e w' => e = .returned (.agg (cels s).toArray) ∧ Below w.heap.size w w' := by
  have HD := hide h
  have HS := hide hs
  have HI := hide hi
  clear h hs hi
  go_enter Tryz.func47, Tryz.ntmps47
  go_wp2_with (refine wpList_alloc_told rfl 103 rfl _ sec_zero ?_)
  intro w1 Hw1
  have hb1 : Below w.heap.size w w1 := by rw [Hw1.out]; exact (Below.refl _ _).alloc (Nat.le_refl _) _
  have hg1 : w1.heap[w.heap.size]? = some (.cells (cels zero).toArray 103 (0, 0)) := by rw [Hw1.out]; exact heap_alloc_new w _
  obtain ⟨F, X, h1, h2, h3, h4, h5, h6, h7, h8, h9⟩ := HD.out.below hb1
  obtain ⟨A, c, rfl, hn1, hc1, hF⟩ := row_form h2
  obtain ⟨g, rfl, _, hglt, hFr⟩ := hF (by have := HI.out; omega)
  obtain ⟨B, d, rfl, hn2, hc2, hX⟩ := row_form h3
  generalize hm : L.length = m at *
  generalize hn : S.length = n at *
  have hp0 : w1.cell? ⟨p, 0, none⟩ = some (.slice (some ⟨g, 0, none⟩) n c) := by simp [World.cell?, h1]
  have hp1 : w1.cell? ⟨p, 1, none⟩ = some (.slice B m d) := by simp [World.cell?, h1]
  have HX := hide hX
  have HF := hide hFr
  have HG1 := hide hg1
  have HB1 := hide hb1
  have Hm := hide hm
  have Hn := hide hn
  have Hfull := hide h8
  have Hfit := hide h9
  clear h1 h2 h3 h4 h5 h6 h7 h8 h9 hX hFr hg1 hb1 hm hn hF hn1 hn2 hc1 hc2 hglt
  go_wp2
  go_loop [5] (fun j => ∃ k : Nat, k ≤ m ∧ j = .int .i64 ((k : Int) - 1) ∧ Hid (∀ x ∈ L.drop k, x.1 ≠ i)) (fun j => (intOf j + 1).toNat)
  case atStart => exact ⟨m, Nat.le_refl _, rfl, by rw [← Hm.out, List.drop_length]; exact fun x hx => by cases hx⟩
  case round =>
    obtain ⟨k, hk, rfl, hd⟩ := hrel
    rcases Nat.eq_zero_or_pos k with rfl | hpos
    · have hsi : S[i]? = some s := by rw [← HS.out, all_other (fun x hx => hd.out x (by simpa using hx))]
      have HR := hide (range_piece HF.out Hfull.out.cels hsi)
      have hls : (cels s).length = 64 := Hfull.out.cels s (List.mem_of_getElem? hsi)
      have hii : (i : Int) < (n : Int) := by have := HI.out; omega
      have Hls := hide hls
      clear hls hsi
      go_wp2_with (first | with_reducible refine wpList_load_mid rfl 103 (.tmp 39) rfl g (i * 64) rfl (cels s) _ HR.out Tryz.underlying103 rfl (by rw [sec_size, Hls.out]) ?_ | with_reducible refine wpList_store_row rfl 103 (.tmp 4) (.tmp 40) rfl w.heap.size (cels s).toArray rfl rfl 103 _ HG1.out (by rw [sec_size, List.size_toArray, Hls.out]) (by rw [List.size_toArray, List.size_toArray, Hls.out, cels_length, zero_length]) (all_oneCell_toArray (cels_one s)) ?_)
      refine bodyPost_ret (v := .agg (cels s).toArray) (results_cell_row rfl _ _ w.heap.size 103 _ (0, 0) _ rfl (setRow_heap w1 _ _ _ _ _ HG1.out) Tryz.underlying103 rfl (by rw [sec_size, List.size_toArray, Hls.out])) rfl ⟨rfl, below_setRow HB1.out (Nat.le_refl _) _⟩
    · obtain ⟨k, rfl⟩ : ∃ j, k = j + 1 := ⟨k - 1, by omega⟩
      obtain ⟨x, hx⟩ : ∃ x, L[k]? = some x := ⟨_, List.getElem?_eq_getElem (by rw [Hm.out]; omega)⟩
      obtain ⟨b, rfl, _, hblt, hrg⟩ := HX.out (by omega)
      have hr := range_piece hrg Hfit.out.cels hx
      have hc0 := hr 0 _ rfl
      have HR := hide hr
      clear hr hrg hblt
      rw [Nat.add_zero] at hc0
      have hxl := (Hfit.out x (List.mem_of_getElem? hx)).2
      obtain ⟨xi, xb⟩ := x
      have HL := hide (show L = L.take k ++ (xi, xb) :: L.drop (k + 1) by rw [← (List.getElem?_eq_some_iff.1 hx).2, List.getElem_cons_drop, List.take_append_drop])
      have hkm : (k : Int) < (m : Int) := by omega
      rw [show ((k + 1 : Nat) : Int) - 1 = (k : Int) by omega]
      have HDk := hide (drop_cons hx)
      clear hx
      by_cases hxi : xi = i
      · obtain rfl : i = xi := hxi.symm
        clear hxi
        have hsb : s = xb := by
          have := HS.out
          rw [HL.out, all_last (by rw [Hn.out]; exact HI.out) hd.out] at this
          exact (Option.some.inj this).symm
        subst hsb
        have Hls : Hid ((cels s).length = 64) := by rw [cels_length]; exact hxl
        have HT : Hid (w1.rangeAt b (k * 65 + 1) (cels s)) := range_tail HR.out
        clear hxl
        go_wp2_with (first | with_reducible refine wpList_load_mid rfl 103 (.tmp 32) rfl b (k * 65 + 1) rfl (cels s) _ HT.out Tryz.underlying103 rfl (by rw [sec_size, Hls.out]) ?_ | with_reducible refine wpList_store_row rfl 103 (.tmp 4) (.tmp 33) rfl w.heap.size (cels s).toArray rfl rfl 103 _ HG1.out (by rw [sec_size, List.size_toArray, Hls.out]) (by rw [List.size_toArray, List.size_toArray, Hls.out, cels_length, zero_length]) (all_oneCell_toArray (cels_one s)) ?_)
        refine bodyPost_ret (v := .agg (cels s).toArray) (results_cell_row rfl _ _ w.heap.size 103 _ (0, 0) _ rfl (setRow_heap w1 _ _ _ _ _ HG1.out) Tryz.underlying103 rfl (by rw [sec_size, List.size_toArray, Hls.out])) rfl ⟨rfl, below_setRow HB1.out (Nat.le_refl _) _⟩
      · have hne : ¬ ((xi : Int) = (i : Int)) := by omega
        have Hne := hide hxi
        clear hxi hxl
        go_wp2
        go_round
        case rel =>
          refine ⟨k, by omega, by go_num, ?_⟩
          show ∀ x ∈ L.drop k, x.1 ≠ i
          rw [HDk.out]
          intro x hx
          rcases List.mem_cons.1 hx with rfl | hx
          · exact Hne.out
          · exact hd.out x hx
        case measure => simp [intOf]

/-- make, the world behind it under a name of its own. -/
theorem wpList_make_told {P : Program} {ops : Array Oper} {rest : List Oper} {o : Oper} {a : Act} {w : World} {Q : Exit → Act → World → Prop} (hg : o.guard = none) (t : TypeId) (x y : Operand) (ho : o.op = .makeSlice t x y)
    (e : TypeId) (i : TypeInfo) (z : Value) (ht : P.underlying t = some (.slice e)) (hi : P.info? e = some i) (hz : i.zero = some z) (kl kc : IntKind) (l c : Nat) (hx : a.eval x = .int kl (l : Int)) (hy : a.eval y = .int kc (c : Int))
    (hlc : l ≤ c) (hbytes : (i.bytes : Int) * (c : Int) ≤ 281474976710656) (h63 : c ≤ 9223372036854775807)
    (n : Nat) (hn : i.size = n)
    (h : ∀ w', Hid (w' = w.alloc (.cells (madeCells z.cells (c * n)) e)) → wpList P ops Q rest (a.put o.dst (.slice (some ⟨w.heap.size, 0, none⟩) l c)) w') : wpList P ops Q (o :: rest) a w := by
  subst hn
  refine wpList_plain hg fun K hK => ?_
  have hrun := run_make (P := P) w t e i z ht hi hz kl kc l c (by omega) (by omega) hbytes (by omega)
  unfold Oper.wp execOp
  simp only [ho, hx, hy, Sem.run_bind, hrun, Sem.run_pure, Result.andThen_ok, Int.toNat_natCast]
  exact hK _ _ (h _ rfl)

theorem splice_all {α : Type} (l m : List α) (h : m.length = l.length) : splice l 0 m = m := by
  simp [splice, h]
theorem n64 : (cels zero).length = 64 := by rw [cels_length, zero_length]
theorem made_zero : (madeCells #[.int .u8 0] 64).toList = cels zero := by kernel_rfl

set_option maxRecDepth 100000 in
set_option maxHeartbeats 1000000 in
theorem Read_any (w : World) (G : Nat → Prop) (p i : Nat) (S : List Sec) (L : List Wr) (s : Sec) (h : Dsk w G p S L) (hs : (all S L)[i]? = some s) (hi : i < S.length) (hL : L.length ≤ 1000000) :
    Calls Tryz.prog 27 #[.pointer (some ⟨p, 0, none⟩), .int .i64 i] w fun e w' => ∃ g, e = .returned (.tuple #[.slice (some ⟨g, 0, none⟩) 64 64, .nilIface]) ∧ w.heap.size ≤ g ∧ Hid (w'.heap[g]? = some (.cells (cels s).toArray 5 (0, 0))) ∧ Below w.heap.size w w' := by
  obtain ⟨i0, hi0, hz0, hz1, hz2⟩ := info_parts u8_info
  have HH := hide (has_yes (.pointer (some ⟨p, 0, none⟩)) i S.length w (Len_any h) (by omega) (by omega))
  have HC := hide (current_any w G p i S L s h hs hi hL)
  have Hls : Hid ((cels s).length = 64) := by rw [cels_length]; exact (h.full.all h.fits) s (List.mem_of_getElem? hs)
  have Hz := hide hz1
  have Hz2 := hide hz2
  clear h hs hi hL hz1 hz2
  go_enter Tryz.func27, Tryz.ntmps27
  go_wp2_with fail
  refine HH.out.mono ?_
  rintro e w0 ⟨rfl, rfl⟩
  go_wp2_with fail
  refine HC.out.mono ?_
  rintro e w1 ⟨rfl, hb1⟩
  have HB1 := hide hb1
  clear HH HC hb1
  go_wp2_with (refine wpList_alloc_told rfl 103 rfl _ sec_zero ?_)
  intro w2 Hw2
  have HB2 : Hid (Below w.heap.size w w2) := by rw [Hw2.out]; exact HB1.out.alloc HB1.out.size _
  have HG2 : Hid (w2.heap[w1.heap.size]? = some (.cells (cels zero).toArray 103 (0, 0))) := by rw [Hw2.out]; exact heap_alloc_new w1 _
  go_wp2_with (first | with_reducible refine wpList_store_row rfl 103 (.tmp 6) (.tmp 16) rfl w1.heap.size (cels s).toArray rfl rfl 103 _ HG2.out (by rw [sec_size, List.size_toArray, Hls.out]) (by rw [List.size_toArray, List.size_toArray, Hls.out, cels_length, zero_length]) (all_oneCell_toArray (cels_one s)) ?_ | with_reducible refine wpList_make_told rfl 64 _ _ rfl 5 i0 _ Tryz.underlying64 hi0 hz0 .i64 .i64 64 64 rfl rfl (by omega) (by rw [Hz2.out]; decide) (by omega) 1 Hz.out ?_)
  intro w3 Hw3
  have HB3 : Hid (Below w.heap.size w w3) := by rw [Hw3.out]; exact (below_setRow HB2.out HB1.out.size _).alloc (by have := HB2.out.size; simp; omega) _
  have hs2 : w2.heap.size = w1.heap.size + 1 := by rw [Hw2.out]; simp
  have HG3 : Hid (w3.heap[w1.heap.size]? = some (.cells (cels s).toArray 103 (0, 0))) := by
    rw [Hw3.out]
    exact (Below.heap_alloc _ _ _ (by rw [setRow_size]; omega)).trans (setRow_heap w2 _ _ _ _ _ HG2.out)
  have HN3 : Hid (w3.heap[w2.heap.size]? = some (.cells (cels zero).toArray 5 (0, 0))) := by
    rw [Hw3.out]
    have := heap_alloc_new (w2.setRow w1.heap.size (cels s).toArray) (.cells (madeCells #[.int .u8 0] 64) 5)
    rw [setRow_size] at this
    refine this.trans ?_
    rw [← made_zero, Array.toArray_toList]
  have hle := HB1.out.size
  have Hle := hide hle
  have Hs2 := hide hs2
  clear hle Hw2 Hw3 HG2 hs2
  go_wp2_with (with_reducible refine wpList_copy_splice rfl (.tmp 18) (.tmp 19) 64 64 rfl 5 Tryz.underlying64 u8_one (some ⟨w2.heap.size, 0, none⟩) (some ⟨w1.heap.size, 0, none⟩) 64 64 64 64 rfl rfl w2.heap.size 0 (cels zero) 5 HN3.out (cels s) ?h2 ?h3 ?h4 (cels_one s) w.heap.size w HB3.out (by have := Hle.out; have := Hs2.out; omega) ?h6)
  case h2 => rw [Hls.out]; rfl
  case h3 =>
    intro _ j u hu
    rw [cell_of_row w3 _ j _ _ _ HG3.out]
    simpa using hu
  case h4 => rw [Hls.out, n64]; exact Nat.le_refl _
  case h6 =>
    intro w4 hg4 hb4
    have HG4 : Hid (w4.heap[w2.heap.size]? = some (.cells (cels s).toArray 5 (0, 0))) := by
      have := hg4.out
      rw [splice_all _ _ (by rw [Hls.out, n64])] at this
      exact this
    have HB4 := hide hb4
    clear hg4 hb4 HG3 HN3
    go_wp2
    go_ret2
    exact ⟨_, rfl, by have := Hle.out; have := Hs2.out; omega, HG4, HB4.out⟩

end Go.Proofs.YtmfgcinikopgnaaGreatDoor.Dk

/-
  The contract of disk's Write where it writes: the write is appended to the loose ones; nothing but the disk's own memory is changed.
-/
namespace Go.Proofs.YtmfgcinikopgnaaGreatDoor.Dk
open Go.RowKit
open Pk Sm Fa

theorem fold_set : ∀ (l : List Value) (k : Nat) (acc : Array Value), k + l.length ≤ acc.size → ((l.zipIdx k).foldl (fun a (p : Value × Nat) => a.setIfInBounds (0 + p.2) p.1) acc).toList = acc.toList.take k ++ (l ++ acc.toList.drop (k + l.length))
  | [], k, acc, h => by simp
  | v :: r, k, acc, h => by
    simp only [List.length_cons] at h
    rw [List.zipIdx_cons, List.foldl_cons, fold_set r (k + 1) _ (by simp; omega)]
    have e := list_seg_step acc.toList k v r (by simp; omega)
    simpa [Array.toList_setIfInBounds, Nat.add_assoc, Nat.add_comm 1] using e
theorem fill_whole (n : Nat) (base : Array Value) (cs : List Value) (hb : base.size = n) (hc : cs.length = n) : Instr.fill (fun i => some (i * n, n)) base [(0, .agg cs.toArray)] = some cs.toArray := by
  have e := fold_set cs 0 base (by omega)
  rw [List.take_zero, List.nil_append, Nat.zero_add, List.drop_of_length_le (by simp; omega), List.append_nil] at e
  have e2 : (cs.zipIdx.foldl (fun a (p : Value × Nat) => a.setIfInBounds (0 + p.2) p.1) base) = cs.toArray := by
    apply Array.toList_inj.1
    rw [e]
  simp only [Instr.fill, Value.cells, List.size_toArray, Nat.zero_mul]
  rw [if_neg (by simp; omega)]
  have e3 : cs.toArray.zipIdx.foldl (fun (a : Array Value) (p : Value × Nat) => a.setIfInBounds (0 + p.2) p.1) base = cs.toArray := by rw [← Array.foldl_toList, Array.toList_zipIdx]; exact e2
  exact congrArg some e3
theorem built_wr (i : Int) : Tryz.prog.built 105 [(0, .int .i64 i)] = some (Value.int .i64 i :: cels zero).toArray := by kernel_rfl
theorem wr_info : (Tryz.prog.info? 105).map (fun i => (i.zero, i.size, i.bytes)) = some (some (.agg (wcel (0, zero)).toArray), 65, 72) := by kernel_rfl
theorem wpList_built {P : Program} {ops : Array Oper} {rest : List Oper} {o : Oper} {a : Act} {w : World} {Q : Exit → Act → World → Prop} (hg : o.guard = none) (t : TypeId) (parts : Array (Nat × Operand)) (ho : o.op = .build t parts)
    (cs : Array Value) (hf : P.built t (parts.map fun (i, x) => (i, a.eval x)).toList = some cs) (h : wpList P ops Q rest (a.put o.dst (.agg cs)) w) : wpList P ops Q (o :: rest) a w :=
  wpList_build hg t parts ho (by rw [hf]; rfl) (by rw [hf]; exact h)
theorem splice_tail {α : Type} (v : α) (l m : List α) (h : m.length = l.length) : splice (v :: l) 1 m = v :: m := by
  simp [splice, h, Nat.add_comm 1]

section
variable {w W w5 : World} {G : Nat → Prop} {p : Nat} {S : List Sec} {L : List Wr} {F X : Value}
theorem hp5 (h : DskAt w G p S L F X) (hb : Below w.heap.size w W) (hgr : W.grownBy w5 X.ownBlock) : w5.heap[p]? = some (.cells #[F, X] 73 (0, 0)) := by
  obtain ⟨h1, h2, h3, h4, h5, h6, h7, h8, h9⟩ := h
  rw [hgr.block p (Nat.lt_of_lt_of_le (h7 p h4) hb.size) (fun e => (h6 p e.symm).2.1 rfl), hb.block p (h7 p h4)]
  exact h1
theorem wrote {g cap i m : Nat} {s : Sec} (h : DskAt w G p S L F X) (hb : Below w.heap.size w W) (hgr : W.grownBy w5 X.ownBlock)
    (hown : w5.ownsRow 0 105 65 (.slice (some ⟨g, 0, none⟩) (m + 1) cap) (m + 1) (wcels L ++ wcel (i, s))) (hor : X.ownBlock = some g ∨ g = W.heap.size) (hm : L.length = m) (hi : i < S.length) (hs : s.length = 64) :
    Post w G p S (L ++ [(i, s)]) (w5.setCell ⟨p, 1, none⟩ (.slice (some ⟨g, 0, none⟩) (m + 1) cap)) := by
  have hp := hp5 h hb hgr
  have hh := h
  obtain ⟨h1, h2, h3, h4, h5, h6, h7, h8, h9⟩ := h
  have hsz : (w5.setCell ⟨p, 1, none⟩ (.slice (some ⟨g, 0, none⟩) (m + 1) cap)).heap.size = w5.heap.size := by simp [World.setCell]
  have hgs := hgr.size
  have hbs := hb.size
  have hgp : g ≠ p := by
    rcases hor with h | h
    · exact (h6 g h).2.1
    · have := h7 p h4; omega
  have hgl : g < w5.heap.size := (World.ownsRow.lt hown g rfl).2
  refine ⟨fun k => G k ∨ (w.heap.size ≤ k ∧ k < w5.heap.size), ⟨F, .slice (some ⟨g, 0, none⟩) (m + 1) cap, ?_, ?_, ?_, Or.inl h4, fun k hk => ⟨Or.inl (h5 k hk).1, (h5 k hk).2⟩, ?_, ?_, h8, h9.snoc hi hs⟩, fun k hk => hk.imp id fun x => x.1, ?_⟩
  · rw [heap_setCell_same w5 p 1 _ _ _ hp]; rfl
  · refine own_same h2 fun k hk => ?_
    have hkG := h5 k hk
    have hkl := h7 k hkG.1
    rw [heap_setCell_other _ _ _ _ hkG.2, hgr.block k (by omega) (fun e => (h6 k e.symm).2.2 hk), hb.block k hkl]
  · rw [List.length_append, hm, wcels_snoc]
    exact own_same hown fun k hk => by
      have : g = k := by simpa [Value.ownBlock] using hk
      rw [heap_setCell_other _ _ _ _ (by rw [← this]; exact hgp)]
  · intro k hk
    have hk' : g = k := by simpa [Value.ownBlock] using hk
    subst hk'
    refine ⟨?_, hgp, ?_⟩
    · rcases hor with h | h
      · exact Or.inl (h6 g h).1
      · exact Or.inr ⟨by omega, hgl⟩
    · intro hF
      rcases hor with h | h
      · exact (h6 g h).2.2 hF
      · have := h7 g (h5 g hF).1
        omega
  · intro k hk
    rw [hsz]
    rcases hk with hk | hk
    · have := h7 k hk; omega
    · exact hk.2
  · refine ⟨hgr.os.trans hb.os, hgr.tape.trans hb.tape, hgr.output.trans hb.output, by rw [hsz]; omega, fun k hk hn => ?_⟩
    rw [heap_setCell_other _ _ _ _ (fun e => hn (by have e' : k = p := e; rw [e']; exact h4)), hgr.block k (by omega) (fun e => hn (h6 k e.symm).1), hb.block k hk]
end

set_option maxRecDepth 100000 in
set_option maxHeartbeats 2000000 in
theorem Write_any (w : World) (G : Nat → Prop) (p i c : Nat) (A : Option Addr) (S : List Sec) (L : List Wr) (s : Sec) (h : Dsk w G p S L) (hi : i < S.length) (hb : Byt w w.heap.size A s) (hs : s.length = 64) (hL : L.length ≤ 900000) :
    Calls Tryz.prog 39 #[.pointer (some ⟨p, 0, none⟩), .int .i64 i, .slice A 64 c] w fun e w' => e = .returned .nilIface ∧ Post w G p S (L ++ [(i, s)]) w' := by
  obtain ⟨i0, hi0, hz0, hz1, hz2⟩ := info_parts wr_info
  have HH := hide (has_yes (.pointer (some ⟨p, 0, none⟩)) i S.length w (Len_any h) (by omega) (by omega))
  obtain ⟨F, X, hd⟩ := h
  obtain ⟨B, d, rfl, hn2, hc2, _⟩ := row_form hd.2.2.1
  have Hi := hide hi
  have Hb := hide hb
  have Hs := hide hs
  have HbL := built_wr (i : Int)
  have Hcs : Hid ((cels s).length = 64) := by rw [cels_length]; exact hs
  obtain ⟨m, hm⟩ : ∃ m, L.length = m := ⟨_, rfl⟩
  rw [hm] at hd hL hn2
  have HD := hide hd
  have HM := hide hm
  have HLm := hide hL
  have hp1 : w.cell? ⟨p, 1, none⟩ = some (.slice B m d) := by simp [World.cell?, hd.1]
  have hpl : p < w.heap.size := hd.2.2.2.2.2.2.1 p hd.2.2.2.1
  have HO0 := hide hd.2.2.1
  have Hp1 := hide hp1
  have Hpl := hide hpl
  have Hz1 := hide hz1
  have Hz2 := hide hz2
  have Hz3 := hide (show (Value.agg (wcel (0, zero)).toArray).cells.size = 65 by simp [Value.cells, wcel, n64])
  have Hwl := hide (show (wcel (i, s)).length = 65 by simp [wcel, Hcs.out])
  have Hst1 := hide (show (Tryz.prog.info? 105).map (·.size) = some (Value.int .i64 i :: cels zero).toArray.size by rw [wr_size]; simp [n64])
  have Hst2 := hide (show (wcel (0, zero)).toArray.size = (Value.int .i64 i :: cels zero).toArray.size by simp [wcel])
  have Hst3 := hide (show (Value.int .i64 i :: cels zero).toArray.all (·.oneCell') = true from all_oneCell_toArray (fun v hv => by rcases List.mem_cons.1 hv with rfl | hv; rfl; exact cels_one _ v hv))
  clear hd hb hi hs hL hm hn2 hc2 HbL hp1 hpl hz1 hz2
  go_enter Tryz.func39, Tryz.ntmps39
  go_wp2_with fail
  refine HH.out.mono ?_
  rintro e w0 ⟨rfl, rfl⟩
  clear HH
  go_wp2_with (first | refine wpList_built rfl 105 #[(0, .tmp 19)] rfl _ (built_wr _) ?_ | refine wpList_alloc_told rfl 105 rfl _ wr_zero ?_)
  intro w1 Hw1
  have HB1 : Hid (Below w.heap.size w w1) := by rw [Hw1.out]; exact (Below.refl _ _).alloc (Nat.le_refl _) _
  have HG1 : Hid (w1.heap[w.heap.size]? = some (.cells (wcel (0, zero)).toArray 105 (0, 0))) := by rw [Hw1.out]; exact heap_alloc_new w _
  clear Hw1
  go_wp2_with (first | with_reducible refine wpList_store_row rfl 105 (.tmp 7) (.tmp 20) rfl w.heap.size (Value.int .i64 i :: cels zero).toArray rfl rfl 105 _ HG1.out Hst1.out Hst2.out Hst3.out ?_ | with_reducible refine wpList_copy_splice rfl (.tmp 22) (.tmp 23) 64 64 rfl 5 Tryz.underlying64 u8_one (some ⟨w.heap.size, 1, none⟩) A 64 64 64 c rfl rfl w.heap.size 1 (Value.int .i64 i :: cels zero) 105 ?k1 (cels s) ?k2 ?k3 ?k4 (cels_one s) w.heap.size w ?k5 (Nat.le_refl _) ?k6)
  case k1 => exact setRow_heap w1 _ _ _ _ _ HG1.out
  case k2 => rw [Hcs.out]; rfl
  case k3 =>
    intro h0
    obtain ⟨b, o, rfl, hbb, hc⟩ := Hb.out (by rintro rfl; simp [cels] at h0)
    first | refine ⟨rfl, _, rfl, fun j u hu => ?_⟩ | refine ⟨_, rfl, fun j u hu => ?_⟩ | refine fun j u hu => ?_
    obtain ⟨x, hx, rfl⟩ := cels_get s j u hu
    try rw [Addr.add_mid]
    rw [cell_setRow_other _ _ _ _ (by exact Nat.ne_of_lt hbb), HB1.out.cell hbb]
    exact hc j x hx
  case k4 => simp [Hcs.out, n64]
  case k5 => exact below_setRow HB1.out (Nat.le_refl _) _
  case k6 =>
    intro w4 hg4 hb4
    have hg4' := hg4.out
    rw [splice_tail _ _ _ (by rw [Hcs.out, n64])] at hg4'
    have HG4 : Hid (w4.heap[w.heap.size]? = some (.cells (wcel (i, s)).toArray 105 (0, 0))) := hg4'
    have HB4 := hide hb4
    have HR : Hid (w4.drew.rangeAt w.heap.size 0 (wcel (i, s))) := fun j u hu => by
      show w4.cell? _ = _
      rw [Nat.zero_add, cell_of_row w4 _ j _ _ _ HG4.out]
      simpa using hu
    have hp4 : w4.cell? ⟨p, 1, none⟩ = some (.slice B m d) := (hb4.cell (p := ⟨p, 1, none⟩) Hpl.out).trans Hp1.out
    have HBW : Hid (Below w.heap.size w (w4.drew.alloc (.cells (wcel (i, s)).toArray 105))) := (Below.drew hb4).alloc hb4.size _
    have hp4' : (w4.alloc (.cells (wcel (i, s)).toArray 105)).cell? ⟨p, 1, none⟩ = some (.slice B m d) := by rw [World.cell?_alloc_lt _ _ _ (Nat.lt_of_lt_of_le Hpl.out hb4.size)]; exact hp4
    have HO : Hid ((w4.drew.alloc (.cells (wcel (i, s)).toArray 105)).ownsRow 0 105 65 (.slice B m d) m (wcels L)) := by
      have := own_below HO0.out HBW.out
      rw [HM.out] at this
      exact this
    have Hsz := hide (show (Tryz.prog.info? 105).map (·.size) = some (wcel (i, s)).length by rw [wr_size, Hwl.out])
    have Hn1 := hide (show ¬ 1 * i0.size > 2 ^ 24 by rw [Hz1.out]; decide)
    have Hn2 := hide (show ¬ 1 * i0.size = 0 by rw [Hz1.out]; decide)
    have Hfl := hide (show Instr.fill (fun i => some (i * i0.size, i0.size)) ((Array.range (1 * i0.size)).map ((Value.agg (wcel (0, zero)).toArray).cells[· % (Value.agg (wcel (0, zero)).toArray).cells.size]!)) [(0, .agg (wcel (i, s)).toArray)] = some (wcel (i, s)).toArray by rw [Hz1.out]; exact fill_whole 65 _ _ (by simp) Hwl.out)
    have Hl1 : Hid ((wcel (i, s)).length = 1 * 65) := Hwl.out
    have HN : Hid (∀ j u, (wcel (i, s))[j]? = some u → (w4.drew.alloc (.cells (wcel (i, s)).toArray 105)).cell? ((⟨w4.heap.size, 0, none⟩ : Addr).add j) = some u) := fun j u hu => by
      rw [Addr.add_mid, Nat.zero_add]
      show (w4.drew.alloc _).cell? ⟨w4.drew.heap.size, j, none⟩ = _
      rw [cell_of_row _ _ j _ _ _ (heap_alloc_new w4.drew _)]
      simpa using hu
    have Hm1 : Hid (m + 1 ≤ maxLen) := by have := HLm.out; show m + 1 ≤ maxLen; unfold maxLen; omega
    have Hm2 : Hid ((m + 1) * 72 ≤ 140737488355328) := by have := HLm.out; show (m + 1) * 72 ≤ _; omega
    clear hg4 hg4' hb4 HG1 HB1 HG4
    go_wp2
    refine wp_region_any (by kernel_rfl) ?_
    change wpAny _ _ _ _ _ _ _ (World.drew _)
    refine wpAny_take (i := 0) (oi := ⟨some 25, _, _, _, _, _⟩) (v := ?_) rfl (by kernel_rfl) (by kernel_rfl) (by kernel_rfl) (fun _ _ _ h => h) (Or.inl ⟨by rfl, ?_⟩) ?_
    rotate_left 1
    · (intro w; go_simp; try with_reducible rfl)
    simp only [Act.put, List.setIfInBounds_toArray, List.set_cons_zero, List.set_cons_succ]
    refine wpAny_take (i := 1) (oi := ⟨some 26, _, _, _, _, _⟩) (v := ?_) rfl (by kernel_rfl) (by kernel_rfl) (by kernel_rfl) (fun _ _ _ h => h) (Or.inl ⟨by rfl, ?_⟩) ?_
    rotate_left 1
    · (intro w; go_simp; try with_reducible rfl)
    simp only [Act.put, List.setIfInBounds_toArray, List.set_cons_zero, List.set_cons_succ]
    refine wpAny_take (i := 2) (oi := ⟨some 27, _, _, _, _, _⟩) (v := ?_) rfl (by kernel_rfl) (by kernel_rfl) (by kernel_rfl) (fun _ _ _ h => h) (Or.inl ⟨by rfl, ?_⟩) ?_
    rotate_left 1
    · (intro w; go_simp; try with_reducible rfl)
    simp only [Act.put, List.setIfInBounds_toArray, List.set_cons_zero, List.set_cons_succ]
    refine wpAny_take (i := 3) (oi := ⟨some 28, _, _, _, _, _⟩) (v := ?_) rfl (by kernel_rfl) (by kernel_rfl) (by kernel_rfl) (fun _ _ _ h => h) (Or.inl ⟨by rfl, ?_⟩) ?_
    rotate_left 1
    · (intro w; go_simp; try with_reducible rfl)
    simp only [Act.put, List.setIfInBounds_toArray, List.set_cons_zero, List.set_cons_succ]
    refine wpAny_ready (rs := [4, 5]) (by kernel_rfl) (by simp) ?_
    refine AllReady.cons (o := ⟨some 29, _, _, _, _, _⟩) rfl (fun K hK => ?_) (AllReady.cons (o := ⟨some 30, _, _, _, _, _⟩) rfl (fun K hK => ?_) AllReady.nil)
    · go_simp
      refine hK _ _ ?_
      clear hK K
      refine wpAny_ready (rs := [5]) (by kernel_rfl) (by simp) ?_
      refine AllReady.cons (o := ⟨some 30, _, _, _, _, _⟩) rfl (fun K hK => ?_) AllReady.nil
      refine step_wp rfl (wp_load_mid 105 (.tmp 7) rfl w.heap.size 0 rfl (wcel (i, s)) _ HR.out Tryz.underlying105 rfl Hsz.out ?_)
      refine hK _ _ ?_
      clear hK K
      refine wpAny_ready (rs := [6]) (by kernel_rfl) (by simp) ?_
      refine AllReady.cons (o := ⟨some 31, _, _, _, _, _⟩) rfl (fun K hK => ?_) AllReady.nil
      refine step_wp rfl (wp_buildSlice 71 105 1 #[(0, .tmp 30)] rfl (wcel (i, s)).toArray i0 (.agg (wcel (0, zero)).toArray) Tryz.underlying71 hi0 hz0 Hn1.out Hn2.out (by simp only [List.map_toArray, List.map_cons, List.map_nil]; exact Hfl.out) ?_)
      refine hK _ _ ?_
      clear hK K
      refine wpAny_ready (rs := [7]) (by kernel_rfl) (by simp) ?_
      refine AllReady.cons (o := ⟨some 32, _, _, _, _, _⟩) rfl (fun K hK => ?_) AllReady.nil
      refine step_append_lies _ rfl (.tmp 29) (.tmp 31) 71 rfl 0 105 i0 (.agg (wcel (0, zero)).toArray) 65 72 Tryz.underlying71 hi0 hz0 Hz1.out Hz2.out Hz3.out (by decide) (.slice B m d) m (wcels L) rfl HO.out ⟨w4.heap.size, 0, none⟩ 1 1 (wcel (i, s)) rfl Hl1.out HN.out (wcel_one _) (by decide) Hm1.out Hm2.out (Nat.zero_le _) _ rfl ?_
      intro g2 cap w5 hown5 hgr5 hor5 hlt5
      have HP := hide (wrote HD.out HBW.out hgr5 hown5 hor5 HM.out Hi.out Hs.out)
      have hc5 : w5.cell? ⟨p, 1, none⟩ = some (.slice B m d) := by simp [World.cell?, hp5 HD.out HBW.out hgr5]
      have hf5 : w5.frozen? ⟨p, 1, none⟩ = false := by simp [World.frozen?, hp5 HD.out HBW.out hgr5]
      clear hown5 hgr5 hor5 hlt5
      refine hK _ _ ?_
      clear hK K
      refine wpAny_take (i := 8) (oi := ⟨some 33, _, _, _, _, _⟩) (v := ?_) rfl (by kernel_rfl) (by kernel_rfl) (by kernel_rfl) (fun _ _ _ h => h) (Or.inl ⟨by rfl, ?_⟩) ?_
      rotate_left 1
      · (intro w; go_simp; try with_reducible rfl)
      simp only [Act.put, List.setIfInBounds_toArray, List.set_cons_zero, List.set_cons_succ]
      refine wpAny_take (i := 9) (oi := ⟨some 34, _, _, _, _, _⟩) (v := ?_) rfl (by kernel_rfl) (by kernel_rfl) (by kernel_rfl) (fun _ _ _ h => h) (Or.inl ⟨by rfl, ?_⟩) ?_
      rotate_left 1
      · (intro w; go_simp; try with_reducible rfl)
      simp only [Act.put, List.setIfInBounds_toArray, List.set_cons_zero, List.set_cons_succ]
      refine wpAny_ready (rs := [10]) (by kernel_rfl) (by simp) ?_
      refine AllReady.cons (o := ⟨none, _, _, _, _, _⟩) rfl (fun K hK => ?_) AllReady.nil
      go_simp
      refine hK _ _ ?_
      clear hK K
      refine wpAny_done (by kernel_rfl) ?_ _
      go_wp2
      go_ret
      exact ⟨rfl, HP.out⟩
    · refine step_wp rfl (wp_load_mid 105 (.tmp 7) rfl w.heap.size 0 rfl (wcel (i, s)) _ HR.out Tryz.underlying105 rfl Hsz.out ?_)
      refine hK _ _ ?_
      clear hK K
      refine wpAny_ready (rs := [4, 6]) (by kernel_rfl) (by simp) ?_
      refine AllReady.cons (o := ⟨some 29, _, _, _, _, _⟩) rfl (fun K hK => ?_) (AllReady.cons (o := ⟨some 31, _, _, _, _, _⟩) rfl (fun K hK => ?_) AllReady.nil)
      · go_simp
        refine hK _ _ ?_
        clear hK K
        refine wpAny_ready (rs := [6]) (by kernel_rfl) (by simp) ?_
        refine AllReady.cons (o := ⟨some 31, _, _, _, _, _⟩) rfl (fun K hK => ?_) AllReady.nil
        refine step_wp rfl (wp_buildSlice 71 105 1 #[(0, .tmp 30)] rfl (wcel (i, s)).toArray i0 (.agg (wcel (0, zero)).toArray) Tryz.underlying71 hi0 hz0 Hn1.out Hn2.out (by simp only [List.map_toArray, List.map_cons, List.map_nil]; exact Hfl.out) ?_)
        refine hK _ _ ?_
        clear hK K
        refine wpAny_ready (rs := [7]) (by kernel_rfl) (by simp) ?_
        refine AllReady.cons (o := ⟨some 32, _, _, _, _, _⟩) rfl (fun K hK => ?_) AllReady.nil
        refine step_append_lies _ rfl (.tmp 29) (.tmp 31) 71 rfl 0 105 i0 (.agg (wcel (0, zero)).toArray) 65 72 Tryz.underlying71 hi0 hz0 Hz1.out Hz2.out Hz3.out (by decide) (.slice B m d) m (wcels L) rfl HO.out ⟨w4.heap.size, 0, none⟩ 1 1 (wcel (i, s)) rfl Hl1.out HN.out (wcel_one _) (by decide) Hm1.out Hm2.out (Nat.zero_le _) _ rfl ?_
        intro g2 cap w5 hown5 hgr5 hor5 hlt5
        have HP := hide (wrote HD.out HBW.out hgr5 hown5 hor5 HM.out Hi.out Hs.out)
        have hc5 : w5.cell? ⟨p, 1, none⟩ = some (.slice B m d) := by simp [World.cell?, hp5 HD.out HBW.out hgr5]
        have hf5 : w5.frozen? ⟨p, 1, none⟩ = false := by simp [World.frozen?, hp5 HD.out HBW.out hgr5]
        clear hown5 hgr5 hor5 hlt5
        refine hK _ _ ?_
        clear hK K
        refine wpAny_take (i := 8) (oi := ⟨some 33, _, _, _, _, _⟩) (v := ?_) rfl (by kernel_rfl) (by kernel_rfl) (by kernel_rfl) (fun _ _ _ h => h) (Or.inl ⟨by rfl, ?_⟩) ?_
        rotate_left 1
        · (intro w; go_simp; try with_reducible rfl)
        simp only [Act.put, List.setIfInBounds_toArray, List.set_cons_zero, List.set_cons_succ]
        refine wpAny_take (i := 9) (oi := ⟨some 34, _, _, _, _, _⟩) (v := ?_) rfl (by kernel_rfl) (by kernel_rfl) (by kernel_rfl) (fun _ _ _ h => h) (Or.inl ⟨by rfl, ?_⟩) ?_
        rotate_left 1
        · (intro w; go_simp; try with_reducible rfl)
        simp only [Act.put, List.setIfInBounds_toArray, List.set_cons_zero, List.set_cons_succ]
        refine wpAny_ready (rs := [10]) (by kernel_rfl) (by simp) ?_
        refine AllReady.cons (o := ⟨none, _, _, _, _, _⟩) rfl (fun K hK => ?_) AllReady.nil
        go_simp
        refine hK _ _ ?_
        clear hK K
        refine wpAny_done (by kernel_rfl) ?_ _
        go_wp2
        go_ret
        exact ⟨rfl, HP.out⟩
      · refine step_wp rfl (wp_buildSlice 71 105 1 #[(0, .tmp 30)] rfl (wcel (i, s)).toArray i0 (.agg (wcel (0, zero)).toArray) Tryz.underlying71 hi0 hz0 Hn1.out Hn2.out (by simp only [List.map_toArray, List.map_cons, List.map_nil]; exact Hfl.out) ?_)
        refine hK _ _ ?_
        clear hK K
        refine wpAny_ready (rs := [4]) (by kernel_rfl) (by simp) ?_
        refine AllReady.cons (o := ⟨some 29, _, _, _, _, _⟩) rfl (fun K hK => ?_) AllReady.nil
        go_simp
        refine hK _ _ ?_
        clear hK K
        refine wpAny_ready (rs := [7]) (by kernel_rfl) (by simp) ?_
        refine AllReady.cons (o := ⟨some 32, _, _, _, _, _⟩) rfl (fun K hK => ?_) AllReady.nil
        refine step_append_lies _ rfl (.tmp 29) (.tmp 31) 71 rfl 0 105 i0 (.agg (wcel (0, zero)).toArray) 65 72 Tryz.underlying71 hi0 hz0 Hz1.out Hz2.out Hz3.out (by decide) (.slice B m d) m (wcels L) rfl HO.out ⟨w4.heap.size, 0, none⟩ 1 1 (wcel (i, s)) rfl Hl1.out HN.out (wcel_one _) (by decide) Hm1.out Hm2.out (Nat.zero_le _) _ rfl ?_
        intro g2 cap w5 hown5 hgr5 hor5 hlt5
        have HP := hide (wrote HD.out HBW.out hgr5 hown5 hor5 HM.out Hi.out Hs.out)
        have hc5 : w5.cell? ⟨p, 1, none⟩ = some (.slice B m d) := by simp [World.cell?, hp5 HD.out HBW.out hgr5]
        have hf5 : w5.frozen? ⟨p, 1, none⟩ = false := by simp [World.frozen?, hp5 HD.out HBW.out hgr5]
        clear hown5 hgr5 hor5 hlt5
        refine hK _ _ ?_
        clear hK K
        refine wpAny_take (i := 8) (oi := ⟨some 33, _, _, _, _, _⟩) (v := ?_) rfl (by kernel_rfl) (by kernel_rfl) (by kernel_rfl) (fun _ _ _ h => h) (Or.inl ⟨by rfl, ?_⟩) ?_
        rotate_left 1
        · (intro w; go_simp; try with_reducible rfl)
        simp only [Act.put, List.setIfInBounds_toArray, List.set_cons_zero, List.set_cons_succ]
        refine wpAny_take (i := 9) (oi := ⟨some 34, _, _, _, _, _⟩) (v := ?_) rfl (by kernel_rfl) (by kernel_rfl) (by kernel_rfl) (fun _ _ _ h => h) (Or.inl ⟨by rfl, ?_⟩) ?_
        rotate_left 1
        · (intro w; go_simp; try with_reducible rfl)
        simp only [Act.put, List.setIfInBounds_toArray, List.set_cons_zero, List.set_cons_succ]
        refine wpAny_ready (rs := [10]) (by kernel_rfl) (by simp) ?_
        refine AllReady.cons (o := ⟨none, _, _, _, _, _⟩) rfl (fun K hK => ?_) AllReady.nil
        go_simp
        refine hK _ _ ?_
        clear hK K
        refine wpAny_done (by kernel_rfl) ?_ _
        go_wp2
        go_ret
        exact ⟨rfl, HP.out⟩

end Go.Proofs.YtmfgcinikopgnaaGreatDoor.Dk

/-
  The contract of disk's Crash and Flush: of the loose writes those that are kept are done, in their order; nothing but the disk's own memory is changed.
-/
namespace Go.Proofs.YtmfgcinikopgnaaGreatDoor.Dk
open Go.RowKit
open Pk Sm Fa

theorem wpList_store_row_told {P : Program} {ops : Array Oper} {rest : List Oper} {o : Oper} {a : Act} {w : World} {Q : Exit → Act → World → Prop} (hgd : o.guard = none) (ty : TypeId) (x y : Operand) (ho : o.op = .store ty x y)
    (g : Nat) (cells : Array Value) (hx : a.eval x = .pointer (some ⟨g, 0, none⟩)) (hy : a.eval y = .agg cells)
    (t : TypeId) (old : Array Value) (hg : w.heap[g]? = some (.cells old t (0, 0))) (hi : (P.info? ty).map (·.size) = some cells.size)
    (hold : old.size = cells.size) (h1 : cells.all (·.oneCell') = true)
    (h : ∀ w', Hid (w' = w.setRow g cells) → wpList P ops Q rest (a.put o.dst undef) w') : wpList P ops Q (o :: rest) a w :=
  wpList_store_row hgd ty x y ho g cells hx hy t old hg hi hold h1 (h _ rfl)

section
variable {w w' : World} {G G2 : Nat → Prop} {p : Nat} {S : List Sec} {L : List Wr} {F X : Value}
theorem DskAt.kept (h : DskAt w G p S L F X) (hk : Kept G2 w w') (hd : ∀ k, G k → ¬ G2 k) : DskAt w' G p S L F X := by
  obtain ⟨h1, h2, h3, h4, h5, h6, h7, h8⟩ := h
  exact ⟨(hk.block p (h7 p h4) (hd p h4)).trans h1, own_same h2 (fun k hb => hk.block k (h7 k (h5 k hb).1) (hd k (h5 k hb).1)), own_same h3 (fun k hb => hk.block k (h7 k (h6 k hb).1) (hd k (h6 k hb).1)), h4, h5, h6, fun k hg => Nat.lt_of_lt_of_le (h7 k hg) hk.size, h8⟩
theorem DskAt.below (h : DskAt w G p S L F X) (hb : Below w.heap.size w w') : DskAt w' G p S L F X :=
  h.kept (Kept.of_below (G := fun _ => False) hb) (fun _ _ h => h)
theorem take_put {T U : List Value} {n i : Nat} {b : List Value} (hU : T.take (n * 64) = U) (hi : i < n) (hb : b.length = 64) (hT : n * 64 ≤ T.length) :
    (T.take (i * 64) ++ (b ++ T.drop (i * 64 + 64))).take (n * 64) = U.take (i * 64) ++ (b ++ U.drop (i * 64 + 64)) := by
  subst hU
  have h1 : i * 64 + 64 ≤ n * 64 := by omega
  rw [List.take_append, List.take_append, List.take_take, List.take_take, List.length_take, hb]
  rw [show min (n * 64) (i * 64) = i * 64 by omega, show min (i * 64) (n * 64) = i * 64 by omega, show min (i * 64) T.length = i * 64 by omega]
  rw [List.take_of_length_le (l := b) (by omega), List.drop_take, show n * 64 - i * 64 - 64 = n * 64 - (i * 64 + 64) by omega]
theorem DskAt.put {g n c i : Nat} {cur : Array Value} {b : Sec} (h : DskAt w G p S L (.slice (some ⟨g, 0, none⟩) n c) X) (hg : w.heap[g]? = some (.cells cur 103 (0, 0))) (hi : i < S.length) (hb : b.length = 64) :
    DskAt (w.setRow g (cur.toList.take (i * 64) ++ (cels b ++ cur.toList.drop (i * 64 + (cels b).length))).toArray) G p (S.set i b) L (.slice (some ⟨g, 0, none⟩) n c) X := by
  obtain ⟨h1, h2, h3, h4, h5, h6, h7, h8, h9⟩ := h
  have hgp := (h5 g rfl).2
  have hcb : (cels b).length = 64 := by rw [cels_length, hb]
  refine ⟨by rw [setRow_other _ _ _ _ (Ne.symm hgp)]; exact h1, ?_, own_same h3 (fun k hk => setRow_other _ _ _ _ (fun e => (h6 k hk).2.2 (by rw [e]; rfl))), h4, h5, h6, fun k hk => by rw [setRow_size]; exact h7 k hk, h8.set i hb, by rw [List.length_set]; exact h9⟩
  have hlen : (scels S).length = S.length * 64 := flat_len S h8.cels
  rcases h2.2 with ⟨e, _⟩ | ⟨g', cap, cur', e, _, hg', hn, hm, hs, htk⟩
  · cases e
  · obtain ⟨rfl, rfl, rfl⟩ : g = g' ∧ n = S.length ∧ c = cap := by
      simp only [Value.slice.injEq, Option.some.injEq, Addr.mk.injEq, and_true] at e
      exact e
    obtain rfl : cur = cur' := by
      have := hg.symm.trans hg'
      simpa using this
    have hcl : cur.toList.length = c * 64 := by rw [Array.length_toList, hs]
    refine ⟨?_, Or.inr ⟨g, c, _, by rw [List.length_set], Nat.zero_le _, setRow_heap _ _ _ _ _ _ hg, by rw [List.length_set]; exact hn, hm, ?_, ?_⟩⟩
    · rw [List.length_set]
      rw [show scels (S.set i b) = (S.set i b).flatMap cels from rfl, flat_len (m := 64) _ (h8.set i hb).cels, List.length_set]
    · rw [hcb]
      simp [hcb]
      omega
    · rw [List.length_set, hcb, List.toList_toArray, take_put htk hi hcb (by rw [hcl]; omega)]
      exact flat_set S h8.cels i b hi hcb
end

theorem Kept.setRow {w w2 : World} {G : Nat → Prop} {g : Nat} (h : Kept G w w2) (hg : G g) (cs : Array Value) : Kept G w (w2.drew.setRow g cs) :=
  ⟨h.os, h.tape, h.output, by rw [setRow_size]; exact h.size, fun k hk hn => by rw [setRow_other _ _ _ _ (fun e => hn (by rw [e]; exact hg))]; exact h.block k hk hn⟩
theorem DskAt.clear {w : World} {G : Nat → Prop} {p : Nat} {S : List Sec} {L : List Wr} {F X : Value} (h : DskAt w G p S L F X) : DskAt (w.setCell ⟨p, 1, none⟩ (.slice none 0 0)) G p S [] F (.slice none 0 0) := by
  obtain ⟨h1, h2, h3, h4, h5, h6, h7, h8, h9⟩ := h
  refine ⟨by rw [heap_setCell_same w p 1 _ _ _ h1]; rfl, own_same h2 (fun k hk => heap_setCell_other _ _ _ _ (h5 k hk).2), World.ownsRow_nil _ _ _ _, h4, h5, fun k hk => by simp [Value.ownBlock] at hk, fun k hk => ?_, h8, fun x hx => by cases hx⟩
  have := h7 k hk
  simpa [World.setCell] using this
theorem Kept.clear {w w2 : World} {G : Nat → Prop} {p : Nat} (h : Kept G w w2) (hg : G p) (v : Value) : Kept G w (w2.setCell ⟨p, 1, none⟩ v) :=
  ⟨h.os, h.tape, h.output, by have := h.size; simpa [World.setCell] using this, fun k hk hn => by rw [heap_setCell_other _ _ _ _ (fun e => hn (by have e' : k = p := e; rw [e']; exact hg))]; exact h.block k hk hn⟩
theorem bit_and64 (t j : Nat) (h : t < 18446744073709551616) : bits .and .u64 ((t : Int) / 2 ^ j) 1 = if t.testBit j then 1 else 0 := by
  have h2 : t / 2 ^ j < 18446744073709551616 := Nat.lt_of_le_of_lt (Nat.div_le_self _ _) h
  have h1 : ((t : Int) / 2 ^ j) = ((t / 2 ^ j : Nat) : Int) := by norm_cast
  have h3 := u64_and_nat (t / 2 ^ j) 1 h2 (by omega)
  rw [nat_mask1] at h3
  rw [h1]
  refine h3.trans ?_
  rw [Nat.testBit_eq_decide_div_mod_eq]
  have h4 : t / 2 ^ j % 2 < 2 := Nat.mod_lt _ (by omega)
  by_cases h5 : t / 2 ^ j % 2 = 1
  · simp [h5]
  · have h6 : t / 2 ^ j % 2 = 0 := by omega
    simp [h6]
theorem crash_yes {K k : Nat} {x : Wr} {L : List Wr} {S : List Sec} (h : K.testBit (k % 64) = true) : crash K k (x :: L) S = crash K (k + 1) L (done S x) := by
  show crash K (k + 1) L (if K.testBit (k % 64) then done S x else S) = _
  rw [if_pos h]
theorem crash_no {K k : Nat} {x : Wr} {L : List Wr} {S : List Sec} (h : K.testBit (k % 64) = false) : crash K k (x :: L) S = crash K (k + 1) L S := by
  show crash K (k + 1) L (if K.testBit (k % 64) then done S x else S) = _
  rw [if_neg (by rw [h]; exact Bool.false_ne_true)]
theorem crash_all : ∀ (L : List Wr) (k : Nat) (S : List Sec), crash 18446744073709551615 k L S = all S L
  | [], _, _ => rfl
  | x :: L, k, S => by
    rw [crash_yes (by rw [show (18446744073709551615 : Nat) = 2 ^ 64 - 1 by decide, Nat.testBit_two_pow_sub_one]; simp; omega), crash_all L]
    rfl

set_option maxRecDepth 100000 in
set_option maxHeartbeats 2000000 in
theorem Crash_any (w : World) (G : Nat → Prop) (p K : Nat) (S : List Sec) (L : List Wr) (h : Dsk w G p S L) (hK : K < 18446744073709551616) (hL : L.length ≤ 1000000) :
    Calls Tryz.prog 19 #[.pointer (some ⟨p, 0, none⟩), .int .u64 K] w fun e w' => e = .returned (.tuple #[]) ∧ Post w G p (crash K 0 L S) [] w' := by
  obtain ⟨F, X, hd⟩ := h
  obtain ⟨B, d, rfl, hn2, hc2, hX⟩ := row_form hd.2.2.1
  obtain ⟨A, c, rfl, _, _, _⟩ := row_form hd.2.1
  obtain ⟨m, hm⟩ : ∃ m, L.length = m := ⟨_, rfl⟩
  obtain ⟨n, hn⟩ : ∃ n, S.length = n := ⟨_, rfl⟩
  rw [hm] at hd hL hn2 hX
  rw [hn] at hd
  have hp1 : w.cell? ⟨p, 1, none⟩ = some (.slice B m d) := by simp [World.cell?, hd.1]
  have HD := hide hd
  have HM := hide hm
  have HN := hide hn
  have HLm := hide hL
  have HK := hide hK
  clear hd hX hm hn2 hc2 hL hn hK
  go_enter Tryz.func19, Tryz.ntmps19
  go_wp2
  clear hp1
  go_loopw [13] (fun j wr => ∃ (k : Nat) (Sk : List Sec), k ≤ m ∧ j = .int .i64 k ∧ Hid (crash K k (L.drop k) Sk = crash K 0 L S) ∧ Hid (Sk.length = n) ∧ Hid (DskAt wr G p Sk L (.slice A n c) (.slice B m d)) ∧ Hid (Kept G w wr)) (fun j _ => m - (intOf j).toNat)
  case atStart => exact ⟨0, S, Nat.zero_le _, rfl, rfl, HN.out, HD.out, Kept.refl _ _⟩
  case round =>
    obtain ⟨k, Sk, hk, rfl, hcr, hlen, hdk, hkept⟩ := hrel
    rcases Nat.lt_or_ge k m with hlt | hge
    · obtain ⟨x, hx⟩ : ∃ x, L[k]? = some x := ⟨_, List.getElem?_eq_getElem (by rw [HM.out]; exact hlt)⟩
      obtain ⟨B', d', e, _, _, hX⟩ := row_form hdk.out.2.2.1
      simp only [Value.slice.injEq] at e
      obtain ⟨rfl, -, rfl⟩ := e
      obtain ⟨b, rfl, _, hblt, hrg⟩ := hX (by rw [HM.out]; omega)
      have Hfit := hide (hdk.out.2.2.2.2.2.2.2.2 x (List.mem_of_getElem? hx))
      obtain ⟨A', c', e, _, _, hF⟩ := row_form hdk.out.2.1
      simp only [Value.slice.injEq] at e
      obtain ⟨rfl, -, rfl⟩ := e
      obtain ⟨g, rfl, _, hglt, _⟩ := hF (by have := Hfit.out.1; omega)
      have hxn : (x.1 : Int) < (n : Int) := by have := Hfit.out.1; rw [hlen.out] at this; omega
      have HR := hide (range_piece hrg hdk.out.2.2.2.2.2.2.2.2.cels hx)
      have Hwl := hide (show (wcel x).length = 65 by simp [wcel, cels_length, Hfit.out.2])
      have hkm : (k : Int) < (m : Int) := by omega
      have Hlt := hide hlt
      have hlim : (k : Int) < 1000001 := by have := HLm.out; omega
      have Hsz := hide (show (Tryz.prog.info? 105).map (·.size) = some (wcel x).length by rw [wr_size, Hwl.out])
      have Hsz2 := hide (show (Tryz.prog.info? 105).map (·.size) = some (wcel x).toArray.size by rw [List.size_toArray, wr_size, Hwl.out])
      have Hst := hide (show (wcel (0, zero)).toArray.size = (wcel x).toArray.size by simp [Hwl.out]; simp [wcel, n64])
      have Hs64 := hide (show (Tryz.prog.info? 103).map (·.size) = some (cels x.2).length by rw [sec_size, cels_length, Hfit.out.2])
      have Hdr := hide (drop_cons hx)
      clear hx hrg hblt hX hF hglt
      go_wp2_with (first | with_reducible refine wpList_load_mid rfl 105 (.tmp 16) rfl b (k * 65) rfl (wcel x) _ HR.out Tryz.underlying105 rfl Hsz.out ?_ | refine wpList_alloc_told rfl 105 rfl _ wr_zero ?_)
      intro w1 Hw1
      have HB1 : Hid (Below wr.heap.size wr w1) := by rw [Hw1.out]; exact (Below.refl _ _).alloc (Nat.le_refl _) _
      have HG1 : Hid (w1.heap[wr.heap.size]? = some (.cells (wcel (0, zero)).toArray 105 (0, 0))) := by rw [Hw1.out]; exact heap_alloc_new wr _
      clear Hw1
      go_wp2_with (with_reducible refine wpList_store_row_told rfl 105 (.tmp 5) (.tmp 17) rfl wr.heap.size (wcel x).toArray rfl rfl 105 _ HG1.out Hsz2.out Hst.out (all_oneCell_toArray (wcel_one x)) ?_)
      intro w2 Hw2
      have HB2 : Hid (Below wr.heap.size wr w2) := by rw [Hw2.out]; exact below_setRow HB1.out (Nat.le_refl _) _
      have HG2 : Hid (w2.heap[wr.heap.size]? = some (.cells (wcel x).toArray 105 (0, 0))) := by rw [Hw2.out]; exact setRow_heap _ _ _ _ _ _ HG1.out
      have HD2 := hide (hdk.out.below HB2.out)
      have HK2 := hide (hkept.out.trans (Grew.refl _ _) (Kept.of_below HB2.out))
      have he := bit_and64 K (k % 64) HK.out
      clear Hw2 HG1 HB1 hdk hkept
      cases hb : K.testBit (k % 64) with
      | false =>
        rw [hb, if_neg (by exact Bool.false_ne_true)] at he
        have Hcr2 := hide (show crash K (k + 1) (L.drop (k + 1)) Sk = crash K 0 L S by rw [← hcr.out, Hdr.out, crash_no hb])
        clear hb
        go_wp2
        go_roundw
        case rel => exact ⟨k + 1, Sk, Hlt.out, by go_num, Hcr2.out, hlen.out, HD2.out, HK2.out⟩
        case measure => have := Hlt.out; simp [intOf]; omega
      | true =>
        rw [hb, if_pos rfl] at he
        have Hcr2 := hide (show crash K (k + 1) (L.drop (k + 1)) (done Sk x) = crash K 0 L S by rw [← hcr.out, Hdr.out, crash_yes hb])
        have Hlen2 := hide (show (done Sk x).length = n by rw [done, List.length_set]; exact hlen.out)
        have hp0 : w2.cell? ⟨p, 0, none⟩ = some (.slice (some ⟨g, 0, none⟩) n c) := by simp [World.cell?, HD2.out.1]
        have hat : w2.cell? ⟨wr.heap.size, 0, none⟩ = some (.int .i64 (x.1 : Int)) := by simp [World.cell?, HG2.out, wcel]
        have HT : Hid (w2.drew.rangeAt wr.heap.size 1 (cels x.2)) := fun j u hu => by
          show w2.cell? _ = _
          rw [cell_of_row w2 _ _ _ _ _ HG2.out]
          simpa [wcel, Nat.add_comm 1] using hu
        obtain ⟨cur, hcur, hcs⟩ : ∃ cur, w2.heap[g]? = some (.cells cur 103 (0, 0)) ∧ n * 64 ≤ cur.size := by
          rcases HD2.out.2.1.2 with ⟨e, _⟩ | ⟨g', cap, cur, e, _, hg', h3, h4, h5, h6⟩
          · cases e
          · simp only [Value.slice.injEq, Option.some.injEq, Addr.mk.injEq, and_true] at e
            obtain ⟨rfl, h7, rfl⟩ := e
            exact ⟨cur, hg', by rw [h5, h7]; exact Nat.mul_le_mul_right _ h3⟩
        have HGg := hide hcur
        have Hft := hide (show x.1 * 64 + (cels x.2).length ≤ cur.size by rw [cels_length, Hfit.out.2]; omega)
        have HP := hide (DskAt.put (w := w2.drew) (i := x.1) (b := x.2) HD2.out hcur Hfit.out.1 Hfit.out.2)
        have HKP := hide (HK2.out.setRow (HD2.out.2.2.2.2.1 g rfl).1 (cur.toList.take (x.1 * 64) ++ (cels x.2 ++ cur.toList.drop (x.1 * 64 + (cels x.2).length))).toArray)
        clear hb hcur hcs
        go_wp2
        refine wp_region_any (by kernel_rfl) ?_
        change wpAny _ _ _ _ _ _ _ (World.drew _)
        refine wpAny_take (i := 0) (oi := ⟨some 24, _, _, _, _, _⟩) (v := ?_) rfl (by kernel_rfl) (by kernel_rfl) (by kernel_rfl) (fun _ _ _ h => h) (Or.inl ⟨by rfl, ?_⟩) ?_
        rotate_left 1
        · (intro w; go_simp; try with_reducible rfl)
        simp only [Act.put, List.setIfInBounds_toArray, List.set_cons_zero, List.set_cons_succ]
        refine wpAny_take (i := 1) (oi := ⟨some 25, _, _, _, _, _⟩) (v := ?_) rfl (by kernel_rfl) (by kernel_rfl) (by kernel_rfl) (fun _ _ _ h => h) (Or.inl ⟨by rfl, ?_⟩) ?_
        rotate_left 1
        · (intro w; go_simp; try with_reducible rfl)
        simp only [Act.put, List.setIfInBounds_toArray, List.set_cons_zero, List.set_cons_succ]
        refine wpAny_take (i := 2) (oi := ⟨some 26, _, _, _, _, _⟩) (v := ?_) rfl (by kernel_rfl) (by kernel_rfl) (by kernel_rfl) (fun _ _ _ h => h) (Or.inl ⟨by rfl, ?_⟩) ?_
        rotate_left 1
        · (intro w; go_simp; try with_reducible rfl)
        simp only [Act.put, List.setIfInBounds_toArray, List.set_cons_zero, List.set_cons_succ]
        refine wpAny_take (i := 4) (oi := ⟨some 28, _, _, _, _, _⟩) (v := ?_) rfl (by kernel_rfl) (by kernel_rfl) (by kernel_rfl) (fun _ _ _ h => h) (Or.inl ⟨by rfl, ?_⟩) ?_
        rotate_left 1
        · (intro w; go_simp; try with_reducible rfl)
        simp only [Act.put, List.setIfInBounds_toArray, List.set_cons_zero, List.set_cons_succ]
        refine wpAny_take (i := 6) (oi := ⟨some 30, _, _, _, _, _⟩) (v := ?_) rfl (by kernel_rfl) (by kernel_rfl) (by kernel_rfl) (fun _ _ _ h => h) (Or.inl ⟨by rfl, ?_⟩) ?_
        rotate_left 1
        · (intro w; go_simp; try with_reducible rfl)
        simp only [Act.put, List.setIfInBounds_toArray, List.set_cons_zero, List.set_cons_succ]
        refine wpAny_ready (rs := [3, 5, 7]) (by kernel_rfl) (by simp) ?_
        refine AllReady.cons (o := ⟨some 27, _, _, _, _, _⟩) rfl (fun K hK => ?_) (AllReady.cons (o := ⟨some 29, _, _, _, _, _⟩) rfl (fun K hK => ?_) (AllReady.cons (o := ⟨some 31, _, _, _, _, _⟩) rfl (fun K hK => ?_) AllReady.nil))
        · go_simp
          refine hK _ _ ?_
          clear hK K
          refine wpAny_ready (rs := [5, 7]) (by kernel_rfl) (by simp) ?_
          refine AllReady.cons (o := ⟨some 29, _, _, _, _, _⟩) rfl (fun K hK => ?_) (AllReady.cons (o := ⟨some 31, _, _, _, _, _⟩) rfl (fun K hK => ?_) AllReady.nil)
          · go_simp
            refine hK _ _ ?_
            clear hK K
            refine wpAny_ready (rs := [7]) (by kernel_rfl) (by simp) ?_
            refine AllReady.cons (o := ⟨some 31, _, _, _, _, _⟩) rfl (fun K hK => ?_) AllReady.nil
            refine step_wp rfl (wp_load_mid 103 (.tmp 30) rfl wr.heap.size 1 rfl (cels x.2) _ HT.out Tryz.underlying103 rfl Hs64.out ?_)
            refine hK _ _ ?_
            clear hK K
            refine wpAny_take (i := 8) (oi := ⟨some 32, _, _, _, _, _⟩) (v := ?_) rfl (by kernel_rfl) (by kernel_rfl) (by kernel_rfl) (fun _ _ _ h => h) (Or.inl ⟨by rfl, ?_⟩) ?_
            rotate_left 1
            · (intro w; go_simp; try with_reducible rfl)
            simp only [Act.put, List.setIfInBounds_toArray, List.set_cons_zero, List.set_cons_succ]
            refine wpAny_ready (rs := [9]) (by kernel_rfl) (by simp) ?_
            refine AllReady.cons (o := ⟨none, _, _, _, _, _⟩) rfl (fun K hK => ?_) AllReady.nil
            refine step_wp rfl (wp_store_at 103 (.tmp 32) (.tmp 31) rfl g (x.1 * 64) (cels x.2) rfl rfl 103 cur HGg.out Hs64.out Hft.out (cels_one _) ?_)
            refine hK _ _ ?_
            clear hK K
            refine wpAny_done (by kernel_rfl) ?_ _
            go_wp2
            go_roundw
            case rel => exact ⟨k + 1, done Sk x, Hlt.out, by go_num, Hcr2.out, Hlen2.out, HP.out, HKP.out⟩
            case measure => have := Hlt.out; simp [intOf]; omega
          · refine step_wp rfl (wp_load_mid 103 (.tmp 30) rfl wr.heap.size 1 rfl (cels x.2) _ HT.out Tryz.underlying103 rfl Hs64.out ?_)
            refine hK _ _ ?_
            clear hK K
            refine wpAny_ready (rs := [5]) (by kernel_rfl) (by simp) ?_
            refine AllReady.cons (o := ⟨some 29, _, _, _, _, _⟩) rfl (fun K hK => ?_) AllReady.nil
            go_simp
            refine hK _ _ ?_
            clear hK K
            refine wpAny_take (i := 8) (oi := ⟨some 32, _, _, _, _, _⟩) (v := ?_) rfl (by kernel_rfl) (by kernel_rfl) (by kernel_rfl) (fun _ _ _ h => h) (Or.inl ⟨by rfl, ?_⟩) ?_
            rotate_left 1
            · (intro w; go_simp; try with_reducible rfl)
            simp only [Act.put, List.setIfInBounds_toArray, List.set_cons_zero, List.set_cons_succ]
            refine wpAny_ready (rs := [9]) (by kernel_rfl) (by simp) ?_
            refine AllReady.cons (o := ⟨none, _, _, _, _, _⟩) rfl (fun K hK => ?_) AllReady.nil
            refine step_wp rfl (wp_store_at 103 (.tmp 32) (.tmp 31) rfl g (x.1 * 64) (cels x.2) rfl rfl 103 cur HGg.out Hs64.out Hft.out (cels_one _) ?_)
            refine hK _ _ ?_
            clear hK K
            refine wpAny_done (by kernel_rfl) ?_ _
            go_wp2
            go_roundw
            case rel => exact ⟨k + 1, done Sk x, Hlt.out, by go_num, Hcr2.out, Hlen2.out, HP.out, HKP.out⟩
            case measure => have := Hlt.out; simp [intOf]; omega
        · go_simp
          refine hK _ _ ?_
          clear hK K
          refine wpAny_ready (rs := [3, 7]) (by kernel_rfl) (by simp) ?_
          refine AllReady.cons (o := ⟨some 27, _, _, _, _, _⟩) rfl (fun K hK => ?_) (AllReady.cons (o := ⟨some 31, _, _, _, _, _⟩) rfl (fun K hK => ?_) AllReady.nil)
          · go_simp
            refine hK _ _ ?_
            clear hK K
            refine wpAny_ready (rs := [7]) (by kernel_rfl) (by simp) ?_
            refine AllReady.cons (o := ⟨some 31, _, _, _, _, _⟩) rfl (fun K hK => ?_) AllReady.nil
            refine step_wp rfl (wp_load_mid 103 (.tmp 30) rfl wr.heap.size 1 rfl (cels x.2) _ HT.out Tryz.underlying103 rfl Hs64.out ?_)
            refine hK _ _ ?_
            clear hK K
            refine wpAny_take (i := 8) (oi := ⟨some 32, _, _, _, _, _⟩) (v := ?_) rfl (by kernel_rfl) (by kernel_rfl) (by kernel_rfl) (fun _ _ _ h => h) (Or.inl ⟨by rfl, ?_⟩) ?_
            rotate_left 1
            · (intro w; go_simp; try with_reducible rfl)
            simp only [Act.put, List.setIfInBounds_toArray, List.set_cons_zero, List.set_cons_succ]
            refine wpAny_ready (rs := [9]) (by kernel_rfl) (by simp) ?_
            refine AllReady.cons (o := ⟨none, _, _, _, _, _⟩) rfl (fun K hK => ?_) AllReady.nil
            refine step_wp rfl (wp_store_at 103 (.tmp 32) (.tmp 31) rfl g (x.1 * 64) (cels x.2) rfl rfl 103 cur HGg.out Hs64.out Hft.out (cels_one _) ?_)
            refine hK _ _ ?_
            clear hK K
            refine wpAny_done (by kernel_rfl) ?_ _
            go_wp2
            go_roundw
            case rel => exact ⟨k + 1, done Sk x, Hlt.out, by go_num, Hcr2.out, Hlen2.out, HP.out, HKP.out⟩
            case measure => have := Hlt.out; simp [intOf]; omega
          · refine step_wp rfl (wp_load_mid 103 (.tmp 30) rfl wr.heap.size 1 rfl (cels x.2) _ HT.out Tryz.underlying103 rfl Hs64.out ?_)
            refine hK _ _ ?_
            clear hK K
            refine wpAny_ready (rs := [3]) (by kernel_rfl) (by simp) ?_
            refine AllReady.cons (o := ⟨some 27, _, _, _, _, _⟩) rfl (fun K hK => ?_) AllReady.nil
            go_simp
            refine hK _ _ ?_
            clear hK K
            refine wpAny_take (i := 8) (oi := ⟨some 32, _, _, _, _, _⟩) (v := ?_) rfl (by kernel_rfl) (by kernel_rfl) (by kernel_rfl) (fun _ _ _ h => h) (Or.inl ⟨by rfl, ?_⟩) ?_
            rotate_left 1
            · (intro w; go_simp; try with_reducible rfl)
            simp only [Act.put, List.setIfInBounds_toArray, List.set_cons_zero, List.set_cons_succ]
            refine wpAny_ready (rs := [9]) (by kernel_rfl) (by simp) ?_
            refine AllReady.cons (o := ⟨none, _, _, _, _, _⟩) rfl (fun K hK => ?_) AllReady.nil
            refine step_wp rfl (wp_store_at 103 (.tmp 32) (.tmp 31) rfl g (x.1 * 64) (cels x.2) rfl rfl 103 cur HGg.out Hs64.out Hft.out (cels_one _) ?_)
            refine hK _ _ ?_
            clear hK K
            refine wpAny_done (by kernel_rfl) ?_ _
            go_wp2
            go_roundw
            case rel => exact ⟨k + 1, done Sk x, Hlt.out, by go_num, Hcr2.out, Hlen2.out, HP.out, HKP.out⟩
            case measure => have := Hlt.out; simp [intOf]; omega
        · refine step_wp rfl (wp_load_mid 103 (.tmp 30) rfl wr.heap.size 1 rfl (cels x.2) _ HT.out Tryz.underlying103 rfl Hs64.out ?_)
          refine hK _ _ ?_
          clear hK K
          refine wpAny_ready (rs := [3, 5]) (by kernel_rfl) (by simp) ?_
          refine AllReady.cons (o := ⟨some 27, _, _, _, _, _⟩) rfl (fun K hK => ?_) (AllReady.cons (o := ⟨some 29, _, _, _, _, _⟩) rfl (fun K hK => ?_) AllReady.nil)
          · go_simp
            refine hK _ _ ?_
            clear hK K
            refine wpAny_ready (rs := [5]) (by kernel_rfl) (by simp) ?_
            refine AllReady.cons (o := ⟨some 29, _, _, _, _, _⟩) rfl (fun K hK => ?_) AllReady.nil
            go_simp
            refine hK _ _ ?_
            clear hK K
            refine wpAny_take (i := 8) (oi := ⟨some 32, _, _, _, _, _⟩) (v := ?_) rfl (by kernel_rfl) (by kernel_rfl) (by kernel_rfl) (fun _ _ _ h => h) (Or.inl ⟨by rfl, ?_⟩) ?_
            rotate_left 1
            · (intro w; go_simp; try with_reducible rfl)
            simp only [Act.put, List.setIfInBounds_toArray, List.set_cons_zero, List.set_cons_succ]
            refine wpAny_ready (rs := [9]) (by kernel_rfl) (by simp) ?_
            refine AllReady.cons (o := ⟨none, _, _, _, _, _⟩) rfl (fun K hK => ?_) AllReady.nil
            refine step_wp rfl (wp_store_at 103 (.tmp 32) (.tmp 31) rfl g (x.1 * 64) (cels x.2) rfl rfl 103 cur HGg.out Hs64.out Hft.out (cels_one _) ?_)
            refine hK _ _ ?_
            clear hK K
            refine wpAny_done (by kernel_rfl) ?_ _
            go_wp2
            go_roundw
            case rel => exact ⟨k + 1, done Sk x, Hlt.out, by go_num, Hcr2.out, Hlen2.out, HP.out, HKP.out⟩
            case measure => have := Hlt.out; simp [intOf]; omega
          · go_simp
            refine hK _ _ ?_
            clear hK K
            refine wpAny_ready (rs := [3]) (by kernel_rfl) (by simp) ?_
            refine AllReady.cons (o := ⟨some 27, _, _, _, _, _⟩) rfl (fun K hK => ?_) AllReady.nil
            go_simp
            refine hK _ _ ?_
            clear hK K
            refine wpAny_take (i := 8) (oi := ⟨some 32, _, _, _, _, _⟩) (v := ?_) rfl (by kernel_rfl) (by kernel_rfl) (by kernel_rfl) (fun _ _ _ h => h) (Or.inl ⟨by rfl, ?_⟩) ?_
            rotate_left 1
            · (intro w; go_simp; try with_reducible rfl)
            simp only [Act.put, List.setIfInBounds_toArray, List.set_cons_zero, List.set_cons_succ]
            refine wpAny_ready (rs := [9]) (by kernel_rfl) (by simp) ?_
            refine AllReady.cons (o := ⟨none, _, _, _, _, _⟩) rfl (fun K hK => ?_) AllReady.nil
            refine step_wp rfl (wp_store_at 103 (.tmp 32) (.tmp 31) rfl g (x.1 * 64) (cels x.2) rfl rfl 103 cur HGg.out Hs64.out Hft.out (cels_one _) ?_)
            refine hK _ _ ?_
            clear hK K
            refine wpAny_done (by kernel_rfl) ?_ _
            go_wp2
            go_roundw
            case rel => exact ⟨k + 1, done Sk x, Hlt.out, by go_num, Hcr2.out, Hlen2.out, HP.out, HKP.out⟩
            case measure => have := Hlt.out; simp [intOf]; omega
    · obtain rfl : k = m := by omega
      have Hcr := hide (show Sk = crash K 0 L S by rw [← hcr.out, List.drop_of_length_le (by rw [HM.out]; exact Nat.le_refl _)]; rfl)
      have hp1 : wr.cell? ⟨p, 1, none⟩ = some (.slice B k d) := by simp [World.cell?, hdk.out.1]
      have hf1 : wr.frozen? ⟨p, 1, none⟩ = false := by simp [World.frozen?, hdk.out.1]
      have HP := hide (show Post w G p (crash K 0 L S) [] (wr.setCell ⟨p, 1, none⟩ (.slice none 0 0)) from ⟨G, ⟨_, _, by rw [← Hcr.out]; exact hdk.out.clear⟩, Grew.refl _ _, hkept.out.clear hdk.out.2.2.2.1 _⟩)
      clear hcr hdk hkept
      go_wp2
      go_end0
      exact ⟨rfl, HP.out⟩

set_option maxRecDepth 100000 in
theorem Flush_any (w : World) (G : Nat → Prop) (p : Nat) (S : List Sec) (L : List Wr) (h : Dsk w G p S L) (hL : L.length ≤ 1000000) :
    Calls Tryz.prog 43 #[.pointer (some ⟨p, 0, none⟩)] w fun e w' => e = .returned (.tuple #[]) ∧ Post w G p (all S L) [] w' := by
  have hC := Crash_any w G p 18446744073709551615 S L h (by decide) hL
  rw [crash_all] at hC
  have HC := hide hC
  clear hC h hL
  go_enter Tryz.func43, Tryz.ntmps43
  go_wp2_with fail
  refine HC.out.mono ?_
  rintro e w1 ⟨rfl, hp⟩
  have HP := hide hp
  clear hp HC
  go_wp2
  go_end0
  exact ⟨rfl, HP.out⟩

theorem Crash_nil (K : Int) (w : World) : Calls Tryz.prog 19 #[.pointer none, .int .u64 K] w fun e w' => e = .returned (.tuple #[]) ∧ w = w' := by
  go_enter Tryz.func19, Tryz.ntmps19
  go_wp2
  exact bodyPost_ret (results_none rfl _ _ _) rfl ⟨rfl, rfl⟩
theorem Flush_nil (w : World) : Calls Tryz.prog 43 #[.pointer none] w fun e w' => e = .returned (.tuple #[]) ∧ w = w' := by
  have HC := hide (Crash_nil 18446744073709551615 w)
  go_enter Tryz.func43, Tryz.ntmps43
  go_wp2_with fail
  refine HC.out.mono ?_
  rintro e w1 ⟨rfl, rfl⟩
  go_wp2
  go_end0
  exact ⟨rfl, rfl⟩

end Go.Proofs.YtmfgcinikopgnaaGreatDoor.Dk

namespace Go.Proofs.YtmfgcinikopgnaaGreatDoor.Dk
open Go.RowKit
open Pk Sm Fa

def fl (c : UInt8) : Sec := List.replicate 64 c
theorem fl_length (c : UInt8) : (fl c).length = 64 := List.length_replicate
theorem fl_zero : fl 0 = zero := rfl
/-- A row whose cells are known, read as bytes. -/
theorem byt_row {w : World} {g t : Nat} {l : List UInt8} (hg : w.heap[g]? = some (.cells (cels l).toArray t (0, 0))) : Byt w w.heap.size (some ⟨g, 0, none⟩) l := fun _ => by
  refine ⟨g, 0, rfl, (Array.getElem?_eq_some_iff.1 hg).1, fun j u hu => ?_⟩
  have hj : (cels l)[j]? = some (cel u) := by simp [cels, hu]
  simp only [World.cell?, hg, Nat.zero_add]
  simp [hj]
theorem zeros_full (n : Nat) : Full (List.replicate n zero) := fun s hs => by rw [List.eq_of_mem_replicate hs]; exact zero_length
theorem made_secs (n : Nat) : (madeCells (Value.agg (cels zero).toArray).cells (n * 64)).toList = scels (List.replicate n zero) := by
  have hl : (scels (List.replicate n zero)).length = n * 64 := by
    have := flat_len (f := cels) (m := 64) (List.replicate n zero) (zeros_full n).cels
    rw [List.length_replicate] at this
    exact this
  apply List.ext_getElem?
  intro j
  by_cases hj : j < n * 64
  · have hk : j / 64 < n := by omega
    have h1 := flat_get (f := cels) (m := 64) (List.replicate n zero) (zeros_full n).cels (j / 64) (j % 64) zero (by simp [hk]) (Nat.mod_lt _ (by omega))
    rw [show j / 64 * 64 + j % 64 = j by omega] at h1
    rw [show scels (List.replicate n zero) = (List.replicate n zero).flatMap cels from rfl, h1]
    have h2 : j % 64 < (cels zero).length := by rw [n64]; omega
    simp [madeCells, Value.cells, hj, n64]
    rw [List.getElem?_eq_getElem h2]
    simp
  · rw [List.getElem?_eq_none (by rw [Array.length_toList, size_madeCells]; omega), List.getElem?_eq_none (by rw [hl]; omega)]

theorem sec_info : (Tryz.prog.info? 103).map (fun i => (i.zero, i.size, i.bytes)) = some (some (.agg (cels zero).toArray), 64, 64) := by kernel_rfl

/-- A new disk of n sectors. -/
def Made (w : World) (n : Nat) (e : Ending) (w' : World) : Prop :=
  ∃ p G, e = .returned (.pointer (some ⟨p, 0, none⟩)) ∧ Dsk w' G p (List.replicate n zero) [] ∧ (∀ k, G k → w.heap.size ≤ k) ∧ Below w.heap.size w w'

theorem made_mk (w w1 : World) (n : Nat) (hn : n ≤ 1024) (h1 : w1 = w.alloc (.cells (madeCells (Value.agg (cels zero).toArray).cells (n * 64)) 103)) :
    Made w n (.returned (.pointer (some ⟨w1.heap.size, 0, none⟩))) (w1.alloc (.cells #[.slice (some ⟨w.heap.size, 0, none⟩) n n, .slice none 0 0] 73)) := by
  have hs : w1.heap.size = w.heap.size + 1 := by rw [h1]; simp
  have hb1 : Below w.heap.size w w1 := by rw [h1]; exact (Below.refl _ _).alloc (Nat.le_refl _) _
  have hg1 : w1.heap[w.heap.size]? = some (.cells (madeCells (Value.agg (cels zero).toArray).cells (n * 64)) 103 (0, 0)) := by rw [h1]; exact heap_alloc_new w _
  refine ⟨w1.heap.size, fun k => k = w.heap.size ∨ k = w1.heap.size, rfl, ⟨_, _, heap_alloc_new w1 _, ?_, World.ownsRow_nil _ _ _ _, Or.inr rfl, ?_, fun k hk => by simp [Value.ownBlock] at hk, ?_, zeros_full n, fun x hx => by cases hx⟩, ?_, hb1.alloc hb1.size _⟩
  · refine ⟨?_, Or.inr ⟨w.heap.size, n, _, by rw [List.length_replicate], Nat.zero_le _, (Below.heap_alloc _ _ _ (by omega)).trans hg1, by rw [List.length_replicate]; exact Nat.le_refl _, by unfold maxLen; omega, size_madeCells _ _, ?_⟩⟩
    · have := flat_len (f := cels) (m := 64) (List.replicate n zero) (zeros_full n).cels
      exact this
    · rw [made_secs, List.length_replicate, List.take_of_length_le]
      have := flat_len (f := cels) (m := 64) (List.replicate n zero) (zeros_full n).cels
      rw [List.length_replicate] at this
      exact Nat.le_of_eq this
  · intro k hk
    have : w.heap.size = k := by simpa [Value.ownBlock] using hk
    subst this
    exact ⟨Or.inl rfl, by omega⟩
  · intro k hk
    simp
    omega
  · intro k hk
    omega

set_option maxRecDepth 100000 in
theorem New_any (i : Int) (n : Nat) (w : World) (hn : (n : Int) = min (max i 0) 1024) :
    Calls Tryz.prog 6 #[.int .i64 i] w (Made w n) := by
  obtain ⟨i0, hi0, hz0, hz1, hz2⟩ := info_parts sec_info
  have hle : n ≤ 1024 := by omega
  have Hle := hide hle
  have Hz1 := hide hz1
  have Hz2 := hide hz2
  have hmx : min (max i 0) 1024 = (n : Int) := hn.symm
  clear hz1 hz2 hle hn
  go_enter Tryz.func6, Tryz.ntmps6
  go_wp2_with (with_reducible refine wpList_make_told rfl 70 _ _ rfl 103 i0 _ Tryz.underlying70 hi0 hz0 .i64 .i64 n n rfl rfl (Nat.le_refl _) (by rw [Hz2.out]; have := Hle.out; omega) (by have := Hle.out; omega) 64 Hz1.out ?_)
  intro w1 Hw1
  have HM := hide (made_mk w w1 n Hle.out Hw1.out)
  clear hmx
  go_wp2
  go_ret
  exact HM.out

theorem fl_step (c : UInt8) (k : Nat) (h : k < 64) : (cels (List.replicate k c ++ List.replicate (64 - k) 0)).toArray.setIfInBounds k (cel c) = (cels (List.replicate (k + 1) c ++ List.replicate (64 - (k + 1)) 0)).toArray := by
  apply Array.ext'
  rw [Array.toList_setIfInBounds]
  have hl : (cels (List.replicate k c)).length = k := by rw [cels_length, List.length_replicate]
  rw [show 64 - k = (64 - (k + 1)) + 1 by omega, List.replicate_succ, cels_append, List.set_append_right _ _ (by rw [hl]; exact Nat.le_refl _), hl, Nat.sub_self, List.replicate_succ' (n := k), List.append_assoc, cels_append]
  rfl

/-- A new row of 64 bytes c. -/
def Fulls (w : World) (l : Sec) (e : Ending) (w' : World) : Prop :=
  ∃ g, e = .returned (.slice (some ⟨g, 0, none⟩) 64 64) ∧ w.heap.size ≤ g ∧ w'.heap[g]? = some (.cells (cels l).toArray 5 (0, 0)) ∧ Below w.heap.size w w'

theorem made_length {w w' : World} {n : Nat} {e : Ending} (h : Made w n e w') : ∃ p G, e = .returned (.pointer (some ⟨p, 0, none⟩)) ∧ Dsk w' G p (List.replicate n zero) [] ∧ (∀ k, G k → w.heap.size ≤ k) ∧ Below w.heap.size w w' := h

end Go.Proofs.YtmfgcinikopgnaaGreatDoor.Dk
