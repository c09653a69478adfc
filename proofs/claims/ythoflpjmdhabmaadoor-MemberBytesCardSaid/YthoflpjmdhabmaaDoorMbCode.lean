/-
  A group's bytes: what is written, and what any bytes are read as; each is the other's way back. Plain theorems, no program of the project.
-/
import Derived.Test.YthoflpjmdhabmaaDoorMbMath
import Derived.Test.YthoflpjmdhabmaaDoorPkText
namespace Go.Proofs.YthoflpjmdhabmaaDoor.Mb
open Pk

/-- A change's second number. -/
def code (c : Ch) : Nat := if c.r then 2 * c.v.toNat + 1 else 2 * c.v.toNat
def wch (c : Ch) : List UInt8 := enc c.m.toNat ++ enc (code c)
def wrote (s : Nat) (M : List Ch) : List UInt8 := enc s ++ enc M.length ++ M.flatMap wch
/-- The change that two numbers tell. -/
def chOf (m c : Nat) : Ch := ⟨(m : Int), ((c / 2 : Nat) : Int), c % 2 == 1⟩
/-- What is left is read as so many changes more, and nothing behind them. -/
def tl (s : Nat) : Nat → List Ch → List UInt8 → Option (List Ch)
  | 0, M, l => if l.length = 0 then some M else none
  | k + 1, M, l =>
    if (rnum (rnum l 0).2.1 (rnum l 0).2.2).2.2 = 0 ∧ chk s M (chOf (rnum l 0).1 (rnum (rnum l 0).2.1 (rnum l 0).2.2).1).v (chOf (rnum l 0).1 (rnum (rnum l 0).2.1 (rnum l 0).2.2).1).m (chOf (rnum l 0).1 (rnum (rnum l 0).2.1 (rnum l 0).2.2).1).r = 0
    then tl s k (M ++ [chOf (rnum l 0).1 (rnum (rnum l 0).2.1 (rnum l 0).2.2).1]) (rnum (rnum l 0).2.1 (rnum l 0).2.2).2.1 else none
/-- What any bytes are read as. -/
def grpOf (l : List UInt8) : Option (Nat × List Ch) :=
  if (rnum (rnum l 0).2.1 (rnum l 0).2.2).2.2 = 0 ∧ (rnum l 0).1 ≤ 15 then (tl (rnum l 0).1 (rnum (rnum l 0).2.1 (rnum l 0).2.2).1 [] (rnum (rnum l 0).2.1 (rnum l 0).2.2).2.1).map (fun M => ((rnum l 0).1, M)) else none
theorem rnum_enc (n : Nat) (r : List UInt8) (h : n < 1152921504606846976) : rnum (enc n ++ r) 0 = (n, r, 0) := by
  rw [rnum_ok _ n _ (dec_enc n r h)]
  simp
theorem rnum_inv {l l1 : List UInt8} {n e : Nat} (h : rnum l e = (n, l1, 0)) : e = 0 ∧ n < 1152921504606846976 ∧ l = enc n ++ l1 := by
  by_cases he : e = 0
  · subst he
    rcases dec_cases l with ⟨m, s, hd, _, _⟩ | hd | hd
    · rw [rnum_ok l m s hd] at h
      simp only [Prod.mk.injEq, and_true] at h
      obtain ⟨rfl, rfl⟩ := h
      obtain ⟨h1, h2, h3, h4⟩ := dec_ok l m s hd
      refine ⟨rfl, h1, ?_⟩
      rw [← h4]
      exact (List.take_append_drop s l).symm
    · rw [rnum_bad l 0 0 1 hd (by omega)] at h
      simp at h
    · rw [rnum_bad l 0 0 2 hd (by omega)] at h
      simp at h
  · rw [rnum_err l e he] at h
    simp only [Prod.mk.injEq] at h
    exact absurd h.2.2 he
theorem rnum_err0 {l l1 : List UInt8} {n e e1 : Nat} (h : rnum l e = (n, l1, e1)) (he : e1 ≠ 0) : n = 0 := by
  by_cases h0 : e = 0
  · subst h0
    rcases dec_cases l with ⟨m, s, hd, _, _⟩ | hd | hd
    · rw [rnum_ok l m s hd] at h
      simp only [Prod.mk.injEq] at h
      exact absurd h.2.2.symm he
    · rw [rnum_bad l 0 0 1 hd (by omega)] at h
      simp only [Prod.mk.injEq] at h
      exact h.1.symm
    · rw [rnum_bad l 0 0 2 hd (by omega)] at h
      simp only [Prod.mk.injEq] at h
      exact h.1.symm
  · rw [rnum_err l e h0] at h
    simp only [Prod.mk.injEq] at h
    exact h.1.symm
theorem rnum_stays {l l1 : List UInt8} {n e e1 : Nat} (h : rnum l e = (n, l1, e1)) (he : e ≠ 0) : n = 0 ∧ l1 = l ∧ e1 = e := by
  rw [rnum_err l e he] at h
  simp only [Prod.mk.injEq] at h
  exact ⟨h.1.symm, h.2.1.symm, h.2.2.symm⟩
theorem rnum_lt {l l1 : List UInt8} {n e e1 : Nat} (h : rnum l e = (n, l1, e1)) : n < 1152921504606846976 := by
  by_cases he : e1 = 0
  · subst he
    exact (rnum_inv h).2.1
  · rw [rnum_err0 h he]
    decide
/-- One step, of what is told by names. -/
theorem tl_step {s k : Nat} {M : List Ch} {l l1 l2 : List UInt8} {m c e1 e2 : Nat} (h1 : rnum l 0 = (m, l1, e1)) (h2 : rnum l1 e1 = (c, l2, e2)) : tl s (k + 1) M l = if e2 = 0 ∧ chk s M (chOf m c).v (chOf m c).m (chOf m c).r = 0 then tl s k (M ++ [chOf m c]) l2 else none := by
  simp only [tl, h1, h2]
theorem grpOf_told {l l1 l2 : List UInt8} {s n e1 e2 : Nat} (h1 : rnum l 0 = (s, l1, e1)) (h2 : rnum l1 e1 = (n, l2, e2)) : grpOf l = if e2 = 0 ∧ s ≤ 15 then (tl s n [] l2).map (fun M => (s, M)) else none := by
  simp only [grpOf, h1, h2]
theorem code_div {c : Ch} (h : 0 ≤ c.v) : ((code c / 2 : Nat) : Int) = c.v := by
  unfold code
  split <;> omega
theorem code_mod (c : Ch) : (code c % 2 == 1) = c.r := by
  unfold code
  cases c.r
  · rw [if_neg (by simp)]
    have : 2 * c.v.toNat % 2 = 0 := by omega
    rw [this]
    rfl
  · rw [if_pos rfl]
    have : (2 * c.v.toNat + 1) % 2 = 1 := by omega
    rw [this]
    rfl
theorem code_lt {c : Ch} (h : c.v < 4) : code c ≤ 7 := by
  unfold code
  split <;> omega
theorem chOf_code {c : Ch} (hm : 0 ≤ c.m) (hv : 0 ≤ c.v) : chOf c.m.toNat (code c) = c := by
  obtain ⟨m, v, r⟩ := c
  have h1 := code_div (c := ⟨m, v, r⟩) hv
  have h2 := code_mod ⟨m, v, r⟩
  simp only at hm hv h1 h2
  unfold chOf
  rw [h1, h2]
  simp only [Ch.mk.injEq, and_true]
  omega
theorem code_chOf (m c : Nat) : code (chOf m c) = c ∧ (chOf m c).m.toNat = m := by
  unfold code chOf
  refine ⟨?_, by simp⟩
  by_cases h : c % 2 = 1
  · have : (c % 2 == 1) = true := by simp [h]
    simp only [this, if_true]
    omega
  · have : (c % 2 == 1) = false := by simp [h]
    simp only [this]
    simp
    omega
/-- What was written is read as it was. -/
theorem tl_wrote {s : Nat} {M : List Ch} (hF : Fine s M) : ∀ (k : Nat) (L : List Ch), L.length + k = M.length → L = M.take L.length → tl s k L ((M.drop L.length).flatMap wch) = some M
  | 0, L, h, e => by
    rw [List.drop_of_length_le (by omega)]
    have : L = M := by rw [e]; exact List.take_of_length_le (by omega)
    simp [tl, this]
  | k + 1, L, h, e => by
    obtain ⟨c, hc⟩ : ∃ c, M[L.length]? = some c := ⟨_, List.getElem?_eq_getElem (by omega)⟩
    have hck := (hF.at_get hc).1
    rw [← e] at hck
    obtain ⟨b1, b2, b3, _, _⟩ := chk_zero hck
    have hm := (hF.last_le.2.2 c (List.mem_of_getElem? hc)).2
    have hd : M.drop L.length = c :: M.drop (L.length + 1) := by
      obtain ⟨hk, e2⟩ := List.getElem?_eq_some_iff.1 hc
      rw [List.drop_eq_getElem_cons hk, e2]
    have hb : (M.drop L.length).flatMap wch = enc c.m.toNat ++ (enc (code c) ++ (M.drop (L.length + 1)).flatMap wch) := by
      rw [hd, List.flatMap_cons]
      simp [wch]
    have r1 : rnum ((M.drop L.length).flatMap wch) 0 = (c.m.toNat, enc (code c) ++ (M.drop (L.length + 1)).flatMap wch, 0) := by
      rw [hb]
      exact rnum_enc _ _ (by omega)
    have r2 := rnum_enc (code c) ((M.drop (L.length + 1)).flatMap wch) (by have := code_lt (c := c) b1.2; omega)
    rw [tl_step r1 r2, chOf_code (by omega) b1.1, if_pos ⟨rfl, hck⟩]
    have ih := tl_wrote hF k (L ++ [c]) (by simp; omega) (by
      rw [List.length_append]
      show L ++ [c] = M.take (L.length + 1)
      rw [List.take_add_one, hc, ← e]
      rfl)
    rw [List.length_append] at ih
    exact ih
theorem grpOf_wrote {s : Nat} {M : List Ch} (hF : Fine s M) (hs : s < 16) : grpOf (wrote s M) = some (s, M) := by
  have hl := hF.len
  have r1 : rnum (wrote s M) 0 = (s, enc M.length ++ M.flatMap wch, 0) := by
    unfold wrote
    rw [List.append_assoc]
    exact rnum_enc _ _ (by omega)
  have r2 := rnum_enc M.length (M.flatMap wch) (by omega)
  rw [grpOf_told r1 r2, if_pos ⟨rfl, by omega⟩]
  have := tl_wrote hF M.length [] (by simp) rfl
  rw [List.length_nil, List.drop_zero] at this
  rw [this]
  rfl
/-- What is read was written so. -/
theorem tl_fine {s : Nat} : ∀ (k : Nat) (L M : List Ch) (l : List UInt8), Fine s L → tl s k L l = some M → Fine s M ∧ M.length = L.length + k ∧ L = M.take L.length ∧ l = (M.drop L.length).flatMap wch
  | 0, L, M, l, hF, h => by
    unfold tl at h
    split at h
    · rename_i hl
      obtain rfl := Option.some.inj h
      exact ⟨hF, by simp, by simp, by simp [List.eq_nil_of_length_eq_zero hl]⟩
    · cases h
  | k + 1, L, M, l, hF, h => by
    obtain ⟨m, l1, e1, h1⟩ : ∃ m l1 e1, rnum l 0 = (m, l1, e1) := ⟨_, _, _, rfl⟩
    obtain ⟨c, l2, e2, h2⟩ : ∃ c l2 e2, rnum l1 e1 = (c, l2, e2) := ⟨_, _, _, rfl⟩
    rw [tl_step h1 h2] at h
    split at h
    · rename_i hk
      obtain ⟨rfl, hk⟩ := hk
      obtain ⟨i1, i2, i3, i4⟩ := tl_fine k (L ++ [chOf m c]) M l2 (Fine.snoc hF hk) h
      obtain ⟨rfl, _, q2⟩ := rnum_inv h2
      obtain ⟨_, _, q1⟩ := rnum_inv h1
      rw [List.length_append] at i2 i3 i4
      have hlt : L.length < M.length := by simp at i2; omega
      have hget : M[L.length]? = some (chOf m c) := by
        have := congrArg (fun x => x[L.length]?) i3
        simp at this
        rw [← this]
      refine ⟨i1, by simp at i2; omega, ?_, ?_⟩
      · have := congrArg (List.take L.length) i3
        simpa [List.take_take] using this
      · have hd : M.drop L.length = chOf m c :: M.drop (L.length + 1) := by
          obtain ⟨hk', e2⟩ := List.getElem?_eq_some_iff.1 hget
          rw [List.drop_eq_getElem_cons hk', e2]
        rw [hd, List.flatMap_cons, q1, q2, i4]
        simp [wch, code_chOf]
    · cases h
theorem wrote_grpOf {l : List UInt8} {s : Nat} {M : List Ch} (h : grpOf l = some (s, M)) : s < 16 ∧ Fine s M ∧ l = wrote s M := by
  obtain ⟨s', l1, e1, h1⟩ : ∃ m l1 e1, rnum l 0 = (m, l1, e1) := ⟨_, _, _, rfl⟩
  obtain ⟨n, l2, e2, h2⟩ : ∃ c l2 e2, rnum l1 e1 = (c, l2, e2) := ⟨_, _, _, rfl⟩
  rw [grpOf_told h1 h2] at h
  split at h
  · rename_i hk
    obtain ⟨rfl, hs⟩ := hk
    obtain ⟨M', hM, e⟩ := Option.map_eq_some_iff.1 h
    simp only [Prod.mk.injEq] at e
    obtain ⟨rfl, rfl⟩ := e
    obtain ⟨i1, i2, _, i4⟩ := tl_fine n [] M' l2 Fine.nil hM
    obtain ⟨rfl, _, q2⟩ := rnum_inv h2
    obtain ⟨_, _, q1⟩ := rnum_inv h1
    refine ⟨by omega, i1, ?_⟩
    rw [List.length_nil] at i2 i4
    rw [q1, q2, i4]
    unfold wrote
    rw [i2]
    simp
  · cases h
/-- So many changes there never are. -/
theorem tl_long {s : Nat} : ∀ (k : Nat) (L : List Ch) (l : List UInt8), Fine s L → 100 < L.length + k → tl s k L l = none := by
  intro k L l hF hk
  cases h : tl s k L l with
  | none => rfl
  | some M =>
    obtain ⟨h1, h2, _⟩ := tl_fine k L M l hF h
    have := h1.len
    omega
theorem wch_le (c : Ch) : (wch c).length ≤ 18 := by
  have h1 := enc_le c.m.toNat
  have h2 := enc_le (code c)
  unfold wch
  rw [List.length_append]
  omega
theorem flat_le : ∀ M : List Ch, (M.flatMap wch).length ≤ M.length * 18
  | [] => by simp
  | c :: M => by
    have h1 := wch_le c
    have h2 := flat_le M
    rw [List.flatMap_cons, List.length_append, List.length_cons]
    omega
theorem wrote_le (s : Nat) (M : List Ch) (h : M.length ≤ 100) : (wrote s M).length ≤ 1818 := by
  have h1 := enc_le s
  have h2 := enc_le M.length
  have h3 := flat_le M
  unfold wrote
  rw [List.length_append, List.length_append]
  omega

end Go.Proofs.YthoflpjmdhabmaaDoor.Mb
