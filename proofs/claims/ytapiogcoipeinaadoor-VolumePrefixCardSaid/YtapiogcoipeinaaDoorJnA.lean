/-
  The contracts of the journal's failed, Next, Room, Flush, Records and save, and of what a nil journal answers. Condition: the table of half bytes holds what the program's own text lays (save).
-/
import Derived.Test.YtapiogcoipeinaaDoorRcMath
import Derived.Test.YtapiogcoipeinaaDoorDkMem
import Derived.Test.YtapiogcoipeinaaDoorRcDecode
import Derived.Test.YtapiogcoipeinaaDoorDkNew
import Derived.Deep.AppendLies
import Derived.BigQuiet

/-
  The journal in plain words: heads and records as sectors, the current head, the records that are held, and what is always so between calls: behind a crash the first ones alone are found, and none that was lost. Plain theorems, no program.
-/
namespace Go.Proofs.YtapiogcoipeinaaDoor.Jn
open Pk Sm Rc Dk

/-! ### Heads -/
@[ext] structure Hd where
  t : Nat
  f : Nat
  g : Nat
  l : Nat
def hbod (h : Hd) : List UInt8 := enc (clamp h.t) ++ enc (clamp h.f) ++ enc (clamp h.g) ++ enc (clamp h.l)
def hsec (h : Hd) : List UInt8 := seal4 (pad (hbod h))
abbrev NumN (n : Nat) : Prop := n ≤ 1152921504606846975
structure HOk (i : Nat) (h : Hd) : Prop where
  t : NumN h.t
  f : NumN h.f
  g : NumN h.g
  l : NumN h.l
  pos : 1 ≤ h.f
  low : h.l ≤ h.g
  par : h.t % 2 = i

theorem clampN {n : Nat} (h : NumN n) : clamp (n : Int) = n := by unfold NumN at h; unfold clamp; omega
theorem hbod_le (h : Hd) : (hbod h).length ≤ 36 := by
  have h1 := enc_le (clamp h.t)
  have h2 := enc_le (clamp h.f)
  have h3 := enc_le (clamp h.g)
  have h4 := enc_le (clamp h.l)
  unfold hbod
  simp only [List.length_append]
  omega
theorem hsec_length (h : Hd) : (hsec h).length = 64 := by
  unfold hsec
  rw [seal4_length, pad_length _ (by have := hbod_le h; omega)]

/-- What is read of bytes. -/
def hgot (l : List UInt8) : Hd :=
  ⟨(rnum l 0).1, (rnum (rnum l 0).2.1 (rnum l 0).2.2).1, (rnum (rnum (rnum l 0).2.1 (rnum l 0).2.2).2.1 (rnum (rnum l 0).2.1 (rnum l 0).2.2).2.2).1,
    (rnum (rnum (rnum (rnum l 0).2.1 (rnum l 0).2.2).2.1 (rnum (rnum l 0).2.1 (rnum l 0).2.2).2.2).2.1 (rnum (rnum (rnum l 0).2.1 (rnum l 0).2.2).2.1 (rnum (rnum l 0).2.1 (rnum l 0).2.2).2.2).2.2).1⟩
theorem hgot_step {l l1 l2 l3 l4 : List UInt8} {e1 e2 e3 e4 t f g w : Nat} (h1 : rnum l 0 = (t, l1, e1)) (h2 : rnum l1 e1 = (f, l2, e2)) (h3 : rnum l2 e2 = (g, l3, e3)) (h4 : rnum l3 e3 = (w, l4, e4)) :
    hgot l = ⟨t, f, g, w⟩ := by
  unfold hgot
  simp only [h1, h2, h3, h4]
theorem hgot_num (l : List UInt8) : NumN (hgot l).t ∧ NumN (hgot l).f ∧ NumN (hgot l).g ∧ NumN (hgot l).l := ⟨rnum_lt _ _, rnum_lt _ _, rnum_lt _ _, rnum_lt _ _⟩
theorem hgot_bod {i : Nat} {h : Hd} (k : HOk i h) (r : List UInt8) : hgot (hbod h ++ r) = h := by
  have e : ∀ n, NumN n → ∀ t, rnum (enc (clamp (n : Int)) ++ t) 0 = (n, t, 0) := fun n hn t => by
    rw [clampN hn]; exact rnum_enc _ _ (by unfold NumN at hn; omega)
  have e0 : hbod h ++ r = enc (clamp h.t) ++ (enc (clamp h.f) ++ (enc (clamp h.g) ++ (enc (clamp h.l) ++ r))) := by simp [hbod]
  rw [e0]
  exact hgot_step (e _ k.t _) (e _ k.f _) (e _ k.g _) (e _ k.l _)
theorem hgot_pad {i : Nat} {h : Hd} (k : HOk i h) : hgot (pad (hbod h)) = h := hgot_bod k _
theorem hsec_inj {i j : Nat} {h h' : Hd} (k : HOk i h) (k' : HOk j h') (e : hsec h = hsec h') : h = h' := by
  have := seal4_inj e
  rw [← hgot_pad k, this, hgot_pad k']

open Classical in
/-- The head that a sector contains. -/
noncomputable def unh (i : Nat) (s : Sec) : Option Hd := if h : ∃ x, HOk i x ∧ s = hsec x then some h.choose else none
theorem unh_spec {i : Nat} {s : Sec} {x : Hd} (h : unh i s = some x) : HOk i x ∧ s = hsec x := by
  unfold unh at h
  split at h
  · rename_i hx
    cases h
    exact hx.choose_spec
  · cases h
theorem unh_some {i : Nat} {x : Hd} (h : HOk i x) : unh i (hsec x) = some x := by
  have hx : ∃ y, HOk i y ∧ hsec x = hsec y := ⟨x, h, rfl⟩
  unfold unh
  rw [dif_pos hx]
  exact congrArg some (hsec_inj h hx.choose_spec.1 hx.choose_spec.2).symm
theorem unh_none {i : Nat} {s : Sec} (h : ∀ x, HOk i x → s ≠ hsec x) : unh i s = none := by
  unfold unh
  rw [dif_neg]
  rintro ⟨x, h1, h2⟩
  exact h x h1 h2

/-! ### Records -/
@[ext] structure Ent where
  g : Nat
  s : Nat
  k : Int
  b : Int
  d : ByteArray
  m : Int
def esec (e : Ent) : List UInt8 := sec (e.g : Int) (e.s : Int) e.k e.b e.d e.m
def EOk (e : Ent) : Prop := Rgt (e.s : Int) e.k e.b e.d.size e.m ∧ Num (e.g : Int)
theorem esec_length {e : Ent} (h : EOk e) : (esec e).length = 64 := sec_length h.1
theorem esec_inj {e e' : Ent} (h : EOk e) (h' : EOk e') (he : esec e = esec e') : e = e' := by
  obtain ⟨h1, h2, h3, h4, h5, h6⟩ := sec_inj h.1 h.2 h'.1 h'.2 he
  exact Ent.ext (Int.ofNat.inj h1) (Int.ofNat.inj h2) h3 h4 h5 h6
open Classical in
/-- The record that a sector is. -/
noncomputable def une (s : Sec) : Option Ent := if h : ∃ x, EOk x ∧ s = esec x then some h.choose else none
theorem une_spec {s : Sec} {x : Ent} (h : une s = some x) : EOk x ∧ s = esec x := by
  unfold une at h
  split at h
  · rename_i hx
    cases h
    exact hx.choose_spec
  · cases h
theorem une_some {x : Ent} (h : EOk x) : une (esec x) = some x := by
  have hx : ∃ y, EOk y ∧ esec x = esec y := ⟨x, h, rfl⟩
  unfold une
  rw [dif_pos hx]
  exact congrArg some (esec_inj h hx.choose_spec.1 hx.choose_spec.2).symm
theorem une_none {s : Sec} (h : ∀ x, EOk x → s ≠ esec x) : une s = none := by
  unfold une
  rw [dif_neg]
  rintro ⟨x, h1, h2⟩
  exact h x h1 h2
theorem norec_of_none {s : Sec} (h : une s = none) (g k b : Int) (q : Int) (d : ByteArray) (m : Int) (hr : Rgt q k b d.size m) (hg : Num g) : s ≠ sec g q k b d m := by
  intro e
  have hq : 0 ≤ q := by unfold Rgt at hr; omega
  have hgp : 0 ≤ g := hg.1
  obtain ⟨q', rfl⟩ : ∃ q' : Nat, q = q' := ⟨q.toNat, by omega⟩
  obtain ⟨g', rfl⟩ : ∃ g' : Nat, g = g' := ⟨g.toNat, by omega⟩
  have := une_some (x := ⟨g', q', k, b, d, m⟩) ⟨hr, hg⟩
  rw [show esec ⟨g', q', k, b, d, m⟩ = s from e.symm, h] at this
  cases this

/-! ### A fresh sector -/
def zer : Sec := List.replicate 64 0
theorem zer_no (m : List UInt8) : zer ≠ seal4 m := by
  intro e
  have hl : m.length = 60 := by
    have := congrArg List.length e
    rw [seal4_length] at this
    simp [zer] at this
    omega
  have hm : m = List.replicate 60 0 := by
    have := seal4_take m
    rw [← e, hl] at this
    rw [← this]
    rfl
  rw [hm] at e
  exact absurd e (by decide +kernel)
theorem unh_zer (i : Nat) : unh i zer = none := unh_none fun _ _ => zer_no _
theorem une_zer : une zer = none := une_none fun _ _ => zer_no _

/-! ### What is found -/
/-- The current head. -/
noncomputable def cur (A : List Sec) : Option Hd :=
  match unh 0 (A.getD 0 []), unh 1 (A.getD 1 []) with
  | none, none => if A.getD 0 [] = zer ∧ A.getD 1 [] = zer then some ⟨0, 1, 0, 0⟩ else none
  | some a, none => some a
  | none, some b => some b
  | some a, some b => some (if a.t < b.t then b else a)
theorem cur_num {A : List Sec} {h : Hd} (e : cur A = some h) : NumN h.t ∧ NumN h.f ∧ NumN h.g ∧ NumN h.l ∧ 1 ≤ h.f ∧ h.l ≤ h.g := by
  have key : ∀ {i : Nat} {x : Hd} {s : Sec}, unh i s = some x → NumN x.t ∧ NumN x.f ∧ NumN x.g ∧ NumN x.l ∧ 1 ≤ x.f ∧ x.l ≤ x.g := fun hx => by
    have := (unh_spec hx).1
    exact ⟨this.t, this.f, this.g, this.l, this.pos, this.low⟩
  unfold cur at e
  split at e
  · split at e
    · cases e
      unfold NumN
      simp
    · cases e
  · rename_i h1 _
    cases e
    exact key h1
  · rename_i h1
    cases e
    exact key h1
  · rename_i h1 h2
    cases e
    split
    · exact key h2
    · exact key h1
/-- The records that are held. -/
noncomputable def load (A : List Sec) (n gen : Nat) : Nat → Nat → Nat → List Ent
  | 0, _, _ => []
  | k + 1, q, lo =>
    match une (A.getD (2 + q % n) []) with
    | some e => if e.s = q ∧ lo ≤ e.g ∧ e.g ≤ gen then e :: load A n gen k (q + 1) e.g else []
    | none => []
theorem load_yes {A : List Sec} {n gen k q lo : Nat} {e : Ent} (h : une (A.getD (2 + q % n) []) = some e) (h2 : e.s = q ∧ lo ≤ e.g ∧ e.g ≤ gen) :
    load A n gen (k + 1) q lo = e :: load A n gen k (q + 1) e.g := by
  rw [load, h]
  exact if_pos h2
theorem load_no {A : List Sec} {n gen k q lo : Nat} {e : Ent} (h : une (A.getD (2 + q % n) []) = some e) (h2 : ¬ (e.s = q ∧ lo ≤ e.g ∧ e.g ≤ gen)) : load A n gen (k + 1) q lo = [] := by
  rw [load, h]
  exact if_neg h2
theorem load_nil {A : List Sec} {n gen k q lo : Nat} (h : une (A.getD (2 + q % n) []) = none) : load A n gen (k + 1) q lo = [] := by
  rw [load, h]

/-- The last generation. -/
def lst (lo : Nat) : List Ent → Nat
  | [] => lo
  | e :: r => lst e.g r
theorem lst_append (lo : Nat) (E F : List Ent) : lst lo (E ++ F) = lst (lst lo E) F := by
  induction E generalizing lo with
  | nil => rfl
  | cons e r ih => exact ih _
/-- Generations do not fall, and are at most g. -/
def Up (lo g : Nat) : List Ent → Prop
  | [] => lo ≤ g
  | e :: r => lo ≤ e.g ∧ Up e.g g r
/-- Valid records, numbered from q on. -/
def Seqs (q : Nat) : List Ent → Prop
  | [] => True
  | e :: r => EOk e ∧ e.s = q ∧ Seqs (q + 1) r
theorem Seqs.get {q : Nat} : ∀ {E : List Ent}, Seqs q E → ∀ {i : Nat} {e : Ent}, E[i]? = some e → EOk e ∧ e.s = q + i
  | [], _, i, e, h => by simp at h
  | x :: r, hs, 0, e, h => by
    simp at h
    subst h
    exact ⟨hs.1, hs.2.1⟩
  | x :: r, hs, i + 1, e, h => by
    have := Seqs.get (E := r) hs.2.2 (i := i) (e := e) (by simpa using h)
    exact ⟨this.1, by omega⟩
theorem Seqs.mk {q : Nat} : ∀ {E : List Ent}, (∀ i e, E[i]? = some e → EOk e ∧ e.s = q + i) → Seqs q E
  | [], _ => trivial
  | x :: r, h => ⟨(h 0 x rfl).1, (h 0 x rfl).2, Seqs.mk fun i e he => by
      have := h (i + 1) e (by simpa using he)
      exact ⟨this.1, by omega⟩⟩
theorem Up.lst {g : Nat} : ∀ {lo : Nat} {E : List Ent}, Up lo g E → Jn.lst lo E ≤ g
  | _, [], h => h
  | _, e :: r, h => show Jn.lst e.g r ≤ g from Up.lst (lo := e.g) (E := r) h.2
theorem Up.take {g : Nat} : ∀ {lo : Nat} {E : List Ent}, Up lo g E → ∀ k, Up lo g (E.take k)
  | lo, [], h, k => by simpa using h
  | lo, e :: r, h, 0 => by
    have h2 : Jn.lst lo (e :: r) ≤ g := Up.lst h
    show lo ≤ g
    exact Nat.le_trans h.1 (Nat.le_trans (Up.ge h.2) (Up.lst h.2))
  | lo, e :: r, h, k + 1 => ⟨h.1, Up.take h.2 k⟩
where
  Up.ge {g : Nat} : ∀ {lo : Nat} {E : List Ent}, Up lo g E → lo ≤ Jn.lst lo E
    | _, [], _ => Nat.le_refl _
    | _, _ :: _, h => Nat.le_trans h.1 (Up.ge h.2)
theorem Up.mem {g : Nat} : ∀ {lo : Nat} {E : List Ent}, Up lo g E → ∀ e ∈ E, e.g ≤ g
  | _, [], _, _, h => by cases h
  | _, x :: r, h, e, he => by
    rcases List.mem_cons.1 he with rfl | h1
    · exact Nat.le_trans (Up.take.Up.ge h.2) (Up.lst h.2)
    · exact Up.mem h.2 e h1
theorem Up.snoc {g : Nat} {y : Ent} (hy : y.g = g) : ∀ {lo : Nat} {E : List Ent}, Up lo g E → Up lo g (E ++ [y])
  | _, [], h => ⟨by rw [hy]; exact h, by rw [hy]; exact Nat.le_refl g⟩
  | _, _ :: _, h => ⟨h.1, Up.snoc hy h.2⟩
theorem Up.drop {g : Nat} : ∀ {lo : Nat} {E : List Ent}, Up lo g E → ∀ k, Up (Jn.lst lo (E.take k)) g (E.drop k)
  | _, E, h, 0 => by simpa [Jn.lst] using h
  | _, [], h, k + 1 => by simpa [Jn.lst] using h
  | _, _ :: _, h, k + 1 => Up.drop h.2 k
theorem Up.more {g g' : Nat} (hg : g ≤ g') : ∀ {lo : Nat} {E : List Ent}, Up lo g E → Up lo g' E
  | _, [], h => Nat.le_trans (show _ ≤ g from h) hg
  | _, _ :: _, h => ⟨h.1, Up.more hg h.2⟩

/-- What is found is just what is there, if what is behind it is refused. -/
theorem load_eq {A : List Sec} {n gen : Nat} : ∀ {E : List Ent} {k q lo : Nat}, Seqs q E → Up lo gen E → E.length ≤ k → (∀ i e, E[i]? = some e → A.getD (2 + (q + i) % n) [] = esec e) →
    (E.length < k → ∀ e, une (A.getD (2 + (q + E.length) % n) []) = some e → e.s = q + E.length → e.g < lst lo E) → load A n gen k q lo = E
  | [], 0, _, _, _, _, _, _, _ => rfl
  | [], k + 1, q, lo, _, _, _, _, h => by
    cases hu : une (A.getD (2 + q % n) []) with
    | none => exact load_nil hu
    | some e =>
      refine load_no hu fun h2 => ?_
      have h3 : e.g < lo := h (by simp) e (by simpa using hu) (by simpa using h2.1)
      omega
  | x :: r, 0, _, _, _, _, hk, _, _ => by simp at hk
  | x :: r, k + 1, q, lo, hs, hu, hk, hc, h => by
    have h0 : A.getD (2 + q % n) [] = esec x := by simpa using hc 0 x rfl
    rw [load_yes (e := x) (by rw [h0]; exact une_some hs.1) ⟨hs.2.1, hu.1, Nat.le_trans (Up.take.Up.ge hu.2) (Up.lst hu.2)⟩]
    congr 1
    refine load_eq hs.2.2 hu.2 (by simpa using hk) (fun i e he => ?_) (fun hl e he hq => ?_)
    · have := hc (i + 1) e (by simpa using he)
      rw [show q + 1 + i = q + (i + 1) by omega]
      exact this
    · have e1 : q + 1 + r.length = q + (x :: r).length := by simp; omega
      rw [e1] at he hq
      exact h (by simpa using hl) e he hq

end Go.Proofs.YtapiogcoipeinaaDoor.Jn

/-
  What is always so of a journal's sectors between calls: what is flushed is found, what is loose may be lost from any place on, and nothing that was lost is found again. Plain theorems, no program.
-/
namespace Go.Proofs.YtapiogcoipeinaaDoor.Jn
open Pk Sm Rc Dk

/-! ### Sectors behind a crash -/
theorem crash_other (K : Nat) {i : Nat} : ∀ {L : List Wr} {k : Nat} {S : List Sec}, (∀ x ∈ L, x.1 ≠ i) → (crash K k L S)[i]? = S[i]?
  | [], _, _, _ => rfl
  | x :: L, k, S, h => by
    show (crash K (k + 1) L _)[i]? = _
    rw [crash_other K (fun y hy => h y (by simp [hy]))]
    split
    · rw [done, List.getElem?_set_ne (h x (by simp))]
    · rfl
theorem crash_at (K : Nat) : ∀ {L : List Wr} {k j : Nat} {S : List Sec} {x : Wr}, L.Pairwise (fun a b => a.1 ≠ b.1) → L[j]? = some x → x.1 < S.length →
    (crash K k L S)[x.1]? = if K.testBit ((k + j) % 64) then some x.2 else S[x.1]?
  | [], _, _, _, _, _, h, _ => by simp at h
  | y :: L, k, 0, S, x, hp, h, hx => by
    simp at h
    subst h
    show (crash K (k + 1) L _)[_]? = _
    rw [crash_other K (fun z hz => Ne.symm ((List.pairwise_cons.1 hp).1 z hz)), Nat.add_zero]
    split
    · simp [done, hx]
    · rfl
  | y :: L, k, j + 1, S, x, hp, h, hx => by
    have h' : L[j]? = some x := by simpa using h
    have hne : y.1 ≠ x.1 := (List.pairwise_cons.1 hp).1 x (List.mem_of_getElem? h')
    show (crash K (k + 1) L _)[_]? = _
    have hq : ∀ S' : List Sec, S'.length = S.length → S'[x.1]? = S[x.1]? → (crash K (k + 1) L S')[x.1]? = if K.testBit ((k + (j + 1)) % 64) then some x.2 else S[x.1]? := fun S' hl he => by
      rw [crash_at K (List.pairwise_cons.1 hp).2 h' (by omega), he, show k + 1 + j = k + (j + 1) by omega]
    split
    · exact hq _ (by simp [done]) (by rw [done, List.getElem?_set_ne hne])
    · exact hq _ rfl rfl
theorem getD_of {A : List Sec} {i : Nat} {s : Sec} (h : A[i]? = some s) : A.getD i [] = s := by simp [List.getD_eq_getElem?_getD, h]
theorem getD_same {A B : List Sec} {i : Nat} (h : A[i]? = B[i]?) : A.getD i [] = B.getD i [] := by simp [List.getD_eq_getElem?_getD, h]
theorem slot_ne {n a i j : Nat} (hi : i < n) (hj : j < n) (hne : i ≠ j) : (a + i) % n ≠ (a + j) % n := by
  intro h
  have e1 := Nat.div_add_mod (a + i) n
  have e2 := Nat.div_add_mod (a + j) n
  rw [h] at e1
  rcases Nat.lt_trichotomy ((a + i) / n) ((a + j) / n) with hl | hl | hl
  · have := Nat.mul_le_mul_left n (show (a + i) / n + 1 ≤ (a + j) / n from hl)
    rw [Nat.mul_succ] at this
    omega
  · rw [hl] at e1
    omega
  · have := Nat.mul_le_mul_left n (show (a + j) / n + 1 ≤ (a + i) / n from hl)
    rw [Nat.mul_succ] at this
    omega

/-- Where a record is written. -/
def wr (n : Nat) (e : Ent) : Wr := (2 + e.s % n, esec e)
def wrs (n : Nat) (E : List Ent) : List Wr := E.map (wr n)

/-- S: the sectors; E: what is held, of which the first D are flushed; B: what lies there of numbers that are not flushed, is of generations below B. -/
structure Jg (S : List Sec) (n : Nat) (h : Hd) (E : List Ent) (D B : Nat) : Prop where
  ring : 1 ≤ n
  size : 2 + n ≤ S.length
  head : HOk (h.t % 2) h ∧ S.getD (h.t % 2) [] = hsec h
  other : ∀ x, unh (1 - h.t % 2) (S.getD (1 - h.t % 2) []) = some x → x.t < h.t
  few : E.length ≤ n
  seqs : Seqs h.f E
  up : Up h.l h.g E
  le : D ≤ E.length
  dur : ∀ i e, i < D → E[i]? = some e → S.getD (2 + (h.f + i) % n) [] = esec e
  gap : ∀ i, D ≤ i → i ≤ E.length → i < n → ∀ e, une (S.getD (2 + (h.f + i) % n) []) = some e → e.s = h.f + i → e.g < lst h.l (E.take i)
  ghost : ∀ c, c < n → ∀ e, une (S.getD (2 + c) []) = some e → h.f + D ≤ e.s → e.g < B

section
variable {S : List Sec} {n : Nat} {h : Hd} {E : List Ent} {D B : Nat}
theorem Jg.cur (j : Jg S n h E D B) : cur S = some h := by
  have hp : h.t % 2 = 0 ∨ h.t % 2 = 1 := by omega
  have hh : unh (h.t % 2) (S.getD (h.t % 2) []) = some h := by rw [j.head.2]; exact unh_some j.head.1
  have ho := j.other
  unfold Jn.cur
  rcases hp with hp | hp
  · rw [hp] at hh ho
    cases hu : unh 1 (S.getD 1 []) with
    | none => rw [hh]
    | some x =>
      have := ho x hu
      rw [hh]
      exact congrArg some (if_neg (by omega))
  · rw [hp] at hh ho
    cases hu : unh 0 (S.getD 0 []) with
    | none => rw [hh]
    | some x =>
      have := ho x hu
      rw [hh]
      exact congrArg some (if_pos this)
theorem Jg.load (j : Jg S n h E E.length B) : load S n h.g n h.f h.l = E :=
  load_eq j.seqs j.up j.few (fun i e he => j.dur i e (List.getElem?_eq_some_iff.1 he).1 he) fun hl e he hq => by
    have := j.gap E.length (Nat.le_refl _) (Nat.le_refl _) hl e he hq
    rwa [List.take_length] at this
theorem Jg.more (j : Jg S n h E D B) {B' : Nat} (hB : B ≤ B') : Jg S n h E D B' :=
  { j with ghost := fun c hc e he hq => Nat.lt_of_lt_of_le (j.ghost c hc e he hq) hB }
/-- One more record. -/
theorem Jg.append (j : Jg S n h E D B) (hB : B ≤ h.g) (hl : E.length < n) {y : Ent} (hy : EOk y) (hs : y.s = h.f + E.length) (hg : y.g = h.g) : Jg S n h (E ++ [y]) D B where
  ring := j.ring
  size := j.size
  head := j.head
  other := j.other
  few := by simp; omega
  seqs := Seqs.mk fun i e he => by
    rcases Nat.lt_or_ge i E.length with hi | hi
    · rw [List.getElem?_append_left hi] at he
      exact j.seqs.get he
    · rw [List.getElem?_append_right hi] at he
      have hi2 : i - E.length = 0 := by
        rcases Nat.eq_zero_or_pos (i - E.length) with h0 | h0
        · exact h0
        · rw [List.getElem?_eq_none (by simp; omega)] at he; cases he
      rw [hi2] at he
      simp at he
      subst he
      exact ⟨hy, by omega⟩
  up := j.up.snoc hg
  le := by have := j.le; simp; omega
  dur := fun i e hi he => by
    rw [List.getElem?_append_left (by have := j.le; omega)] at he
    exact j.dur i e hi he
  gap := fun i hD hi hn e he hq => by
    rcases Nat.lt_or_ge E.length i with h1 | h1
    · have hi' : i = E.length + 1 := by simp at hi; omega
      rw [List.take_of_length_le (by simp; omega), lst_append]
      show e.g < y.g
      have hmod : (h.f + i) % n < n := Nat.mod_lt _ (by have := j.ring; omega)
      have := j.ghost _ hmod e he (by omega)
      omega
    · rw [List.take_append_of_le_length h1]
      exact j.gap i hD h1 hn e he hq
  ghost := j.ghost

theorem wrs_get {F : List Ent} {i : Nat} {e : Ent} (he : F[i]? = some e) : (wrs n F)[i]? = some (wr n e) := by simp [wrs, he]
theorem wrs_length (F : List Ent) : (wrs n F).length = F.length := by simp [wrs]
theorem wrs_pair {q : Nat} : ∀ {F : List Ent}, Seqs q F → F.length ≤ n → (wrs n F).Pairwise (fun a b => a.1 ≠ b.1) := fun {F} hs hl => by
  rw [List.pairwise_iff_getElem]
  intro i k hi hk hik
  rw [wrs_length] at hi hk
  have h1 := hs.get (List.getElem?_eq_getElem hi)
  have h2 := hs.get (List.getElem?_eq_getElem hk)
  simp only [wrs, List.getElem_map, wr]
  rw [h1.2, h2.2]
  have := slot_ne (n := n) (a := q) (i := i) (j := k) (by omega) (by omega) (by omega)
  omega
theorem seqs_drop {q : Nat} {F : List Ent} (hs : Seqs q F) (k : Nat) : Seqs (q + k) (F.drop k) := Seqs.mk fun i e he => by
  rw [List.getElem?_drop] at he
  have := hs.get he
  exact ⟨this.1, by omega⟩
theorem seqs_take {q : Nat} {F : List Ent} (hs : Seqs q F) (k : Nat) : Seqs q (F.take k) := Seqs.mk fun i e he => by
  rw [List.getElem?_take] at he
  split at he
  · exact hs.get he
  · cases he

/-- The first one that is not kept. -/
theorem first_gap (K : Nat) : ∀ m : Nat, ∃ j, j ≤ m ∧ (∀ i, i < j → K.testBit (i % 64) = true) ∧ (j < m → K.testBit (j % 64) = false)
  | 0 => ⟨0, Nat.le_refl _, fun i hi => by omega, fun h => by omega⟩
  | m + 1 => by
    obtain ⟨j, h1, h2, h3⟩ := first_gap K m
    rcases Nat.lt_or_ge j m with hl | hl
    · exact ⟨j, by omega, h2, fun _ => h3 hl⟩
    · obtain rfl : j = m := by omega
      cases hb : K.testBit (j % 64) with
      | false => exact ⟨j, by omega, h2, fun _ => hb⟩
      | true =>
        refine ⟨j + 1, Nat.le_refl _, fun i hi => ?_, fun h => by omega⟩
        rcases Nat.lt_or_ge i j with h4 | h4
        · exact h2 i h4
        · obtain rfl : i = j := by omega
          exact hb

/-- What a crash leaves in the ring's sectors. -/
theorem Jg.slot (j : Jg S n h E D B) (K : Nat) {c : Nat} (hc : c < n) :
    (∃ i e, D ≤ i ∧ E[i]? = some e ∧ (h.f + i) % n = c ∧ ((K.testBit ((i - D) % 64) = true ∧ (crash K 0 (wrs n (E.drop D)) S).getD (2 + c) [] = esec e) ∨ (K.testBit ((i - D) % 64) = false ∧ (crash K 0 (wrs n (E.drop D)) S).getD (2 + c) [] = S.getD (2 + c) []))) ∨
    ((∀ i e, D ≤ i → E[i]? = some e → (h.f + i) % n ≠ c) ∧ (crash K 0 (wrs n (E.drop D)) S).getD (2 + c) [] = S.getD (2 + c) []) := by
  by_cases hx : ∃ i e, D ≤ i ∧ E[i]? = some e ∧ (h.f + i) % n = c
  · obtain ⟨i, e, hi, he, hq⟩ := hx
    refine Or.inl ⟨i, e, hi, he, hq, ?_⟩
    have hes := j.seqs.get he
    have hd : (E.drop D)[i - D]? = some e := by rw [List.getElem?_drop, show D + (i - D) = i by omega]; exact he
    have hp := wrs_pair (n := n) (seqs_drop j.seqs D) (by have := j.few; rw [List.length_drop]; omega)
    have ha := crash_at K (k := 0) (S := S) hp (wrs_get (n := n) hd) (by have := j.size; simp only [wr]; rw [hes.2, hq]; omega)
    have hw : (wr n e).1 = 2 + c := by simp only [wr]; rw [hes.2, hq]
    rw [hw, Nat.zero_add] at ha
    cases hb : K.testBit ((i - D) % 64) with
    | true =>
      rw [hb, if_pos rfl] at ha
      exact Or.inl ⟨rfl, getD_of ha⟩
    | false =>
      rw [hb, if_neg Bool.false_ne_true] at ha
      exact Or.inr ⟨rfl, getD_same ha⟩
  · refine Or.inr ⟨fun i e hi he hq => hx ⟨i, e, hi, he, hq⟩, getD_same (crash_other K fun x hxm => ?_)⟩
    simp only [wrs, List.mem_map] at hxm
    obtain ⟨e, he, rfl⟩ := hxm
    obtain ⟨k, hk⟩ := List.getElem?_of_mem he
    rw [List.getElem?_drop] at hk
    have hes := j.seqs.get hk
    simp only [wr]
    rw [hes.2]
    intro e2
    exact hx ⟨D + k, e, by omega, hk, by omega⟩
theorem Jg.heads (_j : Jg S n h E D B) (K : Nat) {c : Nat} (hc : c < 2) : (crash K 0 (wrs n (E.drop D)) S).getD c [] = S.getD c [] := by
  refine getD_same (crash_other K fun x hx => ?_)
  simp only [wrs, List.mem_map] at hx
  obtain ⟨e, _, rfl⟩ := hx
  simp only [wr]
  omega

/-- Behind a crash the first ones alone are there. -/
theorem Jg.crash (j : Jg S n h E D B) (K : Nat) (hB : B ≤ h.g + 1) :
    ∃ i, D ≤ i ∧ i ≤ E.length ∧ Jg (crash K 0 (wrs n (E.drop D)) S) n h (E.take i) i (h.g + 1) ∧ ((∀ b, b < 64 → K.testBit b = true) → i = E.length) := by
  obtain ⟨q, hq1, hq2, hq3⟩ := first_gap K (E.length - D)
  have hle := j.le
  have hfew := j.few
  have hlen : (E.take (D + q)).length = D + q := by rw [List.length_take]; omega
  refine ⟨D + q, by omega, by omega, ?_, fun hall => ?_⟩
  · refine ⟨j.ring, by rw [crash_length]; exact j.size, ⟨j.head.1, by rw [j.heads K (Nat.mod_lt _ (by omega))]; exact j.head.2⟩, fun x hx => j.other x (by rw [← j.heads K (by omega)]; exact hx), by omega, seqs_take j.seqs _, j.up.take _, by omega, ?_, ?_, ?_⟩
    · intro i e hi he
      rw [List.getElem?_take, if_pos hi] at he
      have hmod : (h.f + i) % n < n := Nat.mod_lt _ (by have := j.ring; omega)
      rcases j.slot K hmod with ⟨i', e', h1, h2, h3, h4⟩ | ⟨h1, h2⟩
      · have hi' : i' = i := by
          by_cases hne : i' = i
          · exact hne
          · exact absurd h3 (slot_ne (by have := (List.getElem?_eq_some_iff.1 h2).1; omega) (by omega) hne)
        subst hi'
        obtain rfl : e' = e := Option.some.inj (h2.symm.trans he)
        rcases h4 with h4 | h4
        · exact h4.2
        · have := hq2 (i' - D) (by omega)
          rw [this] at h4
          cases h4.1
      · rw [h2]
        have hiD : i < D := by
          rcases Nat.lt_or_ge i D with hd | hd
          · exact hd
          · exact absurd rfl (h1 i e hd he)
        exact j.dur i e hiD he
    · intro i h1 h2 h3 e he hs
      obtain rfl : i = D + q := by omega
      rw [List.take_of_length_le (by omega)]
      have hmod : (h.f + (D + q)) % n < n := Nat.mod_lt _ (by have := j.ring; omega)
      refine j.gap (D + q) (by omega) (by omega) h3 e ?_ hs
      rcases j.slot K hmod with ⟨i', e', k1, k2, k3, k4⟩ | ⟨k1, k2⟩
      · have hi' : i' = D + q := by
          by_cases hne : i' = D + q
          · exact hne
          · exact absurd k3 (slot_ne (by have := (List.getElem?_eq_some_iff.1 k2).1; omega) (by omega) hne)
        subst hi'
        have hlt := (List.getElem?_eq_some_iff.1 k2).1
        rcases k4 with k4 | k4
        · have := hq3 (by omega)
          rw [show D + q - D = q by omega, this] at k4
          cases k4.1
        · rw [← k4.2]; exact he
      · rw [← k2]; exact he
    · intro c hc e he hs
      rcases j.slot K hc with ⟨i', e', k1, k2, k3, k4⟩ | ⟨k1, k2⟩
      · rcases k4 with k4 | k4
        · rw [k4.2, une_some (j.seqs.get k2).1] at he
          cases he
          have := j.up.mem e (List.mem_of_getElem? k2)
          omega
        · rw [k4.2] at he
          have := j.ghost c hc e he (by omega)
          omega
      · rw [k2] at he
        have := j.ghost c hc e he (by omega)
        omega
  · have : q = E.length - D := by
      rcases Nat.lt_or_ge q (E.length - D) with hl | hl
      · have := hq3 hl
        rw [hall _ (Nat.mod_lt _ (by omega))] at this
        cases this
      · omega
    omega
theorem all_crash : ∀ (L : List Wr) (k : Nat) (S : List Sec), Dk.crash 18446744073709551615 k L S = all S L
  | [], _, _ => rfl
  | x :: L, k, S => by
    show Dk.crash _ (k + 1) L (if (18446744073709551615 : Nat).testBit (k % 64) then done S x else S) = _
    rw [if_pos (by rw [show (18446744073709551615 : Nat) = 2 ^ 64 - 1 by decide, Nat.testBit_two_pow_sub_one]; simp; omega), all_crash L]
    rfl
/-- All is flushed. -/
theorem Jg.flush (j : Jg S n h E D B) (hB : B ≤ h.g + 1) : Jg (all S (wrs n (E.drop D))) n h E E.length B := by
  obtain ⟨i, h1, h2, h3, h4⟩ := j.crash 18446744073709551615 hB
  obtain rfl : i = E.length := h4 fun b hb => by rw [show (18446744073709551615 : Nat) = 2 ^ 64 - 1 by decide, Nat.testBit_two_pow_sub_one]; simp; omega
  rw [all_crash, List.take_length] at h3
  refine { h3 with ghost := fun c hc e he hs => ?_ }
  have hsl := j.slot 18446744073709551615 hc
  rw [all_crash] at hsl
  have hle := j.le
  rcases hsl with ⟨i', e', k1, k2, k3, k4⟩ | ⟨k1, k2⟩
  · rcases k4 with k4 | k4
    · rw [k4.2, une_some (j.seqs.get k2).1] at he
      cases he
      have := (j.seqs.get k2).2
      have := (List.getElem?_eq_some_iff.1 k2).1
      omega
    · rw [k4.2] at he
      exact j.ghost c hc e he (by omega)
  · rw [k2] at he
    exact j.ghost c hc e he (by omega)

theorem getD_set_same {A : List Sec} {i : Nat} {s : Sec} (h : i < A.length) : (A.set i s).getD i [] = s := getD_of (by simp [h])
theorem getD_set_ne {A : List Sec} {i k : Nat} {s : Sec} (h : i ≠ k) : (A.set i s).getD k [] = A.getD k [] := getD_same (by rw [List.getElem?_set_ne h])
/-- A new head is saved: records and numbers as told. -/
theorem Jg.save (j : Jg S n h E E.length B) {h' : Hd} {k : Nat} (ht : h'.t = h.t + 1) (hok : HOk (h'.t % 2) h') (hk : k ≤ E.length) (hf : h'.f = h.f + k) (hl : h'.l = lst h.l (E.take k)) (hg : h.g ≤ h'.g) (hB : B ≤ h'.g) :
    Jg (S.set ((h.t + 1) % 2) (hsec h')) n h' (E.drop k) (E.length - k) h'.g := by
  have hsz := j.size
  have hring := j.ring
  have hfew := j.few
  have h2 : ∀ c, ((h.t + 1) % 2 ≠ 2 + c) := fun c => by omega
  have hdl : (E.drop k).length = E.length - k := List.length_drop
  refine ⟨j.ring, by rw [List.length_set]; exact j.size, ⟨hok, ?_⟩, ?_, by omega, ?_, ?_, by omega, ?_, ?_, ?_⟩
  · rw [ht, getD_set_same (by omega)]
  · intro x hx
    rw [ht, getD_set_ne (by omega), show 1 - (h.t + 1) % 2 = h.t % 2 by omega, j.head.2, unh_some j.head.1] at hx
    cases hx
    omega
  · rw [hf]; exact seqs_drop j.seqs k
  · rw [hl]; exact (j.up.drop k).more hg
  · intro i e hi he
    rw [List.getElem?_drop] at he
    rw [getD_set_ne (h2 _), hf, show h.f + k + i = h.f + (k + i) by omega]
    exact j.dur _ e (by omega) he
  · intro i h1 h3 h4 e he hs
    obtain rfl : i = E.length - k := by omega
    rw [getD_set_ne (h2 _), hf, show h.f + k + (E.length - k) = h.f + E.length by omega] at he
    rw [hf, show h.f + k + (E.length - k) = h.f + E.length by omega] at hs
    rw [List.take_of_length_le (by omega), hl, ← lst_append, List.take_append_drop]
    by_cases hn : E.length < n
    · have := j.gap E.length (Nat.le_refl _) (Nat.le_refl _) hn e he hs
      rwa [List.take_length] at this
    · obtain ⟨x, hx⟩ : ∃ x, E[0]? = some x := ⟨_, List.getElem?_eq_getElem (by omega)⟩
      have hd := j.dur 0 x (by omega) hx
      have hq := j.seqs.get hx
      rw [show h.f + E.length = h.f + 0 + n by omega, Nat.add_mod_right, hd, une_some hq.1] at he
      cases he
      omega
  · intro c hc e he hs
    rw [getD_set_ne (h2 _)] at he
    have := j.ghost c hc e he (by omega)
    omega
end
/-- The first journal on a fresh disk. -/
theorem Jg.fresh {n N : Nat} (hn : 1 ≤ n) (hN : 2 + n ≤ N) : Jg ((List.replicate N zer).set 1 (hsec ⟨1, 1, 1, 0⟩)) n ⟨1, 1, 1, 0⟩ [] 0 1 := by
  have hz : ∀ c, c < N → (List.replicate N zer).getD c [] = zer := fun c hc => getD_of (by simp [hc])
  refine ⟨hn, by simpa using hN, ⟨⟨by decide, by decide, by decide, by decide, by decide, by decide, rfl⟩, getD_set_same (by simp; omega)⟩, ?_, Nat.zero_le _, trivial, ?_, Nat.le_refl _, fun i e hi _ => by omega, ?_, ?_⟩
  · intro x hx
    rw [show 1 - 1 % 2 = 0 by rfl, getD_set_ne (by omega), hz 0 (by omega), unh_zer] at hx
    cases hx
  · show 0 ≤ 1
    omega
  · intro i _ h2 h3 e he
    rw [getD_set_ne (by omega), hz _ (by have := Nat.mod_lt ((Hd.mk 1 1 1 0).f + i) (show 0 < n by omega); omega), une_zer] at he
    cases he
  · intro c hc e he
    rw [getD_set_ne (by omega), hz _ (by omega), une_zer] at he
    cases he
theorem cur_fresh {N : Nat} (hN : 2 ≤ N) : cur (List.replicate N zer) = some ⟨0, 1, 0, 0⟩ := by
  have hz : ∀ c, c < N → (List.replicate N zer).getD c [] = zer := fun c hc => getD_of (by simp [hc])
  unfold cur
  rw [hz 0 (by omega), hz 1 (by omega), unh_zer, unh_zer]
  exact if_pos ⟨rfl, rfl⟩
theorem load_fresh {n N : Nat} (hn : 1 ≤ n) (hN : 2 + n ≤ N) : load (List.replicate N zer) n 0 n 1 0 = [] := by
  obtain ⟨k, rfl⟩ : ∃ k, n = k + 1 := ⟨n - 1, by omega⟩
  refine load_nil ?_
  rw [getD_of (s := zer) (by rw [List.getElem?_replicate, if_pos]; have := Nat.mod_lt 1 (show 0 < k + 1 by omega); omega), une_zer]

end Go.Proofs.YtapiogcoipeinaaDoor.Jn

/-
  The contracts of the journal's heads: encode gives the head's sector; read reads four numbers; decode tells the head that a sector contains, or none; blank tells whether a sector is fresh. Nothing that was there is changed. Condition: the table of half bytes holds what the program's own text lays.
-/
namespace Go.Proofs.YtapiogcoipeinaaDoor.Jn
open Go.RowKit
open Pk Sm Fa Rc Dk

/-- A head by value. -/
abbrev hcs (t f g l : Nat) : Array Value := #[.int .i64 (t : Int), .int .i64 (f : Int), .int .i64 (g : Int), .int .i64 (l : Int)]
abbrev hd4 (h : Hd) : Value := .agg (hcs h.t h.f h.g h.l)
/-- A boxed head. -/
def Hx (w : World) (G t f g l : Nat) : Prop := w.heap[G]? = some (.cells (hcs t f g l) 76 (0, 0))
section
variable {w w' : World} {G R e t f g l : Nat} {L : List UInt8}
theorem Hx.new (w : World) (t f g l : Nat) : Hx (w.alloc (.cells (hcs t f g l) 76)) w.heap.size t f g l := heap_alloc_new w _
theorem hx_below (w : World) (t f g l : Nat) : Below w.heap.size w (w.alloc (.cells (hcs t f g l) 76)) := (Below.refl _ _).alloc (Nat.le_refl _) _
theorem Hx.lt (h : Hx w G t f g l) : G < w.heap.size := (Array.getElem?_eq_some_iff.1 h).1
theorem Hx.below (h : Hx w G t f g l) (hb : Below w.heap.size w w') : Hx w' G t f g l := (hb.block G h.lt).trans h
theorem Hx.c0 (h : Hx w G t f g l) : w.cell? ⟨G, 0, none⟩ = some (.int .i64 (t : Int)) := by simp [World.cell?, show w.heap[G]? = _ from h]
theorem Hx.c1 (h : Hx w G t f g l) : w.cell? ⟨G, 1, none⟩ = some (.int .i64 (f : Int)) := by simp [World.cell?, show w.heap[G]? = _ from h]
theorem Hx.c2 (h : Hx w G t f g l) : w.cell? ⟨G, 2, none⟩ = some (.int .i64 (g : Int)) := by simp [World.cell?, show w.heap[G]? = _ from h]
theorem Hx.c3 (h : Hx w G t f g l) : w.cell? ⟨G, 3, none⟩ = some (.int .i64 (l : Int)) := by simp [World.cell?, show w.heap[G]? = _ from h]
theorem Hx.free (h : Hx w G t f g l) (i : Nat) : w.frozen? ⟨G, i, none⟩ = false := blk_free h i
theorem Hx.only (h : Hx w G t f g l) (hg : w.grownBy w' (some R)) (hne : G ≠ R) : Hx w' G t f g l := by
  obtain ⟨_, _, _, _, hk⟩ := hg
  exact (hk G h.lt (by simp; exact hne)).trans h
theorem Hx.set0 (h : Hx w G t f g l) (x : Nat) : Hx (w.setCell ⟨G, 0, none⟩ (.int .i64 (x : Int))) G x f g l := heap_setCell_same w G 0 _ _ (.int .i64 (x : Int)) h
theorem Hx.set1 (h : Hx w G t f g l) (x : Nat) : Hx (w.setCell ⟨G, 1, none⟩ (.int .i64 (x : Int))) G t x g l := heap_setCell_same w G 1 _ _ (.int .i64 (x : Int)) h
theorem Hx.set2 (h : Hx w G t f g l) (x : Nat) : Hx (w.setCell ⟨G, 2, none⟩ (.int .i64 (x : Int))) G t f x l := heap_setCell_same w G 2 _ _ (.int .i64 (x : Int)) h
theorem Hx.set3 (h : Hx w G t f g l) (x : Nat) : Hx (w.setCell ⟨G, 3, none⟩ (.int .i64 (x : Int))) G t f g x := heap_setCell_same w G 3 _ _ (.int .i64 (x : Int)) h
abbrev put4 (w : World) (G t f g l : Nat) : World :=
  (((w.setCell ⟨G, 0, none⟩ (.int .i64 (t : Int))).setCell ⟨G, 1, none⟩ (.int .i64 (f : Int))).setCell ⟨G, 2, none⟩ (.int .i64 (g : Int))).setCell ⟨G, 3, none⟩ (.int .i64 (l : Int))
theorem Hx.put (h : Hx w G t f g l) (t' f' g' l' : Nat) : Hx (put4 w G t' f' g' l') G t' f' g' l' := (((h.set0 t').set1 f').set2 g').set3 l'
theorem below_put4 {w0 w : World} {B G : Nat} (h : Below B w0 w) (hG : B ≤ G) (t f g l : Nat) : Below B w0 (put4 w G t f g l) :=
  (((h.setCell (p := ⟨G, 0, none⟩) hG _).setCell (p := ⟨G, 1, none⟩) hG _).setCell (p := ⟨G, 2, none⟩) hG _).setCell (p := ⟨G, 3, none⟩) hG _
/-- A reader is kept while a head's own fields are set. -/
theorem rd_keep {i : Nat} (hr : Rd w R L e) (h : Hx w G t f g l) (hne : G ≠ R) (v : Value) : Rd (w.setCell ⟨G, i, none⟩ v) R L e := by
  obtain ⟨A, c, h1, h2, h3, h4⟩ := hr
  refine ⟨A, c, (heap_setCell_other _ ⟨G, i, none⟩ R _ (fun e => hne e.symm)).trans h1, h2, h3, fun hn => ?_⟩
  obtain ⟨p, o, rfl, hp, hc⟩ := h4 hn
  refine ⟨p, o, rfl, hp, fun j u hu => ?_⟩
  have hcj := hc j u hu
  have hpG : p ≠ G := by
    rintro rfl
    simp only [World.cell?, show w.heap[p]? = _ from h] at hcj
    match hoj : o + j, hcj with
    | 0, hcj => simp [cel] at hcj
    | 1, hcj => simp [cel] at hcj
    | 2, hcj => simp [cel] at hcj
    | 3, hcj => simp [cel] at hcj
    | q + 4, hcj => simp at hcj
  rw [← hcj]
  have := heap_setCell_other w ⟨G, i, none⟩ p v hpG
  simp only [World.cell?, this]
end
theorem head_size : (Tryd.prog.info? 76).map (·.size) = some 4 := by kernel_rfl

theorem enc_three (t f g : Int) : ([] ++ enc (clamp t) ++ enc (clamp f) ++ enc (clamp g)).length ≤ 27 := by
  have h1 := enc_le (clamp t)
  have h2 := enc_le (clamp f)
  have h3 := enc_le (clamp g)
  simp only [List.length_append, List.length_nil]
  omega

set_option maxRecDepth 100000 in
set_option maxHeartbeats 1000000 in
theorem encode_any (h : Hd) (w : World) (ht : Tab w) :
    Calls Tryd.prog 52 #[hd4 h] w fun e w' => ∃ p o c, e = .returned (.slice (some ⟨p, o, none⟩) 64 c) ∧ 64 ≤ c ∧ c ≤ 9223372036854775807 ∧
      Byt w' w'.heap.size (some ⟨p, o, none⟩) (hsec h) ∧ Below w.heap.size w w' := by
  obtain ⟨t, f, g, l⟩ := h
  have hbx := Hx.new w t f g l
  have HB := hide (hx_below w t f g l)
  have hL3 := enc_three t f g
  have hL4 := hbod_le ⟨t, f, g, l⟩
  simp only [List.length_append] at hL3
  have HL := hide hL3
  have HL4 := hide hL4
  have Ht := hide ht
  have hpos := ht.pos
  clear hL3 hL4 ht
  go_enter Tryd.func52, Tryd.ntmps52
  go_wp2_with fail
  generalize w.alloc _ = w0 at *
  have hc0 := hbx.c0
  go_wp2_with fail
  have HN := hide (Number_any none [] 0 (t : Int) w0 Byt.nil (by simp))
  refine HN.out.mono ?_
  rintro e w1 ⟨v1, rfl, ho1, hb1⟩
  have hbx1 := hbx.below hb1
  have hc1 := hbx1.c1
  have HB1 := hide (HB.out.trans (hb1.mono HB.out.size))
  clear hbx HN hb1 HB hc0
  go_wp2_with fail
  refine (Number_own v1 _ _ (f : Int) w1 ho1 (by have := HL.out; simp only [List.length_append]; omega)).mono ?_
  rintro e w2 ⟨v2, rfl, ho2, hb2⟩
  have hbx2 := hbx1.below hb2
  have hc2 := hbx2.c2
  have HB2 := hide (HB1.out.trans (hb2.mono HB1.out.size))
  clear hbx1 hc1 hb2 ho1 HB1
  go_wp2_with fail
  refine (Number_own v2 _ _ (g : Int) w2 ho2 (by have := HL.out; simp only [List.length_append]; omega)).mono ?_
  rintro e w3 ⟨v3, rfl, ho3, hb3⟩
  have hbx3 := hbx2.below hb3
  have hc3 := hbx3.c3
  have HB3 := hide (HB2.out.trans (hb3.mono HB2.out.size))
  clear hbx2 hc2 hb3 ho2 HB2
  go_wp2_with fail
  refine (Number_own v3 _ _ (l : Int) w3 ho3 (by have := HL.out; simp only [List.length_append]; omega)).mono ?_
  rintro e w4 ⟨v4, rfl, ho4, hb4⟩
  have HB4 := hide (HB3.out.trans (hb4.mono HB3.out.size))
  have he : ([] ++ enc (clamp (t : Int)) ++ enc (clamp (f : Int)) ++ enc (clamp (g : Int)) ++ enc (clamp (l : Int))) = hbod ⟨t, f, g, l⟩ := by simp [hbod]
  rw [he] at ho4
  obtain ⟨A, c, rfl, hk1, hk2, hby⟩ := ho4.form
  have HS := hide (Sector_told A _ _ c w4 rfl (by have := HL4.out; omega) hby (Ht.out.below HB4.out hpos))
  clear hbx3 hc3 hb4 ho3 ho4 HB3 he hk1 hk2 hby
  go_wp2_with fail
  refine HS.out.mono ?_
  rintro r w5 ⟨p, o, c', rfl, hc1, hc2, _, hby5, hb5⟩
  have HB5 := hide (HB4.out.trans (hb5.mono HB4.out.size))
  have HY := hide hby5
  clear HS hby5 hb5
  go_wp2
  go_ret
  exact ⟨p, o, c', rfl, hc1, hc2, HY.out, HB5.out⟩

set_option maxRecDepth 100000 in
set_option maxHeartbeats 1000000 in
theorem read_any (A : Option Addr) (L : List UInt8) (n c : Nat) (w : World) (hn : L.length = n) (hb : Byt w w.heap.size A L) (hl : n ≤ c) (hc : c ≤ maxLen) (h : Hd) (hh : hgot L = h) :
    Calls Tryd.prog 65 #[.slice A n c] w fun e w' => e = .returned (hd4 h) ∧ Below w.heap.size w w' := by
  obtain ⟨t, L1, e1, h1⟩ : ∃ g l1 e1, rnum L 0 = (g, l1, e1) := ⟨_, _, _, rfl⟩
  obtain ⟨f, L2, e2, h2⟩ : ∃ s l2 e2, rnum L1 e1 = (s, l2, e2) := ⟨_, _, _, rfl⟩
  obtain ⟨g, L3, e3, h3⟩ : ∃ k l3 e3, rnum L2 e2 = (k, l3, e3) := ⟨_, _, _, rfl⟩
  obtain ⟨l, L4, e4, h4⟩ : ∃ m l4 e4, rnum L3 e3 = (m, l4, e4) := ⟨_, _, _, rfl⟩
  obtain rfl : (⟨t, f, g, l⟩ : Hd) = h := by rw [← hh]; exact (hgot_step h1 h2 h3 h4).symm
  clear hh
  have hbx := Hx.new w 0 0 0 0
  have hb0 := hx_below w 0 0 0 0
  have H1 := hide h1
  have H2 := hide h2
  have H3 := hide h3
  have H4 := hide h4
  clear h1 h2 h3 h4
  have hby0 := (hb.below hb0).more hb0.size
  have HB0 := hide hb0
  have Hn := hide hn
  clear hb0 hn
  go_enter Tryd.func65, Tryd.ntmps65
  go_wp2_with fail
  generalize w.alloc _ = w0 at *
  have hG0 := hbx.lt
  refine (Read_told A L n c w0 Hn.out hby0 hl hc).mono ?_
  rintro r w1 ⟨rfl, hr1, hb1⟩
  obtain ⟨R, hR⟩ : ∃ R, R = w0.heap.size := ⟨_, rfl⟩
  rw [← hR] at hr1 hb1 hG0
  have hRR := hide hR
  have hne : w.heap.size ≠ R := by omega
  have hbx1 : Hx w1 w.heap.size 0 0 0 0 := hbx.below (by rw [← hR]; exact hb1)
  have HB1 := hide (HB0.out.trans (hb1.mono (by rw [hR]; exact HB0.out.size)))
  have hRlt : w.heap.size ≤ R := by omega
  rw [← hR]
  clear hbx hb1 HB0 hby0 hb Hn hR hRR
  go_wp2_with fail
  refine (Number_at' R 0 L w1 hr1 t L1 e1 H1.out).mono ?_
  rintro r w2 ⟨rfl, hr2, hg2⟩
  have hbx2 := hbx1.only hg2 hne
  have HB2 := hide (HB1.out.trans (below_of_only hg2 hRlt hr1.lt))
  have hc0 := hbx2.c0
  have hf0 := hbx2.free 0
  have hr2' := rd_keep (i := 0) hr2 hbx2 hne (.int .i64 (t : Int))
  have hbx2' := hbx2.set0 t
  have HB2' := hide (HB2.out.setCell (p := ⟨w.heap.size, 0, none⟩) (Nat.le_refl _) (.int .i64 (t : Int)))
  clear hbx1 hg2 hr1 HB1 hr2 HB2 hbx2
  go_wp2_with fail
  generalize w2.setCell _ _ = w2' at *
  refine (Number_at' R e1 L1 w2' hr2' f L2 e2 H2.out).mono ?_
  rintro r w3 ⟨rfl, hr3, hg3⟩
  have hbx3 := hbx2'.only hg3 hne
  have HB3 := hide (HB2'.out.trans (below_of_only hg3 hRlt hr2'.lt))
  have hc1 := hbx3.c1
  have hf1 := hbx3.free 1
  have hr3' := rd_keep (i := 1) hr3 hbx3 hne (.int .i64 (f : Int))
  have hbx3' := hbx3.set1 f
  have HB3' := hide (HB3.out.setCell (p := ⟨w.heap.size, 1, none⟩) (Nat.le_refl _) (.int .i64 (f : Int)))
  clear hbx2' hg3 hr2' HB2' hr3 HB3 hbx3 hc0 hf0
  go_wp2_with fail
  generalize w3.setCell _ _ = w3' at *
  refine (Number_at' R e2 L2 w3' hr3' g L3 e3 H3.out).mono ?_
  rintro r w4 ⟨rfl, hr4, hg4⟩
  have hbx4 := hbx3'.only hg4 hne
  have HB4 := hide (HB3'.out.trans (below_of_only hg4 hRlt hr3'.lt))
  have hc2 := hbx4.c2
  have hf2 := hbx4.free 2
  have hr4' := rd_keep (i := 2) hr4 hbx4 hne (.int .i64 (g : Int))
  have hbx4' := hbx4.set2 g
  have HB4' := hide (HB4.out.setCell (p := ⟨w.heap.size, 2, none⟩) (Nat.le_refl _) (.int .i64 (g : Int)))
  clear hbx3' hg4 hr3' HB3' hr4 HB4 hbx4 hc1 hf1
  go_wp2_with fail
  generalize w4.setCell _ _ = w4' at *
  refine (Number_at' R e3 L3 w4' hr4' l L4 e4 H4.out).mono ?_
  rintro r w5 ⟨rfl, hr5, hg5⟩
  have hbx5 := hbx4'.only hg5 hne
  have HB5 := hide (HB4'.out.trans (below_of_only hg5 hRlt hr4'.lt))
  have hz0 := hbx5.c0
  have hz1 := hbx5.c1
  have hz2 := hbx5.c2
  have hz3 := hbx5.c3
  have hy0 := hbx5.free 0
  have hy1 := hbx5.free 1
  have hy2 := hbx5.free 2
  have hy3 := hbx5.free 3
  have HX := hide ((hbx5.set3 l).put t f g l)
  have HY := hide (below_put4 (HB5.out.setCell (p := ⟨w.heap.size, 3, none⟩) (Nat.le_refl _) (.int .i64 (l : Int))) (Nat.le_refl _) t f g l)
  clear hbx4' hg5 hr4' HB4' hr5 HB5 hbx5 hc2 hf2
  go_wp2
  refine bodyPost_ret (v := .agg (hcs t f g l)) (results_cell_row rfl _ _ w.heap.size 76 _ (0, 0) _ rfl (show _ from HX.out) Tryd.underlying76 rfl head_size) rfl ?_
  exact ⟨rfl, HY.out⟩

theorem zero_bytes : (madeCells #[.int .u8 0] 64).toList = cels zer := by kernel_rfl
set_option maxRecDepth 100000 in
set_option maxHeartbeats 1000000 in
theorem blank_any (A : Option Addr) (L : List UInt8) (n c : Nat) (w : World) (hn : L.length = n) (hb : Byt w w.heap.size A L) (v : Bool) (hv : ((str L).toList == (str zer).toList) = v) :
    Calls Tryd.prog 47 #[.slice A n c] w fun e w' => e = .returned (.bool v) ∧ Below w.heap.size w w' := by
  obtain ⟨i0, hi0, hz0, hz1, hz2⟩ := info_parts u8_info
  have Hz := hide hz1
  have Hz2 := hide hz2
  have Hn := hide hn
  have Hb := hide hb
  have Hv := hide hv
  clear hz1 hz2 hn hb hv
  go_enter Tryd.func47, Tryd.ntmps47
  go_wp2_with (with_reducible refine wpList_make_told rfl 83 _ _ rfl 5 i0 _ Tryd.underlying83 hi0 hz0 .i64 .i64 64 64 rfl rfl (by omega) (by rw [Hz2.out]; decide) (by omega) 1 Hz.out ?_)
  intro w1 Hw1
  have HB1 : Hid (Below w.heap.size w w1) := by rw [Hw1.out]; exact (Below.refl _ _).alloc (Nat.le_refl _) _
  have hg1 : w1.heap[w.heap.size]? = some (.cells (cels zer).toArray 5 (0, 0)) := by
    rw [Hw1.out]
    refine (heap_alloc_new w _).trans ?_
    rw [← zero_bytes, Array.toArray_toList]
  have HQ := hide (Equal_any A (some ⟨w.heap.size, 0, none⟩) n c 64 64 _ _ L zer w1 Hn.out (by rfl) (Hb.out.below HB1.out) (Sm.byt_row hg1) v Hv.out)
  clear hg1 Hw1
  go_wp2_with fail
  refine HQ.out.mono ?_
  rintro r w' ⟨rfl, rfl⟩
  clear HQ
  go_wp2
  go_ret
  exact ⟨rfl, HB1.out⟩

end Go.Proofs.YtapiogcoipeinaaDoor.Jn

/-
  The contract of the journal's decode: the head that a sector contains, and true; or none, and false. Nothing that was there is changed. Condition: the table of half bytes holds what the program's own text lays.
-/
namespace Go.Proofs.YtapiogcoipeinaaDoor.Jn
open Go.RowKit
open Pk Sm Fa Rc Dk

/-- Results of which the first one is a head in memory. -/
theorem results_ct {P : Program} {fn : Func} {p u : Tmp} {ty : TypeId} (h : fn.results = #[.cell p ty, .tmp u]) (tmps : Array Value) (w : World) (g : Nat) (T : TypeId) (cs : Array Value) (fr : Nat × Nat) (d : TypeDesc)
    (hp : tmps.getD p undef = .pointer (some ⟨g, 0, none⟩)) (hg : w.heap[g]? = some (.cells cs T fr))
    (hu : P.underlying ty = some d) (hd : (match d with | .struct _ | .array _ _ => true | _ => false) = true) (hi : (P.info? ty).map (·.size) = some cs.size) :
    (results fn tmps).run P w = .ok (.tuple #[.agg cs, tmps.getD u undef]) w := by
  have hp' : tmps[p]?.getD undef = .pointer (some ⟨g, 0, none⟩) := by simpa using hp
  simp [results, h, hp', asAddr, run_loadVar_row w g T ty cs fr d hg hu hd hi]

/-- None. -/
def NoHead (e : Ending) : Prop := e = .returned (.tuple #[hd4 ⟨0, 0, 0, 0⟩, .bool false])
theorem rem2 (t : Nat) (h : t ≤ 9223372036854775807) : (t : Int).tmod 2 = ((t % 2 : Nat) : Int) := by
  rw [Int.tmod_eq_emod_of_nonneg (by omega)]
  rfl

set_option maxRecDepth 100000 in
set_option maxHeartbeats 1000000 in
theorem decode_open (i : Nat) (A : Option Addr) (c : Nat) (L : List UInt8) (w : World) (hn : L.length = 64) (hc : 64 ≤ c) (hb : Byt w w.heap.size A L) (ht : Tab w) (hno : ∀ m, L ≠ seal4 m) :
    Calls Tryd.prog 46 #[.int .i64 (i : Int), .slice A 64 c] w fun e w' => NoHead e ∧ Below w.heap.size w w' := by
  have hbx := Hx.new w 0 0 0 0
  have HB := hide (hx_below w 0 0 0 0)
  have hpos := ht.pos
  have hby0 := (hb.below HB.out).more HB.out.size
  have ht0 := ht.below HB.out hpos
  have Hn := hide hn
  have Hno := hide hno
  clear hn hb ht hno
  go_enter Tryd.func46, Tryd.ntmps46
  go_wp2_with fail
  generalize w.alloc _ = w0 at *
  refine (Open_bad A 64 c L w0 Hn.out hc (by omega) hby0 ht0 Hno.out).mono ?_
  rintro r w1 ⟨rfl, hb1⟩
  have hbx1 := hbx.below hb1
  have HB1 := hide (HB.out.trans (hb1.mono HB.out.size))
  have hz0 := hbx1.c0
  have hz1 := hbx1.c1
  have hz2 := hbx1.c2
  have hz3 := hbx1.c3
  have hy0 := hbx1.free 0
  have hy1 := hbx1.free 1
  have hy2 := hbx1.free 2
  have hy3 := hbx1.free 3
  have HX := hide (hbx1.put 0 0 0 0)
  have HY := hide (below_put4 HB1.out (Nat.le_refl _) 0 0 0 0)
  clear hbx hb1 hby0 ht0 HB hbx1 HB1
  go_wp2
  refine bodyPost_ret (results_ct rfl _ _ w.heap.size 76 _ (0, 0) _ rfl (show _ from HX.out) Tryd.underlying76 rfl head_size) rfl ?_
  exact ⟨rfl, HY.out⟩

section
variable (i : Nat) (A : Option Addr) (c : Nat) (M : List UInt8) (w : World) (hm : M.length = 60) (hc : 64 ≤ c) (hb : Byt w w.heap.size A (seal4 M)) (ht : Tab w) (t f g l : Nat) (hgot : hgot M = ⟨t, f, g, l⟩)
include hm hc hb ht hgot
set_option maxRecDepth 100000 in
set_option maxHeartbeats 2000000 in
theorem decode_first (hf : f < 1) :
    Calls Tryd.prog 46 #[.int .i64 (i : Int), .slice A 64 c] w fun e w' => NoHead e ∧ Below w.heap.size w w' := by
  obtain ⟨q, hq⟩ : ∃ q, t % 2 = q := ⟨_, rfl⟩
  have hrem := rem2 t
  have h1 : (f : Int) < 1 := by omega
  clear hrem hq hf
  have hbx := Hx.new w 0 0 0 0
  have HB := hide (hx_below w 0 0 0 0)
  have hpos := ht.pos
  have hby0 := (hb.below HB.out).more HB.out.size
  have ht0 := ht.below HB.out hpos
  have Hm := hide hm
  have Hgot := hide hgot
  have Ht := hide ht
  clear ht hm hgot
  go_enter Tryd.func46, Tryd.ntmps46
  go_wp2_with fail
  generalize w.alloc _ = w0 at *
  refine (Open_good A 64 c 60 M w0 Hm.out rfl hc (by omega) hby0 ht0).mono ?_
  rintro r w1 ⟨b1, o1, rfl, hby1, hb1⟩
  have hbx1 := hbx.below hb1
  have HB1 := hide (HB.out.trans (hb1.mono HB.out.size))
  have hbyB1 := (hby0.below hb1).more hb1.size
  clear hbx hb1 hby0 ht0 HB hb
  go_wp2_with fail
  refine (read_any (some ⟨b1, o1, none⟩) M 60 60 w1 Hm.out hby1 (Nat.le_refl _) (by unfold maxLen; omega) _ Hgot.out).mono ?_
  rintro r w2 ⟨rfl, hb2⟩
  have hbx2 := hbx1.below hb2
  have HB2 := hide (HB1.out.trans (hb2.mono HB1.out.size))
  have hbyB2 := (hbyB1.below hb2).more hb2.size
  clear hbx1 hb2 hby1 hbyB1 HB1
  have hbl := hx_below w2 t f g l
  have hbr := Hx.new w2 t f g l
  have hbx3 := hbx2.below hbl
  have HB3 := hide (HB2.out.trans (hbl.mono HB2.out.size))
  have hbyB3 := (hbyB2.below hbl).more hbl.size
  clear hbl hbx2 hbyB2 HB2
  have hz0 := hbx3.c0
  have hy0 := hbx3.free 0
  have hz1 := hbx3.c1
  have hy1 := hbx3.free 1
  have hz2 := hbx3.c2
  have hy2 := hbx3.free 2
  have hz3 := hbx3.c3
  have hy3 := hbx3.free 3
  have HX := hide (hbx3.put 0 0 0 0)
  have HY := hide (below_put4 HB3.out (Nat.le_refl _) 0 0 0 0)
  clear hbx3 HB3 hbyB3 hbr
  go_wp2
  refine bodyPost_ret (results_ct rfl _ _ w.heap.size 76 _ (0, 0) _ rfl (show _ from HX.out) Tryd.underlying76 rfl head_size) rfl ?_
  exact ⟨rfl, HY.out⟩

set_option maxRecDepth 100000 in
set_option maxHeartbeats 2000000 in
theorem decode_low (hf : ¬ f < 1) (hl : g < l) :
    Calls Tryd.prog 46 #[.int .i64 (i : Int), .slice A 64 c] w fun e w' => NoHead e ∧ Below w.heap.size w w' := by
  obtain ⟨q, hq⟩ : ∃ q, t % 2 = q := ⟨_, rfl⟩
  have hrem := rem2 t
  have h1 : ¬ ((f : Int) < 1) := by omega
  have h2 : (g : Int) < (l : Int) := by omega
  clear hrem hq hf hl
  have hbx := Hx.new w 0 0 0 0
  have HB := hide (hx_below w 0 0 0 0)
  have hpos := ht.pos
  have hby0 := (hb.below HB.out).more HB.out.size
  have ht0 := ht.below HB.out hpos
  have Hm := hide hm
  have Hgot := hide hgot
  have Ht := hide ht
  clear ht hm hgot
  go_enter Tryd.func46, Tryd.ntmps46
  go_wp2_with fail
  generalize w.alloc _ = w0 at *
  refine (Open_good A 64 c 60 M w0 Hm.out rfl hc (by omega) hby0 ht0).mono ?_
  rintro r w1 ⟨b1, o1, rfl, hby1, hb1⟩
  have hbx1 := hbx.below hb1
  have HB1 := hide (HB.out.trans (hb1.mono HB.out.size))
  have hbyB1 := (hby0.below hb1).more hb1.size
  clear hbx hb1 hby0 ht0 HB hb
  go_wp2_with fail
  refine (read_any (some ⟨b1, o1, none⟩) M 60 60 w1 Hm.out hby1 (Nat.le_refl _) (by unfold maxLen; omega) _ Hgot.out).mono ?_
  rintro r w2 ⟨rfl, hb2⟩
  have hbx2 := hbx1.below hb2
  have HB2 := hide (HB1.out.trans (hb2.mono HB1.out.size))
  have hbyB2 := (hbyB1.below hb2).more hb2.size
  clear hbx1 hb2 hby1 hbyB1 HB1
  have hbl := hx_below w2 t f g l
  have hbr := Hx.new w2 t f g l
  have hbx3 := hbx2.below hbl
  have HB3 := hide (HB2.out.trans (hbl.mono HB2.out.size))
  have hbyB3 := (hbyB2.below hbl).more hbl.size
  clear hbl hbx2 hbyB2 HB2
  have hz0 := hbx3.c0
  have hy0 := hbx3.free 0
  have hz1 := hbx3.c1
  have hy1 := hbx3.free 1
  have hz2 := hbx3.c2
  have hy2 := hbx3.free 2
  have hz3 := hbx3.c3
  have hy3 := hbx3.free 3
  have HX := hide (hbx3.put 0 0 0 0)
  have HY := hide (below_put4 HB3.out (Nat.le_refl _) 0 0 0 0)
  clear hbx3 HB3 hbyB3 hbr
  go_wp2
  refine bodyPost_ret (results_ct rfl _ _ w.heap.size 76 _ (0, 0) _ rfl (show _ from HX.out) Tryd.underlying76 rfl head_size) rfl ?_
  exact ⟨rfl, HY.out⟩

set_option maxRecDepth 100000 in
set_option maxHeartbeats 2000000 in
theorem decode_turn (hf : ¬ f < 1) (hl : ¬ g < l) (hp : ¬ t % 2 = i) (hT : t ≤ 1152921504606846975) :
    Calls Tryd.prog 46 #[.int .i64 (i : Int), .slice A 64 c] w fun e w' => NoHead e ∧ Below w.heap.size w w' := by
  obtain ⟨q, hq⟩ : ∃ q, t % 2 = q := ⟨_, rfl⟩
  have hrem := rem2 t
  have h1 : ¬ ((f : Int) < 1) := by omega
  have h2 : ¬ ((g : Int) < (l : Int)) := by omega
  have h3 : (t : Int).tmod 2 = (q : Int) := by rw [hrem (by omega), hq]
  have h4 : ((q : Int) != (i : Int)) = true := by simp; omega
  clear hrem hq hf hl hp
  have hbx := Hx.new w 0 0 0 0
  have HB := hide (hx_below w 0 0 0 0)
  have hpos := ht.pos
  have hby0 := (hb.below HB.out).more HB.out.size
  have ht0 := ht.below HB.out hpos
  have Hm := hide hm
  have Hgot := hide hgot
  have Ht := hide ht
  clear ht hm hgot
  go_enter Tryd.func46, Tryd.ntmps46
  go_wp2_with fail
  generalize w.alloc _ = w0 at *
  refine (Open_good A 64 c 60 M w0 Hm.out rfl hc (by omega) hby0 ht0).mono ?_
  rintro r w1 ⟨b1, o1, rfl, hby1, hb1⟩
  have hbx1 := hbx.below hb1
  have HB1 := hide (HB.out.trans (hb1.mono HB.out.size))
  have hbyB1 := (hby0.below hb1).more hb1.size
  clear hbx hb1 hby0 ht0 HB hb
  go_wp2_with fail
  refine (read_any (some ⟨b1, o1, none⟩) M 60 60 w1 Hm.out hby1 (Nat.le_refl _) (by unfold maxLen; omega) _ Hgot.out).mono ?_
  rintro r w2 ⟨rfl, hb2⟩
  have hbx2 := hbx1.below hb2
  have HB2 := hide (HB1.out.trans (hb2.mono HB1.out.size))
  have hbyB2 := (hbyB1.below hb2).more hb2.size
  clear hbx1 hb2 hby1 hbyB1 HB1
  have hbl := hx_below w2 t f g l
  have hbr := Hx.new w2 t f g l
  have hbx3 := hbx2.below hbl
  have HB3 := hide (HB2.out.trans (hbl.mono HB2.out.size))
  have hbyB3 := (hbyB2.below hbl).more hbl.size
  clear hbl hbx2 hbyB2 HB2
  have hz0 := hbx3.c0
  have hy0 := hbx3.free 0
  have hz1 := hbx3.c1
  have hy1 := hbx3.free 1
  have hz2 := hbx3.c2
  have hy2 := hbx3.free 2
  have hz3 := hbx3.c3
  have hy3 := hbx3.free 3
  have HX := hide (hbx3.put 0 0 0 0)
  have HY := hide (below_put4 HB3.out (Nat.le_refl _) 0 0 0 0)
  clear hbx3 HB3 hbyB3 hbr
  go_wp2
  refine bodyPost_ret (results_ct rfl _ _ w.heap.size 76 _ (0, 0) _ rfl (show _ from HX.out) Tryd.underlying76 rfl head_size) rfl ?_
  exact ⟨rfl, HY.out⟩

set_option maxRecDepth 100000 in
set_option maxHeartbeats 2000000 in
theorem decode_unlike (hf : ¬ f < 1) (hl : ¬ g < l) (hp : t % 2 = i) (hT : t ≤ 1152921504606846975) (he : ((str (hsec ⟨t, f, g, l⟩)).toList == (str (seal4 M)).toList) = false) :
    Calls Tryd.prog 46 #[.int .i64 (i : Int), .slice A 64 c] w fun e w' => NoHead e ∧ Below w.heap.size w w' := by
  obtain ⟨q, hq⟩ : ∃ q, t % 2 = q := ⟨_, rfl⟩
  have hrem := rem2 t
  have h1 : ¬ ((f : Int) < 1) := by omega
  have h2 : ¬ ((g : Int) < (l : Int)) := by omega
  have h3 : (t : Int).tmod 2 = (i : Int) := by rw [hrem (by omega), hp]
  have HE := hide he
  clear hrem hq hf hl hp he
  have hbx := Hx.new w 0 0 0 0
  have HB := hide (hx_below w 0 0 0 0)
  have hpos := ht.pos
  have hby0 := (hb.below HB.out).more HB.out.size
  have ht0 := ht.below HB.out hpos
  have Hm := hide hm
  have Hgot := hide hgot
  have Ht := hide ht
  clear ht hm hgot
  go_enter Tryd.func46, Tryd.ntmps46
  go_wp2_with fail
  generalize w.alloc _ = w0 at *
  refine (Open_good A 64 c 60 M w0 Hm.out rfl hc (by omega) hby0 ht0).mono ?_
  rintro r w1 ⟨b1, o1, rfl, hby1, hb1⟩
  have hbx1 := hbx.below hb1
  have HB1 := hide (HB.out.trans (hb1.mono HB.out.size))
  have hbyB1 := (hby0.below hb1).more hb1.size
  clear hbx hb1 hby0 ht0 HB hb
  go_wp2_with fail
  refine (read_any (some ⟨b1, o1, none⟩) M 60 60 w1 Hm.out hby1 (Nat.le_refl _) (by unfold maxLen; omega) _ Hgot.out).mono ?_
  rintro r w2 ⟨rfl, hb2⟩
  have hbx2 := hbx1.below hb2
  have HB2 := hide (HB1.out.trans (hb2.mono HB1.out.size))
  have hbyB2 := (hbyB1.below hb2).more hb2.size
  clear hbx1 hb2 hby1 hbyB1 HB1
  have hbl := hx_below w2 t f g l
  have hbr := Hx.new w2 t f g l
  have hbx3 := hbx2.below hbl
  have HB3 := hide (HB2.out.trans (hbl.mono HB2.out.size))
  have hbyB3 := (hbyB2.below hbl).more hbl.size
  clear hbl hbx2 hbyB2 HB2
  go_wp2_with fail
  generalize w2.alloc _ = w3 at *
  refine (encode_any ⟨t, f, g, l⟩ w3 (Ht.out.below HB3.out hpos)).mono ?_
  rintro r w4 ⟨p4, o4, c4, rfl, _, _, hby4, hb4⟩
  have hbx4 := hbx3.below hb4
  have hbr4 := hbr.below hb4
  have HB4 := hide (HB3.out.trans (hb4.mono HB3.out.size))
  have hbyB4 := hbyB3.below hb4
  have HQ := hide (Equal_any (some ⟨p4, o4, none⟩) A 64 c4 64 c _ _ _ _ w4 (hsec_length _) (by rw [seal4_length, Hm.out]) hby4 hbyB4 _ HE.out)
  clear hbx3 hb4 hbyB3 HB3 hbr hbyB4 hby4
  go_wp2_with fail
  refine HQ.out.mono ?_
  rintro r w' ⟨rfl, rfl⟩
  clear HQ
  have hz0 := hbx4.c0
  have hy0 := hbx4.free 0
  have hz1 := hbx4.c1
  have hy1 := hbx4.free 1
  have hz2 := hbx4.c2
  have hy2 := hbx4.free 2
  have hz3 := hbx4.c3
  have hy3 := hbx4.free 3
  have HX := hide (hbx4.put 0 0 0 0)
  have HY := hide (below_put4 HB4.out (Nat.le_refl _) 0 0 0 0)
  clear hbx4 hbr4 HB4
  go_wp2
  refine bodyPost_ret (results_ct rfl _ _ w.heap.size 76 _ (0, 0) _ rfl (show _ from HX.out) Tryd.underlying76 rfl head_size) rfl ?_
  exact ⟨rfl, HY.out⟩

set_option maxRecDepth 100000 in
set_option maxHeartbeats 2000000 in
theorem decode_same (hf : ¬ f < 1) (hl : ¬ g < l) (hp : t % 2 = i) (hT : t ≤ 1152921504606846975) (he : ((str (hsec ⟨t, f, g, l⟩)).toList == (str (seal4 M)).toList) = true) :
    Calls Tryd.prog 46 #[.int .i64 (i : Int), .slice A 64 c] w fun e w' => e = .returned (.tuple #[hd4 ⟨t, f, g, l⟩, .bool true]) ∧ Below w.heap.size w w' := by
  obtain ⟨q, hq⟩ : ∃ q, t % 2 = q := ⟨_, rfl⟩
  have hrem := rem2 t
  have h1 : ¬ ((f : Int) < 1) := by omega
  have h2 : ¬ ((g : Int) < (l : Int)) := by omega
  have h3 : (t : Int).tmod 2 = (i : Int) := by rw [hrem (by omega), hp]
  have HE := hide he
  clear hrem hq hf hl hp he
  have hbx := Hx.new w 0 0 0 0
  have HB := hide (hx_below w 0 0 0 0)
  have hpos := ht.pos
  have hby0 := (hb.below HB.out).more HB.out.size
  have ht0 := ht.below HB.out hpos
  have Hm := hide hm
  have Hgot := hide hgot
  have Ht := hide ht
  clear ht hm hgot
  go_enter Tryd.func46, Tryd.ntmps46
  go_wp2_with fail
  generalize w.alloc _ = w0 at *
  refine (Open_good A 64 c 60 M w0 Hm.out rfl hc (by omega) hby0 ht0).mono ?_
  rintro r w1 ⟨b1, o1, rfl, hby1, hb1⟩
  have hbx1 := hbx.below hb1
  have HB1 := hide (HB.out.trans (hb1.mono HB.out.size))
  have hbyB1 := (hby0.below hb1).more hb1.size
  clear hbx hb1 hby0 ht0 HB hb
  go_wp2_with fail
  refine (read_any (some ⟨b1, o1, none⟩) M 60 60 w1 Hm.out hby1 (Nat.le_refl _) (by unfold maxLen; omega) _ Hgot.out).mono ?_
  rintro r w2 ⟨rfl, hb2⟩
  have hbx2 := hbx1.below hb2
  have HB2 := hide (HB1.out.trans (hb2.mono HB1.out.size))
  have hbyB2 := (hbyB1.below hb2).more hb2.size
  clear hbx1 hb2 hby1 hbyB1 HB1
  have hbl := hx_below w2 t f g l
  have hbr := Hx.new w2 t f g l
  have hbx3 := hbx2.below hbl
  have HB3 := hide (HB2.out.trans (hbl.mono HB2.out.size))
  have hbyB3 := (hbyB2.below hbl).more hbl.size
  clear hbl hbx2 hbyB2 HB2
  go_wp2_with fail
  generalize w2.alloc _ = w3 at *
  refine (encode_any ⟨t, f, g, l⟩ w3 (Ht.out.below HB3.out hpos)).mono ?_
  rintro r w4 ⟨p4, o4, c4, rfl, _, _, hby4, hb4⟩
  have hbx4 := hbx3.below hb4
  have hbr4 := hbr.below hb4
  have HB4 := hide (HB3.out.trans (hb4.mono HB3.out.size))
  have hbyB4 := hbyB3.below hb4
  have HQ := hide (Equal_any (some ⟨p4, o4, none⟩) A 64 c4 64 c _ _ _ _ w4 (hsec_length _) (by rw [seal4_length, Hm.out]) hby4 hbyB4 _ HE.out)
  clear hbx3 hb4 hbyB3 HB3 hbr hbyB4 hby4
  go_wp2_with fail
  refine HQ.out.mono ?_
  rintro r w' ⟨rfl, rfl⟩
  clear HQ
  have hz0 := hbx4.c0
  have hy0 := hbx4.free 0
  have hz1 := hbx4.c1
  have hy1 := hbx4.free 1
  have hz2 := hbx4.c2
  have hy2 := hbx4.free 2
  have hz3 := hbx4.c3
  have hy3 := hbx4.free 3
  have hx0 := hbr4.c0
  have hx1 := hbr4.c1
  have hx2 := hbr4.c2
  have hx3 := hbr4.c3
  have HX := hide (hbx4.put t f g l)
  have HY := hide (below_put4 HB4.out (Nat.le_refl _) t f g l)
  clear hbx4 hbr4 HB4
  go_wp2
  refine bodyPost_ret (results_ct rfl _ _ w.heap.size 76 _ (0, 0) _ rfl (show _ from HX.out) Tryd.underlying76 rfl head_size) rfl ?_
  exact ⟨rfl, HY.out⟩

end

/-- What a sector contains. -/
theorem decode_any (i : Nat) (A : Option Addr) (c : Nat) (L : List UInt8) (w : World) (hn : L.length = 64) (hc : 64 ≤ c) (hb : Byt w w.heap.size A L) (ht : Tab w) :
    Calls Tryd.prog 46 #[.int .i64 (i : Int), .slice A 64 c] w fun e w' => (match unh i L with | none => NoHead e | some h => e = .returned (.tuple #[hd4 h, .bool true])) ∧ Below w.heap.size w w' := by
  by_cases hs : ∃ m, L = seal4 m
  · obtain ⟨M, rfl⟩ := hs
    have hM : M.length = 60 := by have := hn; rw [seal4_length] at this; omega
    obtain ⟨n1, n2, n3, n4⟩ := hgot_num M
    have key : ∀ x, HOk i x → seal4 M = hsec x → hgot M = x := fun x hx he => by
      have := seal4_inj he
      rw [this, hgot_pad hx]
    by_cases hv : HOk i (hgot M)
    · by_cases he : seal4 M = hsec (hgot M)
      · rw [show unh i (seal4 M) = some (hgot M) by rw [he]; exact unh_some hv]
        refine decode_same i A c M w hM hc hb ht (hgot M).t (hgot M).f (hgot M).g (hgot M).l rfl (by have := hv.pos; omega) (by have := hv.low; omega) hv.par n1 ?_
        rw [str_same]
        exact decide_eq_true he.symm
      · rw [unh_none (fun x hx h2 => he (by rw [key x hx h2]; exact h2))]
        refine decode_unlike i A c M w hM hc hb ht (hgot M).t (hgot M).f (hgot M).g (hgot M).l rfl (by have := hv.pos; omega) (by have := hv.low; omega) hv.par n1 ?_
        rw [str_same]
        exact decide_eq_false fun e => he e.symm
    · rw [unh_none (fun x hx h2 => hv (by rw [key x hx h2]; exact hx))]
      by_cases h1 : (hgot M).f < 1
      · exact decode_first i A c M w hM hc hb ht (hgot M).t (hgot M).f (hgot M).g (hgot M).l rfl h1
      · by_cases h2 : (hgot M).g < (hgot M).l
        · exact decode_low i A c M w hM hc hb ht (hgot M).t (hgot M).f (hgot M).g (hgot M).l rfl h1 h2
        · refine decode_turn i A c M w hM hc hb ht (hgot M).t (hgot M).f (hgot M).g (hgot M).l rfl h1 h2 (fun h3 => hv ⟨n1, n2, n3, n4, by omega, by omega, h3⟩) n1
  · have hno : ∀ m, L ≠ seal4 m := fun m e => hs ⟨m, e⟩
    rw [unh_none (fun x _ => hno _)]
    exact decode_open i A c L w hn hc hb ht hno

end Go.Proofs.YtapiogcoipeinaaDoor.Jn

/-
  The contract of the journal's comparing of heads by their turns, and of the library's MaxFunc over one head, or two. Nothing that was there is changed.
-/
namespace Go.Proofs.YtapiogcoipeinaaDoor.Jn
open Go.RowKit
open Pk Sm Fa Rc Dk

theorem isNaN_any (n : Int) (w : World) : Calls Tryd.prog 78 #[.int .i64 n] w fun e w' => e = .returned (.bool false) ∧ w = w' := by
  go_enter Tryd.func78, Tryd.ntmps78
  go_wp2
  go_ret
  exact ⟨rfl, rfl⟩
section
variable (a b : Int) (w : World)
theorem Compare_lt (h : a < b) : Calls Tryd.prog 66 #[.int .i64 a, .int .i64 b] w fun e w' => e = .returned (.int .i64 (-1)) ∧ w = w' := by
  have HA := hide (isNaN_any a w)
  have HB := hide (isNaN_any b w)
  go_enter Tryd.func66, Tryd.ntmps66
  go_wp2_with fail
  refine HA.out.mono ?_
  rintro e w' ⟨rfl, rfl⟩
  go_wp2_with fail
  refine HB.out.mono ?_
  rintro e w' ⟨rfl, rfl⟩
  go_wp2
  go_ret
  exact ⟨rfl, rfl⟩
theorem Compare_gt (h : b < a) : Calls Tryd.prog 66 #[.int .i64 a, .int .i64 b] w fun e w' => e = .returned (.int .i64 1) ∧ w = w' := by
  have HA := hide (isNaN_any a w)
  have HB := hide (isNaN_any b w)
  have h2 : ¬ a < b := by omega
  go_enter Tryd.func66, Tryd.ntmps66
  go_wp2_with fail
  refine HA.out.mono ?_
  rintro e w' ⟨rfl, rfl⟩
  go_wp2_with fail
  refine HB.out.mono ?_
  rintro e w' ⟨rfl, rfl⟩
  go_wp2
  go_ret
  exact ⟨rfl, rfl⟩
theorem Compare_eq (h : a = b) : Calls Tryd.prog 66 #[.int .i64 a, .int .i64 b] w fun e w' => e = .returned (.int .i64 0) ∧ w = w' := by
  subst h
  have HA := hide (isNaN_any a w)
  go_enter Tryd.func66, Tryd.ntmps66
  go_wp2_with fail
  refine HA.out.mono ?_
  rintro e w' ⟨rfl, rfl⟩
  go_wp2_with fail
  refine HA.out.mono ?_
  rintro e w' ⟨rfl, rfl⟩
  go_wp2
  go_ret
  exact ⟨rfl, rfl⟩
end
/-- Below, equal, or above. -/
def cmpI (a b : Int) : Int := if a < b then -1 else if b < a then 1 else 0
theorem Compare_any (a b : Int) (w : World) : Calls Tryd.prog 66 #[.int .i64 a, .int .i64 b] w fun e w' => e = .returned (.int .i64 (cmpI a b)) ∧ w = w' := by
  unfold cmpI
  rcases Int.lt_trichotomy a b with h | h | h
  · rw [if_pos h]; exact Compare_lt a b w h
  · rw [if_neg (by omega), if_neg (by omega)]; exact Compare_eq a b w h
  · rw [if_neg (by omega), if_pos h]; exact Compare_gt a b w h

set_option maxRecDepth 100000 in
theorem byTurn_any (a b : Hd) (w : World) : Calls Tryd.prog 49 #[hd4 a, hd4 b] w fun e w' => e = .returned (.int .i64 (cmpI a.t b.t)) ∧ Below w.heap.size w w' := by
  obtain ⟨t, f, g, l⟩ := a
  obtain ⟨t', f', g', l'⟩ := b
  have HB := hide ((hx_below w t f g l).trans ((hx_below (w.alloc (.cells (hcs t f g l) 76)) t' f' g' l').mono (hx_below w t f g l).size))
  go_enter Tryd.func49, Tryd.ntmps49
  go_wp2_with fail
  refine (Compare_any t t' _).mono ?_
  rintro e w' ⟨rfl, rfl⟩
  go_wp2
  go_ret
  exact ⟨rfl, HB.out⟩

/-- Heads side by side. -/
def hcells (F : List Hd) : List Value := F.flatMap fun h => (hcs h.t h.f h.g h.l).toList
theorem hcells_one (h : Hd) : ∀ u ∈ (hcs h.t h.f h.g h.l).toList, u.oneCell' = true := by
  intro u hu
  simp at hu
  rcases hu with rfl | rfl | rfl | rfl <;> rfl

/-- The greater one by its turn; the first one, if neither is. -/
def later (a b : Hd) : Hd := if a.t < b.t then b else a
theorem cmp_pos (a b : Hd) : 0 < cmpI b.t a.t ↔ a.t < b.t := by
  unfold cmpI
  split
  · omega
  · split <;> omega

set_option maxRecDepth 100000 in
set_option maxHeartbeats 2000000 in
theorem Max_one (a : Hd) (g c : Nat) (w : World) (hr : w.rangeAt g 0 (hcells [a])) (hg : g < w.heap.size) :
    Calls Tryd.prog 48 #[.slice (some ⟨g, 0, none⟩) 1 c, .func (.func 49) #[] #[]] w fun e w' => e = .returned (hd4 a) ∧ Below w.heap.size w w' := by
  obtain ⟨t, f, gg, l⟩ := a
  have HR := hide hr
  have h0 := hr 0 _ rfl
  have h1 := hr 1 _ rfl
  have h2 := hr 2 _ rfl
  have h3 := hr 3 _ rfl
  simp only [Nat.zero_add] at h0 h1 h2 h3
  have hb1 := hx_below w 0 0 0 0
  have hb2 := hx_below (w.alloc (.cells (hcs 0 0 0 0) 76)) t f gg l
  have HX0 := hide ((Hx.new w 0 0 0 0).below hb2)
  have HX1 := hide (show Hx ((w.alloc (.cells (hcs 0 0 0 0) 76)).alloc (.cells (hcs t f gg l) 76)) (w.heap.size + 1) t f gg l by have := Hx.new (w.alloc (.cells (hcs 0 0 0 0) 76)) t f gg l; simpa using this)
  have HY := hide (hb1.trans (hb2.mono hb1.size))
  clear hr hb1 hb2
  go_enter Tryd.func48, Tryd.ntmps48
  go_wp2
  go_loopw [6] (fun j wr => j = .int .i64 1 ∧ Hid (Hx wr w.heap.size 0 0 0 0) ∧ Hid (Hx wr (w.heap.size + 1) t f gg l) ∧ Hid (Below w.heap.size w wr)) (fun _ _ => 0)
  case atStart => exact ⟨rfl, HX0, HX1, HY⟩
  case round =>
    obtain ⟨rfl, hx0, hx1, hb⟩ := hrel
    have hz0 := hx1.out.c0
    have hz1 := hx1.out.c1
    have hz2 := hx1.out.c2
    have hz3 := hx1.out.c3
    have hw0 := hx0.out.c0
    have hw1 := hx0.out.c1
    have hw2 := hx0.out.c2
    have hw3 := hx0.out.c3
    have hy0 := hx0.out.free 0
    have hy1 := hx0.out.free 1
    have hy2 := hx0.out.free 2
    have hy3 := hx0.out.free 3
    have HX := hide (hx0.out.put t f gg l)
    have HF := hide (below_put4 hb.out (Nat.le_refl _) t f gg l)
    clear hx0 hx1 hb h0 h1 h2 h3
    go_wp2
    refine bodyPost_ret (v := .agg (hcs t f gg l)) (results_cell_row rfl _ _ w.heap.size 76 _ (0, 0) _ rfl (show _ from HX.out) Tryd.underlying76 rfl head_size) rfl ?_
    exact ⟨rfl, HF.out⟩

set_option maxRecDepth 100000 in
set_option maxHeartbeats 2000000 in
theorem Max_two (a b : Hd) (g c : Nat) (w : World) (hr : w.rangeAt g 0 (hcells [a, b])) (hg : g < w.heap.size) :
    Calls Tryd.prog 48 #[.slice (some ⟨g, 0, none⟩) 2 c, .func (.func 49) #[] #[]] w fun e w' => e = .returned (hd4 (later a b)) ∧ Below w.heap.size w w' := by
  have hcm := cmp_pos a b
  obtain ⟨cm, hcd⟩ : ∃ x, x = cmpI b.t a.t := ⟨_, rfl⟩
  have HBT : Hid (∀ W, Calls Tryd.prog 49 #[hd4 b, hd4 a] W fun e w' => e = .returned (.int .i64 cm) ∧ Below W.heap.size W w') := fun W => by rw [hcd]; exact byTurn_any b a W
  rw [← hcd] at hcm
  have HL1 := hide (show a.t < b.t → later a b = b from fun h => if_pos h)
  have HL2 := hide (show ¬ a.t < b.t → later a b = a from fun h => if_neg h)
  generalize later a b = z at *
  obtain ⟨tz, fz, gz, lz⟩ := z
  obtain ⟨t', f', gg', l'⟩ := b
  obtain ⟨t, f, gg, l⟩ := a
  have HR := hide hr
  have h0 := hr 0 _ rfl
  have h1 := hr 1 _ rfl
  have h2 := hr 2 _ rfl
  have h3 := hr 3 _ rfl
  simp only [Nat.zero_add] at h0 h1 h2 h3
  have hb1 := hx_below w 0 0 0 0
  have hb2 := hx_below (w.alloc (.cells (hcs 0 0 0 0) 76)) t f gg l
  have HX0 := hide ((Hx.new w 0 0 0 0).below hb2)
  have HX1 := hide (show Hx ((w.alloc (.cells (hcs 0 0 0 0) 76)).alloc (.cells (hcs t f gg l) 76)) (w.heap.size + 1) t f gg l by have := Hx.new (w.alloc (.cells (hcs 0 0 0 0) 76)) t f gg l; simpa using this)
  have HY := hide (hb1.trans (hb2.mono hb1.size))
  have Hcm := hide hcm
  clear hcm hcd
  clear hr hb1 hb2
  go_enter Tryd.func48, Tryd.ntmps48
  go_wp2
  go_loopw [6] (fun j wr => ∃ (k t1 f1 g1 l1 : Nat), k ≤ 2 ∧ 1 ≤ k ∧ j = .int .i64 k ∧ Hid (k = 1 → t1 = t ∧ f1 = f ∧ g1 = gg ∧ l1 = l) ∧ Hid (k = 2 → t1 = tz ∧ f1 = fz ∧ g1 = gz ∧ l1 = lz) ∧ Hid (Hx wr w.heap.size 0 0 0 0) ∧ Hid (Hx wr (w.heap.size + 1) t1 f1 g1 l1) ∧ Hid (Below w.heap.size w wr)) (fun j _ => 2 - (intOf j).toNat)
  case atStart => exact ⟨1, t, f, gg, l, by omega, by omega, rfl, fun _ => ⟨rfl, rfl, rfl, rfl⟩, fun h => by omega, HX0, HX1, HY⟩
  case round =>
    obtain ⟨k, t1, f1, g1, l1, hk2, hk1, rfl, he1, he2, hx0, hx1, hb⟩ := hrel
    rcases (by omega : k = 2 ∨ k = 1) with rfl | rfl
    · obtain ⟨rfl, rfl, rfl, rfl⟩ := he2.out rfl
      clear he1 he2 hk2 hk1
      have hz0 := hx1.out.c0
      have hz1 := hx1.out.c1
      have hz2 := hx1.out.c2
      have hz3 := hx1.out.c3
      have hw0 := hx0.out.c0
      have hw1 := hx0.out.c1
      have hw2 := hx0.out.c2
      have hw3 := hx0.out.c3
      have hy0 := hx0.out.free 0
      have hy1 := hx0.out.free 1
      have hy2 := hx0.out.free 2
      have hy3 := hx0.out.free 3
      have HX := hide (hx0.out.put t1 f1 g1 l1)
      have HF := hide (below_put4 hb.out (Nat.le_refl _) t1 f1 g1 l1)
      clear hx0 hx1 hb h0 h1 h2 h3
      go_wp2
      refine bodyPost_ret (v := .agg (hcs t1 f1 g1 l1)) (results_cell_row rfl _ _ w.heap.size 76 _ (0, 0) _ rfl (show _ from HX.out) Tryd.underlying76 rfl head_size) rfl ?_
      exact ⟨rfl, HF.out⟩
    · obtain ⟨rfl, rfl, rfl, rfl⟩ := he1.out rfl
      have hc0 := hx1.out.c0
      have hc1 := hx1.out.c1
      have hc2 := hx1.out.c2
      have hc3 := hx1.out.c3
      have k4 := (hb.out.cell (p := ⟨g, 4, none⟩) hg).trans (by simpa using HR.out 4 _ rfl)
      have k5 := (hb.out.cell (p := ⟨g, 5, none⟩) hg).trans (by simpa using HR.out 5 _ rfl)
      have k6 := (hb.out.cell (p := ⟨g, 6, none⟩) hg).trans (by simpa using HR.out 6 _ rfl)
      have k7 := (hb.out.cell (p := ⟨g, 7, none⟩) hg).trans (by simpa using HR.out 7 _ rfl)
      have Hg := hide hg
      have hsz := hb.out.size
      have Hsz := hide hsz
      have HTT := hide (HBT.out wr.drew)
      clear h0 h1 h2 h3 he1 he2 hk2 hk1 hsz
      go_wp2_with fail
      go_region_with (refine HTT.out.mono ?_; rintro r w2 ⟨rfl, hb2⟩; have HB2 := hide hb2; clear hb2)
      all_goals
        have hb3 : Below w.heap.size w w2 := (Below.drew hb.out).trans (HB2.out.mono Hsz.out)
        have hx0' := hx0.out.below (w' := w2) ((Below.refl _ _).drew.trans HB2.out)
        have hx1' := hx1.out.below (w' := w2) ((Below.refl _ _).drew.trans HB2.out)
        have HY3 := hide hb3
        have HX0' := hide hx0'
        by_cases hcp : t1 < t'
        · have hcp2 : cm > 0 := Hcm.out.2 hcp
          have e := HL1.out hcp
          simp only [Hd.mk.injEq] at e
          obtain ⟨rfl, rfl, rfl, rfl⟩ := e
          have j4 := (hb3.cell (p := ⟨g, 4, none⟩) Hg.out).trans (by simpa using HR.out 4 _ rfl)
          have j5 := (hb3.cell (p := ⟨g, 5, none⟩) Hg.out).trans (by simpa using HR.out 5 _ rfl)
          have j6 := (hb3.cell (p := ⟨g, 6, none⟩) Hg.out).trans (by simpa using HR.out 6 _ rfl)
          have j7 := (hb3.cell (p := ⟨g, 7, none⟩) Hg.out).trans (by simpa using HR.out 7 _ rfl)
          have hc0 := hx1'.c0
          have hc1 := hx1'.c1
          have hc2 := hx1'.c2
          have hc3 := hx1'.c3
          have hy0 := hx1'.free 0
          have hy1 := hx1'.free 1
          have hy2 := hx1'.free 2
          have hy3 := hx1'.free 3
          have HX2 := hide (hx1'.put tz fz gz lz)
          have HXK := hide (show Hx (put4 w2 (w.heap.size + 1) tz fz gz lz) w.heap.size 0 0 0 0 from (by
            show (put4 w2 (w.heap.size + 1) tz fz gz lz).heap[w.heap.size]? = _
            simp only [put4]
            rw [heap_setCell_other _ _ _ _ (by show w.heap.size ≠ w.heap.size + 1; omega), heap_setCell_other _ _ _ _ (by show w.heap.size ≠ w.heap.size + 1; omega), heap_setCell_other _ _ _ _ (by show w.heap.size ≠ w.heap.size + 1; omega), heap_setCell_other _ _ _ _ (by show w.heap.size ≠ w.heap.size + 1; omega)]
            exact hx0'))
          have HF := hide (below_put4 hb3 (show w.heap.size ≤ w.heap.size + 1 by omega) tz fz gz lz)
          clear hb3 hx0' hx1' k4 k5 k6 k7 hcp
          go_wp2
          go_roundw
          case rel => exact ⟨2, tz, fz, gz, lz, by omega, by omega, by go_num, fun h => by omega, fun _ => ⟨rfl, rfl, rfl, rfl⟩, HXK.out, HX2.out, HF.out⟩
          case measure => simp [intOf]
        · have hcp2 : ¬ (cm > 0) := fun h => hcp (Hcm.out.1 h)
          have e := HL2.out hcp
          simp only [Hd.mk.injEq] at e
          obtain ⟨rfl, rfl, rfl, rfl⟩ := e
          have HX2 := hide hx1'
          clear hb3 hx0' hx1' k4 k5 k6 k7 hcp
          go_wp2
          go_roundw
          case rel => exact ⟨2, tz, fz, gz, lz, by omega, by omega, by go_num, fun h => by omega, fun _ => ⟨rfl, rfl, rfl, rfl⟩, HX0'.out, HX2.out, HY3.out⟩
          case measure => simp [intOf]
end Go.Proofs.YtapiogcoipeinaaDoor.Jn

/-
  The contract of the journal's current: the current head of a disk's sectors, and true; or false, if there is none and they are not fresh. Nothing that was there is changed. Condition: the table of half bytes holds what the program's own text lays.
-/
namespace Go.Proofs.YtapiogcoipeinaaDoor.Jn
open Go.RowKit
open Pk Sm Fa Rc Dk

/-- The heads that the first k sectors contain; are they fresh? -/
noncomputable def fnd (A : List Sec) : Nat → List Hd
  | 0 => []
  | k + 1 => fnd A k ++ (unh k (A.getD k [])).toList
def fsh (A : List Sec) : Nat → Bool
  | 0 => true
  | k + 1 => fsh A k && decide (A.getD k [] = zer)
theorem fnd_le (A : List Sec) : ∀ k, (fnd A k).length ≤ k
  | 0 => Nat.le_refl _
  | k + 1 => by
    rw [fnd, List.length_append]
    have := fnd_le A k
    have : (unh k (A.getD k [])).toList.length ≤ 1 := by cases unh k (A.getD k []) <;> simp
    omega
/-- What is found of two sectors. -/
theorem cur_fnd (A : List Sec) : cur A = match fnd A 2 with | [] => if fsh A 2 = true then some ⟨0, 1, 0, 0⟩ else none | [a] => some a | a :: b :: _ => some (later a b) := by
  unfold cur
  simp only [fnd, fsh, later]
  cases unh 0 (A.getD 0 []) <;> cases unh 1 (A.getD 1 []) <;> simp
theorem hcells_snoc (F : List Hd) (h : Hd) : hcells (F ++ [h]) = hcells F ++ (hcs h.t h.f h.g h.l).toList := by simp [hcells]
theorem head_info : (Tryd.prog.info? 76).map (fun i => (i.zero, i.size, i.bytes)) = some (some (hd4 ⟨0, 0, 0, 0⟩), 4, 32) := by kernel_rfl
theorem fnd_none {A : List Sec} {k : Nat} {s : Sec} (h : A.getD k [] = s) (hu : unh k s = none) : fnd A (k + 1) = fnd A k := by rw [fnd, h, hu]; simp
theorem fnd_some {A : List Sec} {k : Nat} {s : Sec} {x : Hd} (h : A.getD k [] = s) (hu : unh k s = some x) : fnd A (k + 1) = fnd A k ++ [x] := by rw [fnd, h, hu]; rfl

/-- The current head is told. -/
def NowO : Option Hd → Ending → Prop
  | none, e => ∃ h, e = .returned (.tuple #[hd4 h, .bool false])
  | some h, e => e = .returned (.tuple #[hd4 h, .bool true])
def NowIs (A : List Sec) (e : Ending) : Prop := NowO (cur A) e
theorem NowIs.mk {A : List Sec} {e : Ending} {o : Option Hd} (h : cur A = o) (h2 : NowO o e) : NowIs A e := by
  subst h
  exact h2
set_option maxRecDepth 100000 in
set_option maxHeartbeats 4000000 in
theorem current_any (w : World) (G : Nat → Prop) (p : Nat) (S : List Sec) (L : List Wr) (hd : Dsk w G p S L) (h2 : 2 ≤ S.length) (hL : L.length ≤ 1000000) (ht : Tab w) :
    Calls Tryd.prog 35 #[.pointer (some ⟨p, 0, none⟩)] w fun e w' => NowIs (all S L) e ∧ Below w.heap.size w w' := by
  obtain ⟨i0, hi0, hz0, hz1, hz2⟩ := info_parts head_info
  have Hz1 := hide hz1
  have Hz2 := hide hz2
  have HD := hide hd
  have H2 := hide h2
  have HL := hide hL
  have HT := hide ht
  have hpos := ht.pos
  have Hpos := hide hpos
  have HX0 := hide (Hx.new w 0 0 0 0)
  have HB0 := hide (hx_below w 0 0 0 0)
  have HA := hide (all_length L S)
  clear hz1 hz2 hd h2 hL ht hpos
  go_enter Tryd.func35, Tryd.ntmps35
  go_wp2
  go_loopw [4, 5, 11] (fun v fr j wr => ∃ k : Nat, k ≤ 2 ∧ j = .int .i64 k ∧ fr = .bool (fsh (all S L) k) ∧ Hid (wr.ownsRow (w.heap.size + 1) 76 4 v (fnd (all S L) k).length (hcells (fnd (all S L) k))) ∧ Hid (Hx wr w.heap.size 0 0 0 0) ∧ Hid (Below w.heap.size w wr)) (fun _ _ j _ => 2 - (intOf j).toNat)
  case atStart => exact ⟨0, by omega, rfl, rfl, World.ownsRow_nil _ _ _ _, HX0.out, HB0.out⟩
  case round =>
    obtain ⟨k, hk2, rfl, hfr, how, hx, hb⟩ := hrel
    rcases Nat.lt_or_ge k 2 with hlt | hge
    · have hki : (k : Int) < 2 := by omega
      have Hlt := hide hlt
      have hkS : k < S.length := by have := H2.out; omega
      obtain ⟨s, hs⟩ : ∃ s, (all S L)[k]? = some s := ⟨_, List.getElem?_eq_getElem (by rw [HA.out]; exact hkS)⟩
      have hgd : (all S L).getD k [] = s := by simp [List.getD_eq_getElem?_getD, hs]
      have hls : s.length = 64 := (HD.out.full.all HD.out.fits) s (List.mem_of_getElem? hs)
      have HR := hide (Read_any wr G p k S L s (HD.out.below hb.out) hs hkS HL.out)
      have Hls := hide hls
      have Hgd := hide hgd
      have HF1 := hide (show fsh (all S L) (k + 1) = (fsh (all S L) k && decide (s = zer)) by rw [← hgd]; rfl)
      have HE1 := hide (fun hu => fnd_none (A := all S L) hgd hu)
      have HE2 := hide (fun x hu => fnd_some (A := all S L) (x := x) hgd hu)
      have hfl := fnd_le (all S L) k
      generalize fnd (all S L) k = F at *
      generalize fsh (all S L) k = B at *
      subst hfr
      obtain ⟨VA, vc, rfl, hv1, hv2, hv3⟩ := row_form how.out
      obtain ⟨m, hm⟩ : ∃ m, F.length = m := ⟨_, rfl⟩
      rw [hm] at how hfl
      rw [hm]
      have HMF := hide hm
      have Hfl := hide hfl
      clear hv1 hv2 hv3 hm
      clear hs hgd hls hlt hkS hfl
      go_wp2_with fail
      refine HR.out.mono ?_
      rintro e w2 ⟨g, rfl, hgs, hg2, hb2⟩
      have HB2 := hide (hb.out.trans (hb2.mono hb.out.size))
      have Hgo := hide (fun q hq => Nat.lt_of_lt_of_le (World.ownsRow.lt how.out q hq).2 hgs)
      have hby := Dk.byt_row hg2.out
      have HY2 := hide hby
      have HO2 := hide (Fa.own_below how.out hb2)
      have HX2 := hide (hx.out.below hb2)
      have HDC := hide (decode_any k (some ⟨g, 0, none⟩) 64 s w2 Hls.out (Nat.le_refl _) hby (HT.out.below HB2.out Hpos.out))
      clear hgs hb2 hby HR how hx hb
      go_wp2_with fail
      refine HDC.out.mono ?_
      rintro e w3 ⟨hres, hb3⟩
      have HB3 := hide (HB2.out.trans (hb3.mono HB2.out.size))
      have HY3 := hide ((HY2.out.below hb3).more hb3.size)
      have HG3 := hide ((hb3.block g (heap_lt hg2.out)).trans hg2.out)
      have HO3 := hide (Fa.own_below HO2.out hb3)
      have HX3 := hide (HX2.out.below hb3)
      clear hb3 HDC HB2 HY2 HO2 HX2 hg2
      cases hu : unh k s with
      | none =>
        rw [hu] at hres
        have hres' : e = .returned (.tuple #[hd4 ⟨0, 0, 0, 0⟩, .bool false]) := hres
        subst hres'
        have HFE := hide (HE1.out hu)
        have hb4 := hx_below w3 0 0 0 0
        have HB4 := hide (HB3.out.trans (hb4.mono HB3.out.size))
        have HY4 := hide ((HY3.out.below hb4).more hb4.size)
        have HO4 := hide (Fa.own_below HO3.out hb4)
        have HX4 := hide (HX3.out.below hb4)
        clear hu hres hb4 HB3 HY3 HO3 HX3 HE1 HE2
        cases B with
        | false =>
          go_wp2
          go_roundw
          case rel => exact ⟨k + 1, by have := Hlt.out; omega, by go_num, by rw [HF1.out]; rfl, by rw [HFE.out, HMF.out]; exact HO4.out, HX4.out, HB4.out⟩
          case measure => have := Hlt.out; simp [intOf]; omega
        | true =>
          have HQ := fun W => hide (blank_any (some ⟨g, 0, none⟩) s 64 64 W Hls.out)
          go_wp2_with fail
          generalize w3.alloc _ = W4 at *
          refine (HQ W4 |>.out HY4.out _ (str_same s zer)).mono ?_
          rintro r w5 ⟨rfl, hb5⟩
          have HB5 := hide (HB4.out.trans (hb5.mono HB4.out.size))
          have HO5 := hide (Fa.own_below HO4.out hb5)
          have HX5 := hide (HX4.out.below hb5)
          clear hb5 HO4 HX4 HB4 HY4 HQ
          go_wp2
          go_roundw
          case rel => exact ⟨k + 1, by have := Hlt.out; omega, by go_num, by rw [HF1.out]; rfl, by rw [HFE.out, HMF.out]; exact HO5.out, HX5.out, HB5.out⟩
          case measure => have := Hlt.out; simp [intOf]; omega
      | some x =>
        rw [hu] at hres
        have hres' : e = .returned (.tuple #[hd4 x, .bool true]) := hres
        subst hres'
        obtain ⟨xt, xf, xg, xl⟩ := x
        have HFE := hide (HE2.out _ hu)
        have hb4 := hx_below w3 xt xf xg xl
        have hb4' := hx_below (w3.alloc (.cells (hcs xt xf xg xl) 76)) xt xf xg xl
        have hbb := hb4.trans (hb4'.mono hb4.size)
        have HB4 := hide (HB3.out.trans (hbb.mono HB3.out.size))
        have HY4 := hide ((HY3.out.below hbb).more hbb.size)
        have HO4 := hide (Fa.own_below HO3.out hbb)
        have HX4 := hide (HX3.out.below hbb)
        have HG4 := hide ((hbb.block g (heap_lt HG3.out)).trans HG3.out)
        have HN : Hid (∀ j u, (hcs xt xf xg xl).toList[j]? = some u → ((w3.alloc (.cells (hcs xt xf xg xl) 76)).alloc (.cells (hcs xt xf xg xl) 76)).cell? ((⟨w3.heap.size + 1, 0, none⟩ : Addr).add j) = some u) := fun j u hu => by
          rw [← show (w3.alloc (.cells (hcs xt xf xg xl) 76)).heap.size = w3.heap.size + 1 by simp, Addr.add_mid, Nat.zero_add, cell_of_row _ _ j _ _ _ (heap_alloc_new _ _)]
          simpa using hu
        have Hbase := hide (show w.heap.size + 1 ≤ _ from HX4.out.lt)
        have Hm1 := hide (show m + 1 ≤ maxLen by have := Hfl.out; have := Hlt.out; unfold maxLen; omega)
        have Hm2 := hide (show (m + 1) * 32 ≤ 140737488355328 by have := Hfl.out; have := Hlt.out; omega)
        clear hu hres hb4 hb4' hbb HB3 HY3 HO3 HX3 HE1 HE2
        go_wp2_with (at_builtin; go_must (refine wpList_append_lies _ rfl (.tmp 27) (.tmp 29) 99 rfl (w.heap.size + 1) 76 i0 _ 4 32 Tryd.underlying99 hi0 hz0 Hz1.out Hz2.out rfl (by decide) (.slice VA m vc) m (hcells F) rfl HO4.out ⟨w3.heap.size + 1, 0, none⟩ 1 1 (hcs xt xf xg xl).toList rfl rfl HN.out (hcells_one ⟨xt, xf, xg, xl⟩) (by decide) Hm1.out Hm2.out Hbase.out _ rfl ?_))
        intro g2 cap w6 hown6 hgr6 hor6 hlt6
        have HB6 := hide (HB4.out.grown hgr6 HB4.out.size (fun q hq => by have := (World.ownsRow.lt HO4.out q hq).1; omega))
        have hx6 : Hx w6 w.heap.size 0 0 0 0 := (hgr6.block _ HX4.out.lt (fun e => by have := (World.ownsRow.lt HO4.out _ e.symm).1; omega)).trans HX4.out
        have hg6 := (hgr6.block g (heap_lt HG4.out) (fun e => by have := Hgo.out _ e.symm; omega)).trans HG4.out
        have HY6 := hide (Dk.byt_row hg6)
        have HX6 := hide hx6
        have HO6 := hide hown6
        have HFC := hide (show (fnd (all S L) (k + 1)).length = m + 1 ∧ hcells (fnd (all S L) (k + 1)) = hcells F ++ (hcs xt xf xg xl).toList from ⟨by rw [HFE.out, List.length_append, HMF.out]; rfl, by rw [HFE.out, hcells_snoc]⟩)
        clear hown6 hgr6 hor6 hlt6 hx6 hg6 HB4 HX4 HO4 HG4 HY4 HN Hgo HFE
        cases B with
        | false =>
          go_wp2
          go_roundw
          case rel => exact ⟨k + 1, by have := Hlt.out; omega, by go_num, by rw [HF1.out]; rfl, by rw [HFC.out.1, HFC.out.2]; exact HO6.out, HX6.out, HB6.out⟩
          case measure => have := Hlt.out; simp [intOf]; omega
        | true =>
          go_wp2_with fail
          refine (blank_any (some ⟨g, 0, none⟩) s 64 64 w6 Hls.out HY6.out _ (str_same s zer)).mono ?_
          rintro r w7 ⟨rfl, hb7⟩
          have HB7 := hide (HB6.out.trans (hb7.mono HB6.out.size))
          have HO7 := hide (Fa.own_below HO6.out hb7)
          have HX7 := hide (HX6.out.below hb7)
          clear hb7 HO6 HX6 HB6 HY6
          go_wp2
          go_roundw
          case rel => exact ⟨k + 1, by have := Hlt.out; omega, by go_num, by rw [HF1.out]; rfl, by rw [HFC.out.1, HFC.out.2]; exact HO7.out, HX7.out, HB7.out⟩
          case measure => have := Hlt.out; simp [intOf]; omega
    · obtain rfl : k = 2 := by omega
      have hcf := cur_fnd (all S L)
      have hfl := fnd_le (all S L) 2
      generalize fnd (all S L) 2 = F at *
      generalize fsh (all S L) 2 = B at *
      subst hfr
      have hz0 := hx.out.c0
      have hz1 := hx.out.c1
      have hz2 := hx.out.c2
      have hz3 := hx.out.c3
      have hy0 := hx.out.free 0
      have hy1 := hx.out.free 1
      have hy2 := hx.out.free 2
      have hy3 := hx.out.free 3
      match F, hcf, how, hfl with
      | [], hcf, how, hfl =>
        obtain ⟨A, c, rfl, _⟩ := row_form how.out
        have Hcf := hide hcf
        have HX := hide (hx.out.put 0 1 0 0)
        have HY := hide (below_put4 hb.out (Nat.le_refl _) 0 1 0 0)
        clear hcf how hfl hx hb hge hk2
        go_wp2
        refine bodyPost_ret (results_ct rfl _ _ w.heap.size 76 _ (0, 0) _ rfl (show _ from HX.out) Tryd.underlying76 rfl head_size) rfl ?_
        refine ⟨NowIs.mk Hcf.out ?_, HY.out⟩
        cases B with
        | false => exact ⟨⟨0, 1, 0, 0⟩, rfl⟩
        | true => exact rfl
      | [a], hcf, how, hfl =>
        obtain ⟨A, c, rfl, hc1, _, hr⟩ := row_form how.out
        obtain ⟨g, rfl, _, hlt, hrg⟩ := hr (by simp)
        obtain ⟨t, f, gg, l⟩ := a
        have Hcf := hide (show cur (all S L) = some ⟨t, f, gg, l⟩ from hcf)
        have HM := hide (Max_one ⟨t, f, gg, l⟩ g c wr hrg hlt)
        clear hcf how hfl hge hk2 hz0 hz1 hz2 hz3 hy0 hy1 hy2 hy3 hr hrg hlt
        go_wp2_with fail
        refine HM.out.mono ?_
        rintro e w2 ⟨rfl, hb2⟩
        have hx2 := hx.out.below hb2
        have hz0 := hx2.c0
        have hz1 := hx2.c1
        have hz2 := hx2.c2
        have hz3 := hx2.c3
        have hy0 := hx2.free 0
        have hy1 := hx2.free 1
        have hy2 := hx2.free 2
        have hy3 := hx2.free 3
        have HX := hide (hx2.put t f gg l)
        have HY := hide (below_put4 (hb.out.trans (hb2.mono hb.out.size)) (Nat.le_refl _) t f gg l)
        clear hx2 hb2 hx hb HM
        go_wp2
        refine bodyPost_ret (results_ct rfl _ _ w.heap.size 76 _ (0, 0) _ rfl (show _ from HX.out) Tryd.underlying76 rfl head_size) rfl ?_
        exact ⟨NowIs.mk Hcf.out (by rfl), HY.out⟩
      | a :: b :: r, hcf, how, hfl =>
        obtain rfl : r = [] := by
          cases r with
          | nil => rfl
          | cons x y => simp at hfl
        obtain ⟨A, c, rfl, hc1, _, hr⟩ := row_form how.out
        obtain ⟨g, rfl, _, hlt, hrg⟩ := hr (by simp)
        have Hcf := hide (show cur (all S L) = some (later a b) from hcf)
        have HM := hide (Max_two a b g c wr hrg hlt)
        generalize later a b = z at *
        obtain ⟨t, f, gg, l⟩ := z
        clear hcf how hfl hge hk2 hz0 hz1 hz2 hz3 hy0 hy1 hy2 hy3 hr hrg hlt
        go_wp2_with fail
        refine HM.out.mono ?_
        rintro e w2 ⟨rfl, hb2⟩
        have hx2 := hx.out.below hb2
        have hz0 := hx2.c0
        have hz1 := hx2.c1
        have hz2 := hx2.c2
        have hz3 := hx2.c3
        have hy0 := hx2.free 0
        have hy1 := hx2.free 1
        have hy2 := hx2.free 2
        have hy3 := hx2.free 3
        have HX := hide (hx2.put t f gg l)
        have HY := hide (below_put4 (hb.out.trans (hb2.mono hb.out.size)) (Nat.le_refl _) t f gg l)
        clear hx2 hb2 hx hb HM
        go_wp2
        refine bodyPost_ret (results_ct rfl _ _ w.heap.size 76 _ (0, 0) _ rfl (show _ from HX.out) Tryd.underlying76 rfl head_size) rfl ?_
        exact ⟨NowIs.mk Hcf.out (by rfl), HY.out⟩

end Go.Proofs.YtapiogcoipeinaaDoor.Jn

/-
  A journal in memory, beside its disk; the contracts of sector, Next, Room, Flush, and of all for a nil journal. Condition: none but those of the disk.
-/
namespace Go.Proofs.YtapiogcoipeinaaDoor.Jn
open Go.RowKit
open Pk Sm Fa Rc Dk

def ecel (e : Ent) : List Value := [.int .i64 (e.g : Int), .int .i64 (e.s : Int), .int .i64 e.k, .int .i64 e.b, .string e.d, .int .i64 e.m]
def ecels (E : List Ent) : List Value := E.flatMap ecel
theorem ecel_len (E : List Ent) : ∀ e ∈ E, (ecel e).length = 6 := fun _ _ => rfl
theorem ecel_one (e : Ent) : ∀ u ∈ ecel e, u.oneCell' = true := by
  intro u hu
  simp [ecel] at hu
  rcases hu with rfl | rfl | rfl | rfl | rfl | rfl <;> rfl
theorem ecels_snoc (E : List Ent) (e : Ent) : ecels (E ++ [e]) = ecels E ++ ecel e := by simp [ecels]
/-- The cells of a journal: its disk, its ring, its head, what it holds. -/
abbrev jcs (q n : Nat) (h : Hd) (X : Value) : Array Value := #[.pointer (some ⟨q, 0, none⟩), .int .i64 (n : Int), .int .i64 (h.t : Int), .int .i64 (h.f : Int), .int .i64 (h.g : Int), .int .i64 (h.l : Int), X]
/-- A journal: its blocks are J's; the disk's block is q. -/
structure JnAt (w : World) (J : Nat → Prop) (p q n : Nat) (h : Hd) (E : List Ent) (X : Value) : Prop where
  box : w.heap[p]? = some (.cells (jcs q n h X) 81 (0, 0))
  own : w.ownsRow 0 92 6 X E.length (ecels E)
  mine : J p
  row : ∀ k, X.ownBlock = some k → J k ∧ k ≠ p
  lt : ∀ k, J k → k < w.heap.size
/-- A journal beside its disk: all its blocks and the disk's are G's. -/
def Jr (w : World) (G : Nat → Prop) (p q : Nat) (S : List Sec) (L : List Wr) (n : Nat) (h : Hd) (E : List Ent) : Prop :=
  ∃ D J X, Dsk w D q S L ∧ JnAt w J p q n h E X ∧ (∀ k, D k → ¬ J k) ∧ (∀ k, G k ↔ D k ∨ J k)
/-- What a call on a journal leaves. -/
def JPost (w : World) (G : Nat → Prop) (p q : Nat) (S : List Sec) (L : List Wr) (n : Nat) (h : Hd) (E : List Ent) (w' : World) : Prop := ∃ G', Jr w' G' p q S L n h E ∧ Grew w G G' ∧ Kept G w w'

section
variable {w w' : World} {G J : Nat → Prop} {p q n : Nat} {S : List Sec} {L : List Wr} {h : Hd} {E : List Ent} {X : Value}
theorem JnAt.kept (j : JnAt w J p q n h E X) {K : Nat → Prop} (hk : Kept K w w') (hd : ∀ k, J k → ¬ K k) : JnAt w' J p q n h E X where
  box := (hk.block p (j.lt p j.mine) (hd p j.mine)).trans j.box
  own := own_same j.own fun k hb => hk.block k (j.lt k (j.row k hb).1) (hd k (j.row k hb).1)
  mine := j.mine
  row := j.row
  lt := fun k hk2 => Nat.lt_of_lt_of_le (j.lt k hk2) hk.size
theorem JnAt.below (j : JnAt w J p q n h E X) (hb : Below w.heap.size w w') : JnAt w' J p q n h E X := j.kept (Kept.of_below (G := fun _ => False) hb) fun _ _ h => h
theorem Jr.lt (j : Jr w G p q S L n h E) : ∀ k, G k → k < w.heap.size := by
  obtain ⟨D, J, X, hd, hj, _, hg⟩ := j
  intro k hk
  rcases (hg k).1 hk with h1 | h1
  · exact hd.lt k h1
  · exact hj.lt k h1
theorem Jr.kept (j : Jr w G p q S L n h E) {K : Nat → Prop} (hk : Kept K w w') (hd : ∀ k, G k → ¬ K k) : Jr w' G p q S L n h E := by
  obtain ⟨D, J, X, h1, h2, h3, h4⟩ := j
  exact ⟨D, J, X, h1.kept hk fun k hk => hd k ((h4 k).2 (Or.inl hk)), h2.kept hk fun k hk => hd k ((h4 k).2 (Or.inr hk)), h3, h4⟩
theorem Jr.below (j : Jr w G p q S L n h E) (hb : Below w.heap.size w w') : Jr w' G p q S L n h E := j.kept (Kept.of_below (G := fun _ => False) hb) fun _ _ h => h
theorem Jr.len (j : Jr w G p q S L n h E) : Lens w (.pointer (some ⟨q, 0, none⟩)) S.length := by
  obtain ⟨D, J, X, h1, _⟩ := j
  exact Len_any h1
theorem Jr.post (j : Jr w G p q S L n h E) (hb : Below w.heap.size w w') : JPost w G p q S L n h E w' := ⟨G, j.below hb, Grew.refl _ _, Kept.of_below hb⟩
theorem JPost.then {G : Nat → Prop} {S' S'' : List Sec} {L' L'' : List Wr} {h' h'' : Hd} {E' E'' : List Ent} {w'' : World} (a : JPost w G p q S' L' n h' E' w')
    (b : ∀ G', Jr w' G' p q S' L' n h' E' → JPost w' G' p q S'' L'' n h'' E'' w'') : JPost w G p q S'' L'' n h'' E'' w'' := by
  obtain ⟨G', j, hg, hk⟩ := a
  obtain ⟨G'', j2, hg2, hk2⟩ := b G' j
  exact ⟨G'', j2, hg.trans hk.size hg2, hk.trans hg hk2⟩
theorem JPost.below {w'' : World} (a : JPost w G p q S L n h E w') (hb : Below w'.heap.size w' w'') : JPost w G p q S L n h E w'' := a.then fun _ j => j.post hb
theorem JPost.of {G1 : Nat → Prop} {w1 : World} (hg : Grew w G G1) (hk : Kept G w w1) (b : JPost w1 G1 p q S L n h E w') : JPost w G p q S L n h E w' := by
  obtain ⟨G2, j, hg2, hk2⟩ := b
  exact ⟨G2, j, hg.trans hk.size hg2, hk.trans hg hk2⟩
theorem JPost.after {w1 : World} (hb : Below w.heap.size w w1) (b : JPost w1 G p q S L n h E w') : JPost w G p q S L n h E w' := JPost.of (Grew.refl _ _) (Kept.of_below hb) b
theorem JPost.keep (b : JPost w G p q S L n h E w') {B : Nat} (hG : ∀ k, G k → B ≤ k) (hB : B ≤ w.heap.size) : Below B w w' := by
  obtain ⟨G2, j, hg2, hk2⟩ := b
  exact hk2.below hG hB
/-- A store in the journal's own struct. -/
theorem JnAt.set {i : Nat} {v : Value} {h' : Hd} (j : JnAt w J p q n h E X) (hc : (jcs q n h X).setIfInBounds i v = jcs q n h' X) : JnAt (w.setCell ⟨p, i, none⟩ v) J p q n h' E X where
  box := by rw [heap_setCell_same w p i _ _ v j.box, hc]
  own := own_same j.own fun k hb => heap_setCell_other _ _ _ _ (j.row k hb).2
  mine := j.mine
  row := j.row
  lt := fun k hk => by have := j.lt k hk; simpa [World.setCell] using this
theorem Kept.set {K : Nat → Prop} {w2 : World} (hk : Kept K w w2) (hp : K p) (i : Nat) (v : Value) : Kept K w (w2.setCell ⟨p, i, none⟩ v) :=
  ⟨hk.os, hk.tape, hk.output, by have := hk.size; simpa [World.setCell] using this, fun k h1 h2 => by rw [heap_setCell_other _ _ _ _ (fun e => h2 (by have e' : k = p := e; rw [e']; exact hp))]; exact hk.block k h1 h2⟩
theorem Jr.set {i : Nat} {v : Value} {h' : Hd} (j : Jr w G p q S L n h E) (hc : ∀ X, (jcs q n h X).setIfInBounds i v = jcs q n h' X) : JPost w G p q S L n h' E (w.setCell ⟨p, i, none⟩ v) := by
  obtain ⟨D, J, X, h1, h2, h3, h4⟩ := j
  have hk := Kept.set (Kept.refl J w) h2.mine i v
  exact ⟨G, ⟨D, J, X, h1.kept hk fun k hk => h3 k hk, h2.set (hc X), h3, h4⟩, Grew.refl _ _, Kept.set (Kept.refl G w) ((h4 p).2 (Or.inr h2.mine)) i v⟩
/-- What a call on the disk alone leaves. -/
theorem Jr.disk {D : Nat → Prop} {S' : List Sec} {L' : List Wr} (h2 : JnAt w J p q n h E X) (h3 : ∀ k, D k → ¬ J k) (h4 : ∀ k, G k ↔ D k ∨ J k) (hp : Post w D q S' L' w') : JPost w G p q S' L' n h E w' := by
  obtain ⟨D', hd, hg, hk⟩ := hp
  refine ⟨fun k => D' k ∨ J k, ⟨D', J, X, hd, h2.kept hk fun k hj hD => h3 k hD hj, fun k hD' hj => ?_, fun k => Iff.rfl⟩, fun k hk' => ?_, ⟨hk.os, hk.tape, hk.output, hk.size, fun k hlt hn => hk.block k hlt fun hD => hn ((h4 k).2 (Or.inl hD))⟩⟩
  · rcases hg k hD' with h5 | h5
    · exact h3 k h5 hj
    · have := h2.lt k hj
      omega
  · rcases hk' with h5 | h5
    · exact (hg k h5).imp (fun h6 => (h4 k).2 (Or.inl h6)) id
    · exact Or.inl ((h4 k).2 (Or.inr h5))
theorem JnAt.heads (j : JnAt w J p q n h E X) : w.cell? ⟨p, 0, none⟩ = some (.pointer (some ⟨q, 0, none⟩)) ∧ w.cell? ⟨p, 2, none⟩ = some (.int .i64 (h.t : Int)) ∧ w.cell? ⟨p, 3, none⟩ = some (.int .i64 (h.f : Int)) ∧ w.cell? ⟨p, 4, none⟩ = some (.int .i64 (h.g : Int)) ∧ w.cell? ⟨p, 5, none⟩ = some (.int .i64 (h.l : Int)) := by
  refine ⟨?_, ?_, ?_, ?_, ?_⟩ <;> simp [World.cell?, j.box]
/-- The cells of the struct. -/
theorem JnAt.cells (j : JnAt w J p q n h E X) : ∃ A c, X = .slice A E.length c ∧ w.cell? ⟨p, 0, none⟩ = some (.pointer (some ⟨q, 0, none⟩)) ∧ w.cell? ⟨p, 1, none⟩ = some (.int .i64 (n : Int)) ∧ w.cell? ⟨p, 2, none⟩ = some (.int .i64 (h.t : Int)) ∧
    w.cell? ⟨p, 3, none⟩ = some (.int .i64 (h.f : Int)) ∧ w.cell? ⟨p, 4, none⟩ = some (.int .i64 (h.g : Int)) ∧ w.cell? ⟨p, 5, none⟩ = some (.int .i64 (h.l : Int)) ∧ w.cell? ⟨p, 6, none⟩ = some (.slice A E.length c) ∧ (∀ i, w.frozen? ⟨p, i, none⟩ = false) := by
  obtain ⟨A, c, rfl, _⟩ := row_form j.own
  refine ⟨A, c, rfl, ?_, ?_, ?_, ?_, ?_, ?_, ?_, fun i => blk_free j.box i⟩ <;> simp [World.cell?, j.box]
end

theorem remN (s n : Nat) : (s : Int).tmod n = ((s % n : Nat) : Int) := by
  rw [Int.tmod_eq_emod_of_nonneg (by omega)]
  rfl
section
variable (w : World) (G : Nat → Prop) (p q : Nat) (S : List Sec) (L : List Wr) (n : Nat) (h : Hd) (E : List Ent) (hj : Jr w G p q S L n h E)
include hj
theorem sector_any (s : Nat) (hn : 1 ≤ n) (hn2 : n ≤ 1000) : Calls Tryd.prog 50 #[.pointer (some ⟨p, 0, none⟩), .int .i64 (s : Int)] w fun e w' => e = .returned (.int .i64 ((2 + s % n : Nat) : Int)) ∧ w = w' := by
  obtain ⟨D, J, X, _, h2, _⟩ := hj
  obtain ⟨A, c, rfl, c0, c1, c2, c3, c4, c5, c6, fz⟩ := h2.cells
  have hr := remN s n
  obtain ⟨r, hrr⟩ : ∃ r, s % n = r := ⟨_, rfl⟩
  have hlt : s % n < n := Nat.mod_lt _ (by omega)
  rw [hrr] at hr hlt
  rw [hrr]
  have hz : ¬ ((n : Int) = 0) := by omega
  have hz2 : ((n : Int) == 0) = false := by simp; omega
  clear h2 c0 c2 c3 c4 c5 c6 fz hrr
  go_enter Tryd.func50, Tryd.ntmps50
  go_wp2
  go_ret
  exact ⟨by go_num, rfl⟩
end

end Go.Proofs.YtapiogcoipeinaaDoor.Jn

namespace Go.Proofs.YtapiogcoipeinaaDoor.Jn
open Go.RowKit
open Pk Sm Fa Rc Dk

/-- "journal" -/
abbrev nam : ByteArray := ⟨#[106, 111, 117, 114, 110, 97, 108]⟩
/-- The fault journal, at, around what lies below it. -/
def JFlt (w : World) (v : Value) (s e : Int) : Prop := ∃ p fs, v = .iface 96 (.pointer (some ⟨p, 0, none⟩)) ∧ Chain w ((p, nam, s) :: fs) v (.iface 54 (.int .i64 e)) ∧ fs.length ≤ 1
theorem failed_num (s e : Int) (w : World) (he : e ≠ 0) :
    Calls Tryd.prog 34 #[.int .i64 s, .iface 54 (.int .i64 e)] w fun r w' => ∃ p, r = .returned (.iface 96 (.pointer (some ⟨p, 0, none⟩))) ∧ JFlt w' (.iface 96 (.pointer (some ⟨p, 0, none⟩))) s e ∧ Below w.heap.size w w' := by
  have HW := hide (Wrap_real nam s (.iface 54 (.int .i64 e)) w (Real.num he))
  go_enter Tryd.func34, Tryd.ntmps34
  go_wp2_with fail
  refine HW.out.mono ?_
  rintro r w' ⟨rfl, rfl⟩
  go_wp2
  go_ret
  exact ⟨_, rfl, ⟨_, [], rfl, Chain.wrap (fs := []) (w := w) (e := .iface 54 (.int .i64 e)) rfl nam s, by simp⟩, (Below.refl _ _).alloc (Nat.le_refl _) _⟩
theorem failed_flt (s s2 e : Int) (p : Nat) (w : World) (hf : Flt1 w (.iface 96 (.pointer (some ⟨p, 0, none⟩))) s2 e) :
    Calls Tryd.prog 34 #[.int .i64 s, .iface 96 (.pointer (some ⟨p, 0, none⟩))] w fun r w' => ∃ p, r = .returned (.iface 96 (.pointer (some ⟨p, 0, none⟩))) ∧ JFlt w' (.iface 96 (.pointer (some ⟨p, 0, none⟩))) s e ∧ Below w.heap.size w w' := by
  have HW := hide (Wrap_real nam s (.iface 96 (.pointer (some ⟨p, 0, none⟩))) w (Real.flt _))
  have HF := hide hf
  clear hf
  go_enter Tryd.func34, Tryd.ntmps34
  go_wp2_with fail
  refine HW.out.mono ?_
  rintro r w' ⟨rfl, rfl⟩
  go_wp2
  go_ret
  obtain ⟨p', _, hc⟩ := HF.out
  exact ⟨_, rfl, ⟨_, _, rfl, Chain.wrap hc nam s, by simp⟩, (Below.refl _ _).alloc (Nat.le_refl _) _⟩
theorem JFlt.below {w w' : World} {v : Value} {s e : Int} (h : JFlt w v s e) {B : Nat} (hB : w.heap.size ≤ B) (hb : Below B w w') : JFlt w' v s e := by
  obtain ⟨p, fs, rfl, hc, hl⟩ := h
  exact ⟨p, fs, rfl, hc.below hB hb, hl⟩

/-! ### A nil journal -/
theorem Next_nil (w : World) : Calls Tryd.prog 31 #[.pointer none] w fun e w' => e = .returned (.int .i64 0) ∧ w = w' := by
  go_enter Tryd.func31, Tryd.ntmps31
  go_wp2
  go_ret
  exact ⟨rfl, rfl⟩
theorem Room_nil (w : World) : Calls Tryd.prog 60 #[.pointer none] w fun e w' => e = .returned (.int .i64 0) ∧ w = w' := by
  go_enter Tryd.func60, Tryd.ntmps60
  go_wp2
  go_ret
  exact ⟨rfl, rfl⟩
theorem Flush_nil (w : World) : Calls Tryd.prog 26 #[.pointer none] w fun e w' => e = .returned (.tuple #[]) ∧ w = w' := by
  go_enter Tryd.func26, Tryd.ntmps26
  go_wp2
  exact bodyPost_ret (results_none rfl _ _ _) rfl ⟨rfl, rfl⟩
theorem Records_nil (w : World) : Calls Tryd.prog 45 #[.pointer none] w fun e w' => e = .returned (.slice none 0 0) ∧ w = w' := by
  go_enter Tryd.func45, Tryd.ntmps45
  go_wp2
  go_ret
  exact ⟨rfl, rfl⟩
theorem Trim_nil (k : Int) (w : World) : Calls Tryd.prog 29 #[.pointer none, .int .i64 k] w fun r w' => ∃ p, r = .returned (.iface 96 (.pointer (some ⟨p, 0, none⟩))) ∧ JFlt w' (.iface 96 (.pointer (some ⟨p, 0, none⟩))) 0 1 ∧ Below w.heap.size w w' := by
  have HF := hide (failed_num 0 1 w (by decide))
  go_enter Tryd.func29, Tryd.ntmps29
  go_wp2_with fail
  refine HF.out.mono ?_
  rintro r w2 ⟨p, rfl, hf, hb⟩
  have H := hide hf
  have HB := hide hb
  clear hf hb
  go_wp2
  go_ret
  exact ⟨p, rfl, H.out, HB.out⟩
theorem Append_nil (s k b : Int) (d : ByteArray) (m : Int) (w : World) : Calls Tryd.prog 41 #[.pointer none, rec5 s k b d m] w fun r w' => ∃ p, r = .returned (.tuple #[.int .i64 0, .iface 96 (.pointer (some ⟨p, 0, none⟩))]) ∧ JFlt w' (.iface 96 (.pointer (some ⟨p, 0, none⟩))) 0 1 ∧ Below w.heap.size w w' := by
  have HB0 := hide (box_below w s k b d m)
  go_enter Tryd.func41, Tryd.ntmps41
  go_wp2_with fail
  generalize w.alloc _ = w1 at *
  refine (failed_num 0 1 w1 (by decide)).mono ?_
  rintro r w2 ⟨p, rfl, hf, hb⟩
  have H := hide hf
  have HB := hide (HB0.out.trans (hb.mono HB0.out.size))
  clear hf hb
  go_wp2
  go_ret2
  exact ⟨p, rfl, H.out, HB.out⟩

/-! ### Numbers of a journal -/
section
variable (w : World) (G : Nat → Prop) (p q : Nat) (S : List Sec) (L : List Wr) (n : Nat) (h : Hd) (E : List Ent) (hj : Jr w G p q S L n h E)
include hj
set_option maxRecDepth 100000 in
theorem Next_any (hf : h.f ≤ 2000000000000000000) (he : E.length ≤ 1000) : Calls Tryd.prog 31 #[.pointer (some ⟨p, 0, none⟩)] w fun e w' => e = .returned (.int .i64 ((h.f + E.length : Nat) : Int)) ∧ Below w.heap.size w w' := by
  obtain ⟨D, J, X, _, h2, _⟩ := hj
  obtain ⟨A, c, rfl, c0, c1, c2, c3, c4, c5, c6, fz⟩ := h2.cells
  obtain ⟨t, f, g, l⟩ := h
  obtain ⟨m, hm⟩ : ∃ m, E.length = m := ⟨_, rfl⟩
  rw [hm] at c6 he
  rw [hm]
  have hf2 : f ≤ 2000000000000000000 := hf
  have c3' : w.cell? ⟨p, 3, none⟩ = some (.int .i64 (f : Int)) := c3
  clear h2 c0 c1 c2 c3 c4 c5 fz hm hf
  go_enter Tryd.func31, Tryd.ntmps31
  go_wp2
  go_quiet (fail)
  go_wp2
  go_ret
  exact ⟨by go_num, ⟨rfl, rfl, rfl, Nat.le_refl _, fun _ _ => rfl⟩⟩
set_option maxRecDepth 100000 in
theorem Room_any (hn : n ≤ 1000) (he : E.length ≤ n) : Calls Tryd.prog 60 #[.pointer (some ⟨p, 0, none⟩)] w fun e w' => e = .returned (.int .i64 ((n : Int) - (E.length : Int))) ∧ Below w.heap.size w w' := by
  obtain ⟨D, J, X, _, h2, _⟩ := hj
  obtain ⟨A, c, rfl, c0, c1, c2, c3, c4, c5, c6, fz⟩ := h2.cells
  obtain ⟨m, hm⟩ : ∃ m, E.length = m := ⟨_, rfl⟩
  rw [hm] at c6 he
  rw [hm]
  clear h2 c0 c2 c3 c4 c5 fz hm
  go_enter Tryd.func60, Tryd.ntmps60
  go_wp2
  go_quiet (fail)
  go_wp2
  go_ret
  exact ⟨by go_num, ⟨rfl, rfl, rfl, Nat.le_refl _, fun _ _ => rfl⟩⟩
theorem Flush_any (hL : L.length ≤ 1000000) : Calls Tryd.prog 26 #[.pointer (some ⟨p, 0, none⟩)] w fun e w' => e = .returned (.tuple #[]) ∧ JPost w G p q (all S L) [] n h E w' := by
  obtain ⟨D, J, X, h1, h2, h3, h4⟩ := hj
  obtain ⟨A, c, e, c0, c1, c2, c3, c4, c5, c6, fz⟩ := h2.cells
  have HF := hide (Dk.Flush_any w D q S L h1 hL)
  have HP := fun w' => hide (fun (hp : Post w D q (all S L) [] w') => Jr.disk (n := n) (h := h) (E := E) h2 h3 h4 hp)
  clear h1 h2 h3 h4 e c1 c2 c3 c4 c5 c6 fz hL
  go_enter Tryd.func26, Tryd.ntmps26
  go_wp2_with fail
  refine HF.out.mono ?_
  rintro e w2 ⟨rfl, hp⟩
  have H := hide ((HP w2).out hp)
  clear hp HP HF c0
  go_wp2
  first | go_end0 | exact bodyPost_ret (results_none rfl _ _ _) rfl ⟨rfl, H.out⟩
  all_goals exact ⟨rfl, H.out⟩
set_option maxRecDepth 100000 in
set_option maxHeartbeats 2000000 in
theorem save_any (ht : Tab w) (hb : h.t ≤ 2000000000000000000) (hn : 2 ≤ S.length) (hL : L.length ≤ 900000) (hg : ∀ k, G k → 0 < k) :
    Calls Tryd.prog 37 #[.pointer (some ⟨p, 0, none⟩)] w fun e w' => e = .returned (.tuple #[]) ∧
      JPost w G p q (all S (L ++ [((h.t + 1) % 2, hsec ⟨h.t + 1, h.f, h.g, h.l⟩)])) [] n ⟨h.t + 1, h.f, h.g, h.l⟩ E w' := by
  have hjs := Jr.set (i := 2) (v := .int .i64 ((h.t : Int) + 1)) (h' := ⟨h.t + 1, h.f, h.g, h.l⟩) hj (fun X => rfl)
  obtain ⟨D, J, X, h1, h2, h3, h4⟩ := hj
  obtain ⟨A, c, e, c0, c1, c2, c3, c4, c5, c6, fz⟩ := h2.cells
  obtain ⟨t, f, g, l⟩ := h
  have f2 := fz 2
  have c2' : w.cell? ⟨p, 2, none⟩ = some (.int .i64 (t : Int)) := c2
  have hb' : t ≤ 2000000000000000000 := hb
  have HT := hide ht
  have HL := hide hL
  have HN := hide hn
  have HGG := hide hg
  clear e c0 c1 c2 c3 c4 c5 c6 fz h1 h2 h3 h4 hb ht hL hn hg
  go_enter Tryd.func37, Tryd.ntmps37
  go_wp2_with fail
  generalize w.setCell _ _ = w1 at *
  obtain ⟨G1, hj1, hg1, hk0⟩ := hjs
  obtain ⟨D, J, X, h1, h2, h3, h4⟩ := hj1
  have HT1 := hide (show Tab w1.drew from (HT.out.below (hk0.below (B := 0 + 1) HGG.out HT.out.pos).drew (Nat.lt_succ_self _)))
  obtain ⟨t1, ht1⟩ : ∃ t1, t + 1 = t1 := ⟨_, rfl⟩
  obtain ⟨r2, hr2⟩ : ∃ r2, t1 % 2 = r2 := ⟨_, rfl⟩
  have hrem := rem2 t1 (by omega)
  show _
  simp only [ht1, hr2] at h2 hrem ⊢
  have HR := hide (show r2 < 2 by omega)
  have HE1 := hide ht1
  have HE2 := hide hr2
  have H11 := hide h1
  have H21 := hide h2
  have H3 := hide h3
  have H4 := hide h4
  have HG1 := hide hg1
  have HK0 := hide hk0
  have hS1 := h2.heads
  have ht1' : (t : Int) + 1 = (t1 : Int) := by omega
  clear h1 h2 h3 h4 hg1 hk0 hr2 ht1 c2' f2 HGG
  refine wp_region_held (S := (fun W => W.cell? ⟨p, 0, none⟩ = some (.pointer (some ⟨q, 0, none⟩)) ∧ W.cell? ⟨p, 2, none⟩ = some (.int .i64 (t1 : Int)) ∧ W.cell? ⟨p, 3, none⟩ = some (.int .i64 (f : Int)) ∧ W.cell? ⟨p, 4, none⟩ = some (.int .i64 (g : Int)) ∧ W.cell? ⟨p, 5, none⟩ = some (.int .i64 (l : Int)))) (by kernel_rfl) ?_
  change wpAnyH _ _ _ _ _ _ _ _ (World.drew _)
  refine wpAnyH_take (i := 0) (oi := ⟨some 11, _, _, _, _, _⟩) (v := ?_) rfl (by kernel_rfl) (by kernel_rfl) (by kernel_rfl) (fun _ _ _ h => h) (Or.inl ⟨by rfl, ?_⟩) hS1 ?_
  rotate_left 1
  · (intro w hSw; obtain ⟨hSw1, hSw2, hSw3, hSw4, hSw5⟩ := hSw; go_simp; try with_reducible rfl)
  simp only [Act.put, List.setIfInBounds_toArray, List.set_cons_zero, List.set_cons_succ]
  refine wpAnyH_take (i := 1) (oi := ⟨some 12, _, _, _, _, _⟩) (v := ?_) rfl (by kernel_rfl) (by kernel_rfl) (by kernel_rfl) (fun _ _ _ h => h) (Or.inl ⟨by rfl, ?_⟩) hS1 ?_
  rotate_left 1
  · (intro w hSw; obtain ⟨hSw1, hSw2, hSw3, hSw4, hSw5⟩ := hSw; go_simp; try with_reducible rfl)
  simp only [Act.put, List.setIfInBounds_toArray, List.set_cons_zero, List.set_cons_succ]
  refine wpAnyH_take (i := 2) (oi := ⟨some 13, _, _, _, _, _⟩) (v := ?_) rfl (by kernel_rfl) (by kernel_rfl) (by kernel_rfl) (fun _ _ _ h => h) (Or.inl ⟨by rfl, ?_⟩) hS1 ?_
  rotate_left 1
  · (intro w hSw; obtain ⟨hSw1, hSw2, hSw3, hSw4, hSw5⟩ := hSw; go_simp; try with_reducible rfl)
  simp only [Act.put, List.setIfInBounds_toArray, List.set_cons_zero, List.set_cons_succ]
  refine wpAnyH_take (i := 3) (oi := ⟨some 14, _, _, _, _, _⟩) (v := ?_) rfl (by kernel_rfl) (by kernel_rfl) (by kernel_rfl) (fun _ _ _ h => h) (Or.inl ⟨by rfl, ?_⟩) hS1 ?_
  rotate_left 1
  · (intro w hSw; obtain ⟨hSw1, hSw2, hSw3, hSw4, hSw5⟩ := hSw; go_simp; try with_reducible rfl)
  simp only [Act.put, List.setIfInBounds_toArray, List.set_cons_zero, List.set_cons_succ]
  refine wpAnyH_take (i := 4) (oi := ⟨some 15, _, _, _, _, _⟩) (v := ?_) rfl (by kernel_rfl) (by kernel_rfl) (by kernel_rfl) (fun _ _ _ h => h) (Or.inl ⟨by rfl, ?_⟩) hS1 ?_
  rotate_left 1
  · (intro w hSw; obtain ⟨hSw1, hSw2, hSw3, hSw4, hSw5⟩ := hSw; go_simp; try with_reducible rfl)
  simp only [Act.put, List.setIfInBounds_toArray, List.set_cons_zero, List.set_cons_succ]
  refine wpAnyH_take (i := 5) (oi := ⟨some 16, _, _, _, _, _⟩) (v := ?_) rfl (by kernel_rfl) (by kernel_rfl) (by kernel_rfl) (fun _ _ _ h => h) (Or.inl ⟨by rfl, ?_⟩) hS1 ?_
  rotate_left 1
  · (intro w hSw; obtain ⟨hSw1, hSw2, hSw3, hSw4, hSw5⟩ := hSw; go_simp; try with_reducible rfl)
  simp only [Act.put, List.setIfInBounds_toArray, List.set_cons_zero, List.set_cons_succ]
  refine wpAnyH_take (i := 6) (oi := ⟨some 17, _, _, _, _, _⟩) (v := ?_) rfl (by kernel_rfl) (by kernel_rfl) (by kernel_rfl) (fun _ _ _ h => h) (Or.inl ⟨by rfl, ?_⟩) hS1 ?_
  rotate_left 1
  · (intro w hSw; obtain ⟨hSw1, hSw2, hSw3, hSw4, hSw5⟩ := hSw; go_simp; try with_reducible rfl)
  simp only [Act.put, List.setIfInBounds_toArray, List.set_cons_zero, List.set_cons_succ]
  refine wpAnyH_take (i := 7) (oi := ⟨some 18, _, _, _, _, _⟩) (v := ?_) rfl (by kernel_rfl) (by kernel_rfl) (by kernel_rfl) (fun _ _ _ h => h) (Or.inl ⟨by rfl, ?_⟩) hS1 ?_
  rotate_left 1
  · (intro w hSw; obtain ⟨hSw1, hSw2, hSw3, hSw4, hSw5⟩ := hSw; go_simp; try with_reducible rfl)
  simp only [Act.put, List.setIfInBounds_toArray, List.set_cons_zero, List.set_cons_succ]
  refine wpAnyH_take (i := 8) (oi := ⟨some 19, _, _, _, _, _⟩) (v := ?_) rfl (by kernel_rfl) (by kernel_rfl) (by kernel_rfl) (fun _ _ _ h => h) (Or.inl ⟨by rfl, ?_⟩) hS1 ?_
  rotate_left 1
  · (intro w hSw; obtain ⟨hSw1, hSw2, hSw3, hSw4, hSw5⟩ := hSw; go_simp; try with_reducible rfl)
  simp only [Act.put, List.setIfInBounds_toArray, List.set_cons_zero, List.set_cons_succ]
  refine wpAnyH_take (i := 9) (oi := ⟨some 20, _, _, _, _, _⟩) (v := ?_) rfl (by kernel_rfl) (by kernel_rfl) (by kernel_rfl) (fun _ _ _ h => h) (Or.inl ⟨by rfl, ?_⟩) hS1 ?_
  rotate_left 1
  · (intro w hSw; obtain ⟨hSw1, hSw2, hSw3, hSw4, hSw5⟩ := hSw; go_simp; try with_reducible rfl)
  simp only [Act.put, List.setIfInBounds_toArray, List.set_cons_zero, List.set_cons_succ]
  refine wpAnyH_take (i := 10) (oi := ⟨some 21, _, _, _, _, _⟩) (v := ?_) rfl (by kernel_rfl) (by kernel_rfl) (by kernel_rfl) (fun _ _ _ h => h) (Or.inl ⟨by rfl, ?_⟩) hS1 ?_
  rotate_left 1
  · (intro w hSw; obtain ⟨hSw1, hSw2, hSw3, hSw4, hSw5⟩ := hSw; go_simp; try with_reducible rfl)
  simp only [Act.put, List.setIfInBounds_toArray, List.set_cons_zero, List.set_cons_succ]
  refine wpAnyH_take (i := 11) (oi := ⟨some 22, _, _, _, _, _⟩) (v := ?_) rfl (by kernel_rfl) (by kernel_rfl) (by kernel_rfl) (fun _ _ _ h => h) (Or.inl ⟨by rfl, ?_⟩) hS1 ?_
  rotate_left 1
  · (intro w hSw; obtain ⟨hSw1, hSw2, hSw3, hSw4, hSw5⟩ := hSw; go_simp; try with_reducible rfl)
  simp only [Act.put, List.setIfInBounds_toArray, List.set_cons_zero, List.set_cons_succ]
  refine wpAnyH_take (i := 12) (oi := ⟨some 23, _, _, _, _, _⟩) (v := ?_) rfl (by kernel_rfl) (by kernel_rfl) (by kernel_rfl) (fun _ _ _ h => h) (Or.inl ⟨by rfl, ?_⟩) hS1 ?_
  rotate_left 1
  · (intro w hSw; obtain ⟨hSw1, hSw2, hSw3, hSw4, hSw5⟩ := hSw; go_simp; try with_reducible rfl)
  simp only [Act.put, List.setIfInBounds_toArray, List.set_cons_zero, List.set_cons_succ]
  refine wpAnyH_take (i := 13) (oi := ⟨some 24, _, _, _, _, _⟩) (v := ?_) rfl (by kernel_rfl) (by kernel_rfl) (by kernel_rfl) (fun _ _ _ h => h) (Or.inl ⟨by rfl, ?_⟩) hS1 ?_
  rotate_left 1
  · (intro w hSw; obtain ⟨hSw1, hSw2, hSw3, hSw4, hSw5⟩ := hSw; go_simp; try with_reducible rfl)
  simp only [Act.put, List.setIfInBounds_toArray, List.set_cons_zero, List.set_cons_succ]
  refine wpAnyH_ready (rs := [14]) (by kernel_rfl) (by simp) ?_
  refine AllReadyH.cons (o := ⟨some 25, _, _, _, _, _⟩) rfl (fun K hK => ?_) AllReadyH.nil
  go_simp
  refine (encode_any ⟨t1, f, g, l⟩ w1.drew HT1.out).mono ?_
  rintro r w2 ⟨pb, ob, cb, rfl, _, _, hby2, hb2'⟩
  have hb2 := drew_below hb2'
  have H12 := hide (H11.out.below hb2)
  have H22 := hide (H21.out.below hb2)
  have HB2 := hide hb2
  have hS2 := H22.out.heads
  have HY2 := hide hby2
  clear hb2' hb2 hby2
  refine hK.out _ _ hS2 (fun hHeld => ?_)
  clear hK K
  clear hHeld
  refine wpAnyH_ready (rs := [15]) (by kernel_rfl) (by simp) ?_
  refine AllReadyH.cons (o := ⟨some 26, _, _, _, _, _⟩) rfl (fun K hK => ?_) AllReadyH.nil
  go_simp
  refine (Dk.Write_any w2 D q r2 cb (some ⟨pb, ob, none⟩) S L (hsec ⟨t1, f, g, l⟩) H12.out (by have := HN.out; have := HR.out; omega) HY2.out (hsec_length _) HL.out).mono ?_
  rintro r w3 ⟨rfl, hp3⟩
  have HJ3 := hide (JPost.after HB2.out (Jr.disk H22.out H3.out H4.out hp3))
  have hS3 : w3.cell? ⟨p, 0, none⟩ = some (.pointer (some ⟨q, 0, none⟩)) ∧ w3.cell? ⟨p, 2, none⟩ = some (.int .i64 (t1 : Int)) ∧ w3.cell? ⟨p, 3, none⟩ = some (.int .i64 (f : Int)) ∧ w3.cell? ⟨p, 4, none⟩ = some (.int .i64 (g : Int)) ∧ w3.cell? ⟨p, 5, none⟩ = some (.int .i64 (l : Int)) := by
    obtain ⟨G2, ⟨D2, J2, X2, k1, k2, k3, k4⟩, _, _⟩ := HJ3.out
    exact k2.heads
  clear hp3 H12 H22 HB2
  refine hK.out _ _ hS3 (fun hHeld => ?_)
  clear hK K
  clear hHeld
  refine wpAnyH_done (by kernel_rfl) ?_ _
  obtain ⟨G3, hj3, hg3, hk3⟩ := HJ3.out
  obtain ⟨D3, J3, X3, k1, k2, k3, k4⟩ := hj3
  have hq3 := hS3.1
  have HK1 := hide k1
  have HK2 := hide k2
  have HK3 := hide k3
  have HK4 := hide k4
  have HG3 := hide hg3
  have HKP := hide hk3
  have HF := hide (Dk.Flush_any w3 D3 q S _ k1 (by have := HL.out; simp; omega))
  clear k1 k2 k3 k4 hg3 hk3 hS3 HJ3
  go_wp2_with fail
  refine HF.out.mono ?_
  rintro r w4 ⟨rfl, hp4⟩
  have HJ4 := hide (JPost.of HG1.out HK0.out (JPost.of HG3.out HKP.out (Jr.disk HK2.out HK3.out HK4.out hp4)))
  clear hp4 hq3
  go_wp2
  go_end0
  have e2 := HE2.out
  have e1 := HE1.out
  subst e2
  subst e1
  exact ⟨rfl, HJ4.out⟩
end

end Go.Proofs.YtapiogcoipeinaaDoor.Jn
