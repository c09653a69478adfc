/-
  What is always so of a volume's sectors between calls: the journal's words, and that each home sector contains what the volume says, of a record that is durable; what a checkpoint writes. Plain theorems, no program.
-/
import Derived.Test.YtapiogcoipeinaaGreatDoorU6
import Derived.Test.YtapiogcoipeinaaGreatDoorU8
namespace Go.Proofs.YtapiogcoipeinaaGreatDoor.Jn
open Pk Sm Rc Dk
/-! ### Heads -/
@[ext] structure Hd where
  t : Nat
  f : Nat
  g : Nat
  l : Nat
def hbod (h : Hd) : List UInt8 := enc (clamp h.t) ++ enc (clamp h.f) ++ enc (clamp h.g) ++ enc (clamp h.l)
def hsec (h : Hd) : List UInt8 := seal4 (pad (hbod h))
abbrev NumN (n : Nat) : Prop := n ≤ 1152921504606846975
structure HOk (i : Nat) (h : Hd) : Prop where
 t : NumN h.t
 f : NumN h.f
 g : NumN h.g
 l : NumN h.l
 pos : 1 ≤ h.f
 low : h.l ≤ h.g
 par : h.t % 2 = i
theorem clampN {n : Nat} (h : NumN n) : clamp (n : Int) = n := by unfold NumN at h; unfold clamp; omega
theorem hbod_le (h : Hd) : (hbod h).length ≤ 36 := by
 have h1 := enc_le (clamp h.t)
 have h2 := enc_le (clamp h.f)
 have h3 := enc_le (clamp h.g)
 have h4 := enc_le (clamp h.l)
 unfold hbod
 simp only [List.length_append]
 omega
theorem hsec_length (h : Hd) : (hsec h).length = 64 := by
 unfold hsec
 rw [seal4_length, pad_length _ (by have := hbod_le h; omega)]
def hgot (l : List UInt8) : Hd :=
 ⟨(rnum l 0).1, (rnum (rnum l 0).2.1 (rnum l 0).2.2).1, (rnum (rnum (rnum l 0).2.1 (rnum l 0).2.2).2.1 (rnum (rnum l 0).2.1 (rnum l 0).2.2).2.2).1,
   (rnum (rnum (rnum (rnum l 0).2.1 (rnum l 0).2.2).2.1 (rnum (rnum l 0).2.1 (rnum l 0).2.2).2.2).2.1 (rnum (rnum (rnum l 0).2.1 (rnum l 0).2.2).2.1 (rnum (rnum l 0).2.1 (rnum l 0).2.2).2.2).2.2).1⟩
theorem hgot_step {l l1 l2 l3 l4 : List UInt8} {e1 e2 e3 e4 t f g w : Nat} (h1 : rnum l 0 = (t, l1, e1)) (h2 : rnum l1 e1 = (f, l2, e2)) (h3 : rnum l2 e2 = (g, l3, e3)) (h4 : rnum l3 e3 = (w, l4, e4)) :
 hgot l = ⟨t, f, g, w⟩ := by
 unfold hgot
 simp only [h1, h2, h3, h4]
theorem hgot_num (l : List UInt8) : NumN (hgot l).t ∧ NumN (hgot l).f ∧ NumN (hgot l).g ∧ NumN (hgot l).l := ⟨rnum_lt _ _, rnum_lt _ _, rnum_lt _ _, rnum_lt _ _⟩
theorem hgot_bod {i : Nat} {h : Hd} (k : HOk i h) (r : List UInt8) : hgot (hbod h ++ r) = h := by
 have e : ∀ n, NumN n → ∀ t, rnum (enc (clamp (n : Int)) ++ t) 0 = (n, t, 0) := fun n hn t => by
  rw [clampN hn]; exact rnum_enc _ _ (by unfold NumN at hn; omega)
 have e0 : hbod h ++ r = enc (clamp h.t) ++ (enc (clamp h.f) ++ (enc (clamp h.g) ++ (enc (clamp h.l) ++ r))) := by simp [hbod]
 rw [e0]
 exact hgot_step (e _ k.t _) (e _ k.f _) (e _ k.g _) (e _ k.l _)
theorem hgot_pad {i : Nat} {h : Hd} (k : HOk i h) : hgot (pad (hbod h)) = h := hgot_bod k _
theorem hsec_inj {i j : Nat} {h h' : Hd} (k : HOk i h) (k' : HOk j h') (e : hsec h = hsec h') : h = h' := by
 have := seal4_inj e
 rw [← hgot_pad k, this, hgot_pad k']
open Classical in
noncomputable def unh (i : Nat) (s : Sec) : Option Hd := if h : ∃ x, HOk i x ∧ s = hsec x then some h.choose else none
theorem unh_spec {i : Nat} {s : Sec} {x : Hd} (h : unh i s = some x) : HOk i x ∧ s = hsec x := by
 unfold unh at h
 split at h
 ·rename_i hx
  cases h
  exact hx.choose_spec
 ·cases h
theorem unh_some {i : Nat} {x : Hd} (h : HOk i x) : unh i (hsec x) = some x := by
 have hx : ∃ y, HOk i y ∧ hsec x = hsec y := ⟨x, h, rfl⟩
 unfold unh
 rw [dif_pos hx]
 exact congrArg some (hsec_inj h hx.choose_spec.1 hx.choose_spec.2).symm
theorem unh_none {i : Nat} {s : Sec} (h : ∀ x, HOk i x → s ≠ hsec x) : unh i s = none := by
 unfold unh
 rw [dif_neg]
 rintro ⟨x, h1, h2⟩
 exact h x h1 h2
/-! ### Records -/
@[ext] structure Ent where
  g : Nat
  s : Nat
  k : Int
  b : Int
  d : ByteArray
  m : Int
def esec (e : Ent) : List UInt8 := sec (e.g : Int) (e.s : Int) e.k e.b e.d e.m
def EOk (e : Ent) : Prop := Rgt (e.s : Int) e.k e.b e.d.size e.m ∧ Num (e.g : Int)
theorem esec_length {e : Ent} (h : EOk e) : (esec e).length = 64 := sec_length h.1
theorem esec_inj {e e' : Ent} (h : EOk e) (h' : EOk e') (he : esec e = esec e') : e = e' := by
 obtain ⟨h1, h2, h3, h4, h5, h6⟩ := sec_inj h.1 h.2 h'.1 h'.2 he
 exact Ent.ext (Int.ofNat.inj h1) (Int.ofNat.inj h2) h3 h4 h5 h6
open Classical in
noncomputable def une (s : Sec) : Option Ent := if h : ∃ x, EOk x ∧ s = esec x then some h.choose else none
theorem une_spec {s : Sec} {x : Ent} (h : une s = some x) : EOk x ∧ s = esec x := by
 unfold une at h
 split at h
 ·rename_i hx
  cases h
  exact hx.choose_spec
 ·cases h
theorem une_some {x : Ent} (h : EOk x) : une (esec x) = some x := by
 have hx : ∃ y, EOk y ∧ esec x = esec y := ⟨x, h, rfl⟩
 unfold une
 rw [dif_pos hx]
 exact congrArg some (esec_inj h hx.choose_spec.1 hx.choose_spec.2).symm
theorem une_none {s : Sec} (h : ∀ x, EOk x → s ≠ esec x) : une s = none := by
 unfold une
 rw [dif_neg]
 rintro ⟨x, h1, h2⟩
 exact h x h1 h2
theorem norec_of_none {s : Sec} (h : une s = none) (g k b : Int) (q : Int) (d : ByteArray) (m : Int) (hr : Rgt q k b d.size m) (hg : Num g) : s ≠ sec g q k b d m := by
 intro e
 have hq : 0 ≤ q := by unfold Rgt at hr; omega
 have hgp : 0 ≤ g := hg.1
 obtain ⟨q', rfl⟩ : ∃ q' : Nat, q = q' := ⟨q.toNat, by omega⟩
 obtain ⟨g', rfl⟩ : ∃ g' : Nat, g = g' := ⟨g.toNat, by omega⟩
 have := une_some (x := ⟨g', q', k, b, d, m⟩) ⟨hr, hg⟩
 rw [show esec ⟨g', q', k, b, d, m⟩ = s from e.symm, h] at this
 cases this
/-! ### A fresh sector -/
def zer : Sec := List.replicate 64 0
theorem zer_no (m : List UInt8) : zer ≠ seal4 m := by
 intro e
 have hl : m.length = 60 := by
  have := congrArg List.length e
  rw [seal4_length] at this
  simp [zer] at this
  omega
 have hm : m = List.replicate 60 0 := by
  have := seal4_take m
  rw [← e, hl] at this
  rw [← this]
  rfl
 rw [hm] at e
 exact absurd e (by decide +kernel)
theorem unh_zer (i : Nat) : unh i zer = none := unh_none fun _ _ => zer_no _
theorem une_zer : une zer = none := une_none fun _ _ => zer_no _
/-! ### What is found -/
noncomputable def cur (A : List Sec) : Option Hd :=
 match unh 0 (A.getD 0 []), unh 1 (A.getD 1 []) with
 | none, none => if A.getD 0 [] = zer ∧ A.getD 1 [] = zer then some ⟨0, 1, 0, 0⟩ else none
 | some a, none => some a
 | none, some b => some b
 | some a, some b => some (if a.t < b.t then b else a)
theorem cur_num {A : List Sec} {h : Hd} (e : cur A = some h) : NumN h.t ∧ NumN h.f ∧ NumN h.g ∧ NumN h.l ∧ 1 ≤ h.f ∧ h.l ≤ h.g := by
 have key : ∀ {i : Nat} {x : Hd} {s : Sec}, unh i s = some x → NumN x.t ∧ NumN x.f ∧ NumN x.g ∧ NumN x.l ∧ 1 ≤ x.f ∧ x.l ≤ x.g := fun hx => by
  have := (unh_spec hx).1
  exact ⟨this.t, this.f, this.g, this.l, this.pos, this.low⟩
 unfold cur at e
 split at e
 ·split at e
  ·cases e
   unfold NumN
   simp
  ·cases e
 ·rename_i h1 _
  cases e
  exact key h1
 ·rename_i h1
  cases e
  exact key h1
 ·rename_i h1 h2
  cases e
  split
  ·exact key h2
  ·exact key h1
noncomputable def load (A : List Sec) (n gen : Nat) : Nat → Nat → Nat → List Ent
 | 0, _, _ => []
 | k + 1, q, lo =>
   match une (A.getD (2 + q % n) []) with
   | some e => if e.s = q ∧ lo ≤ e.g ∧ e.g ≤ gen then e :: load A n gen k (q + 1) e.g else []
   | none => []
theorem load_yes {A : List Sec} {n gen k q lo : Nat} {e : Ent} (h : une (A.getD (2 + q % n) []) = some e) (h2 : e.s = q ∧ lo ≤ e.g ∧ e.g ≤ gen) :
 load A n gen (k + 1) q lo = e :: load A n gen k (q + 1) e.g := by
 rw [load, h]
 exact if_pos h2
theorem load_no {A : List Sec} {n gen k q lo : Nat} {e : Ent} (h : une (A.getD (2 + q % n) []) = some e) (h2 : ¬ (e.s = q ∧ lo ≤ e.g ∧ e.g ≤ gen)) : load A n gen (k + 1) q lo = [] := by
 rw [load, h]
 exact if_neg h2
theorem load_nil {A : List Sec} {n gen k q lo : Nat} (h : une (A.getD (2 + q % n) []) = none) : load A n gen (k + 1) q lo = [] := by
 rw [load, h]
def lst (lo : Nat) : List Ent → Nat
 | [] => lo
 | e :: r => lst e.g r
theorem lst_append (lo : Nat) (E F : List Ent) : lst lo (E ++ F) = lst (lst lo E) F := by
 induction E generalizing lo with
 | nil => rfl
 | cons e r ih => exact ih _
def Up (lo g : Nat) : List Ent → Prop
 | [] => lo ≤ g
 | e :: r => lo ≤ e.g ∧ Up e.g g r
def Seqs (q : Nat) : List Ent → Prop
 | [] => True
 | e :: r => EOk e ∧ e.s = q ∧ Seqs (q + 1) r
theorem Seqs.get {q : Nat} : ∀ {E : List Ent}, Seqs q E → ∀ {i : Nat} {e : Ent}, E[i]? = some e → EOk e ∧ e.s = q + i
 | [], _, i, e, h => by simp at h
 | x :: r, hs, 0, e, h => by
   simp at h
   subst h
   exact ⟨hs.1, hs.2.1⟩
 | x :: r, hs, i + 1, e, h => by
   have := Seqs.get (E := r) hs.2.2 (i := i) (e := e) (by simpa using h)
   exact ⟨this.1, by omega⟩
theorem Seqs.mk {q : Nat} : ∀ {E : List Ent}, (∀ i e, E[i]? = some e → EOk e ∧ e.s = q + i) → Seqs q E
 | [], _ => trivial
 | x :: r, h => ⟨(h 0 x rfl).1, (h 0 x rfl).2, Seqs.mk fun i e he => by
    have := h (i + 1) e (by simpa using he)
    exact ⟨this.1, by omega⟩⟩
theorem Up.lst {g : Nat} : ∀ {lo : Nat} {E : List Ent}, Up lo g E → Jn.lst lo E ≤ g
 | _, [], h => h
 | _, e :: r, h => show Jn.lst e.g r ≤ g from Up.lst (lo := e.g) (E := r) h.2
theorem Up.take {g : Nat} : ∀ {lo : Nat} {E : List Ent}, Up lo g E → ∀ k, Up lo g (E.take k)
 | lo, [], h, k => by simpa using h
 | lo, e :: r, h, 0 => by
   have h2 : Jn.lst lo (e :: r) ≤ g := Up.lst h
   show lo ≤ g
   exact Nat.le_trans h.1 (Nat.le_trans (Up.ge h.2) (Up.lst h.2))
 | lo, e :: r, h, k + 1 => ⟨h.1, Up.take h.2 k⟩
where
 Up.ge {g : Nat} : ∀ {lo : Nat} {E : List Ent}, Up lo g E → lo ≤ Jn.lst lo E
  | _, [], _ => Nat.le_refl _
  | _, _ :: _, h => Nat.le_trans h.1 (Up.ge h.2)
theorem Up.mem {g : Nat} : ∀ {lo : Nat} {E : List Ent}, Up lo g E → ∀ e ∈ E, e.g ≤ g
 | _, [], _, _, h => by cases h
 | _, x :: r, h, e, he => by
   rcases List.mem_cons.1 he with rfl | h1
   ·exact Nat.le_trans (Up.take.Up.ge h.2) (Up.lst h.2)
   ·exact Up.mem h.2 e h1
theorem Up.snoc {g : Nat} {y : Ent} (hy : y.g = g) : ∀ {lo : Nat} {E : List Ent}, Up lo g E → Up lo g (E ++ [y])
 | _, [], h => ⟨by rw [hy]; exact h, by rw [hy]; exact Nat.le_refl g⟩
 | _, _ :: _, h => ⟨h.1, Up.snoc hy h.2⟩
theorem Up.drop {g : Nat} : ∀ {lo : Nat} {E : List Ent}, Up lo g E → ∀ k, Up (Jn.lst lo (E.take k)) g (E.drop k)
 | _, E, h, 0 => by simpa [Jn.lst] using h
 | _, [], h, k + 1 => by simpa [Jn.lst] using h
 | _, _ :: _, h, k + 1 => Up.drop h.2 k
theorem Up.more {g g' : Nat} (hg : g ≤ g') : ∀ {lo : Nat} {E : List Ent}, Up lo g E → Up lo g' E
 | _, [], h => Nat.le_trans (show _ ≤ g from h) hg
 | _, _ :: _, h => ⟨h.1, Up.more hg h.2⟩
theorem load_eq {A : List Sec} {n gen : Nat} : ∀ {E : List Ent} {k q lo : Nat}, Seqs q E → Up lo gen E → E.length ≤ k → (∀ i e, E[i]? = some e → A.getD (2 + (q + i) % n) [] = esec e) →
 (E.length < k → ∀ e, une (A.getD (2 + (q + E.length) % n) []) = some e → e.s = q + E.length → e.g < lst lo E) → load A n gen k q lo = E
 | [], 0, _, _, _, _, _, _, _ => rfl
 | [], k + 1, q, lo, _, _, _, _, h => by
   cases hu : une (A.getD (2 + q % n) []) with
   | none => exact load_nil hu
   | some e =>
     refine load_no hu fun h2 => ?_
     have h3 : e.g < lo := h (by simp) e (by simpa using hu) (by simpa using h2.1)
     omega
 | x :: r, 0, _, _, _, _, hk, _, _ => by simp at hk
 | x :: r, k + 1, q, lo, hs, hu, hk, hc, h => by
   have h0 : A.getD (2 + q % n) [] = esec x := by simpa using hc 0 x rfl
   rw [load_yes (e := x) (by rw [h0]; exact une_some hs.1) ⟨hs.2.1, hu.1, Nat.le_trans (Up.take.Up.ge hu.2) (Up.lst hu.2)⟩]
   congr 1
   refine load_eq hs.2.2 hu.2 (by simpa using hk) (fun i e he => ?_) (fun hl e he hq => ?_)
   ·have := hc (i + 1) e (by simpa using he)
    rw [show q + 1 + i = q + (i + 1) by omega]
    exact this
   ·have e1 : q + 1 + r.length = q + (x :: r).length := by simp; omega
    rw [e1] at he hq
    exact h (by simpa using hl) e he hq
end Go.Proofs.YtapiogcoipeinaaGreatDoor.Jn
namespace Go.Proofs.YtapiogcoipeinaaGreatDoor.Jn
open Pk Sm Rc Dk
/-! ### Sectors behind a crash -/
theorem crash_other (K : Nat) {i : Nat} : ∀ {L : List Wr} {k : Nat} {S : List Sec}, (∀ x ∈ L, x.1 ≠ i) → (crash K k L S)[i]? = S[i]?
 | [], _, _, _ => rfl
 | x :: L, k, S, h => by
   show (crash K (k + 1) L _)[i]? = _
   rw [crash_other K (fun y hy => h y (by simp [hy]))]
   split
   ·rw [done, List.getElem?_set_ne (h x (by simp))]
   ·rfl
theorem crash_at (K : Nat) : ∀ {L : List Wr} {k j : Nat} {S : List Sec} {x : Wr}, L.Pairwise (fun a b => a.1 ≠ b.1) → L[j]? = some x → x.1 < S.length →
 (crash K k L S)[x.1]? = if K.testBit ((k + j) % 64) then some x.2 else S[x.1]?
 | [], _, _, _, _, _, h, _ => by simp at h
 | y :: L, k, 0, S, x, hp, h, hx => by
   simp at h
   subst h
   show (crash K (k + 1) L _)[_]? = _
   rw [crash_other K (fun z hz => Ne.symm ((List.pairwise_cons.1 hp).1 z hz)), Nat.add_zero]
   split
   ·simp [done, hx]
   ·rfl
 | y :: L, k, j + 1, S, x, hp, h, hx => by
   have h' : L[j]? = some x := by simpa using h
   have hne : y.1 ≠ x.1 := (List.pairwise_cons.1 hp).1 x (List.mem_of_getElem? h')
   show (crash K (k + 1) L _)[_]? = _
   have hq : ∀ S' : List Sec, S'.length = S.length → S'[x.1]? = S[x.1]? → (crash K (k + 1) L S')[x.1]? = if K.testBit ((k + (j + 1)) % 64) then some x.2 else S[x.1]? := fun S' hl he => by
    rw [crash_at K (List.pairwise_cons.1 hp).2 h' (by omega), he, show k + 1 + j = k + (j + 1) by omega]
   split
   ·exact hq _ (by simp [done]) (by rw [done, List.getElem?_set_ne hne])
   ·exact hq _ rfl rfl
theorem getD_of {A : List Sec} {i : Nat} {s : Sec} (h : A[i]? = some s) : A.getD i [] = s := by simp [List.getD_eq_getElem?_getD, h]
theorem getD_same {A B : List Sec} {i : Nat} (h : A[i]? = B[i]?) : A.getD i [] = B.getD i [] := by simp [List.getD_eq_getElem?_getD, h]
theorem slot_ne {n a i j : Nat} (hi : i < n) (hj : j < n) (hne : i ≠ j) : (a + i) % n ≠ (a + j) % n := by
 intro h
 have e1 := Nat.div_add_mod (a + i) n
 have e2 := Nat.div_add_mod (a + j) n
 rw [h] at e1
 rcases Nat.lt_trichotomy ((a + i) / n) ((a + j) / n) with hl | hl | hl
 ·have := Nat.mul_le_mul_left n (show (a + i) / n + 1 ≤ (a + j) / n from hl)
  rw [Nat.mul_succ] at this
  omega
 ·rw [hl] at e1
  omega
 ·have := Nat.mul_le_mul_left n (show (a + j) / n + 1 ≤ (a + i) / n from hl)
  rw [Nat.mul_succ] at this
  omega
def wr (n : Nat) (e : Ent) : Wr := (2 + e.s % n, esec e)
def wrs (n : Nat) (E : List Ent) : List Wr := E.map (wr n)
structure Jg (S : List Sec) (n : Nat) (h : Hd) (E : List Ent) (D B : Nat) : Prop where
 ring : 1 ≤ n
 size : 2 + n ≤ S.length
 head : HOk (h.t % 2) h ∧ S.getD (h.t % 2) [] = hsec h
 other : ∀ x, unh (1 - h.t % 2) (S.getD (1 - h.t % 2) []) = some x → x.t < h.t
 few : E.length ≤ n
 seqs : Seqs h.f E
 up : Up h.l h.g E
 le : D ≤ E.length
 dur : ∀ i e, i < D → E[i]? = some e → S.getD (2 + (h.f + i) % n) [] = esec e
 gap : ∀ i, D ≤ i → i ≤ E.length → i < n → ∀ e, une (S.getD (2 + (h.f + i) % n) []) = some e → e.s = h.f + i → e.g < lst h.l (E.take i)
 ghost : ∀ c, c < n → ∀ e, une (S.getD (2 + c) []) = some e → h.f + D ≤ e.s → e.g < B
section
variable {S : List Sec} {n : Nat} {h : Hd} {E : List Ent} {D B : Nat}
theorem Jg.cur (j : Jg S n h E D B) : cur S = some h := by
 have hp : h.t % 2 = 0 ∨ h.t % 2 = 1 := by omega
 have hh : unh (h.t % 2) (S.getD (h.t % 2) []) = some h := by rw [j.head.2]; exact unh_some j.head.1
 have ho := j.other
 unfold Jn.cur
 rcases hp with hp | hp
 ·rw [hp] at hh ho
  cases hu : unh 1 (S.getD 1 []) with
  | none => rw [hh]
  | some x =>
    have := ho x hu
    rw [hh]
    exact congrArg some (if_neg (by omega))
 ·rw [hp] at hh ho
  cases hu : unh 0 (S.getD 0 []) with
  | none => rw [hh]
  | some x =>
    have := ho x hu
    rw [hh]
    exact congrArg some (if_pos this)
theorem Jg.load (j : Jg S n h E E.length B) : load S n h.g n h.f h.l = E :=
 load_eq j.seqs j.up j.few (fun i e he => j.dur i e (List.getElem?_eq_some_iff.1 he).1 he) fun hl e he hq => by
  have := j.gap E.length (Nat.le_refl _) (Nat.le_refl _) hl e he hq
  rwa [List.take_length] at this
theorem Jg.more (j : Jg S n h E D B) {B' : Nat} (hB : B ≤ B') : Jg S n h E D B' :=
 { j with ghost := fun c hc e he hq => Nat.lt_of_lt_of_le (j.ghost c hc e he hq) hB }
theorem Jg.append (j : Jg S n h E D B) (hB : B ≤ h.g) (hl : E.length < n) {y : Ent} (hy : EOk y) (hs : y.s = h.f + E.length) (hg : y.g = h.g) : Jg S n h (E ++ [y]) D B where
 ring := j.ring
 size := j.size
 head := j.head
 other := j.other
 few := by simp; omega
 seqs := Seqs.mk fun i e he => by
  rcases Nat.lt_or_ge i E.length with hi | hi
  ·rw [List.getElem?_append_left hi] at he
   exact j.seqs.get he
  ·rw [List.getElem?_append_right hi] at he
   have hi2 : i - E.length = 0 := by
    rcases Nat.eq_zero_or_pos (i - E.length) with h0 | h0
    ·exact h0
    ·rw [List.getElem?_eq_none (by simp; omega)] at he; cases he
   rw [hi2] at he
   simp at he
   subst he
   exact ⟨hy, by omega⟩
 up := j.up.snoc hg
 le := by have := j.le; simp; omega
 dur := fun i e hi he => by
  rw [List.getElem?_append_left (by have := j.le; omega)] at he
  exact j.dur i e hi he
 gap := fun i hD hi hn e he hq => by
  rcases Nat.lt_or_ge E.length i with h1 | h1
  ·have hi' : i = E.length + 1 := by simp at hi; omega
   rw [List.take_of_length_le (by simp; omega), lst_append]
   show e.g < y.g
   have hmod : (h.f + i) % n < n := Nat.mod_lt _ (by have := j.ring; omega)
   have := j.ghost _ hmod e he (by omega)
   omega
  ·rw [List.take_append_of_le_length h1]
   exact j.gap i hD h1 hn e he hq
 ghost := j.ghost
theorem wrs_get {F : List Ent} {i : Nat} {e : Ent} (he : F[i]? = some e) : (wrs n F)[i]? = some (wr n e) := by simp [wrs, he]
theorem wrs_length (F : List Ent) : (wrs n F).length = F.length := by simp [wrs]
theorem wrs_pair {q : Nat} : ∀ {F : List Ent}, Seqs q F → F.length ≤ n → (wrs n F).Pairwise (fun a b => a.1 ≠ b.1) := fun {F} hs hl => by
 rw [List.pairwise_iff_getElem]
 intro i k hi hk hik
 rw [wrs_length] at hi hk
 have h1 := hs.get (List.getElem?_eq_getElem hi)
 have h2 := hs.get (List.getElem?_eq_getElem hk)
 simp only [wrs, List.getElem_map, wr]
 rw [h1.2, h2.2]
 have := slot_ne (n := n) (a := q) (i := i) (j := k) (by omega) (by omega) (by omega)
 omega
theorem seqs_drop {q : Nat} {F : List Ent} (hs : Seqs q F) (k : Nat) : Seqs (q + k) (F.drop k) := Seqs.mk fun i e he => by
 rw [List.getElem?_drop] at he
 have := hs.get he
 exact ⟨this.1, by omega⟩
theorem seqs_take {q : Nat} {F : List Ent} (hs : Seqs q F) (k : Nat) : Seqs q (F.take k) := Seqs.mk fun i e he => by
 rw [List.getElem?_take] at he
 split at he
 ·exact hs.get he
 ·cases he
theorem first_gap (K : Nat) : ∀ m : Nat, ∃ j, j ≤ m ∧ (∀ i, i < j → K.testBit (i % 64) = true) ∧ (j < m → K.testBit (j % 64) = false)
 | 0 => ⟨0, Nat.le_refl _, fun i hi => by omega, fun h => by omega⟩
 | m + 1 => by
   obtain ⟨j, h1, h2, h3⟩ := first_gap K m
   rcases Nat.lt_or_ge j m with hl | hl
   ·exact ⟨j, by omega, h2, fun _ => h3 hl⟩
   ·obtain rfl : j = m := by omega
    cases hb : K.testBit (j % 64) with
    | false => exact ⟨j, by omega, h2, fun _ => hb⟩
    | true =>
      refine ⟨j + 1, Nat.le_refl _, fun i hi => ?_, fun h => by omega⟩
      rcases Nat.lt_or_ge i j with h4 | h4
      ·exact h2 i h4
      ·obtain rfl : i = j := by omega
       exact hb
theorem Jg.slot (j : Jg S n h E D B) (K : Nat) {c : Nat} (hc : c < n) :
 (∃ i e, D ≤ i ∧ E[i]? = some e ∧ (h.f + i) % n = c ∧ ((K.testBit ((i - D) % 64) = true ∧ (crash K 0 (wrs n (E.drop D)) S).getD (2 + c) [] = esec e) ∨ (K.testBit ((i - D) % 64) = false ∧ (crash K 0 (wrs n (E.drop D)) S).getD (2 + c) [] = S.getD (2 + c) []))) ∨
 ((∀ i e, D ≤ i → E[i]? = some e → (h.f + i) % n ≠ c) ∧ (crash K 0 (wrs n (E.drop D)) S).getD (2 + c) [] = S.getD (2 + c) []) := by
 by_cases hx : ∃ i e, D ≤ i ∧ E[i]? = some e ∧ (h.f + i) % n = c
 ·obtain ⟨i, e, hi, he, hq⟩ := hx
  refine Or.inl ⟨i, e, hi, he, hq, ?_⟩
  have hes := j.seqs.get he
  have hd : (E.drop D)[i - D]? = some e := by rw [List.getElem?_drop, show D + (i - D) = i by omega]; exact he
  have hp := wrs_pair (n := n) (seqs_drop j.seqs D) (by have := j.few; rw [List.length_drop]; omega)
  have ha := crash_at K (k := 0) (S := S) hp (wrs_get (n := n) hd) (by have := j.size; simp only [wr]; rw [hes.2, hq]; omega)
  have hw : (wr n e).1 = 2 + c := by simp only [wr]; rw [hes.2, hq]
  rw [hw, Nat.zero_add] at ha
  cases hb : K.testBit ((i - D) % 64) with
  | true =>
    rw [hb, if_pos rfl] at ha
    exact Or.inl ⟨rfl, getD_of ha⟩
  | false =>
    rw [hb, if_neg Bool.false_ne_true] at ha
    exact Or.inr ⟨rfl, getD_same ha⟩
 ·refine Or.inr ⟨fun i e hi he hq => hx ⟨i, e, hi, he, hq⟩, getD_same (crash_other K fun x hxm => ?_)⟩
  simp only [wrs, List.mem_map] at hxm
  obtain ⟨e, he, rfl⟩ := hxm
  obtain ⟨k, hk⟩ := List.getElem?_of_mem he
  rw [List.getElem?_drop] at hk
  have hes := j.seqs.get hk
  simp only [wr]
  rw [hes.2]
  intro e2
  exact hx ⟨D + k, e, by omega, hk, by omega⟩
theorem Jg.heads (_j : Jg S n h E D B) (K : Nat) {c : Nat} (hc : c < 2) : (crash K 0 (wrs n (E.drop D)) S).getD c [] = S.getD c [] := by
 refine getD_same (crash_other K fun x hx => ?_)
 simp only [wrs, List.mem_map] at hx
 obtain ⟨e, _, rfl⟩ := hx
 simp only [wr]
 omega
theorem Jg.crash (j : Jg S n h E D B) (K : Nat) (hB : B ≤ h.g + 1) :
 ∃ i, D ≤ i ∧ i ≤ E.length ∧ Jg (crash K 0 (wrs n (E.drop D)) S) n h (E.take i) i (h.g + 1) ∧ ((∀ b, b < 64 → K.testBit b = true) → i = E.length) := by
 obtain ⟨q, hq1, hq2, hq3⟩ := first_gap K (E.length - D)
 have hle := j.le
 have hfew := j.few
 have hlen : (E.take (D + q)).length = D + q := by rw [List.length_take]; omega
 refine ⟨D + q, by omega, by omega, ?_, fun hall => ?_⟩
 ·refine ⟨j.ring, by rw [crash_length]; exact j.size, ⟨j.head.1, by rw [j.heads K (Nat.mod_lt _ (by omega))]; exact j.head.2⟩, fun x hx => j.other x (by rw [← j.heads K (by omega)]; exact hx), by omega, seqs_take j.seqs _, j.up.take _, by omega, ?_, ?_, ?_⟩
  ·intro i e hi he
   rw [List.getElem?_take, if_pos hi] at he
   have hmod : (h.f + i) % n < n := Nat.mod_lt _ (by have := j.ring; omega)
   rcases j.slot K hmod with ⟨i', e', h1, h2, h3, h4⟩ | ⟨h1, h2⟩
   ·have hi' : i' = i := by
     by_cases hne : i' = i
     ·exact hne
     ·exact absurd h3 (slot_ne (by have := (List.getElem?_eq_some_iff.1 h2).1; omega) (by omega) hne)
    subst hi'
    obtain rfl : e' = e := Option.some.inj (h2.symm.trans he)
    rcases h4 with h4 | h4
    ·exact h4.2
    ·have := hq2 (i' - D) (by omega)
     rw [this] at h4
     cases h4.1
   ·rw [h2]
    have hiD : i < D := by
     rcases Nat.lt_or_ge i D with hd | hd
     ·exact hd
     ·exact absurd rfl (h1 i e hd he)
    exact j.dur i e hiD he
  ·intro i h1 h2 h3 e he hs
   obtain rfl : i = D + q := by omega
   rw [List.take_of_length_le (by omega)]
   have hmod : (h.f + (D + q)) % n < n := Nat.mod_lt _ (by have := j.ring; omega)
   refine j.gap (D + q) (by omega) (by omega) h3 e ?_ hs
   rcases j.slot K hmod with ⟨i', e', k1, k2, k3, k4⟩ | ⟨k1, k2⟩
   ·have hi' : i' = D + q := by
     by_cases hne : i' = D + q
     ·exact hne
     ·exact absurd k3 (slot_ne (by have := (List.getElem?_eq_some_iff.1 k2).1; omega) (by omega) hne)
    subst hi'
    have hlt := (List.getElem?_eq_some_iff.1 k2).1
    rcases k4 with k4 | k4
    ·have := hq3 (by omega)
     rw [show D + q - D = q by omega, this] at k4
     cases k4.1
    ·rw [← k4.2]; exact he
   ·rw [← k2]; exact he
  ·intro c hc e he hs
   rcases j.slot K hc with ⟨i', e', k1, k2, k3, k4⟩ | ⟨k1, k2⟩
   ·rcases k4 with k4 | k4
    ·rw [k4.2, une_some (j.seqs.get k2).1] at he
     cases he
     have := j.up.mem e (List.mem_of_getElem? k2)
     omega
    ·rw [k4.2] at he
     have := j.ghost c hc e he (by omega)
     omega
   ·rw [k2] at he
    have := j.ghost c hc e he (by omega)
    omega
 ·have : q = E.length - D := by
   rcases Nat.lt_or_ge q (E.length - D) with hl | hl
   ·have := hq3 hl
    rw [hall _ (Nat.mod_lt _ (by omega))] at this
    cases this
   ·omega
  omega
theorem all_crash : ∀ (L : List Wr) (k : Nat) (S : List Sec), Dk.crash 18446744073709551615 k L S = all S L
 | [], _, _ => rfl
 | x :: L, k, S => by
   show Dk.crash _ (k + 1) L (if (18446744073709551615 : Nat).testBit (k % 64) then done S x else S) = _
   rw [if_pos (by rw [show (18446744073709551615 : Nat) = 2 ^ 64 - 1 by decide, Nat.testBit_two_pow_sub_one]; simp; omega), all_crash L]
   rfl
theorem Jg.flush (j : Jg S n h E D B) (hB : B ≤ h.g + 1) : Jg (all S (wrs n (E.drop D))) n h E E.length B := by
 obtain ⟨i, h1, h2, h3, h4⟩ := j.crash 18446744073709551615 hB
 obtain rfl : i = E.length := h4 fun b hb => by rw [show (18446744073709551615 : Nat) = 2 ^ 64 - 1 by decide, Nat.testBit_two_pow_sub_one]; simp; omega
 rw [all_crash, List.take_length] at h3
 refine { h3 with ghost := fun c hc e he hs => ?_ }
 have hsl := j.slot 18446744073709551615 hc
 rw [all_crash] at hsl
 have hle := j.le
 rcases hsl with ⟨i', e', k1, k2, k3, k4⟩ | ⟨k1, k2⟩
 ·rcases k4 with k4 | k4
  ·rw [k4.2, une_some (j.seqs.get k2).1] at he
   cases he
   have := (j.seqs.get k2).2
   have := (List.getElem?_eq_some_iff.1 k2).1
   omega
  ·rw [k4.2] at he
   exact j.ghost c hc e he (by omega)
 ·rw [k2] at he
  exact j.ghost c hc e he (by omega)
theorem getD_set_same {A : List Sec} {i : Nat} {s : Sec} (h : i < A.length) : (A.set i s).getD i [] = s := getD_of (by simp [h])
theorem getD_set_ne {A : List Sec} {i k : Nat} {s : Sec} (h : i ≠ k) : (A.set i s).getD k [] = A.getD k [] := getD_same (by rw [List.getElem?_set_ne h])
theorem Jg.save (j : Jg S n h E E.length B) {h' : Hd} {k : Nat} (ht : h'.t = h.t + 1) (hok : HOk (h'.t % 2) h') (hk : k ≤ E.length) (hf : h'.f = h.f + k) (hl : h'.l = lst h.l (E.take k)) (hg : h.g ≤ h'.g) (hB : B ≤ h'.g) :
 Jg (S.set ((h.t + 1) % 2) (hsec h')) n h' (E.drop k) (E.length - k) h'.g := by
 have hsz := j.size
 have hring := j.ring
 have hfew := j.few
 have h2 : ∀ c, ((h.t + 1) % 2 ≠ 2 + c) := fun c => by omega
 have hdl : (E.drop k).length = E.length - k := List.length_drop
 refine ⟨j.ring, by rw [List.length_set]; exact j.size, ⟨hok, ?_⟩, ?_, by omega, ?_, ?_, by omega, ?_, ?_, ?_⟩
 ·rw [ht, getD_set_same (by omega)]
 ·intro x hx
  rw [ht, getD_set_ne (by omega), show 1 - (h.t + 1) % 2 = h.t % 2 by omega, j.head.2, unh_some j.head.1] at hx
  cases hx
  omega
 ·rw [hf]; exact seqs_drop j.seqs k
 ·rw [hl]; exact (j.up.drop k).more hg
 ·intro i e hi he
  rw [List.getElem?_drop] at he
  rw [getD_set_ne (h2 _), hf, show h.f + k + i = h.f + (k + i) by omega]
  exact j.dur _ e (by omega) he
 ·intro i h1 h3 h4 e he hs
  obtain rfl : i = E.length - k := by omega
  rw [getD_set_ne (h2 _), hf, show h.f + k + (E.length - k) = h.f + E.length by omega] at he
  rw [hf, show h.f + k + (E.length - k) = h.f + E.length by omega] at hs
  rw [List.take_of_length_le (by omega), hl, ← lst_append, List.take_append_drop]
  by_cases hn : E.length < n
  ·have := j.gap E.length (Nat.le_refl _) (Nat.le_refl _) hn e he hs
   rwa [List.take_length] at this
  ·obtain ⟨x, hx⟩ : ∃ x, E[0]? = some x := ⟨_, List.getElem?_eq_getElem (by omega)⟩
   have hd := j.dur 0 x (by omega) hx
   have hq := j.seqs.get hx
   rw [show h.f + E.length = h.f + 0 + n by omega, Nat.add_mod_right, hd, une_some hq.1] at he
   cases he
   omega
 ·intro c hc e he hs
  rw [getD_set_ne (h2 _)] at he
  have := j.ghost c hc e he (by omega)
  omega
end
theorem Jg.fresh {n N : Nat} (hn : 1 ≤ n) (hN : 2 + n ≤ N) : Jg ((List.replicate N zer).set 1 (hsec ⟨1, 1, 1, 0⟩)) n ⟨1, 1, 1, 0⟩ [] 0 1 := by
 have hz : ∀ c, c < N → (List.replicate N zer).getD c [] = zer := fun c hc => getD_of (by simp [hc])
 refine ⟨hn, by simpa using hN, ⟨⟨by decide, by decide, by decide, by decide, by decide, by decide, rfl⟩, getD_set_same (by simp; omega)⟩, ?_, Nat.zero_le _, trivial, ?_, Nat.le_refl _, fun i e hi _ => by omega, ?_, ?_⟩
 ·intro x hx
  rw [show 1 - 1 % 2 = 0 by rfl, getD_set_ne (by omega), hz 0 (by omega), unh_zer] at hx
  cases hx
 ·show 0 ≤ 1
  omega
 ·intro i _ h2 h3 e he
  rw [getD_set_ne (by omega), hz _ (by have := Nat.mod_lt ((Hd.mk 1 1 1 0).f + i) (show 0 < n by omega); omega), une_zer] at he
  cases he
 ·intro c hc e he
  rw [getD_set_ne (by omega), hz _ (by omega), une_zer] at he
  cases he
theorem cur_fresh {N : Nat} (hN : 2 ≤ N) : cur (List.replicate N zer) = some ⟨0, 1, 0, 0⟩ := by
 have hz : ∀ c, c < N → (List.replicate N zer).getD c [] = zer := fun c hc => getD_of (by simp [hc])
 unfold cur
 rw [hz 0 (by omega), hz 1 (by omega), unh_zer, unh_zer]
 exact if_pos ⟨rfl, rfl⟩
theorem load_fresh {n N : Nat} (hn : 1 ≤ n) (hN : 2 + n ≤ N) : load (List.replicate N zer) n 0 n 1 0 = [] := by
 obtain ⟨k, rfl⟩ : ∃ k, n = k + 1 := ⟨n - 1, by omega⟩
 refine load_nil ?_
 rw [getD_of (s := zer) (by rw [List.getElem?_replicate, if_pos]; have := Nat.mod_lt 1 (show 0 < k + 1 by omega); omega), une_zer]
end Go.Proofs.YtapiogcoipeinaaGreatDoor.Jn
namespace Go.Proofs.YtapiogcoipeinaaGreatDoor.Vo
open Pk Sm Rc Dk Jn
@[ext] structure Hm where
  s : Nat
  d : ByteArray
def hm0 : Hm := ⟨0, ⟨#[]⟩⟩
def mbod (b : Nat) (h : Hm) : List UInt8 := enc (clamp h.s) ++ enc (clamp b) ++ enc h.d.size ++ h.d.data.toList
def msec (b : Nat) (h : Hm) : Sec := seal4 (pad (mbod b h))
structure MOk (h : Hm) : Prop where
 pos : 1 ≤ h.s
 num : NumN h.s
 len : h.d.size ≤ 16
theorem mbod_le {h : Hm} (k : h.d.size ≤ 16) (b : Nat) : (mbod b h).length ≤ 60 := by
 have h1 := enc_le (clamp h.s)
 have h2 := enc_le (clamp b)
 have h3 := enc_le h.d.size
 have h4 := size_eq h.d
 unfold mbod
 simp only [List.length_append]
 omega
theorem msec_length {h : Hm} (k : h.d.size ≤ 16) (b : Nat) : (msec b h).length = 64 := by
 unfold msec
 rw [seal4_length, pad_length _ (mbod_le k b)]
def mgot (l : List UInt8) : Hm :=
 ⟨(rnum l 0).1, str (rtext (rnum (rnum l 0).2.1 (rnum l 0).2.2).2.1 (rnum (rnum l 0).2.1 (rnum l 0).2.2).2.2 16).1⟩
theorem mgot_step {l l1 l2 l3 d : List UInt8} {e1 e2 e3 s b : Nat} (h1 : rnum l 0 = (s, l1, e1)) (h2 : rnum l1 e1 = (b, l2, e2)) (h3 : rtext l2 e2 16 = (d, l3, e3)) : mgot l = ⟨s, str d⟩ := by
 unfold mgot
 simp only [h1, h2, h3]
theorem mgot_num (l : List UInt8) : NumN (mgot l).s := rnum_lt _ _
theorem mgot_len (l : List UInt8) : (mgot l).d.size ≤ 16 := by
 have := rtext_le (rnum (rnum l 0).2.1 (rnum l 0).2.2).2.1 (rnum (rnum l 0).2.1 (rnum l 0).2.2).2.2
 have h2 := size_eq (mgot l).d
 have h3 : (mgot l).d.data.toList = (rtext (rnum (rnum l 0).2.1 (rnum l 0).2.2).2.1 (rnum (rnum l 0).2.1 (rnum l 0).2.2).2.2 16).1 := by simp [mgot, str]
 rw [h3] at h2
 omega
theorem mgot_bod {b : Nat} {h : Hm} (k : MOk h) (hb : NumN b) (r : List UInt8) : mgot (mbod b h ++ r) = h := by
 have hs := k.num
 have hd := k.len
 unfold NumN at hs hb
 have e1 : ∀ t, rnum (enc (clamp h.s) ++ t) 0 = (h.s, t, 0) := fun t => by rw [clampN k.num]; exact rnum_enc _ _ (by omega)
 have e2 : ∀ t, rnum (enc (clamp b) ++ t) 0 = (b, t, 0) := fun t => by rw [clampN hb]; exact rnum_enc _ _ (by omega)
 have e3 : rtext (enc h.d.size ++ h.d.data.toList ++ r) 0 16 = (h.d.data.toList, r, 0) := by
  have := rtext_enc h.d.data.toList r 16 (by rw [size_eq]; omega) (by rw [size_eq]; omega)
  rw [size_eq] at this
  exact this
 have e0 : mbod b h ++ r = enc (clamp h.s) ++ (enc (clamp b) ++ (enc h.d.size ++ h.d.data.toList ++ r)) := by simp [mbod]
 rw [e0, mgot_step (e1 _) (e2 _) e3, str_of]
theorem mgot_pad {b : Nat} {h : Hm} (k : MOk h) (hb : NumN b) : mgot (pad (mbod b h)) = h := mgot_bod k hb _
theorem msec_inj {b : Nat} {h h' : Hm} (k : MOk h) (k' : MOk h') (hb : NumN b) (e : msec b h = msec b h') : h = h' := by
 have := seal4_inj e
 rw [← mgot_pad k hb, this, mgot_pad k' hb]
def hom (b : Nat) (h : Hm) : Sec := if h.s = 0 then zer else msec b h
def Wf (h : Hm) : Prop := h = hm0 ∨ MOk h
theorem Wf.zero {h : Hm} (k : Wf h) (e : h.s = 0) : h = hm0 := by
 rcases k with rfl | k
 ·rfl
 ·have := k.pos; omega
theorem Wf.ok {h : Hm} (k : Wf h) (e : h.s ≠ 0) : MOk h := by
 rcases k with rfl | k
 ·exact absurd rfl e
 ·exact k
theorem Wf.num {h : Hm} (k : Wf h) : NumN h.s := by
 rcases k with rfl | k
 ·exact Nat.zero_le _
 ·exact k.num
theorem Wf.len {h : Hm} (k : Wf h) : h.d.size ≤ 16 := by
 rcases k with rfl | k
 ·exact Nat.zero_le _
 ·exact k.len
theorem hom_zero (b : Nat) : hom b hm0 = zer := if_pos rfl
theorem hom_ok {b : Nat} {h : Hm} (k : MOk h) : hom b h = msec b h := if_neg (by have := k.pos; omega)
open Classical in
noncomputable def unm (b : Nat) (s : Sec) : Option Hm := if h : ∃ x, Wf x ∧ s = hom b x then some h.choose else none
theorem hom_inj {b : Nat} {x y : Hm} (hx : Wf x) (hy : Wf y) (hb : NumN b) (e : hom b x = hom b y) : x = y := by
 rcases hx with rfl | hx <;> rcases hy with rfl | hy
 ·rfl
 ·rw [hom_zero, hom_ok hy] at e
  exact absurd e (zer_no _)
 ·rw [hom_zero, hom_ok hx] at e
  exact absurd e.symm (zer_no _)
 ·rw [hom_ok hx, hom_ok hy] at e
  exact msec_inj hx hy hb e
theorem unm_some {b : Nat} {x : Hm} (h : Wf x) (hb : NumN b) : unm b (hom b x) = some x := by
 have hx : ∃ y, Wf y ∧ hom b x = hom b y := ⟨x, h, rfl⟩
 unfold unm
 rw [dif_pos hx]
 exact congrArg some (hom_inj h hx.choose_spec.1 hb hx.choose_spec.2).symm
theorem unm_none {b : Nat} {s : Sec} (h : ∀ x, Wf x → s ≠ hom b x) : unm b s = none := by
 unfold unm
 rw [dif_neg]
 rintro ⟨x, h1, h2⟩
 exact h x h1 h2
/-! ### The contents of a block -/
def Hits (b : Nat) (now : Hm) (e : Ent) : Prop := e.k = 1 ∧ e.b = (b : Int) ∧ now.s < e.s
instance (b : Nat) (now : Hm) (e : Ent) : Decidable (Hits b now e) := by unfold Hits; exact inferInstance
def upd (b : Nat) (now : Hm) (e : Ent) : Hm := if Hits b now e then ⟨e.s, e.d⟩ else now
def cont (b : Nat) (h : Hm) (E : List Ent) : Hm := E.foldl (upd b) h
theorem cont_snoc (b : Nat) (h : Hm) (E : List Ent) (e : Ent) : cont b h (E ++ [e]) = upd b (cont b h E) e := by simp [cont]
theorem cont_or (b : Nat) : ∀ (E : List Ent) (h : Hm), cont b h E = h ∨ ∃ e ∈ E, e.k = 1 ∧ e.b = (b : Int) ∧ cont b h E = ⟨e.s, e.d⟩
 | [], _ => Or.inl rfl
 | x :: E, h => by
   rcases cont_or b E (upd b h x) with h1 | ⟨e, he, h1, h2, h3⟩
   ·by_cases hx : Hits b h x
    ·exact Or.inr ⟨x, by simp, hx.1, hx.2.1, h1.trans (if_pos hx)⟩
    ·exact Or.inl (h1.trans (if_neg hx))
   ·exact Or.inr ⟨e, by simp [he], h1, h2, h3⟩
theorem EOk.home {e : Ent} (h : EOk e) (hk : e.k = 1) : MOk ⟨e.s, e.d⟩ := by
 have h1 := h.1
 unfold Rgt at h1
 exact ⟨by show 1 ≤ e.s; omega, by show e.s ≤ _; omega, by show e.d.size ≤ 16; omega⟩
theorem cont_lt {b : Nat} {h : Hm} {E : List Ent} {N : Nat} (k : h.s < N) (hE : ∀ e ∈ E, e.s < N) : (cont b h E).s < N := by
 rcases cont_or b E h with h1 | ⟨e, he, _, _, h3⟩
 ·rw [h1]; exact k
 ·rw [h3]; exact hE e he
theorem Seqs.ok {q : Nat} {E : List Ent} (h : Seqs q E) : ∀ e ∈ E, EOk e ∧ q ≤ e.s ∧ e.s < q + E.length := fun e he => by
 obtain ⟨i, hi⟩ := List.getElem?_of_mem he
 have h1 := h.get hi
 have h2 := (List.getElem?_eq_some_iff.1 hi).1
 exact ⟨h1.1, by omega, by omega⟩
end Go.Proofs.YtapiogcoipeinaaGreatDoor.Vo
namespace Go.Proofs.YtapiogcoipeinaaGreatDoor.Vo
open Pk Sm Rc Dk Jn
theorem Jg.same {S S' : List Sec} {n : Nat} {h : Hd} {E : List Ent} {D B : Nat} (j : Jg S n h E D B) (hl : 2 + n ≤ S'.length) (hs : ∀ i, i < 2 + n → S'.getD i [] = S.getD i []) : Jg S' n h E D B := by
 have hm : ∀ c, 2 + c % n < 2 + n := fun c => by have := Nat.mod_lt c (show 0 < n from j.ring); omega
 refine ⟨j.ring, hl, ⟨j.head.1, by rw [hs _ (by have := Nat.mod_lt h.t (show 0 < 2 by decide); have := j.ring; omega)]; exact j.head.2⟩, ?_, j.few, j.seqs, j.up, j.le, ?_, ?_, ?_⟩
 ·rw [hs _ (by have := j.ring; omega)]; exact j.other
 ·intro i e hi he
  rw [hs _ (hm _)]
  exact j.dur i e hi he
 ·intro i h1 h2 h3 e he hq
  rw [hs _ (hm _)] at he
  exact j.gap i h1 h2 h3 e he hq
 ·intro c hc e he hq
  rw [hs _ (by omega)] at he
  exact j.ghost c hc e he hq
structure Vg (S : List Sec) (n : Nat) (h : Hd) (E : List Ent) (D B : Nat) (H : Nat → Hm) : Prop where
 jg : Jg S n h E D B
 size : 2 + n + 8 ≤ S.length
 home : ∀ b, b < 8 → S.getD (2 + n + b) [] = hom b (H b)
 wf : ∀ b, b < 8 → Wf (H b)
 old : ∀ b, b < 8 → (H b).s < h.f + D
def blk (H : Nat → Hm) (E : List Ent) (b : Nat) : ByteArray := (cont b (H b) E).d
section
variable {S : List Sec} {n : Nat} {h : Hd} {E : List Ent} {D B : Nat} {H : Nat → Hm}
theorem Vg.lt (j : Vg S n h E D B H) {b : Nat} (hb : b < 8) : (cont b (H b) E).s < h.f + E.length :=
 cont_lt (Nat.lt_of_lt_of_le (j.old b hb) (by have := j.jg.le; omega)) fun e he => (Seqs.ok j.jg.seqs e he).2.2
theorem Vg.append (j : Vg S n h E D B H) (hB : B ≤ h.g) (hl : E.length < n) {y : Ent} (hy : EOk y) (hs : y.s = h.f + E.length) (hg : y.g = h.g) : Vg S n h (E ++ [y]) D B H :=
 ⟨j.jg.append hB hl hy hs hg, j.size, j.home, j.wf, j.old⟩
theorem crash_home (K : Nat) {F : List Ent} {b : Nat} (hn : 1 ≤ n) (S : List Sec) : (crash K 0 (wrs n F) S).getD (2 + n + b) [] = S.getD (2 + n + b) [] := by
 refine getD_same (crash_other K fun x hx => ?_)
 simp only [wrs, List.mem_map] at hx
 obtain ⟨e, _, rfl⟩ := hx
 simp only [wr]
 have := Nat.mod_lt e.s (show 0 < n from hn)
 omega
theorem Vg.crash (j : Vg S n h E D B H) (K : Nat) (hB : B ≤ h.g + 1) : ∃ i, D ≤ i ∧ i ≤ E.length ∧ Vg (crash K 0 (wrs n (E.drop D)) S) n h (E.take i) i (h.g + 1) H := by
 obtain ⟨i, h1, h2, h3, _⟩ := j.jg.crash K hB
 exact ⟨i, h1, h2, h3, by rw [crash_length]; exact j.size, fun b hb => by rw [crash_home K j.jg.ring]; exact j.home b hb, j.wf, fun b hb => by have := j.old b hb; omega⟩
theorem Vg.flush (j : Vg S n h E D B H) (hB : B ≤ h.g + 1) : Vg (all S (wrs n (E.drop D))) n h E E.length B H :=
 ⟨j.jg.flush hB, by rw [all_length]; exact j.size, fun b hb => by rw [← all_crash _ 0, crash_home _ j.jg.ring]; exact j.home b hb, j.wf, fun b hb => by have := j.old b hb; have := j.jg.le; omega⟩
theorem Vg.save (j : Vg S n h E E.length B H) {h' : Hd} {k : Nat} (ht : h'.t = h.t + 1) (hok : HOk (h'.t % 2) h') (hk : k ≤ E.length) (hf : h'.f = h.f + k) (hl : h'.l = lst h.l (E.take k)) (hg : h.g ≤ h'.g) (hB : B ≤ h'.g) :
 Vg (S.set ((h.t + 1) % 2) (hsec h')) n h' (E.drop k) (E.length - k) h'.g H :=
 ⟨j.jg.save ht hok hk hf hl hg hB, by rw [List.length_set]; exact j.size, fun b hb => by rw [Jn.getD_set_ne (by have := Nat.mod_lt (h.t + 1) (show 0 < 2 by decide); omega)]; exact j.home b hb, j.wf, fun b hb => by have := j.old b hb; rw [hf]; omega⟩
theorem Vg.fresh {N : Nat} (hn : 1 ≤ n) (hN : 2 + n + 8 ≤ N) : Vg ((List.replicate N zer).set 1 (hsec ⟨1, 1, 1, 0⟩)) n ⟨1, 1, 1, 0⟩ [] 0 1 (fun _ => hm0) :=
 ⟨Jg.fresh hn (by omega), by simpa using hN, fun b hb => by rw [Jn.getD_set_ne (by omega), hom_zero]; exact getD_of (List.getElem?_replicate_of_lt (by omega)), fun _ _ => Or.inl rfl, fun _ _ => Nat.zero_lt_one⟩
theorem Vg.told (j : Vg S n h E D B H) {b : Nat} (hb : b < 8) : unm b (S.getD (2 + n + b) []) = some (H b) := by
 rw [j.home b hb]
 exact unm_some (j.wf b hb) (by show b ≤ _; omega)
/-! ### What the blocks contain -/
end
end Go.Proofs.YtapiogcoipeinaaGreatDoor.Vo
