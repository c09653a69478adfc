/-
  An image in plain words: heads and blocks as sectors, the current head, the blocks of an area, what is opened of any sectors; that an update that is cut off leaves the old image, or the new one. Plain theorems, no program.
-/
import Derived.Test.YtnmpckhlpkmojaaGreatDoorRcMath
import Derived.Test.YtnmpckhlpkmojaaGreatDoorDkMem

/-
  The journal in plain words: heads and records as sectors, the current head, the records that are held, and what is always so between calls: behind a crash the first ones alone are found, and none that was lost. Plain theorems, no program.
-/
namespace Go.Proofs.YtnmpckhlpkmojaaGreatDoor.Jn
open Pk Sm Rc Dk

/-! ### Heads -/
@[ext] structure Hd where
  t : Nat
  f : Nat
  g : Nat
  l : Nat
def hbod (h : Hd) : List UInt8 := enc (clamp h.t) ++ enc (clamp h.f) ++ enc (clamp h.g) ++ enc (clamp h.l)
def hsec (h : Hd) : List UInt8 := seal4 (pad (hbod h))
abbrev NumN (n : Nat) : Prop := n ≤ 1152921504606846975
structure HOk (i : Nat) (h : Hd) : Prop where
  t : NumN h.t
  f : NumN h.f
  g : NumN h.g
  l : NumN h.l
  pos : 1 ≤ h.f
  low : h.l ≤ h.g
  par : h.t % 2 = i

theorem clampN {n : Nat} (h : NumN n) : clamp (n : Int) = n := by unfold NumN at h; unfold clamp; omega
theorem hbod_le (h : Hd) : (hbod h).length ≤ 36 := by
  have h1 := enc_le (clamp h.t)
  have h2 := enc_le (clamp h.f)
  have h3 := enc_le (clamp h.g)
  have h4 := enc_le (clamp h.l)
  unfold hbod
  simp only [List.length_append]
  omega
theorem hsec_length (h : Hd) : (hsec h).length = 64 := by
  unfold hsec
  rw [seal4_length, pad_length _ (by have := hbod_le h; omega)]

/-- What is read of bytes. -/
def hgot (l : List UInt8) : Hd :=
  ⟨(rnum l 0).1, (rnum (rnum l 0).2.1 (rnum l 0).2.2).1, (rnum (rnum (rnum l 0).2.1 (rnum l 0).2.2).2.1 (rnum (rnum l 0).2.1 (rnum l 0).2.2).2.2).1,
    (rnum (rnum (rnum (rnum l 0).2.1 (rnum l 0).2.2).2.1 (rnum (rnum l 0).2.1 (rnum l 0).2.2).2.2).2.1 (rnum (rnum (rnum l 0).2.1 (rnum l 0).2.2).2.1 (rnum (rnum l 0).2.1 (rnum l 0).2.2).2.2).2.2).1⟩
theorem hgot_step {l l1 l2 l3 l4 : List UInt8} {e1 e2 e3 e4 t f g w : Nat} (h1 : rnum l 0 = (t, l1, e1)) (h2 : rnum l1 e1 = (f, l2, e2)) (h3 : rnum l2 e2 = (g, l3, e3)) (h4 : rnum l3 e3 = (w, l4, e4)) :
    hgot l = ⟨t, f, g, w⟩ := by
  unfold hgot
  simp only [h1, h2, h3, h4]
theorem hgot_num (l : List UInt8) : NumN (hgot l).t ∧ NumN (hgot l).f ∧ NumN (hgot l).g ∧ NumN (hgot l).l := ⟨rnum_lt _ _, rnum_lt _ _, rnum_lt _ _, rnum_lt _ _⟩
theorem hgot_bod {i : Nat} {h : Hd} (k : HOk i h) (r : List UInt8) : hgot (hbod h ++ r) = h := by
  have e : ∀ n, NumN n → ∀ t, rnum (enc (clamp (n : Int)) ++ t) 0 = (n, t, 0) := fun n hn t => by
    rw [clampN hn]; exact rnum_enc _ _ (by unfold NumN at hn; omega)
  have e0 : hbod h ++ r = enc (clamp h.t) ++ (enc (clamp h.f) ++ (enc (clamp h.g) ++ (enc (clamp h.l) ++ r))) := by simp [hbod]
  rw [e0]
  exact hgot_step (e _ k.t _) (e _ k.f _) (e _ k.g _) (e _ k.l _)
theorem hgot_pad {i : Nat} {h : Hd} (k : HOk i h) : hgot (pad (hbod h)) = h := hgot_bod k _
theorem hsec_inj {i j : Nat} {h h' : Hd} (k : HOk i h) (k' : HOk j h') (e : hsec h = hsec h') : h = h' := by
  have := seal4_inj e
  rw [← hgot_pad k, this, hgot_pad k']

open Classical in
/-- The head that a sector contains. -/
noncomputable def unh (i : Nat) (s : Sec) : Option Hd := if h : ∃ x, HOk i x ∧ s = hsec x then some h.choose else none
theorem unh_spec {i : Nat} {s : Sec} {x : Hd} (h : unh i s = some x) : HOk i x ∧ s = hsec x := by
  unfold unh at h
  split at h
  · rename_i hx
    cases h
    exact hx.choose_spec
  · cases h
theorem unh_some {i : Nat} {x : Hd} (h : HOk i x) : unh i (hsec x) = some x := by
  have hx : ∃ y, HOk i y ∧ hsec x = hsec y := ⟨x, h, rfl⟩
  unfold unh
  rw [dif_pos hx]
  exact congrArg some (hsec_inj h hx.choose_spec.1 hx.choose_spec.2).symm
theorem unh_none {i : Nat} {s : Sec} (h : ∀ x, HOk i x → s ≠ hsec x) : unh i s = none := by
  unfold unh
  rw [dif_neg]
  rintro ⟨x, h1, h2⟩
  exact h x h1 h2

/-! ### Records -/
@[ext] structure Ent where
  g : Nat
  s : Nat
  k : Int
  b : Int
  d : ByteArray
  m : Int
def esec (e : Ent) : List UInt8 := sec (e.g : Int) (e.s : Int) e.k e.b e.d e.m
def EOk (e : Ent) : Prop := Rgt (e.s : Int) e.k e.b e.d.size e.m ∧ Num (e.g : Int)
theorem esec_length {e : Ent} (h : EOk e) : (esec e).length = 64 := sec_length h.1
theorem esec_inj {e e' : Ent} (h : EOk e) (h' : EOk e') (he : esec e = esec e') : e = e' := by
  obtain ⟨h1, h2, h3, h4, h5, h6⟩ := sec_inj h.1 h.2 h'.1 h'.2 he
  exact Ent.ext (Int.ofNat.inj h1) (Int.ofNat.inj h2) h3 h4 h5 h6
open Classical in
/-- The record that a sector is. -/
noncomputable def une (s : Sec) : Option Ent := if h : ∃ x, EOk x ∧ s = esec x then some h.choose else none
theorem une_spec {s : Sec} {x : Ent} (h : une s = some x) : EOk x ∧ s = esec x := by
  unfold une at h
  split at h
  · rename_i hx
    cases h
    exact hx.choose_spec
  · cases h
theorem une_some {x : Ent} (h : EOk x) : une (esec x) = some x := by
  have hx : ∃ y, EOk y ∧ esec x = esec y := ⟨x, h, rfl⟩
  unfold une
  rw [dif_pos hx]
  exact congrArg some (esec_inj h hx.choose_spec.1 hx.choose_spec.2).symm
theorem une_none {s : Sec} (h : ∀ x, EOk x → s ≠ esec x) : une s = none := by
  unfold une
  rw [dif_neg]
  rintro ⟨x, h1, h2⟩
  exact h x h1 h2
theorem norec_of_none {s : Sec} (h : une s = none) (g k b : Int) (q : Int) (d : ByteArray) (m : Int) (hr : Rgt q k b d.size m) (hg : Num g) : s ≠ sec g q k b d m := by
  intro e
  have hq : 0 ≤ q := by unfold Rgt at hr; omega
  have hgp : 0 ≤ g := hg.1
  obtain ⟨q', rfl⟩ : ∃ q' : Nat, q = q' := ⟨q.toNat, by omega⟩
  obtain ⟨g', rfl⟩ : ∃ g' : Nat, g = g' := ⟨g.toNat, by omega⟩
  have := une_some (x := ⟨g', q', k, b, d, m⟩) ⟨hr, hg⟩
  rw [show esec ⟨g', q', k, b, d, m⟩ = s from e.symm, h] at this
  cases this

/-! ### A fresh sector -/
def zer : Sec := List.replicate 64 0
theorem zer_no (m : List UInt8) : zer ≠ seal4 m := by
  intro e
  have hl : m.length = 60 := by
    have := congrArg List.length e
    rw [seal4_length] at this
    simp [zer] at this
    omega
  have hm : m = List.replicate 60 0 := by
    have := seal4_take m
    rw [← e, hl] at this
    rw [← this]
    rfl
  rw [hm] at e
  exact absurd e (by decide +kernel)
theorem unh_zer (i : Nat) : unh i zer = none := unh_none fun _ _ => zer_no _
theorem une_zer : une zer = none := une_none fun _ _ => zer_no _

/-! ### What is found -/
/-- The current head. -/
noncomputable def cur (A : List Sec) : Option Hd :=
  match unh 0 (A.getD 0 []), unh 1 (A.getD 1 []) with
  | none, none => if A.getD 0 [] = zer ∧ A.getD 1 [] = zer then some ⟨0, 1, 0, 0⟩ else none
  | some a, none => some a
  | none, some b => some b
  | some a, some b => some (if a.t < b.t then b else a)
theorem cur_num {A : List Sec} {h : Hd} (e : cur A = some h) : NumN h.t ∧ NumN h.f ∧ NumN h.g ∧ NumN h.l ∧ 1 ≤ h.f ∧ h.l ≤ h.g := by
  have key : ∀ {i : Nat} {x : Hd} {s : Sec}, unh i s = some x → NumN x.t ∧ NumN x.f ∧ NumN x.g ∧ NumN x.l ∧ 1 ≤ x.f ∧ x.l ≤ x.g := fun hx => by
    have := (unh_spec hx).1
    exact ⟨this.t, this.f, this.g, this.l, this.pos, this.low⟩
  unfold cur at e
  split at e
  · split at e
    · cases e
      unfold NumN
      simp
    · cases e
  · rename_i h1 _
    cases e
    exact key h1
  · rename_i h1
    cases e
    exact key h1
  · rename_i h1 h2
    cases e
    split
    · exact key h2
    · exact key h1
/-- The records that are held. -/
noncomputable def load (A : List Sec) (n gen : Nat) : Nat → Nat → Nat → List Ent
  | 0, _, _ => []
  | k + 1, q, lo =>
    match une (A.getD (2 + q % n) []) with
    | some e => if e.s = q ∧ lo ≤ e.g ∧ e.g ≤ gen then e :: load A n gen k (q + 1) e.g else []
    | none => []
theorem load_yes {A : List Sec} {n gen k q lo : Nat} {e : Ent} (h : une (A.getD (2 + q % n) []) = some e) (h2 : e.s = q ∧ lo ≤ e.g ∧ e.g ≤ gen) :
    load A n gen (k + 1) q lo = e :: load A n gen k (q + 1) e.g := by
  rw [load, h]
  exact if_pos h2
theorem load_no {A : List Sec} {n gen k q lo : Nat} {e : Ent} (h : une (A.getD (2 + q % n) []) = some e) (h2 : ¬ (e.s = q ∧ lo ≤ e.g ∧ e.g ≤ gen)) : load A n gen (k + 1) q lo = [] := by
  rw [load, h]
  exact if_neg h2
theorem load_nil {A : List Sec} {n gen k q lo : Nat} (h : une (A.getD (2 + q % n) []) = none) : load A n gen (k + 1) q lo = [] := by
  rw [load, h]

/-- The last generation. -/
def lst (lo : Nat) : List Ent → Nat
  | [] => lo
  | e :: r => lst e.g r
theorem lst_append (lo : Nat) (E F : List Ent) : lst lo (E ++ F) = lst (lst lo E) F := by
  induction E generalizing lo with
  | nil => rfl
  | cons e r ih => exact ih _
/-- Generations do not fall, and are at most g. -/
def Up (lo g : Nat) : List Ent → Prop
  | [] => lo ≤ g
  | e :: r => lo ≤ e.g ∧ Up e.g g r
/-- Valid records, numbered from q on. -/
def Seqs (q : Nat) : List Ent → Prop
  | [] => True
  | e :: r => EOk e ∧ e.s = q ∧ Seqs (q + 1) r
theorem Seqs.get {q : Nat} : ∀ {E : List Ent}, Seqs q E → ∀ {i : Nat} {e : Ent}, E[i]? = some e → EOk e ∧ e.s = q + i
  | [], _, i, e, h => by simp at h
  | x :: r, hs, 0, e, h => by
    simp at h
    subst h
    exact ⟨hs.1, hs.2.1⟩
  | x :: r, hs, i + 1, e, h => by
    have := Seqs.get (E := r) hs.2.2 (i := i) (e := e) (by simpa using h)
    exact ⟨this.1, by omega⟩
theorem Seqs.mk {q : Nat} : ∀ {E : List Ent}, (∀ i e, E[i]? = some e → EOk e ∧ e.s = q + i) → Seqs q E
  | [], _ => trivial
  | x :: r, h => ⟨(h 0 x rfl).1, (h 0 x rfl).2, Seqs.mk fun i e he => by
      have := h (i + 1) e (by simpa using he)
      exact ⟨this.1, by omega⟩⟩
theorem Up.lst {g : Nat} : ∀ {lo : Nat} {E : List Ent}, Up lo g E → Jn.lst lo E ≤ g
  | _, [], h => h
  | _, e :: r, h => show Jn.lst e.g r ≤ g from Up.lst (lo := e.g) (E := r) h.2
theorem Up.take {g : Nat} : ∀ {lo : Nat} {E : List Ent}, Up lo g E → ∀ k, Up lo g (E.take k)
  | lo, [], h, k => by simpa using h
  | lo, e :: r, h, 0 => by
    have h2 : Jn.lst lo (e :: r) ≤ g := Up.lst h
    show lo ≤ g
    exact Nat.le_trans h.1 (Nat.le_trans (Up.ge h.2) (Up.lst h.2))
  | lo, e :: r, h, k + 1 => ⟨h.1, Up.take h.2 k⟩
where
  Up.ge {g : Nat} : ∀ {lo : Nat} {E : List Ent}, Up lo g E → lo ≤ Jn.lst lo E
    | _, [], _ => Nat.le_refl _
    | _, _ :: _, h => Nat.le_trans h.1 (Up.ge h.2)
theorem Up.mem {g : Nat} : ∀ {lo : Nat} {E : List Ent}, Up lo g E → ∀ e ∈ E, e.g ≤ g
  | _, [], _, _, h => by cases h
  | _, x :: r, h, e, he => by
    rcases List.mem_cons.1 he with rfl | h1
    · exact Nat.le_trans (Up.take.Up.ge h.2) (Up.lst h.2)
    · exact Up.mem h.2 e h1
theorem Up.snoc {g : Nat} {y : Ent} (hy : y.g = g) : ∀ {lo : Nat} {E : List Ent}, Up lo g E → Up lo g (E ++ [y])
  | _, [], h => ⟨by rw [hy]; exact h, by rw [hy]; exact Nat.le_refl g⟩
  | _, _ :: _, h => ⟨h.1, Up.snoc hy h.2⟩
theorem Up.drop {g : Nat} : ∀ {lo : Nat} {E : List Ent}, Up lo g E → ∀ k, Up (Jn.lst lo (E.take k)) g (E.drop k)
  | _, E, h, 0 => by simpa [Jn.lst] using h
  | _, [], h, k + 1 => by simpa [Jn.lst] using h
  | _, _ :: _, h, k + 1 => Up.drop h.2 k
theorem Up.more {g g' : Nat} (hg : g ≤ g') : ∀ {lo : Nat} {E : List Ent}, Up lo g E → Up lo g' E
  | _, [], h => Nat.le_trans (show _ ≤ g from h) hg
  | _, _ :: _, h => ⟨h.1, Up.more hg h.2⟩

/-- What is found is just what is there, if what is behind it is refused. -/
theorem load_eq {A : List Sec} {n gen : Nat} : ∀ {E : List Ent} {k q lo : Nat}, Seqs q E → Up lo gen E → E.length ≤ k → (∀ i e, E[i]? = some e → A.getD (2 + (q + i) % n) [] = esec e) →
    (E.length < k → ∀ e, une (A.getD (2 + (q + E.length) % n) []) = some e → e.s = q + E.length → e.g < lst lo E) → load A n gen k q lo = E
  | [], 0, _, _, _, _, _, _, _ => rfl
  | [], k + 1, q, lo, _, _, _, _, h => by
    cases hu : une (A.getD (2 + q % n) []) with
    | none => exact load_nil hu
    | some e =>
      refine load_no hu fun h2 => ?_
      have h3 : e.g < lo := h (by simp) e (by simpa using hu) (by simpa using h2.1)
      omega
  | x :: r, 0, _, _, _, _, hk, _, _ => by simp at hk
  | x :: r, k + 1, q, lo, hs, hu, hk, hc, h => by
    have h0 : A.getD (2 + q % n) [] = esec x := by simpa using hc 0 x rfl
    rw [load_yes (e := x) (by rw [h0]; exact une_some hs.1) ⟨hs.2.1, hu.1, Nat.le_trans (Up.take.Up.ge hu.2) (Up.lst hu.2)⟩]
    congr 1
    refine load_eq hs.2.2 hu.2 (by simpa using hk) (fun i e he => ?_) (fun hl e he hq => ?_)
    · have := hc (i + 1) e (by simpa using he)
      rw [show q + 1 + i = q + (i + 1) by omega]
      exact this
    · have e1 : q + 1 + r.length = q + (x :: r).length := by simp; omega
      rw [e1] at he hq
      exact h (by simpa using hl) e he hq

end Go.Proofs.YtnmpckhlpkmojaaGreatDoor.Jn

namespace Go.Proofs.YtnmpckhlpkmojaaGreatDoor.Im
open Pk Sm Rc Dk
open Jn (NumN clampN zer zer_no)

/-! ### Heads -/
@[ext] structure Hd where
  t : Nat
  m : Nat
abbrev hd0 : Hd := ⟨0, 0⟩
def hbod (h : Hd) : List UInt8 := enc (clamp h.t) ++ enc (clamp h.m)
def hsec (h : Hd) : List UInt8 := seal4 (pad (hbod h))
structure HOk (i : Nat) (h : Hd) : Prop where
  t : NumN h.t
  m : NumN h.m
  pos : 1 ≤ h.t
  mpos : 1 ≤ h.m
  par : h.t % 2 = i
theorem hbod_le (h : Hd) : (hbod h).length ≤ 18 := by
  have h1 := enc_le (clamp h.t)
  have h2 := enc_le (clamp h.m)
  unfold hbod
  simp only [List.length_append]
  omega
theorem hsec_length (h : Hd) : (hsec h).length = 64 := by
  unfold hsec
  rw [seal4_length, pad_length _ (by have := hbod_le h; omega)]
/-- What is read of bytes. -/
def hgot (l : List UInt8) : Hd := ⟨(rnum l 0).1, (rnum (rnum l 0).2.1 (rnum l 0).2.2).1⟩
theorem hgot_step {l l1 l2 : List UInt8} {e1 e2 t m : Nat} (h1 : rnum l 0 = (t, l1, e1)) (h2 : rnum l1 e1 = (m, l2, e2)) : hgot l = ⟨t, m⟩ := by
  unfold hgot
  simp only [h1, h2]
theorem hgot_num (l : List UInt8) : NumN (hgot l).t ∧ NumN (hgot l).m := ⟨rnum_lt _ _, rnum_lt _ _⟩
theorem rnum_clamp {n : Nat} (hn : NumN n) (t : List UInt8) : rnum (enc (clamp (n : Int)) ++ t) 0 = (n, t, 0) := by
  rw [clampN hn]
  exact rnum_enc _ _ (by unfold NumN at hn; omega)
theorem hgot_bod {i : Nat} {h : Hd} (k : HOk i h) (r : List UInt8) : hgot (hbod h ++ r) = h := by
  have e0 : hbod h ++ r = enc (clamp h.t) ++ (enc (clamp h.m) ++ r) := by simp [hbod]
  rw [e0]
  exact hgot_step (rnum_clamp k.t _) (rnum_clamp k.m _)
theorem hgot_pad {i : Nat} {h : Hd} (k : HOk i h) : hgot (pad (hbod h)) = h := hgot_bod k _
theorem hsec_inj {i j : Nat} {h h' : Hd} (k : HOk i h) (k' : HOk j h') (e : hsec h = hsec h') : h = h' := by
  have := seal4_inj e
  rw [← hgot_pad k, this, hgot_pad k']
open Classical in
/-- The head that a sector contains. -/
noncomputable def unh (i : Nat) (s : Sec) : Option Hd := if h : ∃ x, HOk i x ∧ s = hsec x then some h.choose else none
theorem unh_spec {i : Nat} {s : Sec} {x : Hd} (h : unh i s = some x) : HOk i x ∧ s = hsec x := by
  unfold unh at h
  split at h
  · rename_i hx
    cases h
    exact hx.choose_spec
  · cases h
theorem unh_some {i : Nat} {x : Hd} (h : HOk i x) : unh i (hsec x) = some x := by
  have hx : ∃ y, HOk i y ∧ hsec x = hsec y := ⟨x, h, rfl⟩
  unfold unh
  rw [dif_pos hx]
  exact congrArg some (hsec_inj h hx.choose_spec.1 hx.choose_spec.2).symm
theorem unh_none {i : Nat} {s : Sec} (h : ∀ x, HOk i x → s ≠ hsec x) : unh i s = none := by
  unfold unh
  rw [dif_neg]
  rintro ⟨x, h1, h2⟩
  exact h x h1 h2
theorem unh_zer (i : Nat) : unh i zer = none := unh_none fun _x _ e => zer_no _ e

/-! ### Blocks -/
def bbod (t : Nat) (d : ByteArray) : List UInt8 := enc (clamp t) ++ enc d.size ++ d.data.toList
def bsec (t : Nat) (d : ByteArray) : Sec := seal4 (pad (bbod t d))
theorem bbod_le (t : Nat) {d : ByteArray} (k : d.size ≤ 16) : (bbod t d).length ≤ 60 := by
  have h1 := enc_le (clamp t)
  have h3 := enc_le d.size
  have h4 := size_eq d
  unfold bbod
  simp only [List.length_append]
  omega
theorem bsec_length (t : Nat) {d : ByteArray} (k : d.size ≤ 16) : (bsec t d).length = 64 := by
  unfold bsec
  rw [seal4_length, pad_length _ (bbod_le t k)]
def bgot (l : List UInt8) : ByteArray := str (rtext (rnum l 0).2.1 (rnum l 0).2.2 16).1
theorem bgot_step {l l1 l2 d : List UInt8} {e1 e2 t : Nat} (h1 : rnum l 0 = (t, l1, e1)) (h2 : rtext l1 e1 16 = (d, l2, e2)) : bgot l = str d := by
  unfold bgot
  simp only [h1, h2]
theorem bgot_len (l : List UInt8) : (bgot l).size ≤ 16 := by
  have := rtext_le (rnum l 0).2.1 (rnum l 0).2.2
  have h2 := size_eq (bgot l)
  have h3 : (bgot l).data.toList = (rtext (rnum l 0).2.1 (rnum l 0).2.2 16).1 := by simp [bgot, str]
  rw [h3] at h2
  omega
theorem bgot_bod {t : Nat} {d : ByteArray} (hd : d.size ≤ 16) (ht : NumN t) (r : List UInt8) : bgot (bbod t d ++ r) = d := by
  have e3 : rtext (enc d.size ++ d.data.toList ++ r) 0 16 = (d.data.toList, r, 0) := by
    have := rtext_enc d.data.toList r 16 (by rw [size_eq]; omega) (by rw [size_eq]; omega)
    rw [size_eq] at this
    exact this
  have e0 : bbod t d ++ r = enc (clamp t) ++ (enc d.size ++ d.data.toList ++ r) := by simp [bbod]
  rw [e0, bgot_step (rnum_clamp ht _) e3, str_of]
theorem bgot_pad {t : Nat} {d : ByteArray} (hd : d.size ≤ 16) (ht : NumN t) : bgot (pad (bbod t d)) = d := bgot_bod hd ht _
theorem bsec_inj {t : Nat} {d d' : ByteArray} (k : d.size ≤ 16) (k' : d'.size ≤ 16) (ht : NumN t) (e : bsec t d = bsec t d') : d = d' := by
  have := seal4_inj e
  rw [← bgot_pad k ht, this, bgot_pad k' ht]
open Classical in
/-- The data of the block of a turn that a sector is. -/
noncomputable def unb (t : Nat) (s : Sec) : Option ByteArray := if h : ∃ d, d.size ≤ 16 ∧ s = bsec t d then some h.choose else none
theorem unb_spec {t : Nat} {s : Sec} {d : ByteArray} (h : unb t s = some d) : d.size ≤ 16 ∧ s = bsec t d := by
  unfold unb at h
  split at h
  · rename_i hx
    cases h
    exact hx.choose_spec
  · cases h
theorem unb_some {t : Nat} {d : ByteArray} (h : d.size ≤ 16) (ht : NumN t) : unb t (bsec t d) = some d := by
  have hx : ∃ y : ByteArray, y.size ≤ 16 ∧ bsec t d = bsec t y := ⟨d, h, rfl⟩
  unfold unb
  rw [dif_pos hx]
  exact congrArg some (bsec_inj h hx.choose_spec.1 ht hx.choose_spec.2).symm
theorem unb_none {t : Nat} {s : Sec} (h : ∀ d : ByteArray, d.size ≤ 16 → s ≠ bsec t d) : unb t s = none := by
  unfold unb
  rw [dif_neg]
  rintro ⟨x, h1, h2⟩
  exact h x h1 h2

/-! ### What is opened -/
/-- The newest head that the first k sectors contain; are they fresh? -/
noncomputable def nw (D : List Sec) : Nat → Hd
  | 0 => hd0
  | k + 1 => match unh k (D.getD k []) with
    | some h => if (nw D k).t < h.t then h else nw D k
    | none => nw D k
def fsh (D : List Sec) : Nat → Bool
  | 0 => true
  | k + 1 => fsh D k && decide (D.getD k [] = zer)
noncomputable def cur (D : List Sec) : Option Hd := if 0 < (nw D 2).t ∨ fsh D 2 = true then some (nw D 2) else none
/-- The number of the sector of the block n, in the area of a turn. -/
abbrev at2 (t n : Nat) : Nat := 2 + t % 2 * 32 + n
/-- The blocks of the area of a turn, if they are all of that turn. -/
noncomputable def lod (D : List Sec) (t : Nat) : Nat → Option (List ByteArray)
  | 0 => some []
  | k + 1 => match lod D t k with
    | some B => match unb t (D.getD (at2 t k) []) with
      | some d => some (B ++ [d])
      | none => none
    | none => none
abbrev emp : List ByteArray := List.replicate 32 ⟨#[]⟩
/-- The image of any sectors: its turn, its marker, its blocks. -/
structure Img where
  t : Nat
  m : Nat
  B : List ByteArray
abbrev im0 : Img := ⟨0, 0, emp⟩
noncomputable def opn (D : List Sec) : Option Img :=
  match cur D with
  | none => none
  | some h => if h.t = 0 then some ⟨0, h.m, emp⟩ else match lod D h.t 32 with
    | none => none
    | some B => some ⟨h.t, h.m, B⟩
theorem nw_num (D : List Sec) : ∀ k, NumN (nw D k).t ∧ NumN (nw D k).m
  | 0 => ⟨Nat.zero_le _, Nat.zero_le _⟩
  | k + 1 => by
    have ih := nw_num D k
    unfold nw
    cases hu : unh k (D.getD k []) with
    | none => exact ih
    | some h =>
      have := (unh_spec hu).1
      dsimp only
      split
      · exact ⟨this.t, this.m⟩
      · exact ih
theorem lod_length {D : List Sec} {t : Nat} : ∀ {k : Nat} {B : List ByteArray}, lod D t k = some B → B.length = k
  | 0, B, h => by cases h; rfl
  | k + 1, B, h => by
    unfold lod at h
    cases h1 : lod D t k with
    | none => rw [h1] at h; cases h
    | some B' =>
      rw [h1] at h
      cases h2 : unb t (D.getD (at2 t k) []) with
      | none => rw [h2] at h; cases h
      | some d =>
        rw [h2] at h
        cases h
        rw [List.length_append, lod_length h1]
        rfl
theorem lod_short {D : List Sec} {t : Nat} : ∀ {k : Nat} {B : List ByteArray}, lod D t k = some B → ∀ d ∈ B, d.size ≤ 16
  | 0, B, h => by cases h; simp
  | k + 1, B, h => by
    unfold lod at h
    cases h1 : lod D t k with
    | none => rw [h1] at h; cases h
    | some B' =>
      rw [h1] at h
      cases h2 : unb t (D.getD (at2 t k) []) with
      | none => rw [h2] at h; cases h
      | some d =>
        rw [h2] at h
        cases h
        intro x hx
        rcases List.mem_append.1 hx with h3 | h3
        · exact lod_short h1 x h3
        · rw [List.mem_singleton.1 h3]
          exact (unb_spec h2).1
theorem lod_none {D : List Sec} {t k : Nat} (h : lod D t k = none) : ∀ j, lod D t (k + j) = none
  | 0 => h
  | j + 1 => by
    rw [← Nat.add_assoc]
    unfold lod
    rw [lod_none h j]
/-- All blocks of an area are of its turn. -/
theorem lod_all {D : List Sec} {t : Nat} (ht : NumN t) {B : List ByteArray} (hs : ∀ d ∈ B, d.size ≤ 16) (h : ∀ n d, B[n]? = some d → D.getD (at2 t n) [] = bsec t d) : ∀ k, k ≤ B.length → lod D t k = some (B.take k)
  | 0, _ => by simp [lod]
  | k + 1, hk => by
    obtain ⟨d, hd⟩ : ∃ d, B[k]? = some d := ⟨_, List.getElem?_eq_getElem (by omega)⟩
    unfold lod
    rw [lod_all ht hs h k (by omega), h k d hd]
    dsimp only
    rw [unb_some (hs d (List.mem_of_getElem? hd)) ht]
    dsimp only
    rw [List.take_add_one, hd]
    rfl
theorem lod_sec {D : List Sec} {t : Nat} : ∀ {k : Nat} {B : List ByteArray}, lod D t k = some B → ∀ n d, B[n]? = some d → D.getD (at2 t n) [] = bsec t d
  | 0, B, h => by cases h; simp
  | k + 1, B, h => by
    unfold lod at h
    cases h1 : lod D t k with
    | none => rw [h1] at h; cases h
    | some B' =>
      rw [h1] at h
      cases h2 : unb t (D.getD (at2 t k) []) with
      | none => rw [h2] at h; cases h
      | some d =>
        rw [h2] at h
        cases h
        intro n x hx
        have hl := lod_length h1
        rcases Nat.lt_or_ge n k with h3 | h3
        · rw [List.getElem?_append_left (by omega)] at hx
          exact lod_sec h1 n x hx
        · rw [List.getElem?_append_right (by omega)] at hx
          obtain rfl : n = k := by
            have := (List.getElem?_eq_some_iff.1 hx).1
            simp at this
            omega
          rw [hl, Nat.sub_self] at hx
          obtain rfl : d = x := by simpa using hx
          exact (unb_spec h2).2

theorem nw_zero (D : List Sec) : ∀ k, (nw D k).t = 0 → nw D k = hd0
  | 0, _ => rfl
  | k + 1, h => by
    revert h
    unfold nw
    cases hu : unh k (D.getD k []) with
    | none => exact nw_zero D k
    | some x =>
      have := (unh_spec hu).1.pos
      dsimp only
      split
      · intro h; omega
      · exact nw_zero D k
theorem nw_mono (D : List Sec) (k : Nat) : (nw D k).t ≤ (nw D (k + 1)).t := by
  rw [nw]
  cases hu : unh k (D.getD k []) with
  | none => exact Nat.le_refl _
  | some x =>
    dsimp only
    split
    · omega
    · exact Nat.le_refl _
theorem nw_head {D : List Sec} {k : Nat} {h : Hd} (hu : unh k (D.getD k []) = some h) : h.t ≤ (nw D (k + 1)).t := by
  rw [nw, hu]
  dsimp only
  split
  · exact Nat.le_refl _
  · omega
theorem nw_congr {D D' : List Sec} : ∀ {k : Nat}, (∀ j, j < k → D'.getD j [] = D.getD j []) → nw D' k = nw D k
  | 0, _ => rfl
  | k + 1, h => by rw [nw, nw, h k (by omega), nw_congr (k := k) fun j hj => h j (by omega)]
theorem fsh_congr {D D' : List Sec} : ∀ {k : Nat}, (∀ j, j < k → D'.getD j [] = D.getD j []) → fsh D' k = fsh D k
  | 0, _ => rfl
  | k + 1, h => by rw [fsh, fsh, h k (by omega), fsh_congr (k := k) fun j hj => h j (by omega)]
theorem cur_congr {D D' : List Sec} (h : ∀ j, j < 2 → D'.getD j [] = D.getD j []) : cur D' = cur D := by
  unfold cur
  rw [nw_congr h, fsh_congr h]
theorem lod_congr {D D' : List Sec} {t : Nat} : ∀ {k : Nat}, (∀ n, n < k → D'.getD (at2 t n) [] = D.getD (at2 t n) []) → lod D' t k = lod D t k
  | 0, _ => rfl
  | k + 1, h => by rw [lod, lod, h k (by omega), lod_congr (k := k) fun j hj => h j (by omega)]
theorem cur_some {D : List Sec} {h : Hd} (hc : cur D = some h) : nw D 2 = h := by
  unfold cur at hc
  split at hc
  · exact Option.some.inj hc
  · cases hc
theorem opn_cur {D : List Sec} {i : Img} (h : opn D = some i) : cur D = some ⟨i.t, i.m⟩ ∧ (i.t = 0 → i.m = 0 ∧ i.B = emp) ∧ (i.t ≠ 0 → lod D i.t 32 = some i.B) := by
  unfold opn at h
  cases hc : cur D with
  | none => rw [hc] at h; cases h
  | some x =>
    rw [hc] at h
    dsimp only at h
    split at h
    · rename_i hz
      cases h
      have := nw_zero D 2 (by rw [cur_some hc]; exact hz)
      rw [cur_some hc] at this
      subst this
      exact ⟨rfl, fun _ => ⟨rfl, rfl⟩, fun h => absurd rfl h⟩
    · rename_i hz
      cases hl : lod D x.t 32 with
      | none => rw [hl] at h; cases h
      | some B =>
        rw [hl] at h
        cases h
        exact ⟨rfl, fun h => absurd h hz, fun _ => hl⟩
theorem opn_of {D : List Sec} {i : Img} (hc : cur D = some ⟨i.t, i.m⟩) (hz : i.t = 0 → i.m = 0 ∧ i.B = emp) (hl : i.t ≠ 0 → lod D i.t 32 = some i.B) : opn D = some i := by
  obtain ⟨t, m, B⟩ := i
  unfold opn
  rw [hc]
  dsimp only
  split
  · rename_i h0
    obtain ⟨h1, h2⟩ := hz h0
    simp only at h0 h1 h2
    subst h0; subst h1; subst h2
    rfl
  · rename_i h0
    rw [hl h0]
theorem opn_congr {D D' : List Sec} {i : Img} (h : opn D = some i) (h1 : ∀ j, j < 2 → D'.getD j [] = D.getD j []) (h2 : ∀ n, n < 32 → D'.getD (at2 i.t n) [] = D.getD (at2 i.t n) []) : opn D' = some i := by
  obtain ⟨a, b, c⟩ := opn_cur h
  exact opn_of ((cur_congr h1).trans a) b fun h0 => (lod_congr h2).trans (c h0)
theorem opn_fresh {n : Nat} (h : 2 ≤ n) : opn (List.replicate n zer) = some im0 := by
  have h0 : ∀ j, j < 2 → (List.replicate n zer).getD j [] = zer := fun j hj => by
    rw [List.getD_eq_getElem?_getD, List.getElem?_replicate, if_pos (by omega)]
    rfl
  have h1 : nw (List.replicate n zer) 2 = hd0 := by
    rw [nw, nw, nw, h0 0 (by omega), h0 1 (by omega), unh_zer, unh_zer]
  have h2 : fsh (List.replicate n zer) 2 = true := by
    rw [fsh, fsh, fsh, h0 0 (by omega), h0 1 (by omega)]
    simp
  refine opn_of (i := im0) ?_ (fun _ => ⟨rfl, rfl⟩) fun h => absurd rfl h
  unfold cur
  rw [h1, h2, if_pos (Or.inr rfl)]
theorem opn_data {D : List Sec} {i : Img} (h : opn D = some i) : i.B.length = 32 ∧ (∀ d ∈ i.B, d.size ≤ 16) ∧ NumN i.t ∧ NumN i.m := by
  obtain ⟨a, b, c⟩ := opn_cur h
  have hn := nw_num D 2
  rw [cur_some a] at hn
  by_cases h0 : i.t = 0
  · rw [(b h0).2]
    exact ⟨by simp, fun d hd => by rw [List.eq_of_mem_replicate hd]; decide, hn⟩
  · exact ⟨lod_length (c h0), lod_short (c h0), hn⟩

/-! ### An update -/
abbrev blk (n : Img) (j : Nat) : ByteArray := n.B.getD j ⟨#[]⟩
def wrs (n : Img) (k : Nat) : List Wr := (List.range k).map fun j => (at2 n.t j, bsec n.t (blk n j))
theorem wrs_succ (n : Img) (k : Nat) : wrs n (k + 1) = wrs n k ++ [(at2 n.t k, bsec n.t (blk n k))] := by simp [wrs, List.range_succ]
theorem wrs_mem {n : Img} {k : Nat} {x : Wr} (h : x ∈ wrs n k) : ∃ j, j < k ∧ x = (at2 n.t j, bsec n.t (blk n j)) := by
  simp only [wrs, List.mem_map, List.mem_range] at h
  obtain ⟨j, hj, rfl⟩ := h
  exact ⟨j, hj, rfl⟩
theorem wrs_length (n : Img) (k : Nat) : (wrs n k).length = k := by simp [wrs]
theorem crash_other {K : Nat} : ∀ {L : List Wr} {k : Nat} {S : List Sec} {i : Nat}, (∀ x ∈ L, x.1 ≠ i) → (crash K k L S)[i]? = S[i]?
  | [], _, _, _, _ => rfl
  | x :: L, k, S, i, h => by
    show (crash K (k + 1) L _)[i]? = _
    rw [crash_other fun y hy => h y (by simp [hy])]
    split
    · exact List.getElem?_set_ne (h x (by simp))
    · rfl
theorem getD_congr {D D' : List Sec} {j : Nat} (h : D'[j]? = D[j]?) : D'.getD j [] = D.getD j [] := by rw [List.getD_eq_getElem?_getD, List.getD_eq_getElem?_getD, h]
/-- What a step of the update would be from. -/
structure Next (i n : Img) : Prop where
  turn : n.t = i.t + 1
  num : NumN n.t
  mnum : NumN n.m
  more : i.m < n.m
  blen : n.B.length = 32
  short : ∀ d ∈ n.B, d.size ≤ 16
/-- An update of i to n, of which k steps were performed: the flushed sectors, and the loose writes. -/
structure Upd (S : List Sec) (L : List Wr) (i n : Img) (k : Nat) : Prop where
  len : S.length = 66
  full : Full S
  opn : opn S = some i
  next : Next i n
  st : (k ≤ 32 ∧ L = wrs n k) ∨ (k = 33 ∧ L = [] ∧ lod S n.t 32 = some n.B) ∨ (k = 34 ∧ L = [(n.t % 2, hsec ⟨n.t, n.m⟩)] ∧ lod S n.t 32 = some n.B)
section
variable {S : List Sec} {L : List Wr} {i n : Img} {k : Nat}
theorem blk_short (h : Next i n) (j : Nat) : (blk n j).size ≤ 16 := by
  unfold blk
  rw [List.getD_eq_getElem?_getD]
  cases hj : n.B[j]? with
  | none => exact Nat.zero_le _
  | some d => exact h.short d (List.mem_of_getElem? hj)
theorem at2_lt (t : Nat) {j : Nat} (h : j < 32) : at2 t j < 66 := by unfold at2; omega
/-- Neither a head nor a block of the current area is written to. -/
theorem wrs_off (h : Next i n) {x : Wr} (hk : k ≤ 32) (hx : x ∈ wrs n k) : (∀ j, j < 2 → x.1 ≠ j) ∧ ∀ j, j < 32 → x.1 ≠ at2 i.t j := by
  obtain ⟨l, hl, rfl⟩ := wrs_mem hx
  have := h.turn
  unfold at2
  exact ⟨fun j hj => by omega, fun j hj => by omega⟩
theorem head_off (_h : Next i n) (j : Nat) : (n.t % 2 : Nat) ≠ at2 n.t j := by unfold at2; omega
theorem opn_wrs_crash (K c : Nat) (hk : k ≤ 32) (h : Next i n) (ho : opn S = some i) : opn (crash K c (wrs n k) S) = some i :=
  opn_congr ho (fun j hj => getD_congr (crash_other fun _x hx => (wrs_off h hk hx).1 j hj)) fun j hj => getD_congr (crash_other fun _x hx => (wrs_off h hk hx).2 j hj)
theorem opn_wrs_all (hk : k ≤ 32) (h : Next i n) (ho : opn S = some i) : opn (all S (wrs n k)) = some i :=
  opn_congr ho (fun j hj => getD_congr (all_other fun _x hx => (wrs_off h hk hx).1 j hj)) fun j hj => getD_congr (all_other fun _x hx => (wrs_off h hk hx).2 j hj)
theorem all_snoc (S : List Sec) (L : List Wr) (x : Wr) : all S (L ++ [x]) = (all S L).set x.1 x.2 := by rw [all_append]; rfl
theorem wrs_sec (hl : S.length = 66) (n : Img) : ∀ k, k ≤ 32 → ∀ j, j < k → (all S (wrs n k))[at2 n.t j]? = some (bsec n.t (blk n j))
  | 0, _, j, hj => absurd hj (by omega)
  | k + 1, hk, j, hj => by
    rw [wrs_succ, all_snoc]
    dsimp only
    by_cases h : j = k
    · subst h
      rw [List.getElem?_set_self (by rw [all_length, hl]; exact at2_lt _ (by omega))]
    · rw [List.getElem?_set_ne (by unfold at2; omega)]
      exact wrs_sec hl n k (by omega) j (by omega)
theorem lod_wrs (hl : S.length = 66) (h : Next i n) : lod (all S (wrs n 32)) n.t 32 = some n.B := by
  have := lod_all (D := all S (wrs n 32)) h.num h.short (fun j d hd => by
    have hj : j < 32 := by have := (List.getElem?_eq_some_iff.1 hd).1; have := h.blen; omega
    rw [List.getD_eq_getElem?_getD, wrs_sec hl n 32 (by omega) j hj]
    simp [List.getD_eq_getElem?_getD, hd]) 32 (by rw [h.blen]; exact Nat.le_refl _)
  rw [this, List.take_of_length_le (by rw [h.blen]; exact Nat.le_refl _)]
theorem head_ok (h : Next i n) : HOk (n.t % 2) ⟨n.t, n.m⟩ := ⟨h.num, h.mnum, by have := h.turn; simp only; omega, by have := h.more; simp only; omega, rfl⟩
/-- Behind the head, the new image is opened. -/
theorem opn_head (hl : S.length = 66) (h : Next i n) (ho : opn S = some i) (hB : lod S n.t 32 = some n.B) : opn (S.set (n.t % 2) (hsec ⟨n.t, n.m⟩)) = some n := by
  have hc := cur_some (opn_cur ho).1
  have hu := unh_some (head_ok h)
  have h1 : (nw S 1).t ≤ (nw S 2).t := nw_mono S 1
  have ht := h.turn
  have hlt : n.t % 2 < S.length := by omega
  have hget : (S.set (n.t % 2) (hsec ⟨n.t, n.m⟩)).getD (n.t % 2) [] = hsec ⟨n.t, n.m⟩ := by
    rw [List.getD_eq_getElem?_getD, List.getElem?_set_self hlt]
    rfl
  have hoth : ∀ j, j ≠ n.t % 2 → (S.set (n.t % 2) (hsec ⟨n.t, n.m⟩)).getD j [] = S.getD j [] := fun j hj => getD_congr (List.getElem?_set_ne (Ne.symm hj))
  have hnw : nw (S.set (n.t % 2) (hsec ⟨n.t, n.m⟩)) 2 = ⟨n.t, n.m⟩ := by
    have e1 : (nw S 2).t = i.t := by rw [hc]
    rcases (show n.t % 2 = 0 ∨ n.t % 2 = 1 by omega) with hp | hp
    · rw [hp] at hget hoth hu ⊢
      have x1 : nw (S.set 0 (hsec ⟨n.t, n.m⟩)) 1 = ⟨n.t, n.m⟩ := by
        rw [nw, hget, hu]
        dsimp only
        rw [if_pos (by show 0 < n.t; omega)]
      rw [nw, x1, hoth 1 (by omega)]
      cases hq : unh 1 (S.getD 1 []) with
      | none => rfl
      | some y =>
        have : y.t ≤ (nw S 2).t := nw_head hq
        dsimp only
        rw [if_neg (by omega)]
    · rw [hp] at hget hoth hu ⊢
      have x1 : nw (S.set 1 (hsec ⟨n.t, n.m⟩)) 1 = nw S 1 := nw_congr fun j hj => hoth j (by omega)
      rw [nw, x1, hget, hu]
      dsimp only
      rw [if_pos (by omega)]
  refine opn_of ?_ (fun h0 => by omega) fun _ => ?_
  · unfold cur
    rw [hnw, if_pos (Or.inl (by show 0 < n.t; omega))]
  · rw [← hB]
    exact lod_congr fun j hj => hoth _ fun e => head_off h j e.symm
theorem Upd.start (hl : S.length = 66) (hf : Full S) (ho : Im.opn S = some i) (h : Next i n) : Upd S [] i n 0 := ⟨hl, hf, ho, h, Or.inl ⟨by omega, rfl⟩⟩
theorem Upd.loose (u : Upd S L i n k) : L.length ≤ 32 := by
  rcases u.st with ⟨h1, rfl⟩ | ⟨_, rfl, _⟩ | ⟨_, rfl, _⟩
  · rw [wrs_length]; omega
  · simp
  · simp
theorem Upd.fits (u : Upd S L i n k) : Fits 66 L := by
  rcases u.st with ⟨h1, rfl⟩ | ⟨_, rfl, _⟩ | ⟨_, rfl, _⟩
  · intro x hx
    obtain ⟨j, hj, rfl⟩ := wrs_mem hx
    exact ⟨at2_lt _ (by omega), bsec_length _ (blk_short u.next j)⟩
  · intro x hx; cases hx
  · intro x hx
    rw [List.mem_singleton.1 hx]
    exact ⟨by show n.t % 2 < 66; omega, hsec_length _⟩
theorem Upd.block (u : Upd S L i n k) (hk : k < 32) : Upd S (L ++ [(at2 n.t k, bsec n.t (blk n k))]) i n (k + 1) := by
  rcases u.st with ⟨h1, rfl⟩ | ⟨rfl, _⟩ | ⟨rfl, _⟩
  · exact ⟨u.len, u.full, u.opn, u.next, Or.inl ⟨by omega, (wrs_succ n k).symm⟩⟩
  · omega
  · omega
theorem Upd.flush (u : Upd S L i n 32) : Upd (all S L) [] i n 33 := by
  rcases u.st with ⟨_, h⟩ | ⟨h1, _⟩ | ⟨h1, _⟩
  · have hf := u.full.all u.fits
    rw [h] at hf ⊢
    exact ⟨by rw [all_length]; exact u.len, hf, opn_wrs_all (by omega) u.next u.opn, u.next, Or.inr (Or.inl ⟨rfl, rfl, lod_wrs u.len u.next⟩)⟩
  · omega
  · omega
theorem Upd.head (u : Upd S L i n 33) : Upd S (L ++ [(n.t % 2, hsec ⟨n.t, n.m⟩)]) i n 34 := by
  rcases u.st with ⟨h1, _⟩ | ⟨_, rfl, h⟩ | ⟨h1, _⟩
  · omega
  · exact ⟨u.len, u.full, u.opn, u.next, Or.inr (Or.inr ⟨rfl, rfl, h⟩)⟩
  · omega
theorem Upd.end (u : Upd S L i n 34) : Im.opn (all S L) = some n := by
  rcases u.st with ⟨h1, _⟩ | ⟨h1, _⟩ | ⟨_, rfl, h⟩
  · omega
  · omega
  · exact opn_head u.len u.next u.opn h
/-- All old, or all new. -/
theorem Upd.crash (u : Upd S L i n k) (K : Nat) : Im.opn (Dk.crash K 0 L S) = some i ∨ Im.opn (Dk.crash K 0 L S) = some n := by
  rcases u.st with ⟨h1, rfl⟩ | ⟨_, rfl, _⟩ | ⟨_, rfl, h⟩
  · exact Or.inl (opn_wrs_crash K 0 h1 u.next u.opn)
  · exact Or.inl u.opn
  · show Im.opn (if _ then _ else _) = _ ∨ Im.opn (if _ then _ else _) = _
    split
    · exact Or.inr (opn_head u.len u.next u.opn h)
    · exact Or.inl u.opn
end

end Go.Proofs.YtnmpckhlpkmojaaGreatDoor.Im
