/-
  Both journals, the same in what they hold and in all sectors: each call on one, then on the other. Nothing but their own memory is changed. Conditions: the table of half bytes, and the library's variable errors.errorType, hold what the program's own text lays.
-/
import Derived.Test.YtmfgcinikopgnaaGreatDoorRjP2
import Derived.Test.YtmfgcinikopgnaaGreatDoorRjP3
import Derived.Test.YtmfgcinikopgnaaGreatDoorRjP4
import Derived.Laws.StructEq
import Derived.Test.YtmfgcinikopgnaaGreatDoorFaPathB
import Derived.Test.YtmfgcinikopgnaaGreatDoorJnC

/-
  The contract of the document's own Open, whichever head is the current one. Nothing but the disk's memory is changed.
-/
namespace Go.Proofs.YtmfgcinikopgnaaGreatDoor.Jn
open Go.RowKit
open Pk hiding str str_data str_size str_of run_str head_str str_append
open Sm hiding run_str
open Fa Rc Dk

theorem ROpen_good (w : World) (D : Nat → Prop) (q : Nat) (S : List Sec) (n : Nat) (h' : Hd) (hd : RDsk w D q S []) (h1n : 1 ≤ n) (h512 : n ≤ 512) (h2n : 2 + n ≤ S.length) (hS : S.length ≤ 1000) (hFull : Full S) (hcur : cur S = some h') :
    Calls Tryz.prog 9 #[.pointer (some ⟨q, 0, none⟩), .int .i64 (n : Int)] w (ROpened w D q n S ⟨h'.t + 1, h'.f, h'.g + 1, h'.l⟩ (load S n h'.g n h'.f h'.l)) := by
  obtain ⟨b1, b2, b3, b4, _, _⟩ := cur_num hcur
  obtain ⟨s0, hs0⟩ : ∃ s, S[0]? = some s := ⟨_, List.getElem?_eq_getElem (by omega)⟩
  obtain ⟨s1, hs1⟩ : ∃ s, S[1]? = some s := ⟨_, List.getElem?_eq_getElem (by omega)⟩
  obtain ⟨t, f, g, l⟩ := h'
  unfold cur at hcur
  rw [getD_of hs0, getD_of hs1] at hcur
  cases hu0 : unh 0 s0 with
  | none =>
    cases hu1 : unh 1 s1 with
    | none =>
      rw [hu0, hu1] at hcur
      simp only at hcur
      split at hcur
      · rename_i hz
        exact ROpen_N w D q S n hd h1n h512 h2n hS hFull s0 s1 hs0 hs1 t f g l b1 b2 b3 (Option.some.inj hcur).symm hu0 hu1 hz.1 hz.2
      · cases hcur
    | some b =>
      rw [hu0, hu1] at hcur
      simp only at hcur
      cases hcur
      exact ROpen_B w D q S n hd h1n h512 h2n hS hFull s0 s1 hs0 hs1 t f g l b1 b2 b3 hu1 (-1) 0 0 0 (by rw [hu0]; rfl) (by omega) (by omega)
  | some a =>
    cases hu1 : unh 1 s1 with
    | none =>
      rw [hu0, hu1] at hcur
      simp only at hcur
      cases hcur
      exact ROpen_A w D q S n hd h1n h512 h2n hS hFull s0 s1 hs0 hs1 t f g l b1 b2 b3 hu0 (-1) 0 0 0 (by rw [hu1]; rfl) (by omega)
    | some b =>
      rw [hu0, hu1] at hcur
      simp only at hcur
      have p0 := (unh_spec hu0).1.par
      have p1 := (unh_spec hu1).1.par
      by_cases hab : a.t < b.t
      · rw [if_pos hab] at hcur
        cases hcur
        exact ROpen_C w D q S n hd h1n h512 h2n hS hFull s0 s1 hs0 hs1 t f g l b1 b2 b3 hu1 a.t a.f a.g a.l (by rw [hu0]; rfl) (by have : a.t < t := hab; omega) (by omega)
      · rw [if_neg hab] at hcur
        cases hcur
        exact ROpen_A w D q S n hd h1n h512 h2n hS hFull s0 s1 hs0 hs1 t f g l b1 b2 b3 hu0 b.t b.f b.g b.l (by rw [hu1]; rfl) (by have h1 : ¬ t < b.t := hab; have h2 : t % 2 = 0 := p0; omega)

end Go.Proofs.YtmfgcinikopgnaaGreatDoor.Jn

/-
  The program's journal and the document's own, side by side: what each call on one answers, and leaves of both. Nothing but their own memory is changed. Conditions: the table of half bytes, and the library's variable errors.errorType, hold what the program's own text lays.
-/
namespace Go.Proofs.YtmfgcinikopgnaaGreatDoor.Jn
open Go.RowKit
open Pk hiding str str_data str_size str_of run_str head_str str_append
open Sm hiding run_str
open Fa Rc Dk

theorem First_jn (v : Value) (s e : Int) (w : World) (hty : Ety w) (h : JFlt w v s e) :
    Calls Tryz.prog 10 #[v, .string Jn.nam] w fun r w' => r = .returned (.tuple #[.int .i64 s, .bool true]) ∧ Below w.heap.size w w' := by
  obtain ⟨p, fs, rfl, hc, hl⟩ := h
  have hF := First_any _ _ _ Jn.nam _ w rfl hty hc (Or.inr ⟨e, rfl⟩) (by simp; omega)
  have hf : Fa.fnd (pls ((p, Jn.nam, s) :: fs)) Jn.nam = (s, true) := fnd_yes (by simp)
  rw [hf] at hF
  exact hF
theorem Code_jn (v : Value) (s e : Int) (w : World) (hty : Ety w) (h : JFlt w v s e) :
    Calls Tryz.prog 11 #[v] w fun r w' => r = .returned (.int .i64 e) ∧ Below w.heap.size w w' := by
  obtain ⟨p, fs, rfl, hc, hl⟩ := h
  exact Code_any _ _ _ e w hty hc (Or.inr rfl) (by simp; omega)
theorem First_jnil (w : World) (hty : Ety w) :
    Calls Tryz.prog 10 #[.nilIface, .string Jn.nam] w fun r w' => r = .returned (.tuple #[.int .i64 0, .bool false]) ∧ Below w.heap.size w w' :=
  First_any [] .nilIface .nilIface Jn.nam 0 w rfl hty rfl (Or.inl rfl) (by omega)
theorem Code_jnil (w : World) (hty : Ety w) :
    Calls Tryz.prog 11 #[.nilIface] w fun r w' => r = .returned (.int .i64 0) ∧ Below w.heap.size w w' :=
  Code_any [] .nilIface .nilIface 0 w hty rfl (Or.inl ⟨rfl, rfl⟩) (by simp)

/-! ### Rows that begin anywhere -/
def ARow (w : World) (A : Option Addr) (E : List Ent) : Prop := E ≠ [] → ∃ g o, A = some ⟨g, o, none⟩ ∧ g < w.heap.size ∧ ∀ j u, (rcels E)[j]? = some u → w.cell? ⟨g, o + j, none⟩ = some u
section
variable {w w' : World} {A : Option Addr} {E : List Ent}
theorem ARow.below (h : ARow w A E) (hb : Below w.heap.size w w') : ARow w' A E := fun hne => by
  obtain ⟨g, o, e, hl, hr⟩ := h hne
  exact ⟨g, o, e, Nat.lt_of_lt_of_le hl hb.size, fun j u hu => (hb.cell (p := ⟨g, o + j, none⟩) hl).trans (hr j u hu)⟩
theorem ARow.get (h : ARow w A E) {k : Nat} {x : Ent} (hx : E[k]? = some x) : ∃ g o, A = some ⟨g, o, none⟩ ∧ g < w.heap.size ∧ w.cell? ⟨g, o + k * 5, none⟩ = some (.int .i64 (x.s : Int)) ∧ w.cell? ⟨g, o + k * 5 + 1, none⟩ = some (.int .i64 x.k) ∧ w.cell? ⟨g, o + k * 5 + 2, none⟩ = some (.int .i64 x.b) ∧ w.cell? ⟨g, o + k * 5 + 3, none⟩ = some (.string x.d) ∧ w.cell? ⟨g, o + k * 5 + 4, none⟩ = some (.int .i64 x.m) := by
  obtain ⟨g, o, e, hl, hr⟩ := h (by rintro rfl; simp at hx)
  have hp : ∀ i u, i < 5 → (rcel x)[i]? = some u → w.cell? ⟨g, o + (k * 5 + i), none⟩ = some u := fun i u hi hu => by
    refine hr (k * 5 + i) u ?_
    rw [rcels, flat_get E (fun e he => rcel_len E e he) k i x hx hi]
    exact hu
  exact ⟨g, o, e, hl, hp 0 _ (by omega) rfl, hp 1 _ (by omega) rfl, hp 2 _ (by omega) rfl, hp 3 _ (by omega) rfl, hp 4 _ (by omega) rfl⟩
theorem Rows5.arow {base : Nat} {v : Value} (h : Rows5 w base v E) : ∃ A c, v = .slice A E.length c ∧ E.length ≤ c ∧ ARow w A E := by
  obtain ⟨A, c, e, h1, h2, hr⟩ := row_form h
  refine ⟨A, c, e, h1, fun hne => ?_⟩
  obtain ⟨g, e1, _, hl, hrg⟩ := hr (by cases E; exact absurd rfl hne; simp)
  exact ⟨g, 0, e1, hl, hrg⟩
end

set_option maxRecDepth 100000 in
set_option maxHeartbeats 2000000 in
theorem Same_two (w : World) (E : List Ent) (n : Nat) (A1 A2 : Option Addr) (c1 c2 : Nat) (hn : E.length = n) (hlim : n ≤ 1000) (h1 : ARow w A1 E) (h2 : ARow w A2 E) :
    Calls Tryz.prog 21 #[.slice A1 n c1, .slice A2 n c2] w fun e w' => e = .returned (.bool true) ∧ Below w.heap.size w w' := by
  have Hn := hide hn
  have H1 := hide h1
  have H2 := hide h2
  clear hn h1 h2
  go_enter Tryz.func21, Tryz.ntmps21
  go_wp2
  go_loopw [13] (fun j wr => ∃ k : Nat, k ≤ n ∧ j = .int .i64 k ∧ Hid (Below w.heap.size w wr)) (fun j _ => n - (intOf j).toNat)
  case atStart => exact ⟨0, Nat.zero_le _, rfl, Below.refl _ _⟩
  case round =>
    obtain ⟨k, hk, rfl, hb⟩ := hrel
    rcases Nat.lt_or_ge k n with hlt | hge
    · have Hlt := hide hlt
      have hki : (k : Int) < (n : Int) := by omega
      obtain ⟨x, hx⟩ : ∃ x, E[k]? = some x := ⟨_, List.getElem?_eq_getElem (by rw [Hn.out]; exact hlt)⟩
      obtain ⟨g1, o1, rfl, _, a0, a1, a2, a3, a4⟩ := (H1.out.below hb.out).get hx
      obtain ⟨g2, o2, rfl, _, b0, b1, b2, b3, b4⟩ := (H2.out.below hb.out).get hx
      obtain ⟨xg, xs, xk, xb, xd, xm⟩ := x
      have hq := rec_neq (xs : Int) xk xb xd xm (xs : Int) xk xb xd xm true (same5_self _ _ _ _ _)
      have hg := fun W => rec_eqg .neq (.tmp 19) (.tmp 23) (xs : Int) xk xb xd xm (xs : Int) xk xb xd xm W
      clear hx hlt
      go_wp2
      go_quiet (fail)
      go_wp2
      go_roundw
      case rel => exact ⟨k + 1, Hlt.out, by go_num, hb.out.trans ⟨rfl, rfl, rfl, Nat.le_refl _, fun _ _ => rfl⟩⟩
      case measure => have := Hlt.out; simp [intOf]; omega
    · obtain rfl : k = n := by omega
      clear hge hk
      go_wp2
      go_ret
      exact ⟨rfl, hb.out⟩

/-! ### Both -/
section
variable {w w' : World} {G : Nat → Prop} {p q n : Nat} {S : List Sec} {L : List Wr} {h : Hd} {E : List Ent}
theorem rdsk_same (d : RDsk w G q S L) (hk : ∀ k, G k → w'.heap[k]? = w.heap[k]?) : RDsk w' G q S L := by
  obtain ⟨F, X, h1, h2, h3, h4, h5, h6, h7, h8⟩ := d
  refine ⟨F, X, (hk q h4).trans h1, own_same h2 (fun k hb => hk k (h5 k hb).1), own_same h3 (fun k hb => hk k (h6 k hb).1), h4, h5, h6, fun k hg => ?_, h8⟩
  have h9 := h7 k hg
  have h10 := hk k hg
  rw [Array.getElem?_eq_getElem h9] at h10
  exact (Array.getElem?_eq_some_iff.1 h10).1
theorem Rj.same (j : Rj w G p q S L n h E) (hk : ∀ k, G k → w'.heap[k]? = w.heap[k]?) : Rj w' G p q S L n h E := by
  obtain ⟨D, J, X, Y, h1, h2, h3, h4⟩ := j
  have hJ : ∀ k, J k → w'.heap[k]? = w.heap[k]? := fun k hj => hk k ((h4 k).2 (Or.inr hj))
  refine ⟨D, J, X, Y, rdsk_same h1 fun k hd => hk k ((h4 k).2 (Or.inl hd)), ⟨(hJ p h2.mine).trans h2.box, h2.rows.same fun k hb => hJ k (h2.row k hb).1, h2.gens.same fun k hb => hJ k (h2.gen k hb).1, h2.mine, h2.row, h2.gen, fun k hj => ?_⟩, h3, h4⟩
  have h9 := h2.lt k hj
  have h10 := hJ k hj
  rw [Array.getElem?_eq_getElem h9] at h10
  exact (Array.getElem?_eq_some_iff.1 h10).1
end
/-- Both journals, and a block that is neither's. -/
def TJ (w0 : World) (p q p2 q2 n : Nat) (S : List Sec) (L : List Wr) (h : Hd) (E : List Ent) (S2 : List Sec) (L2 : List Wr) (h2 : Hd) (E2 : List Ent) (bo : Nat) (ob : Obj) (w : World) : Prop :=
  ∃ Gr, Rj w Gr p2 q2 S2 L2 n h2 E2 ∧ (∀ k, Gr k → w0.heap.size ≤ k) ∧ JW w0 (fun k => Gr k ∨ k = bo) p q n S L h E w ∧ w.heap[bo]? = some ob ∧ ¬ Gr bo
section
variable {w0 w w' : World} {p q p' q' p2 q2 n bo : Nat} {ob : Obj} {S S' S2 S2' : List Sec} {L L' L2 L2' : List Wr} {h h' h2 h2' : Hd} {E E' E2 E2' : List Ent}
theorem TJ.bel (j : TJ w0 p q p2 q2 n S L h E S2 L2 h2 E2 bo ob w) : Below w0.heap.size w0 w := by
  obtain ⟨Gr, _, _, j, _⟩ := j
  exact j.bel
theorem TJ.obj (j : TJ w0 p q p2 q2 n S L h E S2 L2 h2 E2 bo ob w) : w.heap[bo]? = some ob := by
  obtain ⟨Gr, _, _, _, ho, _⟩ := j
  exact ho
/-- A call on the program's side. -/
theorem TJ.stepP {Gr : Nat → Prop} (hr : Rj w Gr p2 q2 S2 L2 n h2 E2) (hg : ∀ k, Gr k → w0.heap.size ≤ k) (ho : w.heap[bo]? = some ob) (hno : ¬ Gr bo) (hj : JW w0 (fun k => Gr k ∨ k = bo) p' q' n S' L' h' E' w') (hk : RK (fun k => Gr k ∨ k = bo) w w') :
    TJ w0 p' q' p2 q2 n S' L' h' E' S2 L2 h2 E2 bo ob w' :=
  ⟨Gr, hr.same fun k hG => hk k (Or.inl hG), hg, hj, (hk bo (Or.inr rfl)).trans ho, hno⟩
/-- A call on the document's side. -/
theorem TJ.stepR {Gr : Nat → Prop} {p2' : Nat} (hg : ∀ k, Gr k → w0.heap.size ≤ k) (hj : JW w0 (fun k => Gr k ∨ k = bo) p q n S L h E w) (ho : w.heap[bo]? = some ob) (hno : ¬ Gr bo) {D : Nat → Prop} (hD : ∀ k, D k → Gr k) (hp : RjPost w D p2' q2 S2' L2' n h2' E2' w') :
    TJ w0 p q p2' q2 n S L h E S2' L2' h2' E2' bo ob w' := by
  obtain ⟨G', hr', hgr, hk⟩ := hp
  have hbl : bo < w.heap.size := heap_lt ho
  obtain ⟨G, j1, j2, j3, j4⟩ := hj
  refine ⟨G', hr', fun k hG' => ?_, ⟨G, j1.kept hk fun k hG hD' => (j4 k (Or.inl (hD k hD'))).2 hG, j2, j3.trans (hk.below (fun k hD' => hg k (hD k hD')) j3.size), fun k hk' => ?_⟩, (hk.block bo hbl fun hD' => hno (hD bo hD')).trans ho, fun hG' => ?_⟩
  · rcases hgr k hG' with h5 | h5
    · exact hg k (hD k h5)
    · exact Nat.le_trans j3.size h5
  · rcases hk' with hk' | hk'
    · refine ⟨hr'.lt k hk', fun hG => ?_⟩
      rcases hgr k hk' with h5 | h5
      · exact (j4 k (Or.inl (hD k h5))).2 hG
      · have := j1.lt k hG; omega
    · subst hk'
      exact ⟨Nat.lt_of_lt_of_le hbl hk.size, (j4 _ (Or.inr rfl)).2⟩
  · rcases hgr bo hG' with h5 | h5
    · exact hno (hD bo h5)
    · omega
theorem TJ.below (j : TJ w0 p q p2 q2 n S L h E S2 L2 h2 E2 bo ob w) (hb : Below w.heap.size w w') : TJ w0 p q p2 q2 n S L h E S2 L2 h2 E2 bo ob w' := by
  obtain ⟨Gr, hr, hg, hj, ho, hno⟩ := j
  exact TJ.stepP hr hg ho hno (hj.below hb).1 (hj.below hb).2
/-- Another block is looked at. -/
theorem TJ.with {b2 : Nat} {o2 : Obj} (j : TJ w0 p q p2 q2 n S L h E S2 L2 h2 E2 bo ob w) (hb : Below w.heap.size w w') (hg2 : w.heap.size ≤ b2) (ho2 : w'.heap[b2]? = some o2) : TJ w0 p q p2 q2 n S L h E S2 L2 h2 E2 b2 o2 w' := by
  have hlt := heap_lt ho2
  obtain ⟨Gr, hr, hg, hj, ho, hno⟩ := j
  obtain ⟨G, j1, j2, j3, j4⟩ := hj
  refine ⟨Gr, hr.below hb, hg, ⟨G, j1.below hb, j2, j3.trans (hb.mono j3.size), fun k hk => ?_⟩, ho2, fun hG => by have := hr.lt b2 hG; omega⟩
  rcases hk with hk | hk
  · exact ⟨Nat.lt_of_lt_of_le (hr.lt k hk) hb.size, (j4 k (Or.inl hk)).2⟩
  · subst hk
    exact ⟨hlt, fun hG => by have := j1.lt k hG; omega⟩
theorem TJ.cells (j : TJ w0 p q p2 q2 n S L h E S2 L2 h2 E2 bo ob w) : ∃ A c B d, w.cell? ⟨p2, 6, none⟩ = some (.slice A E2.length c) ∧ ARow w A E2 ∧ w.cell? ⟨p2, 1, none⟩ = some (.int .i64 (n : Int)) ∧ w.cell? ⟨q2, 1, none⟩ = some (.slice B L2.length d) := by
  obtain ⟨Gr, hr, _⟩ := j
  obtain ⟨D, J, X, Y, k1, k2, _, _⟩ := hr
  obtain ⟨A, c, B, d, rfl, rfl, c0, c1, c2, c3, c4, c5, c6, c7, fz⟩ := k2.cells
  obtain ⟨F, X, d1, d2, d3, _⟩ := k1
  obtain ⟨B2, d', rfl, _⟩ := row_form d3
  obtain ⟨A', c', e, _, _, hh⟩ := k2.rows.form
  cases e
  refine ⟨A, c, B2, d', c6, fun hne => hh (fun h0 => ?_), c1, by simp [World.cell?, d1]⟩
  cases E2 with
  | nil => exact hne rfl
  | cons x r => simp [rcels, rcel] at h0
end
end Go.Proofs.YtmfgcinikopgnaaGreatDoor.Jn

namespace Go.Proofs.YtmfgcinikopgnaaGreatDoor.Jn
open Go.RowKit
open Pk hiding str str_data str_size str_of run_str head_str str_append
open Sm hiding run_str
open Fa Rc Dk

section
variable {w0 w w' : World} {p q p2 q2 n bo : Nat} {ob : Obj} {S S2 : List Sec} {L L2 : List Wr} {h h' h2 h2' : Hd} {E E2 : List Ent}
theorem TJ.tab (j : TJ w0 p q p2 q2 n S L h E S2 L2 h2 E2 bo ob w) (ht : Tab w0) : Tab w := ht.below j.bel ht.pos
theorem TJ.ety (j : TJ w0 p q p2 q2 n S L h E S2 L2 h2 E2 bo ob w) (ht : Ety w0) : Ety w := ht.below j.bel ht.lt
theorem TJ.full (j : TJ w0 p q p2 q2 n S L h E S2 L2 h2 E2 bo ob w) : Full S := by
  obtain ⟨Gr, hr, hg, ⟨G, ⟨D, J, X, k1, _⟩, _⟩, ho, hno⟩ := j
  exact k1.full
theorem TJ.next (j : TJ w0 p q p2 q2 n S L h E S2 L2 h2 E2 bo ob w) (hf : h.f ≤ 2000000000000000000) (he : E.length ≤ 1000) :
    Calls Tryz.prog 12 #[.pointer (some ⟨p, 0, none⟩)] w fun e w' => e = .returned (.int .i64 ((h.f + E.length : Nat) : Int)) ∧ Below w.heap.size w w' := by
  obtain ⟨Gr, hr, hg, hj, ho, hno⟩ := j
  exact hj.next hf he
theorem TJ.room (j : TJ w0 p q p2 q2 n S L h E S2 L2 h2 E2 bo ob w) (hn : n ≤ 1000) (he : E.length ≤ n) :
    Calls Tryz.prog 24 #[.pointer (some ⟨p, 0, none⟩)] w fun e w' => e = .returned (.int .i64 ((n : Int) - (E.length : Int))) ∧ Below w.heap.size w w' := by
  obtain ⟨Gr, hr, hg, hj, ho, hno⟩ := j
  exact hj.room hn he
theorem TJ.records (j : TJ w0 p q p2 q2 n S L h E S2 L2 h2 E2 bo ob w) (he : E.length ≤ 1000) :
    Calls Tryz.prog 22 #[.pointer (some ⟨p, 0, none⟩)] w fun e w' => ∃ A c, e = .returned (.slice A E.length c) ∧ ARow w' A E ∧ Below w.heap.size w w' := by
  obtain ⟨Gr, hr, hg, hj, ho, hno⟩ := j
  refine (hj.records he).mono ?_
  rintro e w' ⟨v, rfl, hrow, hb⟩
  obtain ⟨A, c, rfl, _, ha⟩ := hrow.arow
  exact ⟨A, c, rfl, ha, hb⟩
theorem TJ.loose (j : TJ w0 p q p2 q2 n S L h E S2 L2 h2 E2 bo ob w) :
    Calls Tryz.prog 25 #[.pointer (some ⟨q, 0, none⟩)] w fun e w' => e = .returned (.int .i64 L.length) ∧ w = w' := by
  obtain ⟨Gr, hr, hg, ⟨G, ⟨D, J, X, k1, _⟩, _⟩, ho, hno⟩ := j
  exact Loose_any k1
theorem TJ.lens (j : TJ w0 p q p2 q2 n S L h E S2 L2 h2 E2 bo ob w) : Lens w (.pointer (some ⟨q, 0, none⟩)) S.length := by
  obtain ⟨Gr, hr, hg, ⟨G, ⟨D, J, X, k1, _⟩, _⟩, ho, hno⟩ := j
  exact Len_any k1
theorem TJ.rnext (j : TJ w0 p q p2 q2 n S L h E S2 L2 h2 E2 bo ob w) (hf : h2.f ≤ 2000000000000000000) (he : E2.length ≤ 1000) :
    Calls Tryz.prog 23 #[.pointer (some ⟨p2, 0, none⟩)] w fun e w' => e = .returned (.int .i64 ((h2.f + E2.length : Nat) : Int)) ∧ Below w.heap.size w w' := by
  obtain ⟨Gr, hr, hg, hj, ho, hno⟩ := j
  exact RNext_any w Gr p2 q2 S2 L2 n h2 E2 hr hf he
theorem TJ.append (j : TJ w0 p q p2 q2 n S L h E S2 L2 h2 E2 bo ob w) (ht : Tab w0) (hf : h.f ≤ 2000000000000000000) (hn : n ≤ 512) (he : E.length < n) {s k b : Int} {d : ByteArray} {m : Int} (hok : EOk ⟨h.g, h.f + E.length, k, b, d, m⟩) (h2n : 2 + n ≤ S.length) (hL : L.length ≤ 900000) :
    Calls Tryz.prog 13 #[.pointer (some ⟨p, 0, none⟩), rec5 s k b d m] w fun e w' => e = .returned (.tuple #[.int .i64 ((h.f + E.length : Nat) : Int), .nilIface]) ∧
      TJ w0 p q p2 q2 n S (L ++ [(2 + (h.f + E.length) % n, esec ⟨h.g, h.f + E.length, k, b, d, m⟩)]) h (E ++ [⟨h.g, h.f + E.length, k, b, d, m⟩]) S2 L2 h2 E2 bo ob w' := by
  obtain ⟨Gr, hr, hg, hj, ho, hno⟩ := j
  refine (hj.append ht hf hn he hok h2n hL).mono ?_
  rintro e w' ⟨rfl, hj', hk⟩
  exact ⟨rfl, TJ.stepP hr hg ho hno hj' hk⟩
theorem TJ.rappend (j : TJ w0 p q p2 q2 n S L h E S2 L2 h2 E2 bo ob w) (hf : h2.f ≤ 2000000000000000000) (hn : n ≤ 512) (he : E2.length < n) {s k b : Int} {d : ByteArray} {m : Int} (hok : EOk ⟨h2.g, h2.f + E2.length, k, b, d, m⟩) (h2n : 2 + n ≤ S2.length) (hL : L2.length ≤ 900000) :
    Calls Tryz.prog 14 #[.pointer (some ⟨p2, 0, none⟩), rec5 s k b d m] w fun e w' => e = .returned (.tuple #[.int .i64 ((h2.f + E2.length : Nat) : Int), .int .i64 0]) ∧
      TJ w0 p q p2 q2 n S L h E S2 (L2 ++ [(2 + (h2.f + E2.length) % n, esec ⟨h2.g, h2.f + E2.length, k, b, d, m⟩)]) h2 (E2 ++ [⟨h2.g, h2.f + E2.length, k, b, d, m⟩]) bo ob w' := by
  obtain ⟨Gr, hr, hg, hj, ho, hno⟩ := j
  refine (RAppend_good w Gr p2 q2 S2 L2 n h2 E2 hr s k b d m hf hn he hok h2n hL).mono ?_
  rintro e w' ⟨rfl, hp⟩
  exact ⟨rfl, TJ.stepR hg hj ho hno (fun _ h => h) hp⟩
theorem TJ.refused (j : TJ w0 p q p2 q2 n S L h E S2 L2 h2 E2 bo ob w) (hf : h.f ≤ 2000000000000000000) (hn : n ≤ 512) (he : E.length ≤ n) {s k b : Int} {d : ByteArray} {m : Int} (hd : d.size ≤ 9223372036854775807) (hno : E.length = n ∨ ¬ EOk ⟨h.g, h.f + E.length, k, b, d, m⟩) :
    Calls Tryz.prog 13 #[.pointer (some ⟨p, 0, none⟩), rec5 s k b d m] w fun e w' => ∃ pp, e = .returned (.tuple #[.int .i64 0, .iface 90 (.pointer (some ⟨pp, 0, none⟩))]) ∧
      JFlt w' (.iface 90 (.pointer (some ⟨pp, 0, none⟩))) ((h.f + E.length : Nat) : Int) (if E.length = n then 6 else 1) ∧ Below w.heap.size w w' := by
  obtain ⟨Gr, hr, hg, hj, ho, hno'⟩ := j
  exact hj.refused hf hn he hd hno
theorem TJ.rrefused (j : TJ w0 p q p2 q2 n S L h E S2 L2 h2 E2 bo ob w) (hf : h2.f ≤ 2000000000000000000) (hn : n ≤ 512) (he : E2.length ≤ n) {s k b : Int} {d : ByteArray} {m : Int} (hno : E2.length = n ∨ ¬ EOk ⟨h2.g, h2.f + E2.length, k, b, d, m⟩) :
    Calls Tryz.prog 14 #[.pointer (some ⟨p2, 0, none⟩), rec5 s k b d m] w fun e w' => e = .returned (.tuple #[.int .i64 0, .int .i64 (if E2.length = n then 6 else 1)]) ∧ Below w.heap.size w w' := by
  obtain ⟨Gr, hr, hg, hj, ho, hno'⟩ := j
  by_cases hE : E2.length = n
  · rw [if_pos hE]
    exact RAppend_full w Gr p2 q2 S2 L2 n h2 E2 hr s k b d m hf hn hE
  · rw [if_neg hE]
    exact RAppend_bad w Gr p2 q2 S2 L2 n h2 E2 hr s k b d m hf hn (by omega) (hno.resolve_left hE)
theorem TJ.flush (j : TJ w0 p q p2 q2 n S L h E S2 L2 h2 E2 bo ob w) (hL : L.length ≤ 1000000) :
    Calls Tryz.prog 15 #[.pointer (some ⟨p, 0, none⟩)] w fun e w' => e = .returned (.tuple #[]) ∧ TJ w0 p q p2 q2 n (all S L) [] h E S2 L2 h2 E2 bo ob w' := by
  obtain ⟨Gr, hr, hg, hj, ho, hno⟩ := j
  refine (hj.flush hL).mono ?_
  rintro e w' ⟨rfl, hj', hk⟩
  exact ⟨rfl, TJ.stepP hr hg ho hno hj' hk⟩
theorem TJ.rflush (j : TJ w0 p q p2 q2 n S L h E S2 L2 h2 E2 bo ob w) (hL : L2.length ≤ 1000000) :
    Calls Tryz.prog 16 #[.pointer (some ⟨q2, 0, none⟩)] w fun e w' => e = .returned (.tuple #[]) ∧ TJ w0 p q p2 q2 n S L h E (all S2 L2) [] h2 E2 bo ob w' := by
  obtain ⟨Gr, hr, hg, hj, ho, hno⟩ := j
  obtain ⟨D, J, X, Y, k1, k2, k3, k4⟩ := hr
  refine (RFlush_any w D q2 S2 L2 k1 hL).mono ?_
  rintro e w' ⟨rfl, hp⟩
  exact ⟨rfl, TJ.stepR hg hj ho hno (fun _ h => h) (Rj.disk k2 k3 k4 hp)⟩
theorem TJ.crash (j : TJ w0 p q p2 q2 n S L h E S2 L2 h2 E2 bo ob w) (K : Nat) (hK : K < 18446744073709551616) (hL : L.length ≤ 1000000) :
    Calls Tryz.prog 19 #[.pointer (some ⟨q, 0, none⟩), .int .u64 K] w fun e w' => e = .returned (.tuple #[]) ∧ TJ w0 p q p2 q2 n (Dk.crash K 0 L S) [] h E S2 L2 h2 E2 bo ob w' := by
  obtain ⟨Gr, hr, hg, hj, ho, hno⟩ := j
  refine (hj.crash K hK hL).mono ?_
  rintro e w' ⟨rfl, hj', hk⟩
  exact ⟨rfl, TJ.stepP hr hg ho hno hj' hk⟩
theorem TJ.rcrash (j : TJ w0 p q p2 q2 n S L h E S2 L2 h2 E2 bo ob w) (K : Nat) (hK : K < 18446744073709551616) (hL : L2.length ≤ 1000000) :
    Calls Tryz.prog 20 #[.pointer (some ⟨q2, 0, none⟩), .int .u64 K] w fun e w' => e = .returned (.tuple #[]) ∧ TJ w0 p q p2 q2 n S L h E (Dk.crash K 0 L2 S2) [] h2 E2 bo ob w' := by
  obtain ⟨Gr, hr, hg, hj, ho, hno⟩ := j
  obtain ⟨D, J, X, Y, k1, k2, k3, k4⟩ := hr
  refine (RCrash_any w D q2 K S2 L2 k1 hK hL).mono ?_
  rintro e w' ⟨rfl, hp⟩
  exact ⟨rfl, TJ.stepR hg hj ho hno (fun _ h => h) (Rj.disk k2 k3 k4 hp)⟩
theorem TJ.open (j : TJ w0 p q p2 q2 n S [] h E S2 L2 h2 E2 bo ob w) (ht : Tab w0) (h1n : 1 ≤ n) (h512 : n ≤ 512) (h2n : 2 + n ≤ S.length) (hcur : cur S = some h') :
    Calls Tryz.prog 8 #[.pointer (some ⟨q, 0, none⟩), .int .i64 (n : Int)] w fun e w' => ∃ p', e = .returned (.tuple #[.pointer (some ⟨p', 0, none⟩), .nilIface]) ∧
      TJ w0 p' q p2 q2 n (all S [((h'.t + 1) % 2, hsec ⟨h'.t + 1, h'.f, h'.g + 1, h'.l⟩)]) [] ⟨h'.t + 1, h'.f, h'.g + 1, h'.l⟩ (load S n h'.g n h'.f h'.l) S2 L2 h2 E2 bo ob w' := by
  obtain ⟨Gr, hr, hg, hj, ho, hno⟩ := j
  refine (hj.open ht h1n h512 h2n (h' := h') hcur (by simp)).mono ?_
  rintro e w' ⟨p', rfl, hj', hk⟩
  exact ⟨p', rfl, TJ.stepP hr hg ho hno hj' hk⟩
theorem TJ.ropen (j : TJ w0 p q p2 q2 n S L h E S2 [] h2 E2 bo ob w) (h1n : 1 ≤ n) (h512 : n ≤ 512) (h2n : 2 + n ≤ S2.length) (hS : S2.length ≤ 1000) (hF : Full S2) (hcur : cur S2 = some h2') :
    Calls Tryz.prog 9 #[.pointer (some ⟨q2, 0, none⟩), .int .i64 (n : Int)] w fun e w' => ∃ p', e = .returned (.tuple #[.pointer (some ⟨p', 0, none⟩), .int .i64 0]) ∧
      TJ w0 p q p' q2 n S L h E (all S2 [((h2'.t + 1) % 2, hsec ⟨h2'.t + 1, h2'.f, h2'.g + 1, h2'.l⟩)]) [] ⟨h2'.t + 1, h2'.f, h2'.g + 1, h2'.l⟩ (load S2 n h2'.g n h2'.f h2'.l) bo ob w' := by
  obtain ⟨Gr, hr, hg, hj, ho, hno⟩ := j
  obtain ⟨D, J, X, Y, k1, k2, k3, k4⟩ := hr
  refine (ROpen_good w D q2 S2 n h2' k1 h1n h512 h2n hS hF hcur).mono ?_
  rintro e w' ⟨p', rfl, hp⟩
  exact ⟨p', rfl, TJ.stepR hg hj ho hno (fun k hk => (k4 k).2 (Or.inl hk)) hp⟩
theorem TJ.trim (j : TJ w0 p q p2 q2 n S L h E S2 L2 h2 E2 bo ob w) (ht : Tab w0) (k : Nat) (hk : 1 ≤ k) (hkm : k ≤ E.length) (hE : E.length ≤ 1000) (htb : h.t ≤ 1000000000000000000) (hfb : h.f ≤ 1000000000000000000) (h2S : 2 ≤ S.length) (hL : L.length ≤ 900000) :
    Calls Tryz.prog 17 #[.pointer (some ⟨p, 0, none⟩), .int .i64 (k : Int)] w fun r w' => r = .returned .nilIface ∧
      TJ w0 p q p2 q2 n (all (all S L) [((h.t + 1) % 2, hsec ⟨h.t + 1, h.f + k, h.g, lst h.l (E.take k)⟩)]) [] ⟨h.t + 1, h.f + k, h.g, lst h.l (E.take k)⟩ (E.drop k) S2 L2 h2 E2 bo ob w' := by
  obtain ⟨Gr, hr, hg, hj, ho, hno⟩ := j
  refine (hj.trim ht k hk hkm hE htb hfb h2S hL).mono ?_
  rintro e w' ⟨rfl, hj', hk'⟩
  exact ⟨rfl, TJ.stepP hr hg ho hno hj' hk'⟩
theorem TJ.rtrim (j : TJ w0 p q p2 q2 n S L h E S2 L2 h2 E2 bo ob w) (k : Nat) (hk : 1 ≤ k) (hkm : k ≤ E2.length) (hE : E2.length ≤ 1000) (htb : h2.t ≤ 1000000000000000000) (hfb : h2.f ≤ 1000000000000000000) (h2S : 2 ≤ S2.length) (hL : L2.length ≤ 900000) :
    Calls Tryz.prog 18 #[.pointer (some ⟨p2, 0, none⟩), .int .i64 (k : Int)] w fun r w' => r = .returned (.int .i64 0) ∧
      TJ w0 p q p2 q2 n S L h E (all (all S2 L2) [((h2.t + 1) % 2, hsec ⟨h2.t + 1, h2.f + k, h2.g, lst h2.l (E2.take k)⟩)]) [] ⟨h2.t + 1, h2.f + k, h2.g, lst h2.l (E2.take k)⟩ (E2.drop k) bo ob w' := by
  obtain ⟨Gr, hr, hg, hj, ho, hno⟩ := j
  refine (RTrim_good w Gr p2 q2 S2 L2 n h2 E2 hr k hk hkm hE htb hfb h2S hL).mono ?_
  rintro e w' ⟨rfl, hp⟩
  exact ⟨rfl, TJ.stepR hg hj ho hno (fun _ h => h) hp⟩
theorem TJ.trim_bad (j : TJ w0 p q p2 q2 n S L h E S2 L2 h2 E2 bo ob w) (k : Int) (hk : k < 0 ∨ (E.length : Int) < k) :
    Calls Tryz.prog 17 #[.pointer (some ⟨p, 0, none⟩), .int .i64 k] w fun r w' => ∃ pp, r = .returned (.iface 90 (.pointer (some ⟨pp, 0, none⟩))) ∧ JFlt w' (.iface 90 (.pointer (some ⟨pp, 0, none⟩))) k 1 ∧ Below w.heap.size w w' := by
  obtain ⟨Gr, hr, hg, ⟨G, j1, _⟩, ho, hno⟩ := j
  exact Trim_bad w G p q S L n h E j1 k hk
theorem TJ.trim_zero (j : TJ w0 p q p2 q2 n S L h E S2 L2 h2 E2 bo ob w) :
    Calls Tryz.prog 17 #[.pointer (some ⟨p, 0, none⟩), .int .i64 0] w fun r w' => r = .returned .nilIface ∧ w = w' := by
  obtain ⟨Gr, hr, hg, ⟨G, j1, _⟩, ho, hno⟩ := j
  exact Trim_zero w G p q S L n h E j1
theorem TJ.rtrim_bad (j : TJ w0 p q p2 q2 n S L h E S2 L2 h2 E2 bo ob w) (k : Int) (hk : k < 0 ∨ (E2.length : Int) < k) :
    Calls Tryz.prog 18 #[.pointer (some ⟨p2, 0, none⟩), .int .i64 k] w fun r w' => r = .returned (.int .i64 1) ∧ w = w' := by
  obtain ⟨Gr, hr, _⟩ := j
  exact RTrim_bad w Gr p2 q2 S2 L2 n h2 E2 hr k hk
theorem TJ.rtrim_zero (j : TJ w0 p q p2 q2 n S L h E S2 L2 h2 E2 bo ob w) :
    Calls Tryz.prog 18 #[.pointer (some ⟨p2, 0, none⟩), .int .i64 0] w fun r w' => r = .returned (.int .i64 0) ∧ w = w' := by
  obtain ⟨Gr, hr, _⟩ := j
  exact RTrim_zero w Gr p2 q2 S2 L2 n h2 E2 hr
theorem TJ.read (j : TJ w0 p q p2 q2 n S L h E S2 L2 h2 E2 bo ob w) {i : Nat} {s : Sec} (hs : (all S L)[i]? = some s) (hi : i < S.length) (hL : L.length ≤ 1000000) :
    Calls Tryz.prog 27 #[.pointer (some ⟨q, 0, none⟩), .int .i64 i] w fun e w' => ∃ g, e = .returned (.tuple #[.slice (some ⟨g, 0, none⟩) 64 64, .nilIface]) ∧ w.heap.size ≤ g ∧ Hid (w'.heap[g]? = some (.cells (cels s).toArray 5 (0, 0))) ∧ Below w.heap.size w w' := by
  obtain ⟨Gr, hr, hg, ⟨G, ⟨D, J, X, k1, _⟩, _⟩, ho, hno⟩ := j
  exact Read_any w D q i S L s k1 hs hi hL
theorem TJ.rread (j : TJ w0 p q p2 q2 n S L h E S2 L2 h2 E2 bo ob w) {i : Nat} {s : Sec} (hs : (all S2 L2)[i]? = some s) (hi : i < S2.length) (hL : L2.length ≤ 1000000) :
    Calls Tryz.prog 28 #[.pointer (some ⟨q2, 0, none⟩), .int .i64 i] w fun e w' => e = .returned (.tuple #[.string (str s), .int .i64 0]) ∧ w = w' := by
  obtain ⟨Gr, ⟨D, J, X, Y, k1, _⟩, _⟩ := j
  exact RRead_any w D q2 i S2 L2 s k1 hs hi hL
end

/-! ### What is always so -/
structure Inv (N n T : Nat) (S : List Sec) (L : List Wr) (h : Hd) (E : List Ent) (D : Nat) : Prop where
  loose : L = wrs n (E.drop D)
  jg : Jg S n h E D h.g
  lim : Lim n h E T
  size : S.length = N
section
variable {N n T : Nat} {S : List Sec} {L : List Wr} {h : Hd} {E : List Ent} {D : Nat}
theorem Inv.short (v : Inv N n T S L h E D) : L.length ≤ 20 := by
  have := v.jg.few
  have := v.lim.n16
  rw [v.loose, wrs_length, List.length_drop]
  omega
theorem Inv.few (v : Inv N n T S L h E D) : E.length ≤ n := v.jg.few
theorem Inv.ring (v : Inv N n T S L h E D) : 2 + n ≤ S.length := v.jg.size
theorem Inv.more {T' : Nat} (v : Inv N n T S L h E D) (hT : T ≤ T') (hT' : T' ≤ 1000) : Inv N n T' S L h E D := ⟨v.loose, v.jg, v.lim.more hT hT', v.size⟩
theorem Inv.append (v : Inv N n T S L h E D) (hT : T + 1 ≤ 1000) (he : E.length < n) {k b : Int} {d : ByteArray} {m : Int} (hok : EOk ⟨h.g, h.f + E.length, k, b, d, m⟩) :
    Inv N n (T + 1) S (L ++ [(2 + (h.f + E.length) % n, esec ⟨h.g, h.f + E.length, k, b, d, m⟩)]) h (E ++ [⟨h.g, h.f + E.length, k, b, d, m⟩]) D := by
  have l := v.lim
  refine ⟨?_, v.jg.append (Nat.le_refl _) he hok rfl rfl, ⟨by have := l.t; omega, by have := l.g; omega, by have := l.f; simp; omega, hT, l.n1, l.n16⟩, v.size⟩
  rw [List.drop_append_of_le_length v.jg.le, v.loose]
  simp [wrs, wr]
theorem Inv.flush (v : Inv N n T S L h E D) : Inv N n T (all S L) [] h E E.length := by
  refine ⟨?_, ?_, v.lim, by rw [all_length]; exact v.size⟩
  · rw [List.drop_length]; rfl
  · rw [v.loose]; exact v.jg.flush (by omega)
theorem Inv.trim (v : Inv N n T S L h E D) (hT : T + 1 ≤ 1000) (k : Nat) (hkm : k ≤ E.length) :
    Inv N n (T + 1) (all (all S L) [((h.t + 1) % 2, hsec ⟨h.t + 1, h.f + k, h.g, lst h.l (E.take k)⟩)]) [] ⟨h.t + 1, h.f + k, h.g, lst h.l (E.take k)⟩ (E.drop k) (E.length - k) := by
  have l := v.lim
  have hf := l.f
  have hTT := l.T
  have hn := l.n16
  have hle : lst h.l (E.take k) ≤ h.g := (v.jg.up.take k).lst
  have h2f := v.flush.jg
  refine ⟨?_, h2f.save (h' := ⟨h.t + 1, h.f + k, h.g, lst h.l (E.take k)⟩) rfl (headok (t := h.t + 1) (f := h.f + k) (g := h.g) (l := lst h.l (E.take k)) (by have := l.t; omega) (by omega) (by have := l.g; omega) (by have := v.jg.headok.1; omega) hle) hkm rfl rfl (Nat.le_refl _) (Nat.le_refl _), ⟨by have := l.t; show h.t + 1 ≤ _; omega, by have := l.g; show h.g ≤ _; omega, by show h.f + k + (E.drop k).length ≤ _; rw [List.length_drop]; omega, hT, l.n1, l.n16⟩, by rw [all_length, all_length]; exact v.size⟩
  rw [show (E.drop k).drop (E.length - k) = [] from List.drop_eq_nil_of_le (by rw [List.length_drop]; exact Nat.le_refl _)]
  rfl
/-- Behind a crash, and Open. -/
theorem Inv.crash (v : Inv N n T S L h E D) (hT : T + 1 ≤ 1000) (K : Nat) :
    cur (Dk.crash K 0 L S) = some h ∧ (Dk.crash K 0 L S).length = N ∧ ∃ D', Inv N n (T + 1) (all (Dk.crash K 0 L S) [((h.t + 1) % 2, hsec ⟨h.t + 1, h.f, h.g + 1, h.l⟩)]) [] ⟨h.t + 1, h.f, h.g + 1, h.l⟩ (load (Dk.crash K 0 L S) n h.g n h.f h.l) D' := by
  obtain ⟨i, hi1, hi2, hi3, _⟩ := v.jg.crash K (Nat.le_succ _)
  have hS : Dk.crash K 0 L S = Dk.crash K 0 (wrs n (E.drop D)) S := by rw [v.loose]
  rw [← hS] at hi3
  have l := v.lim
  have hf := l.f
  have hTT := l.T
  have hlen : (E.take i).length = i := by rw [List.length_take]; omega
  have h2' : Jg (Dk.crash K 0 L S) n h (E.take i) (E.take i).length (h.g + 1) := by rw [hlen]; exact hi3
  have hld : load (Dk.crash K 0 L S) n h.g n h.f h.l = E.take i := h2'.load
  have hsv := h2'.save (h' := ⟨h.t + 1, h.f, h.g + 1, h.l⟩) (k := 0) rfl (headok (t := h.t + 1) (f := h.f) (g := h.g + 1) (l := h.l) (by have := l.t; omega) (by omega) (by have := l.g; omega) hi3.headok.1 (by have := hi3.headok.2; omega)) (Nat.zero_le _) rfl rfl (Nat.le_succ _) (Nat.le_refl _)
  rw [List.drop_zero, Nat.sub_zero, hlen] at hsv
  have hsz : (Dk.crash K 0 L S).length = N := by rw [crash_length]; exact v.size
  refine ⟨hi3.cur, hsz, i, ?_, ?_, ⟨by have := l.t; show h.t + 1 ≤ _; omega, by have := l.g; show h.g + 1 ≤ _; omega, by show h.f + _ ≤ _; rw [hld, hlen]; omega, hT, l.n1, l.n16⟩, by rw [all_length]; exact hsz⟩
  · rw [hld, show (E.take i).drop i = [] from List.drop_eq_nil_of_le (by omega)]; rfl
  · rw [hld]; exact hsv
theorem Inv.start (hn : 1 ≤ n) (h20 : n ≤ 20) (hN : 2 + n ≤ N) : Inv N n 1 (all (List.replicate N zer) [(1 % 2, hsec ⟨1, 1, 1, 0⟩)]) [] ⟨1, 1, 1, 0⟩ (load (List.replicate N zer) n 0 n 1 0) 0 := by
  rw [load_fresh hn hN]
  refine ⟨rfl, Jg.fresh hn hN, ⟨Nat.le_refl _, Nat.le_refl _, by decide, by decide, hn, h20⟩, by rw [all_length, List.length_replicate]⟩
end
end Go.Proofs.YtmfgcinikopgnaaGreatDoor.Jn
