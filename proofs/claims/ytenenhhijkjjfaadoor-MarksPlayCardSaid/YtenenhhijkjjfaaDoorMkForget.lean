/-
  The contract of a table's Forget: the volume's markers up to one are gone, the others are as they were; a nil table, and a volume without markers, have nothing to forget.
-/
import Derived.Test.YtenenhhijkjjfaaDoorMkPutOk
namespace Go.Proofs.YtenenhhijkjjfaaDoor.Mk
open Go.RowKit Go.Maps
open Pk Dk Wn Lk

section
variable {p n : Nat} {mb : Option Nat} {F : Int → Option Nat} {A : Int → List Int} {w w' : World} {G : Nat → Prop}
/-- One set is another. -/
theorem TblF.turn (h : TblF p mb F A n w G) {u t : Int} {b : Nat} (hF : F u = some b) (hg : w.grownBy w' (some b)) (hs : SetAt w' b n ((A u).filter (fun m => decide (t < m)))) : TblF p mb F (drop A u t) n w' G ∧ Kept G w w' := by
  obtain ⟨hb1, hb2, hb3, _⟩ := h.inner u b hF
  have old : ∀ k, k < w.heap.size → k ≠ b → w'.heap[k]? = w.heap[k]? := fun k hk hn => hg.block k hk (fun e => hn (by simpa using e))
  refine ⟨⟨(old p (h.lt p h.mine) (Ne.symm hb2)).trans h.box, h.mine, fun k hk => Nat.lt_of_lt_of_le (h.lt k hk) hg.size, h.good.drop u t, h.bare, fun bo e => ?_, fun v c e => ?_, fun v e => ?_, h.inj⟩, ⟨hg.os, hg.tape, hg.output, hg.size, fun k hl hn => old k hl fun e => hn (e ▸ hb1)⟩⟩
  · obtain ⟨g1, g2, O, g3, g4⟩ := h.outer bo e
    exact ⟨g1, g2, O, owns_same g3 (old bo (h.lt bo g1) (fun e' => hb3 (by rw [e, e']))), g4⟩
  · obtain ⟨g1, g2, g3, g4⟩ := h.inner v c e
    by_cases hv : v = u
    · subst hv
      obtain rfl : b = c := by rw [hF] at e; simpa using e
      refine ⟨g1, g2, g3, ?_⟩
      have : drop A v t v = (A v).filter (fun m => decide (t < m)) := by simp [drop]
      rw [this]
      exact hs
    · have e2 : drop A u t v = A v := by simp [drop, hv]
      rw [e2]
      exact ⟨g1, g2, g3, g4.same (old c (h.lt c g1) (fun e' => hv (h.inj v u c e (e' ▸ hF))))⟩
  · by_cases hv : v = u
    · subst hv
      rw [hF] at e
      cases e
    · have e2 : drop A u t v = A v := by simp [drop, hv]
      rw [e2]
      exact h.lack v e
/-- A set without numbers is given up. -/
theorem TblF.strike {bo : Nat} (h : TblF p (some bo) F A n w G) {u : Int} (hA : A u = []) {O : DataW Unit} (hR : Reads O F) (hg : w.grownBy w' (some bo)) (hO : w'.ownsMap Tryd.prog 3 mapElem bo n (O.del (.int .i64 u))) : TblF p (some bo) (fun v => if v = u then none else F v) A n w' G ∧ Kept G w w' := by
  obtain ⟨hb1, hb2, _⟩ := h.outer bo rfl
  have old : ∀ k, k < w.heap.size → k ≠ bo → w'.heap[k]? = w.heap[k]? := fun k hk hn => hg.block k hk (fun e => hn (by simpa using e))
  refine ⟨⟨(old p (h.lt p h.mine) (Ne.symm hb2)).trans h.box, h.mine, fun k hk => Nat.lt_of_lt_of_le (h.lt k hk) hg.size, h.good, fun e => (by cases e), fun bo' e => ?_, fun v c e => ?_, fun v e => ?_, fun v v' c e e' => ?_⟩, ⟨hg.os, hg.tape, hg.output, hg.size, fun k hl hn => old k hl fun e => hn (e ▸ hb1)⟩⟩
  · obtain rfl : bo = bo' := by simpa using e
    exact ⟨hb1, hb2, _, hO, hR.del u⟩
  · by_cases hv : v = u
    · simp [hv] at e
    · simp only [hv, if_false] at e
      obtain ⟨g1, g2, g3, g4⟩ := h.inner v c e
      exact ⟨g1, g2, g3, g4.same (old c (h.lt c g1) (fun e' => g3 (by rw [e'])))⟩
  · by_cases hv : v = u
    · rw [hv]; exact hA
    · simp only [hv, if_false] at e
      exact h.lack v e
  · by_cases hv : v = u
    · simp [hv] at e
    · by_cases hv' : v' = u
      · simp [hv'] at e'
      · simp only [hv, hv', if_false] at e e'
        exact h.inj v v' c e e'
end
/-- How many a set has. -/
theorem size_zero {l : List Int} {D : DataW Unit} {w : World} {b n : Nat} (hown : w.ownsMap Tryd.prog 3 unitElem b n D) (hh : ∀ x, Maps.has D (.int .i64 x) = decide (x ∈ l)) : Maps.size D = 0 → l = [] := fun h0 => by
  obtain ⟨es, rfl⟩ := hown.isMap
  have : es = [] := List.eq_nil_of_length_eq_zero h0
  subst this
  cases l with
  | nil => rfl
  | cons x r =>
    have := hh x
    simp [Maps.has] at this
/-- What is left of a set amid Forget: those above, and those still to come. -/
def Amid (l : List Int) (t : Int) (left : Lit → Bool) (D : DataW Unit) : Prop := ∀ x, Maps.has D (.int .i64 x) = (decide (x ∈ l) && (decide (t < x) || left (.int .i64 x)))
theorem Amid.start {l : List Int} {t : Int} {D : DataW Unit} (h : ∀ x, Maps.has D (.int .i64 x) = decide (x ∈ l)) : Amid l t (Maps.has D) D := fun x => by
  rw [h x]
  cases decide (x ∈ l) <;> simp
theorem Amid.stays {l : List Int} {t x : Int} {D : DataW Unit} {left : Lit → Bool} (h : Amid l t left D) (hx : t < x) : Amid l t (fun z => left z && !z.sameKey (.int .i64 x)) D := fun y => by
  rw [h y]
  by_cases e : y = x
  · subst e
    simp [hx]
  · simp [Lit.sameKey, e]
theorem Amid.goes {l : List Int} {t x : Int} {D : DataW Unit} {left : Lit → Bool} (h : Amid l t left D) (hx : ¬ t < x) : Amid l t (fun z => left z && !z.sameKey (.int .i64 x)) (D.del (.int .i64 x)) := fun y => by
  by_cases e : y = x
  · subst e
    rw [has_del_same]
    simp [hx, Lit.sameKey]
  · rw [has_del_other (lit_ne e), h y]
    simp [Lit.sameKey, e]
theorem Amid.all {l : List Int} {t : Int} {D : DataW Unit} {left : Lit → Bool} (h : Amid l t left D) (hl : ∀ k, left k = false) : ∀ x, Maps.has D (.int .i64 x) = decide (x ∈ l.filter (fun m => decide (t < m))) := fun x => by
  rw [h x, hl]
  by_cases h1 : x ∈ l <;> by_cases h2 : t < x <;> simp [h1, h2]

/-! ### Forget -/
set_option maxRecDepth 100000 in
set_option maxHeartbeats 2000000 in
/-- Nothing to forget. -/
theorem Forget_none (T : Value) (u t : Int) (w : World) (h : Calls Tryd.prog 25 #[T, .int .i64 u] w fun e w' => e = .returned (.map none) ∧ w' = w) :
    Calls Tryd.prog 10 #[T, .int .i64 u, .int .i64 t] w fun e w' => e = .returned (.tuple #[]) ∧ Below w.heap.size w w' := by
  have HC := hide h
  have hrg := run_range_nilMap (P := Tryd.prog) w 55 3 56 Tryd.underlying55
  have hnx : ∀ ty, (Instr.next (.pointer (some ⟨w.heap.size, 0, none⟩)) false ty).run Tryd.prog (w.alloc (.mapIter none 0 #[] 0)) = _ := fun ty => run_next_nilMap w ty 0 0 #[]
  have hq := neq_map Tryd.underlying55
  have HB := hide (show Below w.heap.size w (w.alloc (.mapIter none 0 #[] 0)) from (Below.refl _ _).alloc (Nat.le_refl _) _)
  clear h
  go_enter Tryd.func10, Tryd.ntmps10
  go_wp2_with fail
  refine HC.out.mono ?_
  rintro e w' ⟨rfl, rfl⟩
  clear HC
  go_wp2
  refine wp_loop_rounds 1 ?_
  rw [rounds_succ]
  go_wp2
  go_end0
  exact ⟨rfl, HB.out⟩
section
variable {p n : Nat} {mb : Option Nat} {F : Int → Option Nat} {A : Int → List Int} {w w' : World} {G : Nat → Prop}
set_option maxRecDepth 100000 in
set_option maxHeartbeats 4000000 in
theorem Forget_some (h : TblF p mb F A n w G) {u : Int} (hu : I64 u) (t : Int) {b : Nat} (hF : F u = some b) :
    Calls Tryd.prog 10 #[.pointer (some ⟨p, 0, none⟩), .int .i64 u, .int .i64 t] w fun e w' => e = .returned (.tuple #[]) ∧ After (tblT p (drop A u t) n) w G w' := by
  obtain ⟨bo, rfl⟩ : ∃ bo, mb = some bo := by
    cases mb with
    | none => have := h.bare rfl u; rw [hF] at this; cases this
    | some bo => exact ⟨bo, rfl⟩
  have hof := of_any h hu
  rw [hF] at hof
  have HC := hide hof
  obtain ⟨hb1, hb2, hb3, D0, hD0, hh0⟩ := h.inner u b hF
  have H := hide h
  have Hb3 := hide hb3
  have Hbl := hide (h.lt b hb1)
  have HF := hide hF
  have Hu := hide hu
  have HD := hide hD0
  have Hh := hide hh0
  have hq := neq_map Tryd.underlying55
  clear hof hb1 hb2 hb3 hD0 hh0 h hF hu
  go_enter Tryd.func10, Tryd.ntmps10
  go_wp2_with fail
  refine HC.out.mono ?_
  rintro e w' ⟨rfl, rfl⟩
  clear HC
  go_wp2_with (at_range; refine wpList_range_own _ rfl _ 55 rfl 3 56 int_key Tryd.underlying55 _ b n _ rfl HD.out ?_)
  intro w0 hrg0 hg0 hs0
  have HR0 := hide hrg0
  have HG0 := hide hg0
  clear hrg0 hg0 hs0
  go_wp2_with fail
  go_loopw [7] (fun _ wr => ∃ (D : DataW Unit) (left : Lit → Bool) (cnt : Nat), Hid (wr.ranges Tryd.prog 3 unitElem b w'.heap.size n D left cnt) ∧ Hid (Amid (A u) t left D) ∧ Hid (w'.grownBy wr (some b)))
    (fun _ wr => wr.rangeLeft b w'.heap.size)
  case atStart => exact ⟨_, _, _, HR0.out, Amid.start Hh.out, HG0.out.but _⟩
  case round =>
    obtain ⟨D, left, cnt, hrg, ham, hgw⟩ := hrel
    go_wp2_with (at_next; refine wpList_next_ranges _ rfl _ rfl 3 int_key unitElem encZ id (fun key kl hk => by obtain ⟨x, hx, _⟩ := Maps.keyOf_i64 Tryd.underlying3 hk; exact ⟨x, hx⟩) (fun v _ _ => ⟨v, rfl⟩) b w'.heap.size n _ _ _ rfl hrg.out ?_ ?_)
    · intro _ hl0
      have hown := hrg.out.owns
      have hall := ham.out.all hl0
      have hT := H.out.turn HF.out hgw.out ⟨D, hown, hall⟩
      have hz := size_zero hown hall
      have hlen := hown.len Tryd.underlying55
      have HT := hide hT
      have c0 := hT.1.cell
      have Hz := hide hz
      clear hown hall hT hz hrg ham hgw hl0
      by_cases h0 : Maps.size D = 0
      · rw [h0] at hlen
        obtain ⟨_, _, O, hO, hR⟩ := HT.out.1.outer bo rfl
        have HO := hide hO
        have HR := hide hR
        have hA : drop A u t u = [] := by
          have := Hz.out h0
          simp only [drop, if_true]
          exact this
        have HA := hide hA
        clear hO hR h0 hA
        go_wp2_with (at_delete; refine wpList_delete_own _ rfl _ _ 26 3 rfl 55 int_key Tryd.underlying26 _ bo n O rfl HO.out _ _ rfl (key_of Hu.out) ?_)
        intro w5 hO5 hturn
        obtain ⟨h5, k5⟩ := HT.out.1.strike HA.out HR.out hturn.grown hO5
        have HE : Hid (After (tblT p (drop A u t) n) w' G w5) := ⟨G, ⟨_, _, h5⟩, Grew.refl _ _, HT.out.2.trans (Grew.refl _ _) k5⟩
        clear hO5 hturn h5 k5
        go_wp2
        go_end0
        exact ⟨rfl, HE.out⟩
      · have h0i : ¬ (Maps.size D : Int) = 0 := by omega
        have h0b : ((Maps.size D : Int) == 0) = false := by simpa using h0i
        go_wp2
        go_end0
        exact ⟨rfl, G, ⟨_, _, HT.out.1⟩, Grew.refl _ _, HT.out.2⟩
    · intro x c kl yd yp w2 cnt2 hkey hlk hv hat hrg2 hlt hg2 hs2 hen
      obtain ⟨x', ex, rfl, hwx⟩ := Maps.keyOf_i64 Tryd.underlying3 hkey
      obtain rfl : x = x' := encZ_inj ex
      have hgw2 := hide (hgw.out.andThen hg2 (fun j hj => by cases hj; exact Or.inl (Nat.le_refl _)))
      have HK := hide hkey
      have HR2 := hide hrg2
      have Hlt := hide hlt
      clear hs2 hg2 hkey hv hat hwx hrg2 ex hlt hlk
      by_cases hx : t < x
      · have hx2 : ¬ x ≤ t := by omega
        have HS := hide (ham.out.stays hx)
        clear hx
        go_wp2
        go_roundw
        case rel => exact ⟨D, _, cnt2, HR2.out, HS.out, hgw2.out⟩
        case measure => rw [HR2.out.left_eq, hrg.out.left_eq]; exact Hlt.out
      · have hx2 : x ≤ t := by omega
        have HS := hide (ham.out.goes hx)
        clear hx
        go_wp2_with (at_delete; refine wpList_delete_ranges _ rfl _ _ 55 3 rfl 56 int_key Tryd.underlying55 _ b w'.heap.size n _ _ _ rfl HR2.out _ _ rfl HK.out ?_)
        intro w3 cnt3 hrg3 hle hturn
        have HR3 := hide hrg3
        have HG3 := hide (hgw2.out.andThen hturn.grown (fun j hj => by cases hj; exact Or.inr rfl))
        have Hle := hide hle
        clear hrg3 hturn hle
        go_wp2
        go_roundw
        case rel => exact ⟨_, _, cnt3, HR3.out, HS.out, HG3.out⟩
        case measure => rw [HR3.out.left_eq, hrg.out.left_eq]; have := Hle.out; have := Hlt.out; omega
theorem Forget_any (h : Tbl p A n w G) {u : Int} (hu : I64 u) (t : Int) :
    Calls Tryd.prog 10 #[.pointer (some ⟨p, 0, none⟩), .int .i64 u, .int .i64 t] w fun e w' => e = .returned (.tuple #[]) ∧ After (tblT p (drop A u t) n) w G w' := by
  obtain ⟨mb, F, h⟩ := h
  cases e : F u with
  | some b => exact Forget_some h hu t e
  | none =>
    have hof := of_any h hu
    rw [e] at hof
    have hA : drop A u t = A := funext fun v => by
      unfold drop
      by_cases hv : v = u
      · subst hv
        simp [h.lack v e]
      · simp [hv]
    rw [hA]
    exact (Forget_none _ u t w hof).mono fun e w' ⟨h1, h2⟩ => ⟨h1, G, ⟨mb, F, h.below h2⟩, Grew.refl _ _, Kept.of_below h2⟩
theorem Forget_nil (u t : Int) (w : World) : Calls Tryd.prog 10 #[.pointer none, .int .i64 u, .int .i64 t] w fun e w' => e = .returned (.tuple #[]) ∧ Below w.heap.size w w' := Forget_none _ u t w (of_nil u w)
end

end Go.Proofs.YtenenhhijkjjfaaDoor.Mk
