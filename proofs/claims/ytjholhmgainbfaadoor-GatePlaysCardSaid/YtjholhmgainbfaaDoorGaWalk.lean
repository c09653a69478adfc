/-
  A gate that a statement made, and what its calls leave, one contract for each call. Nothing that was there before it is changed.
-/
import Derived.Test.YtjholhmgainbfaaDoorGaOp
namespace Go.Proofs.YtjholhmgainbfaaDoor.Ga
open Go.RowKit
open Pk Dk

/-- The gate was made since w0; all that was there is as it was. -/
structure GW (w0 : World) (g : Nat) (a l : Int) (Q : List Cl) (n : Nat) (w : World) : Prop where
  gate : Gt w g a l Q n
  bel : Below w0.heap.size w0 w
  new : w0.heap.size ≤ g
section
variable {w0 w w' : World} {g n n' : Nat} {a l a' l' : Int} {Q Q' : List Cl}
theorem GW.step (h : GW w0 g a l Q n w) (p : GP w g a' l' Q' n' w') : GW w0 g a' l' Q' n' w' := ⟨p.gate, h.bel.trans (p.below h.new h.bel.size), h.new⟩
theorem GW.below (h : GW w0 g a l Q n w) (hb : Below w.heap.size w w') : GW w0 g a l Q n w' := ⟨h.gate.below hb, h.bel.trans (hb.mono h.bel.size), h.new⟩
theorem GW.drew (h : GW w0 g a l Q n w) : GW w0 g a l Q n w.drew := h.below (Below.refl _ _).drew
theorem GW.start (w : World) : Calls Tryd.prog 8 #[] w fun e w' => ∃ g, e = .returned (.pointer (some ⟨g, 0, none⟩)) ∧ GW w g 0 0 noQ 0 w' :=
  (New_any w).mono fun _ _ ⟨g, he, hg, hl, hb⟩ => ⟨g, he, hg, hb, hl⟩

/-- When Freeze refuses. -/
def NoFreeze (a l r t : Int) : Prop := r < 1 ∨ t < 1 ∨ (r ≠ rnd a l ∧ r ≤ a)
/-- The number that it then returns. -/
def fzn (r t : Int) : Int := if r < 1 ∨ t < 1 then 1 else 10
theorem GW.freeze (h : GW w0 g a l Q n w) (r t : Int) (hr64 : r ≤ 9223372036854775807) (ht64 : t ≤ 9223372036854775807) :
    Calls Tryd.prog 9 #[.pointer (some ⟨g, 0, none⟩), .int .i64 r, .int .i64 t] w fun e w' =>
      (e = .returned .nilIface ∧ (¬ NoFreeze a l r t ∧ 1 ≤ r ∧ 1 ≤ t) ∧ GW w0 g r t Q n w') ∨ ∃ p, e = .returned (.iface 72 (.pointer (some ⟨p, 0, none⟩))) ∧ NoFreeze a l r t ∧ Flt w' p r (fzn r t) ∧ GW w0 g a l Q n w' := by
  by_cases h1 : r < 1 ∨ t < 1
  · refine (Freeze_arg (g := g) r t w h1).mono ?_
    rintro e w' ⟨p, rfl, hf⟩
    refine Or.inr ⟨p, rfl, ?_, ?_, h.below hf.2⟩
    · unfold NoFreeze; omega
    · unfold fzn; rw [if_pos h1]; exact hf.1
  · by_cases h2 : r ≠ rnd a l ∧ r ≤ a
    · refine (Freeze_stale h.gate r t (by omega) (by omega) h2.1 h2.2).mono ?_
      rintro e w' ⟨p, rfl, hf⟩
      refine Or.inr ⟨p, rfl, Or.inr (Or.inr h2), ?_, h.below hf.2⟩
      unfold fzn; rw [if_neg h1]; exact hf.1
    · refine (Freeze_ok h.gate r t (by omega) (by omega) hr64 ht64 (by omega)).mono ?_
      rintro e w' ⟨rfl, hp⟩
      refine Or.inl ⟨rfl, ⟨?_, by omega, by omega⟩, h.step hp⟩
      unfold NoFreeze
      omega
/-- Freeze, where its error is not looked at. -/
theorem GW.freeze' (h : GW w0 g a l Q n w) (r t : Int) (hr64 : r ≤ 9223372036854775807) (ht64 : t ≤ 9223372036854775807) :
    Calls Tryd.prog 9 #[.pointer (some ⟨g, 0, none⟩), .int .i64 r, .int .i64 t] w fun e w' => ∃ v a' l', e = .returned v ∧ GW w0 g a' l' Q n w' := by
  refine (h.freeze r t hr64 ht64).mono ?_
  rintro e w' (⟨rfl, _, hg⟩ | ⟨p, rfl, _, _, hg⟩)
  · exact ⟨_, _, _, rfl, hg⟩
  · exact ⟨_, _, _, rfl, hg⟩

theorem GW.frozen (h : GW w0 g a l Q n w) : Calls Tryd.prog 22 #[.pointer (some ⟨g, 0, none⟩)] w fun e w' => e = .returned (.int .i64 (rnd a l)) ∧ w = w' := Frozen_any h.gate
theorem GW.waiting (h : GW w0 g a l Q n w) : Calls Tryd.prog 23 #[.pointer (some ⟨g, 0, none⟩)] w fun e w' => e = .returned (.int .i64 (n : Int)) ∧ w = w' := Waiting_any h.gate
theorem rnd_on (h : GW w0 g a l Q n w) : rnd a l = 0 ↔ l = 0 := by
  unfold rnd
  split
  · rename_i h0; simp [h0]
  · rename_i h0
    have := h.gate.on h0
    omega

/-- What a tick leaves: the calls that it lets pass, the ticks, the queue, how many wait. -/
def ticked (l : Int) (Q : List Cl) (n : Nat) : List Cl × Int × List Cl × Nat := if l = 1 then (Q.take n, 0, noQ, 0) else (([] : List Cl), if l = 0 then 0 else l - 1, Q, n)
theorem GW.tick (h : GW w0 g a l Q n w) : Calls Tryd.prog 17 #[.pointer (some ⟨g, 0, none⟩)] w fun e w' => ∃ v, e = .returned v ∧ Rowq w' w.heap.size v (ticked l Q n).1 ∧ GW w0 g a (ticked l Q n).2.1 (ticked l Q n).2.2.1 (ticked l Q n).2.2.2 w' := by
  unfold ticked
  by_cases h0 : l = 0
  · subst h0
    refine (Tick_open h.gate).mono ?_
    rintro e w' ⟨rfl, rfl⟩
    exact ⟨_, rfl, Rowq.nil _ _, h⟩
  · by_cases h1 : l = 1
    · subst h1
      refine (Tick_last h.gate).mono ?_
      rintro e w' ⟨v, rfl, hr, hp⟩
      exact ⟨_, rfl, hr, h.step hp⟩
    · rw [if_neg h1, if_neg h0]
      have := h.gate.l0
      refine (Tick_less h.gate (by omega)).mono ?_
      rintro e w' ⟨rfl, hp⟩
      exact ⟨_, rfl, Rowq.nil _ _, h.step hp⟩

/-- Thaw: the calls that waited, or none and an error. -/
theorem GW.thaw (h : GW w0 g a l Q n w) (r : Int) :
    Calls Tryd.prog 11 #[.pointer (some ⟨g, 0, none⟩), .int .i64 r] w fun e w' =>
      (∃ v, e = .returned (.tuple #[v, .nilIface]) ∧ (l ≠ 0 ∧ r = a) ∧ Rowq w' w.heap.size v (Q.take n) ∧ GW w0 g a 0 noQ 0 w') ∨
      ∃ p, e = .returned (.tuple #[.slice none 0 0, .iface 72 (.pointer (some ⟨p, 0, none⟩))]) ∧ (l = 0 ∨ r ≠ a) ∧ Flt w' p r 9 ∧ GW w0 g a l Q n w' := by
  by_cases h0 : l ≠ 0 ∧ r = a
  · obtain ⟨hl, rfl⟩ := h0
    refine (Thaw_ok h.gate hl).mono ?_
    rintro e w' ⟨v, rfl, hr, hp⟩
    exact Or.inl ⟨_, rfl, ⟨hl, rfl⟩, hr, h.step hp⟩
  · refine (Thaw_bad h.gate r ?_).mono ?_
    · unfold rnd
      split
      · exact Or.inl rfl
      · rename_i hl
        exact Or.inr fun e => h0 ⟨hl, e.symm⟩
    · rintro e w' ⟨p, rfl, hf⟩
      exact Or.inr ⟨p, rfl, by omega, hf.1, h.below hf.2⟩
/-- Thaw, where its error is not looked at. -/
theorem GW.thaw' (h : GW w0 g a l Q n w) (r : Int) :
    Calls Tryd.prog 11 #[.pointer (some ⟨g, 0, none⟩), .int .i64 r] w fun e w' => ∃ v x l' Q' n', e = .returned (.tuple #[v, x]) ∧ Rowq w' w.heap.size v (if l ≠ 0 ∧ r = a then Q.take n else []) ∧ (l', Q', n') = (if l ≠ 0 ∧ r = a then (0, noQ, 0) else (l, Q, n)) ∧ GW w0 g a l' Q' n' w' := by
  refine (h.thaw r).mono ?_
  rintro e w' (⟨v, rfl, hc, hr, hg⟩ | ⟨p, rfl, hc, _, hg⟩)
  · exact ⟨_, _, 0, noQ, 0, rfl, by rw [if_pos hc]; exact hr, by rw [if_pos hc], hg⟩
  · have hn : ¬ (l ≠ 0 ∧ r = a) := by omega
    exact ⟨_, _, l, Q, n, rfl, by rw [if_neg hn]; exact Rowq.nil _ _, by rw [if_neg hn], hg⟩
theorem GW.enter0 (h : GW w0 g a 0 Q n w) (c : Cl) : Calls Tryd.prog 15 #[.pointer (some ⟨g, 0, none⟩), cl3 c] w fun e w' => e = .returned (.tuple #[.bool true, .nilIface]) ∧ GW w0 g a 0 Q n w' :=
  (Enter_open h.gate c).mono fun _ _ ⟨he, hb⟩ => ⟨he, h.below hb⟩
theorem GW.enter4 (h : GW w0 g a l Q 4 w) (c : Cl) : Calls Tryd.prog 15 #[.pointer (some ⟨g, 0, none⟩), cl3 c] w fun e w' => ∃ p, e = .returned (.tuple #[.bool false, .iface 72 (.pointer (some ⟨p, 0, none⟩))]) ∧ Flt w' p a 7 ∧ GW w0 g a l Q 4 w' :=
  (Enter_full h.gate c).mono fun _ _ ⟨p, he, hf⟩ => ⟨p, he, hf.1, h.below hf.2⟩
theorem GW.enter (h : GW w0 g a l Q n w) (hl : l ≠ 0) (hn : n < 4) (c : Cl) : Calls Tryd.prog 15 #[.pointer (some ⟨g, 0, none⟩), cl3 c] w fun e w' => e = .returned (.tuple #[.bool false, .nilIface]) ∧ GW w0 g a l (Q.set n c) (n + 1) w' :=
  (Enter_in h.gate hl hn c).mono fun _ _ ⟨he, hp⟩ => ⟨he, h.step hp⟩
/-- Freeze, where it is known what it does. -/
theorem GW.freezeY (h : GW w0 g a l Q n w) (r t : Int) (hr64 : r ≤ 9223372036854775807) (ht64 : t ≤ 9223372036854775807) (hy : ¬ NoFreeze a l r t) :
    Calls Tryd.prog 9 #[.pointer (some ⟨g, 0, none⟩), .int .i64 r, .int .i64 t] w fun e w' => e = .returned .nilIface ∧ GW w0 g r t Q n w' := by
  refine (h.freeze r t hr64 ht64).mono ?_
  rintro e w' (⟨rfl, _, hg⟩ | ⟨p, rfl, hn, _⟩)
  · exact ⟨rfl, hg⟩
  · exact absurd hn hy
theorem GW.freezeN (h : GW w0 g a l Q n w) (r t : Int) (hr64 : r ≤ 9223372036854775807) (ht64 : t ≤ 9223372036854775807) (hy : NoFreeze a l r t) :
    Calls Tryd.prog 9 #[.pointer (some ⟨g, 0, none⟩), .int .i64 r, .int .i64 t] w fun e w' => ∃ p, e = .returned (.iface 72 (.pointer (some ⟨p, 0, none⟩))) ∧ Flt w' p r (fzn r t) ∧ GW w0 g a l Q n w' := by
  refine (h.freeze r t hr64 ht64).mono ?_
  rintro e w' (⟨rfl, hn, _⟩ | ⟨p, rfl, _, hf, hg⟩)
  · exact absurd hy hn.1
  · exact ⟨p, rfl, hf, hg⟩
/-- What is frozen for is never smaller than before. -/
theorem GW.rise (h : GW w0 g a l Q n w) {r t : Int} (hy : ¬ NoFreeze a l r t) : ¬ r < a := by
  unfold NoFreeze rnd at hy
  have := h.gate.a0
  split at hy <;> omega
/-- Enter, where what it returns is not looked at. -/
theorem GW.enter' (h : GW w0 g a l Q n w) (hl : l ≠ 0) (c : Cl) : Calls Tryd.prog 15 #[.pointer (some ⟨g, 0, none⟩), cl3 c] w fun e w' => ∃ v x Q' n', e = .returned (.tuple #[v, x]) ∧ GW w0 g a l Q' n' w' := by
  by_cases h4 : n = 4
  · subst h4
    refine (h.enter4 c).mono ?_
    rintro e w' ⟨p, rfl, _, hg⟩
    exact ⟨_, _, _, _, rfl, hg⟩
  · have := h.gate.few
    refine (h.enter hl (by omega) c).mono ?_
    rintro e w' ⟨rfl, hg⟩
    exact ⟨_, _, _, _, rfl, hg⟩
/-- A tick of a frozen gate, where what it returns is not looked at. -/
theorem GW.tick' (h : GW w0 g a l Q n w) (hl : l ≠ 0) : Calls Tryd.prog 17 #[.pointer (some ⟨g, 0, none⟩)] w fun e w' => ∃ v Q' n', e = .returned v ∧ GW w0 g a (l - 1) Q' n' w' := by
  refine h.tick.mono ?_
  rintro e w' ⟨v, rfl, _, hg⟩
  unfold ticked at hg
  by_cases h1 : l = 1
  · rw [if_pos h1] at hg
    exact ⟨_, _, _, rfl, by rw [h1]; exact hg⟩
  · rw [if_neg h1] at hg
    simp only [if_neg hl] at hg
    exact ⟨_, _, _, rfl, hg⟩
end

end Go.Proofs.YtjholhmgainbfaaDoor.Ga
