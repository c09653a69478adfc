/-
  Several disks side by side: whose block is whose; what a call on one disk leaves of the others. Plain theorems, no premise beyond those in each.
-/
import Derived.Test.YthdgidfdjnfpiaaDoorDkNew
namespace Go.Proofs.YthdgidfdjnfpiaaDoor.Dk
open Go.RowKit
open Pk Sm Fa

theorem Dsk.congr {w : World} {G G' : Nat → Prop} {p : Nat} {S : List Sec} {L : List Wr} (h : Dsk w G p S L) (hG : ∀ k, G k ↔ G' k) : Dsk w G' p S L := by
  have : G = G' := funext fun k => propext (hG k)
  exact this ▸ h

/-- Disk number i, whose blocks are those that C gives to i. -/
def At (C : Nat → Option Nat) (w : World) (i p : Nat) (S : List Sec) (L : List Wr) : Prop := Dsk w (fun k => C k = some i) p S L
/-- All blocks that are given away lie from B on. -/
def From (C : Nat → Option Nat) (B : Nat) : Prop := ∀ k i, C k = some i → B ≤ k
/-- What else was there is kept: the disks but i, and all blocks that are not i's. -/
def Others (C C' : Nat → Option Nat) (i : Nat) (w w' : World) : Prop := ∀ j q T M, j ≠ i → At C w j q T M → At C' w' j q T M

theorem At.below {C : Nat → Option Nat} {w w' : World} {i p : Nat} {S : List Sec} {L : List Wr} (h : At C w i p S L) (hb : Below w.heap.size w w') : At C w' i p S L := Dsk.below h hb

open Classical in
theorem At.step {C : Nat → Option Nat} {w w' : World} {i p B : Nat} {S : List Sec} {L : List Wr} (h : Post w (fun k => C k = some i) p S L w') (hF : From C B) (hB : B ≤ w.heap.size) :
    ∃ C', At C' w' i p S L ∧ Others C C' i w w' ∧ From C' B ∧ Below B w w' ∧ Kept (fun k => C k = some i) w w' := by
  obtain ⟨G', hd, hg, hk⟩ := h
  refine ⟨fun k => if G' k then some i else if C k = some i then none else C k, hd.congr fun k => ?_, ?_, ?_, hk.below (fun k hk => hF k i hk) hB, hk⟩
  · by_cases h1 : G' k
    · simp [h1]
    · by_cases h2 : C k = some i
      · simp [h1, h2]
      · simp [h1, h2]
  · intro j q T M hj hq
    refine (Dsk.kept hq hk fun k h1 h2 => hj (Option.some.inj (h1.symm.trans h2))).congr fun k => ?_
    have hne : (some j : Option Nat) ≠ some i := fun e => hj (Option.some.inj e)
    by_cases h1 : G' k
    · have h3 : ¬ C k = some j := fun h3 => by
        rcases hg k h1 with h4 | h4
        · exact hne (h3.symm.trans h4)
        · have := Dsk.lt hq k h3
          omega
      simp [h1, h3, Ne.symm hj]
    · by_cases h2 : C k = some i
      · simp [h1, h2, Ne.symm hj]
      · simp [h1, h2]
  · intro k j hkj
    by_cases h1 : G' k
    · exact (hg.from (fun k hk => hF k i hk) hB) k h1
    · by_cases h2 : C k = some i
      · simp [h1, h2] at hkj
      · simp only [h1, h2, if_false] at hkj
        exact hF k j hkj

open Classical in
theorem At.fresh {C : Nat → Option Nat} {w w' : World} {i n B : Nat} {e : Ending} (h : Made w n e w') (hi : ∀ k, C k ≠ some i) (hF : From C B) (hB : B ≤ w.heap.size) :
    ∃ p C', e = .returned (.pointer (some ⟨p, 0, none⟩)) ∧ At C' w' i p (List.replicate n zero) [] ∧ Others C C' i w w' ∧ From C' B ∧ Below w.heap.size w w' ∧ (∀ k j, C' k = some j → j = i ∨ C k = some j) := by
  obtain ⟨p, G, he, hd, hG, hb⟩ := h
  refine ⟨p, fun k => if G k then some i else C k, he, hd.congr fun k => ?_, ?_, ?_, hb, ?_⟩
  · by_cases h1 : G k
    · simp [h1]
    · simp [h1, hi k]
  · intro j q T M hj hq
    refine (Dsk.below hq hb).congr fun k => ?_
    by_cases h1 : G k
    · have h3 : ¬ C k = some j := fun h3 => by have := Dsk.lt hq k h3; have := hG k h1; omega
      simp [h1, h3, Ne.symm hj]
    · simp [h1]
  · intro k j hkj
    by_cases h1 : G k
    · have := hG k h1
      omega
    · simp only [h1, if_false] at hkj
      exact hF k j hkj
  · intro k j hkj
    by_cases h1 : G k
    · simp only [h1, if_true] at hkj
      exact Or.inl (Option.some.inj hkj).symm
    · simp only [h1, if_false] at hkj
      exact Or.inr hkj

/-- No disk yet. -/
def none0 : Nat → Option Nat := fun _ => none
theorem none0_ne (i k : Nat) : none0 k ≠ some i := fun h => by cases h
theorem none0_from (B : Nat) : From none0 B := fun _ _ h => by cases h

end Go.Proofs.YthdgidfdjnfpiaaDoor.Dk
