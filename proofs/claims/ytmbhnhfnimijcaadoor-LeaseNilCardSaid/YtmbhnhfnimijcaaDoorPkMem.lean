/-
  Words for memory, of no function yet: a slice of bytes that reads as a list, a row of bytes that the call itself made, a reader's block; how each is kept while other blocks change. Plain theorems, no premise beyond those in each.
-/
import Derived.WalkKit
import Derived.WalkSpells
import Derived.WalkLawsBesides
import Derived.Laws.CopyOwn
import Derived.Lib.AppendStr
import Derived.Maps.AppendAt
import Derived.Laws.BytesArg
import Derived.Laws.BitsAllLaws
import Derived.Laws.BitsLemmas
import Derived.Test.YtmbhnhfnimijcaaDoorChecked
import Derived.Test.YtmbhnhfnimijcaaDoorPkMath
namespace Go.Proofs.YtmbhnhfnimijcaaDoor.Pk
open Go.RowKit

theorem hide {p : Prop} (h : p) : Hid p := h

/-- A byte's cell, and those of many. -/
def cel (b : UInt8) : Value := .int .u8 (b.toNat : Int)
def cels (l : List UInt8) : List Value := l.map cel

theorem cels_length (l : List UInt8) : (cels l).length = l.length := by simp [cels]
theorem cels_append (l m : List UInt8) : cels (l ++ m) = cels l ++ cels m := by simp [cels]
theorem cels_one (l : List UInt8) : ∀ u ∈ cels l, u.oneCell' = true := by
  intro u hu
  simp only [cels, List.mem_map] at hu
  obtain ⟨b, _, rfl⟩ := hu
  rfl
theorem cels_get (l : List UInt8) (j : Nat) (u : Value) (h : (cels l)[j]? = some u) : ∃ b, l[j]? = some b ∧ u = cel b := by
  simp only [cels, List.getElem?_map, Option.map_eq_some_iff] at h
  obtain ⟨b, h1, h2⟩ := h
  exact ⟨b, h1, h2.symm⟩
theorem strCells_eq (s : ByteArray) : Lib.strCells s = cels s.data.toList := rfl

/-- The bytes l lie where a slice's address leads, below block B. -/
def Byt (w : World) (B : Nat) (A : Option Addr) (l : List UInt8) : Prop :=
  l ≠ [] → ∃ b o, A = some ⟨b, o, none⟩ ∧ b < B ∧ ∀ j u, l[j]? = some u → w.cell? ⟨b, o + j, none⟩ = some (cel u)

section
variable {w w' : World} {B B' : Nat} {A : Option Addr} {l : List UInt8}
theorem Byt.nil : Byt w B A [] := fun h => absurd rfl h
theorem Byt.keep (h : Byt w B A l) (hk : ∀ p : Addr, p.block < B → w'.cell? p = w.cell? p) : Byt w' B A l := fun hn => by
  obtain ⟨b, o, e, hb, hc⟩ := h hn
  exact ⟨b, o, e, hb, fun j u hu => (hk ⟨b, o + j, none⟩ hb).trans (hc j u hu)⟩
theorem Byt.below (h : Byt w B A l) (hb : Below B w w') : Byt w' B A l := h.keep fun _ hp => hb.cell hp
theorem Byt.more (h : Byt w B A l) (hB : B ≤ B') : Byt w B' A l := fun hn => by
  obtain ⟨b, o, e, hb, hc⟩ := h hn
  exact ⟨b, o, e, by omega, hc⟩
/-- s[k:] -/
theorem Byt.drop {b o k c : Nat} (h : Byt w B (some ⟨b, o, none⟩) l) (hk : k ≤ l.length) (hc : l.length ≤ c) :
    Byt w B (if c = k then some ⟨b, o, none⟩ else some ⟨b, o + k, none⟩) (l.drop k) := fun hn => by
  have hlt : k < l.length := by
    rcases Nat.lt_or_ge k l.length with h1 | h1
    · exact h1
    · exact absurd (List.drop_eq_nil_of_le h1) hn
  have hne : l ≠ [] := by rintro rfl; simp at hlt
  obtain ⟨b', o', e, hb, hcell⟩ := h hne
  simp only [Option.some.injEq, Addr.mk.injEq, and_true] at e
  obtain ⟨rfl, rfl⟩ := e
  rw [if_neg (by omega)]
  refine ⟨b, o + k, rfl, hb, fun j u hu => ?_⟩
  rw [List.getElem?_drop] at hu
  rw [Nat.add_assoc]
  exact hcell _ u hu
/-- s[:k] -/
theorem Byt.take (h : Byt w B A l) (k : Nat) : Byt w B A (l.take k) := fun hn => by
  have hne : l ≠ [] := by rintro rfl; simp at hn
  obtain ⟨b, o, e, hb, hc⟩ := h hne
  refine ⟨b, o, e, hb, fun j u hu => hc j u ?_⟩
  rw [List.getElem?_take] at hu
  split at hu
  · exact hu
  · cases hu
end

/-- A row of bytes of the call's own, from block 'base' on. -/
def Own (w : World) (base : Nat) (v : Value) (l : List UInt8) : Prop := w.ownsRow base 5 1 v l.length (cels l)

theorem Own.form {w : World} {base : Nat} {v : Value} {l : List UInt8} (h : Own w base v l) :
    ∃ A c, v = .slice A l.length c ∧ l.length ≤ c ∧ c ≤ maxLen ∧ Byt w w.heap.size A l := by
  rcases h.2 with ⟨rfl, h0⟩ | ⟨g, cap, cur, rfl, hb, hg, hn, hm, hs, htk⟩
  · exact ⟨none, 0, by rw [h0], by omega, by unfold maxLen; omega, fun hne => absurd (List.eq_nil_of_length_eq_zero h0) hne⟩
  · refine ⟨_, cap, rfl, hn, hm, fun _ => ⟨g, 0, rfl, (Array.getElem?_eq_some_iff.1 hg).1, fun j u hu => ?_⟩⟩
    have hj : j < l.length := (List.getElem?_eq_some_iff.1 hu).1
    rw [Nat.zero_add, World.ownsRow.cellAt h j (by omega)]
    simp [cels, hu]

theorem Own.alloc {w : World} {base : Nat} {v : Value} {l : List UInt8} (h : Own w base v l) (o : Obj) : Own (w.alloc o) base v l := World.ownsRow.alloc h o

theorem u8_info : (Tryd.prog.info? 5).map (fun i => (i.zero, i.size, i.bytes)) = some (some (.int .u8 0), 1, 1) := by kernel_rfl

end Go.Proofs.YtmbhnhfnimijcaaDoor.Pk
