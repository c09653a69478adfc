/-
  Bytes appended to a row of the call's own; what an append leaves below it; Open of any bytes, told by one form. Plain theorems and contracts, for every world.
-/
import Derived.Test.YtnmpckhlpkmojaaGreatDoorSmAwake
namespace Go.Proofs.YtnmpckhlpkmojaaGreatDoor.Sm
open Go.RowKit
open Pk

theorem byt_at {w : World} {B b o : Nat} {l : List UInt8} (h : Byt w B (some ⟨b, o, none⟩) l) (j : Nat) (u : UInt8) (hu : l[j]? = some u) : w.cell? ⟨b, o + j, none⟩ = some (cel u) := by
  have hne : l ≠ [] := by rintro rfl; simp at hu
  obtain ⟨b', o', e, _, hc⟩ := h hne
  simp only [Option.some.injEq, Addr.mk.injEq, and_true] at e
  obtain ⟨rfl, rfl⟩ := e
  exact hc j u hu

/-- append(b, k...), b a row of the call's own. -/
theorem wpList_join (w : World) {ops : Array Oper} {rest : List Oper} {o : Oper} {a : Act} {Q : Exit → Act → World → Prop} (hgd : o.guard = none) (s x : Operand)
    (ho : o.op = .call { callee := .builtin .append, args := #[s, x], argTypes := #[60, 60] }) (base : Nat) (v : Value) (l : List UInt8) (hs : a.eval s = v) (hown : Own w base v l)
    (b p m c B : Nat) (hx : a.eval x = .slice (some ⟨b, p, none⟩) m c) (k : List UInt8) (hk : k.length = m) (hb : Byt w B (some ⟨b, p, none⟩) k)
    (hsz : l.length + m ≤ 70368744177664) (hbase : base ≤ w.heap.size)
    (h : ∀ v' w', Own w' base v' (l ++ k) → w.grownBy w' v.ownBlock → wpList Tryz.prog ops Q rest (a.put o.dst v') w') : wpList Tryz.prog ops Q (o :: rest) a w := by
  obtain ⟨i0, hi, hz0, hz1, hz2⟩ := info_parts u8_info
  refine wpList_append_own w hgd s x 60 ho base 5 i0 (.int .u8 0) 1 1 Tryz.underlying60 hi hz0 hz1 hz2 rfl (by decide) v l.length (cels l) hs hown ⟨b, p, none⟩ m c (cels k) hx (by rw [cels_length]; omega) ?_ (cels_one k) (by unfold maxLen; omega) (by omega) hbase ?_
  · intro j u hu
    obtain ⟨y, hy, rfl⟩ := cels_get k j u hu
    rw [Addr.add_lit]
    exact byt_at hb j y hy
  · intro v' w' h1 h2 _
    refine h v' w' ?_ h2
    unfold Own
    rw [cels_append, List.length_append, hk]
    exact h1

/-- What an append to a row of the call's own leaves below it. -/
theorem own_below {w w' : World} {base : Nat} {v : Value} {l : List UInt8} (hown : Own w base v l) (hg : w.grownBy w' v.ownBlock) (hbase : base ≤ w.heap.size) : Below base w w' :=
  (Below.refl _ _).grown hg hbase (fun k hk => (World.ownsRow.lt hown k hk).1)

theorem own_empty (w : World) : Own (w.alloc (.cells #[] 5)) w.heap.size (.slice (some ⟨w.heap.size, 0, none⟩) 0 0) [] :=
  World.ownsRow_lit w #[] 0 (Nat.le_refl _) (by unfold maxLen; omega) rfl

/-- Open of any bytes: what is opened has four bytes fewer. -/
theorem Open_len (A : Option Addr) (n c : Nat) (l : List UInt8) (w : World) (hn : l.length = n) (hc : n ≤ c) (hl : n ≤ 1000000) (hb : Byt w w.heap.size A l) (ht : Tab w) :
    Calls Tryz.prog 66 #[.slice A n c] w fun e w' => ∃ A' k ok m, e = .returned (.tuple #[.slice A' k k, .bool ok]) ∧ m.length = k ∧ Byt w' w'.heap.size A' m ∧ (ok = true → k + 4 = n) ∧ Below w.heap.size w w' := by
  by_cases h : ∃ m, l = seal4 m
  · obtain ⟨m, rfl⟩ := h
    have hlen := seal4_length m
    refine (Open_good A n c m.length m w rfl (by omega) hc hl hb ht).mono ?_
    rintro e w' ⟨b1, o1, rfl, h1, h2⟩
    exact ⟨_, _, true, m, rfl, rfl, h1, fun _ => by omega, h2⟩
  · refine (Open_bad A n c l w hn hc hl hb ht (fun m e => h ⟨m, e⟩)).mono ?_
    rintro e w' ⟨rfl, h2⟩
    exact ⟨none, 0, false, [], rfl, rfl, Byt.nil, (fun h => by cases h), h2⟩

/-- Strings of unlike lengths. -/
theorem str_unlike (m : List UInt8) (s : ByteArray) (h : m.length ≠ s.size) : ((str m).toList == s.toList) = false := by
  have e := str_same m s.data.toList
  rw [str_of] at e
  have : m ≠ s.data.toList := by rintro rfl; exact h (size_eq s)
  rw [e, decide_eq_false this]
theorem str_like (m : List UInt8) (s : ByteArray) (h : m = s.data.toList) : ((str m).toList == s.toList) = true := by
  have e := str_same m s.data.toList
  rw [str_of] at e
  rw [e]
  exact decide_eq_true h

end Go.Proofs.YtnmpckhlpkmojaaGreatDoor.Sm
