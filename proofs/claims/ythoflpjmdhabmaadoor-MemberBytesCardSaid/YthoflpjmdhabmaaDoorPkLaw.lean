/-
  What the statements on pack share: what is laid for a number and for a text, told by a name for its bytes; bytes appended to bytes; a reader of bytes. Contracts, each for every world.
-/
import Derived.Lib.MinMax
import Derived.Test.YthoflpjmdhabmaaDoorPkAwake
namespace Go.Proofs.YthoflpjmdhabmaaDoor.Pk
open Go.RowKit

theorem clamp_eq (n : Int) : max 0 (min n 1152921504606846975) = (clamp n : Int) := by unfold clamp; omega

/-- What is laid for a number behind nothing. -/
theorem num_told (n : Int) (w : World) : ∃ L : List UInt8, Hid (L = enc (clamp n)) ∧ 0 < L.length ∧ L.length ≤ 9 ∧
    Hid (Calls Tryd.prog 38 #[.slice none 0 0, .int .i64 n] w fun e w' => ∃ b o c, e = .returned (.slice (some ⟨b, o, none⟩) L.length c) ∧ L.length ≤ c ∧ c ≤ maxLen ∧ Byt w' w'.heap.size (some ⟨b, o, none⟩) L ∧ Below w.heap.size w w') := by
  have hN := Number_any none [] 0 n w Byt.nil (by simp)
  rw [List.nil_append] at hN
  have hp := enc_pos (clamp n)
  refine ⟨enc (clamp n), rfl, hp, enc_le _, hN.mono ?_⟩
  rintro e w' ⟨v, rfl, hown, hb⟩
  obtain ⟨A, c, rfl, h1, h2, h3⟩ := hown.form
  obtain ⟨b, o, rfl, _, _⟩ := h3 (by intro h; rw [h] at hp; simp at hp)
  exact ⟨b, o, c, rfl, h1, h2, h3, hb⟩

theorem Read_at (A : Option Addr) (l : List UInt8) (n c : Nat) (w : World) (hn : l.length = n) (hb : Byt w w.heap.size A l) (hl : n ≤ c) (hc : c ≤ maxLen) :
    Calls Tryd.prog 42 #[.slice A n c] w fun e w' =>
      e = .returned (.pointer (some ⟨w.heap.size, 0, none⟩)) ∧ Rd w' w.heap.size l 0 ∧ Below w.heap.size w w' := by
  subst hn
  exact Read_any A l c w hb hl hc

theorem Number_at (A : Option Addr) (l : List UInt8) (m c : Nat) (n : Int) (w : World) (hm : l.length = m) (hb : Byt w w.heap.size A l) (hl : m ≤ 35184372088832) :
    Calls Tryd.prog 38 #[.slice A m c, .int .i64 n] w fun e w' =>
      ∃ v', e = .returned v' ∧ Own w' w.heap.size v' (l ++ enc (clamp n)) ∧ Below w.heap.size w w' := by
  subst hm
  exact Number_any A l c n w hb hl

/-- append(b, k...), b a row of the call's own. -/
theorem wpList_join (w : World) {ops : Array Oper} {rest : List Oper} {o : Oper} {a : Act} {Q : Exit → Act → World → Prop} (hgd : o.guard = none) (s x : Operand)
    (ho : o.op = .call { callee := .builtin .append, args := #[s, x], argTypes := #[42, 42] }) (base : Nat) (v : Value) (l : List UInt8) (hs : a.eval s = v) (hown : Own w base v l)
    (b p m c B : Nat) (hx : a.eval x = .slice (some ⟨b, p, none⟩) m c) (k : List UInt8) (hk : k.length = m) (hb : Byt w B (some ⟨b, p, none⟩) k)
    (hsz : l.length + m ≤ 70368744177664) (hbase : base ≤ w.heap.size)
    (h : ∀ v' w', Own w' base v' (l ++ k) → w.grownBy w' v.ownBlock → wpList Tryd.prog ops Q rest (a.put o.dst v') w') : wpList Tryd.prog ops Q (o :: rest) a w := by
  obtain ⟨i0, hi, hz0, hz1, hz2⟩ := info_parts u8_info
  refine wpList_append_own w hgd s x 42 ho base 5 i0 (.int .u8 0) 1 1 Tryd.underlying42 hi hz0 hz1 hz2 rfl (by decide) v l.length (cels l) hs hown ⟨b, p, none⟩ m c (cels k) hx (by rw [cels_length]; omega) ?_ (cels_one k) (by unfold maxLen; omega) (by omega) hbase ?_
  · intro j u hu
    obtain ⟨y, hy, rfl⟩ := cels_get k j u hu
    rw [Addr.add_lit]
    exact hb.at_ j y hy
  · intro v' w' h1 h2 _
    refine h v' w' ?_ h2
    unfold Own
    rw [cels_append, List.length_append, hk]
    exact h1

/-- What an append to a row of the call's own leaves below it. -/
theorem own_below {w w' : World} {base : Nat} {v : Value} {l : List UInt8} (hown : Own w base v l) (hg : w.grownBy w' v.ownBlock) (hbase : base ≤ w.heap.size) : Below base w w' :=
  (Below.refl _ _).grown hg hbase (fun k hk => (World.ownsRow.lt hown k hk).1)

theorem own_empty (w : World) : Own (w.alloc (.cells #[] 5)) w.heap.size (.slice (some ⟨w.heap.size, 0, none⟩) 0 0) [] :=
  World.ownsRow_lit w #[] 0 (Nat.le_refl _) (by unfold maxLen; omega) rfl

theorem rtext_enc (s r : List UInt8) (most : Int) (hm : (s.length : Int) ≤ most) (hs : s.length < 1152921504606846976) : rtext (enc s.length ++ s ++ r) 0 most = (s, r, 0) := by
  have hr := rnum_enc s.length (s ++ r) hs
  unfold rtext
  rw [List.append_assoc, hr]
  have h2 : ¬ most < (s.length : Int) := by omega
  simp [h2]

end Go.Proofs.YthoflpjmdhabmaaDoor.Pk
