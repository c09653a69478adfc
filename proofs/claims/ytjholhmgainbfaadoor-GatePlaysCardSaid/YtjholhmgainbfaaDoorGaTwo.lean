/-
  Both gates side by side, and what each call leaves. Nothing that was there before them is changed. Condition: the library's variable errors.errorType holds what the program's own text lays (where an error is looked at).
-/
import Derived.Deep.WholeRow
import Derived.Test.YtjholhmgainbfaaDoorGaErr
import Derived.Test.YtjholhmgainbfaaDoorGaSame
namespace Go.Proofs.YtjholhmgainbfaaDoor.Ga
open Go.RowKit
open Pk Sm Fa Dk

/-- A new variable of zeros, the world behind it under a name of its own. -/
theorem wpList_alloc_told {P : Program} {ops : Array Oper} {rest : List Oper} {o : Oper} {a : Act} {w : World} {Q : Exit → Act → World → Prop} (hg : o.guard = none) (t : TypeId) (ho : o.op = .alloc t)
    (z : Array Value) (hz : (P.info? t).map (·.zero) = some (some (.agg z)))
    (h : ∀ w', Hid (w' = w.alloc (.cells z t)) → wpList P ops Q rest (a.put o.dst (.pointer (some ⟨w.heap.size, 0, none⟩))) w') : wpList P ops Q (o :: rest) a w := by
  refine wpList_plain hg fun K hK => ?_
  cases hq : P.info? t with
  | none => simp [hq] at hz
  | some i =>
    have hz' : i.zero = some (.agg z) := by simpa [hq] using hz
    have hrun : (zeroValue t).run P w = .ok (.agg z) w := by simp [zeroValue, typeInfo, hq, hz']
    unfold Oper.wp execOp
    simp only [ho, Sem.run_bind, Instr.alloc, newVar, newRow, run_newObj_alloc, Sem.run_pure, Result.andThen_ok, hrun, Value.cells]
    exact hK _ _ (h _ rfl)
/-- A whole block written anew, likewise. -/
theorem wpList_store_told {P : Program} {ops : Array Oper} {rest : List Oper} {o : Oper} {a : Act} {w : World} {Q : Exit → Act → World → Prop} (hg : o.guard = none) (ty : TypeId) (x y : Operand) (ho : o.op = .store ty x y)
    (b : Nat) (cs : Array Value) (hx : a.eval x = .pointer (some ⟨b, 0, none⟩)) (hy : a.eval y = .agg cs) (old : Array Value) (hb : w.heap[b]? = some (.cells old ty (0, 0)))
    (hi : (P.info? ty).map (·.size) = some cs.size) (hs : old.size = cs.size) (h1 : cs.all (·.oneCell') = true)
    (h : ∀ w', Hid (w' = w.setRow b cs) → wpList P ops Q rest (a.put o.dst undef) w') : wpList P ops Q (o :: rest) a w := by
  refine wpList_plain hg fun K hK => ?_
  have hrun := run_storeVar_row (P := P) w b ty ty old cs hb hi hs h1
  unfold Oper.wp execOp
  simp only [ho, hx, hy, Instr.storeAt, Instr.sureAddr, Sem.run_bind, hrun, Sem.run_pure, Result.andThen_ok]
  exact hK _ _ (h _ rfl)

theorem op_size : (Tryd.prog.info? 38).map (·.size) = some 6 := by kernel_rfl
theorem op_zero : (Tryd.prog.info? 38).map (·.zero) = some (some (.agg #[.int .i64 0, .int .i64 0, .int .i64 0, .int .i64 0, .int .i64 0, .string ⟨#[]⟩])) := by kernel_rfl
theorem op_one (o : Oq) : (#[.int .i64 o.kind, .int .i64 o.r, .int .i64 o.t, .int .i64 o.c.id, .int .i64 o.c.b, .string o.c.d] : Array Value).all (·.oneCell') = true :=
  all_oneCell_toArray (cs := [.int .i64 o.kind, .int .i64 o.r, .int .i64 o.t, .int .i64 o.c.id, .int .i64 o.c.b, .string o.c.d]) (fun u hu => by
    simp at hu
    rcases hu with rfl | rfl | rfl | rfl | rfl | rfl <;> rfl)
theorem built_ref : Tryd.prog.built 30 [] = some #[.int .i64 0, .int .i64 0, .int .i64 0, .slice none 0 0] := by kernel_rfl

/-! ### Calls on the gate, where it is known what they do -/
section
variable {w w' : World} {g n : Nat} {a l : Int} {Q : List Cl}
theorem Gt.freezeY (h : Gt w g a l Q n) (r t : Int) (hr64 : r ≤ 9223372036854775807) (ht64 : t ≤ 9223372036854775807) (hy : ¬ NoFreeze a l r t) :
    Calls Tryd.prog 9 #[.pointer (some ⟨g, 0, none⟩), .int .i64 r, .int .i64 t] w fun e w' => e = .returned .nilIface ∧ GP w g r t Q n w' := by
  unfold NoFreeze at hy
  exact Freeze_ok h r t (by omega) (by omega) hr64 ht64 (by omega)
theorem Gt.freezeN (h : Gt w g a l Q n) (r t : Int) (hy : NoFreeze a l r t) :
    Calls Tryd.prog 9 #[.pointer (some ⟨g, 0, none⟩), .int .i64 r, .int .i64 t] w fun e w' => ∃ p, e = .returned (.iface 72 (.pointer (some ⟨p, 0, none⟩))) ∧ Flt w' p r (fzn r t) ∧ Below w.heap.size w w' := by
  unfold fzn
  by_cases h1 : r < 1 ∨ t < 1
  · rw [if_pos h1]
    exact Freeze_arg (g := g) r t w h1
  · rw [if_neg h1]
    have h2 : r ≠ rnd a l ∧ r ≤ a := by unfold NoFreeze at hy; omega
    exact Freeze_stale h r t (by omega) (by omega) h2.1 h2.2
theorem Gt.tick_ (h : Gt w g a l Q n) : Calls Tryd.prog 17 #[.pointer (some ⟨g, 0, none⟩)] w fun e w' => ∃ v, e = .returned v ∧ Rowq w' w.heap.size v (ticked l Q n).1 ∧ GP w g a (ticked l Q n).2.1 (ticked l Q n).2.2.1 (ticked l Q n).2.2.2 w' := by
  unfold ticked
  by_cases h0 : l = 0
  · subst h0
    refine (Tick_open h).mono ?_
    rintro e w' ⟨rfl, rfl⟩
    exact ⟨_, rfl, Rowq.nil _ _, GP.refl h⟩
  · by_cases h1 : l = 1
    · subst h1
      exact Tick_last h
    · rw [if_neg h1, if_neg h0]
      have := h.l0
      refine (Tick_less h (by omega)).mono ?_
      rintro e w' ⟨rfl, hp⟩
      exact ⟨_, rfl, Rowq.nil _ _, hp⟩
theorem Rowq.rwb {base : Nat} {v : Value} {L : List Cl} (h : Rowq w base v L) : ∃ A c, v = .slice A L.length c ∧ L.length ≤ c ∧ c ≤ maxLen ∧ Rw w (fun k => k < base) A L := by
  obtain ⟨A, c, rfl, h1, h2, h3⟩ := h.form
  refine ⟨A, c, rfl, h1, h2, fun hL => ?_⟩
  obtain ⟨b, rfl, hb, hlt, hc⟩ := h3 (by cases L; exact absurd rfl hL; simp)
  exact ⟨b, rfl, hlt, Nat.not_lt.2 hb, fun j x hx => hc j x hx⟩
theorem Rg.tick_ {N : Nat → Prop} {p : Nat} (h : Rg w N p a l (Q.take n)) (hn : l = 0 → n = 0) : Calls Tryd.prog 18 #[.pointer (some ⟨p, 0, none⟩)] w fun e w' => ∃ A c, e = .returned (.slice A (ticked l Q n).1.length c) ∧ Rw w' N A (ticked l Q n).1 ∧ Rg w' N p a (ticked l Q n).2.1 ((ticked l Q n).2.2.1.take (ticked l Q n).2.2.2) ∧ Kept (· = p) w w' := by
  unfold ticked
  by_cases h0 : l = 0
  · subst h0
    refine (RTick_open h).mono ?_
    rintro e w' ⟨rfl, rfl⟩
    exact ⟨none, 0, rfl, Rw.nil _ _ _, h, Kept.refl _ _⟩
  · by_cases h1 : l = 1
    · subst h1
      refine (RTick_last h).mono ?_
      rintro e w' ⟨A, c, rfl, hr, hg, hk⟩
      exact ⟨A, c, rfl, hr, hg, hk⟩
    · rw [if_neg h1, if_neg h0]
      have := h.l0
      refine (RTick_less h (by omega)).mono ?_
      rintro e w' ⟨rfl, hg, hk⟩
      exact ⟨none, 0, rfl, Rw.nil _ _ _, hg, hk⟩
end

/-! ### Both -/
/-- Both gates, and a block that is neither's. -/
structure PW (w0 : World) (g p : Nat) (B : Option Nat) (o : Oq) (a l : Int) (Q : List Cl) (n : Nat) (a' l' : Int) (L : List Cl) (w : World) : Prop where
  gate : Gt w g a l Q n
  ref : Rg w (fun k => k = p ∨ k = g) p a' l' L
  ne : g ≠ p
  bel : Below w0.heap.size w0 w
  ng : w0.heap.size ≤ g
  np : w0.heap.size ≤ p
  box : ∀ b, B = some b → b ≠ g ∧ b ≠ p ∧ w.heap[b]? = some (.cells #[.int .i64 o.kind, .int .i64 o.r, .int .i64 o.t, .int .i64 o.c.id, .int .i64 o.c.b, .string o.c.d] 38 (0, 0))
/-- Both alike. -/
abbrev PS (w0 : World) (g p : Nat) (B : Option Nat) (o : Oq) (a l : Int) (Q : List Cl) (n : Nat) (w : World) : Prop := PW w0 g p B o a l Q n a l (Q.take n) w
section
variable {w0 w w' : World} {g p n n2 : Nat} {B : Option Nat} {o : Oq} {a l a' l' a2 l2 : Int} {Q Q2 L L2 : List Cl}
theorem PW.gp (h : PW w0 g p B o a l Q n a' l' L w) (k : GP w g a2 l2 Q2 n2 w') : PW w0 g p B o a2 l2 Q2 n2 a' l' L w' where
  gate := k.gate
  ref := h.ref.kept k.kept (fun _ e => Or.inr e) (fun e => h.ne e.symm)
  ne := h.ne
  bel := h.bel.trans (k.below h.ng h.bel.size)
  ng := h.ng
  np := h.np
  box := fun b hb => by
    obtain ⟨h1, h2, h3⟩ := h.box b hb
    exact ⟨h1, h2, (k.kept.block b (Array.getElem?_eq_some_iff.1 h3).1 h1).trans h3⟩
theorem PW.rg (h : PW w0 g p B o a l Q n a' l' L w) (k : Rg w' (fun k => k = p ∨ k = g) p a2 l2 L2) (hk : Kept (· = p) w w') : PW w0 g p B o a l Q n a2 l2 L2 w' where
  gate := { h.gate with box := (hk.block g h.gate.lt h.ne).trans h.gate.box }
  ref := k
  ne := h.ne
  bel := h.bel.trans (hk.below (fun k e => by rw [e]; exact h.np) h.bel.size)
  ng := h.ng
  np := h.np
  box := fun b hb => by
    obtain ⟨h1, h2, h3⟩ := h.box b hb
    exact ⟨h1, h2, (hk.block b (Array.getElem?_eq_some_iff.1 h3).1 h2).trans h3⟩
theorem PW.below (h : PW w0 g p B o a l Q n a' l' L w) (hb : Below w.heap.size w w') : PW w0 g p B o a l Q n a' l' L w' where
  gate := h.gate.below hb
  ref := h.ref.below hb
  ne := h.ne
  bel := h.bel.trans (hb.mono h.bel.size)
  ng := h.ng
  np := h.np
  box := fun b he => by
    obtain ⟨h1, h2, h3⟩ := h.box b he
    exact ⟨h1, h2, (hb.block b (Array.getElem?_eq_some_iff.1 h3).1).trans h3⟩
theorem PW.drew (h : PW w0 g p B o a l Q n a' l' L w) : PW w0 g p B o a l Q n a' l' L w.drew := h.below (Below.refl _ _).drew
theorem PW.drop (h : PW w0 g p B o a l Q n a' l' L w) : PW w0 g p none ⟨0, 0, 0, nocl⟩ a l Q n a' l' L w := { h with box := fun b hb => by cases hb }
/-- The block is there. -/
theorem PW.cells {b : Nat} (h : PW w0 g p (some b) o a l Q n a' l' L w) : OAt w b 0 o := by
  obtain ⟨_, _, h3⟩ := h.box b rfl
  refine ⟨?_, ?_, ?_, ?_, ?_, ?_⟩
  · rw [cell_of_row _ _ 0 _ _ _ h3]; rfl
  · rw [cell_of_row _ _ 1 _ _ _ h3]; rfl
  · rw [cell_of_row _ _ 2 _ _ _ h3]; rfl
  · rw [cell_of_row _ _ 3 _ _ _ h3]; rfl
  · rw [cell_of_row _ _ 4 _ _ _ h3]; rfl
  · rw [cell_of_row _ _ 5 _ _ _ h3]; rfl
theorem PW.lay {b : Nat} {z : Array Value} (h : PW w0 g p B o a l Q n a' l' L w) (o2 : Oq) {w1 w2 : World} (hb : b = w.heap.size) (h1 : w1 = w.alloc (.cells z 38))
    (h2 : w2 = w1.setRow b #[.int .i64 o2.kind, .int .i64 o2.r, .int .i64 o2.t, .int .i64 o2.c.id, .int .i64 o2.c.b, .string o2.c.d]) : PW w0 g p (some b) o2 a l Q n a' l' L w2 := by
  subst h1 h2 hb
  have hb2 : Below w.heap.size w ((w.alloc (.cells z 38)).setRow w.heap.size #[.int .i64 o2.kind, .int .i64 o2.r, .int .i64 o2.t, .int .i64 o2.c.id, .int .i64 o2.c.b, .string o2.c.d]) := below_setRow ((Below.refl _ _).alloc (Nat.le_refl _) _) (Nat.le_refl _) _
  have hh := h.below hb2
  have hg := h.gate.lt
  have hp := h.ref.plt
  refine { hh with box := fun b he => ?_ }
  cases he
  exact ⟨by omega, by omega, setRow_heap _ _ _ _ _ _ (heap_alloc_new w _)⟩
/-- The document's block, its queue at hand. -/
theorem PW.row (h : PS w0 g p B o a l Q n w) : ∃ A c, Rb w p (rnd a l) l a (.slice A n c) := by
  obtain ⟨A, c, hb, _⟩ := h.ref.ex
  have hl : (Q.take n).length = n := by rw [List.length_take, h.gate.len]; have := h.gate.few; omega
  rw [hl] at hb
  exact ⟨A, c, hb⟩
theorem take_len (h : Gt w g a l Q n) : (Q.take n).length = n := by rw [List.length_take, h.len]; have := h.few; omega
theorem take_set (h : Q.length = 4) (hn : n < 4) (c : Cl) : (Q.set n c).take (n + 1) = Q.take n ++ [c] := by
  rw [List.take_add_one, List.getElem?_set_self (by omega), List.take_set_of_le (Nat.le_refl n)]
  rfl
end

end Go.Proofs.YtjholhmgainbfaaDoor.Ga
