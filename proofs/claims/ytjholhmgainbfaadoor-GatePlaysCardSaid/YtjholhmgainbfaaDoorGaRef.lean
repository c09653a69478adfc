/-
  The document's gate (isobarref08.Gate) in memory, beside whatever else: the contracts of its Freeze, open, Thaw, Tick and Enter. Nothing but its own block is changed.
-/
import Derived.Deep.AppendLies
import Derived.Test.YtjholhmgainbfaaDoorGaWalk
namespace Go.Proofs.YtjholhmgainbfaaDoor.Ga
open Go.RowKit
open Pk Dk

/-! ### Slices of the document's calls -/
/-- A slice's address leads to the calls L, in a block that is none of N's. -/
def Rw (w : World) (N : Nat → Prop) (A : Option Addr) (L : List Cl) : Prop := L ≠ [] → ∃ b, A = some ⟨b, 0, none⟩ ∧ b < w.heap.size ∧ ¬ N b ∧ ∀ j c, L[j]? = some c → CAt w b (j * 3) c
/-- Calls in a slice of one's own. -/
def Rowr (w : World) (base : Nat) (v : Value) (L : List Cl) : Prop := w.ownsRow base 36 3 v L.length (ccels L)
section
variable {w w' : World} {N : Nat → Prop} {A : Option Addr} {L : List Cl} {base : Nat} {v : Value}
theorem CAt.same {b o : Nat} {c : Cl} (h : CAt w b o c) (hb : w'.heap[b]? = w.heap[b]?) : CAt w' b o c := by
  have hc : ∀ k, w'.cell? ⟨b, k, none⟩ = w.cell? ⟨b, k, none⟩ := fun k => World.cell?_of_block hb
  exact ⟨(hc _).trans h.1, (hc _).trans h.2.1, (hc _).trans h.2.2⟩
theorem Rw.nil (w : World) (N : Nat → Prop) (A : Option Addr) : Rw w N A [] := fun h => absurd rfl h
theorem Rw.weak (h : Rw w N A L) : Rw w (fun _ => False) A L := fun hL => by
  obtain ⟨b, e, hl, _, hc⟩ := h hL
  exact ⟨b, e, hl, fun h => h, hc⟩
theorem Rw.below (h : Rw w N A L) (hb : Below w.heap.size w w') : Rw w' N A L := fun hL => by
  obtain ⟨b, e, hl, hn, hc⟩ := h hL
  exact ⟨b, e, Nat.lt_of_lt_of_le hl hb.size, hn, fun j c hj => (hc j c hj).same (hb.block b hl)⟩
theorem Rw.kept {G : Nat → Prop} (h : Rw w N A L) (hk : Kept G w w') (hG : ∀ k, G k → N k) : Rw w' N A L := fun hL => by
  obtain ⟨b, e, hl, hn, hc⟩ := h hL
  exact ⟨b, e, Nat.lt_of_lt_of_le hl hk.size, hn, fun j c hj => (hc j c hj).same (hk.block b hl (fun h => hn (hG b h)))⟩
theorem Rowr.form (h : Rowr w base v L) : ∃ A c, v = .slice A L.length c ∧ L.length ≤ c ∧ c ≤ maxLen ∧ Rw w (fun k => k < base) A L := by
  obtain ⟨A, c, rfl, h1, h2, h3⟩ := row_form h
  refine ⟨A, c, rfl, h1, h2, fun hL => ?_⟩
  obtain ⟨b, rfl, hob, hlt, hr⟩ := h3 (by cases L; exact absurd rfl hL; simp)
  refine ⟨b, rfl, hlt, Nat.not_lt.2 (World.ownsRow.lt h b hob).1, fun j x hx => ?_⟩
  have hp := range_piece hr (ccel_len L) hx
  exact ⟨hp 0 _ rfl, hp 1 _ rfl, hp 2 _ rfl⟩
theorem Rowr.below (h : Rowr w base v L) (hb : Below w.heap.size w w') : Rowr w' base v L := own_same h fun k hk => hb.block k (World.ownsRow.lt h k hk).2
theorem Rowr.mono {b' : Nat} (h : Rowr w base v L) (hb : b' ≤ base) : Rowr w b' v L := by
  refine ⟨h.1, ?_⟩
  rcases h.2 with h0 | ⟨g, cap, cur, hv, hB, hr⟩
  · exact Or.inl h0
  · exact Or.inr ⟨g, cap, cur, hv, Nat.le_trans hb hB, hr⟩
theorem ccels_append (L M : List Cl) : ccels (L ++ M) = ccels L ++ ccels M := by simp [ccels]
theorem ref_info : (Tryd.prog.info? 36).map (fun i => (i.zero, i.size, i.bytes)) = some (some (.agg #[.int .i64 0, .int .i64 0, .string ⟨#[]⟩]), 3, 32) := by kernel_rfl
/-- The cells of a list of calls, where they lie. -/
theorem Rw.cells {b : Nat} (h : ∀ j c, L[j]? = some c → CAt w b (j * 3) c) : ∀ j u, (ccels L)[j]? = some u → w.cell? ((⟨b, 0, none⟩ : Addr).add j) = some u := by
  intro j u hu
  rw [Addr.add_mid, Nat.zero_add]
  have hj : j < L.length * 3 := by
    have := (List.getElem?_eq_some_iff.1 hu).1
    rwa [ccels_length] at this
  have hm : j % 3 < 3 := Nat.mod_lt _ (by omega)
  obtain ⟨c, hc⟩ : ∃ c, L[j / 3]? = some c := ⟨_, List.getElem?_eq_getElem (by omega)⟩
  have e := flat_get L (ccel_len L) (j / 3) (j % 3) c hc hm
  have ej : j / 3 * 3 + j % 3 = j := by omega
  rw [ej] at e
  rw [show (ccels L)[j]? = (ccel c)[j % 3]? from e] at hu
  have hC := h _ c hc
  have h3 : j % 3 = 0 ∨ j % 3 = 1 ∨ j % 3 = 2 := by omega
  rcases h3 with h3 | h3 | h3
  · rw [h3] at hu; cases hu
    rw [show j = j / 3 * 3 by omega]
    exact hC.1
  · rw [h3] at hu; cases hu
    rw [show j = j / 3 * 3 + 1 by omega]
    exact hC.2.1
  · rw [h3] at hu; cases hu
    rw [show j = j / 3 * 3 + 2 by omega]
    exact hC.2.2
/-- append(s, l...), s a row of the call's own. -/
theorem step_append_calls {ops : Array Oper} {o : Oper} {a : Act} {K : Act → World → Prop} {R : Exit → Act → World → Prop} {E : Prop} (hw : Region.wanted o (yielded ops a.tmps) = true) (s x : Operand)
    (ho : o.op = .call { callee := .builtin .append, args := #[s, x], argTypes := #[28, 28] }) (hrow : Rowr w base v L) (hs : a.eval s = v)
    (A : Option Addr) (m cp : Nat) (M : List Cl) (hx : a.eval x = .slice A m cp) (hm : M.length = m) (hr : Rw w (fun _ => False) A M) (hsz : L.length + m ≤ 1000) (hbase : base ≤ w.heap.size)
    (h : ∀ v' w', Rowr w' base v' (L ++ M) → w.grownBy w' v.ownBlock → (v'.ownBlock = v.ownBlock ∨ v'.ownBlock = some w.heap.size) → K (a.put o.dst v') w') : if Region.wanted o (yielded ops a.tmps) = true then Oper.wp Tryd.prog o a w K R else E := by
  rw [if_pos hw]
  obtain ⟨i0, hi, hz0, hz1, hz2⟩ := info_parts ref_info
  have hrun : ∃ v' w', (Builtin.append_ #[28, 28] o.type #[v, .slice A m cp]).run Tryd.prog w = .ok v' w' ∧ Rowr w' base v' (L ++ M) ∧ w.grownBy w' v.ownBlock ∧ (v'.ownBlock = v.ownBlock ∨ v'.ownBlock = some w.heap.size) := by
    cases hA : M with
    | nil =>
      subst hA
      subst hm
      have hl0 : ([] : List Cl).length = 0 := rfl
      refine ⟨v, w, ?_, by rw [List.append_nil]; exact hrow, World.grownBy.refl w _, Or.inl rfl⟩
      rcases hrow.2 with ⟨rfl, _⟩ | ⟨g, cap, cur, rfl, _, _, hnc, _⟩
      · cases A <;> simp [Builtin.append_, run_underlying Tryd.underlying28, sizeOf, typeInfo, hi, Builtin.lenOf, Builtin.firstCells, loadCells, loadCellsFrom]
      · cases A <;> simp [Builtin.append_, run_underlying Tryd.underlying28, sizeOf, typeInfo, hi, Builtin.lenOf, Builtin.firstCells, hnc, storeCells, loadCells, loadCellsFrom]
    | cons y r =>
      obtain ⟨b, rfl, _, _, hc⟩ := hr (by rw [hA]; simp)
      obtain ⟨v', w', hrun, h2, h3, _, h5⟩ := run_append_own_at (P := Tryd.prog) w base 28 o.type 36 i0 _ 3 32 Tryd.underlying28 hi hz0 hz1 hz2 rfl (by decide) v L.length (ccels L) hrow ⟨b, 0, none⟩ m cp (ccels M) (by rw [ccels_length, hm])
        (Rw.cells hc) (ccels_one _) (by unfold maxLen; omega) (by omega) hbase
      refine ⟨v', w', hrun, ?_, h3, h5⟩
      rw [← hA]
      unfold Rowr
      rw [List.length_append, hm, ccels_append]
      exact h2
  obtain ⟨v', w', hrun, h2, h3, h4⟩ := hrun
  unfold Oper.wp execOp
  simp only [ho, resolve, invoke, builtin, Sem.run_bind, Sem.run_pure, Result.andThen_ok, List.map_toArray, List.map_cons, List.map_nil, hs, hx, hrun]
  exact h v' w' h2 h3 h4
end

/-! ### The document's gate -/
/-- Its block, as it is. -/
def Rb (w : World) (p : Nat) (rd lf lt : Int) (v : Value) : Prop := w.heap[p]? = some (.cells #[.int .i64 rd, .int .i64 lf, .int .i64 lt, v] 30 (0, 0))
structure Rg (w : World) (N : Nat → Prop) (p : Nat) (a l : Int) (L : List Cl) : Prop where
  ex : ∃ A c, Rb w p (rnd a l) l a (.slice A L.length c) ∧ L.length ≤ c ∧ c ≤ maxLen ∧ Rw w N A L
  mine : N p
  lt : ∀ k, N k → k < w.heap.size
  few : L.length ≤ 4
  a0 : 0 ≤ a
  l0 : 0 ≤ l
  a64 : a ≤ 9223372036854775807
  l64 : l ≤ 9223372036854775807
  on : l ≠ 0 → 1 ≤ a
  idle : l = 0 → L = []
section
variable {w w' : World} {N : Nat → Prop} {p : Nat} {a l : Int} {L : List Cl} {A : Option Addr} {n cp : Nat} {rd lf lt : Int} {v : Value}
theorem Rb.box (h : Rb w p rd lf lt v) : w.heap[p]? = some (.cells #[.int .i64 rd, .int .i64 lf, .int .i64 lt, v] 30 (0, 0)) := h
theorem Rb.c0 (h : Rb w p rd lf lt v) : w.cell? ⟨p, 0, none⟩ = some (.int .i64 rd) := by rw [cell_of_row _ _ 0 _ _ _ h.box]; rfl
theorem Rb.c1 (h : Rb w p rd lf lt v) : w.cell? ⟨p, 1, none⟩ = some (.int .i64 lf) := by rw [cell_of_row _ _ 1 _ _ _ h.box]; rfl
theorem Rb.c2 (h : Rb w p rd lf lt v) : w.cell? ⟨p, 2, none⟩ = some (.int .i64 lt) := by rw [cell_of_row _ _ 2 _ _ _ h.box]; rfl
theorem Rb.c3 (h : Rb w p rd lf lt v) : w.cell? ⟨p, 3, none⟩ = some v := by rw [cell_of_row _ _ 3 _ _ _ h.box]; rfl
theorem Rb.fr (h : Rb w p rd lf lt v) (k : Nat) : w.frozen? ⟨p, k, none⟩ = false := by
  have hh := h.box
  simp [World.frozen?, hh]
theorem Rb.s0 (h : Rb w p rd lf lt v) (x : Int) : Rb (w.setCell ⟨p, 0, none⟩ (.int .i64 x)) p x lf lt v := by unfold Rb; rw [heap_setCell_same w p 0 _ _ _ h.box]; rfl
theorem Rb.s1 (h : Rb w p rd lf lt v) (x : Int) : Rb (w.setCell ⟨p, 1, none⟩ (.int .i64 x)) p rd x lt v := by unfold Rb; rw [heap_setCell_same w p 1 _ _ _ h.box]; rfl
theorem Rb.s2 (h : Rb w p rd lf lt v) (x : Int) : Rb (w.setCell ⟨p, 2, none⟩ (.int .i64 x)) p rd lf x v := by unfold Rb; rw [heap_setCell_same w p 2 _ _ _ h.box]; rfl
theorem Rb.s3 (h : Rb w p rd lf lt v) (x : Value) : Rb (w.setCell ⟨p, 3, none⟩ x) p rd lf lt x := by unfold Rb; rw [heap_setCell_same w p 3 _ _ _ h.box]; rfl
theorem Rb.below (h : Rb w p rd lf lt v) (hb : Below w.heap.size w w') : Rb w' p rd lf lt v := (hb.block p (Array.getElem?_eq_some_iff.1 h.box).1).trans h
theorem Rg.plt (h : Rg w N p a l L) : p < w.heap.size := h.lt p h.mine
theorem Rg.below (h : Rg w N p a l L) (hb : Below w.heap.size w w') : Rg w' N p a l L := by
  obtain ⟨A, c, h1, h2, h3, h4⟩ := h.ex
  exact { h with ex := ⟨A, c, h1.below hb, h2, h3, h4.below hb⟩, lt := fun k hk => Nat.lt_of_lt_of_le (h.lt k hk) hb.size }
/-- Another block of N's is changed. -/
theorem Rg.kept {G : Nat → Prop} (h : Rg w N p a l L) (hk : Kept G w w') (hG : ∀ k, G k → N k) (hp : ¬ G p) : Rg w' N p a l L := by
  obtain ⟨A, c, h1, h2, h3, h4⟩ := h.ex
  exact { h with ex := ⟨A, c, (hk.block p h.plt hp).trans h1, h2, h3, h4.kept hk hG⟩, lt := fun k hk2 => Nat.lt_of_lt_of_le (h.lt k hk2) hk.size }

/-! ### Freeze -/
set_option maxRecDepth 100000 in
theorem RFreeze_no (h : Rg w N p a l L) (r t : Int) (hno : NoFreeze a l r t) :
    Calls Tryd.prog 10 #[.pointer (some ⟨p, 0, none⟩), .int .i64 r, .int .i64 t] w fun e w' => e = .returned (.int .i64 (fzn r t)) ∧ w = w' := by
  obtain ⟨A, c, hb, _⟩ := h.ex
  have hc0 := hb.c0
  have hc2 := hb.c2
  clear h hb
  unfold NoFreeze at hno
  unfold fzn
  generalize rnd a l = rd at *
  by_cases h1 : r < 1
  · rw [if_pos (Or.inl h1)]
    clear hno
    go_enter Tryd.func10, Tryd.ntmps10
    go_wp2
    go_ret
    exact ⟨rfl, rfl⟩
  · by_cases h2 : t < 1
    · rw [if_pos (Or.inr h2)]
      clear hno
      go_enter Tryd.func10, Tryd.ntmps10
      go_wp2
      go_ret
      exact ⟨rfl, rfl⟩
    · rw [if_neg (by omega)]
      have q : (r != rd) = true := by simp; omega
      have h3 : r ≤ a := by omega
      clear hno
      go_enter Tryd.func10, Tryd.ntmps10
      go_wp2
      go_ret
      exact ⟨rfl, rfl⟩
theorem Rg.frozen (h : Rg w N p a l L) {r t : Int} (hr : 1 ≤ r) (ht : 1 ≤ t) (hr64 : r ≤ 9223372036854775807) (ht64 : t ≤ 9223372036854775807) :
    Rg (((w.setCell ⟨p, 0, none⟩ (.int .i64 r)).setCell ⟨p, 2, none⟩ (.int .i64 r)).setCell ⟨p, 1, none⟩ (.int .i64 t)) N p r t L ∧ Kept (· = p) w (((w.setCell ⟨p, 0, none⟩ (.int .i64 r)).setCell ⟨p, 2, none⟩ (.int .i64 r)).setCell ⟨p, 1, none⟩ (.int .i64 t)) := by
  obtain ⟨A, c, h1, h2, h3, h4⟩ := h.ex
  have hk : Kept (· = p) w (((w.setCell ⟨p, 0, none⟩ (.int .i64 r)).setCell ⟨p, 2, none⟩ (.int .i64 r)).setCell ⟨p, 1, none⟩ (.int .i64 t)) := (((Kept.refl (· = p) w).store (p := ⟨p, 0, none⟩) rfl _).store (p := ⟨p, 2, none⟩) rfl _).store (p := ⟨p, 1, none⟩) rfl _
  have hb := ((h1.s0 r).s2 r).s1 t
  refine ⟨{ h with ex := ⟨A, c, ?_, h2, h3, h4.kept hk (fun k e => by rw [e]; exact h.mine)⟩, lt := fun k hk2 => Nat.lt_of_lt_of_le (h.lt k hk2) hk.size, a0 := by omega, l0 := by omega, a64 := hr64, l64 := ht64, on := fun _ => hr, idle := fun e => by omega }, hk⟩
  have e : rnd r t = r := by unfold rnd; rw [if_neg (by omega)]
  rw [e]
  exact hb
set_option maxRecDepth 100000 in
theorem RFreeze_yes (h : Rg w N p a l L) (r t : Int) (hr64 : r ≤ 9223372036854775807) (ht64 : t ≤ 9223372036854775807) (hyes : ¬ NoFreeze a l r t) :
    Calls Tryd.prog 10 #[.pointer (some ⟨p, 0, none⟩), .int .i64 r, .int .i64 t] w fun e w' => e = .returned (.int .i64 0) ∧ Rg w' N p r t L ∧ Kept (· = p) w w' := by
  unfold NoFreeze at hyes
  have h1 : ¬ r < 1 := by omega
  have h2 : ¬ t < 1 := by omega
  obtain ⟨A, c, hb, _⟩ := h.ex
  have HR := hide (h.frozen (r := r) (t := t) (by omega) (by omega) hr64 ht64)
  have hc0 := hb.c0
  have hc1 := hb.c1
  have hc2 := hb.c2
  have hf0 := hb.fr 0
  have hf1 := hb.fr 1
  have hf2 := hb.fr 2
  clear h hb
  generalize rnd a l = rd at *
  by_cases q : r = rd
  · have q1 : (r != rd) = false := by simpa using q
    have q2 : (r == rd) = true := by simpa using q
    clear hyes q
    go_enter Tryd.func10, Tryd.ntmps10
    go_wp2
    go_ret
    exact ⟨rfl, HR.out.1, HR.out.2⟩
  · have q1 : (r != rd) = true := by simpa using q
    have q2 : (r == rd) = false := by simpa using q
    have h3 : ¬ r ≤ a := by omega
    clear hyes q
    go_enter Tryd.func10, Tryd.ntmps10
    go_wp2
    go_ret
    exact ⟨rfl, HR.out.1, HR.out.2⟩

/-! ### open, Thaw and Tick -/
set_option maxRecDepth 100000 in
theorem ROpen_any (h : Rb w p rd lf lt v) :
    Calls Tryd.prog 26 #[.pointer (some ⟨p, 0, none⟩)] w fun e w' => e = .returned v ∧ Rb w' p 0 0 lt (.slice none 0 0) ∧ Kept (· = p) w w' := by
  have hc3 := h.c3
  have hc0 := h.c0
  have hc1 := h.c1
  have hf0 := h.fr 0
  have hf1 := h.fr 1
  have hf3 := h.fr 3
  have HR := hide (((h.s0 0).s1 0).s3 (.slice none 0 0))
  have HK := hide ((((Kept.refl (· = p) w).store (p := ⟨p, 0, none⟩) rfl (.int .i64 0)).store (p := ⟨p, 1, none⟩) rfl (.int .i64 0)).store (p := ⟨p, 3, none⟩) rfl (.slice none 0 0))
  clear h
  go_enter Tryd.func26, Tryd.ntmps26
  go_wp2
  go_ret
  exact ⟨rfl, HR.out, HK.out⟩
theorem Rg.emptied (h : Rg w N p a l L) (hb : Rb w' p 0 0 a (.slice none 0 0)) (hk : Kept (· = p) w w') : Rg w' N p a 0 [] :=
  { h with ex := ⟨none, 0, hb, Nat.le_refl _, Nat.zero_le _, Rw.nil _ _ _⟩, lt := fun k hk2 => Nat.lt_of_lt_of_le (h.lt k hk2) hk.size, few := by simp, l0 := Int.le_refl _, l64 := by omega, on := fun e => absurd rfl e, idle := fun _ => rfl }
set_option maxRecDepth 100000 in
theorem RThaw_yes (h : Rg w N p a l L) (hl : l ≠ 0) :
    Calls Tryd.prog 12 #[.pointer (some ⟨p, 0, none⟩), .int .i64 a] w fun e w' => ∃ A c, e = .returned (.tuple #[.slice A L.length c, .int .i64 0]) ∧ Rw w' N A L ∧ Rg w' N p a 0 [] ∧ Kept (· = p) w w' := by
  obtain ⟨A, c, hb, h2, h3, h4⟩ := h.ex
  have h1 := h.on hl
  have hr : rnd a l = a := by unfold rnd; rw [if_neg hl]
  rw [hr] at hb
  have hc0 := hb.c0
  have q0 : (a == 0) = false := by simp; omega
  have q1 : (a != a) = false := by simp
  obtain ⟨n, hn⟩ : ∃ n, L.length = n := ⟨_, rfl⟩
  rw [hn] at hb h2
  rw [hn]
  have HO := hide (ROpen_any hb)
  have HG := hide h
  have H4 := hide h4
  clear h hb h1 hr hn h4 h2 h3 hl
  go_enter Tryd.func12, Tryd.ntmps12
  go_wp2_with fail
  refine HO.out.mono ?_
  rintro e w' ⟨rfl, hb', hk⟩
  have HG' := hide (HG.out.emptied hb' hk)
  have HK := hide hk
  have HW := hide (H4.out.kept hk (fun k e => by rw [e]; exact HG.out.mine))
  clear hb' hk HO
  go_wp2
  go_ret2
  exact ⟨A, c, rfl, HW.out, HG'.out, HK.out⟩
set_option maxRecDepth 100000 in
theorem RThaw_no (h : Rg w N p a l L) (r : Int) (hno : l = 0 ∨ r ≠ a) :
    Calls Tryd.prog 12 #[.pointer (some ⟨p, 0, none⟩), .int .i64 r] w fun e w' => e = .returned (.tuple #[.slice none 0 0, .int .i64 9]) ∧ w = w' := by
  obtain ⟨A, c, hb, _⟩ := h.ex
  have hc0 := hb.c0
  by_cases hl : l = 0
  · have hr : rnd a l = 0 := by unfold rnd; rw [if_pos hl]
    rw [hr] at hc0
    clear h hb hr hno hl
    go_enter Tryd.func12, Tryd.ntmps12
    go_wp2
    go_ret2
    exact ⟨rfl, rfl⟩
  · have h1 := h.on hl
    have hr : rnd a l = a := by unfold rnd; rw [if_neg hl]
    rw [hr] at hc0
    have q0 : (a == 0) = false := by simp; omega
    have q1 : (a != r) = true := by simp; omega
    clear h hb hr hno hl h1
    go_enter Tryd.func12, Tryd.ntmps12
    go_wp2
    go_ret2
    exact ⟨rfl, rfl⟩
set_option maxRecDepth 100000 in
theorem RTick_open (h : Rg w N p a 0 L) : Calls Tryd.prog 18 #[.pointer (some ⟨p, 0, none⟩)] w fun e w' => e = .returned (.slice none 0 0) ∧ w = w' := by
  obtain ⟨A, c, hb, _⟩ := h.ex
  have hc0 : w.cell? ⟨p, 0, none⟩ = some (.int .i64 0) := hb.c0
  clear h hb
  go_enter Tryd.func18, Tryd.ntmps18
  go_wp2
  go_ret
  exact ⟨rfl, rfl⟩
theorem Rg.less (h : Rg w N p a l L) (hl : 2 ≤ l) : Rg (w.setCell ⟨p, 1, none⟩ (.int .i64 (l - 1))) N p a (l - 1) L ∧ Kept (· = p) w (w.setCell ⟨p, 1, none⟩ (.int .i64 (l - 1))) := by
  obtain ⟨A, c, h1, h2, h3, h4⟩ := h.ex
  have hk : Kept (· = p) w (w.setCell ⟨p, 1, none⟩ (.int .i64 (l - 1))) := (Kept.refl (· = p) w).store (p := ⟨p, 1, none⟩) rfl _
  have e : rnd a (l - 1) = rnd a l := by unfold rnd; rw [if_neg (by omega), if_neg (by omega)]
  have := h.l64
  exact ⟨{ h with ex := ⟨A, c, by rw [e]; exact h1.s1 (l - 1), h2, h3, h4.kept hk (fun k e => by rw [e]; exact h.mine)⟩, lt := fun k hk2 => Nat.lt_of_lt_of_le (h.lt k hk2) hk.size, l0 := by omega, l64 := by omega, on := fun _ => h.on (by omega), idle := fun e => by omega }, hk⟩
set_option maxRecDepth 100000 in
theorem RTick_less (h : Rg w N p a l L) (hl : 2 ≤ l) : Calls Tryd.prog 18 #[.pointer (some ⟨p, 0, none⟩)] w fun e w' => e = .returned (.slice none 0 0) ∧ Rg w' N p a (l - 1) L ∧ Kept (· = p) w w' := by
  obtain ⟨A, c, hb, _⟩ := h.ex
  have h1 := h.on (by omega)
  have hr : rnd a l = a := by unfold rnd; rw [if_neg (by omega)]
  rw [hr] at hb
  have hc0 := hb.c0
  have hc1 := hb.c1
  have hf1 := hb.fr 1
  have hl64 := h.l64
  have q0 : (a == 0) = false := by simp; omega
  have h0l : (0 : Int) < l - 1 := by omega
  have hgr : decide (0 < l - 1) = true := decide_eq_true h0l
  have HR := hide (h.less hl)
  clear h hb hr h1
  go_enter Tryd.func18, Tryd.ntmps18
  go_wp2
  go_ret
  exact ⟨rfl, HR.out.1, HR.out.2⟩
set_option maxRecDepth 100000 in
theorem RTick_last (h : Rg w N p a 1 L) : Calls Tryd.prog 18 #[.pointer (some ⟨p, 0, none⟩)] w fun e w' => ∃ A c, e = .returned (.slice A L.length c) ∧ Rw w' N A L ∧ Rg w' N p a 0 [] ∧ Kept (· = p) w w' := by
  obtain ⟨A, c, hb, h2, h3, h4⟩ := h.ex
  have h1 := h.on (by omega)
  have hr : rnd a 1 = a := rfl
  rw [hr] at hb
  have hc0 := hb.c0
  have hc1 := hb.c1
  have hf1 := hb.fr 1
  have q0 : (a == 0) = false := by simp; omega
  obtain ⟨n, hn⟩ : ∃ n, L.length = n := ⟨_, rfl⟩
  rw [hn] at hb h2
  rw [hn]
  have HO := hide (ROpen_any (hb.s1 0))
  have HK0 := hide ((Kept.refl (· = p) w).store (p := ⟨p, 1, none⟩) rfl (.int .i64 0))
  have HG := hide h
  have H4 := hide h4
  clear h hb h1 hr hn h4 h2 h3
  go_enter Tryd.func18, Tryd.ntmps18
  go_wp2_with fail
  refine HO.out.mono ?_
  rintro e w' ⟨rfl, hb', hk0⟩
  have hk := HK0.out.trans (Grew.refl _ _) hk0
  have HG' := hide (HG.out.emptied hb' hk)
  have HK := hide hk
  have HW := hide (H4.out.kept hk (fun k e => by rw [e]; exact HG.out.mine))
  clear hb' hk hk0 HO HK0
  go_wp2
  go_ret
  exact ⟨A, c, rfl, HW.out, HG'.out, HK.out⟩

/-! ### Enter -/
/-- A value laid into a new variable, and what is known of it. -/
theorem boxed {w1 : World} {c : Cl} (h : w1 = w.alloc (.cells #[.int .i64 c.id, .int .i64 c.b, .string c.d] 36)) : CAt w1 w.heap.size 0 c ∧ w.heap.size < w1.heap.size ∧ Below w.heap.size w w1 := by
  have hh : w1.heap[w.heap.size]? = some (.cells #[.int .i64 c.id, .int .i64 c.b, .string c.d] 36 (0, 0)) := by rw [h]; exact heap_alloc_new w _
  refine ⟨⟨?_, ?_, ?_⟩, by rw [h]; simp, by rw [h]; exact (Below.refl _ _).alloc (Nat.le_refl _) _⟩
  · rw [cell_of_row _ _ 0 _ _ _ hh]; rfl
  · rw [cell_of_row _ _ 1 _ _ _ hh]; rfl
  · rw [cell_of_row _ _ 2 _ _ _ hh]; rfl
set_option maxRecDepth 100000 in
theorem REnter_open (h : Rg w N p a 0 L) (c : Cl) : Calls Tryd.prog 16 #[.pointer (some ⟨p, 0, none⟩), cl3 c] w fun e w' => e = .returned (.tuple #[.bool true, .int .i64 0]) ∧ Below w.heap.size w w' := by
  have HG := hide h
  clear h
  go_enter Tryd.func16, Tryd.ntmps16
  go_wp2_with (refine wpList_box_told rfl 36 (.tmp 1) rfl _ rfl ?_)
  intro w1 Hw1
  have HB1 := hide (boxed Hw1.out).2.2
  obtain ⟨A, cp, hb, _⟩ := (HG.out.below HB1.out).ex
  have hc0 : w1.cell? ⟨p, 0, none⟩ = some (.int .i64 0) := hb.c0
  clear Hw1 hb
  go_wp2
  go_ret2
  exact ⟨rfl, HB1.out⟩
set_option maxRecDepth 100000 in
theorem REnter_full (h : Rg w N p a l L) (h4 : L.length = 4) (c : Cl) : Calls Tryd.prog 16 #[.pointer (some ⟨p, 0, none⟩), cl3 c] w fun e w' => e = .returned (.tuple #[.bool false, .int .i64 7]) ∧ Below w.heap.size w w' := by
  have HG := hide h
  have hl : l ≠ 0 := fun e => by have := h.idle e; rw [this] at h4; simp at h4
  have h1 := h.on hl
  have q0 : (a == 0) = false := by simp; omega
  have Hl := hide hl
  have H4 := hide h4
  clear h h1 hl h4
  go_enter Tryd.func16, Tryd.ntmps16
  go_wp2_with (refine wpList_box_told rfl 36 (.tmp 1) rfl _ rfl ?_)
  intro w1 Hw1
  have HB1 := hide (boxed Hw1.out).2.2
  obtain ⟨A, cp, hb, _⟩ := (HG.out.below HB1.out).ex
  have hr : rnd a l = a := by unfold rnd; rw [if_neg Hl.out]
  rw [hr, H4.out] at hb
  have hc0 := hb.c0
  have hc3 := hb.c3
  clear Hw1 hb hr
  go_wp2
  go_ret2
  exact ⟨rfl, HB1.out⟩

/-! What is known while the queue is laid anew: of what was made since w1 (the worlds between). -/
structure St0 (w1 : World) (W : World) : Prop where
  bel : Below w1.heap.size w1 W
structure St1 (w1 W : World) (r : Nat) : Prop where
  bel : Below w1.heap.size w1 W
  row : Rowr W w1.heap.size (.slice (some ⟨r, 0, none⟩) 0 0) []
structure St8 (w1 W : World) (b : Nat) (c : Cl) : Prop where
  bel : Below w1.heap.size w1 W
  blt : b < W.heap.size
  at_ : CAt W b 0 c
structure St18 (w1 W : World) (r b : Nat) (c : Cl) : Prop where
  bel : Below w1.heap.size w1 W
  row : Rowr W w1.heap.size (.slice (some ⟨r, 0, none⟩) 0 0) []
  blt : b < W.heap.size
  at_ : CAt W b 0 c
  ne : r ≠ b
structure St16 (w1 W : World) (v : Value) (L : List Cl) : Prop where
  bel : Below w1.heap.size w1 W
  row : Rowr W w1.heap.size v L
structure St168 (w1 W : World) (v : Value) (L : List Cl) (b : Nat) (c : Cl) : Prop where
  bel : Below w1.heap.size w1 W
  row : Rowr W w1.heap.size v L
  blt : b < W.heap.size
  at_ : CAt W b 0 c
  ne : v.ownBlock ≠ some b
section
variable {w1 W W' : World} {r b : Nat} {c : Cl} {v v' : Value}
theorem row_empty (hb : w1.heap.size ≤ W.heap.size) : Rowr (W.alloc (.cells #[] 36)) w1.heap.size (.slice (some ⟨W.heap.size, 0, none⟩) 0 0) [] :=
  ⟨rfl, Or.inr ⟨W.heap.size, 0, #[], rfl, hb, heap_alloc_new W _, Nat.le_refl _, Nat.zero_le _, rfl, rfl⟩⟩
theorem at_new : CAt (W.alloc (.cells #[.int .i64 c.id, .int .i64 c.b, .string c.d] 36)) W.heap.size 0 c := (boxed (w := W) rfl).1
theorem cat_alloc (h : CAt W b 0 c) (hb : b < W.heap.size) (o : Obj) : CAt (W.alloc o) b 0 c := h.same (Below.heap_alloc _ _ _ hb)
theorem St0.empty (h : St0 w1 W) : St1 w1 (W.alloc (.cells #[] 36)) W.heap.size := ⟨h.bel.alloc h.bel.size _, row_empty h.bel.size⟩
theorem St8.empty (h : St8 w1 W b c) : St18 w1 (W.alloc (.cells #[] 36)) W.heap.size b c :=
  ⟨h.bel.alloc h.bel.size _, row_empty h.bel.size, by have := h.blt; simp; omega, cat_alloc h.at_ h.blt _, by have := h.blt; omega⟩
theorem St0.one (h : St0 w1 W) : St8 w1 (W.alloc (.cells #[.int .i64 c.id, .int .i64 c.b, .string c.d] 36)) W.heap.size c := ⟨h.bel.alloc h.bel.size _, by simp, at_new⟩
theorem St1.one (h : St1 w1 W r) : St18 w1 (W.alloc (.cells #[.int .i64 c.id, .int .i64 c.b, .string c.d] 36)) r W.heap.size c :=
  ⟨h.bel.alloc h.bel.size _, World.ownsRow.alloc h.row _, by simp, at_new, by have := (World.ownsRow.lt h.row r rfl).2; omega⟩
theorem St16.one (h : St16 w1 W v L) : St168 w1 (W.alloc (.cells #[.int .i64 c.id, .int .i64 c.b, .string c.d] 36)) v L W.heap.size c :=
  ⟨h.bel.alloc h.bel.size _, World.ownsRow.alloc h.row _, by simp, at_new, fun e => by have := (World.ownsRow.lt h.row _ e).2; omega⟩
theorem grown_below (h : Below w1.heap.size w1 W) (hr : Rowr W w1.heap.size v L) (hg : W.grownBy W' v.ownBlock) : Below w1.heap.size w1 W' := h.grown hg h.size (fun k hk => (World.ownsRow.lt hr k hk).1)
theorem St1.joined (h : St1 w1 W r) (hr : Rowr W' w1.heap.size v' ([] ++ L)) (hg : W.grownBy W' (Value.slice (some ⟨r, 0, none⟩) 0 0).ownBlock) (_ : v'.ownBlock = (Value.slice (some ⟨r, 0, none⟩) 0 0).ownBlock ∨ v'.ownBlock = some W.heap.size) : St16 w1 W' v' L :=
  ⟨grown_below h.bel h.row hg, hr⟩
theorem St18.joined (h : St18 w1 W r b c) (hr : Rowr W' w1.heap.size v' ([] ++ L)) (hg : W.grownBy W' (Value.slice (some ⟨r, 0, none⟩) 0 0).ownBlock) (ho : v'.ownBlock = (Value.slice (some ⟨r, 0, none⟩) 0 0).ownBlock ∨ v'.ownBlock = some W.heap.size) : St168 w1 W' v' L b c := by
  have hne : some b ≠ (Value.slice (some ⟨r, 0, none⟩) 0 0).ownBlock := fun e => h.ne (Option.some.inj e).symm
  refine ⟨grown_below h.bel h.row hg, hr, Nat.lt_of_lt_of_le h.blt hg.size, h.at_.same (hg.block b h.blt hne), fun e => ?_⟩
  rcases ho with ho | ho
  · exact hne (e.symm.trans ho)
  · have := Option.some.inj (e.symm.trans ho)
    have := h.blt
    omega
theorem St168.cas (h : St168 w1 W v L b c) : Rw W (fun _ => False) (some ⟨b, 0, none⟩) [c] := fun _ => ⟨b, rfl, h.blt, fun h => h, fun j x hx => by
  cases j with
  | zero => cases hx; exact h.at_
  | succ j => simp at hx⟩
theorem St168.joined2 (h : St168 w1 W v L b c) (hr : Rowr W' w1.heap.size v' (L ++ [c])) (hg : W.grownBy W' v.ownBlock) : St16 w1 W' v' (L ++ [c]) := ⟨grown_below h.bel h.row hg, hr⟩
end
/-- The queue stored. -/
theorem Rg.more {c : Cl} (h : Rg w N p a l L) (hk : Below w.heap.size w w') (hr : Rowr w' w.heap.size v (L ++ [c])) (h4 : L.length < 4) (hl : l ≠ 0) : Rg (w'.setCell ⟨p, 3, none⟩ v) N p a l (L ++ [c]) := by
  obtain ⟨A, cp, h1, _, _, _⟩ := h.ex
  obtain ⟨A', c', rfl, hc1, hc2, hrw⟩ := hr.form
  have hkk : Kept (· = p) w' (w'.setCell ⟨p, 3, none⟩ (.slice A' (L ++ [c]).length c')) := (Kept.refl (· = p) w').store (p := ⟨p, 3, none⟩) rfl _
  refine { h with ex := ⟨A', c', (h1.below hk).s3 _, hc1, hc2, fun hL => ?_⟩, lt := fun k hk2 => Nat.lt_of_lt_of_le (h.lt k hk2) (Nat.le_trans hk.size hkk.size), few := by simp; omega, idle := fun e => absurd e hl }
  obtain ⟨b, e, hlt, hnb, hc⟩ := hrw hL
  have hbp : b ≠ p := fun e => hnb (by rw [e]; exact h.plt)
  exact ⟨b, e, Nat.lt_of_lt_of_le hlt hkk.size, fun hN => hnb (h.lt b hN), fun j x hj => (hc j x hj).same (hkk.block b hlt hbp)⟩

set_option maxRecDepth 100000 in
set_option maxHeartbeats 8000000 in
theorem REnter_in (h : Rg w N p a l L) (hl : l ≠ 0) (hn4 : L.length < 4) (c : Cl) :
    Calls Tryd.prog 16 #[.pointer (some ⟨p, 0, none⟩), cl3 c] w fun e w' => e = .returned (.tuple #[.bool false, .int .i64 0]) ∧ Rg w' N p a l (L ++ [c]) ∧ Kept (· = p) w w' := by
  obtain ⟨A, cp, hbox, hlc, hcm, hrw⟩ := h.ex
  obtain ⟨n, hn⟩ : ∃ n, L.length = n := ⟨_, rfl⟩
  have h1 := h.on hl
  have hr : rnd a l = a := by unfold rnd; rw [if_neg hl]
  rw [hr, hn] at hbox
  have q0 : (a == 0) = false := by simp; omega
  have q4 : ((n : Int) == 4) = false := by simp; omega
  have hni : (n : Int) < 4 := by omega
  have HG := hide h
  have Hn := hide hn
  have HL4 := hide hn4
  have HBX := hide hbox
  have HRW := hide hrw
  have Hl := hide hl
  clear h h1 hr hn hrw hbox hlc hcm hn4 hl
  go_enter Tryd.func16, Tryd.ntmps16
  go_wp2_with (refine wpList_box_told rfl 36 (.tmp 1) rfl _ rfl ?_)
  intro w1 Hw1
  obtain ⟨hx, hlt1, hB1⟩ := boxed Hw1.out
  have HB1 := hide hB1
  have HBX1 := hide (HBX.out.below hB1)
  have hp0 := HBX1.out.c0
  have hp3 := HBX1.out.c3
  have HS : Hid (∀ W : World, Below w1.heap.size w1 W → W.cell? ⟨p, 3, none⟩ = some (.slice A n cp) ∧ W.cell? ⟨w.heap.size, 0, none⟩ = some (.int .i64 c.id) ∧ W.cell? ⟨w.heap.size, 1, none⟩ = some (.int .i64 c.b) ∧ W.cell? ⟨w.heap.size, 2, none⟩ = some (.string c.d)) := fun W hb =>
    ⟨(HBX1.out.below hb).c3, hx.below hlt1 hb⟩
  have HL : Hid (∀ W : World, Below w1.heap.size w1 W → Rw W (fun _ => False) A L) := fun W hb => ((HRW.out.below hB1).below hb).weak
  have HST : Hid (∀ (W : World) (v : Value), Below w1.heap.size w1 W → Rowr W w1.heap.size v (L ++ [c]) → Rg (W.setCell ⟨p, 3, none⟩ v) N p a l (L ++ [c]) ∧ Kept (· = p) w (W.setCell ⟨p, 3, none⟩ v)) := fun W v hb hr =>
    ⟨HG.out.more (HB1.out.trans (hb.mono HB1.out.size)) (hr.mono HB1.out.size) HL4.out Hl.out, (Kept.of_below (G := (· = p)) (HB1.out.trans (hb.mono HB1.out.size))).store (p := ⟨p, 3, none⟩) rfl _⟩
  have HFR : Hid (∀ W : World, Below w1.heap.size w1 W → W.frozen? ⟨p, 3, none⟩ = false) := fun W hb => (HBX1.out.below hb).fr 3
  have K0 : Hid (St0 w1 w1.drew) := ⟨(Below.refl _ _).drew⟩
  clear Hw1 hx hlt1 hB1
  go_wp2
  clear hp0 hp3
  refine wp_region_any (by kernel_rfl) ?_
  change wpAny _ _ _ _ _ _ _ (World.drew _)
  generalize World.drew w1 = wd at *
  refine wpAny_take (i := 0) (oi := ⟨some 17, _, _, _, _, _⟩) (v := ?_) rfl (by kernel_rfl) (by kernel_rfl) (by kernel_rfl) (fun _ _ _ h => h) (Or.inl ⟨by rfl, ?_⟩) ?_
  rotate_left 1
  · (intro w; go_simp; try with_reducible rfl)
  simp only [Act.put, List.setIfInBounds_toArray, List.set_cons_zero, List.set_cons_succ]
  refine wpAny_take (i := 2) (oi := ⟨some 19, _, _, _, _, _⟩) (v := ?_) rfl (by kernel_rfl) (by kernel_rfl) (by kernel_rfl) (fun _ _ _ h => h) (Or.inl ⟨by rfl, ?_⟩) ?_
  rotate_left 1
  · (intro w; go_simp; try with_reducible rfl)
  simp only [Act.put, List.setIfInBounds_toArray, List.set_cons_zero, List.set_cons_succ]
  refine wpAny_take (i := 3) (oi := ⟨some 20, _, _, _, _, _⟩) (v := ?_) rfl (by kernel_rfl) (by kernel_rfl) (by kernel_rfl) (fun _ _ _ h => h) (Or.inl ⟨by rfl, ?_⟩) ?_
  rotate_left 1
  · (intro w; go_simp; try with_reducible rfl)
  simp only [Act.put, List.setIfInBounds_toArray, List.set_cons_zero, List.set_cons_succ]
  refine wpAny_take (i := 4) (oi := ⟨some 21, _, _, _, _, _⟩) (v := ?_) rfl (by kernel_rfl) (by kernel_rfl) (by kernel_rfl) (fun _ _ _ h => h) (Or.inl ⟨by rfl, ?_⟩) ?_
  rotate_left 1
  · (intro w; go_simp; try with_reducible rfl)
  simp only [Act.put, List.setIfInBounds_toArray, List.set_cons_zero, List.set_cons_succ]
  refine wpAny_ready (rs := [1, 5, 7]) (by kernel_rfl) (by simp) ?_
  refine AllReady.cons (o := ⟨some 18, _, _, _, _, _⟩) rfl (fun K hK => ?_) (AllReady.cons (o := ⟨some 22, _, _, _, _, _⟩) rfl (fun K hK => ?_) (AllReady.cons (o := ⟨some 24, _, _, _, _, _⟩) rfl (fun K hK => ?_) AllReady.nil))
  · go_simp
    have K1 := hide (K0.out.empty)
    generalize World.alloc _ _ = WK1 at *
    refine hK _ _ ?_
    clear hK K
    refine wpAny_ready (rs := [5, 7]) (by kernel_rfl) (by simp) ?_
    refine AllReady.cons (o := ⟨some 22, _, _, _, _, _⟩) rfl (fun K hK => ?_) (AllReady.cons (o := ⟨some 24, _, _, _, _, _⟩) rfl (fun K hK => ?_) AllReady.nil)
    · have hq := (HS.out _ K1.out.bel).1
      go_simp
      clear hq
      refine hK _ _ ?_
      clear hK K
      refine wpAny_ready (rs := [6, 7]) (by kernel_rfl) (by simp) ?_
      refine AllReady.cons (o := ⟨some 23, _, _, _, _, _⟩) rfl (fun K hK => ?_) (AllReady.cons (o := ⟨some 24, _, _, _, _, _⟩) rfl (fun K hK => ?_) AllReady.nil)
      · refine step_append_calls (by rfl) (.tmp 18) (.tmp 22) rfl K1.out.row rfl A n cp L rfl Hn.out (HL.out _ K1.out.bel) (by have := HL4.out; have := Hn.out; simp; omega) K1.out.bel.size ?_
        intro v1 v1w hr hg ho
        have K2 := hide (K1.out.joined hr hg ho)
        clear hr hg ho
        refine hK _ _ ?_
        clear hK K
        refine wpAny_ready (rs := [7]) (by kernel_rfl) (by simp) ?_
        refine AllReady.cons (o := ⟨some 24, _, _, _, _, _⟩) rfl (fun K hK => ?_) AllReady.nil
        obtain ⟨hq0, hq1, hq2⟩ := (HS.out _ K2.out.bel).2
        go_simp
        clear hq0 hq1 hq2
        refine hK _ _ ?_
        clear hK K
        refine wpAny_ready (rs := [8]) (by kernel_rfl) (by simp) ?_
        refine AllReady.cons (o := ⟨some 25, _, _, _, _, _⟩) rfl (fun K hK => ?_) AllReady.nil
        go_simp
        have K3 := hide (K2.out.one (c := c))
        generalize World.alloc _ _ = WK3 at *
        refine hK _ _ ?_
        clear hK K
        refine wpAny_ready (rs := [9]) (by kernel_rfl) (by simp) ?_
        refine AllReady.cons (o := ⟨some 26, _, _, _, _, _⟩) rfl (fun K hK => ?_) AllReady.nil
        refine step_append_calls (by rfl) (.tmp 23) (.tmp 25) rfl K3.out.row rfl _ 1 1 [c] rfl rfl K3.out.cas (by have := HL4.out; omega) K3.out.bel.size ?_
        intro v2 v2w hr hg _
        have K4 := hide (K3.out.joined2 hr hg)
        clear hr hg
        obtain ⟨A9, c9, hv9, _, _, _⟩ := K4.out.row.form
        obtain ⟨n9, hn9⟩ : ∃ n9, (L ++ [c]).length = n9 := ⟨_, rfl⟩
        rw [hn9] at hv9
        subst hv9
        clear hn9
        refine hK _ _ ?_
        clear hK K
        refine wpAny_take (i := 10) (oi := ⟨some 27, _, _, _, _, _⟩) (v := ?_) rfl (by kernel_rfl) (by kernel_rfl) (by kernel_rfl) (fun _ _ _ h => h) (Or.inl ⟨by rfl, ?_⟩) ?_
        rotate_left 1
        · (intro w; go_simp; try with_reducible rfl)
        simp only [Act.put, List.setIfInBounds_toArray, List.set_cons_zero, List.set_cons_succ]
        refine wpAny_take (i := 11) (oi := ⟨some 28, _, _, _, _, _⟩) (v := ?_) rfl (by kernel_rfl) (by kernel_rfl) (by kernel_rfl) (fun _ _ _ h => h) (Or.inl ⟨by rfl, ?_⟩) ?_
        rotate_left 1
        · (intro w; go_simp; try with_reducible rfl)
        simp only [Act.put, List.setIfInBounds_toArray, List.set_cons_zero, List.set_cons_succ]
        refine wpAny_ready (rs := [12]) (by kernel_rfl) (by simp) ?_
        refine AllReady.cons (o := ⟨none, _, _, _, _, _⟩) rfl (fun K hK => ?_) AllReady.nil
        have HF := hide (HST.out _ _ K4.out.bel K4.out.row)
        have hfr := HFR.out _ K4.out.bel
        have hp3 := (HS.out _ K4.out.bel).1
        go_simp
        refine hK _ _ ?_
        clear hK K
        refine wpAny_done (by kernel_rfl) ?_ _
        go_wp2
        go_ret2
        exact ⟨rfl, HF.out.1, HF.out.2⟩
      · obtain ⟨hq0, hq1, hq2⟩ := (HS.out _ K1.out.bel).2
        go_simp
        clear hq0 hq1 hq2
        refine hK _ _ ?_
        clear hK K
        refine wpAny_ready (rs := [6, 8]) (by kernel_rfl) (by simp) ?_
        refine AllReady.cons (o := ⟨some 23, _, _, _, _, _⟩) rfl (fun K hK => ?_) (AllReady.cons (o := ⟨some 25, _, _, _, _, _⟩) rfl (fun K hK => ?_) AllReady.nil)
        · refine step_append_calls (by rfl) (.tmp 18) (.tmp 22) rfl K1.out.row rfl A n cp L rfl Hn.out (HL.out _ K1.out.bel) (by have := HL4.out; have := Hn.out; simp; omega) K1.out.bel.size ?_
          intro v1 v1w hr hg ho
          have K2 := hide (K1.out.joined hr hg ho)
          clear hr hg ho
          refine hK _ _ ?_
          clear hK K
          refine wpAny_ready (rs := [8]) (by kernel_rfl) (by simp) ?_
          refine AllReady.cons (o := ⟨some 25, _, _, _, _, _⟩) rfl (fun K hK => ?_) AllReady.nil
          go_simp
          have K3 := hide (K2.out.one (c := c))
          generalize World.alloc _ _ = WK3 at *
          refine hK _ _ ?_
          clear hK K
          refine wpAny_ready (rs := [9]) (by kernel_rfl) (by simp) ?_
          refine AllReady.cons (o := ⟨some 26, _, _, _, _, _⟩) rfl (fun K hK => ?_) AllReady.nil
          refine step_append_calls (by rfl) (.tmp 23) (.tmp 25) rfl K3.out.row rfl _ 1 1 [c] rfl rfl K3.out.cas (by have := HL4.out; omega) K3.out.bel.size ?_
          intro v2 v2w hr hg _
          have K4 := hide (K3.out.joined2 hr hg)
          clear hr hg
          obtain ⟨A9, c9, hv9, _, _, _⟩ := K4.out.row.form
          obtain ⟨n9, hn9⟩ : ∃ n9, (L ++ [c]).length = n9 := ⟨_, rfl⟩
          rw [hn9] at hv9
          subst hv9
          clear hn9
          refine hK _ _ ?_
          clear hK K
          refine wpAny_take (i := 10) (oi := ⟨some 27, _, _, _, _, _⟩) (v := ?_) rfl (by kernel_rfl) (by kernel_rfl) (by kernel_rfl) (fun _ _ _ h => h) (Or.inl ⟨by rfl, ?_⟩) ?_
          rotate_left 1
          · (intro w; go_simp; try with_reducible rfl)
          simp only [Act.put, List.setIfInBounds_toArray, List.set_cons_zero, List.set_cons_succ]
          refine wpAny_take (i := 11) (oi := ⟨some 28, _, _, _, _, _⟩) (v := ?_) rfl (by kernel_rfl) (by kernel_rfl) (by kernel_rfl) (fun _ _ _ h => h) (Or.inl ⟨by rfl, ?_⟩) ?_
          rotate_left 1
          · (intro w; go_simp; try with_reducible rfl)
          simp only [Act.put, List.setIfInBounds_toArray, List.set_cons_zero, List.set_cons_succ]
          refine wpAny_ready (rs := [12]) (by kernel_rfl) (by simp) ?_
          refine AllReady.cons (o := ⟨none, _, _, _, _, _⟩) rfl (fun K hK => ?_) AllReady.nil
          have HF := hide (HST.out _ _ K4.out.bel K4.out.row)
          have hfr := HFR.out _ K4.out.bel
          have hp3 := (HS.out _ K4.out.bel).1
          go_simp
          refine hK _ _ ?_
          clear hK K
          refine wpAny_done (by kernel_rfl) ?_ _
          go_wp2
          go_ret2
          exact ⟨rfl, HF.out.1, HF.out.2⟩
        · go_simp
          have K2 := hide (K1.out.one (c := c))
          generalize World.alloc _ _ = WK2 at *
          refine hK _ _ ?_
          clear hK K
          refine wpAny_ready (rs := [6]) (by kernel_rfl) (by simp) ?_
          refine AllReady.cons (o := ⟨some 23, _, _, _, _, _⟩) rfl (fun K hK => ?_) AllReady.nil
          refine step_append_calls (by rfl) (.tmp 18) (.tmp 22) rfl K2.out.row rfl A n cp L rfl Hn.out (HL.out _ K2.out.bel) (by have := HL4.out; have := Hn.out; simp; omega) K2.out.bel.size ?_
          intro v1 v1w hr hg ho
          have K3 := hide (K2.out.joined hr hg ho)
          clear hr hg ho
          refine hK _ _ ?_
          clear hK K
          refine wpAny_ready (rs := [9]) (by kernel_rfl) (by simp) ?_
          refine AllReady.cons (o := ⟨some 26, _, _, _, _, _⟩) rfl (fun K hK => ?_) AllReady.nil
          refine step_append_calls (by rfl) (.tmp 23) (.tmp 25) rfl K3.out.row rfl _ 1 1 [c] rfl rfl K3.out.cas (by have := HL4.out; omega) K3.out.bel.size ?_
          intro v2 v2w hr hg _
          have K4 := hide (K3.out.joined2 hr hg)
          clear hr hg
          obtain ⟨A9, c9, hv9, _, _, _⟩ := K4.out.row.form
          obtain ⟨n9, hn9⟩ : ∃ n9, (L ++ [c]).length = n9 := ⟨_, rfl⟩
          rw [hn9] at hv9
          subst hv9
          clear hn9
          refine hK _ _ ?_
          clear hK K
          refine wpAny_take (i := 10) (oi := ⟨some 27, _, _, _, _, _⟩) (v := ?_) rfl (by kernel_rfl) (by kernel_rfl) (by kernel_rfl) (fun _ _ _ h => h) (Or.inl ⟨by rfl, ?_⟩) ?_
          rotate_left 1
          · (intro w; go_simp; try with_reducible rfl)
          simp only [Act.put, List.setIfInBounds_toArray, List.set_cons_zero, List.set_cons_succ]
          refine wpAny_take (i := 11) (oi := ⟨some 28, _, _, _, _, _⟩) (v := ?_) rfl (by kernel_rfl) (by kernel_rfl) (by kernel_rfl) (fun _ _ _ h => h) (Or.inl ⟨by rfl, ?_⟩) ?_
          rotate_left 1
          · (intro w; go_simp; try with_reducible rfl)
          simp only [Act.put, List.setIfInBounds_toArray, List.set_cons_zero, List.set_cons_succ]
          refine wpAny_ready (rs := [12]) (by kernel_rfl) (by simp) ?_
          refine AllReady.cons (o := ⟨none, _, _, _, _, _⟩) rfl (fun K hK => ?_) AllReady.nil
          have HF := hide (HST.out _ _ K4.out.bel K4.out.row)
          have hfr := HFR.out _ K4.out.bel
          have hp3 := (HS.out _ K4.out.bel).1
          go_simp
          refine hK _ _ ?_
          clear hK K
          refine wpAny_done (by kernel_rfl) ?_ _
          go_wp2
          go_ret2
          exact ⟨rfl, HF.out.1, HF.out.2⟩
    · obtain ⟨hq0, hq1, hq2⟩ := (HS.out _ K1.out.bel).2
      go_simp
      clear hq0 hq1 hq2
      refine hK _ _ ?_
      clear hK K
      refine wpAny_ready (rs := [5, 8]) (by kernel_rfl) (by simp) ?_
      refine AllReady.cons (o := ⟨some 22, _, _, _, _, _⟩) rfl (fun K hK => ?_) (AllReady.cons (o := ⟨some 25, _, _, _, _, _⟩) rfl (fun K hK => ?_) AllReady.nil)
      · have hq := (HS.out _ K1.out.bel).1
        go_simp
        clear hq
        refine hK _ _ ?_
        clear hK K
        refine wpAny_ready (rs := [6, 8]) (by kernel_rfl) (by simp) ?_
        refine AllReady.cons (o := ⟨some 23, _, _, _, _, _⟩) rfl (fun K hK => ?_) (AllReady.cons (o := ⟨some 25, _, _, _, _, _⟩) rfl (fun K hK => ?_) AllReady.nil)
        · refine step_append_calls (by rfl) (.tmp 18) (.tmp 22) rfl K1.out.row rfl A n cp L rfl Hn.out (HL.out _ K1.out.bel) (by have := HL4.out; have := Hn.out; simp; omega) K1.out.bel.size ?_
          intro v1 v1w hr hg ho
          have K2 := hide (K1.out.joined hr hg ho)
          clear hr hg ho
          refine hK _ _ ?_
          clear hK K
          refine wpAny_ready (rs := [8]) (by kernel_rfl) (by simp) ?_
          refine AllReady.cons (o := ⟨some 25, _, _, _, _, _⟩) rfl (fun K hK => ?_) AllReady.nil
          go_simp
          have K3 := hide (K2.out.one (c := c))
          generalize World.alloc _ _ = WK3 at *
          refine hK _ _ ?_
          clear hK K
          refine wpAny_ready (rs := [9]) (by kernel_rfl) (by simp) ?_
          refine AllReady.cons (o := ⟨some 26, _, _, _, _, _⟩) rfl (fun K hK => ?_) AllReady.nil
          refine step_append_calls (by rfl) (.tmp 23) (.tmp 25) rfl K3.out.row rfl _ 1 1 [c] rfl rfl K3.out.cas (by have := HL4.out; omega) K3.out.bel.size ?_
          intro v2 v2w hr hg _
          have K4 := hide (K3.out.joined2 hr hg)
          clear hr hg
          obtain ⟨A9, c9, hv9, _, _, _⟩ := K4.out.row.form
          obtain ⟨n9, hn9⟩ : ∃ n9, (L ++ [c]).length = n9 := ⟨_, rfl⟩
          rw [hn9] at hv9
          subst hv9
          clear hn9
          refine hK _ _ ?_
          clear hK K
          refine wpAny_take (i := 10) (oi := ⟨some 27, _, _, _, _, _⟩) (v := ?_) rfl (by kernel_rfl) (by kernel_rfl) (by kernel_rfl) (fun _ _ _ h => h) (Or.inl ⟨by rfl, ?_⟩) ?_
          rotate_left 1
          · (intro w; go_simp; try with_reducible rfl)
          simp only [Act.put, List.setIfInBounds_toArray, List.set_cons_zero, List.set_cons_succ]
          refine wpAny_take (i := 11) (oi := ⟨some 28, _, _, _, _, _⟩) (v := ?_) rfl (by kernel_rfl) (by kernel_rfl) (by kernel_rfl) (fun _ _ _ h => h) (Or.inl ⟨by rfl, ?_⟩) ?_
          rotate_left 1
          · (intro w; go_simp; try with_reducible rfl)
          simp only [Act.put, List.setIfInBounds_toArray, List.set_cons_zero, List.set_cons_succ]
          refine wpAny_ready (rs := [12]) (by kernel_rfl) (by simp) ?_
          refine AllReady.cons (o := ⟨none, _, _, _, _, _⟩) rfl (fun K hK => ?_) AllReady.nil
          have HF := hide (HST.out _ _ K4.out.bel K4.out.row)
          have hfr := HFR.out _ K4.out.bel
          have hp3 := (HS.out _ K4.out.bel).1
          go_simp
          refine hK _ _ ?_
          clear hK K
          refine wpAny_done (by kernel_rfl) ?_ _
          go_wp2
          go_ret2
          exact ⟨rfl, HF.out.1, HF.out.2⟩
        · go_simp
          have K2 := hide (K1.out.one (c := c))
          generalize World.alloc _ _ = WK2 at *
          refine hK _ _ ?_
          clear hK K
          refine wpAny_ready (rs := [6]) (by kernel_rfl) (by simp) ?_
          refine AllReady.cons (o := ⟨some 23, _, _, _, _, _⟩) rfl (fun K hK => ?_) AllReady.nil
          refine step_append_calls (by rfl) (.tmp 18) (.tmp 22) rfl K2.out.row rfl A n cp L rfl Hn.out (HL.out _ K2.out.bel) (by have := HL4.out; have := Hn.out; simp; omega) K2.out.bel.size ?_
          intro v1 v1w hr hg ho
          have K3 := hide (K2.out.joined hr hg ho)
          clear hr hg ho
          refine hK _ _ ?_
          clear hK K
          refine wpAny_ready (rs := [9]) (by kernel_rfl) (by simp) ?_
          refine AllReady.cons (o := ⟨some 26, _, _, _, _, _⟩) rfl (fun K hK => ?_) AllReady.nil
          refine step_append_calls (by rfl) (.tmp 23) (.tmp 25) rfl K3.out.row rfl _ 1 1 [c] rfl rfl K3.out.cas (by have := HL4.out; omega) K3.out.bel.size ?_
          intro v2 v2w hr hg _
          have K4 := hide (K3.out.joined2 hr hg)
          clear hr hg
          obtain ⟨A9, c9, hv9, _, _, _⟩ := K4.out.row.form
          obtain ⟨n9, hn9⟩ : ∃ n9, (L ++ [c]).length = n9 := ⟨_, rfl⟩
          rw [hn9] at hv9
          subst hv9
          clear hn9
          refine hK _ _ ?_
          clear hK K
          refine wpAny_take (i := 10) (oi := ⟨some 27, _, _, _, _, _⟩) (v := ?_) rfl (by kernel_rfl) (by kernel_rfl) (by kernel_rfl) (fun _ _ _ h => h) (Or.inl ⟨by rfl, ?_⟩) ?_
          rotate_left 1
          · (intro w; go_simp; try with_reducible rfl)
          simp only [Act.put, List.setIfInBounds_toArray, List.set_cons_zero, List.set_cons_succ]
          refine wpAny_take (i := 11) (oi := ⟨some 28, _, _, _, _, _⟩) (v := ?_) rfl (by kernel_rfl) (by kernel_rfl) (by kernel_rfl) (fun _ _ _ h => h) (Or.inl ⟨by rfl, ?_⟩) ?_
          rotate_left 1
          · (intro w; go_simp; try with_reducible rfl)
          simp only [Act.put, List.setIfInBounds_toArray, List.set_cons_zero, List.set_cons_succ]
          refine wpAny_ready (rs := [12]) (by kernel_rfl) (by simp) ?_
          refine AllReady.cons (o := ⟨none, _, _, _, _, _⟩) rfl (fun K hK => ?_) AllReady.nil
          have HF := hide (HST.out _ _ K4.out.bel K4.out.row)
          have hfr := HFR.out _ K4.out.bel
          have hp3 := (HS.out _ K4.out.bel).1
          go_simp
          refine hK _ _ ?_
          clear hK K
          refine wpAny_done (by kernel_rfl) ?_ _
          go_wp2
          go_ret2
          exact ⟨rfl, HF.out.1, HF.out.2⟩
      · go_simp
        have K2 := hide (K1.out.one (c := c))
        generalize World.alloc _ _ = WK2 at *
        refine hK _ _ ?_
        clear hK K
        refine wpAny_ready (rs := [5]) (by kernel_rfl) (by simp) ?_
        refine AllReady.cons (o := ⟨some 22, _, _, _, _, _⟩) rfl (fun K hK => ?_) AllReady.nil
        have hq := (HS.out _ K2.out.bel).1
        go_simp
        clear hq
        refine hK _ _ ?_
        clear hK K
        refine wpAny_ready (rs := [6]) (by kernel_rfl) (by simp) ?_
        refine AllReady.cons (o := ⟨some 23, _, _, _, _, _⟩) rfl (fun K hK => ?_) AllReady.nil
        refine step_append_calls (by rfl) (.tmp 18) (.tmp 22) rfl K2.out.row rfl A n cp L rfl Hn.out (HL.out _ K2.out.bel) (by have := HL4.out; have := Hn.out; simp; omega) K2.out.bel.size ?_
        intro v1 v1w hr hg ho
        have K3 := hide (K2.out.joined hr hg ho)
        clear hr hg ho
        refine hK _ _ ?_
        clear hK K
        refine wpAny_ready (rs := [9]) (by kernel_rfl) (by simp) ?_
        refine AllReady.cons (o := ⟨some 26, _, _, _, _, _⟩) rfl (fun K hK => ?_) AllReady.nil
        refine step_append_calls (by rfl) (.tmp 23) (.tmp 25) rfl K3.out.row rfl _ 1 1 [c] rfl rfl K3.out.cas (by have := HL4.out; omega) K3.out.bel.size ?_
        intro v2 v2w hr hg _
        have K4 := hide (K3.out.joined2 hr hg)
        clear hr hg
        obtain ⟨A9, c9, hv9, _, _, _⟩ := K4.out.row.form
        obtain ⟨n9, hn9⟩ : ∃ n9, (L ++ [c]).length = n9 := ⟨_, rfl⟩
        rw [hn9] at hv9
        subst hv9
        clear hn9
        refine hK _ _ ?_
        clear hK K
        refine wpAny_take (i := 10) (oi := ⟨some 27, _, _, _, _, _⟩) (v := ?_) rfl (by kernel_rfl) (by kernel_rfl) (by kernel_rfl) (fun _ _ _ h => h) (Or.inl ⟨by rfl, ?_⟩) ?_
        rotate_left 1
        · (intro w; go_simp; try with_reducible rfl)
        simp only [Act.put, List.setIfInBounds_toArray, List.set_cons_zero, List.set_cons_succ]
        refine wpAny_take (i := 11) (oi := ⟨some 28, _, _, _, _, _⟩) (v := ?_) rfl (by kernel_rfl) (by kernel_rfl) (by kernel_rfl) (fun _ _ _ h => h) (Or.inl ⟨by rfl, ?_⟩) ?_
        rotate_left 1
        · (intro w; go_simp; try with_reducible rfl)
        simp only [Act.put, List.setIfInBounds_toArray, List.set_cons_zero, List.set_cons_succ]
        refine wpAny_ready (rs := [12]) (by kernel_rfl) (by simp) ?_
        refine AllReady.cons (o := ⟨none, _, _, _, _, _⟩) rfl (fun K hK => ?_) AllReady.nil
        have HF := hide (HST.out _ _ K4.out.bel K4.out.row)
        have hfr := HFR.out _ K4.out.bel
        have hp3 := (HS.out _ K4.out.bel).1
        go_simp
        refine hK _ _ ?_
        clear hK K
        refine wpAny_done (by kernel_rfl) ?_ _
        go_wp2
        go_ret2
        exact ⟨rfl, HF.out.1, HF.out.2⟩
  · have hq := (HS.out _ K0.out.bel).1
    go_simp
    clear hq
    refine hK _ _ ?_
    clear hK K
    refine wpAny_ready (rs := [1, 7]) (by kernel_rfl) (by simp) ?_
    refine AllReady.cons (o := ⟨some 18, _, _, _, _, _⟩) rfl (fun K hK => ?_) (AllReady.cons (o := ⟨some 24, _, _, _, _, _⟩) rfl (fun K hK => ?_) AllReady.nil)
    · go_simp
      have K1 := hide (K0.out.empty)
      generalize World.alloc _ _ = WK1 at *
      refine hK _ _ ?_
      clear hK K
      refine wpAny_ready (rs := [6, 7]) (by kernel_rfl) (by simp) ?_
      refine AllReady.cons (o := ⟨some 23, _, _, _, _, _⟩) rfl (fun K hK => ?_) (AllReady.cons (o := ⟨some 24, _, _, _, _, _⟩) rfl (fun K hK => ?_) AllReady.nil)
      · refine step_append_calls (by rfl) (.tmp 18) (.tmp 22) rfl K1.out.row rfl A n cp L rfl Hn.out (HL.out _ K1.out.bel) (by have := HL4.out; have := Hn.out; simp; omega) K1.out.bel.size ?_
        intro v1 v1w hr hg ho
        have K2 := hide (K1.out.joined hr hg ho)
        clear hr hg ho
        refine hK _ _ ?_
        clear hK K
        refine wpAny_ready (rs := [7]) (by kernel_rfl) (by simp) ?_
        refine AllReady.cons (o := ⟨some 24, _, _, _, _, _⟩) rfl (fun K hK => ?_) AllReady.nil
        obtain ⟨hq0, hq1, hq2⟩ := (HS.out _ K2.out.bel).2
        go_simp
        clear hq0 hq1 hq2
        refine hK _ _ ?_
        clear hK K
        refine wpAny_ready (rs := [8]) (by kernel_rfl) (by simp) ?_
        refine AllReady.cons (o := ⟨some 25, _, _, _, _, _⟩) rfl (fun K hK => ?_) AllReady.nil
        go_simp
        have K3 := hide (K2.out.one (c := c))
        generalize World.alloc _ _ = WK3 at *
        refine hK _ _ ?_
        clear hK K
        refine wpAny_ready (rs := [9]) (by kernel_rfl) (by simp) ?_
        refine AllReady.cons (o := ⟨some 26, _, _, _, _, _⟩) rfl (fun K hK => ?_) AllReady.nil
        refine step_append_calls (by rfl) (.tmp 23) (.tmp 25) rfl K3.out.row rfl _ 1 1 [c] rfl rfl K3.out.cas (by have := HL4.out; omega) K3.out.bel.size ?_
        intro v2 v2w hr hg _
        have K4 := hide (K3.out.joined2 hr hg)
        clear hr hg
        obtain ⟨A9, c9, hv9, _, _, _⟩ := K4.out.row.form
        obtain ⟨n9, hn9⟩ : ∃ n9, (L ++ [c]).length = n9 := ⟨_, rfl⟩
        rw [hn9] at hv9
        subst hv9
        clear hn9
        refine hK _ _ ?_
        clear hK K
        refine wpAny_take (i := 10) (oi := ⟨some 27, _, _, _, _, _⟩) (v := ?_) rfl (by kernel_rfl) (by kernel_rfl) (by kernel_rfl) (fun _ _ _ h => h) (Or.inl ⟨by rfl, ?_⟩) ?_
        rotate_left 1
        · (intro w; go_simp; try with_reducible rfl)
        simp only [Act.put, List.setIfInBounds_toArray, List.set_cons_zero, List.set_cons_succ]
        refine wpAny_take (i := 11) (oi := ⟨some 28, _, _, _, _, _⟩) (v := ?_) rfl (by kernel_rfl) (by kernel_rfl) (by kernel_rfl) (fun _ _ _ h => h) (Or.inl ⟨by rfl, ?_⟩) ?_
        rotate_left 1
        · (intro w; go_simp; try with_reducible rfl)
        simp only [Act.put, List.setIfInBounds_toArray, List.set_cons_zero, List.set_cons_succ]
        refine wpAny_ready (rs := [12]) (by kernel_rfl) (by simp) ?_
        refine AllReady.cons (o := ⟨none, _, _, _, _, _⟩) rfl (fun K hK => ?_) AllReady.nil
        have HF := hide (HST.out _ _ K4.out.bel K4.out.row)
        have hfr := HFR.out _ K4.out.bel
        have hp3 := (HS.out _ K4.out.bel).1
        go_simp
        refine hK _ _ ?_
        clear hK K
        refine wpAny_done (by kernel_rfl) ?_ _
        go_wp2
        go_ret2
        exact ⟨rfl, HF.out.1, HF.out.2⟩
      · obtain ⟨hq0, hq1, hq2⟩ := (HS.out _ K1.out.bel).2
        go_simp
        clear hq0 hq1 hq2
        refine hK _ _ ?_
        clear hK K
        refine wpAny_ready (rs := [6, 8]) (by kernel_rfl) (by simp) ?_
        refine AllReady.cons (o := ⟨some 23, _, _, _, _, _⟩) rfl (fun K hK => ?_) (AllReady.cons (o := ⟨some 25, _, _, _, _, _⟩) rfl (fun K hK => ?_) AllReady.nil)
        · refine step_append_calls (by rfl) (.tmp 18) (.tmp 22) rfl K1.out.row rfl A n cp L rfl Hn.out (HL.out _ K1.out.bel) (by have := HL4.out; have := Hn.out; simp; omega) K1.out.bel.size ?_
          intro v1 v1w hr hg ho
          have K2 := hide (K1.out.joined hr hg ho)
          clear hr hg ho
          refine hK _ _ ?_
          clear hK K
          refine wpAny_ready (rs := [8]) (by kernel_rfl) (by simp) ?_
          refine AllReady.cons (o := ⟨some 25, _, _, _, _, _⟩) rfl (fun K hK => ?_) AllReady.nil
          go_simp
          have K3 := hide (K2.out.one (c := c))
          generalize World.alloc _ _ = WK3 at *
          refine hK _ _ ?_
          clear hK K
          refine wpAny_ready (rs := [9]) (by kernel_rfl) (by simp) ?_
          refine AllReady.cons (o := ⟨some 26, _, _, _, _, _⟩) rfl (fun K hK => ?_) AllReady.nil
          refine step_append_calls (by rfl) (.tmp 23) (.tmp 25) rfl K3.out.row rfl _ 1 1 [c] rfl rfl K3.out.cas (by have := HL4.out; omega) K3.out.bel.size ?_
          intro v2 v2w hr hg _
          have K4 := hide (K3.out.joined2 hr hg)
          clear hr hg
          obtain ⟨A9, c9, hv9, _, _, _⟩ := K4.out.row.form
          obtain ⟨n9, hn9⟩ : ∃ n9, (L ++ [c]).length = n9 := ⟨_, rfl⟩
          rw [hn9] at hv9
          subst hv9
          clear hn9
          refine hK _ _ ?_
          clear hK K
          refine wpAny_take (i := 10) (oi := ⟨some 27, _, _, _, _, _⟩) (v := ?_) rfl (by kernel_rfl) (by kernel_rfl) (by kernel_rfl) (fun _ _ _ h => h) (Or.inl ⟨by rfl, ?_⟩) ?_
          rotate_left 1
          · (intro w; go_simp; try with_reducible rfl)
          simp only [Act.put, List.setIfInBounds_toArray, List.set_cons_zero, List.set_cons_succ]
          refine wpAny_take (i := 11) (oi := ⟨some 28, _, _, _, _, _⟩) (v := ?_) rfl (by kernel_rfl) (by kernel_rfl) (by kernel_rfl) (fun _ _ _ h => h) (Or.inl ⟨by rfl, ?_⟩) ?_
          rotate_left 1
          · (intro w; go_simp; try with_reducible rfl)
          simp only [Act.put, List.setIfInBounds_toArray, List.set_cons_zero, List.set_cons_succ]
          refine wpAny_ready (rs := [12]) (by kernel_rfl) (by simp) ?_
          refine AllReady.cons (o := ⟨none, _, _, _, _, _⟩) rfl (fun K hK => ?_) AllReady.nil
          have HF := hide (HST.out _ _ K4.out.bel K4.out.row)
          have hfr := HFR.out _ K4.out.bel
          have hp3 := (HS.out _ K4.out.bel).1
          go_simp
          refine hK _ _ ?_
          clear hK K
          refine wpAny_done (by kernel_rfl) ?_ _
          go_wp2
          go_ret2
          exact ⟨rfl, HF.out.1, HF.out.2⟩
        · go_simp
          have K2 := hide (K1.out.one (c := c))
          generalize World.alloc _ _ = WK2 at *
          refine hK _ _ ?_
          clear hK K
          refine wpAny_ready (rs := [6]) (by kernel_rfl) (by simp) ?_
          refine AllReady.cons (o := ⟨some 23, _, _, _, _, _⟩) rfl (fun K hK => ?_) AllReady.nil
          refine step_append_calls (by rfl) (.tmp 18) (.tmp 22) rfl K2.out.row rfl A n cp L rfl Hn.out (HL.out _ K2.out.bel) (by have := HL4.out; have := Hn.out; simp; omega) K2.out.bel.size ?_
          intro v1 v1w hr hg ho
          have K3 := hide (K2.out.joined hr hg ho)
          clear hr hg ho
          refine hK _ _ ?_
          clear hK K
          refine wpAny_ready (rs := [9]) (by kernel_rfl) (by simp) ?_
          refine AllReady.cons (o := ⟨some 26, _, _, _, _, _⟩) rfl (fun K hK => ?_) AllReady.nil
          refine step_append_calls (by rfl) (.tmp 23) (.tmp 25) rfl K3.out.row rfl _ 1 1 [c] rfl rfl K3.out.cas (by have := HL4.out; omega) K3.out.bel.size ?_
          intro v2 v2w hr hg _
          have K4 := hide (K3.out.joined2 hr hg)
          clear hr hg
          obtain ⟨A9, c9, hv9, _, _, _⟩ := K4.out.row.form
          obtain ⟨n9, hn9⟩ : ∃ n9, (L ++ [c]).length = n9 := ⟨_, rfl⟩
          rw [hn9] at hv9
          subst hv9
          clear hn9
          refine hK _ _ ?_
          clear hK K
          refine wpAny_take (i := 10) (oi := ⟨some 27, _, _, _, _, _⟩) (v := ?_) rfl (by kernel_rfl) (by kernel_rfl) (by kernel_rfl) (fun _ _ _ h => h) (Or.inl ⟨by rfl, ?_⟩) ?_
          rotate_left 1
          · (intro w; go_simp; try with_reducible rfl)
          simp only [Act.put, List.setIfInBounds_toArray, List.set_cons_zero, List.set_cons_succ]
          refine wpAny_take (i := 11) (oi := ⟨some 28, _, _, _, _, _⟩) (v := ?_) rfl (by kernel_rfl) (by kernel_rfl) (by kernel_rfl) (fun _ _ _ h => h) (Or.inl ⟨by rfl, ?_⟩) ?_
          rotate_left 1
          · (intro w; go_simp; try with_reducible rfl)
          simp only [Act.put, List.setIfInBounds_toArray, List.set_cons_zero, List.set_cons_succ]
          refine wpAny_ready (rs := [12]) (by kernel_rfl) (by simp) ?_
          refine AllReady.cons (o := ⟨none, _, _, _, _, _⟩) rfl (fun K hK => ?_) AllReady.nil
          have HF := hide (HST.out _ _ K4.out.bel K4.out.row)
          have hfr := HFR.out _ K4.out.bel
          have hp3 := (HS.out _ K4.out.bel).1
          go_simp
          refine hK _ _ ?_
          clear hK K
          refine wpAny_done (by kernel_rfl) ?_ _
          go_wp2
          go_ret2
          exact ⟨rfl, HF.out.1, HF.out.2⟩
    · obtain ⟨hq0, hq1, hq2⟩ := (HS.out _ K0.out.bel).2
      go_simp
      clear hq0 hq1 hq2
      refine hK _ _ ?_
      clear hK K
      refine wpAny_ready (rs := [1, 8]) (by kernel_rfl) (by simp) ?_
      refine AllReady.cons (o := ⟨some 18, _, _, _, _, _⟩) rfl (fun K hK => ?_) (AllReady.cons (o := ⟨some 25, _, _, _, _, _⟩) rfl (fun K hK => ?_) AllReady.nil)
      · go_simp
        have K1 := hide (K0.out.empty)
        generalize World.alloc _ _ = WK1 at *
        refine hK _ _ ?_
        clear hK K
        refine wpAny_ready (rs := [6, 8]) (by kernel_rfl) (by simp) ?_
        refine AllReady.cons (o := ⟨some 23, _, _, _, _, _⟩) rfl (fun K hK => ?_) (AllReady.cons (o := ⟨some 25, _, _, _, _, _⟩) rfl (fun K hK => ?_) AllReady.nil)
        · refine step_append_calls (by rfl) (.tmp 18) (.tmp 22) rfl K1.out.row rfl A n cp L rfl Hn.out (HL.out _ K1.out.bel) (by have := HL4.out; have := Hn.out; simp; omega) K1.out.bel.size ?_
          intro v1 v1w hr hg ho
          have K2 := hide (K1.out.joined hr hg ho)
          clear hr hg ho
          refine hK _ _ ?_
          clear hK K
          refine wpAny_ready (rs := [8]) (by kernel_rfl) (by simp) ?_
          refine AllReady.cons (o := ⟨some 25, _, _, _, _, _⟩) rfl (fun K hK => ?_) AllReady.nil
          go_simp
          have K3 := hide (K2.out.one (c := c))
          generalize World.alloc _ _ = WK3 at *
          refine hK _ _ ?_
          clear hK K
          refine wpAny_ready (rs := [9]) (by kernel_rfl) (by simp) ?_
          refine AllReady.cons (o := ⟨some 26, _, _, _, _, _⟩) rfl (fun K hK => ?_) AllReady.nil
          refine step_append_calls (by rfl) (.tmp 23) (.tmp 25) rfl K3.out.row rfl _ 1 1 [c] rfl rfl K3.out.cas (by have := HL4.out; omega) K3.out.bel.size ?_
          intro v2 v2w hr hg _
          have K4 := hide (K3.out.joined2 hr hg)
          clear hr hg
          obtain ⟨A9, c9, hv9, _, _, _⟩ := K4.out.row.form
          obtain ⟨n9, hn9⟩ : ∃ n9, (L ++ [c]).length = n9 := ⟨_, rfl⟩
          rw [hn9] at hv9
          subst hv9
          clear hn9
          refine hK _ _ ?_
          clear hK K
          refine wpAny_take (i := 10) (oi := ⟨some 27, _, _, _, _, _⟩) (v := ?_) rfl (by kernel_rfl) (by kernel_rfl) (by kernel_rfl) (fun _ _ _ h => h) (Or.inl ⟨by rfl, ?_⟩) ?_
          rotate_left 1
          · (intro w; go_simp; try with_reducible rfl)
          simp only [Act.put, List.setIfInBounds_toArray, List.set_cons_zero, List.set_cons_succ]
          refine wpAny_take (i := 11) (oi := ⟨some 28, _, _, _, _, _⟩) (v := ?_) rfl (by kernel_rfl) (by kernel_rfl) (by kernel_rfl) (fun _ _ _ h => h) (Or.inl ⟨by rfl, ?_⟩) ?_
          rotate_left 1
          · (intro w; go_simp; try with_reducible rfl)
          simp only [Act.put, List.setIfInBounds_toArray, List.set_cons_zero, List.set_cons_succ]
          refine wpAny_ready (rs := [12]) (by kernel_rfl) (by simp) ?_
          refine AllReady.cons (o := ⟨none, _, _, _, _, _⟩) rfl (fun K hK => ?_) AllReady.nil
          have HF := hide (HST.out _ _ K4.out.bel K4.out.row)
          have hfr := HFR.out _ K4.out.bel
          have hp3 := (HS.out _ K4.out.bel).1
          go_simp
          refine hK _ _ ?_
          clear hK K
          refine wpAny_done (by kernel_rfl) ?_ _
          go_wp2
          go_ret2
          exact ⟨rfl, HF.out.1, HF.out.2⟩
        · go_simp
          have K2 := hide (K1.out.one (c := c))
          generalize World.alloc _ _ = WK2 at *
          refine hK _ _ ?_
          clear hK K
          refine wpAny_ready (rs := [6]) (by kernel_rfl) (by simp) ?_
          refine AllReady.cons (o := ⟨some 23, _, _, _, _, _⟩) rfl (fun K hK => ?_) AllReady.nil
          refine step_append_calls (by rfl) (.tmp 18) (.tmp 22) rfl K2.out.row rfl A n cp L rfl Hn.out (HL.out _ K2.out.bel) (by have := HL4.out; have := Hn.out; simp; omega) K2.out.bel.size ?_
          intro v1 v1w hr hg ho
          have K3 := hide (K2.out.joined hr hg ho)
          clear hr hg ho
          refine hK _ _ ?_
          clear hK K
          refine wpAny_ready (rs := [9]) (by kernel_rfl) (by simp) ?_
          refine AllReady.cons (o := ⟨some 26, _, _, _, _, _⟩) rfl (fun K hK => ?_) AllReady.nil
          refine step_append_calls (by rfl) (.tmp 23) (.tmp 25) rfl K3.out.row rfl _ 1 1 [c] rfl rfl K3.out.cas (by have := HL4.out; omega) K3.out.bel.size ?_
          intro v2 v2w hr hg _
          have K4 := hide (K3.out.joined2 hr hg)
          clear hr hg
          obtain ⟨A9, c9, hv9, _, _, _⟩ := K4.out.row.form
          obtain ⟨n9, hn9⟩ : ∃ n9, (L ++ [c]).length = n9 := ⟨_, rfl⟩
          rw [hn9] at hv9
          subst hv9
          clear hn9
          refine hK _ _ ?_
          clear hK K
          refine wpAny_take (i := 10) (oi := ⟨some 27, _, _, _, _, _⟩) (v := ?_) rfl (by kernel_rfl) (by kernel_rfl) (by kernel_rfl) (fun _ _ _ h => h) (Or.inl ⟨by rfl, ?_⟩) ?_
          rotate_left 1
          · (intro w; go_simp; try with_reducible rfl)
          simp only [Act.put, List.setIfInBounds_toArray, List.set_cons_zero, List.set_cons_succ]
          refine wpAny_take (i := 11) (oi := ⟨some 28, _, _, _, _, _⟩) (v := ?_) rfl (by kernel_rfl) (by kernel_rfl) (by kernel_rfl) (fun _ _ _ h => h) (Or.inl ⟨by rfl, ?_⟩) ?_
          rotate_left 1
          · (intro w; go_simp; try with_reducible rfl)
          simp only [Act.put, List.setIfInBounds_toArray, List.set_cons_zero, List.set_cons_succ]
          refine wpAny_ready (rs := [12]) (by kernel_rfl) (by simp) ?_
          refine AllReady.cons (o := ⟨none, _, _, _, _, _⟩) rfl (fun K hK => ?_) AllReady.nil
          have HF := hide (HST.out _ _ K4.out.bel K4.out.row)
          have hfr := HFR.out _ K4.out.bel
          have hp3 := (HS.out _ K4.out.bel).1
          go_simp
          refine hK _ _ ?_
          clear hK K
          refine wpAny_done (by kernel_rfl) ?_ _
          go_wp2
          go_ret2
          exact ⟨rfl, HF.out.1, HF.out.2⟩
      · go_simp
        have K1 := hide (K0.out.one (c := c))
        generalize World.alloc _ _ = WK1 at *
        refine hK _ _ ?_
        clear hK K
        refine wpAny_ready (rs := [1]) (by kernel_rfl) (by simp) ?_
        refine AllReady.cons (o := ⟨some 18, _, _, _, _, _⟩) rfl (fun K hK => ?_) AllReady.nil
        go_simp
        have K2 := hide (K1.out.empty)
        generalize World.alloc _ _ = WK2 at *
        refine hK _ _ ?_
        clear hK K
        refine wpAny_ready (rs := [6]) (by kernel_rfl) (by simp) ?_
        refine AllReady.cons (o := ⟨some 23, _, _, _, _, _⟩) rfl (fun K hK => ?_) AllReady.nil
        refine step_append_calls (by rfl) (.tmp 18) (.tmp 22) rfl K2.out.row rfl A n cp L rfl Hn.out (HL.out _ K2.out.bel) (by have := HL4.out; have := Hn.out; simp; omega) K2.out.bel.size ?_
        intro v1 v1w hr hg ho
        have K3 := hide (K2.out.joined hr hg ho)
        clear hr hg ho
        refine hK _ _ ?_
        clear hK K
        refine wpAny_ready (rs := [9]) (by kernel_rfl) (by simp) ?_
        refine AllReady.cons (o := ⟨some 26, _, _, _, _, _⟩) rfl (fun K hK => ?_) AllReady.nil
        refine step_append_calls (by rfl) (.tmp 23) (.tmp 25) rfl K3.out.row rfl _ 1 1 [c] rfl rfl K3.out.cas (by have := HL4.out; omega) K3.out.bel.size ?_
        intro v2 v2w hr hg _
        have K4 := hide (K3.out.joined2 hr hg)
        clear hr hg
        obtain ⟨A9, c9, hv9, _, _, _⟩ := K4.out.row.form
        obtain ⟨n9, hn9⟩ : ∃ n9, (L ++ [c]).length = n9 := ⟨_, rfl⟩
        rw [hn9] at hv9
        subst hv9
        clear hn9
        refine hK _ _ ?_
        clear hK K
        refine wpAny_take (i := 10) (oi := ⟨some 27, _, _, _, _, _⟩) (v := ?_) rfl (by kernel_rfl) (by kernel_rfl) (by kernel_rfl) (fun _ _ _ h => h) (Or.inl ⟨by rfl, ?_⟩) ?_
        rotate_left 1
        · (intro w; go_simp; try with_reducible rfl)
        simp only [Act.put, List.setIfInBounds_toArray, List.set_cons_zero, List.set_cons_succ]
        refine wpAny_take (i := 11) (oi := ⟨some 28, _, _, _, _, _⟩) (v := ?_) rfl (by kernel_rfl) (by kernel_rfl) (by kernel_rfl) (fun _ _ _ h => h) (Or.inl ⟨by rfl, ?_⟩) ?_
        rotate_left 1
        · (intro w; go_simp; try with_reducible rfl)
        simp only [Act.put, List.setIfInBounds_toArray, List.set_cons_zero, List.set_cons_succ]
        refine wpAny_ready (rs := [12]) (by kernel_rfl) (by simp) ?_
        refine AllReady.cons (o := ⟨none, _, _, _, _, _⟩) rfl (fun K hK => ?_) AllReady.nil
        have HF := hide (HST.out _ _ K4.out.bel K4.out.row)
        have hfr := HFR.out _ K4.out.bel
        have hp3 := (HS.out _ K4.out.bel).1
        go_simp
        refine hK _ _ ?_
        clear hK K
        refine wpAny_done (by kernel_rfl) ?_ _
        go_wp2
        go_ret2
        exact ⟨rfl, HF.out.1, HF.out.2⟩
  · obtain ⟨hq0, hq1, hq2⟩ := (HS.out _ K0.out.bel).2
    go_simp
    clear hq0 hq1 hq2
    refine hK _ _ ?_
    clear hK K
    refine wpAny_ready (rs := [1, 5, 8]) (by kernel_rfl) (by simp) ?_
    refine AllReady.cons (o := ⟨some 18, _, _, _, _, _⟩) rfl (fun K hK => ?_) (AllReady.cons (o := ⟨some 22, _, _, _, _, _⟩) rfl (fun K hK => ?_) (AllReady.cons (o := ⟨some 25, _, _, _, _, _⟩) rfl (fun K hK => ?_) AllReady.nil))
    · go_simp
      have K1 := hide (K0.out.empty)
      generalize World.alloc _ _ = WK1 at *
      refine hK _ _ ?_
      clear hK K
      refine wpAny_ready (rs := [5, 8]) (by kernel_rfl) (by simp) ?_
      refine AllReady.cons (o := ⟨some 22, _, _, _, _, _⟩) rfl (fun K hK => ?_) (AllReady.cons (o := ⟨some 25, _, _, _, _, _⟩) rfl (fun K hK => ?_) AllReady.nil)
      · have hq := (HS.out _ K1.out.bel).1
        go_simp
        clear hq
        refine hK _ _ ?_
        clear hK K
        refine wpAny_ready (rs := [6, 8]) (by kernel_rfl) (by simp) ?_
        refine AllReady.cons (o := ⟨some 23, _, _, _, _, _⟩) rfl (fun K hK => ?_) (AllReady.cons (o := ⟨some 25, _, _, _, _, _⟩) rfl (fun K hK => ?_) AllReady.nil)
        · refine step_append_calls (by rfl) (.tmp 18) (.tmp 22) rfl K1.out.row rfl A n cp L rfl Hn.out (HL.out _ K1.out.bel) (by have := HL4.out; have := Hn.out; simp; omega) K1.out.bel.size ?_
          intro v1 v1w hr hg ho
          have K2 := hide (K1.out.joined hr hg ho)
          clear hr hg ho
          refine hK _ _ ?_
          clear hK K
          refine wpAny_ready (rs := [8]) (by kernel_rfl) (by simp) ?_
          refine AllReady.cons (o := ⟨some 25, _, _, _, _, _⟩) rfl (fun K hK => ?_) AllReady.nil
          go_simp
          have K3 := hide (K2.out.one (c := c))
          generalize World.alloc _ _ = WK3 at *
          refine hK _ _ ?_
          clear hK K
          refine wpAny_ready (rs := [9]) (by kernel_rfl) (by simp) ?_
          refine AllReady.cons (o := ⟨some 26, _, _, _, _, _⟩) rfl (fun K hK => ?_) AllReady.nil
          refine step_append_calls (by rfl) (.tmp 23) (.tmp 25) rfl K3.out.row rfl _ 1 1 [c] rfl rfl K3.out.cas (by have := HL4.out; omega) K3.out.bel.size ?_
          intro v2 v2w hr hg _
          have K4 := hide (K3.out.joined2 hr hg)
          clear hr hg
          obtain ⟨A9, c9, hv9, _, _, _⟩ := K4.out.row.form
          obtain ⟨n9, hn9⟩ : ∃ n9, (L ++ [c]).length = n9 := ⟨_, rfl⟩
          rw [hn9] at hv9
          subst hv9
          clear hn9
          refine hK _ _ ?_
          clear hK K
          refine wpAny_take (i := 10) (oi := ⟨some 27, _, _, _, _, _⟩) (v := ?_) rfl (by kernel_rfl) (by kernel_rfl) (by kernel_rfl) (fun _ _ _ h => h) (Or.inl ⟨by rfl, ?_⟩) ?_
          rotate_left 1
          · (intro w; go_simp; try with_reducible rfl)
          simp only [Act.put, List.setIfInBounds_toArray, List.set_cons_zero, List.set_cons_succ]
          refine wpAny_take (i := 11) (oi := ⟨some 28, _, _, _, _, _⟩) (v := ?_) rfl (by kernel_rfl) (by kernel_rfl) (by kernel_rfl) (fun _ _ _ h => h) (Or.inl ⟨by rfl, ?_⟩) ?_
          rotate_left 1
          · (intro w; go_simp; try with_reducible rfl)
          simp only [Act.put, List.setIfInBounds_toArray, List.set_cons_zero, List.set_cons_succ]
          refine wpAny_ready (rs := [12]) (by kernel_rfl) (by simp) ?_
          refine AllReady.cons (o := ⟨none, _, _, _, _, _⟩) rfl (fun K hK => ?_) AllReady.nil
          have HF := hide (HST.out _ _ K4.out.bel K4.out.row)
          have hfr := HFR.out _ K4.out.bel
          have hp3 := (HS.out _ K4.out.bel).1
          go_simp
          refine hK _ _ ?_
          clear hK K
          refine wpAny_done (by kernel_rfl) ?_ _
          go_wp2
          go_ret2
          exact ⟨rfl, HF.out.1, HF.out.2⟩
        · go_simp
          have K2 := hide (K1.out.one (c := c))
          generalize World.alloc _ _ = WK2 at *
          refine hK _ _ ?_
          clear hK K
          refine wpAny_ready (rs := [6]) (by kernel_rfl) (by simp) ?_
          refine AllReady.cons (o := ⟨some 23, _, _, _, _, _⟩) rfl (fun K hK => ?_) AllReady.nil
          refine step_append_calls (by rfl) (.tmp 18) (.tmp 22) rfl K2.out.row rfl A n cp L rfl Hn.out (HL.out _ K2.out.bel) (by have := HL4.out; have := Hn.out; simp; omega) K2.out.bel.size ?_
          intro v1 v1w hr hg ho
          have K3 := hide (K2.out.joined hr hg ho)
          clear hr hg ho
          refine hK _ _ ?_
          clear hK K
          refine wpAny_ready (rs := [9]) (by kernel_rfl) (by simp) ?_
          refine AllReady.cons (o := ⟨some 26, _, _, _, _, _⟩) rfl (fun K hK => ?_) AllReady.nil
          refine step_append_calls (by rfl) (.tmp 23) (.tmp 25) rfl K3.out.row rfl _ 1 1 [c] rfl rfl K3.out.cas (by have := HL4.out; omega) K3.out.bel.size ?_
          intro v2 v2w hr hg _
          have K4 := hide (K3.out.joined2 hr hg)
          clear hr hg
          obtain ⟨A9, c9, hv9, _, _, _⟩ := K4.out.row.form
          obtain ⟨n9, hn9⟩ : ∃ n9, (L ++ [c]).length = n9 := ⟨_, rfl⟩
          rw [hn9] at hv9
          subst hv9
          clear hn9
          refine hK _ _ ?_
          clear hK K
          refine wpAny_take (i := 10) (oi := ⟨some 27, _, _, _, _, _⟩) (v := ?_) rfl (by kernel_rfl) (by kernel_rfl) (by kernel_rfl) (fun _ _ _ h => h) (Or.inl ⟨by rfl, ?_⟩) ?_
          rotate_left 1
          · (intro w; go_simp; try with_reducible rfl)
          simp only [Act.put, List.setIfInBounds_toArray, List.set_cons_zero, List.set_cons_succ]
          refine wpAny_take (i := 11) (oi := ⟨some 28, _, _, _, _, _⟩) (v := ?_) rfl (by kernel_rfl) (by kernel_rfl) (by kernel_rfl) (fun _ _ _ h => h) (Or.inl ⟨by rfl, ?_⟩) ?_
          rotate_left 1
          · (intro w; go_simp; try with_reducible rfl)
          simp only [Act.put, List.setIfInBounds_toArray, List.set_cons_zero, List.set_cons_succ]
          refine wpAny_ready (rs := [12]) (by kernel_rfl) (by simp) ?_
          refine AllReady.cons (o := ⟨none, _, _, _, _, _⟩) rfl (fun K hK => ?_) AllReady.nil
          have HF := hide (HST.out _ _ K4.out.bel K4.out.row)
          have hfr := HFR.out _ K4.out.bel
          have hp3 := (HS.out _ K4.out.bel).1
          go_simp
          refine hK _ _ ?_
          clear hK K
          refine wpAny_done (by kernel_rfl) ?_ _
          go_wp2
          go_ret2
          exact ⟨rfl, HF.out.1, HF.out.2⟩
      · go_simp
        have K2 := hide (K1.out.one (c := c))
        generalize World.alloc _ _ = WK2 at *
        refine hK _ _ ?_
        clear hK K
        refine wpAny_ready (rs := [5]) (by kernel_rfl) (by simp) ?_
        refine AllReady.cons (o := ⟨some 22, _, _, _, _, _⟩) rfl (fun K hK => ?_) AllReady.nil
        have hq := (HS.out _ K2.out.bel).1
        go_simp
        clear hq
        refine hK _ _ ?_
        clear hK K
        refine wpAny_ready (rs := [6]) (by kernel_rfl) (by simp) ?_
        refine AllReady.cons (o := ⟨some 23, _, _, _, _, _⟩) rfl (fun K hK => ?_) AllReady.nil
        refine step_append_calls (by rfl) (.tmp 18) (.tmp 22) rfl K2.out.row rfl A n cp L rfl Hn.out (HL.out _ K2.out.bel) (by have := HL4.out; have := Hn.out; simp; omega) K2.out.bel.size ?_
        intro v1 v1w hr hg ho
        have K3 := hide (K2.out.joined hr hg ho)
        clear hr hg ho
        refine hK _ _ ?_
        clear hK K
        refine wpAny_ready (rs := [9]) (by kernel_rfl) (by simp) ?_
        refine AllReady.cons (o := ⟨some 26, _, _, _, _, _⟩) rfl (fun K hK => ?_) AllReady.nil
        refine step_append_calls (by rfl) (.tmp 23) (.tmp 25) rfl K3.out.row rfl _ 1 1 [c] rfl rfl K3.out.cas (by have := HL4.out; omega) K3.out.bel.size ?_
        intro v2 v2w hr hg _
        have K4 := hide (K3.out.joined2 hr hg)
        clear hr hg
        obtain ⟨A9, c9, hv9, _, _, _⟩ := K4.out.row.form
        obtain ⟨n9, hn9⟩ : ∃ n9, (L ++ [c]).length = n9 := ⟨_, rfl⟩
        rw [hn9] at hv9
        subst hv9
        clear hn9
        refine hK _ _ ?_
        clear hK K
        refine wpAny_take (i := 10) (oi := ⟨some 27, _, _, _, _, _⟩) (v := ?_) rfl (by kernel_rfl) (by kernel_rfl) (by kernel_rfl) (fun _ _ _ h => h) (Or.inl ⟨by rfl, ?_⟩) ?_
        rotate_left 1
        · (intro w; go_simp; try with_reducible rfl)
        simp only [Act.put, List.setIfInBounds_toArray, List.set_cons_zero, List.set_cons_succ]
        refine wpAny_take (i := 11) (oi := ⟨some 28, _, _, _, _, _⟩) (v := ?_) rfl (by kernel_rfl) (by kernel_rfl) (by kernel_rfl) (fun _ _ _ h => h) (Or.inl ⟨by rfl, ?_⟩) ?_
        rotate_left 1
        · (intro w; go_simp; try with_reducible rfl)
        simp only [Act.put, List.setIfInBounds_toArray, List.set_cons_zero, List.set_cons_succ]
        refine wpAny_ready (rs := [12]) (by kernel_rfl) (by simp) ?_
        refine AllReady.cons (o := ⟨none, _, _, _, _, _⟩) rfl (fun K hK => ?_) AllReady.nil
        have HF := hide (HST.out _ _ K4.out.bel K4.out.row)
        have hfr := HFR.out _ K4.out.bel
        have hp3 := (HS.out _ K4.out.bel).1
        go_simp
        refine hK _ _ ?_
        clear hK K
        refine wpAny_done (by kernel_rfl) ?_ _
        go_wp2
        go_ret2
        exact ⟨rfl, HF.out.1, HF.out.2⟩
    · have hq := (HS.out _ K0.out.bel).1
      go_simp
      clear hq
      refine hK _ _ ?_
      clear hK K
      refine wpAny_ready (rs := [1, 8]) (by kernel_rfl) (by simp) ?_
      refine AllReady.cons (o := ⟨some 18, _, _, _, _, _⟩) rfl (fun K hK => ?_) (AllReady.cons (o := ⟨some 25, _, _, _, _, _⟩) rfl (fun K hK => ?_) AllReady.nil)
      · go_simp
        have K1 := hide (K0.out.empty)
        generalize World.alloc _ _ = WK1 at *
        refine hK _ _ ?_
        clear hK K
        refine wpAny_ready (rs := [6, 8]) (by kernel_rfl) (by simp) ?_
        refine AllReady.cons (o := ⟨some 23, _, _, _, _, _⟩) rfl (fun K hK => ?_) (AllReady.cons (o := ⟨some 25, _, _, _, _, _⟩) rfl (fun K hK => ?_) AllReady.nil)
        · refine step_append_calls (by rfl) (.tmp 18) (.tmp 22) rfl K1.out.row rfl A n cp L rfl Hn.out (HL.out _ K1.out.bel) (by have := HL4.out; have := Hn.out; simp; omega) K1.out.bel.size ?_
          intro v1 v1w hr hg ho
          have K2 := hide (K1.out.joined hr hg ho)
          clear hr hg ho
          refine hK _ _ ?_
          clear hK K
          refine wpAny_ready (rs := [8]) (by kernel_rfl) (by simp) ?_
          refine AllReady.cons (o := ⟨some 25, _, _, _, _, _⟩) rfl (fun K hK => ?_) AllReady.nil
          go_simp
          have K3 := hide (K2.out.one (c := c))
          generalize World.alloc _ _ = WK3 at *
          refine hK _ _ ?_
          clear hK K
          refine wpAny_ready (rs := [9]) (by kernel_rfl) (by simp) ?_
          refine AllReady.cons (o := ⟨some 26, _, _, _, _, _⟩) rfl (fun K hK => ?_) AllReady.nil
          refine step_append_calls (by rfl) (.tmp 23) (.tmp 25) rfl K3.out.row rfl _ 1 1 [c] rfl rfl K3.out.cas (by have := HL4.out; omega) K3.out.bel.size ?_
          intro v2 v2w hr hg _
          have K4 := hide (K3.out.joined2 hr hg)
          clear hr hg
          obtain ⟨A9, c9, hv9, _, _, _⟩ := K4.out.row.form
          obtain ⟨n9, hn9⟩ : ∃ n9, (L ++ [c]).length = n9 := ⟨_, rfl⟩
          rw [hn9] at hv9
          subst hv9
          clear hn9
          refine hK _ _ ?_
          clear hK K
          refine wpAny_take (i := 10) (oi := ⟨some 27, _, _, _, _, _⟩) (v := ?_) rfl (by kernel_rfl) (by kernel_rfl) (by kernel_rfl) (fun _ _ _ h => h) (Or.inl ⟨by rfl, ?_⟩) ?_
          rotate_left 1
          · (intro w; go_simp; try with_reducible rfl)
          simp only [Act.put, List.setIfInBounds_toArray, List.set_cons_zero, List.set_cons_succ]
          refine wpAny_take (i := 11) (oi := ⟨some 28, _, _, _, _, _⟩) (v := ?_) rfl (by kernel_rfl) (by kernel_rfl) (by kernel_rfl) (fun _ _ _ h => h) (Or.inl ⟨by rfl, ?_⟩) ?_
          rotate_left 1
          · (intro w; go_simp; try with_reducible rfl)
          simp only [Act.put, List.setIfInBounds_toArray, List.set_cons_zero, List.set_cons_succ]
          refine wpAny_ready (rs := [12]) (by kernel_rfl) (by simp) ?_
          refine AllReady.cons (o := ⟨none, _, _, _, _, _⟩) rfl (fun K hK => ?_) AllReady.nil
          have HF := hide (HST.out _ _ K4.out.bel K4.out.row)
          have hfr := HFR.out _ K4.out.bel
          have hp3 := (HS.out _ K4.out.bel).1
          go_simp
          refine hK _ _ ?_
          clear hK K
          refine wpAny_done (by kernel_rfl) ?_ _
          go_wp2
          go_ret2
          exact ⟨rfl, HF.out.1, HF.out.2⟩
        · go_simp
          have K2 := hide (K1.out.one (c := c))
          generalize World.alloc _ _ = WK2 at *
          refine hK _ _ ?_
          clear hK K
          refine wpAny_ready (rs := [6]) (by kernel_rfl) (by simp) ?_
          refine AllReady.cons (o := ⟨some 23, _, _, _, _, _⟩) rfl (fun K hK => ?_) AllReady.nil
          refine step_append_calls (by rfl) (.tmp 18) (.tmp 22) rfl K2.out.row rfl A n cp L rfl Hn.out (HL.out _ K2.out.bel) (by have := HL4.out; have := Hn.out; simp; omega) K2.out.bel.size ?_
          intro v1 v1w hr hg ho
          have K3 := hide (K2.out.joined hr hg ho)
          clear hr hg ho
          refine hK _ _ ?_
          clear hK K
          refine wpAny_ready (rs := [9]) (by kernel_rfl) (by simp) ?_
          refine AllReady.cons (o := ⟨some 26, _, _, _, _, _⟩) rfl (fun K hK => ?_) AllReady.nil
          refine step_append_calls (by rfl) (.tmp 23) (.tmp 25) rfl K3.out.row rfl _ 1 1 [c] rfl rfl K3.out.cas (by have := HL4.out; omega) K3.out.bel.size ?_
          intro v2 v2w hr hg _
          have K4 := hide (K3.out.joined2 hr hg)
          clear hr hg
          obtain ⟨A9, c9, hv9, _, _, _⟩ := K4.out.row.form
          obtain ⟨n9, hn9⟩ : ∃ n9, (L ++ [c]).length = n9 := ⟨_, rfl⟩
          rw [hn9] at hv9
          subst hv9
          clear hn9
          refine hK _ _ ?_
          clear hK K
          refine wpAny_take (i := 10) (oi := ⟨some 27, _, _, _, _, _⟩) (v := ?_) rfl (by kernel_rfl) (by kernel_rfl) (by kernel_rfl) (fun _ _ _ h => h) (Or.inl ⟨by rfl, ?_⟩) ?_
          rotate_left 1
          · (intro w; go_simp; try with_reducible rfl)
          simp only [Act.put, List.setIfInBounds_toArray, List.set_cons_zero, List.set_cons_succ]
          refine wpAny_take (i := 11) (oi := ⟨some 28, _, _, _, _, _⟩) (v := ?_) rfl (by kernel_rfl) (by kernel_rfl) (by kernel_rfl) (fun _ _ _ h => h) (Or.inl ⟨by rfl, ?_⟩) ?_
          rotate_left 1
          · (intro w; go_simp; try with_reducible rfl)
          simp only [Act.put, List.setIfInBounds_toArray, List.set_cons_zero, List.set_cons_succ]
          refine wpAny_ready (rs := [12]) (by kernel_rfl) (by simp) ?_
          refine AllReady.cons (o := ⟨none, _, _, _, _, _⟩) rfl (fun K hK => ?_) AllReady.nil
          have HF := hide (HST.out _ _ K4.out.bel K4.out.row)
          have hfr := HFR.out _ K4.out.bel
          have hp3 := (HS.out _ K4.out.bel).1
          go_simp
          refine hK _ _ ?_
          clear hK K
          refine wpAny_done (by kernel_rfl) ?_ _
          go_wp2
          go_ret2
          exact ⟨rfl, HF.out.1, HF.out.2⟩
      · go_simp
        have K1 := hide (K0.out.one (c := c))
        generalize World.alloc _ _ = WK1 at *
        refine hK _ _ ?_
        clear hK K
        refine wpAny_ready (rs := [1]) (by kernel_rfl) (by simp) ?_
        refine AllReady.cons (o := ⟨some 18, _, _, _, _, _⟩) rfl (fun K hK => ?_) AllReady.nil
        go_simp
        have K2 := hide (K1.out.empty)
        generalize World.alloc _ _ = WK2 at *
        refine hK _ _ ?_
        clear hK K
        refine wpAny_ready (rs := [6]) (by kernel_rfl) (by simp) ?_
        refine AllReady.cons (o := ⟨some 23, _, _, _, _, _⟩) rfl (fun K hK => ?_) AllReady.nil
        refine step_append_calls (by rfl) (.tmp 18) (.tmp 22) rfl K2.out.row rfl A n cp L rfl Hn.out (HL.out _ K2.out.bel) (by have := HL4.out; have := Hn.out; simp; omega) K2.out.bel.size ?_
        intro v1 v1w hr hg ho
        have K3 := hide (K2.out.joined hr hg ho)
        clear hr hg ho
        refine hK _ _ ?_
        clear hK K
        refine wpAny_ready (rs := [9]) (by kernel_rfl) (by simp) ?_
        refine AllReady.cons (o := ⟨some 26, _, _, _, _, _⟩) rfl (fun K hK => ?_) AllReady.nil
        refine step_append_calls (by rfl) (.tmp 23) (.tmp 25) rfl K3.out.row rfl _ 1 1 [c] rfl rfl K3.out.cas (by have := HL4.out; omega) K3.out.bel.size ?_
        intro v2 v2w hr hg _
        have K4 := hide (K3.out.joined2 hr hg)
        clear hr hg
        obtain ⟨A9, c9, hv9, _, _, _⟩ := K4.out.row.form
        obtain ⟨n9, hn9⟩ : ∃ n9, (L ++ [c]).length = n9 := ⟨_, rfl⟩
        rw [hn9] at hv9
        subst hv9
        clear hn9
        refine hK _ _ ?_
        clear hK K
        refine wpAny_take (i := 10) (oi := ⟨some 27, _, _, _, _, _⟩) (v := ?_) rfl (by kernel_rfl) (by kernel_rfl) (by kernel_rfl) (fun _ _ _ h => h) (Or.inl ⟨by rfl, ?_⟩) ?_
        rotate_left 1
        · (intro w; go_simp; try with_reducible rfl)
        simp only [Act.put, List.setIfInBounds_toArray, List.set_cons_zero, List.set_cons_succ]
        refine wpAny_take (i := 11) (oi := ⟨some 28, _, _, _, _, _⟩) (v := ?_) rfl (by kernel_rfl) (by kernel_rfl) (by kernel_rfl) (fun _ _ _ h => h) (Or.inl ⟨by rfl, ?_⟩) ?_
        rotate_left 1
        · (intro w; go_simp; try with_reducible rfl)
        simp only [Act.put, List.setIfInBounds_toArray, List.set_cons_zero, List.set_cons_succ]
        refine wpAny_ready (rs := [12]) (by kernel_rfl) (by simp) ?_
        refine AllReady.cons (o := ⟨none, _, _, _, _, _⟩) rfl (fun K hK => ?_) AllReady.nil
        have HF := hide (HST.out _ _ K4.out.bel K4.out.row)
        have hfr := HFR.out _ K4.out.bel
        have hp3 := (HS.out _ K4.out.bel).1
        go_simp
        refine hK _ _ ?_
        clear hK K
        refine wpAny_done (by kernel_rfl) ?_ _
        go_wp2
        go_ret2
        exact ⟨rfl, HF.out.1, HF.out.2⟩
    · go_simp
      have K1 := hide (K0.out.one (c := c))
      generalize World.alloc _ _ = WK1 at *
      refine hK _ _ ?_
      clear hK K
      refine wpAny_ready (rs := [1, 5]) (by kernel_rfl) (by simp) ?_
      refine AllReady.cons (o := ⟨some 18, _, _, _, _, _⟩) rfl (fun K hK => ?_) (AllReady.cons (o := ⟨some 22, _, _, _, _, _⟩) rfl (fun K hK => ?_) AllReady.nil)
      · go_simp
        have K2 := hide (K1.out.empty)
        generalize World.alloc _ _ = WK2 at *
        refine hK _ _ ?_
        clear hK K
        refine wpAny_ready (rs := [5]) (by kernel_rfl) (by simp) ?_
        refine AllReady.cons (o := ⟨some 22, _, _, _, _, _⟩) rfl (fun K hK => ?_) AllReady.nil
        have hq := (HS.out _ K2.out.bel).1
        go_simp
        clear hq
        refine hK _ _ ?_
        clear hK K
        refine wpAny_ready (rs := [6]) (by kernel_rfl) (by simp) ?_
        refine AllReady.cons (o := ⟨some 23, _, _, _, _, _⟩) rfl (fun K hK => ?_) AllReady.nil
        refine step_append_calls (by rfl) (.tmp 18) (.tmp 22) rfl K2.out.row rfl A n cp L rfl Hn.out (HL.out _ K2.out.bel) (by have := HL4.out; have := Hn.out; simp; omega) K2.out.bel.size ?_
        intro v1 v1w hr hg ho
        have K3 := hide (K2.out.joined hr hg ho)
        clear hr hg ho
        refine hK _ _ ?_
        clear hK K
        refine wpAny_ready (rs := [9]) (by kernel_rfl) (by simp) ?_
        refine AllReady.cons (o := ⟨some 26, _, _, _, _, _⟩) rfl (fun K hK => ?_) AllReady.nil
        refine step_append_calls (by rfl) (.tmp 23) (.tmp 25) rfl K3.out.row rfl _ 1 1 [c] rfl rfl K3.out.cas (by have := HL4.out; omega) K3.out.bel.size ?_
        intro v2 v2w hr hg _
        have K4 := hide (K3.out.joined2 hr hg)
        clear hr hg
        obtain ⟨A9, c9, hv9, _, _, _⟩ := K4.out.row.form
        obtain ⟨n9, hn9⟩ : ∃ n9, (L ++ [c]).length = n9 := ⟨_, rfl⟩
        rw [hn9] at hv9
        subst hv9
        clear hn9
        refine hK _ _ ?_
        clear hK K
        refine wpAny_take (i := 10) (oi := ⟨some 27, _, _, _, _, _⟩) (v := ?_) rfl (by kernel_rfl) (by kernel_rfl) (by kernel_rfl) (fun _ _ _ h => h) (Or.inl ⟨by rfl, ?_⟩) ?_
        rotate_left 1
        · (intro w; go_simp; try with_reducible rfl)
        simp only [Act.put, List.setIfInBounds_toArray, List.set_cons_zero, List.set_cons_succ]
        refine wpAny_take (i := 11) (oi := ⟨some 28, _, _, _, _, _⟩) (v := ?_) rfl (by kernel_rfl) (by kernel_rfl) (by kernel_rfl) (fun _ _ _ h => h) (Or.inl ⟨by rfl, ?_⟩) ?_
        rotate_left 1
        · (intro w; go_simp; try with_reducible rfl)
        simp only [Act.put, List.setIfInBounds_toArray, List.set_cons_zero, List.set_cons_succ]
        refine wpAny_ready (rs := [12]) (by kernel_rfl) (by simp) ?_
        refine AllReady.cons (o := ⟨none, _, _, _, _, _⟩) rfl (fun K hK => ?_) AllReady.nil
        have HF := hide (HST.out _ _ K4.out.bel K4.out.row)
        have hfr := HFR.out _ K4.out.bel
        have hp3 := (HS.out _ K4.out.bel).1
        go_simp
        refine hK _ _ ?_
        clear hK K
        refine wpAny_done (by kernel_rfl) ?_ _
        go_wp2
        go_ret2
        exact ⟨rfl, HF.out.1, HF.out.2⟩
      · have hq := (HS.out _ K1.out.bel).1
        go_simp
        clear hq
        refine hK _ _ ?_
        clear hK K
        refine wpAny_ready (rs := [1]) (by kernel_rfl) (by simp) ?_
        refine AllReady.cons (o := ⟨some 18, _, _, _, _, _⟩) rfl (fun K hK => ?_) AllReady.nil
        go_simp
        have K2 := hide (K1.out.empty)
        generalize World.alloc _ _ = WK2 at *
        refine hK _ _ ?_
        clear hK K
        refine wpAny_ready (rs := [6]) (by kernel_rfl) (by simp) ?_
        refine AllReady.cons (o := ⟨some 23, _, _, _, _, _⟩) rfl (fun K hK => ?_) AllReady.nil
        refine step_append_calls (by rfl) (.tmp 18) (.tmp 22) rfl K2.out.row rfl A n cp L rfl Hn.out (HL.out _ K2.out.bel) (by have := HL4.out; have := Hn.out; simp; omega) K2.out.bel.size ?_
        intro v1 v1w hr hg ho
        have K3 := hide (K2.out.joined hr hg ho)
        clear hr hg ho
        refine hK _ _ ?_
        clear hK K
        refine wpAny_ready (rs := [9]) (by kernel_rfl) (by simp) ?_
        refine AllReady.cons (o := ⟨some 26, _, _, _, _, _⟩) rfl (fun K hK => ?_) AllReady.nil
        refine step_append_calls (by rfl) (.tmp 23) (.tmp 25) rfl K3.out.row rfl _ 1 1 [c] rfl rfl K3.out.cas (by have := HL4.out; omega) K3.out.bel.size ?_
        intro v2 v2w hr hg _
        have K4 := hide (K3.out.joined2 hr hg)
        clear hr hg
        obtain ⟨A9, c9, hv9, _, _, _⟩ := K4.out.row.form
        obtain ⟨n9, hn9⟩ : ∃ n9, (L ++ [c]).length = n9 := ⟨_, rfl⟩
        rw [hn9] at hv9
        subst hv9
        clear hn9
        refine hK _ _ ?_
        clear hK K
        refine wpAny_take (i := 10) (oi := ⟨some 27, _, _, _, _, _⟩) (v := ?_) rfl (by kernel_rfl) (by kernel_rfl) (by kernel_rfl) (fun _ _ _ h => h) (Or.inl ⟨by rfl, ?_⟩) ?_
        rotate_left 1
        · (intro w; go_simp; try with_reducible rfl)
        simp only [Act.put, List.setIfInBounds_toArray, List.set_cons_zero, List.set_cons_succ]
        refine wpAny_take (i := 11) (oi := ⟨some 28, _, _, _, _, _⟩) (v := ?_) rfl (by kernel_rfl) (by kernel_rfl) (by kernel_rfl) (fun _ _ _ h => h) (Or.inl ⟨by rfl, ?_⟩) ?_
        rotate_left 1
        · (intro w; go_simp; try with_reducible rfl)
        simp only [Act.put, List.setIfInBounds_toArray, List.set_cons_zero, List.set_cons_succ]
        refine wpAny_ready (rs := [12]) (by kernel_rfl) (by simp) ?_
        refine AllReady.cons (o := ⟨none, _, _, _, _, _⟩) rfl (fun K hK => ?_) AllReady.nil
        have HF := hide (HST.out _ _ K4.out.bel K4.out.row)
        have hfr := HFR.out _ K4.out.bel
        have hp3 := (HS.out _ K4.out.bel).1
        go_simp
        refine hK _ _ ?_
        clear hK K
        refine wpAny_done (by kernel_rfl) ?_ _
        go_wp2
        go_ret2
        exact ⟨rfl, HF.out.1, HF.out.2⟩

end

end Go.Proofs.YtjholhmgainbfaaDoor.Ga
