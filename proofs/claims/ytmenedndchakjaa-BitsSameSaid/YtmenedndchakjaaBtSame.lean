/-
  BitsSame at all slices and numbers: it returns true, and changes nothing that was there.
-/
import Derived.Deep.DeepCutAuto
import Derived.Maps.AppendAt
import Derived.Test.YtmenedndchakjaaBtTwo
import Derived.Test.YtmenedndchakjaaBtOrder
namespace Go.Proofs.Ytmenedndchakjaa.Bt
open Go.RowKit
open Pk Sm

theorem fold_orr : ∀ (m : List Int) (S : BSet) (k : Nat), S.length = 8 → k < 8 → (m.foldl (fun S b => put S b true) S)[k]? = if (k : Int) ∈ m then some true else S[k]?
  | [], S, k, _, _ => by simp
  | b :: m, S, k, hS, hk => by
    rw [List.foldl_cons, fold_orr m _ k (by rw [put_length]; exact hS) hk, put_get S hS b true k hk]
    by_cases h1 : (k : Int) ∈ m
    · rw [if_pos h1, if_pos (List.mem_cons_of_mem _ h1)]
    · rw [if_neg h1]
      by_cases h2 : b = (k : Int)
      · rw [if_pos h2, if_pos (by rw [h2]; exact List.mem_cons_self ..)]
      · rw [if_neg h2, if_neg (fun h => (List.mem_cons.1 h).elim (fun e => h2 e.symm) h1)]
theorem of_append (l m : List Int) : of (l ++ m) = orr (of l) (of m) := by
  refine same_of (of_length _) (by rw [orr_length]; exact of_length _) fun k hk => ?_
  rw [orr_get (of_length _) (of_length _) k hk, of_mem m k hk]
  show ((l ++ m).foldl (fun S b => put S b true) empty)[k]? = _
  rw [List.foldl_append]
  show (m.foldl (fun S b => put S b true) (of l))[k]? = _
  rw [fold_orr m (of l) k (of_length _) hk]
  by_cases h : (k : Int) ∈ m
  · rw [if_pos h, if_pos (by rw [decide_eq_true h])]
  · rw [if_neg h, if_neg (by rw [decide_eq_false h]; simp)]

theorem two_alloc {w W : World} {g h : Nat} {S O : BSet} (t : Two w g h S O W) (o : Obj) : Two w g h S O (W.alloc o) := ⟨t.one.alloc o, t.two.alloc o, t.bel.alloc t.bel.size o⟩
/-- A step that turned one row laid behind both sets. -/
theorem two_grown {w W W' : World} {g h B : Nat} {S O : BSet} {v : Value} (t : Two w g h S O W) (hg : W.grownBy W' v.ownBlock) (hv : ∀ k, v.ownBlock = some k → B ≤ k) (hB : g < B ∧ h < B ∧ w.heap.size ≤ B) : Two w g h S O W' := by
  have hne : ∀ k, k < B → some k ≠ v.ownBlock := fun k hk e => by have := hv k e.symm; omega
  exact ⟨(hg.block g t.one.lt (hne g hB.1)).trans t.one, (hg.block h t.two.lt (hne h hB.2.1)).trans t.two, t.bel.grown hg t.bel.size (fun k e => Nat.le_trans hB.2.2 (hv k e))⟩
/-- .. whose block is one of those that are there. -/
def Own7 (W : World) (base : Nat) (v : Value) (l : List Int) : Prop := Row7 W base v l ∧ base ≤ W.heap.size
theorem row7_lt {W : World} {base k : Nat} {v : Value} {l : List Int} (h : Own7 W base v l) (hk : v.ownBlock = some k) : base ≤ k := (World.ownsRow.lt h.1 k hk).1
theorem row7_empty (W : World) : Own7 (W.alloc (.cells #[] 3)) W.heap.size (.slice (some ⟨W.heap.size, 0, none⟩) 0 0) [] := ⟨World.ownsRow_lit W #[] 0 (Nat.le_refl _) (by unfold maxLen; omega) rfl, by simp⟩
theorem row7_below {W W' : World} {base : Nat} {v : Value} {l : List Int} (h : Own7 W base v l) (hb : Below W.heap.size W W') : Own7 W' base v l := by
  refine ⟨World.ownsRow.kept (row := none) h.1 ⟨hb.os, hb.tape, hb.output, hb.size, fun k hk _ => hb.block k hk⟩ ?_, Nat.le_trans h.2 hb.size⟩
  cases v.ownBlock <;> simp

/-- append(s, xs...), s a row of the call's own, xs whatever came in. -/
theorem step_append_ints {ops : Array Oper} {o : Oper} {a : Act} {w : World} {K : Act → World → Prop} {Q : Exit → Act → World → Prop} {E : Prop} (hw : Region.wanted o (yielded ops a.tmps) = true) (s x : Operand)
    (ho : o.op = .call { callee := .builtin .append, args := #[s, x], argTypes := #[22, 22] }) (base : Nat) (v : Value) (l : List Int) (hs : a.eval s = v) (hown0 : Own7 w base v l)
    (A : Option Addr) (m c : Nat) (ys : List Int) (hx : a.eval x = .slice A m c) (hm : ys.length = m) (hr : Ints w w.heap.size A ys) (hsz : l.length + m ≤ 1000)
    (h : ∀ v' w', Own7 w' base v' (l ++ ys) → w.grownBy w' v.ownBlock → K (a.put o.dst v') w') : if Region.wanted o (yielded ops a.tmps) = true then Oper.wp Try.prog o a w K Q else E := by
  rw [if_pos hw]
  have hown := hown0.1
  have hbase := hown0.2
  obtain ⟨i0, hi, hz0, hz1, hz2⟩ := info_parts int_info
  have hrun : ∃ v' w', (Builtin.append_ #[22, 22] o.type #[v, .slice A m c]).run Try.prog w = .ok v' w' ∧ Row7 w' base v' (l ++ ys) ∧ w.grownBy w' v.ownBlock := by
    cases A with
    | none =>
      have hn : ys = [] := by
        cases ys with
        | nil => rfl
        | cons y r =>
          obtain ⟨_, _, e, _⟩ := hr (by simp)
          cases e
      subst hn
      subst hm
      refine ⟨v, w, ?_, by rw [List.append_nil]; exact hown, World.grownBy.refl w _⟩
      rcases hown.2 with ⟨rfl, _⟩ | ⟨g, cap, cur, rfl, _, _, hnc, _⟩
      · simp [Builtin.append_, run_underlying Try.underlying22, sizeOf, typeInfo, hi, Builtin.lenOf, Builtin.firstCells]
      · simp [Builtin.append_, run_underlying Try.underlying22, sizeOf, typeInfo, hi, Builtin.lenOf, Builtin.firstCells, hnc, storeCells]
    | some ad =>
      obtain ⟨v', w', hrun, h2, h3, _, _⟩ := run_append_own_at (P := Try.prog) w base 22 o.type 3 i0 (.int .i64 0) 1 8 Try.underlying22 hi hz0 hz1 hz2 rfl (by decide) v l.length (l.map (Value.int .i64)) hown ad m c (ys.map (Value.int .i64)) (by rw [List.length_map, hm, Nat.mul_one]) (fun j u hu => by
        rw [List.getElem?_map, Option.map_eq_some_iff] at hu
        obtain ⟨y, hy, rfl⟩ := hu
        obtain ⟨b, o', e, _, hc⟩ := hr (by rintro rfl; simp at hy)
        cases e
        rw [Addr.add_lit]
        exact hc j y hy) (fun u hu => by
        rw [List.mem_map] at hu
        obtain ⟨y, _, rfl⟩ := hu
        rfl) (by unfold maxLen; omega) (by omega) hbase
      refine ⟨v', w', hrun, ?_, h3⟩
      unfold Row7
      rw [List.length_append, hm, List.map_append]
      exact h2
  obtain ⟨v', w', hrun, h2, h3⟩ := hrun
  unfold Oper.wp execOp
  simp only [ho, resolve, invoke, builtin, Sem.run_bind, Sem.run_pure, Result.andThen_ok, List.map_toArray, List.map_cons, List.map_nil, hs, hx, hrun]
  exact h v' w' ⟨h2, Nat.le_trans hbase h3.size⟩ h3
theorem Of_row (A : Option Addr) (l : List Int) (n c : Nat) (w : World) (S : BSet) (hS : of l = S) (hA : Ints w w.heap.size A l) (hl : l.length = n) (hn : n ≤ 1000) :
    Calls Try.prog 10 #[.slice A n c] w fun e w' => e = .returned (val S) ∧ Below w.heap.size w w' := by
  subst hS
  exact Of_any A l n c w hl hA (by unfold maxLen; omega)
/-- Set{} -/
theorem yields_zero {ops : Array Oper} {C : World → Prop} {op : Oper} {a : Act} (hw : Region.wanted op (yielded ops a.tmps) = true) (ho : op.op = .build 28 #[]) : YieldsIf Try.prog ops C op (val empty) a :=
  .inl ⟨hw, fun w _ => by
    have hz := set_zero
    cases hq : Try.prog.info? 28 with
    | none => simp [hq] at hz
    | some i =>
      have hz' : i.zero = some (.agg (bcels empty).toArray) := by simpa [hq] using hz
      have hrun : (zeroValue 28).run Try.prog w = .ok (.agg (bcels empty).toArray) w := by simp [zeroValue, typeInfo, hq, hz']
      obtain ⟨j, hj, _⟩ : ∃ j, Try.prog.info? 26 = some j ∧ j.size = 8 := by
        have hs := arr_size8
        cases hq : Try.prog.info? 26 with
        | none => simp [hq] at hs
        | some i => exact ⟨i, rfl, by simpa [hq] using hs⟩
      unfold execOp
      simp [ho, Instr.build, hrun, run_underlying Try.underlying28, sizeOf, typeInfo, hj, Instr.fill, val, Value.cells]⟩

set_option maxRecDepth 100000 in
set_option maxHeartbeats 2000000 in
theorem Same_any (A : Option Addr) (xs : List Int) (n c : Nat) (A' : Option Addr) (ys : List Int) (m d : Nat) (x : Int) (w : World) (hx : xs.length = n) (hA : Ints w w.heap.size A xs) (hn : n ≤ maxLen) (hy : ys.length = m) (hA' : Ints w w.heap.size A' ys) (hm : m ≤ maxLen) :
    Calls Try.prog 5 #[.slice A n c, .slice A' m d, .int .i64 x] w fun e w' => e = .returned (.bool true) ∧ Below w.heap.size w w' := by
  replace hn : n ≤ 9223372036854775807 := hn
  replace hm : m ≤ 9223372036854775807 := hm
  have HX := hide hx
  have HY := hide hy
  have HA := hide hA
  have HA' := hide hA'
  clear hx hy hA hA'
  by_cases h100 : 100 < n ∨ 100 < m
  · rcases (by omega : 100 < n ∨ (n ≤ 100 ∧ 100 < m)) with h1 | ⟨h1, h2⟩
    all_goals
      clear h100
      go_enter Try.func5, Try.ntmps5
      go_wp2_with fail
      refine (awake_any w).mono ?_
      rintro e w1 ⟨rfl, hb1⟩
      have z1 := hb1.size
      have HB1 := hide hb1
      clear hb1
      go_wp2_with fail
      refine (awake_any w1).mono ?_
      rintro e w2 ⟨rfl, hb2⟩
      have HB2 := hide (HB1.out.trans (hb2.mono z1))
      clear hb2
      go_wp2
      go_ret
      exact ⟨rfl, HB2.out⟩
  · have h1 : n ≤ 100 := by omega
    have h2 : m ≤ 100 := by omega
    clear h100
    go_enter Try.func5, Try.ntmps5
    go_wp2_with fail
    refine (awake_any w).mono ?_
    rintro e w1 ⟨rfl, hb1⟩
    have z1 := hb1.size
    have HB1 := hide hb1
    have HO1 := hide (Of_any A xs n c w1 HX.out ((HA.out.below hb1).more z1) hn)
    clear hb1
    go_wp2_with fail
    refine HO1.out.mono ?_
    rintro e w2 ⟨rfl, hb2⟩
    have z2 := hb2.size
    have HB2 := hide (HB1.out.trans (hb2.mono z1))
    have HO2 := hide (Of_any A' ys m d w2 HY.out ((HA'.out.below HB2.out).more (by omega)) hm)
    clear hb2 HO1 HB1
    obtain ⟨S, hS⟩ : ∃ S, of xs = S := ⟨_, rfl⟩
    obtain ⟨O, hO⟩ : ∃ O, of ys = O := ⟨_, rfl⟩
    have HS8 : Hid (S.length = 8) := hide (by rw [← hS]; exact of_length _)
    have HO8 : Hid (O.length = 8) := hide (by rw [← hO]; exact of_length _)
    rw [hO] at HO2
    rw [hS]
    have HSx := hide hS
    have HOy := hide hO
    clear hS hO
    go_wp2_with fail
    refine HO2.out.mono ?_
    rintro e w3 ⟨rfl, hb3⟩
    have z3 := hb3.size
    have HB3 := hide (HB2.out.trans (hb3.mono (by omega)))
    clear hb3 HO2 HB2
    have HlS : Hid ((bcels S).length = 8) := hide (by rw [bcels_length]; exact HS8.out)
    have HlO : Hid ((bcels O).length = 8) := hide (by rw [bcels_length]; exact HO8.out)
    go_wp2_with (refine wpList_alloc_told rfl 28 rfl _ set_zero ?_)
    intro w4 H4
    have E4 := hide (show Lies w4 w3.heap.size empty by rw [H4.out]; exact lies_new w3 empty)
    have B4 := hide (show Below w.heap.size w w4 by rw [H4.out]; exact HB3.out.alloc (by omega) _)
    have z4 : w3.heap.size < w4.heap.size := E4.out.lt
    clear H4
    go_wp2_with (refine wpList_alloc_told rfl 28 rfl _ set_zero ?_)
    intro w5 H5
    have E5 := hide (show Lies w5 w3.heap.size empty by rw [H5.out]; exact E4.out.alloc _)
    have F5 := hide (show Lies w5 w4.heap.size empty by rw [H5.out]; exact lies_new w4 empty)
    have B5 := hide (show Below w.heap.size w w5 by rw [H5.out]; exact B4.out.alloc (by omega) _)
    have z5 : w4.heap.size < w5.heap.size := F5.out.lt
    clear H5 E4 B4
    go_wp2_with (refine wpList_store_told rfl 28 (.tmp 7) (.tmp 23) rfl w3.heap.size (bcels S).toArray rfl rfl _ E5.out.heap (by rw [set_size, List.size_toArray, HlS.out]) (by rw [List.size_toArray, List.size_toArray, HlS.out, bcels_length, empty_length]) (all_oneCell_toArray (bcels_one _)) ?_)
    intro w6 H6
    have E6 := hide (show Lies w6 w3.heap.size S by rw [H6.out]; exact setRow_heap _ _ _ _ _ _ E5.out.heap)
    have F6 := hide (show Lies w6 w4.heap.size empty by rw [H6.out]; exact (setRow_other _ _ _ _ (by omega)).trans F5.out)
    have B6 := hide (show Below w.heap.size w w6 by rw [H6.out]; exact below_setRow B5.out (by omega) _)
    clear H6 E5 F5 B5
    go_wp2_with (refine wpList_store_told rfl 28 (.tmp 8) (.tmp 25) rfl w4.heap.size (bcels O).toArray rfl rfl _ F6.out.heap (by rw [set_size, List.size_toArray, HlO.out]) (by rw [List.size_toArray, List.size_toArray, HlO.out, bcels_length, empty_length]) (all_oneCell_toArray (bcels_one _)) ?_)
    intro w7 H7
    have HT := hide (show Two w w3.heap.size w4.heap.size S O w7 by
      rw [H7.out]
      exact ⟨(setRow_other _ _ _ _ (by omega)).trans E6.out, setRow_heap _ _ _ _ _ _ F6.out.heap, below_setRow B6.out (by omega) _⟩)
    clear H7 E6 F6 B6 z5 z4 z3 z2 z1
    go_upto_region 4 with fail
    have HofA := hide (fun (W : World) (t : Two w w3.heap.size w4.heap.size S O W) => of_any A xs n c W HX.out ((HA.out.below t.bel).more t.bel.size) hn)
    have HofB := hide (fun (W : World) (t : Two w w3.heap.size w4.heap.size S O W) => of_any A' ys m d W HY.out ((HA'.out.below t.bel).more t.bel.size) hm)
    rw [HSx.out] at HofA
    rw [HOy.out] at HofB
    have HOr := hide (fun W => Or_any S O HS8.out HO8.out W)
    go_cut [55] (fun v wx => v = .bool false ∧ Hid (Two w w3.heap.size w4.heap.size S O wx))
    case first =>
      have K0 := hide (HT.out.drew)
      have HOr2 := hide (fun W => Or_any O S HO8.out HS8.out W)
      obtain ⟨b0, hb0⟩ : ∃ b0, decide (S = O) = b0 := ⟨_, rfl⟩
      have hq0 := fun W => set_eql S O HS8.out HO8.out b0 hb0 W
      have hg0 := fun o y z W => set_eqg o y z S O W
      have hs0 := txt_same S O
      rw [hb0] at hs0
      have hq1 := fun W => set_neq (orr S O) (orr O S) (by rw [orr_length]; exact HS8.out) (by rw [orr_length]; exact HO8.out) true (decide_eq_true (orr_comm HS8.out HO8.out)) W
      have hg1 := fun o y z W => set_eqg o y z (orr S O) (orr O S) W
      have hq2 := fun W => set_neq (orr S O) (orr S O) (by rw [orr_length]; exact HS8.out) (by rw [orr_length]; exact HS8.out) true (decide_eq_true rfl) W
      have hg2 := fun o y z W => set_eqg o y z (orr S O) (orr S O) W
      clear hb0 HT
      generalize txt S = T1 at *
      generalize txt O = T2 at *
      go_wp2
      refine wp_region_held (S := (Two w w3.heap.size w4.heap.size S O)) (by kernel_rfl) ?_
      change wpAnyH _ _ _ _ _ _ _ _ (World.drew _)
      refine wpAnyH_take (i := 0) (oi := ⟨some 26, _, _, _, _, _⟩) (v := val S) rfl (by kernel_rfl) (by kernel_rfl) (by kernel_rfl) (fun _ _ _ h => h) (yields_set (by rfl) (.tmp 7) rfl w3.heap.size rfl S HS8.out (fun w hw => hw.one)) K0.out ?_
      simp only [Act.put, List.setIfInBounds_toArray, List.set_cons_zero, List.set_cons_succ]
      refine wpAnyH_take (i := 1) (oi := ⟨some 27, _, _, _, _, _⟩) (v := val O) rfl (by kernel_rfl) (by kernel_rfl) (by kernel_rfl) (fun _ _ _ h => h) (yields_set (by rfl) (.tmp 8) rfl w4.heap.size rfl O HO8.out (fun w hw => hw.two)) K0.out ?_
      simp only [Act.put, List.setIfInBounds_toArray, List.set_cons_zero, List.set_cons_succ]
      refine wpAnyH_take (i := 2) (oi := ⟨some 28, _, _, _, _, _⟩) (v := ?_) rfl (by kernel_rfl) (by kernel_rfl) (by kernel_rfl) (fun _ _ _ h => h) (Or.inl ⟨by rfl, ?_⟩) K0.out ?_
      rotate_left 1
      · (intro w hSw; clear hSw; go_simp; try with_reducible rfl)
      simp only [Act.put, List.setIfInBounds_toArray, List.set_cons_zero, List.set_cons_succ]
      refine wpAnyH_take (i := 3) (oi := ⟨some 29, _, _, _, _, _⟩) (v := ?_) rfl (by kernel_rfl) (by kernel_rfl) (by kernel_rfl) (fun _ _ _ h => h) (Or.inl ⟨by rfl, ?_⟩) K0.out ?_
      rotate_left 1
      · (intro w hSw; clear hSw; go_simp; try with_reducible rfl)
      simp only [Act.put, List.setIfInBounds_toArray, List.set_cons_zero, List.set_cons_succ]
      refine wpAnyH_take (i := 5) (oi := ⟨some 31, _, _, _, _, _⟩) (v := ?_) rfl (by kernel_rfl) (by kernel_rfl) (by kernel_rfl) (fun _ _ _ h => h) (Or.inl ⟨by rfl, ?_⟩) K0.out ?_
      rotate_left 1
      · (intro w hSw; clear hSw; go_simp; try with_reducible rfl)
      simp only [Act.put, List.setIfInBounds_toArray, List.set_cons_zero, List.set_cons_succ]
      refine wpAnyH_ready (rs := [4]) (by kernel_rfl) (by simp) ?_
      refine AllReadyH.cons (o := ⟨some 30, _, _, _, _, _⟩) rfl (fun K hK => ?_) AllReadyH.nil
      go_simp
      refine (HofA.out _ K0.out).mono ?_
      rintro r v1 ⟨rfl, hb⟩
      have K1 := hide (K0.out.below hb)
      clear hb
      refine hK.out _ _ K1.out (fun hHeld => ?_)
      clear hK K
      clear hHeld
      refine wpAnyH_ready (rs := [6]) (by kernel_rfl) (by simp) ?_
      refine AllReadyH.cons (o := ⟨some 32, _, _, _, _, _⟩) rfl (fun K hK => ?_) AllReadyH.nil
      go_simp
      refine (HofB.out _ K1.out).mono ?_
      rintro r v2 ⟨rfl, hb⟩
      have K2 := hide (K1.out.below hb)
      clear hb
      refine hK.out _ _ K2.out (fun hHeld => ?_)
      clear hK K
      clear hHeld
      refine wpAnyH_take (i := 7) (oi := ⟨some 33, _, _, _, _, _⟩) (v := ?_) rfl (by kernel_rfl) (by kernel_rfl) (by kernel_rfl) (fun _ _ _ h => h) (Or.inl ⟨by rfl, ?_⟩) K2.out ?_
      rotate_left 1
      · (intro w hSw; clear hSw; go_simp; try with_reducible rfl)
      simp only [Act.put, List.setIfInBounds_toArray, List.set_cons_zero, List.set_cons_succ]
      refine wpAnyH_take (i := 8) (oi := ⟨some 34, _, _, _, _, _⟩) (v := ?_) rfl (by kernel_rfl) (by kernel_rfl) (by kernel_rfl) (fun _ _ _ h => h) (Or.inl ⟨by rfl, ?_⟩) K2.out ?_
      rotate_left 1
      · (intro w hSw; clear hSw; go_simp; try with_reducible rfl)
      simp only [Act.put, List.setIfInBounds_toArray, List.set_cons_zero, List.set_cons_succ]
      refine wpAnyH_take (i := 9) (oi := ⟨some 35, _, _, _, _, _⟩) (v := ?_) rfl (by kernel_rfl) (by kernel_rfl) (by kernel_rfl) (fun _ _ _ h => h) (Or.inl ⟨by rfl, ?_⟩) K2.out ?_
      rotate_left 1
      · (intro w hSw; clear hSw; go_simp; try with_reducible rfl)
      simp only [Act.put, List.setIfInBounds_toArray, List.set_cons_zero, List.set_cons_succ]
      refine wpAnyH_take (i := 10) (oi := ⟨some 36, _, _, _, _, _⟩) (v := val S) rfl (by kernel_rfl) (by kernel_rfl) (by kernel_rfl) (fun _ _ _ h => h) (yields_set (by rfl) (.tmp 7) rfl w3.heap.size rfl S HS8.out (fun w hw => hw.one)) K2.out ?_
      simp only [Act.put, List.setIfInBounds_toArray, List.set_cons_zero, List.set_cons_succ]
      refine wpAnyH_take (i := 11) (oi := ⟨some 37, _, _, _, _, _⟩) (v := val O) rfl (by kernel_rfl) (by kernel_rfl) (by kernel_rfl) (fun _ _ _ h => h) (yields_set (by rfl) (.tmp 8) rfl w4.heap.size rfl O HO8.out (fun w hw => hw.two)) K2.out ?_
      simp only [Act.put, List.setIfInBounds_toArray, List.set_cons_zero, List.set_cons_succ]
      refine wpAnyH_take (i := 13) (oi := ⟨some 39, _, _, _, _, _⟩) (v := val O) rfl (by kernel_rfl) (by kernel_rfl) (by kernel_rfl) (fun _ _ _ h => h) (yields_set (by rfl) (.tmp 8) rfl w4.heap.size rfl O HO8.out (fun w hw => hw.two)) K2.out ?_
      simp only [Act.put, List.setIfInBounds_toArray, List.set_cons_zero, List.set_cons_succ]
      refine wpAnyH_take (i := 14) (oi := ⟨some 40, _, _, _, _, _⟩) (v := val S) rfl (by kernel_rfl) (by kernel_rfl) (by kernel_rfl) (fun _ _ _ h => h) (yields_set (by rfl) (.tmp 7) rfl w3.heap.size rfl S HS8.out (fun w hw => hw.one)) K2.out ?_
      simp only [Act.put, List.setIfInBounds_toArray, List.set_cons_zero, List.set_cons_succ]
      refine wpAnyH_ready (rs := [12]) (by kernel_rfl) (by simp) ?_
      refine AllReadyH.cons (o := ⟨some 38, _, _, _, _, _⟩) rfl (fun K hK => ?_) AllReadyH.nil
      go_simp
      refine (HOr.out _).mono ?_
      rintro r v3 ⟨rfl, hb⟩
      have K3 := hide (K2.out.below hb)
      clear hb
      refine hK.out _ _ K3.out (fun hHeld => ?_)
      clear hK K
      clear hHeld
      refine wpAnyH_ready (rs := [15]) (by kernel_rfl) (by simp) ?_
      refine AllReadyH.cons (o := ⟨some 41, _, _, _, _, _⟩) rfl (fun K hK => ?_) AllReadyH.nil
      go_simp
      refine (HOr2.out _).mono ?_
      rintro r v4 ⟨rfl, hb⟩
      have K4 := hide (K3.out.below hb)
      clear hb
      refine hK.out _ _ K4.out (fun hHeld => ?_)
      clear hK K
      clear hHeld
      refine wpAnyH_take (i := 16) (oi := ⟨some 42, _, _, _, _, _⟩) (v := ?_) rfl (by kernel_rfl) (by kernel_rfl) (by kernel_rfl) (fun _ _ _ h => h) (Or.inl ⟨by rfl, ?_⟩) K4.out ?_
      rotate_left 1
      · (intro w hSw; clear hSw; go_simp; try with_reducible rfl)
      simp only [Act.put, List.setIfInBounds_toArray, List.set_cons_zero, List.set_cons_succ]
      refine wpAnyH_take (i := 17) (oi := ⟨some 43, _, _, _, _, _⟩) (v := ?_) rfl (by kernel_rfl) (by kernel_rfl) (by kernel_rfl) (fun _ _ _ h => h) (Or.inl ⟨by rfl, ?_⟩) K4.out ?_
      rotate_left 1
      · (intro w hSw; clear hSw; go_simp; try with_reducible rfl)
      simp only [Act.put, List.setIfInBounds_toArray, List.set_cons_zero, List.set_cons_succ]
      refine wpAnyH_take (i := 18) (oi := ⟨some 44, _, _, _, _, _⟩) (v := ?_) rfl (by kernel_rfl) (by kernel_rfl) (by kernel_rfl) (fun _ _ _ h => h) (Or.inl ⟨by rfl, ?_⟩) K4.out ?_
      rotate_left 1
      · (intro w hSw; clear hSw; go_simp; try with_reducible rfl)
      simp only [Act.put, List.setIfInBounds_toArray, List.set_cons_zero, List.set_cons_succ]
      refine wpAnyH_take (i := 19) (oi := ⟨some 45, _, _, _, _, _⟩) (v := val S) rfl (by kernel_rfl) (by kernel_rfl) (by kernel_rfl) (fun _ _ _ h => h) (yields_set (by rfl) (.tmp 7) rfl w3.heap.size rfl S HS8.out (fun w hw => hw.one)) K4.out ?_
      simp only [Act.put, List.setIfInBounds_toArray, List.set_cons_zero, List.set_cons_succ]
      refine wpAnyH_take (i := 20) (oi := ⟨some 46, _, _, _, _, _⟩) (v := val O) rfl (by kernel_rfl) (by kernel_rfl) (by kernel_rfl) (fun _ _ _ h => h) (yields_set (by rfl) (.tmp 8) rfl w4.heap.size rfl O HO8.out (fun w hw => hw.two)) K4.out ?_
      simp only [Act.put, List.setIfInBounds_toArray, List.set_cons_zero, List.set_cons_succ]
      refine wpAnyH_take (i := 23) (oi := ⟨some 49, _, _, _, _, _⟩) (v := ?_) rfl (by kernel_rfl) (by kernel_rfl) (by kernel_rfl) (fun _ _ _ h => h) (Or.inl ⟨by rfl, ?_⟩) K4.out ?_
      rotate_left 1
      · (intro w hSw; clear hSw; go_simp; try with_reducible rfl)
      simp only [Act.put, List.setIfInBounds_toArray, List.set_cons_zero, List.set_cons_succ]
      refine wpAnyH_take (i := 25) (oi := ⟨some 51, _, _, _, _, _⟩) (v := ?_) rfl (by kernel_rfl) (by kernel_rfl) (by kernel_rfl) (fun _ _ _ h => h) (Or.inl ⟨by rfl, ?_⟩) K4.out ?_
      rotate_left 1
      · (intro w hSw; clear hSw; go_simp; try with_reducible rfl)
      simp only [Act.put, List.setIfInBounds_toArray, List.set_cons_zero, List.set_cons_succ]
      refine wpAnyH_ready (rs := [21, 22]) (by kernel_rfl) (by simp) ?_
      refine AllReadyH.cons (o := ⟨some 47, _, _, _, _, _⟩) rfl (fun K hK => ?_) (AllReadyH.cons (o := ⟨some 48, _, _, _, _, _⟩) rfl (fun K hK => ?_) AllReadyH.nil)
      · go_simp
        refine (HOr.out _).mono ?_
        rintro r v5 ⟨rfl, hb⟩
        have K5 := hide (K4.out.below hb)
        clear hb
        refine hK.out _ _ K5.out (fun hHeld => ?_)
        clear hK K
        clear hHeld
        refine wpAnyH_ready (rs := [22]) (by kernel_rfl) (by simp) ?_
        refine AllReadyH.cons (o := ⟨some 48, _, _, _, _, _⟩) rfl (fun K hK => ?_) AllReadyH.nil
        go_simp
        have K6 := hide (two_alloc K5.out (.cells #[] 3))
        have G0 := hide (And.intro K5.out.one.lt (And.intro K5.out.two.lt K5.out.bel.size))
        have R0 := hide (row7_empty v5)
        refine hK.out _ _ K6.out (fun hHeld => ?_)
        clear hK K
        clear hHeld
        refine wpAnyH_ready (rs := [24]) (by kernel_rfl) (by simp) ?_
        refine AllReadyH.cons (o := ⟨some 50, _, _, _, _, _⟩) rfl (fun K hK => ?_) AllReadyH.nil
        refine step_append_ints (by rfl) (.tmp 48) (.tmp 49) rfl _ _ ([]) rfl R0.out A n c xs rfl HX.out ((HA.out.below K6.out.bel).more K6.out.bel.size) (by have := HX.out; simp; omega) ?_
        intro q1 v7 hr hg
        have K7 := hide (two_grown K6.out hg (fun k hk => row7_lt R0.out hk) G0.out)
        have R1 := hide hr
        clear hr hg
        refine hK.out _ _ K7.out (fun hHeld => ?_)
        clear hK K
        clear hHeld
        refine wpAnyH_ready (rs := [26]) (by kernel_rfl) (by simp) ?_
        refine AllReadyH.cons (o := ⟨some 52, _, _, _, _, _⟩) rfl (fun K hK => ?_) AllReadyH.nil
        refine step_append_ints (by rfl) (.tmp 50) (.tmp 51) rfl _ _ ([] ++ xs) rfl R1.out A' m d ys rfl HY.out ((HA'.out.below K7.out.bel).more K7.out.bel.size) (by have := HX.out; simp; omega) ?_
        intro q2 v8 hr hg
        have K8 := hide (two_grown K7.out hg (fun k hk => row7_lt R1.out hk) G0.out)
        have R2 := hide hr
        clear hr hg
        refine hK.out _ _ K8.out (fun hHeld => ?_)
        clear hK K
        clear hHeld
        refine wpAnyH_ready (rs := [27]) (by kernel_rfl) (by simp) ?_
        refine AllReadyH.cons (o := ⟨some 53, _, _, _, _, _⟩) rfl (fun K hK => ?_) AllReadyH.nil
        obtain ⟨A2, c2, hv2, hI2⟩ := row7_form R2.out.1
        obtain ⟨q, hq⟩ : ∃ q, ([] ++ xs ++ ys).length = q := ⟨_, rfl⟩
        rw [hq] at hv2
        subst hv2
        have HOf := hide (Of_row A2 ([] ++ xs ++ ys) q c2 _ (orr S O) (by rw [List.nil_append, of_append, HSx.out, HOy.out]) hI2 hq (by rw [← hq]; have := HX.out; have := HY.out; simp; omega))
        clear hI2 hq
        go_simp
        refine HOf.out.mono ?_
        rintro r v9 ⟨rfl, hb⟩
        have K9 := hide (K8.out.below hb)
        clear hb
        refine hK.out _ _ K9.out (fun hHeld => ?_)
        clear hK K
        clear hHeld
        refine wpAnyH_take (i := 28) (oi := ⟨some 54, _, _, _, _, _⟩) (v := ?_) rfl (by kernel_rfl) (by kernel_rfl) (by kernel_rfl) (fun _ _ _ h => h) (Or.inl ⟨by rfl, ?_⟩) K9.out ?_
        rotate_left 1
        · (intro w hSw; clear hSw; go_simp; try with_reducible rfl)
        simp only [Act.put, List.setIfInBounds_toArray, List.set_cons_zero, List.set_cons_succ]
        refine wpAnyH_take (i := 29) (oi := ⟨some 55, _, _, _, _, _⟩) (v := ?_) rfl (by kernel_rfl) (by kernel_rfl) (by kernel_rfl) (fun _ _ _ h => h) (Or.inl ⟨by rfl, ?_⟩) K9.out ?_
        rotate_left 1
        · (intro w hSw; clear hSw; go_simp; try with_reducible rfl)
        simp only [Act.put, List.setIfInBounds_toArray, List.set_cons_zero, List.set_cons_succ]
        refine wpAnyH_done (by kernel_rfl) ?_ _
        go_wp2_with fail
        go_meet
        exact ⟨rfl, hide K9.out⟩
      · go_simp
        have K5 := hide (two_alloc K4.out (.cells #[] 3))
        have G0 := hide (And.intro K4.out.one.lt (And.intro K4.out.two.lt K4.out.bel.size))
        have R0 := hide (row7_empty v4)
        refine hK.out _ _ K5.out (fun hHeld => ?_)
        clear hK K
        clear hHeld
        refine wpAnyH_ready (rs := [21]) (by kernel_rfl) (by simp) ?_
        refine AllReadyH.cons (o := ⟨some 47, _, _, _, _, _⟩) rfl (fun K hK => ?_) AllReadyH.nil
        go_simp
        refine (HOr.out _).mono ?_
        rintro r v6 ⟨rfl, hb⟩
        have K6 := hide (K5.out.below hb)
        have R0' := hide (row7_below R0.out hb)
        clear hb
        refine hK.out _ _ K6.out (fun hHeld => ?_)
        clear hK K
        clear hHeld
        refine wpAnyH_ready (rs := [24]) (by kernel_rfl) (by simp) ?_
        refine AllReadyH.cons (o := ⟨some 50, _, _, _, _, _⟩) rfl (fun K hK => ?_) AllReadyH.nil
        refine step_append_ints (by rfl) (.tmp 48) (.tmp 49) rfl _ _ ([]) rfl R0'.out A n c xs rfl HX.out ((HA.out.below K6.out.bel).more K6.out.bel.size) (by have := HX.out; simp; omega) ?_
        intro q1 v7 hr hg
        have K7 := hide (two_grown K6.out hg (fun k hk => row7_lt R0'.out hk) G0.out)
        have R1 := hide hr
        clear hr hg
        refine hK.out _ _ K7.out (fun hHeld => ?_)
        clear hK K
        clear hHeld
        refine wpAnyH_ready (rs := [26]) (by kernel_rfl) (by simp) ?_
        refine AllReadyH.cons (o := ⟨some 52, _, _, _, _, _⟩) rfl (fun K hK => ?_) AllReadyH.nil
        refine step_append_ints (by rfl) (.tmp 50) (.tmp 51) rfl _ _ ([] ++ xs) rfl R1.out A' m d ys rfl HY.out ((HA'.out.below K7.out.bel).more K7.out.bel.size) (by have := HX.out; simp; omega) ?_
        intro q2 v8 hr hg
        have K8 := hide (two_grown K7.out hg (fun k hk => row7_lt R1.out hk) G0.out)
        have R2 := hide hr
        clear hr hg
        refine hK.out _ _ K8.out (fun hHeld => ?_)
        clear hK K
        clear hHeld
        refine wpAnyH_ready (rs := [27]) (by kernel_rfl) (by simp) ?_
        refine AllReadyH.cons (o := ⟨some 53, _, _, _, _, _⟩) rfl (fun K hK => ?_) AllReadyH.nil
        obtain ⟨A2, c2, hv2, hI2⟩ := row7_form R2.out.1
        obtain ⟨q, hq⟩ : ∃ q, ([] ++ xs ++ ys).length = q := ⟨_, rfl⟩
        rw [hq] at hv2
        subst hv2
        have HOf := hide (Of_row A2 ([] ++ xs ++ ys) q c2 _ (orr S O) (by rw [List.nil_append, of_append, HSx.out, HOy.out]) hI2 hq (by rw [← hq]; have := HX.out; have := HY.out; simp; omega))
        clear hI2 hq
        go_simp
        refine HOf.out.mono ?_
        rintro r v9 ⟨rfl, hb⟩
        have K9 := hide (K8.out.below hb)
        clear hb
        refine hK.out _ _ K9.out (fun hHeld => ?_)
        clear hK K
        clear hHeld
        refine wpAnyH_take (i := 28) (oi := ⟨some 54, _, _, _, _, _⟩) (v := ?_) rfl (by kernel_rfl) (by kernel_rfl) (by kernel_rfl) (fun _ _ _ h => h) (Or.inl ⟨by rfl, ?_⟩) K9.out ?_
        rotate_left 1
        · (intro w hSw; clear hSw; go_simp; try with_reducible rfl)
        simp only [Act.put, List.setIfInBounds_toArray, List.set_cons_zero, List.set_cons_succ]
        refine wpAnyH_take (i := 29) (oi := ⟨some 55, _, _, _, _, _⟩) (v := ?_) rfl (by kernel_rfl) (by kernel_rfl) (by kernel_rfl) (fun _ _ _ h => h) (Or.inl ⟨by rfl, ?_⟩) K9.out ?_
        rotate_left 1
        · (intro w hSw; clear hSw; go_simp; try with_reducible rfl)
        simp only [Act.put, List.setIfInBounds_toArray, List.set_cons_zero, List.set_cons_succ]
        refine wpAnyH_done (by kernel_rfl) ?_ _
        go_wp2_with fail
        go_meet
        exact ⟨rfl, hide K9.out⟩
    case rest =>
      obtain ⟨rfl, hT⟩ := hcut
      have K0 := hide hT.out.drew
      clear hT HT HofA HofB HX HY HA HA'
      have hS := HS8.out
      have hO := HO8.out
      have q1 : (orr S O).length = 8 := by rw [orr_length]; exact hS
      have q2 : (but S O).length = 8 := by rw [but_length]; exact hS
      have HBut := hide (fun W => But_any S O hS hO W)
      have HBO := hide (fun W => Or_any (but S O) O q2 hO W)
      rw [but_orr hS hO] at HBO
      have HBS := hide (fun W => But_any S S hS hS W)
      rw [but_self hS] at HBS
      have hq3 := fun W => set_eql (orr S O) (orr S O) q1 q1 true (decide_eq_true rfl) W
      have hg3 := fun o y z W => set_eqg o y z (orr S O) (orr S O) W
      have hq4 := fun W => set_eql empty empty rfl rfl true (decide_eq_true rfl) W
      have hg4 := fun o y z W => set_eqg o y z empty empty W
      have a1 := has_orr hS hO x
      have a2 := has_but hS hO x
      have HHor0 := hide (fun W => Has_any (orr S O) q1 x W)
      have HHb0 := hide (fun W => Has_any (but S O) q2 x W)
      have HHS0 := hide (fun W => Has_any S hS x W)
      have HHO0 := hide (fun W => Has_any O hO x W)
      rw [a1] at HHor0
      rw [a2] at HHb0
      clear hS hO q1 q2 a1 a2
      generalize has S x = hs at *
      generalize has O x = ho at *
      cases hs
      · have HHor : Hid (∀ W, Calls Try.prog 23 #[val (orr S O), .int .i64 x] W fun e w' => e = .returned (.bool ho) ∧ Below W.heap.size W w') := HHor0
        have HHb : Hid (∀ W, Calls Try.prog 23 #[val (but S O), .int .i64 x] W fun e w' => e = .returned (.bool false) ∧ Below W.heap.size W w') := HHb0
        have HHS := HHS0
        have HHO := HHO0
        clear HHor0 HHb0 HHS0 HHO0
        go_wp2
        refine wp_region_held (S := (Two w w3.heap.size w4.heap.size S O)) (by kernel_rfl) ?_
        change wpAnyH _ _ _ _ _ _ _ _ (World.drew _)
        refine wpAnyH_take (i := 0) (oi := ⟨some 56, _, _, _, _, _⟩) (v := val S) rfl (by kernel_rfl) (by kernel_rfl) (by kernel_rfl) (fun _ _ _ h => h) (yields_set (by rfl) (.tmp 7) rfl w3.heap.size rfl S HS8.out (fun w hw => hw.one)) K0.out ?_
        simp only [Act.put, List.setIfInBounds_toArray, List.set_cons_zero, List.set_cons_succ]
        refine wpAnyH_take (i := 1) (oi := ⟨some 57, _, _, _, _, _⟩) (v := val O) rfl (by kernel_rfl) (by kernel_rfl) (by kernel_rfl) (fun _ _ _ h => h) (yields_set (by rfl) (.tmp 8) rfl w4.heap.size rfl O HO8.out (fun w hw => hw.two)) K0.out ?_
        simp only [Act.put, List.setIfInBounds_toArray, List.set_cons_zero, List.set_cons_succ]
        refine wpAnyH_take (i := 3) (oi := ⟨some 59, _, _, _, _, _⟩) (v := ?_) rfl (by kernel_rfl) (by kernel_rfl) (by kernel_rfl) (fun _ _ _ h => h) (Or.inl ⟨by rfl, ?_⟩) K0.out ?_
        rotate_left 1
        · (intro w hSw; clear hSw; go_simp; try with_reducible rfl)
        simp only [Act.put, List.setIfInBounds_toArray, List.set_cons_zero, List.set_cons_succ]
        refine wpAnyH_take (i := 5) (oi := ⟨some 61, _, _, _, _, _⟩) (v := val S) rfl (by kernel_rfl) (by kernel_rfl) (by kernel_rfl) (fun _ _ _ h => h) (yields_set (by rfl) (.tmp 7) rfl w3.heap.size rfl S HS8.out (fun w hw => hw.one)) K0.out ?_
        simp only [Act.put, List.setIfInBounds_toArray, List.set_cons_zero, List.set_cons_succ]
        refine wpAnyH_take (i := 6) (oi := ⟨some 62, _, _, _, _, _⟩) (v := ?_) rfl (by kernel_rfl) (by kernel_rfl) (by kernel_rfl) (fun _ _ _ h => h) (Or.inl ⟨by rfl, ?_⟩) K0.out ?_
        rotate_left 1
        · (intro w hSw; clear hSw; go_simp; try with_reducible rfl)
        simp only [Act.put, List.setIfInBounds_toArray, List.set_cons_zero, List.set_cons_succ]
        refine wpAnyH_ready (rs := [2]) (by kernel_rfl) (by simp) ?_
        refine AllReadyH.cons (o := ⟨some 58, _, _, _, _, _⟩) rfl (fun K hK => ?_) AllReadyH.nil
        go_simp
        refine (HOr.out _).mono ?_
        rintro r v1 ⟨rfl, hb⟩
        have K1 := hide (K0.out.below hb)
        clear hb
        refine hK.out _ _ K1.out (fun hHeld => ?_)
        clear hK K
        clear hHeld
        refine wpAnyH_ready (rs := [4]) (by kernel_rfl) (by simp) ?_
        refine AllReadyH.cons (o := ⟨some 60, _, _, _, _, _⟩) rfl (fun K hK => ?_) AllReadyH.nil
        go_simp
        refine (HHor.out _).mono ?_
        rintro r v2 ⟨rfl, hb⟩
        have K2 := hide (K1.out.below hb)
        clear hb
        refine hK.out _ _ K2.out (fun hHeld => ?_)
        clear hK K
        clear hHeld
        refine wpAnyH_ready (rs := [7]) (by kernel_rfl) (by simp) ?_
        refine AllReadyH.cons (o := ⟨some 63, _, _, _, _, _⟩) rfl (fun K hK => ?_) AllReadyH.nil
        go_simp
        refine (HHS.out _).mono ?_
        rintro r v3 ⟨rfl, hb⟩
        have K3 := hide (K2.out.below hb)
        clear hb
        refine hK.out _ _ K3.out (fun hHeld => ?_)
        clear hK K
        clear hHeld
        refine wpAnyH_take (i := 8) (oi := ⟨some 64, _, _, _, _, _⟩) (v := ?_) rfl (by kernel_rfl) (by kernel_rfl) (by kernel_rfl) (fun _ _ _ h => h) (Or.inl ⟨by rfl, ?_⟩) K3.out ?_
        rotate_left 1
        · (intro w hSw; clear hSw; go_simp; try with_reducible rfl)
        simp only [Act.put, List.setIfInBounds_toArray, List.set_cons_zero, List.set_cons_succ]
        refine wpAnyH_take (i := 9) (oi := ⟨some 65, _, _, _, _, _⟩) (v := val O) rfl (by kernel_rfl) (by kernel_rfl) (by kernel_rfl) (fun _ _ _ h => h) (yields_set (by rfl) (.tmp 8) rfl w4.heap.size rfl O HO8.out (fun w hw => hw.two)) K3.out ?_
        simp only [Act.put, List.setIfInBounds_toArray, List.set_cons_zero, List.set_cons_succ]
        refine wpAnyH_take (i := 10) (oi := ⟨some 66, _, _, _, _, _⟩) (v := ?_) rfl (by kernel_rfl) (by kernel_rfl) (by kernel_rfl) (fun _ _ _ h => h) (Or.inl ⟨by rfl, ?_⟩) K3.out ?_
        rotate_left 1
        · (intro w hSw; clear hSw; go_simp; try with_reducible rfl)
        simp only [Act.put, List.setIfInBounds_toArray, List.set_cons_zero, List.set_cons_succ]
        refine wpAnyH_ready (rs := [11]) (by kernel_rfl) (by simp) ?_
        refine AllReadyH.cons (o := ⟨some 67, _, _, _, _, _⟩) rfl (fun K hK => ?_) AllReadyH.nil
        go_simp
        refine (HHO.out _).mono ?_
        rintro r v4 ⟨rfl, hb⟩
        have K4 := hide (K3.out.below hb)
        clear hb
        refine hK.out _ _ K4.out (fun hHeld => ?_)
        clear hK K
        clear hHeld
        refine wpAnyH_take (i := 12) (oi := ⟨some 68, _, _, _, _, _⟩) (v := ?_) rfl (by kernel_rfl) (by kernel_rfl) (by kernel_rfl) (fun _ _ _ h => h) (Or.inl ⟨by rfl, ?_⟩) K4.out ?_
        rotate_left 1
        · (intro w hSw; clear hSw; go_simp; try with_reducible rfl)
        simp only [Act.put, List.setIfInBounds_toArray, List.set_cons_zero, List.set_cons_succ]
        refine wpAnyH_take (i := 13) (oi := ⟨some 69, _, _, _, _, _⟩) (v := ?_) rfl (by kernel_rfl) (by kernel_rfl) (by kernel_rfl) (fun _ _ _ h => h) (Or.inl ⟨by rfl, ?_⟩) K4.out ?_
        rotate_left 1
        · (intro w hSw; clear hSw; go_simp; try with_reducible rfl)
        simp only [Act.put, List.setIfInBounds_toArray, List.set_cons_zero, List.set_cons_succ]
        refine wpAnyH_take (i := 14) (oi := ⟨some 70, _, _, _, _, _⟩) (v := ?_) rfl (by kernel_rfl) (by kernel_rfl) (by kernel_rfl) (fun _ _ _ h => h) (Or.inl ⟨by rfl, ?_⟩) K4.out ?_
        rotate_left 1
        · (intro w hSw; clear hSw; go_simp; try with_reducible rfl)
        simp only [Act.put, List.setIfInBounds_toArray, List.set_cons_zero, List.set_cons_succ]
        refine wpAnyH_take (i := 15) (oi := ⟨some 71, _, _, _, _, _⟩) (v := val S) rfl (by kernel_rfl) (by kernel_rfl) (by kernel_rfl) (fun _ _ _ h => h) (yields_set (by rfl) (.tmp 7) rfl w3.heap.size rfl S HS8.out (fun w hw => hw.one)) K4.out ?_
        simp only [Act.put, List.setIfInBounds_toArray, List.set_cons_zero, List.set_cons_succ]
        refine wpAnyH_take (i := 16) (oi := ⟨some 72, _, _, _, _, _⟩) (v := val O) rfl (by kernel_rfl) (by kernel_rfl) (by kernel_rfl) (fun _ _ _ h => h) (yields_set (by rfl) (.tmp 8) rfl w4.heap.size rfl O HO8.out (fun w hw => hw.two)) K4.out ?_
        simp only [Act.put, List.setIfInBounds_toArray, List.set_cons_zero, List.set_cons_succ]
        refine wpAnyH_take (i := 18) (oi := ⟨some 74, _, _, _, _, _⟩) (v := ?_) rfl (by kernel_rfl) (by kernel_rfl) (by kernel_rfl) (fun _ _ _ h => h) (Or.inl ⟨by rfl, ?_⟩) K4.out ?_
        rotate_left 1
        · (intro w hSw; clear hSw; go_simp; try with_reducible rfl)
        simp only [Act.put, List.setIfInBounds_toArray, List.set_cons_zero, List.set_cons_succ]
        refine wpAnyH_take (i := 20) (oi := ⟨some 76, _, _, _, _, _⟩) (v := val S) rfl (by kernel_rfl) (by kernel_rfl) (by kernel_rfl) (fun _ _ _ h => h) (yields_set (by rfl) (.tmp 7) rfl w3.heap.size rfl S HS8.out (fun w hw => hw.one)) K4.out ?_
        simp only [Act.put, List.setIfInBounds_toArray, List.set_cons_zero, List.set_cons_succ]
        refine wpAnyH_take (i := 21) (oi := ⟨some 77, _, _, _, _, _⟩) (v := ?_) rfl (by kernel_rfl) (by kernel_rfl) (by kernel_rfl) (fun _ _ _ h => h) (Or.inl ⟨by rfl, ?_⟩) K4.out ?_
        rotate_left 1
        · (intro w hSw; clear hSw; go_simp; try with_reducible rfl)
        simp only [Act.put, List.setIfInBounds_toArray, List.set_cons_zero, List.set_cons_succ]
        refine wpAnyH_ready (rs := [17]) (by kernel_rfl) (by simp) ?_
        refine AllReadyH.cons (o := ⟨some 73, _, _, _, _, _⟩) rfl (fun K hK => ?_) AllReadyH.nil
        go_simp
        refine (HBut.out _).mono ?_
        rintro r v5 ⟨rfl, hb⟩
        have K5 := hide (K4.out.below hb)
        clear hb
        refine hK.out _ _ K5.out (fun hHeld => ?_)
        clear hK K
        clear hHeld
        refine wpAnyH_ready (rs := [19]) (by kernel_rfl) (by simp) ?_
        refine AllReadyH.cons (o := ⟨some 75, _, _, _, _, _⟩) rfl (fun K hK => ?_) AllReadyH.nil
        go_simp
        refine (HHb.out _).mono ?_
        rintro r v6 ⟨rfl, hb⟩
        have K6 := hide (K5.out.below hb)
        clear hb
        refine hK.out _ _ K6.out (fun hHeld => ?_)
        clear hK K
        clear hHeld
        refine wpAnyH_ready (rs := [22]) (by kernel_rfl) (by simp) ?_
        refine AllReadyH.cons (o := ⟨some 78, _, _, _, _, _⟩) rfl (fun K hK => ?_) AllReadyH.nil
        go_simp
        refine (HHS.out _).mono ?_
        rintro r v7 ⟨rfl, hb⟩
        have K7 := hide (K6.out.below hb)
        clear hb
        refine hK.out _ _ K7.out (fun hHeld => ?_)
        clear hK K
        clear hHeld
        refine wpAnyH_take (i := 23) (oi := ⟨some 79, _, _, _, _, _⟩) (v := ?_) rfl (by kernel_rfl) (by kernel_rfl) (by kernel_rfl) (fun _ _ _ h => h) (Or.inl ⟨by rfl, ?_⟩) K7.out ?_
        rotate_left 1
        · (intro w hSw; clear hSw; go_simp; try with_reducible rfl)
        simp only [Act.put, List.setIfInBounds_toArray, List.set_cons_zero, List.set_cons_succ]
        refine wpAnyH_take (i := 24) (oi := ⟨some 80, _, _, _, _, _⟩) (v := undef) rfl (by kernel_rfl) (by kernel_rfl) (by kernel_rfl) (fun _ _ _ h => h) (Or.inr ⟨by rfl, rfl⟩) K7.out ?_
        simp only [Act.put, List.setIfInBounds_toArray, List.set_cons_zero, List.set_cons_succ]
        refine wpAnyH_take (i := 25) (oi := ⟨some 81, _, _, _, _, _⟩) (v := undef) rfl (by kernel_rfl) (by kernel_rfl) (by kernel_rfl) (fun _ _ _ h => h) (Or.inr ⟨by rfl, rfl⟩) K7.out ?_
        simp only [Act.put, List.setIfInBounds_toArray, List.set_cons_zero, List.set_cons_succ]
        refine wpAnyH_take (i := 26) (oi := ⟨some 82, _, _, _, _, _⟩) (v := undef) rfl (by kernel_rfl) (by kernel_rfl) (by kernel_rfl) (fun _ _ _ h => h) (Or.inr ⟨by rfl, rfl⟩) K7.out ?_
        simp only [Act.put, List.setIfInBounds_toArray, List.set_cons_zero, List.set_cons_succ]
        refine wpAnyH_take (i := 27) (oi := ⟨some 83, _, _, _, _, _⟩) (v := undef) rfl (by kernel_rfl) (by kernel_rfl) (by kernel_rfl) (fun _ _ _ h => h) (Or.inr ⟨by rfl, rfl⟩) K7.out ?_
        simp only [Act.put, List.setIfInBounds_toArray, List.set_cons_zero, List.set_cons_succ]
        refine wpAnyH_take (i := 28) (oi := ⟨some 84, _, _, _, _, _⟩) (v := ?_) rfl (by kernel_rfl) (by kernel_rfl) (by kernel_rfl) (fun _ _ _ h => h) (Or.inl ⟨by rfl, ?_⟩) K7.out ?_
        rotate_left 1
        · (intro w hSw; clear hSw; go_simp; try with_reducible rfl)
        simp only [Act.put, List.setIfInBounds_toArray, List.set_cons_zero, List.set_cons_succ]
        refine wpAnyH_take (i := 29) (oi := ⟨some 85, _, _, _, _, _⟩) (v := ?_) rfl (by kernel_rfl) (by kernel_rfl) (by kernel_rfl) (fun _ _ _ h => h) (Or.inl ⟨by rfl, ?_⟩) K7.out ?_
        rotate_left 1
        · (intro w hSw; clear hSw; go_simp; try with_reducible rfl)
        simp only [Act.put, List.setIfInBounds_toArray, List.set_cons_zero, List.set_cons_succ]
        refine wpAnyH_take (i := 30) (oi := ⟨some 86, _, _, _, _, _⟩) (v := ?_) rfl (by kernel_rfl) (by kernel_rfl) (by kernel_rfl) (fun _ _ _ h => h) (Or.inl ⟨by rfl, ?_⟩) K7.out ?_
        rotate_left 1
        · (intro w hSw; clear hSw; go_simp; try with_reducible rfl)
        simp only [Act.put, List.setIfInBounds_toArray, List.set_cons_zero, List.set_cons_succ]
        refine wpAnyH_take (i := 31) (oi := ⟨some 87, _, _, _, _, _⟩) (v := ?_) rfl (by kernel_rfl) (by kernel_rfl) (by kernel_rfl) (fun _ _ _ h => h) (Or.inl ⟨by rfl, ?_⟩) K7.out ?_
        rotate_left 1
        · (intro w hSw; clear hSw; go_simp; try with_reducible rfl)
        simp only [Act.put, List.setIfInBounds_toArray, List.set_cons_zero, List.set_cons_succ]
        refine wpAnyH_take (i := 32) (oi := ⟨some 88, _, _, _, _, _⟩) (v := val S) rfl (by kernel_rfl) (by kernel_rfl) (by kernel_rfl) (fun _ _ _ h => h) (yields_set (by rfl) (.tmp 7) rfl w3.heap.size rfl S HS8.out (fun w hw => hw.one)) K7.out ?_
        simp only [Act.put, List.setIfInBounds_toArray, List.set_cons_zero, List.set_cons_succ]
        refine wpAnyH_take (i := 33) (oi := ⟨some 89, _, _, _, _, _⟩) (v := val O) rfl (by kernel_rfl) (by kernel_rfl) (by kernel_rfl) (fun _ _ _ h => h) (yields_set (by rfl) (.tmp 8) rfl w4.heap.size rfl O HO8.out (fun w hw => hw.two)) K7.out ?_
        simp only [Act.put, List.setIfInBounds_toArray, List.set_cons_zero, List.set_cons_succ]
        refine wpAnyH_take (i := 35) (oi := ⟨some 91, _, _, _, _, _⟩) (v := val O) rfl (by kernel_rfl) (by kernel_rfl) (by kernel_rfl) (fun _ _ _ h => h) (yields_set (by rfl) (.tmp 8) rfl w4.heap.size rfl O HO8.out (fun w hw => hw.two)) K7.out ?_
        simp only [Act.put, List.setIfInBounds_toArray, List.set_cons_zero, List.set_cons_succ]
        refine wpAnyH_take (i := 37) (oi := ⟨some 93, _, _, _, _, _⟩) (v := val S) rfl (by kernel_rfl) (by kernel_rfl) (by kernel_rfl) (fun _ _ _ h => h) (yields_set (by rfl) (.tmp 7) rfl w3.heap.size rfl S HS8.out (fun w hw => hw.one)) K7.out ?_
        simp only [Act.put, List.setIfInBounds_toArray, List.set_cons_zero, List.set_cons_succ]
        refine wpAnyH_take (i := 38) (oi := ⟨some 94, _, _, _, _, _⟩) (v := val O) rfl (by kernel_rfl) (by kernel_rfl) (by kernel_rfl) (fun _ _ _ h => h) (yields_set (by rfl) (.tmp 8) rfl w4.heap.size rfl O HO8.out (fun w hw => hw.two)) K7.out ?_
        simp only [Act.put, List.setIfInBounds_toArray, List.set_cons_zero, List.set_cons_succ]
        refine wpAnyH_ready (rs := [34]) (by kernel_rfl) (by simp) ?_
        refine AllReadyH.cons (o := ⟨some 90, _, _, _, _, _⟩) rfl (fun K hK => ?_) AllReadyH.nil
        go_simp
        refine (HBut.out _).mono ?_
        rintro r v8 ⟨rfl, hb⟩
        have K8 := hide (K7.out.below hb)
        clear hb
        refine hK.out _ _ K8.out (fun hHeld => ?_)
        clear hK K
        clear hHeld
        refine wpAnyH_ready (rs := [36]) (by kernel_rfl) (by simp) ?_
        refine AllReadyH.cons (o := ⟨some 92, _, _, _, _, _⟩) rfl (fun K hK => ?_) AllReadyH.nil
        go_simp
        refine (HBO.out _).mono ?_
        rintro r v9 ⟨rfl, hb⟩
        have K9 := hide (K8.out.below hb)
        clear hb
        refine hK.out _ _ K9.out (fun hHeld => ?_)
        clear hK K
        clear hHeld
        refine wpAnyH_ready (rs := [39]) (by kernel_rfl) (by simp) ?_
        refine AllReadyH.cons (o := ⟨some 95, _, _, _, _, _⟩) rfl (fun K hK => ?_) AllReadyH.nil
        go_simp
        refine (HOr.out _).mono ?_
        rintro r v10 ⟨rfl, hb⟩
        have K10 := hide (K9.out.below hb)
        clear hb
        refine hK.out _ _ K10.out (fun hHeld => ?_)
        clear hK K
        clear hHeld
        refine wpAnyH_take (i := 40) (oi := ⟨some 96, _, _, _, _, _⟩) (v := ?_) rfl (by kernel_rfl) (by kernel_rfl) (by kernel_rfl) (fun _ _ _ h => h) (Or.inl ⟨by rfl, ?_⟩) K10.out ?_
        rotate_left 1
        · (intro w hSw; clear hSw; go_simp; try with_reducible rfl)
        simp only [Act.put, List.setIfInBounds_toArray, List.set_cons_zero, List.set_cons_succ]
        refine wpAnyH_take (i := 41) (oi := ⟨some 97, _, _, _, _, _⟩) (v := ?_) rfl (by kernel_rfl) (by kernel_rfl) (by kernel_rfl) (fun _ _ _ h => h) (Or.inl ⟨by rfl, ?_⟩) K10.out ?_
        rotate_left 1
        · (intro w hSw; clear hSw; go_simp; try with_reducible rfl)
        simp only [Act.put, List.setIfInBounds_toArray, List.set_cons_zero, List.set_cons_succ]
        refine wpAnyH_take (i := 42) (oi := ⟨some 98, _, _, _, _, _⟩) (v := ?_) rfl (by kernel_rfl) (by kernel_rfl) (by kernel_rfl) (fun _ _ _ h => h) (Or.inl ⟨by rfl, ?_⟩) K10.out ?_
        rotate_left 1
        · (intro w hSw; clear hSw; go_simp; try with_reducible rfl)
        simp only [Act.put, List.setIfInBounds_toArray, List.set_cons_zero, List.set_cons_succ]
        refine wpAnyH_take (i := 43) (oi := ⟨some 99, _, _, _, _, _⟩) (v := val S) rfl (by kernel_rfl) (by kernel_rfl) (by kernel_rfl) (fun _ _ _ h => h) (yields_set (by rfl) (.tmp 7) rfl w3.heap.size rfl S HS8.out (fun w hw => hw.one)) K10.out ?_
        simp only [Act.put, List.setIfInBounds_toArray, List.set_cons_zero, List.set_cons_succ]
        refine wpAnyH_take (i := 44) (oi := ⟨some 100, _, _, _, _, _⟩) (v := val S) rfl (by kernel_rfl) (by kernel_rfl) (by kernel_rfl) (fun _ _ _ h => h) (yields_set (by rfl) (.tmp 7) rfl w3.heap.size rfl S HS8.out (fun w hw => hw.one)) K10.out ?_
        simp only [Act.put, List.setIfInBounds_toArray, List.set_cons_zero, List.set_cons_succ]
        refine wpAnyH_take (i := 46) (oi := ⟨some 102, _, _, _, _, _⟩) (v := val empty) rfl (by kernel_rfl) (by kernel_rfl) (by kernel_rfl) (fun _ _ _ h => h) (yields_zero (by rfl) rfl) K10.out ?_
        simp only [Act.put, List.setIfInBounds_toArray, List.set_cons_zero, List.set_cons_succ]
        refine wpAnyH_ready (rs := [45]) (by kernel_rfl) (by simp) ?_
        refine AllReadyH.cons (o := ⟨some 101, _, _, _, _, _⟩) rfl (fun K hK => ?_) AllReadyH.nil
        go_simp
        refine (HBS.out _).mono ?_
        rintro r v11 ⟨rfl, hb⟩
        have K11 := hide (K10.out.below hb)
        clear hb
        refine hK.out _ _ K11.out (fun hHeld => ?_)
        clear hK K
        clear hHeld
        refine wpAnyH_take (i := 47) (oi := ⟨some 103, _, _, _, _, _⟩) (v := ?_) rfl (by kernel_rfl) (by kernel_rfl) (by kernel_rfl) (fun _ _ _ h => h) (Or.inl ⟨by rfl, ?_⟩) K11.out ?_
        rotate_left 1
        · (intro w hSw; clear hSw; go_simp; try with_reducible rfl)
        simp only [Act.put, List.setIfInBounds_toArray, List.set_cons_zero, List.set_cons_succ]
        refine wpAnyH_take (i := 48) (oi := ⟨some 104, _, _, _, _, _⟩) (v := ?_) rfl (by kernel_rfl) (by kernel_rfl) (by kernel_rfl) (fun _ _ _ h => h) (Or.inl ⟨by rfl, ?_⟩) K11.out ?_
        rotate_left 1
        · (intro w hSw; clear hSw; go_simp; try with_reducible rfl)
        simp only [Act.put, List.setIfInBounds_toArray, List.set_cons_zero, List.set_cons_succ]
        refine wpAnyH_take (i := 49) (oi := ⟨some 6, _, _, _, _, _⟩) (v := ?_) rfl (by kernel_rfl) (by kernel_rfl) (by kernel_rfl) (fun _ _ _ h => h) (Or.inl ⟨by rfl, ?_⟩) K11.out ?_
        rotate_left 1
        · (intro w hSw; clear hSw; go_simp; try with_reducible rfl)
        simp only [Act.put, List.setIfInBounds_toArray, List.set_cons_zero, List.set_cons_succ]
        refine wpAnyH_done (by kernel_rfl) ?_ _
        go_wp2
        go_ret
        exact ⟨rfl, K11.out.bel⟩
      · have HHor : Hid (∀ W, Calls Try.prog 23 #[val (orr S O), .int .i64 x] W fun e w' => e = .returned (.bool true) ∧ Below W.heap.size W w') := HHor0
        have HHb : Hid (∀ W, Calls Try.prog 23 #[val (but S O), .int .i64 x] W fun e w' => e = .returned (.bool (!ho)) ∧ Below W.heap.size W w') := HHb0
        have HHS := HHS0
        have HHO := HHO0
        clear HHor0 HHb0 HHS0 HHO0
        go_wp2
        refine wp_region_held (S := (Two w w3.heap.size w4.heap.size S O)) (by kernel_rfl) ?_
        change wpAnyH _ _ _ _ _ _ _ _ (World.drew _)
        refine wpAnyH_take (i := 0) (oi := ⟨some 56, _, _, _, _, _⟩) (v := val S) rfl (by kernel_rfl) (by kernel_rfl) (by kernel_rfl) (fun _ _ _ h => h) (yields_set (by rfl) (.tmp 7) rfl w3.heap.size rfl S HS8.out (fun w hw => hw.one)) K0.out ?_
        simp only [Act.put, List.setIfInBounds_toArray, List.set_cons_zero, List.set_cons_succ]
        refine wpAnyH_take (i := 1) (oi := ⟨some 57, _, _, _, _, _⟩) (v := val O) rfl (by kernel_rfl) (by kernel_rfl) (by kernel_rfl) (fun _ _ _ h => h) (yields_set (by rfl) (.tmp 8) rfl w4.heap.size rfl O HO8.out (fun w hw => hw.two)) K0.out ?_
        simp only [Act.put, List.setIfInBounds_toArray, List.set_cons_zero, List.set_cons_succ]
        refine wpAnyH_take (i := 3) (oi := ⟨some 59, _, _, _, _, _⟩) (v := ?_) rfl (by kernel_rfl) (by kernel_rfl) (by kernel_rfl) (fun _ _ _ h => h) (Or.inl ⟨by rfl, ?_⟩) K0.out ?_
        rotate_left 1
        · (intro w hSw; clear hSw; go_simp; try with_reducible rfl)
        simp only [Act.put, List.setIfInBounds_toArray, List.set_cons_zero, List.set_cons_succ]
        refine wpAnyH_take (i := 5) (oi := ⟨some 61, _, _, _, _, _⟩) (v := val S) rfl (by kernel_rfl) (by kernel_rfl) (by kernel_rfl) (fun _ _ _ h => h) (yields_set (by rfl) (.tmp 7) rfl w3.heap.size rfl S HS8.out (fun w hw => hw.one)) K0.out ?_
        simp only [Act.put, List.setIfInBounds_toArray, List.set_cons_zero, List.set_cons_succ]
        refine wpAnyH_take (i := 6) (oi := ⟨some 62, _, _, _, _, _⟩) (v := ?_) rfl (by kernel_rfl) (by kernel_rfl) (by kernel_rfl) (fun _ _ _ h => h) (Or.inl ⟨by rfl, ?_⟩) K0.out ?_
        rotate_left 1
        · (intro w hSw; clear hSw; go_simp; try with_reducible rfl)
        simp only [Act.put, List.setIfInBounds_toArray, List.set_cons_zero, List.set_cons_succ]
        refine wpAnyH_ready (rs := [2]) (by kernel_rfl) (by simp) ?_
        refine AllReadyH.cons (o := ⟨some 58, _, _, _, _, _⟩) rfl (fun K hK => ?_) AllReadyH.nil
        go_simp
        refine (HOr.out _).mono ?_
        rintro r v1 ⟨rfl, hb⟩
        have K1 := hide (K0.out.below hb)
        clear hb
        refine hK.out _ _ K1.out (fun hHeld => ?_)
        clear hK K
        clear hHeld
        refine wpAnyH_ready (rs := [4]) (by kernel_rfl) (by simp) ?_
        refine AllReadyH.cons (o := ⟨some 60, _, _, _, _, _⟩) rfl (fun K hK => ?_) AllReadyH.nil
        go_simp
        refine (HHor.out _).mono ?_
        rintro r v2 ⟨rfl, hb⟩
        have K2 := hide (K1.out.below hb)
        clear hb
        refine hK.out _ _ K2.out (fun hHeld => ?_)
        clear hK K
        clear hHeld
        refine wpAnyH_ready (rs := [7]) (by kernel_rfl) (by simp) ?_
        refine AllReadyH.cons (o := ⟨some 63, _, _, _, _, _⟩) rfl (fun K hK => ?_) AllReadyH.nil
        go_simp
        refine (HHS.out _).mono ?_
        rintro r v3 ⟨rfl, hb⟩
        have K3 := hide (K2.out.below hb)
        clear hb
        refine hK.out _ _ K3.out (fun hHeld => ?_)
        clear hK K
        clear hHeld
        refine wpAnyH_take (i := 8) (oi := ⟨some 64, _, _, _, _, _⟩) (v := ?_) rfl (by kernel_rfl) (by kernel_rfl) (by kernel_rfl) (fun _ _ _ h => h) (Or.inl ⟨by rfl, ?_⟩) K3.out ?_
        rotate_left 1
        · (intro w hSw; clear hSw; go_simp; try with_reducible rfl)
        simp only [Act.put, List.setIfInBounds_toArray, List.set_cons_zero, List.set_cons_succ]
        refine wpAnyH_take (i := 9) (oi := ⟨some 65, _, _, _, _, _⟩) (v := undef) rfl (by kernel_rfl) (by kernel_rfl) (by kernel_rfl) (fun _ _ _ h => h) (Or.inr ⟨by rfl, rfl⟩) K3.out ?_
        simp only [Act.put, List.setIfInBounds_toArray, List.set_cons_zero, List.set_cons_succ]
        refine wpAnyH_take (i := 10) (oi := ⟨some 66, _, _, _, _, _⟩) (v := undef) rfl (by kernel_rfl) (by kernel_rfl) (by kernel_rfl) (fun _ _ _ h => h) (Or.inr ⟨by rfl, rfl⟩) K3.out ?_
        simp only [Act.put, List.setIfInBounds_toArray, List.set_cons_zero, List.set_cons_succ]
        refine wpAnyH_take (i := 11) (oi := ⟨some 67, _, _, _, _, _⟩) (v := undef) rfl (by kernel_rfl) (by kernel_rfl) (by kernel_rfl) (fun _ _ _ h => h) (Or.inr ⟨by rfl, rfl⟩) K3.out ?_
        simp only [Act.put, List.setIfInBounds_toArray, List.set_cons_zero, List.set_cons_succ]
        refine wpAnyH_take (i := 12) (oi := ⟨some 68, _, _, _, _, _⟩) (v := ?_) rfl (by kernel_rfl) (by kernel_rfl) (by kernel_rfl) (fun _ _ _ h => h) (Or.inl ⟨by rfl, ?_⟩) K3.out ?_
        rotate_left 1
        · (intro w hSw; clear hSw; go_simp; try with_reducible rfl)
        simp only [Act.put, List.setIfInBounds_toArray, List.set_cons_zero, List.set_cons_succ]
        refine wpAnyH_take (i := 13) (oi := ⟨some 69, _, _, _, _, _⟩) (v := ?_) rfl (by kernel_rfl) (by kernel_rfl) (by kernel_rfl) (fun _ _ _ h => h) (Or.inl ⟨by rfl, ?_⟩) K3.out ?_
        rotate_left 1
        · (intro w hSw; clear hSw; go_simp; try with_reducible rfl)
        simp only [Act.put, List.setIfInBounds_toArray, List.set_cons_zero, List.set_cons_succ]
        refine wpAnyH_take (i := 14) (oi := ⟨some 70, _, _, _, _, _⟩) (v := ?_) rfl (by kernel_rfl) (by kernel_rfl) (by kernel_rfl) (fun _ _ _ h => h) (Or.inl ⟨by rfl, ?_⟩) K3.out ?_
        rotate_left 1
        · (intro w hSw; clear hSw; go_simp; try with_reducible rfl)
        simp only [Act.put, List.setIfInBounds_toArray, List.set_cons_zero, List.set_cons_succ]
        refine wpAnyH_take (i := 15) (oi := ⟨some 71, _, _, _, _, _⟩) (v := val S) rfl (by kernel_rfl) (by kernel_rfl) (by kernel_rfl) (fun _ _ _ h => h) (yields_set (by rfl) (.tmp 7) rfl w3.heap.size rfl S HS8.out (fun w hw => hw.one)) K3.out ?_
        simp only [Act.put, List.setIfInBounds_toArray, List.set_cons_zero, List.set_cons_succ]
        refine wpAnyH_take (i := 16) (oi := ⟨some 72, _, _, _, _, _⟩) (v := val O) rfl (by kernel_rfl) (by kernel_rfl) (by kernel_rfl) (fun _ _ _ h => h) (yields_set (by rfl) (.tmp 8) rfl w4.heap.size rfl O HO8.out (fun w hw => hw.two)) K3.out ?_
        simp only [Act.put, List.setIfInBounds_toArray, List.set_cons_zero, List.set_cons_succ]
        refine wpAnyH_take (i := 18) (oi := ⟨some 74, _, _, _, _, _⟩) (v := ?_) rfl (by kernel_rfl) (by kernel_rfl) (by kernel_rfl) (fun _ _ _ h => h) (Or.inl ⟨by rfl, ?_⟩) K3.out ?_
        rotate_left 1
        · (intro w hSw; clear hSw; go_simp; try with_reducible rfl)
        simp only [Act.put, List.setIfInBounds_toArray, List.set_cons_zero, List.set_cons_succ]
        refine wpAnyH_take (i := 20) (oi := ⟨some 76, _, _, _, _, _⟩) (v := val S) rfl (by kernel_rfl) (by kernel_rfl) (by kernel_rfl) (fun _ _ _ h => h) (yields_set (by rfl) (.tmp 7) rfl w3.heap.size rfl S HS8.out (fun w hw => hw.one)) K3.out ?_
        simp only [Act.put, List.setIfInBounds_toArray, List.set_cons_zero, List.set_cons_succ]
        refine wpAnyH_take (i := 21) (oi := ⟨some 77, _, _, _, _, _⟩) (v := ?_) rfl (by kernel_rfl) (by kernel_rfl) (by kernel_rfl) (fun _ _ _ h => h) (Or.inl ⟨by rfl, ?_⟩) K3.out ?_
        rotate_left 1
        · (intro w hSw; clear hSw; go_simp; try with_reducible rfl)
        simp only [Act.put, List.setIfInBounds_toArray, List.set_cons_zero, List.set_cons_succ]
        refine wpAnyH_ready (rs := [17]) (by kernel_rfl) (by simp) ?_
        refine AllReadyH.cons (o := ⟨some 73, _, _, _, _, _⟩) rfl (fun K hK => ?_) AllReadyH.nil
        go_simp
        refine (HBut.out _).mono ?_
        rintro r v4 ⟨rfl, hb⟩
        have K4 := hide (K3.out.below hb)
        clear hb
        refine hK.out _ _ K4.out (fun hHeld => ?_)
        clear hK K
        clear hHeld
        refine wpAnyH_ready (rs := [19]) (by kernel_rfl) (by simp) ?_
        refine AllReadyH.cons (o := ⟨some 75, _, _, _, _, _⟩) rfl (fun K hK => ?_) AllReadyH.nil
        go_simp
        refine (HHb.out _).mono ?_
        rintro r v5 ⟨rfl, hb⟩
        have K5 := hide (K4.out.below hb)
        clear hb
        refine hK.out _ _ K5.out (fun hHeld => ?_)
        clear hK K
        clear hHeld
        refine wpAnyH_ready (rs := [22]) (by kernel_rfl) (by simp) ?_
        refine AllReadyH.cons (o := ⟨some 78, _, _, _, _, _⟩) rfl (fun K hK => ?_) AllReadyH.nil
        go_simp
        refine (HHS.out _).mono ?_
        rintro r v6 ⟨rfl, hb⟩
        have K6 := hide (K5.out.below hb)
        clear hb
        refine hK.out _ _ K6.out (fun hHeld => ?_)
        clear hK K
        clear hHeld
        refine wpAnyH_take (i := 23) (oi := ⟨some 79, _, _, _, _, _⟩) (v := ?_) rfl (by kernel_rfl) (by kernel_rfl) (by kernel_rfl) (fun _ _ _ h => h) (Or.inl ⟨by rfl, ?_⟩) K6.out ?_
        rotate_left 1
        · (intro w hSw; clear hSw; go_simp; try with_reducible rfl)
        simp only [Act.put, List.setIfInBounds_toArray, List.set_cons_zero, List.set_cons_succ]
        refine wpAnyH_take (i := 24) (oi := ⟨some 80, _, _, _, _, _⟩) (v := val O) rfl (by kernel_rfl) (by kernel_rfl) (by kernel_rfl) (fun _ _ _ h => h) (yields_set (by rfl) (.tmp 8) rfl w4.heap.size rfl O HO8.out (fun w hw => hw.two)) K6.out ?_
        simp only [Act.put, List.setIfInBounds_toArray, List.set_cons_zero, List.set_cons_succ]
        refine wpAnyH_take (i := 25) (oi := ⟨some 81, _, _, _, _, _⟩) (v := ?_) rfl (by kernel_rfl) (by kernel_rfl) (by kernel_rfl) (fun _ _ _ h => h) (Or.inl ⟨by rfl, ?_⟩) K6.out ?_
        rotate_left 1
        · (intro w hSw; clear hSw; go_simp; try with_reducible rfl)
        simp only [Act.put, List.setIfInBounds_toArray, List.set_cons_zero, List.set_cons_succ]
        refine wpAnyH_ready (rs := [26]) (by kernel_rfl) (by simp) ?_
        refine AllReadyH.cons (o := ⟨some 82, _, _, _, _, _⟩) rfl (fun K hK => ?_) AllReadyH.nil
        go_simp
        refine (HHO.out _).mono ?_
        rintro r v7 ⟨rfl, hb⟩
        have K7 := hide (K6.out.below hb)
        clear hb
        refine hK.out _ _ K7.out (fun hHeld => ?_)
        clear hK K
        clear hHeld
        refine wpAnyH_take (i := 27) (oi := ⟨some 83, _, _, _, _, _⟩) (v := ?_) rfl (by kernel_rfl) (by kernel_rfl) (by kernel_rfl) (fun _ _ _ h => h) (Or.inl ⟨by rfl, ?_⟩) K7.out ?_
        rotate_left 1
        · (intro w hSw; clear hSw; go_simp; try with_reducible rfl)
        simp only [Act.put, List.setIfInBounds_toArray, List.set_cons_zero, List.set_cons_succ]
        refine wpAnyH_take (i := 28) (oi := ⟨some 84, _, _, _, _, _⟩) (v := ?_) rfl (by kernel_rfl) (by kernel_rfl) (by kernel_rfl) (fun _ _ _ h => h) (Or.inl ⟨by rfl, ?_⟩) K7.out ?_
        rotate_left 1
        · (intro w hSw; clear hSw; go_simp; try with_reducible rfl)
        simp only [Act.put, List.setIfInBounds_toArray, List.set_cons_zero, List.set_cons_succ]
        refine wpAnyH_take (i := 29) (oi := ⟨some 85, _, _, _, _, _⟩) (v := ?_) rfl (by kernel_rfl) (by kernel_rfl) (by kernel_rfl) (fun _ _ _ h => h) (Or.inl ⟨by rfl, ?_⟩) K7.out ?_
        rotate_left 1
        · (intro w hSw; clear hSw; go_simp; try with_reducible rfl)
        simp only [Act.put, List.setIfInBounds_toArray, List.set_cons_zero, List.set_cons_succ]
        refine wpAnyH_take (i := 30) (oi := ⟨some 86, _, _, _, _, _⟩) (v := ?_) rfl (by kernel_rfl) (by kernel_rfl) (by kernel_rfl) (fun _ _ _ h => h) (Or.inl ⟨by rfl, ?_⟩) K7.out ?_
        rotate_left 1
        · (intro w hSw; clear hSw; go_simp; try with_reducible rfl)
        simp only [Act.put, List.setIfInBounds_toArray, List.set_cons_zero, List.set_cons_succ]
        refine wpAnyH_take (i := 31) (oi := ⟨some 87, _, _, _, _, _⟩) (v := ?_) rfl (by kernel_rfl) (by kernel_rfl) (by kernel_rfl) (fun _ _ _ h => h) (Or.inl ⟨by rfl, ?_⟩) K7.out ?_
        rotate_left 1
        · (intro w hSw; clear hSw; go_simp; try with_reducible rfl)
        simp only [Act.put, List.setIfInBounds_toArray, List.set_cons_zero, List.set_cons_succ]
        refine wpAnyH_take (i := 32) (oi := ⟨some 88, _, _, _, _, _⟩) (v := val S) rfl (by kernel_rfl) (by kernel_rfl) (by kernel_rfl) (fun _ _ _ h => h) (yields_set (by rfl) (.tmp 7) rfl w3.heap.size rfl S HS8.out (fun w hw => hw.one)) K7.out ?_
        simp only [Act.put, List.setIfInBounds_toArray, List.set_cons_zero, List.set_cons_succ]
        refine wpAnyH_take (i := 33) (oi := ⟨some 89, _, _, _, _, _⟩) (v := val O) rfl (by kernel_rfl) (by kernel_rfl) (by kernel_rfl) (fun _ _ _ h => h) (yields_set (by rfl) (.tmp 8) rfl w4.heap.size rfl O HO8.out (fun w hw => hw.two)) K7.out ?_
        simp only [Act.put, List.setIfInBounds_toArray, List.set_cons_zero, List.set_cons_succ]
        refine wpAnyH_take (i := 35) (oi := ⟨some 91, _, _, _, _, _⟩) (v := val O) rfl (by kernel_rfl) (by kernel_rfl) (by kernel_rfl) (fun _ _ _ h => h) (yields_set (by rfl) (.tmp 8) rfl w4.heap.size rfl O HO8.out (fun w hw => hw.two)) K7.out ?_
        simp only [Act.put, List.setIfInBounds_toArray, List.set_cons_zero, List.set_cons_succ]
        refine wpAnyH_take (i := 37) (oi := ⟨some 93, _, _, _, _, _⟩) (v := val S) rfl (by kernel_rfl) (by kernel_rfl) (by kernel_rfl) (fun _ _ _ h => h) (yields_set (by rfl) (.tmp 7) rfl w3.heap.size rfl S HS8.out (fun w hw => hw.one)) K7.out ?_
        simp only [Act.put, List.setIfInBounds_toArray, List.set_cons_zero, List.set_cons_succ]
        refine wpAnyH_take (i := 38) (oi := ⟨some 94, _, _, _, _, _⟩) (v := val O) rfl (by kernel_rfl) (by kernel_rfl) (by kernel_rfl) (fun _ _ _ h => h) (yields_set (by rfl) (.tmp 8) rfl w4.heap.size rfl O HO8.out (fun w hw => hw.two)) K7.out ?_
        simp only [Act.put, List.setIfInBounds_toArray, List.set_cons_zero, List.set_cons_succ]
        refine wpAnyH_ready (rs := [34]) (by kernel_rfl) (by simp) ?_
        refine AllReadyH.cons (o := ⟨some 90, _, _, _, _, _⟩) rfl (fun K hK => ?_) AllReadyH.nil
        go_simp
        refine (HBut.out _).mono ?_
        rintro r v8 ⟨rfl, hb⟩
        have K8 := hide (K7.out.below hb)
        clear hb
        refine hK.out _ _ K8.out (fun hHeld => ?_)
        clear hK K
        clear hHeld
        refine wpAnyH_ready (rs := [36]) (by kernel_rfl) (by simp) ?_
        refine AllReadyH.cons (o := ⟨some 92, _, _, _, _, _⟩) rfl (fun K hK => ?_) AllReadyH.nil
        go_simp
        refine (HBO.out _).mono ?_
        rintro r v9 ⟨rfl, hb⟩
        have K9 := hide (K8.out.below hb)
        clear hb
        refine hK.out _ _ K9.out (fun hHeld => ?_)
        clear hK K
        clear hHeld
        refine wpAnyH_ready (rs := [39]) (by kernel_rfl) (by simp) ?_
        refine AllReadyH.cons (o := ⟨some 95, _, _, _, _, _⟩) rfl (fun K hK => ?_) AllReadyH.nil
        go_simp
        refine (HOr.out _).mono ?_
        rintro r v10 ⟨rfl, hb⟩
        have K10 := hide (K9.out.below hb)
        clear hb
        refine hK.out _ _ K10.out (fun hHeld => ?_)
        clear hK K
        clear hHeld
        refine wpAnyH_take (i := 40) (oi := ⟨some 96, _, _, _, _, _⟩) (v := ?_) rfl (by kernel_rfl) (by kernel_rfl) (by kernel_rfl) (fun _ _ _ h => h) (Or.inl ⟨by rfl, ?_⟩) K10.out ?_
        rotate_left 1
        · (intro w hSw; clear hSw; go_simp; try with_reducible rfl)
        simp only [Act.put, List.setIfInBounds_toArray, List.set_cons_zero, List.set_cons_succ]
        refine wpAnyH_take (i := 41) (oi := ⟨some 97, _, _, _, _, _⟩) (v := ?_) rfl (by kernel_rfl) (by kernel_rfl) (by kernel_rfl) (fun _ _ _ h => h) (Or.inl ⟨by rfl, ?_⟩) K10.out ?_
        rotate_left 1
        · (intro w hSw; clear hSw; go_simp; try with_reducible rfl)
        simp only [Act.put, List.setIfInBounds_toArray, List.set_cons_zero, List.set_cons_succ]
        refine wpAnyH_take (i := 42) (oi := ⟨some 98, _, _, _, _, _⟩) (v := ?_) rfl (by kernel_rfl) (by kernel_rfl) (by kernel_rfl) (fun _ _ _ h => h) (Or.inl ⟨by rfl, ?_⟩) K10.out ?_
        rotate_left 1
        · (intro w hSw; clear hSw; go_simp; try with_reducible rfl)
        simp only [Act.put, List.setIfInBounds_toArray, List.set_cons_zero, List.set_cons_succ]
        refine wpAnyH_take (i := 43) (oi := ⟨some 99, _, _, _, _, _⟩) (v := val S) rfl (by kernel_rfl) (by kernel_rfl) (by kernel_rfl) (fun _ _ _ h => h) (yields_set (by rfl) (.tmp 7) rfl w3.heap.size rfl S HS8.out (fun w hw => hw.one)) K10.out ?_
        simp only [Act.put, List.setIfInBounds_toArray, List.set_cons_zero, List.set_cons_succ]
        refine wpAnyH_take (i := 44) (oi := ⟨some 100, _, _, _, _, _⟩) (v := val S) rfl (by kernel_rfl) (by kernel_rfl) (by kernel_rfl) (fun _ _ _ h => h) (yields_set (by rfl) (.tmp 7) rfl w3.heap.size rfl S HS8.out (fun w hw => hw.one)) K10.out ?_
        simp only [Act.put, List.setIfInBounds_toArray, List.set_cons_zero, List.set_cons_succ]
        refine wpAnyH_take (i := 46) (oi := ⟨some 102, _, _, _, _, _⟩) (v := val empty) rfl (by kernel_rfl) (by kernel_rfl) (by kernel_rfl) (fun _ _ _ h => h) (yields_zero (by rfl) rfl) K10.out ?_
        simp only [Act.put, List.setIfInBounds_toArray, List.set_cons_zero, List.set_cons_succ]
        refine wpAnyH_ready (rs := [45]) (by kernel_rfl) (by simp) ?_
        refine AllReadyH.cons (o := ⟨some 101, _, _, _, _, _⟩) rfl (fun K hK => ?_) AllReadyH.nil
        go_simp
        refine (HBS.out _).mono ?_
        rintro r v11 ⟨rfl, hb⟩
        have K11 := hide (K10.out.below hb)
        clear hb
        refine hK.out _ _ K11.out (fun hHeld => ?_)
        clear hK K
        clear hHeld
        refine wpAnyH_take (i := 47) (oi := ⟨some 103, _, _, _, _, _⟩) (v := ?_) rfl (by kernel_rfl) (by kernel_rfl) (by kernel_rfl) (fun _ _ _ h => h) (Or.inl ⟨by rfl, ?_⟩) K11.out ?_
        rotate_left 1
        · (intro w hSw; clear hSw; go_simp; try with_reducible rfl)
        simp only [Act.put, List.setIfInBounds_toArray, List.set_cons_zero, List.set_cons_succ]
        refine wpAnyH_take (i := 48) (oi := ⟨some 104, _, _, _, _, _⟩) (v := ?_) rfl (by kernel_rfl) (by kernel_rfl) (by kernel_rfl) (fun _ _ _ h => h) (Or.inl ⟨by rfl, ?_⟩) K11.out ?_
        rotate_left 1
        · (intro w hSw; clear hSw; go_simp; try with_reducible rfl)
        simp only [Act.put, List.setIfInBounds_toArray, List.set_cons_zero, List.set_cons_succ]
        refine wpAnyH_take (i := 49) (oi := ⟨some 6, _, _, _, _, _⟩) (v := ?_) rfl (by kernel_rfl) (by kernel_rfl) (by kernel_rfl) (fun _ _ _ h => h) (Or.inl ⟨by rfl, ?_⟩) K11.out ?_
        rotate_left 1
        · (intro w hSw; clear hSw; go_simp; try with_reducible rfl)
        simp only [Act.put, List.setIfInBounds_toArray, List.set_cons_zero, List.set_cons_succ]
        refine wpAnyH_done (by kernel_rfl) ?_ _
        go_wp2
        go_ret
        exact ⟨rfl, K11.out.bel⟩

end Go.Proofs.Ytmenedndchakjaa.Bt
