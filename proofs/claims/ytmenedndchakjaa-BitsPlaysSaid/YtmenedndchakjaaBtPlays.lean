/-
  BitsPlays at every script: it returns true, and changes nothing that was there.
-/
import Derived.Test.YtmenedndchakjaaBtTwo
import Derived.Test.YtmenedndchakjaaBtOp
namespace Go.Proofs.Ytmenedndchakjaa.Bt
open Go.RowKit
open Pk Sm

/-- One change in memory of the call's own, its integers where they came in. -/
structure Hl7 (w : World) (gb : Nat) (kd qb : Int) (qa : Option Addr) (qn qc : Nat) (ql : List Int) (W : World) : Prop where
  box : W.heap[gb]? = some (.cells #[.int .i64 kd, .int .i64 qb, .slice qa qn qc] 32 (0, 0))
  fit : Ints W w.heap.size qa ql
  bel : Below w.heap.size w W
section
variable {w : World} {gb g : Nat} {kd qb : Int} {qa : Option Addr} {qn qc : Nat} {ql : List Int} {W W' : World}
theorem Hl7.c1 (h : Hl7 w gb kd qb qa qn qc ql W) : W.cell? ⟨gb, 1, none⟩ = some (.int .i64 qb) := by rw [cell_of_row W gb 1 _ _ _ h.box]; rfl
theorem Hl7.c2 (h : Hl7 w gb kd qb qa qn qc ql W) : W.cell? ⟨gb, 2, none⟩ = some (.slice qa qn qc) := by rw [cell_of_row W gb 2 _ _ _ h.box]; rfl
theorem Hl7.below (h : Hl7 w gb kd qb qa qn qc ql W) (hb : Below W.heap.size W W') : Hl7 w gb kd qb qa qn qc ql W' :=
  ⟨(hb.block gb (Array.getElem?_eq_some_iff.1 h.box).1).trans h.box, h.fit.below (hb.mono h.bel.size), h.bel.trans (hb.mono h.bel.size)⟩
theorem Hl7.row (h : Hl7 w gb kd qb qa qn qc ql W) (hg : gb ≠ g) (hgw : w.heap.size ≤ g) (cs : Array Value) : Hl7 w gb kd qb qa qn qc ql (W.setRow g cs) :=
  ⟨(setRow_other W g gb cs hg).trans h.box, h.fit.below (below_row hgw cs), below_setRow h.bel hgw cs⟩
end

/-- A set read, or written anew, inside a region or behind a guard. -/
theorem step_load_set {ops : Array Oper} {o : Oper} {a : Act} {w : World} {K : Act → World → Prop} {Q : Exit → Act → World → Prop} {E : Prop} (hw : Region.wanted o (yielded ops a.tmps) = true) (x : Operand) (ho : o.op = .load 28 x)
    (g : Nat) (hx : a.eval x = .pointer (some ⟨g, 0, none⟩)) (S : BSet) (hS : S.length = 8) (hl : Lies w g S) (h : K (a.put o.dst (val S)) w) : if Region.wanted o (yielded ops a.tmps) = true then Oper.wp Try.prog o a w K Q else E := by
  rw [if_pos hw]
  exact wp_load_mid 28 x ho g 0 hx (bcels S) _ hl.range Try.underlying28 rfl (by rw [set_size, bcels_length, hS]) h
theorem step_store_set {ops : Array Oper} {o : Oper} {a : Act} {w : World} {K : Act → World → Prop} {Q : Exit → Act → World → Prop} {E : Prop} (hw : Region.wanted o (yielded ops a.tmps) = true) (x y : Operand) (ho : o.op = .store 28 x y)
    (g : Nat) (hx : a.eval x = .pointer (some ⟨g, 0, none⟩)) (S T : BSet) (hy : a.eval y = val T) (hS : S.length = 8) (hT : T.length = 8) (hl : Lies w g S) (h : ∀ w', Hid (w' = w.setRow g (bcels T).toArray) → K (a.put o.dst undef) w') : if Region.wanted o (yielded ops a.tmps) = true then Oper.wp Try.prog o a w K Q else E := by
  rw [if_pos hw]
  have hrun := run_storeVar_row (P := Try.prog) w g 28 28 _ (bcels T).toArray hl.heap (by rw [set_size, List.size_toArray, bcels_length, hT]) (by rw [List.size_toArray, List.size_toArray, bcels_length, bcels_length, hS, hT]) (all_oneCell_toArray (bcels_one _))
  unfold Oper.wp execOp
  simp only [ho, hx, hy, val, Instr.storeAt, Instr.sureAddr, Sem.run_bind, hrun, Sem.run_pure, Result.andThen_ok]
  exact h _ (hide rfl)
theorem wpList_load_set {ops : Array Oper} {rest : List Oper} {o : Oper} {a : Act} {w : World} {Q : Exit → Act → World → Prop} (hw : Region.wanted o (yielded ops a.tmps) = true) (x : Operand) (ho : o.op = .load 28 x)
    (g : Nat) (hx : a.eval x = .pointer (some ⟨g, 0, none⟩)) (S : BSet) (hS : S.length = 8) (hl : Lies w g S) (h : wpList Try.prog ops Q rest (a.put o.dst (val S)) w) : wpList Try.prog ops Q (o :: rest) a w :=
  BigFrame.wpList_want hw fun _ hK => wp_load_mid 28 x ho g 0 hx (bcels S) _ hl.range Try.underlying28 rfl (by rw [set_size, bcels_length, hS]) (hK _ _ h)

set_option maxRecDepth 100000 in
set_option maxHeartbeats 4000000 in
theorem Plays_any (A : Option Addr) (xs : List Int) (n c : Nat) (A' : Option Addr) (l : List Oq) (m d : Nat) (x : Int) (w : World) (hx : xs.length = n) (hA : Ints w w.heap.size A xs) (hn : n ≤ maxLen) (hl : l.length = m) (hf : OFits w w.heap.size l) (hp : Ops w w.heap.size A' l) (hm : m ≤ maxLen) :
    Calls Try.prog 3 #[.slice A n c, .slice A' m d, .int .i64 x] w fun e w' => e = .returned (.bool true) ∧ Below w.heap.size w w' := by
  replace hn : n ≤ 9223372036854775807 := hn
  replace hm : m ≤ 9223372036854775807 := hm
  have HX := hide hx
  have HL := hide hl
  have HA := hide hA
  have HF := hide hf
  have HP := hide hp
  clear hx hl hA hf hp
  have early : ∀ b : Bool, (∀ w1, Below w.heap.size w w1 → Calls Try.prog 9 #[.slice A' m d] w1 fun r w' => r = .returned (.bool b) ∧ w1 = w') → (b = false ∨ 50 < n) → Calls Try.prog 3 #[.slice A n c, .slice A' m d, .int .i64 x] w fun e w' => e = .returned (.bool true) ∧ Below w.heap.size w w' := by
    intro b hfew hb
    have HFew := hide hfew
    clear hfew
    cases b
    · clear hb
      go_enter Try.func3, Try.ntmps3
      go_wp2_with fail
      refine (awake_any w).mono ?_
      rintro e w1 ⟨rfl, hb1⟩
      have z1 := hb1.size
      have HB1 := hide hb1
      have HFw := hide (HFew.out w1 hb1)
      clear hb1
      go_wp2_with fail
      refine HFw.out.mono ?_
      rintro e w9 ⟨rfl, rfl⟩
      go_wp2_with fail
      refine (awake_any w1).mono ?_
      rintro e w2 ⟨rfl, hb2⟩
      have HB2 := hide (HB1.out.trans (hb2.mono z1))
      clear hb2
      go_wp2
      go_ret
      exact ⟨rfl, HB2.out⟩
    · have h50 : 50 < n := by
        rcases hb with h | h
        · cases h
        · exact h
      clear hb
      go_enter Try.func3, Try.ntmps3
      go_wp2_with fail
      refine (awake_any w).mono ?_
      rintro e w1 ⟨rfl, hb1⟩
      have z1 := hb1.size
      have HB1 := hide hb1
      have HFw := hide (HFew.out w1 hb1)
      clear hb1
      go_wp2_with fail
      refine HFw.out.mono ?_
      rintro e w9 ⟨rfl, rfl⟩
      go_wp2_with fail
      refine (awake_any w1).mono ?_
      rintro e w2 ⟨rfl, hb2⟩
      have HB2 := hide (HB1.out.trans (hb2.mono z1))
      clear hb2
      go_wp2
      go_ret
      exact ⟨rfl, HB2.out⟩
  by_cases h200 : 200 < m
  · exact early false (fun w1 _ => few_long A' m d w1 h200) (Or.inl rfl)
  · have hm2 : m ≤ 200 := by omega
    have hfew : ∃ b : Bool, (∀ w1, Below w.heap.size w w1 → Calls Try.prog 9 #[.slice A' m d] w1 fun r w' => r = .returned (.bool b) ∧ w1 = w') ∧ (b = true ↔ Shorts l) := by
      by_cases hs : Shorts l
      · refine ⟨true, fun w1 hb1 => (few_short A' m d l w1 HL.out hm2 ((HP.out.below hb1).more1 hb1.size) ((HF.out.below hb1).more1 hb1.size)).mono ?_, by simp [hs]⟩
        rintro r w' ⟨⟨b, rfl, hb⟩, rfl⟩
        exact ⟨by rw [hb.2 hs], rfl⟩
      · refine ⟨false, fun w1 hb1 => (few_short A' m d l w1 HL.out hm2 ((HP.out.below hb1).more1 hb1.size) ((HF.out.below hb1).more1 hb1.size)).mono ?_, by simp [hs]⟩
        rintro r w' ⟨⟨b, rfl, hb⟩, rfl⟩
        cases b
        · exact ⟨rfl, rfl⟩
        · exact absurd (hb.1 rfl) hs
    obtain ⟨bf, hfew, hbf⟩ := hfew
    by_cases hbf' : bf = false ∨ 50 < n
    · exact early bf hfew hbf'
    · obtain rfl : bf = true := by cases bf <;> simp_all
      have hn50 : n ≤ 50 := by omega
      have HSh := hide (hbf.1 rfl)
      have HFew := hide hfew
      clear hfew hbf hbf' early h200
      go_enter Try.func3, Try.ntmps3
      go_wp2_with fail
      refine (awake_any w).mono ?_
      rintro e w1 ⟨rfl, hb1⟩
      have z1 := hb1.size
      have HB1 := hide hb1
      have HFw := hide (HFew.out w1 hb1)
      have HO1 := hide (Of_any A xs n c w1 HX.out ((HA.out.below hb1).more z1) hn)
      clear hb1 HFew
      go_wp2_with fail
      refine HFw.out.mono ?_
      rintro e w9 ⟨rfl, rfl⟩
      go_wp2_with fail
      refine HO1.out.mono ?_
      rintro e w2 ⟨rfl, hb2⟩
      have z2 := hb2.size
      have HB2 := hide (HB1.out.trans (hb2.mono z1))
      have HO2 := hide (of_any A xs n c w2 HX.out ((HA.out.below HB2.out).more HB2.out.size) hn)
      clear hb2 HO1 HFw HB1
      obtain ⟨S0, hS0⟩ : ∃ S, of xs = S := ⟨_, rfl⟩
      have HS0 : Hid (S0.length = 8) := hide (by rw [← hS0]; exact of_length _)
      have Hl0 : Hid ((bcels S0).length = 8) := hide (by rw [bcels_length]; exact HS0.out)
      rw [hS0] at HO2 ⊢
      clear hS0
      go_wp2_with fail
      refine HO2.out.mono ?_
      rintro e w3 ⟨rfl, hb3⟩
      have HB3 := hide (HB2.out.trans (hb3.mono HB2.out.size))
      have z3 := HB3.out.size
      clear hb3 HO2 HB2 z2 z1
      go_wp2_with (refine wpList_alloc_told rfl 28 rfl _ set_zero ?_)
      intro w4 H4
      have E4 := hide (show Lies w4 w3.heap.size empty by rw [H4.out]; exact lies_new w3 empty)
      have B4 := hide (show Below w.heap.size w w4 by rw [H4.out]; exact HB3.out.alloc z3 _)
      clear H4
      go_wp2_with (refine wpList_store_told rfl 28 (.tmp 7) (.tmp 25) rfl w3.heap.size (bcels S0).toArray rfl rfl _ E4.out.heap (by rw [set_size, List.size_toArray, Hl0.out]) (by rw [List.size_toArray, List.size_toArray, Hl0.out, bcels_length, empty_length]) (all_oneCell_toArray (bcels_one _)) ?_)
      intro w5 H5
      have L5 := hide (show Lies w5 w3.heap.size S0 by rw [H5.out]; exact setRow_heap _ _ _ _ _ _ E4.out.heap)
      have B5 := hide (show Below w.heap.size w w5 by rw [H5.out]; exact below_setRow B4.out z3 _)
      clear H5 E4 B4 HB3
      generalize w3.heap.size = g at *
      go_wp2
      go_loopw [8, 30] (fun s i wr => ∃ (k : Nat) (S : BSet), k ≤ m ∧ i = .int .i64 k ∧ s = .string (txt S) ∧ S.length = 8 ∧ Lies wr g S ∧ Below w.heap.size w wr) (fun _ i _ => m - (intOf i).toNat)
      case atStart => exact ⟨0, S0, Nat.zero_le _, rfl, rfl, HS0.out, L5.out, B5.out⟩
      case round =>
        obtain ⟨k, S, hk, rfl, rfl, hS8, hLi, hB⟩ := hrel
        have HS8 := hide hS8
        have HLi := hide hLi
        have HB := hide hB
        clear hS8 hLi hB
        by_cases hlt : k < m
        · obtain ⟨q, hq⟩ : ∃ q, l[k]? = some q := ⟨_, List.getElem?_eq_getElem (by rw [HL.out]; exact hlt)⟩
          obtain ⟨bo, oo, rfl, hc0, hc1, hc2⟩ := (HP.out.below HB.out).at_ hq
          obtain ⟨_, _, q3, q4, q5⟩ := (HF.out.below HB.out) q (List.mem_of_getElem? hq)
          have q6 := HSh.out q (List.mem_of_getElem? hq)
          clear hq
          obtain ⟨kd, qb, qa, qn, qc, ql⟩ := q
          dsimp only at hc0 hc1 hc2 q3 q4 q5 q6
          have Hq := hide (And.intro q3 q4)
          have Hgb := hide (And.intro z3 (show wr.heap.size ≠ g from fun e => by have := HLi.out.lt; omega))
          have L0 := hide (show Lies (wr.alloc (.cells #[.int .i64 kd, .int .i64 qb, .slice qa qn qc] 32)).drew g S from HLi.out.alloc _)
          have K0 := hide (show Hl7 w wr.heap.size kd qb qa qn qc ql (wr.alloc (.cells #[.int .i64 kd, .int .i64 qb, .slice qa qn qc] 32)).drew from ⟨World.alloc_heap_new wr _, q5.below ((Below.refl w.heap.size wr).alloc HB.out.size _).drew, (HB.out.alloc HB.out.size _).drew⟩)
          clear q3 q4 q5 q6
          by_cases h1 : kd = 1
          · subst h1
            as_aux_lemma =>
              have HW := hide (fun W => With_any S HS8.out qb W)
              have HrW := hide (fun W => rWith_any S HS8.out qb W)
              obtain ⟨T, hT⟩ : ∃ T, put S qb true = T := ⟨_, rfl⟩
              have HT8 : Hid (T.length = 8) := hide (by rw [← hT]; first | exact HS8.out | (rw [put_length]; exact HS8.out) | (rw [orr_length]; exact HS8.out) | (rw [but_length]; exact HS8.out))
              have HTx := hide (fun W => Text_any T HT8.out W)
              obtain ⟨nT, hnT⟩ : ∃ nT : Int, (len T : Int) = nT := ⟨_, rfl⟩
              have HLn := hide (fun W => Len_any T HT8.out nT hnT W)
              have HrL := hide (fun W => rLen_any T HT8.out W)
              rw [hnT] at HrL
              have HHs := hide (fun W => Has_any T HT8.out x W)
              have HrH := hide (fun W => rHas_any T HT8.out x W)
              obtain ⟨bT, hbT⟩ : ∃ bT, has T x = bT := ⟨_, rfl⟩
              rw [hbT] at HHs HrH
              obtain ⟨tT, htT⟩ : ∃ tT, txt T = tT := ⟨_, rfl⟩
              have HTt := hide htT
              rw [htT] at HTx HrL HrH
              clear hnT hbT
              rw [hT] at HW HrW
              rw [htT] at HrW
              clear hT htT
              generalize txt S = tS at *
              go_wp2
              refine wp_region_held (S := (Hl7 w wr.heap.size 1 qb qa qn qc ql)) (by kernel_rfl) ?_
              change wpAnyH _ _ _ _ _ _ _ _ (World.drew _)
              refine wpAnyH_take (i := 1) (oi := ⟨some 42, _, _, _, _, _⟩) (v := ?_) rfl (by kernel_rfl) (by kernel_rfl) (by kernel_rfl) (fun _ _ _ h => h) (Or.inl ⟨by rfl, ?_⟩) K0.out ?_
              rotate_left 1
              · (intro w hSw; clear hSw; go_simp; try with_reducible rfl)
              simp only [Act.put, List.setIfInBounds_toArray, List.set_cons_zero, List.set_cons_succ]
              refine wpAnyH_take (i := 2) (oi := ⟨some 43, _, _, _, _, _⟩) (v := .int .i64 qb) rfl (by kernel_rfl) (by kernel_rfl) (by kernel_rfl) (fun _ _ _ h => h) (Or.inl ⟨by rfl, fun W hSw => (by have hc := hSw.c1; clear hSw; go_simp)⟩) K0.out ?_
              simp only [Act.put, List.setIfInBounds_toArray, List.set_cons_zero, List.set_cons_succ]
              refine wpAnyH_take (i := 4) (oi := ⟨some 45, _, _, _, _, _⟩) (v := ?_) rfl (by kernel_rfl) (by kernel_rfl) (by kernel_rfl) (fun _ _ _ h => h) (Or.inl ⟨by rfl, ?_⟩) K0.out ?_
              rotate_left 1
              · (intro w hSw; clear hSw; go_simp; try with_reducible rfl)
              simp only [Act.put, List.setIfInBounds_toArray, List.set_cons_zero, List.set_cons_succ]
              refine wpAnyH_take (i := 5) (oi := ⟨some 46, _, _, _, _, _⟩) (v := ?_) rfl (by kernel_rfl) (by kernel_rfl) (by kernel_rfl) (fun _ _ _ h => h) (Or.inl ⟨by rfl, ?_⟩) K0.out ?_
              rotate_left 1
              · (intro w hSw; clear hSw; go_simp; try with_reducible rfl)
              simp only [Act.put, List.setIfInBounds_toArray, List.set_cons_zero, List.set_cons_succ]
              refine wpAnyH_take (i := 6) (oi := ⟨some 47, _, _, _, _, _⟩) (v := .int .i64 qb) rfl (by kernel_rfl) (by kernel_rfl) (by kernel_rfl) (fun _ _ _ h => h) (Or.inl ⟨by rfl, fun W hSw => (by have hc := hSw.c1; clear hSw; go_simp)⟩) K0.out ?_
              simp only [Act.put, List.setIfInBounds_toArray, List.set_cons_zero, List.set_cons_succ]
              refine wpAnyH_ready (rs := [0]) (by kernel_rfl) (by simp) ?_
              refine AllReadyH.cons (o := ⟨some 41, _, _, _, _, _⟩) rfl (fun K hK => ?_) AllReadyH.nil
              refine step_load_set (by rfl) (.tmp 7) rfl g rfl S HS8.out L0.out ?_
              refine hK.out _ _ K0.out (fun hHeld => ?_)
              clear hK K
              clear hHeld
              refine wpAnyH_ready (rs := [3]) (by kernel_rfl) (by simp) ?_
              refine AllReadyH.cons (o := ⟨some 44, _, _, _, _, _⟩) rfl (fun K hK => ?_) AllReadyH.nil
              go_simp
              refine (HW.out _).mono ?_
              rintro r v1 ⟨rfl, hb⟩
              have K1 := hide (K0.out.below hb)
              have L1 := hide (L0.out.below hb L0.out.lt)
              clear hb
              refine hK.out _ _ K1.out (fun hHeld => ?_)
              clear hK K
              clear hHeld
              refine wpAnyH_ready (rs := [7]) (by kernel_rfl) (by simp) ?_
              refine AllReadyH.cons (o := ⟨some 48, _, _, _, _, _⟩) rfl (fun K hK => ?_) AllReadyH.nil
              go_simp
              refine (HrW.out _).mono ?_
              rintro r v2 ⟨rfl, hb⟩
              have K2 := hide (K1.out.below hb)
              have L2 := hide (L1.out.below hb L1.out.lt)
              clear hb
              refine hK.out _ _ K2.out (fun hHeld => ?_)
              clear hK K
              clear hHeld
              refine wpAnyH_ready (rs := [8]) (by kernel_rfl) (by simp) ?_
              refine AllReadyH.cons (o := ⟨none, _, _, _, _, _⟩) rfl (fun K hK => ?_) AllReadyH.nil
              refine step_store_set (by rfl) (.tmp 7) (.tmp 44) rfl g rfl S T rfl HS8.out HT8.out L2.out ?_
              intro v3 hw
              have K3 := hide (show Hl7 w wr.heap.size _ _ _ _ _ _ v3 by rw [hw.out]; exact K2.out.row Hgb.out.2 Hgb.out.1 _)
              have L3 := hide (show Lies v3 g T by rw [hw.out]; exact setRow_heap _ _ _ _ _ _ L2.out.heap)
              clear hw
              refine hK.out _ _ K3.out (fun hHeld => ?_)
              clear hK K
              clear hHeld
              refine wpAnyH_take (i := 9) (oi := ⟨some 8, _, _, _, _, _⟩) (v := ?_) rfl (by kernel_rfl) (by kernel_rfl) (by kernel_rfl) (fun _ _ _ h => h) (Or.inl ⟨by rfl, ?_⟩) K3.out ?_
              rotate_left 1
              · (intro w hSw; clear hSw; go_simp; try with_reducible rfl)
              simp only [Act.put, List.setIfInBounds_toArray, List.set_cons_zero, List.set_cons_succ]
              refine wpAnyH_done (by kernel_rfl) ?_ _
              have Lr := hide (L3.out.range)
              have LL := L3
              have BB := hide K3.out.bel
              clear Lr
              -- behind the switch
              go_wp2_with (refine wpList_load_set (by rfl) (.tmp 7) rfl g rfl T HT8.out LL.out ?_)
              refine (HTx.out _).mono ?_
              rintro r u1 ⟨rfl, hb⟩
              have LL1 := hide (LL.out.below hb LL.out.lt)
              have BB1 := hide (BB.out.trans (hb.mono BB.out.size))
              clear hb
              go_wp2_with (refine wpList_load_set (by rfl) (.tmp 7) rfl g rfl T HT8.out LL1.out ?_)
              refine (HLn.out _).mono ?_
              rintro r u2 ⟨rfl, hb⟩
              have LL2 := hide (LL1.out.below hb LL1.out.lt)
              have BB2 := hide (BB1.out.trans (hb.mono BB1.out.size))
              clear hb
              go_wp2_with fail
              refine (HrL.out _).mono ?_
              rintro r w9 ⟨rfl, rfl⟩
              go_wp2_with (refine wpList_load_set (by rfl) (.tmp 7) rfl g rfl T HT8.out LL2.out ?_)
              refine (HHs.out _).mono ?_
              rintro r u3 ⟨rfl, hb⟩
              have LL3 := hide (LL2.out.below hb LL2.out.lt)
              have BB3 := hide (BB2.out.trans (hb.mono BB2.out.size))
              clear hb
              go_wp2_with fail
              refine (HrH.out _).mono ?_
              rintro r w9 ⟨rfl, rfl⟩
              go_wp2
              go_roundw
              case rel => exact ⟨k + 1, T, by omega, by go_num, by rw [HTt.out], HT8.out, LL3.out, BB3.out⟩
              case measure => simp [intOf]; omega
          · by_cases h2 : kd = 2
            · subst h2
              as_aux_lemma =>
                have HW := hide (fun W => Without_any S HS8.out qb W)
                have HrW := hide (fun W => rWithout_any S HS8.out qb W)
                obtain ⟨T, hT⟩ : ∃ T, put S qb false = T := ⟨_, rfl⟩
                have HT8 : Hid (T.length = 8) := hide (by rw [← hT]; first | exact HS8.out | (rw [put_length]; exact HS8.out) | (rw [orr_length]; exact HS8.out) | (rw [but_length]; exact HS8.out))
                have HTx := hide (fun W => Text_any T HT8.out W)
                obtain ⟨nT, hnT⟩ : ∃ nT : Int, (len T : Int) = nT := ⟨_, rfl⟩
                have HLn := hide (fun W => Len_any T HT8.out nT hnT W)
                have HrL := hide (fun W => rLen_any T HT8.out W)
                rw [hnT] at HrL
                have HHs := hide (fun W => Has_any T HT8.out x W)
                have HrH := hide (fun W => rHas_any T HT8.out x W)
                obtain ⟨bT, hbT⟩ : ∃ bT, has T x = bT := ⟨_, rfl⟩
                rw [hbT] at HHs HrH
                obtain ⟨tT, htT⟩ : ∃ tT, txt T = tT := ⟨_, rfl⟩
                have HTt := hide htT
                rw [htT] at HTx HrL HrH
                clear hnT hbT
                rw [hT] at HW HrW
                rw [htT] at HrW
                clear hT htT
                generalize txt S = tS at *
                go_wp2
                refine wp_region_held (S := (Hl7 w wr.heap.size 2 qb qa qn qc ql)) (by kernel_rfl) ?_
                change wpAnyH _ _ _ _ _ _ _ _ (World.drew _)
                refine wpAnyH_take (i := 1) (oi := ⟨some 52, _, _, _, _, _⟩) (v := ?_) rfl (by kernel_rfl) (by kernel_rfl) (by kernel_rfl) (fun _ _ _ h => h) (Or.inl ⟨by rfl, ?_⟩) K0.out ?_
                rotate_left 1
                · (intro w hSw; clear hSw; go_simp; try with_reducible rfl)
                simp only [Act.put, List.setIfInBounds_toArray, List.set_cons_zero, List.set_cons_succ]
                refine wpAnyH_take (i := 2) (oi := ⟨some 53, _, _, _, _, _⟩) (v := .int .i64 qb) rfl (by kernel_rfl) (by kernel_rfl) (by kernel_rfl) (fun _ _ _ h => h) (Or.inl ⟨by rfl, fun W hSw => (by have hc := hSw.c1; clear hSw; go_simp)⟩) K0.out ?_
                simp only [Act.put, List.setIfInBounds_toArray, List.set_cons_zero, List.set_cons_succ]
                refine wpAnyH_take (i := 4) (oi := ⟨some 55, _, _, _, _, _⟩) (v := ?_) rfl (by kernel_rfl) (by kernel_rfl) (by kernel_rfl) (fun _ _ _ h => h) (Or.inl ⟨by rfl, ?_⟩) K0.out ?_
                rotate_left 1
                · (intro w hSw; clear hSw; go_simp; try with_reducible rfl)
                simp only [Act.put, List.setIfInBounds_toArray, List.set_cons_zero, List.set_cons_succ]
                refine wpAnyH_take (i := 5) (oi := ⟨some 56, _, _, _, _, _⟩) (v := ?_) rfl (by kernel_rfl) (by kernel_rfl) (by kernel_rfl) (fun _ _ _ h => h) (Or.inl ⟨by rfl, ?_⟩) K0.out ?_
                rotate_left 1
                · (intro w hSw; clear hSw; go_simp; try with_reducible rfl)
                simp only [Act.put, List.setIfInBounds_toArray, List.set_cons_zero, List.set_cons_succ]
                refine wpAnyH_take (i := 6) (oi := ⟨some 57, _, _, _, _, _⟩) (v := .int .i64 qb) rfl (by kernel_rfl) (by kernel_rfl) (by kernel_rfl) (fun _ _ _ h => h) (Or.inl ⟨by rfl, fun W hSw => (by have hc := hSw.c1; clear hSw; go_simp)⟩) K0.out ?_
                simp only [Act.put, List.setIfInBounds_toArray, List.set_cons_zero, List.set_cons_succ]
                refine wpAnyH_ready (rs := [0]) (by kernel_rfl) (by simp) ?_
                refine AllReadyH.cons (o := ⟨some 51, _, _, _, _, _⟩) rfl (fun K hK => ?_) AllReadyH.nil
                refine step_load_set (by rfl) (.tmp 7) rfl g rfl S HS8.out L0.out ?_
                refine hK.out _ _ K0.out (fun hHeld => ?_)
                clear hK K
                clear hHeld
                refine wpAnyH_ready (rs := [3]) (by kernel_rfl) (by simp) ?_
                refine AllReadyH.cons (o := ⟨some 54, _, _, _, _, _⟩) rfl (fun K hK => ?_) AllReadyH.nil
                go_simp
                refine (HW.out _).mono ?_
                rintro r v1 ⟨rfl, hb⟩
                have K1 := hide (K0.out.below hb)
                have L1 := hide (L0.out.below hb L0.out.lt)
                clear hb
                refine hK.out _ _ K1.out (fun hHeld => ?_)
                clear hK K
                clear hHeld
                refine wpAnyH_ready (rs := [7]) (by kernel_rfl) (by simp) ?_
                refine AllReadyH.cons (o := ⟨some 58, _, _, _, _, _⟩) rfl (fun K hK => ?_) AllReadyH.nil
                go_simp
                refine (HrW.out _).mono ?_
                rintro r v2 ⟨rfl, hb⟩
                have K2 := hide (K1.out.below hb)
                have L2 := hide (L1.out.below hb L1.out.lt)
                clear hb
                refine hK.out _ _ K2.out (fun hHeld => ?_)
                clear hK K
                clear hHeld
                refine wpAnyH_ready (rs := [8]) (by kernel_rfl) (by simp) ?_
                refine AllReadyH.cons (o := ⟨none, _, _, _, _, _⟩) rfl (fun K hK => ?_) AllReadyH.nil
                refine step_store_set (by rfl) (.tmp 7) (.tmp 54) rfl g rfl S T rfl HS8.out HT8.out L2.out ?_
                intro v3 hw
                have K3 := hide (show Hl7 w wr.heap.size _ _ _ _ _ _ v3 by rw [hw.out]; exact K2.out.row Hgb.out.2 Hgb.out.1 _)
                have L3 := hide (show Lies v3 g T by rw [hw.out]; exact setRow_heap _ _ _ _ _ _ L2.out.heap)
                clear hw
                refine hK.out _ _ K3.out (fun hHeld => ?_)
                clear hK K
                clear hHeld
                refine wpAnyH_take (i := 9) (oi := ⟨some 8, _, _, _, _, _⟩) (v := ?_) rfl (by kernel_rfl) (by kernel_rfl) (by kernel_rfl) (fun _ _ _ h => h) (Or.inl ⟨by rfl, ?_⟩) K3.out ?_
                rotate_left 1
                · (intro w hSw; clear hSw; go_simp; try with_reducible rfl)
                simp only [Act.put, List.setIfInBounds_toArray, List.set_cons_zero, List.set_cons_succ]
                refine wpAnyH_done (by kernel_rfl) ?_ _
                have Lr := hide (L3.out.range)
                have LL := L3
                have BB := hide K3.out.bel
                clear Lr
                -- behind the switch
                go_wp2_with (refine wpList_load_set (by rfl) (.tmp 7) rfl g rfl T HT8.out LL.out ?_)
                refine (HTx.out _).mono ?_
                rintro r u1 ⟨rfl, hb⟩
                have LL1 := hide (LL.out.below hb LL.out.lt)
                have BB1 := hide (BB.out.trans (hb.mono BB.out.size))
                clear hb
                go_wp2_with (refine wpList_load_set (by rfl) (.tmp 7) rfl g rfl T HT8.out LL1.out ?_)
                refine (HLn.out _).mono ?_
                rintro r u2 ⟨rfl, hb⟩
                have LL2 := hide (LL1.out.below hb LL1.out.lt)
                have BB2 := hide (BB1.out.trans (hb.mono BB1.out.size))
                clear hb
                go_wp2_with fail
                refine (HrL.out _).mono ?_
                rintro r w9 ⟨rfl, rfl⟩
                go_wp2_with (refine wpList_load_set (by rfl) (.tmp 7) rfl g rfl T HT8.out LL2.out ?_)
                refine (HHs.out _).mono ?_
                rintro r u3 ⟨rfl, hb⟩
                have LL3 := hide (LL2.out.below hb LL2.out.lt)
                have BB3 := hide (BB2.out.trans (hb.mono BB2.out.size))
                clear hb
                go_wp2_with fail
                refine (HrH.out _).mono ?_
                rintro r w9 ⟨rfl, rfl⟩
                go_wp2
                go_roundw
                case rel => exact ⟨k + 1, T, by omega, by go_num, by rw [HTt.out], HT8.out, LL3.out, BB3.out⟩
                case measure => simp [intOf]; omega
            · by_cases h3 : kd = 3
              · subst h3
                as_aux_lemma =>
                  have HOf := hide (fun (W : World) (h : Hl7 w wr.heap.size 3 qb qa qn qc ql W) => Of_any qa ql qn qc W Hq.out.1 (h.fit.more h.bel.size) Hq.out.2)
                  have Hof := hide (fun (W : World) (h : Hl7 w wr.heap.size 3 qb qa qn qc ql W) => of_any qa ql qn qc W Hq.out.1 (h.fit.more h.bel.size) Hq.out.2)
                  have HW := hide (fun W => Or_any S (of ql) HS8.out (of_length _) W)
                  have HrW := hide (fun W => rOr_any S (of ql) HS8.out (of_length _) W)
                  obtain ⟨T, hT⟩ : ∃ T, orr S (of ql) = T := ⟨_, rfl⟩
                  have HT8 : Hid (T.length = 8) := hide (by rw [← hT]; first | exact HS8.out | (rw [put_length]; exact HS8.out) | (rw [orr_length]; exact HS8.out) | (rw [but_length]; exact HS8.out))
                  have HTx := hide (fun W => Text_any T HT8.out W)
                  obtain ⟨nT, hnT⟩ : ∃ nT : Int, (len T : Int) = nT := ⟨_, rfl⟩
                  have HLn := hide (fun W => Len_any T HT8.out nT hnT W)
                  have HrL := hide (fun W => rLen_any T HT8.out W)
                  rw [hnT] at HrL
                  have HHs := hide (fun W => Has_any T HT8.out x W)
                  have HrH := hide (fun W => rHas_any T HT8.out x W)
                  obtain ⟨bT, hbT⟩ : ∃ bT, has T x = bT := ⟨_, rfl⟩
                  rw [hbT] at HHs HrH
                  obtain ⟨tT, htT⟩ : ∃ tT, txt T = tT := ⟨_, rfl⟩
                  have HTt := hide htT
                  rw [htT] at HTx HrL HrH
                  clear hnT hbT
                  rw [hT] at HW HrW
                  rw [htT] at HrW
                  clear hT htT
                  generalize of ql = Q at *
                  generalize txt Q = tQ at *
                  generalize txt S = tS at *
                  go_wp2
                  refine wp_region_held (S := (Hl7 w wr.heap.size 3 qb qa qn qc ql)) (by kernel_rfl) ?_
                  change wpAnyH _ _ _ _ _ _ _ _ (World.drew _)
                  refine wpAnyH_take (i := 1) (oi := ⟨some 62, _, _, _, _, _⟩) (v := ?_) rfl (by kernel_rfl) (by kernel_rfl) (by kernel_rfl) (fun _ _ _ h => h) (Or.inl ⟨by rfl, ?_⟩) K0.out ?_
                  rotate_left 1
                  · (intro w hSw; clear hSw; go_simp; try with_reducible rfl)
                  simp only [Act.put, List.setIfInBounds_toArray, List.set_cons_zero, List.set_cons_succ]
                  refine wpAnyH_take (i := 2) (oi := ⟨some 63, _, _, _, _, _⟩) (v := .slice qa qn qc) rfl (by kernel_rfl) (by kernel_rfl) (by kernel_rfl) (fun _ _ _ h => h) (Or.inl ⟨by rfl, fun W hSw => (by have hc := hSw.c2; clear hSw; go_simp)⟩) K0.out ?_
                  simp only [Act.put, List.setIfInBounds_toArray, List.set_cons_zero, List.set_cons_succ]
                  refine wpAnyH_take (i := 5) (oi := ⟨some 66, _, _, _, _, _⟩) (v := ?_) rfl (by kernel_rfl) (by kernel_rfl) (by kernel_rfl) (fun _ _ _ h => h) (Or.inl ⟨by rfl, ?_⟩) K0.out ?_
                  rotate_left 1
                  · (intro w hSw; clear hSw; go_simp; try with_reducible rfl)
                  simp only [Act.put, List.setIfInBounds_toArray, List.set_cons_zero, List.set_cons_succ]
                  refine wpAnyH_take (i := 6) (oi := ⟨some 67, _, _, _, _, _⟩) (v := ?_) rfl (by kernel_rfl) (by kernel_rfl) (by kernel_rfl) (fun _ _ _ h => h) (Or.inl ⟨by rfl, ?_⟩) K0.out ?_
                  rotate_left 1
                  · (intro w hSw; clear hSw; go_simp; try with_reducible rfl)
                  simp only [Act.put, List.setIfInBounds_toArray, List.set_cons_zero, List.set_cons_succ]
                  refine wpAnyH_take (i := 7) (oi := ⟨some 68, _, _, _, _, _⟩) (v := .slice qa qn qc) rfl (by kernel_rfl) (by kernel_rfl) (by kernel_rfl) (fun _ _ _ h => h) (Or.inl ⟨by rfl, fun W hSw => (by have hc := hSw.c2; clear hSw; go_simp)⟩) K0.out ?_
                  simp only [Act.put, List.setIfInBounds_toArray, List.set_cons_zero, List.set_cons_succ]
                  refine wpAnyH_ready (rs := [0, 3]) (by kernel_rfl) (by simp) ?_
                  refine AllReadyH.cons (o := ⟨some 61, _, _, _, _, _⟩) rfl (fun K hK => ?_) (AllReadyH.cons (o := ⟨some 64, _, _, _, _, _⟩) rfl (fun K hK => ?_) AllReadyH.nil)
                  · refine step_load_set (by rfl) (.tmp 7) rfl g rfl S HS8.out L0.out ?_
                    refine hK.out _ _ K0.out (fun hHeld => ?_)
                    clear hK K
                    clear hHeld
                    refine wpAnyH_ready (rs := [3]) (by kernel_rfl) (by simp) ?_
                    refine AllReadyH.cons (o := ⟨some 64, _, _, _, _, _⟩) rfl (fun K hK => ?_) AllReadyH.nil
                    go_simp
                    refine (HOf.out _ K0.out).mono ?_
                    rintro r v1 ⟨rfl, hb⟩
                    have K1 := hide (K0.out.below hb)
                    have L1 := hide (L0.out.below hb L0.out.lt)
                    clear hb
                    refine hK.out _ _ K1.out (fun hHeld => ?_)
                    clear hK K
                    clear hHeld
                    refine wpAnyH_ready (rs := [4]) (by kernel_rfl) (by simp) ?_
                    refine AllReadyH.cons (o := ⟨some 65, _, _, _, _, _⟩) rfl (fun K hK => ?_) AllReadyH.nil
                    go_simp
                    refine (HW.out _).mono ?_
                    rintro r v2 ⟨rfl, hb⟩
                    have K2 := hide (K1.out.below hb)
                    have L2 := hide (L1.out.below hb L1.out.lt)
                    clear hb
                    refine hK.out _ _ K2.out (fun hHeld => ?_)
                    clear hK K
                    clear hHeld
                    refine wpAnyH_ready (rs := [8]) (by kernel_rfl) (by simp) ?_
                    refine AllReadyH.cons (o := ⟨some 69, _, _, _, _, _⟩) rfl (fun K hK => ?_) AllReadyH.nil
                    go_simp
                    refine (Hof.out _ K2.out).mono ?_
                    rintro r v3 ⟨rfl, hb⟩
                    have K3 := hide (K2.out.below hb)
                    have L3 := hide (L2.out.below hb L2.out.lt)
                    clear hb
                    refine hK.out _ _ K3.out (fun hHeld => ?_)
                    clear hK K
                    clear hHeld
                    refine wpAnyH_ready (rs := [9]) (by kernel_rfl) (by simp) ?_
                    refine AllReadyH.cons (o := ⟨some 70, _, _, _, _, _⟩) rfl (fun K hK => ?_) AllReadyH.nil
                    go_simp
                    refine (HrW.out _).mono ?_
                    rintro r v4 ⟨rfl, hb⟩
                    have K4 := hide (K3.out.below hb)
                    have L4 := hide (L3.out.below hb L3.out.lt)
                    clear hb
                    refine hK.out _ _ K4.out (fun hHeld => ?_)
                    clear hK K
                    clear hHeld
                    refine wpAnyH_ready (rs := [10]) (by kernel_rfl) (by simp) ?_
                    refine AllReadyH.cons (o := ⟨none, _, _, _, _, _⟩) rfl (fun K hK => ?_) AllReadyH.nil
                    refine step_store_set (by rfl) (.tmp 7) (.tmp 65) rfl g rfl S T rfl HS8.out HT8.out L4.out ?_
                    intro v5 hw
                    have K5 := hide (show Hl7 w wr.heap.size _ _ _ _ _ _ v5 by rw [hw.out]; exact K4.out.row Hgb.out.2 Hgb.out.1 _)
                    have L5 := hide (show Lies v5 g T by rw [hw.out]; exact setRow_heap _ _ _ _ _ _ L4.out.heap)
                    clear hw
                    refine hK.out _ _ K5.out (fun hHeld => ?_)
                    clear hK K
                    clear hHeld
                    refine wpAnyH_take (i := 11) (oi := ⟨some 8, _, _, _, _, _⟩) (v := ?_) rfl (by kernel_rfl) (by kernel_rfl) (by kernel_rfl) (fun _ _ _ h => h) (Or.inl ⟨by rfl, ?_⟩) K5.out ?_
                    rotate_left 1
                    · (intro w hSw; clear hSw; go_simp; try with_reducible rfl)
                    simp only [Act.put, List.setIfInBounds_toArray, List.set_cons_zero, List.set_cons_succ]
                    refine wpAnyH_done (by kernel_rfl) ?_ _
                    have Lr := hide (L5.out.range)
                    have LL := L5
                    have BB := hide K5.out.bel
                    clear Lr
                    -- behind the switch
                    go_wp2_with (refine wpList_load_set (by rfl) (.tmp 7) rfl g rfl T HT8.out LL.out ?_)
                    refine (HTx.out _).mono ?_
                    rintro r u1 ⟨rfl, hb⟩
                    have LL1 := hide (LL.out.below hb LL.out.lt)
                    have BB1 := hide (BB.out.trans (hb.mono BB.out.size))
                    clear hb
                    go_wp2_with (refine wpList_load_set (by rfl) (.tmp 7) rfl g rfl T HT8.out LL1.out ?_)
                    refine (HLn.out _).mono ?_
                    rintro r u2 ⟨rfl, hb⟩
                    have LL2 := hide (LL1.out.below hb LL1.out.lt)
                    have BB2 := hide (BB1.out.trans (hb.mono BB1.out.size))
                    clear hb
                    go_wp2_with fail
                    refine (HrL.out _).mono ?_
                    rintro r w9 ⟨rfl, rfl⟩
                    go_wp2_with (refine wpList_load_set (by rfl) (.tmp 7) rfl g rfl T HT8.out LL2.out ?_)
                    refine (HHs.out _).mono ?_
                    rintro r u3 ⟨rfl, hb⟩
                    have LL3 := hide (LL2.out.below hb LL2.out.lt)
                    have BB3 := hide (BB2.out.trans (hb.mono BB2.out.size))
                    clear hb
                    go_wp2_with fail
                    refine (HrH.out _).mono ?_
                    rintro r w9 ⟨rfl, rfl⟩
                    go_wp2
                    go_roundw
                    case rel => exact ⟨k + 1, T, by omega, by go_num, by rw [HTt.out], HT8.out, LL3.out, BB3.out⟩
                    case measure => simp [intOf]; omega
                  · go_simp
                    refine (HOf.out _ K0.out).mono ?_
                    rintro r v1 ⟨rfl, hb⟩
                    have K1 := hide (K0.out.below hb)
                    have L1 := hide (L0.out.below hb L0.out.lt)
                    clear hb
                    refine hK.out _ _ K1.out (fun hHeld => ?_)
                    clear hK K
                    clear hHeld
                    refine wpAnyH_ready (rs := [0]) (by kernel_rfl) (by simp) ?_
                    refine AllReadyH.cons (o := ⟨some 61, _, _, _, _, _⟩) rfl (fun K hK => ?_) AllReadyH.nil
                    refine step_load_set (by rfl) (.tmp 7) rfl g rfl S HS8.out L1.out ?_
                    refine hK.out _ _ K1.out (fun hHeld => ?_)
                    clear hK K
                    clear hHeld
                    refine wpAnyH_ready (rs := [4]) (by kernel_rfl) (by simp) ?_
                    refine AllReadyH.cons (o := ⟨some 65, _, _, _, _, _⟩) rfl (fun K hK => ?_) AllReadyH.nil
                    go_simp
                    refine (HW.out _).mono ?_
                    rintro r v2 ⟨rfl, hb⟩
                    have K2 := hide (K1.out.below hb)
                    have L2 := hide (L1.out.below hb L1.out.lt)
                    clear hb
                    refine hK.out _ _ K2.out (fun hHeld => ?_)
                    clear hK K
                    clear hHeld
                    refine wpAnyH_ready (rs := [8]) (by kernel_rfl) (by simp) ?_
                    refine AllReadyH.cons (o := ⟨some 69, _, _, _, _, _⟩) rfl (fun K hK => ?_) AllReadyH.nil
                    go_simp
                    refine (Hof.out _ K2.out).mono ?_
                    rintro r v3 ⟨rfl, hb⟩
                    have K3 := hide (K2.out.below hb)
                    have L3 := hide (L2.out.below hb L2.out.lt)
                    clear hb
                    refine hK.out _ _ K3.out (fun hHeld => ?_)
                    clear hK K
                    clear hHeld
                    refine wpAnyH_ready (rs := [9]) (by kernel_rfl) (by simp) ?_
                    refine AllReadyH.cons (o := ⟨some 70, _, _, _, _, _⟩) rfl (fun K hK => ?_) AllReadyH.nil
                    go_simp
                    refine (HrW.out _).mono ?_
                    rintro r v4 ⟨rfl, hb⟩
                    have K4 := hide (K3.out.below hb)
                    have L4 := hide (L3.out.below hb L3.out.lt)
                    clear hb
                    refine hK.out _ _ K4.out (fun hHeld => ?_)
                    clear hK K
                    clear hHeld
                    refine wpAnyH_ready (rs := [10]) (by kernel_rfl) (by simp) ?_
                    refine AllReadyH.cons (o := ⟨none, _, _, _, _, _⟩) rfl (fun K hK => ?_) AllReadyH.nil
                    refine step_store_set (by rfl) (.tmp 7) (.tmp 65) rfl g rfl S T rfl HS8.out HT8.out L4.out ?_
                    intro v5 hw
                    have K5 := hide (show Hl7 w wr.heap.size _ _ _ _ _ _ v5 by rw [hw.out]; exact K4.out.row Hgb.out.2 Hgb.out.1 _)
                    have L5 := hide (show Lies v5 g T by rw [hw.out]; exact setRow_heap _ _ _ _ _ _ L4.out.heap)
                    clear hw
                    refine hK.out _ _ K5.out (fun hHeld => ?_)
                    clear hK K
                    clear hHeld
                    refine wpAnyH_take (i := 11) (oi := ⟨some 8, _, _, _, _, _⟩) (v := ?_) rfl (by kernel_rfl) (by kernel_rfl) (by kernel_rfl) (fun _ _ _ h => h) (Or.inl ⟨by rfl, ?_⟩) K5.out ?_
                    rotate_left 1
                    · (intro w hSw; clear hSw; go_simp; try with_reducible rfl)
                    simp only [Act.put, List.setIfInBounds_toArray, List.set_cons_zero, List.set_cons_succ]
                    refine wpAnyH_done (by kernel_rfl) ?_ _
                    have Lr := hide (L5.out.range)
                    have LL := L5
                    have BB := hide K5.out.bel
                    clear Lr
                    -- behind the switch
                    go_wp2_with (refine wpList_load_set (by rfl) (.tmp 7) rfl g rfl T HT8.out LL.out ?_)
                    refine (HTx.out _).mono ?_
                    rintro r u1 ⟨rfl, hb⟩
                    have LL1 := hide (LL.out.below hb LL.out.lt)
                    have BB1 := hide (BB.out.trans (hb.mono BB.out.size))
                    clear hb
                    go_wp2_with (refine wpList_load_set (by rfl) (.tmp 7) rfl g rfl T HT8.out LL1.out ?_)
                    refine (HLn.out _).mono ?_
                    rintro r u2 ⟨rfl, hb⟩
                    have LL2 := hide (LL1.out.below hb LL1.out.lt)
                    have BB2 := hide (BB1.out.trans (hb.mono BB1.out.size))
                    clear hb
                    go_wp2_with fail
                    refine (HrL.out _).mono ?_
                    rintro r w9 ⟨rfl, rfl⟩
                    go_wp2_with (refine wpList_load_set (by rfl) (.tmp 7) rfl g rfl T HT8.out LL2.out ?_)
                    refine (HHs.out _).mono ?_
                    rintro r u3 ⟨rfl, hb⟩
                    have LL3 := hide (LL2.out.below hb LL2.out.lt)
                    have BB3 := hide (BB2.out.trans (hb.mono BB2.out.size))
                    clear hb
                    go_wp2_with fail
                    refine (HrH.out _).mono ?_
                    rintro r w9 ⟨rfl, rfl⟩
                    go_wp2
                    go_roundw
                    case rel => exact ⟨k + 1, T, by omega, by go_num, by rw [HTt.out], HT8.out, LL3.out, BB3.out⟩
                    case measure => simp [intOf]; omega
              · by_cases h4 : kd = 4
                · subst h4
                  as_aux_lemma =>
                    have HOf := hide (fun (W : World) (h : Hl7 w wr.heap.size 4 qb qa qn qc ql W) => Of_any qa ql qn qc W Hq.out.1 (h.fit.more h.bel.size) Hq.out.2)
                    have Hof := hide (fun (W : World) (h : Hl7 w wr.heap.size 4 qb qa qn qc ql W) => of_any qa ql qn qc W Hq.out.1 (h.fit.more h.bel.size) Hq.out.2)
                    have HW := hide (fun W => But_any S (of ql) HS8.out (of_length _) W)
                    have HrW := hide (fun W => rBut_any S (of ql) HS8.out (of_length _) W)
                    obtain ⟨T, hT⟩ : ∃ T, but S (of ql) = T := ⟨_, rfl⟩
                    have HT8 : Hid (T.length = 8) := hide (by rw [← hT]; first | exact HS8.out | (rw [put_length]; exact HS8.out) | (rw [orr_length]; exact HS8.out) | (rw [but_length]; exact HS8.out))
                    have HTx := hide (fun W => Text_any T HT8.out W)
                    obtain ⟨nT, hnT⟩ : ∃ nT : Int, (len T : Int) = nT := ⟨_, rfl⟩
                    have HLn := hide (fun W => Len_any T HT8.out nT hnT W)
                    have HrL := hide (fun W => rLen_any T HT8.out W)
                    rw [hnT] at HrL
                    have HHs := hide (fun W => Has_any T HT8.out x W)
                    have HrH := hide (fun W => rHas_any T HT8.out x W)
                    obtain ⟨bT, hbT⟩ : ∃ bT, has T x = bT := ⟨_, rfl⟩
                    rw [hbT] at HHs HrH
                    obtain ⟨tT, htT⟩ : ∃ tT, txt T = tT := ⟨_, rfl⟩
                    have HTt := hide htT
                    rw [htT] at HTx HrL HrH
                    clear hnT hbT
                    rw [hT] at HW HrW
                    rw [htT] at HrW
                    clear hT htT
                    generalize of ql = Q at *
                    generalize txt Q = tQ at *
                    generalize txt S = tS at *
                    go_wp2
                    refine wp_region_held (S := (Hl7 w wr.heap.size 4 qb qa qn qc ql)) (by kernel_rfl) ?_
                    change wpAnyH _ _ _ _ _ _ _ _ (World.drew _)
                    refine wpAnyH_take (i := 1) (oi := ⟨some 74, _, _, _, _, _⟩) (v := ?_) rfl (by kernel_rfl) (by kernel_rfl) (by kernel_rfl) (fun _ _ _ h => h) (Or.inl ⟨by rfl, ?_⟩) K0.out ?_
                    rotate_left 1
                    · (intro w hSw; clear hSw; go_simp; try with_reducible rfl)
                    simp only [Act.put, List.setIfInBounds_toArray, List.set_cons_zero, List.set_cons_succ]
                    refine wpAnyH_take (i := 2) (oi := ⟨some 75, _, _, _, _, _⟩) (v := .slice qa qn qc) rfl (by kernel_rfl) (by kernel_rfl) (by kernel_rfl) (fun _ _ _ h => h) (Or.inl ⟨by rfl, fun W hSw => (by have hc := hSw.c2; clear hSw; go_simp)⟩) K0.out ?_
                    simp only [Act.put, List.setIfInBounds_toArray, List.set_cons_zero, List.set_cons_succ]
                    refine wpAnyH_take (i := 5) (oi := ⟨some 78, _, _, _, _, _⟩) (v := ?_) rfl (by kernel_rfl) (by kernel_rfl) (by kernel_rfl) (fun _ _ _ h => h) (Or.inl ⟨by rfl, ?_⟩) K0.out ?_
                    rotate_left 1
                    · (intro w hSw; clear hSw; go_simp; try with_reducible rfl)
                    simp only [Act.put, List.setIfInBounds_toArray, List.set_cons_zero, List.set_cons_succ]
                    refine wpAnyH_take (i := 6) (oi := ⟨some 79, _, _, _, _, _⟩) (v := ?_) rfl (by kernel_rfl) (by kernel_rfl) (by kernel_rfl) (fun _ _ _ h => h) (Or.inl ⟨by rfl, ?_⟩) K0.out ?_
                    rotate_left 1
                    · (intro w hSw; clear hSw; go_simp; try with_reducible rfl)
                    simp only [Act.put, List.setIfInBounds_toArray, List.set_cons_zero, List.set_cons_succ]
                    refine wpAnyH_take (i := 7) (oi := ⟨some 80, _, _, _, _, _⟩) (v := .slice qa qn qc) rfl (by kernel_rfl) (by kernel_rfl) (by kernel_rfl) (fun _ _ _ h => h) (Or.inl ⟨by rfl, fun W hSw => (by have hc := hSw.c2; clear hSw; go_simp)⟩) K0.out ?_
                    simp only [Act.put, List.setIfInBounds_toArray, List.set_cons_zero, List.set_cons_succ]
                    refine wpAnyH_ready (rs := [0, 3]) (by kernel_rfl) (by simp) ?_
                    refine AllReadyH.cons (o := ⟨some 73, _, _, _, _, _⟩) rfl (fun K hK => ?_) (AllReadyH.cons (o := ⟨some 76, _, _, _, _, _⟩) rfl (fun K hK => ?_) AllReadyH.nil)
                    · refine step_load_set (by rfl) (.tmp 7) rfl g rfl S HS8.out L0.out ?_
                      refine hK.out _ _ K0.out (fun hHeld => ?_)
                      clear hK K
                      clear hHeld
                      refine wpAnyH_ready (rs := [3]) (by kernel_rfl) (by simp) ?_
                      refine AllReadyH.cons (o := ⟨some 76, _, _, _, _, _⟩) rfl (fun K hK => ?_) AllReadyH.nil
                      go_simp
                      refine (HOf.out _ K0.out).mono ?_
                      rintro r v1 ⟨rfl, hb⟩
                      have K1 := hide (K0.out.below hb)
                      have L1 := hide (L0.out.below hb L0.out.lt)
                      clear hb
                      refine hK.out _ _ K1.out (fun hHeld => ?_)
                      clear hK K
                      clear hHeld
                      refine wpAnyH_ready (rs := [4]) (by kernel_rfl) (by simp) ?_
                      refine AllReadyH.cons (o := ⟨some 77, _, _, _, _, _⟩) rfl (fun K hK => ?_) AllReadyH.nil
                      go_simp
                      refine (HW.out _).mono ?_
                      rintro r v2 ⟨rfl, hb⟩
                      have K2 := hide (K1.out.below hb)
                      have L2 := hide (L1.out.below hb L1.out.lt)
                      clear hb
                      refine hK.out _ _ K2.out (fun hHeld => ?_)
                      clear hK K
                      clear hHeld
                      refine wpAnyH_ready (rs := [8]) (by kernel_rfl) (by simp) ?_
                      refine AllReadyH.cons (o := ⟨some 81, _, _, _, _, _⟩) rfl (fun K hK => ?_) AllReadyH.nil
                      go_simp
                      refine (Hof.out _ K2.out).mono ?_
                      rintro r v3 ⟨rfl, hb⟩
                      have K3 := hide (K2.out.below hb)
                      have L3 := hide (L2.out.below hb L2.out.lt)
                      clear hb
                      refine hK.out _ _ K3.out (fun hHeld => ?_)
                      clear hK K
                      clear hHeld
                      refine wpAnyH_ready (rs := [9]) (by kernel_rfl) (by simp) ?_
                      refine AllReadyH.cons (o := ⟨some 82, _, _, _, _, _⟩) rfl (fun K hK => ?_) AllReadyH.nil
                      go_simp
                      refine (HrW.out _).mono ?_
                      rintro r v4 ⟨rfl, hb⟩
                      have K4 := hide (K3.out.below hb)
                      have L4 := hide (L3.out.below hb L3.out.lt)
                      clear hb
                      refine hK.out _ _ K4.out (fun hHeld => ?_)
                      clear hK K
                      clear hHeld
                      refine wpAnyH_ready (rs := [10]) (by kernel_rfl) (by simp) ?_
                      refine AllReadyH.cons (o := ⟨none, _, _, _, _, _⟩) rfl (fun K hK => ?_) AllReadyH.nil
                      refine step_store_set (by rfl) (.tmp 7) (.tmp 77) rfl g rfl S T rfl HS8.out HT8.out L4.out ?_
                      intro v5 hw
                      have K5 := hide (show Hl7 w wr.heap.size _ _ _ _ _ _ v5 by rw [hw.out]; exact K4.out.row Hgb.out.2 Hgb.out.1 _)
                      have L5 := hide (show Lies v5 g T by rw [hw.out]; exact setRow_heap _ _ _ _ _ _ L4.out.heap)
                      clear hw
                      refine hK.out _ _ K5.out (fun hHeld => ?_)
                      clear hK K
                      clear hHeld
                      refine wpAnyH_take (i := 11) (oi := ⟨some 8, _, _, _, _, _⟩) (v := ?_) rfl (by kernel_rfl) (by kernel_rfl) (by kernel_rfl) (fun _ _ _ h => h) (Or.inl ⟨by rfl, ?_⟩) K5.out ?_
                      rotate_left 1
                      · (intro w hSw; clear hSw; go_simp; try with_reducible rfl)
                      simp only [Act.put, List.setIfInBounds_toArray, List.set_cons_zero, List.set_cons_succ]
                      refine wpAnyH_done (by kernel_rfl) ?_ _
                      have Lr := hide (L5.out.range)
                      have LL := L5
                      have BB := hide K5.out.bel
                      clear Lr
                      -- behind the switch
                      go_wp2_with (refine wpList_load_set (by rfl) (.tmp 7) rfl g rfl T HT8.out LL.out ?_)
                      refine (HTx.out _).mono ?_
                      rintro r u1 ⟨rfl, hb⟩
                      have LL1 := hide (LL.out.below hb LL.out.lt)
                      have BB1 := hide (BB.out.trans (hb.mono BB.out.size))
                      clear hb
                      go_wp2_with (refine wpList_load_set (by rfl) (.tmp 7) rfl g rfl T HT8.out LL1.out ?_)
                      refine (HLn.out _).mono ?_
                      rintro r u2 ⟨rfl, hb⟩
                      have LL2 := hide (LL1.out.below hb LL1.out.lt)
                      have BB2 := hide (BB1.out.trans (hb.mono BB1.out.size))
                      clear hb
                      go_wp2_with fail
                      refine (HrL.out _).mono ?_
                      rintro r w9 ⟨rfl, rfl⟩
                      go_wp2_with (refine wpList_load_set (by rfl) (.tmp 7) rfl g rfl T HT8.out LL2.out ?_)
                      refine (HHs.out _).mono ?_
                      rintro r u3 ⟨rfl, hb⟩
                      have LL3 := hide (LL2.out.below hb LL2.out.lt)
                      have BB3 := hide (BB2.out.trans (hb.mono BB2.out.size))
                      clear hb
                      go_wp2_with fail
                      refine (HrH.out _).mono ?_
                      rintro r w9 ⟨rfl, rfl⟩
                      go_wp2
                      go_roundw
                      case rel => exact ⟨k + 1, T, by omega, by go_num, by rw [HTt.out], HT8.out, LL3.out, BB3.out⟩
                      case measure => simp [intOf]; omega
                    · go_simp
                      refine (HOf.out _ K0.out).mono ?_
                      rintro r v1 ⟨rfl, hb⟩
                      have K1 := hide (K0.out.below hb)
                      have L1 := hide (L0.out.below hb L0.out.lt)
                      clear hb
                      refine hK.out _ _ K1.out (fun hHeld => ?_)
                      clear hK K
                      clear hHeld
                      refine wpAnyH_ready (rs := [0]) (by kernel_rfl) (by simp) ?_
                      refine AllReadyH.cons (o := ⟨some 73, _, _, _, _, _⟩) rfl (fun K hK => ?_) AllReadyH.nil
                      refine step_load_set (by rfl) (.tmp 7) rfl g rfl S HS8.out L1.out ?_
                      refine hK.out _ _ K1.out (fun hHeld => ?_)
                      clear hK K
                      clear hHeld
                      refine wpAnyH_ready (rs := [4]) (by kernel_rfl) (by simp) ?_
                      refine AllReadyH.cons (o := ⟨some 77, _, _, _, _, _⟩) rfl (fun K hK => ?_) AllReadyH.nil
                      go_simp
                      refine (HW.out _).mono ?_
                      rintro r v2 ⟨rfl, hb⟩
                      have K2 := hide (K1.out.below hb)
                      have L2 := hide (L1.out.below hb L1.out.lt)
                      clear hb
                      refine hK.out _ _ K2.out (fun hHeld => ?_)
                      clear hK K
                      clear hHeld
                      refine wpAnyH_ready (rs := [8]) (by kernel_rfl) (by simp) ?_
                      refine AllReadyH.cons (o := ⟨some 81, _, _, _, _, _⟩) rfl (fun K hK => ?_) AllReadyH.nil
                      go_simp
                      refine (Hof.out _ K2.out).mono ?_
                      rintro r v3 ⟨rfl, hb⟩
                      have K3 := hide (K2.out.below hb)
                      have L3 := hide (L2.out.below hb L2.out.lt)
                      clear hb
                      refine hK.out _ _ K3.out (fun hHeld => ?_)
                      clear hK K
                      clear hHeld
                      refine wpAnyH_ready (rs := [9]) (by kernel_rfl) (by simp) ?_
                      refine AllReadyH.cons (o := ⟨some 82, _, _, _, _, _⟩) rfl (fun K hK => ?_) AllReadyH.nil
                      go_simp
                      refine (HrW.out _).mono ?_
                      rintro r v4 ⟨rfl, hb⟩
                      have K4 := hide (K3.out.below hb)
                      have L4 := hide (L3.out.below hb L3.out.lt)
                      clear hb
                      refine hK.out _ _ K4.out (fun hHeld => ?_)
                      clear hK K
                      clear hHeld
                      refine wpAnyH_ready (rs := [10]) (by kernel_rfl) (by simp) ?_
                      refine AllReadyH.cons (o := ⟨none, _, _, _, _, _⟩) rfl (fun K hK => ?_) AllReadyH.nil
                      refine step_store_set (by rfl) (.tmp 7) (.tmp 77) rfl g rfl S T rfl HS8.out HT8.out L4.out ?_
                      intro v5 hw
                      have K5 := hide (show Hl7 w wr.heap.size _ _ _ _ _ _ v5 by rw [hw.out]; exact K4.out.row Hgb.out.2 Hgb.out.1 _)
                      have L5 := hide (show Lies v5 g T by rw [hw.out]; exact setRow_heap _ _ _ _ _ _ L4.out.heap)
                      clear hw
                      refine hK.out _ _ K5.out (fun hHeld => ?_)
                      clear hK K
                      clear hHeld
                      refine wpAnyH_take (i := 11) (oi := ⟨some 8, _, _, _, _, _⟩) (v := ?_) rfl (by kernel_rfl) (by kernel_rfl) (by kernel_rfl) (fun _ _ _ h => h) (Or.inl ⟨by rfl, ?_⟩) K5.out ?_
                      rotate_left 1
                      · (intro w hSw; clear hSw; go_simp; try with_reducible rfl)
                      simp only [Act.put, List.setIfInBounds_toArray, List.set_cons_zero, List.set_cons_succ]
                      refine wpAnyH_done (by kernel_rfl) ?_ _
                      have Lr := hide (L5.out.range)
                      have LL := L5
                      have BB := hide K5.out.bel
                      clear Lr
                      -- behind the switch
                      go_wp2_with (refine wpList_load_set (by rfl) (.tmp 7) rfl g rfl T HT8.out LL.out ?_)
                      refine (HTx.out _).mono ?_
                      rintro r u1 ⟨rfl, hb⟩
                      have LL1 := hide (LL.out.below hb LL.out.lt)
                      have BB1 := hide (BB.out.trans (hb.mono BB.out.size))
                      clear hb
                      go_wp2_with (refine wpList_load_set (by rfl) (.tmp 7) rfl g rfl T HT8.out LL1.out ?_)
                      refine (HLn.out _).mono ?_
                      rintro r u2 ⟨rfl, hb⟩
                      have LL2 := hide (LL1.out.below hb LL1.out.lt)
                      have BB2 := hide (BB1.out.trans (hb.mono BB1.out.size))
                      clear hb
                      go_wp2_with fail
                      refine (HrL.out _).mono ?_
                      rintro r w9 ⟨rfl, rfl⟩
                      go_wp2_with (refine wpList_load_set (by rfl) (.tmp 7) rfl g rfl T HT8.out LL2.out ?_)
                      refine (HHs.out _).mono ?_
                      rintro r u3 ⟨rfl, hb⟩
                      have LL3 := hide (LL2.out.below hb LL2.out.lt)
                      have BB3 := hide (BB2.out.trans (hb.mono BB2.out.size))
                      clear hb
                      go_wp2_with fail
                      refine (HrH.out _).mono ?_
                      rintro r w9 ⟨rfl, rfl⟩
                      go_wp2
                      go_roundw
                      case rel => exact ⟨k + 1, T, by omega, by go_num, by rw [HTt.out], HT8.out, LL3.out, BB3.out⟩
                      case measure => simp [intOf]; omega
                · as_aux_lemma =>
                    have n1 : (kd == 1) = false := by simpa using h1
                    have n2 : (kd == 2) = false := by simpa using h2
                    have n3 : (kd == 3) = false := by simpa using h3
                    have n4 : (kd == 4) = false := by simpa using h4
                    clear h1 h2 h3 h4
                    obtain ⟨T, hT⟩ : ∃ T, S = T := ⟨_, rfl⟩
                    have HT8 : Hid (T.length = 8) := hide (by rw [← hT]; first | exact HS8.out | (rw [put_length]; exact HS8.out) | (rw [orr_length]; exact HS8.out) | (rw [but_length]; exact HS8.out))
                    have HTx := hide (fun W => Text_any T HT8.out W)
                    obtain ⟨nT, hnT⟩ : ∃ nT : Int, (len T : Int) = nT := ⟨_, rfl⟩
                    have HLn := hide (fun W => Len_any T HT8.out nT hnT W)
                    have HrL := hide (fun W => rLen_any T HT8.out W)
                    rw [hnT] at HrL
                    have HHs := hide (fun W => Has_any T HT8.out x W)
                    have HrH := hide (fun W => rHas_any T HT8.out x W)
                    obtain ⟨bT, hbT⟩ : ∃ bT, has T x = bT := ⟨_, rfl⟩
                    rw [hbT] at HHs HrH
                    obtain ⟨tT, htT⟩ : ∃ tT, txt T = tT := ⟨_, rfl⟩
                    have HTt := hide htT
                    rw [htT] at HTx HrL HrH
                    clear hnT hbT
                    subst hT
                    subst htT
                    have LL := hide (show Lies (wr.alloc (.cells #[.int .i64 kd, .int .i64 qb, .slice qa qn qc] 32)) g S from HLi.out.alloc _)
                    have BB := hide (HB.out.alloc HB.out.size (.cells #[.int .i64 kd, .int .i64 qb, .slice qa qn qc] 32))
                    clear K0 L0
                    go_wp2_with (refine wpList_load_set (by rfl) (.tmp 7) rfl g rfl S HT8.out LL.out ?_)
                    refine (HTx.out _).mono ?_
                    rintro r u1 ⟨rfl, hb⟩
                    have LL1 := hide (LL.out.below hb LL.out.lt)
                    have BB1 := hide (BB.out.trans (hb.mono BB.out.size))
                    clear hb
                    go_wp2_with (refine wpList_load_set (by rfl) (.tmp 7) rfl g rfl S HT8.out LL1.out ?_)
                    refine (HLn.out _).mono ?_
                    rintro r u2 ⟨rfl, hb⟩
                    have LL2 := hide (LL1.out.below hb LL1.out.lt)
                    have BB2 := hide (BB1.out.trans (hb.mono BB1.out.size))
                    clear hb
                    go_wp2_with fail
                    refine (HrL.out _).mono ?_
                    rintro r w9 ⟨rfl, rfl⟩
                    go_wp2_with (refine wpList_load_set (by rfl) (.tmp 7) rfl g rfl S HT8.out LL2.out ?_)
                    refine (HHs.out _).mono ?_
                    rintro r u3 ⟨rfl, hb⟩
                    have LL3 := hide (LL2.out.below hb LL2.out.lt)
                    have BB3 := hide (BB2.out.trans (hb.mono BB2.out.size))
                    clear hb
                    go_wp2_with fail
                    refine (HrH.out _).mono ?_
                    rintro r w9 ⟨rfl, rfl⟩
                    go_wp2
                    go_roundw
                    case rel => exact ⟨k + 1, S, by omega, by go_num, rfl, HT8.out, LL3.out, BB3.out⟩
                    case measure => simp [intOf]; omega
        · obtain rfl : k = m := by omega
          have HTx := hide (fun W => Text_any S HS8.out W)
          generalize txt S = tS at *
          go_wp2_with (refine wpList_load_set (by rfl) (.tmp 7) rfl g rfl S HS8.out HLi.out ?_)
          refine (HTx.out _).mono ?_
          rintro r u1 ⟨rfl, hb⟩
          have BB := hide (HB.out.trans (hb.mono HB.out.size))
          clear hb
          go_wp2
          go_ret
          exact ⟨rfl, BB.out⟩

end Go.Proofs.Ytmenedndchakjaa.Bt
