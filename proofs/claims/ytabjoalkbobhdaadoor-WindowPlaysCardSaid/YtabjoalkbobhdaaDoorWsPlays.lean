/-
  WindowPlays at every script: it returns true, and changes nothing that was there. Condition: the library's variable errors.errorType holds what the program's own text lays.
-/
import Derived.BigQuiet
import Derived.Deep.RegionHeld3
import Derived.Deep.DeepCutAuto
import Derived.Test.YtabjoalkbobhdaaDoorWsPair
namespace Go.Proofs.YtabjoalkbobhdaaDoor.Ws
open Go.RowKit
open Pk Sm Fa Dk Wn

/-- At the beginning of each round. -/
structure PR (w1 : World) (p q r n k : Nat) (tv : Value) (w : World) : Prop where
  ex : ∃ L nx a T, St w1 (PL p q r L nx a L nx a T T tv []) w ∧ L.length ≤ k ∧ T.length ≤ k
  le : k ≤ n
set_option maxRecDepth 100000 in
set_option maxHeartbeats 16000000 in
theorem Plays_any (A : Option Addr) (n cp : Nat) (l : List Oq) (w : World) (hty : Ety w) (hl : l.length = n) (hs : Src w A (ocels l)) :
    Calls Tryd.prog 3 #[.slice A n cp] w fun e w' => e = .returned (.bool true) ∧ Below w.heap.size w w' := by
  have Hl := hide hl
  have Hs := hide hs
  have HE0 := hide hty
  clear hl hs hty
  go_enter Tryd.func3, Tryd.ntmps3
  go_wp2_with fail
  refine (Wi.awake_any w).mono ?_
  rintro e w0 ⟨rfl, hb0⟩
  have HB0 := hide hb0
  clear hb0
  go_wp2_with fail
  refine (few_any A n cp l w0 Hl.out (Hs.out.below HB0.out)).mono ?_
  rintro e w1 ⟨b, rfl, hb, hbel⟩
  have HB1 := hide (HB0.out.trans (hbel.mono HB0.out.size))
  clear hbel
  cases b with
  | false =>
    clear hb
    go_wp2_with fail
    refine (Wi.awake_any w1).mono ?_
    rintro e w2 ⟨rfl, hb2⟩
    have HB2 := hide (HB1.out.trans (hb2.mono HB1.out.size))
    clear hb2
    go_wp2
    go_ret
    exact ⟨rfl, HB2.out⟩
  | true =>
    have Hn := hide (hb rfl)
    have HE := hide (HE0.out.below HB1.out HE0.out.lt)
    have Hs1 := hide (Hs.out.below HB1.out)
    clear hb HE0
    go_wp2_with (first | refine wpList_box_told rfl 28 (.tmp 23) rfl _ rfl ?_ | refine wpList_box_told rfl 31 (.tmp 25) rfl _ rfl ?_ | refine wpList_box_told rfl 34 (.tmp 27) rfl _ rfl ?_)
    intro w2 H2
    go_wp2_with (first | refine wpList_box_told rfl 28 (.tmp 23) rfl _ rfl ?_ | refine wpList_box_told rfl 31 (.tmp 25) rfl _ rfl ?_ | refine wpList_box_told rfl 34 (.tmp 27) rfl _ rfl ?_)
    intro w3 H3
    go_wp2_with (first | refine wpList_box_told rfl 28 (.tmp 23) rfl _ rfl ?_ | refine wpList_box_told rfl 31 (.tmp 25) rfl _ rfl ?_ | refine wpList_box_told rfl 34 (.tmp 27) rfl _ rfl ?_)
    intro w4 H4
    have HR0 : Hid (PR w1 w1.heap.size w2.heap.size w3.heap.size n 0 (.slice none 0 0) w4) := ⟨⟨_, _, _, _, P_start H2.out H3.out H4.out, Nat.le_refl _, Nat.le_refl _⟩, Nat.zero_le _⟩
    clear H2 H3 H4
    have hni : (n : Int) ≤ 300 := by have := Hn.out; omega
    go_wp2_with fail
    go_loopw [6, 31] (fun tv j wr => ∃ k : Nat, j = .int .i64 (k : Int) ∧ Hid (PR w1 w1.heap.size w2.heap.size w3.heap.size n k tv wr)) (fun _ j _ => n - (intOf j).toNat)
    case atStart => exact ⟨0, rfl, HR0.out⟩
    case round =>
      clear HR0
      obtain ⟨k, rfl, hpr⟩ := hrel
      rcases Nat.lt_or_ge k n with hlt | hge
      · have Hlt := hide hlt
        have hki : (k : Int) < (n : Int) := by omega
        obtain ⟨L, nx, a, T, hst, hLk, hTk⟩ := hpr.out.ex
        have HST := hide hst
        have HLk0 := hide hLk
        have HTk0 := hide hTk
        have Hk300 := hide (show k < 300 by have := Hn.out; omega)
        obtain ⟨TA, tc, rfl, _⟩ := P_form hst
        obtain ⟨tl, htl⟩ : ∃ tl, T.length = tl := ⟨_, rfl⟩
        have HTl := hide htl
        rw [htl]
        rw [htl] at HST
        obtain ⟨o, hok⟩ : ∃ o, l[k]? = some o := ⟨_, List.getElem?_eq_getElem (by rw [Hl.out]; exact hlt)⟩
        obtain ⟨g, off, rfl, _, e0, e1, e2⟩ := Src.op (Hs1.out.below hst.bel) hok
        obtain ⟨kind, on, os⟩ := o
        simp only at e0 e1 e2
        clear hok hst hLk hTk htl hpr hlt
        go_wp2_with (refine wpList_alloc_told rfl 36 rfl _ op_zero ?_)
        intro w5 H5
        have HX5 := hide (show w5.heap[wr.heap.size]? = some (.cells #[.int .i64 0, .int .i64 0, .string ⟨#[]⟩] 36 (0, 0)) by rw [H5.out]; exact heap_alloc_new wr _)
        clear e0 e1 e2
        go_wp2_with (refine wpList_store_told rfl 36 (.tmp 8) (.tmp 37) rfl wr.heap.size #[.int .i64 kind, .int .i64 on, .string os] rfl rfl _ HX5.out op_size rfl (op_one ⟨kind, on, os⟩) ?_)
        intro w6 H6
        have HS6 := hide (P_lay HST.out ⟨kind, on, os⟩ rfl H5.out H6.out)
        clear H5 H6 HST HX5
        generalize wr.heap.size = Bo at *
        have b0 : w6.cell? ⟨Bo, 0, none⟩ = some (.int .i64 kind) := (P_op HS6.out).1
        have b1 : w6.cell? ⟨Bo, 1, none⟩ = some (.int .i64 on) := (P_op HS6.out).2.1
        have b2 : w6.cell? ⟨Bo, 2, none⟩ = some (.string os) := (P_op HS6.out).2.2
        by_cases k1 : kind = 1
        · subst k1
          as_aux_lemma =>
            have HLk := hide (show (L ++ [os]).length ≤ k + 1 by have := HLk0.out; rw [List.length_append]; simp; omega)
            have HTk := hide (show T.length ≤ k + 1 by have := HTk0.out; omega)
            have HLf := hide (show L.length < 100000 by have := HLk0.out; have := Hk300.out; omega)
            have HC1 := hide (P_push HS6.out HLf.out os)
            go_wp2_with fail
            refine HC1.out.mono ?_
            rintro e w7 ⟨rfl, hs7⟩
            have HS7 := hide hs7
            obtain ⟨A8, m8, c8, hm8, g0, -, -, hro8⟩ := P_cells hs7
            have g2 : w7.cell? ⟨Bo, 2, none⟩ = some (.string os) := (P_op hs7).2.2
            have HC : Hid (∀ W : World, Below w7.heap.size w7 W → W.cell? ⟨w2.heap.size, 0, none⟩ = some (.slice A8 m8 c8) ∧ W.cell? ⟨Bo, 2, none⟩ = some (.string os)) := fun W hW => ⟨(hW.cell (p := ⟨w2.heap.size, 0, none⟩) (World.block_lt_of_cell? w7 ⟨w2.heap.size, 0, none⟩ g0)).trans g0, (hW.cell (p := ⟨Bo, 2, none⟩) (World.block_lt_of_cell? w7 ⟨Bo, 2, none⟩ g2)).trans g2⟩
            have HO : Hid (∀ W : World, Below w7.heap.size w7 W → ORow W 9 1 (.slice A8 m8 c8) m8 (vals L)) := fun W hW => hro8.below hW
            have HX := hide (fun (W W2 : World) (v : Value) (hW : Below w7.heap.size w7 W) (hg : Grown W 9 1 (.slice A8 m8 c8) (m8 + 1) (vals L ++ vals [os]) v W2) => P_rpush HS7.out HLf.out hm8 g0 os hW hg)
            have Hm1 := hide (show m8 + 1 ≤ maxLen by have := HLf.out; unfold maxLen; omega)
            have Hm2 := hide (show (m8 + 1) * 16 ≤ 140737488355328 by have := HLf.out; omega)
            have K0 : Hid (Below w7.heap.size w7 w7.drew) := (Below.refl _ _).drew
            clear hs7 HC1 HS6 g0 g2 hro8 hm8 HS7 b0 b1 b2
            go_wp2_with fail
            refine wp_region_any (by kernel_rfl) ?_
            change wpAny _ _ _ _ _ _ _ (World.drew _)
            generalize World.drew _ = wd at *
            refine wpAny_take (i := 0) (oi := ⟨some 46, _, _, _, _, _⟩) (v := ?_) rfl (by kernel_rfl) (by kernel_rfl) (by kernel_rfl) (fun _ _ _ h => h) (Or.inl ⟨by rfl, ?_⟩) ?_
            rotate_left 1
            · (intro w; go_simp; try with_reducible rfl)
            simp only [Act.put, List.setIfInBounds_toArray, List.set_cons_zero, List.set_cons_succ]
            refine wpAny_take (i := 1) (oi := ⟨some 47, _, _, _, _, _⟩) (v := ?_) rfl (by kernel_rfl) (by kernel_rfl) (by kernel_rfl) (fun _ _ _ h => h) (Or.inl ⟨by rfl, ?_⟩) ?_
            rotate_left 1
            · (intro w; go_simp; try with_reducible rfl)
            simp only [Act.put, List.setIfInBounds_toArray, List.set_cons_zero, List.set_cons_succ]
            refine wpAny_take (i := 2) (oi := ⟨some 48, _, _, _, _, _⟩) (v := ?_) rfl (by kernel_rfl) (by kernel_rfl) (by kernel_rfl) (fun _ _ _ h => h) (Or.inl ⟨by rfl, ?_⟩) ?_
            rotate_left 1
            · (intro w; go_simp; try with_reducible rfl)
            simp only [Act.put, List.setIfInBounds_toArray, List.set_cons_zero, List.set_cons_succ]
            refine wpAny_take (i := 3) (oi := ⟨some 49, _, _, _, _, _⟩) (v := ?_) rfl (by kernel_rfl) (by kernel_rfl) (by kernel_rfl) (fun _ _ _ h => h) (Or.inl ⟨by rfl, ?_⟩) ?_
            rotate_left 1
            · (intro w; go_simp; try with_reducible rfl)
            simp only [Act.put, List.setIfInBounds_toArray, List.set_cons_zero, List.set_cons_succ]
            refine wpAny_take (i := 5) (oi := ⟨some 51, _, _, _, _, _⟩) (v := ?_) rfl (by kernel_rfl) (by kernel_rfl) (by kernel_rfl) (fun _ _ _ h => h) (Or.inl ⟨by rfl, ?_⟩) ?_
            rotate_left 1
            · (intro w; go_simp; try with_reducible rfl)
            simp only [Act.put, List.setIfInBounds_toArray, List.set_cons_zero, List.set_cons_succ]
            refine wpAny_ready (rs := [4, 6]) (by kernel_rfl) (by simp) ?_
            refine AllReady.cons (o := ⟨some 50, _, _, _, _, _⟩) rfl (fun K hK => ?_) (AllReady.cons (o := ⟨some 52, _, _, _, _, _⟩) rfl (fun K hK => ?_) AllReady.nil)
            · have hq := (HC.out _ K0.out).1
              go_simp
              clear hq
              refine hK _ _ ?_
              clear hK K
              refine wpAny_ready (rs := [6]) (by kernel_rfl) (by simp) ?_
              refine AllReady.cons (o := ⟨some 52, _, _, _, _, _⟩) rfl (fun K hK => ?_) AllReady.nil
              have hq := (HC.out _ K0.out).2
              go_simp
              clear hq
              refine hK _ _ ?_
              clear hK K
              refine wpAny_ready (rs := [7]) (by kernel_rfl) (by simp) ?_
              refine AllReady.cons (o := ⟨some 53, _, _, _, _, _⟩) rfl (fun K hK => ?_) AllReady.nil
              go_simp
              have HM := hide (Made.el K0.out os)
              have K1 := hide HM.out.bel
              generalize World.alloc _ _ = W1 at *
              refine hK _ _ ?_
              clear hK K
              refine wpAny_ready (rs := [8]) (by kernel_rfl) (by simp) ?_
              refine AllReady.cons (o := ⟨some 54, _, _, _, _, _⟩) rfl (fun K hK => ?_) AllReady.nil
              refine step_app app_el (by rfl) (.tmp 50) (.tmp 53) rfl (.slice A8 m8 c8) m8 (vals L) rfl (HO.out _ K1.out) _ 1 1 (vals [os]) rfl rfl HM.out.src (vals_one _) (by decide) Hm1.out Hm2.out ?_
              intro v9 w9 hg9
              obtain ⟨s0, s1, s2⟩ := HX.out _ _ _ K1.out hg9.out
              obtain ⟨A9, c9, rfl, _, _, _⟩ := hg9.out.row.form
              have HS := hide s2
              clear hg9 s2
              refine hK _ _ ?_
              clear hK K
              refine wpAny_take (i := 9) (oi := ⟨some 55, _, _, _, _, _⟩) (v := ?_) rfl (by kernel_rfl) (by kernel_rfl) (by kernel_rfl) (fun _ _ _ h => h) (Or.inl ⟨by rfl, ?_⟩) ?_
              rotate_left 1
              · (intro w; go_simp; try with_reducible rfl)
              simp only [Act.put, List.setIfInBounds_toArray, List.set_cons_zero, List.set_cons_succ]
              refine wpAny_take (i := 10) (oi := ⟨some 56, _, _, _, _, _⟩) (v := ?_) rfl (by kernel_rfl) (by kernel_rfl) (by kernel_rfl) (fun _ _ _ h => h) (Or.inl ⟨by rfl, ?_⟩) ?_
              rotate_left 1
              · (intro w; go_simp; try with_reducible rfl)
              simp only [Act.put, List.setIfInBounds_toArray, List.set_cons_zero, List.set_cons_succ]
              refine wpAny_ready (rs := [11]) (by kernel_rfl) (by simp) ?_
              refine AllReady.cons (o := ⟨none, _, _, _, _, _⟩) rfl (fun K hK => ?_) AllReady.nil
              go_simp
              generalize World.setCell _ _ _ = w10 at *
              refine hK _ _ ?_
              clear hK K
              refine wpAny_done (by kernel_rfl) ?_ _
              clear s0 s1 HO HC HX
              have HCn := hide (P_counts HS.out)
              obtain ⟨ll, hll⟩ : ∃ ll, (L ++ [os]).length = ll := ⟨_, rfl⟩
              have HLL := hide hll
              rw [hll] at HCn
              clear hll HS
              go_wp2_with fail
              refine HCn.out.mono ?_
              rintro e w20 ⟨rfl, hs20⟩
              obtain ⟨A20, m20, c20, hm20, d0, d1, d2, -⟩ := P_cells hs20
              rw [HLL.out] at hm20
              rw [hm20] at d0
              have HCl := hide (P_list hs20)
              clear hs20 HCn hm20
              go_wp2_with fail
              refine HCl.out.mono ?_
              rintro e w21 ⟨v21, rfl, hv21, hs21⟩
              obtain ⟨A21, c21, rfl, _, _, hsv21⟩ := hv21.form
              obtain ⟨_, _, -, hrow21⟩ := P_form hs21
              rw [HTl.out] at hrow21 ⊢
              have HSm := hide (Same3_any w21 T tl A21 TA c21 tc HTl.out (by have := HTl.out; have := HTk.out; have := Hn.out; omega) hsv21 hrow21.src)
              have HS21 := hide hs21
              clear hv21 hsv21 hs21 hrow21 HCl d0 d1 d2
              go_wp2_with fail
              refine HSm.out.mono ?_
              rintro e w22 ⟨rfl, hb22⟩
              have HR22 : Hid (PR w1 w1.heap.size w2.heap.size w3.heap.size n (k + 1) (.slice TA tl tc) w22) := ⟨⟨_, _, _, _, P_drop (HS21.out.below hb22), HLk.out, HTk.out⟩, Hlt.out⟩
              clear hb22 HS21 HSm
              go_wp2
              go_roundw
              case rel => exact ⟨k + 1, by go_num, HR22.out⟩
              case measure => have := Hlt.out; simp [intOf]; omega
            · have hq := (HC.out _ K0.out).2
              go_simp
              clear hq
              refine hK _ _ ?_
              clear hK K
              refine wpAny_ready (rs := [4, 7]) (by kernel_rfl) (by simp) ?_
              refine AllReady.cons (o := ⟨some 50, _, _, _, _, _⟩) rfl (fun K hK => ?_) (AllReady.cons (o := ⟨some 53, _, _, _, _, _⟩) rfl (fun K hK => ?_) AllReady.nil)
              · have hq := (HC.out _ K0.out).1
                go_simp
                clear hq
                refine hK _ _ ?_
                clear hK K
                refine wpAny_ready (rs := [7]) (by kernel_rfl) (by simp) ?_
                refine AllReady.cons (o := ⟨some 53, _, _, _, _, _⟩) rfl (fun K hK => ?_) AllReady.nil
                go_simp
                have HM := hide (Made.el K0.out os)
                have K1 := hide HM.out.bel
                generalize World.alloc _ _ = W1 at *
                refine hK _ _ ?_
                clear hK K
                refine wpAny_ready (rs := [8]) (by kernel_rfl) (by simp) ?_
                refine AllReady.cons (o := ⟨some 54, _, _, _, _, _⟩) rfl (fun K hK => ?_) AllReady.nil
                refine step_app app_el (by rfl) (.tmp 50) (.tmp 53) rfl (.slice A8 m8 c8) m8 (vals L) rfl (HO.out _ K1.out) _ 1 1 (vals [os]) rfl rfl HM.out.src (vals_one _) (by decide) Hm1.out Hm2.out ?_
                intro v9 w9 hg9
                obtain ⟨s0, s1, s2⟩ := HX.out _ _ _ K1.out hg9.out
                obtain ⟨A9, c9, rfl, _, _, _⟩ := hg9.out.row.form
                have HS := hide s2
                clear hg9 s2
                refine hK _ _ ?_
                clear hK K
                refine wpAny_take (i := 9) (oi := ⟨some 55, _, _, _, _, _⟩) (v := ?_) rfl (by kernel_rfl) (by kernel_rfl) (by kernel_rfl) (fun _ _ _ h => h) (Or.inl ⟨by rfl, ?_⟩) ?_
                rotate_left 1
                · (intro w; go_simp; try with_reducible rfl)
                simp only [Act.put, List.setIfInBounds_toArray, List.set_cons_zero, List.set_cons_succ]
                refine wpAny_take (i := 10) (oi := ⟨some 56, _, _, _, _, _⟩) (v := ?_) rfl (by kernel_rfl) (by kernel_rfl) (by kernel_rfl) (fun _ _ _ h => h) (Or.inl ⟨by rfl, ?_⟩) ?_
                rotate_left 1
                · (intro w; go_simp; try with_reducible rfl)
                simp only [Act.put, List.setIfInBounds_toArray, List.set_cons_zero, List.set_cons_succ]
                refine wpAny_ready (rs := [11]) (by kernel_rfl) (by simp) ?_
                refine AllReady.cons (o := ⟨none, _, _, _, _, _⟩) rfl (fun K hK => ?_) AllReady.nil
                go_simp
                generalize World.setCell _ _ _ = w10 at *
                refine hK _ _ ?_
                clear hK K
                refine wpAny_done (by kernel_rfl) ?_ _
                clear s0 s1 HO HC HX
                have HCn := hide (P_counts HS.out)
                obtain ⟨ll, hll⟩ : ∃ ll, (L ++ [os]).length = ll := ⟨_, rfl⟩
                have HLL := hide hll
                rw [hll] at HCn
                clear hll HS
                go_wp2_with fail
                refine HCn.out.mono ?_
                rintro e w20 ⟨rfl, hs20⟩
                obtain ⟨A20, m20, c20, hm20, d0, d1, d2, -⟩ := P_cells hs20
                rw [HLL.out] at hm20
                rw [hm20] at d0
                have HCl := hide (P_list hs20)
                clear hs20 HCn hm20
                go_wp2_with fail
                refine HCl.out.mono ?_
                rintro e w21 ⟨v21, rfl, hv21, hs21⟩
                obtain ⟨A21, c21, rfl, _, _, hsv21⟩ := hv21.form
                obtain ⟨_, _, -, hrow21⟩ := P_form hs21
                rw [HTl.out] at hrow21 ⊢
                have HSm := hide (Same3_any w21 T tl A21 TA c21 tc HTl.out (by have := HTl.out; have := HTk.out; have := Hn.out; omega) hsv21 hrow21.src)
                have HS21 := hide hs21
                clear hv21 hsv21 hs21 hrow21 HCl d0 d1 d2
                go_wp2_with fail
                refine HSm.out.mono ?_
                rintro e w22 ⟨rfl, hb22⟩
                have HR22 : Hid (PR w1 w1.heap.size w2.heap.size w3.heap.size n (k + 1) (.slice TA tl tc) w22) := ⟨⟨_, _, _, _, P_drop (HS21.out.below hb22), HLk.out, HTk.out⟩, Hlt.out⟩
                clear hb22 HS21 HSm
                go_wp2
                go_roundw
                case rel => exact ⟨k + 1, by go_num, HR22.out⟩
                case measure => have := Hlt.out; simp [intOf]; omega
              · go_simp
                have HM := hide (Made.el K0.out os)
                have K1 := hide HM.out.bel
                generalize World.alloc _ _ = W1 at *
                refine hK _ _ ?_
                clear hK K
                refine wpAny_ready (rs := [4]) (by kernel_rfl) (by simp) ?_
                refine AllReady.cons (o := ⟨some 50, _, _, _, _, _⟩) rfl (fun K hK => ?_) AllReady.nil
                have hq := (HC.out _ K1.out).1
                go_simp
                clear hq
                refine hK _ _ ?_
                clear hK K
                refine wpAny_ready (rs := [8]) (by kernel_rfl) (by simp) ?_
                refine AllReady.cons (o := ⟨some 54, _, _, _, _, _⟩) rfl (fun K hK => ?_) AllReady.nil
                refine step_app app_el (by rfl) (.tmp 50) (.tmp 53) rfl (.slice A8 m8 c8) m8 (vals L) rfl (HO.out _ K1.out) _ 1 1 (vals [os]) rfl rfl HM.out.src (vals_one _) (by decide) Hm1.out Hm2.out ?_
                intro v9 w9 hg9
                obtain ⟨s0, s1, s2⟩ := HX.out _ _ _ K1.out hg9.out
                obtain ⟨A9, c9, rfl, _, _, _⟩ := hg9.out.row.form
                have HS := hide s2
                clear hg9 s2
                refine hK _ _ ?_
                clear hK K
                refine wpAny_take (i := 9) (oi := ⟨some 55, _, _, _, _, _⟩) (v := ?_) rfl (by kernel_rfl) (by kernel_rfl) (by kernel_rfl) (fun _ _ _ h => h) (Or.inl ⟨by rfl, ?_⟩) ?_
                rotate_left 1
                · (intro w; go_simp; try with_reducible rfl)
                simp only [Act.put, List.setIfInBounds_toArray, List.set_cons_zero, List.set_cons_succ]
                refine wpAny_take (i := 10) (oi := ⟨some 56, _, _, _, _, _⟩) (v := ?_) rfl (by kernel_rfl) (by kernel_rfl) (by kernel_rfl) (fun _ _ _ h => h) (Or.inl ⟨by rfl, ?_⟩) ?_
                rotate_left 1
                · (intro w; go_simp; try with_reducible rfl)
                simp only [Act.put, List.setIfInBounds_toArray, List.set_cons_zero, List.set_cons_succ]
                refine wpAny_ready (rs := [11]) (by kernel_rfl) (by simp) ?_
                refine AllReady.cons (o := ⟨none, _, _, _, _, _⟩) rfl (fun K hK => ?_) AllReady.nil
                go_simp
                generalize World.setCell _ _ _ = w10 at *
                refine hK _ _ ?_
                clear hK K
                refine wpAny_done (by kernel_rfl) ?_ _
                clear s0 s1 HO HC HX
                have HCn := hide (P_counts HS.out)
                obtain ⟨ll, hll⟩ : ∃ ll, (L ++ [os]).length = ll := ⟨_, rfl⟩
                have HLL := hide hll
                rw [hll] at HCn
                clear hll HS
                go_wp2_with fail
                refine HCn.out.mono ?_
                rintro e w20 ⟨rfl, hs20⟩
                obtain ⟨A20, m20, c20, hm20, d0, d1, d2, -⟩ := P_cells hs20
                rw [HLL.out] at hm20
                rw [hm20] at d0
                have HCl := hide (P_list hs20)
                clear hs20 HCn hm20
                go_wp2_with fail
                refine HCl.out.mono ?_
                rintro e w21 ⟨v21, rfl, hv21, hs21⟩
                obtain ⟨A21, c21, rfl, _, _, hsv21⟩ := hv21.form
                obtain ⟨_, _, -, hrow21⟩ := P_form hs21
                rw [HTl.out] at hrow21 ⊢
                have HSm := hide (Same3_any w21 T tl A21 TA c21 tc HTl.out (by have := HTl.out; have := HTk.out; have := Hn.out; omega) hsv21 hrow21.src)
                have HS21 := hide hs21
                clear hv21 hsv21 hs21 hrow21 HCl d0 d1 d2
                go_wp2_with fail
                refine HSm.out.mono ?_
                rintro e w22 ⟨rfl, hb22⟩
                have HR22 : Hid (PR w1 w1.heap.size w2.heap.size w3.heap.size n (k + 1) (.slice TA tl tc) w22) := ⟨⟨_, _, _, _, P_drop (HS21.out.below hb22), HLk.out, HTk.out⟩, Hlt.out⟩
                clear hb22 HS21 HSm
                go_wp2
                go_roundw
                case rel => exact ⟨k + 1, by go_num, HR22.out⟩
                case measure => have := Hlt.out; simp [intOf]; omega
        have q1 : (kind == 1) = false := by simpa using k1
        clear k1
        by_cases k2 : kind = 2
        · subst k2
          as_aux_lemma =>
            have HLk := hide (show L.length ≤ k + 1 by have := HLk0.out; omega)
            have HTk := hide (show T.length ≤ k + 1 by have := HTk0.out; omega)
            have HC7 := hide (P_send HS6.out)
            have hnn := P_nums HS6.out
            obtain ⟨Q, hQ⟩ : ∃ Q, room a L.length = Q := ⟨_, rfl⟩
            have HQ := hide hQ
            have HQ2 := hide (show Q ≤ L.length ∧ Q - nx ≤ 4 by rw [← hQ]; unfold room; split <;> omega)
            rw [hQ] at HC7
            obtain ⟨P, hP⟩ : ∃ P, P = upTo L nx Q := ⟨_, rfl⟩
            have hpl4 : P.length ≤ 4 := by rw [hP, upTo_len HQ2.out.1]; exact HQ2.out.2
            rw [← hP] at HC7
            have HP := hide hP
            have HP4 := hide hpl4
            clear hP hpl4 hnn hQ HS6
            go_wp2_with fail
            refine HC7.out.mono ?_
            rintro e w7 ⟨v7, rfl, hv7, hs7⟩
            obtain ⟨A7, c7, rfl, _, _, hsv7⟩ := hv7.form
            obtain ⟨pl, hpl⟩ : ∃ pl, P.length = pl := ⟨_, rfl⟩
            have HPL := hide hpl
            rw [hpl]
            have HC8 := hide (list_any A7 pl c7 P w7 hpl (by have := HP4.out; omega) hsv7)
            have HS7 := hide hs7
            clear hv7 hsv7 hs7 HC7 hpl
            go_wp2_with fail
            refine HC8.out.mono ?_
            rintro e w8 ⟨v8, rfl, hv8, hb8⟩
            have hs8 := P_addP HS7.out hb8 hv8
            obtain ⟨A8, c8, rfl, _, _, _⟩ := hv8.form
            have HC9 := hide (P_rsend hs8)
            rw [HQ.out] at HC9
            rw [← HP.out] at HC9
            rw [HPL.out]
            clear hv8 hb8 hs8 HC8 HS7
            go_wp2_with fail
            refine HC9.out.mono ?_
            rintro e w9 ⟨v9, rfl, hv9, hs9⟩
            obtain ⟨A9, c9, rfl, _, _, hsv9⟩ := hv9.form
            have hsv8 := P_srcP hs9
            have HSM := hide (Same9_any w9 P pl A8 A9 c8 c9 HPL.out (by have := HP4.out; have := HPL.out; omega) hsv8 hsv9)
            have HS9 := hide hs9
            rw [HPL.out]
            clear hv9 hsv9 hsv8 hs9 HC9
            go_wp2_with fail
            refine HSM.out.mono ?_
            rintro e w10 ⟨rfl, hb10⟩
            have HS := hide (HS9.out.below hb10)
            clear hb10 HS9 HSM
            have HCn := hide (P_counts HS.out)
            obtain ⟨ll, hll⟩ : ∃ ll, (L).length = ll := ⟨_, rfl⟩
            have HLL := hide hll
            rw [hll] at HCn
            clear hll HS
            go_wp2_with fail
            refine HCn.out.mono ?_
            rintro e w20 ⟨rfl, hs20⟩
            obtain ⟨A20, m20, c20, hm20, d0, d1, d2, -⟩ := P_cells hs20
            rw [HLL.out] at hm20
            rw [hm20] at d0
            have HCl := hide (P_list hs20)
            clear hs20 HCn hm20
            go_wp2_with fail
            refine HCl.out.mono ?_
            rintro e w21 ⟨v21, rfl, hv21, hs21⟩
            obtain ⟨A21, c21, rfl, _, _, hsv21⟩ := hv21.form
            obtain ⟨_, _, -, hrow21⟩ := P_form hs21
            rw [HTl.out] at hrow21 ⊢
            have HSm := hide (Same3_any w21 T tl A21 TA c21 tc HTl.out (by have := HTl.out; have := HTk.out; have := Hn.out; omega) hsv21 hrow21.src)
            have HS21 := hide hs21
            clear hv21 hsv21 hs21 hrow21 HCl d0 d1 d2
            go_wp2_with fail
            refine HSm.out.mono ?_
            rintro e w22 ⟨rfl, hb22⟩
            have HR22 : Hid (PR w1 w1.heap.size w2.heap.size w3.heap.size n (k + 1) (.slice TA tl tc) w22) := ⟨⟨_, _, _, _, P_drop (HS21.out.below hb22), HLk.out, HTk.out⟩, Hlt.out⟩
            clear hb22 HS21 HSm
            go_wp2
            go_roundw
            case rel => exact ⟨k + 1, by go_num, HR22.out⟩
            case measure => have := Hlt.out; simp [intOf]; omega
        have q2 : (kind == 2) = false := by simpa using k2
        clear k2
        by_cases k3 : kind = 3
        · subst k3
          as_aux_lemma =>
            have HLk := hide (show L.length ≤ k + 1 by have := HLk0.out; omega)
            have HTk := hide (show T.length ≤ k + 1 by have := HTk0.out; omega)
            have HC7 := hide (P_resend HS6.out)
            have hnn := P_nums HS6.out
            obtain ⟨P, hP⟩ : ∃ P, P = upTo L a nx := ⟨_, rfl⟩
            have hpl4 : P.length ≤ 4 := by rw [hP, upTo_len (by omega)]; omega
            rw [← hP] at HC7
            have HP := hide hP
            have HP4 := hide hpl4
            clear hP hpl4 hnn HS6
            go_wp2_with fail
            refine HC7.out.mono ?_
            rintro e w7 ⟨v7, rfl, hv7, hs7⟩
            obtain ⟨A7, c7, rfl, _, _, hsv7⟩ := hv7.form
            obtain ⟨pl, hpl⟩ : ∃ pl, P.length = pl := ⟨_, rfl⟩
            have HPL := hide hpl
            rw [hpl]
            have HC8 := hide (list_any A7 pl c7 P w7 hpl (by have := HP4.out; omega) hsv7)
            have HS7 := hide hs7
            clear hv7 hsv7 hs7 HC7 hpl
            go_wp2_with fail
            refine HC8.out.mono ?_
            rintro e w8 ⟨v8, rfl, hv8, hb8⟩
            have hs8 := P_addP HS7.out hb8 hv8
            obtain ⟨A8, c8, rfl, _, _, _⟩ := hv8.form
            have HC9 := hide (P_rresend hs8)
            rw [← HP.out] at HC9
            rw [HPL.out]
            clear hv8 hb8 hs8 HC8 HS7
            go_wp2_with fail
            refine HC9.out.mono ?_
            rintro e w9 ⟨v9, rfl, hv9, hs9⟩
            obtain ⟨A9, c9, rfl, _, _, hsv9⟩ := hv9.form
            have hsv8 := P_srcP hs9
            have HSM := hide (Same9_any w9 P pl A8 A9 c8 c9 HPL.out (by have := HP4.out; have := HPL.out; omega) hsv8 hsv9)
            have HS9 := hide hs9
            rw [HPL.out]
            clear hv9 hsv9 hsv8 hs9 HC9
            go_wp2_with fail
            refine HSM.out.mono ?_
            rintro e w10 ⟨rfl, hb10⟩
            have HS := hide (HS9.out.below hb10)
            clear hb10 HS9 HSM
            have HCn := hide (P_counts HS.out)
            obtain ⟨ll, hll⟩ : ∃ ll, (L).length = ll := ⟨_, rfl⟩
            have HLL := hide hll
            rw [hll] at HCn
            clear hll HS
            go_wp2_with fail
            refine HCn.out.mono ?_
            rintro e w20 ⟨rfl, hs20⟩
            obtain ⟨A20, m20, c20, hm20, d0, d1, d2, -⟩ := P_cells hs20
            rw [HLL.out] at hm20
            rw [hm20] at d0
            have HCl := hide (P_list hs20)
            clear hs20 HCn hm20
            go_wp2_with fail
            refine HCl.out.mono ?_
            rintro e w21 ⟨v21, rfl, hv21, hs21⟩
            obtain ⟨A21, c21, rfl, _, _, hsv21⟩ := hv21.form
            obtain ⟨_, _, -, hrow21⟩ := P_form hs21
            rw [HTl.out] at hrow21 ⊢
            have HSm := hide (Same3_any w21 T tl A21 TA c21 tc HTl.out (by have := HTl.out; have := HTk.out; have := Hn.out; omega) hsv21 hrow21.src)
            have HS21 := hide hs21
            clear hv21 hsv21 hs21 hrow21 HCl d0 d1 d2
            go_wp2_with fail
            refine HSm.out.mono ?_
            rintro e w22 ⟨rfl, hb22⟩
            have HR22 : Hid (PR w1 w1.heap.size w2.heap.size w3.heap.size n (k + 1) (.slice TA tl tc) w22) := ⟨⟨_, _, _, _, P_drop (HS21.out.below hb22), HLk.out, HTk.out⟩, Hlt.out⟩
            clear hb22 HS21 HSm
            go_wp2
            go_roundw
            case rel => exact ⟨k + 1, by go_num, HR22.out⟩
            case measure => have := Hlt.out; simp [intOf]; omega
        have q3 : (kind == 3) = false := by simpa using k3
        clear k3
        by_cases k4 : kind = 4
        · subst k4
          by_cases hin : 0 ≤ on ∧ on ≤ (nx : Int)
          · skip
            as_aux_lemma =>
              have HLk := hide (show L.length ≤ k + 1 by have := HLk0.out; omega)
              have HTk := hide (show T.length ≤ k + 1 by have := HTk0.out; omega)
              obtain ⟨kk, rfl⟩ : ∃ kk : Nat, on = (kk : Int) := ⟨on.toNat, by omega⟩
              have HK := hide (show kk ≤ nx by omega)
              have HC7 := hide (P_ackY HS6.out kk HK.out)
              clear hin HS6
              go_wp2_with fail
              refine HC7.out.mono ?_
              rintro e w7 ⟨rfl, hs7⟩
              have HS7 := hide hs7
              have HC8 := hide (First_none (HE.out.below hs7.bel HE.out.lt))
              clear hs7 HC7
              go_wp2_with fail
              refine HC8.out.mono ?_
              rintro e w8 ⟨rfl, hb8⟩
              have HS8 := hide (HS7.out.below hb8).drew
              have HS0 : Hid (w8.drew.cell? ⟨Bo, 1, none⟩ = some (.int .i64 (kk : Int))) := (P_op HS8.out).2.1
              clear hb8 HS7 HC8
              go_wp2
              have hS0 := HS0.out
              refine wp_region_held (S := (fun W => W.cell? ⟨Bo, 1, none⟩ = some (.int .i64 (kk : Int)))) (by kernel_rfl) ?_
              change wpAnyH _ _ _ _ _ _ _ _ (World.drew _)
              refine wpAnyH_take (i := 0) (oi := ⟨some 86, _, _, _, _, _⟩) (v := ?_) rfl (by kernel_rfl) (by kernel_rfl) (by kernel_rfl) (fun _ _ _ h => h) (Or.inl ⟨by rfl, ?_⟩) hS0 ?_
              rotate_left 1
              · (intro w hSw; obtain hSw1 := hSw; go_simp; try with_reducible rfl)
              simp only [Act.put, List.setIfInBounds_toArray, List.set_cons_zero, List.set_cons_succ]
              refine wpAnyH_take (i := 2) (oi := ⟨some 88, _, _, _, _, _⟩) (v := ?_) rfl (by kernel_rfl) (by kernel_rfl) (by kernel_rfl) (fun _ _ _ h => h) (Or.inl ⟨by rfl, ?_⟩) hS0 ?_
              rotate_left 1
              · (intro w hSw; obtain hSw1 := hSw; go_simp; try with_reducible rfl)
              simp only [Act.put, List.setIfInBounds_toArray, List.set_cons_zero, List.set_cons_succ]
              refine wpAnyH_take (i := 3) (oi := ⟨some 89, _, _, _, _, _⟩) (v := ?_) rfl (by kernel_rfl) (by kernel_rfl) (by kernel_rfl) (fun _ _ _ h => h) (Or.inl ⟨by rfl, ?_⟩) hS0 ?_
              rotate_left 1
              · (intro w hSw; obtain hSw1 := hSw; go_simp; try with_reducible rfl)
              simp only [Act.put, List.setIfInBounds_toArray, List.set_cons_zero, List.set_cons_succ]
              refine wpAnyH_take (i := 4) (oi := ⟨some 90, _, _, _, _, _⟩) (v := ?_) rfl (by kernel_rfl) (by kernel_rfl) (by kernel_rfl) (fun _ _ _ h => h) (Or.inl ⟨by rfl, ?_⟩) hS0 ?_
              rotate_left 1
              · (intro w hSw; obtain hSw1 := hSw; go_simp; try with_reducible rfl)
              simp only [Act.put, List.setIfInBounds_toArray, List.set_cons_zero, List.set_cons_succ]
              refine wpAnyH_ready (rs := [1]) (by kernel_rfl) (by simp) ?_
              refine AllReadyH.cons (o := ⟨some 87, _, _, _, _, _⟩) rfl (fun K hK => ?_) AllReadyH.nil
              go_simp
              refine (Code_none (HE.out.below HS8.out.bel HE.out.lt)).mono ?_
              rintro e w9 ⟨rfl, hb9⟩
              have HS9 := hide (HS8.out.below hb9)
              have hS9 : w9.cell? ⟨Bo, 1, none⟩ = some (.int .i64 (kk : Int)) := (P_op HS9.out).2.1
              clear hb9
              refine hK.out _ _ hS9 (fun hHeld => ?_)
              clear hK K
              clear hHeld
              refine wpAnyH_ready (rs := [5]) (by kernel_rfl) (by simp) ?_
              refine AllReadyH.cons (o := ⟨some 91, _, _, _, _, _⟩) rfl (fun K hK => ?_) AllReadyH.nil
              go_simp
              refine (P_rackY HS9.out kk HK.out).mono ?_
              rintro e w10 ⟨rfl, hs10⟩
              have HS := hide hs10
              have hS10 : w10.cell? ⟨Bo, 1, none⟩ = some (.int .i64 (kk : Int)) := (P_op HS.out).2.1
              clear hs10
              refine hK.out _ _ hS10 (fun hHeld => ?_)
              clear hK K
              clear hHeld
              refine wpAnyH_take (i := 6) (oi := ⟨some 92, _, _, _, _, _⟩) (v := ?_) rfl (by kernel_rfl) (by kernel_rfl) (by kernel_rfl) (fun _ _ _ h => h) (Or.inl ⟨by rfl, ?_⟩) hS10 ?_
              rotate_left 1
              · (intro w hSw; obtain hSw1 := hSw; go_simp; try with_reducible rfl)
              simp only [Act.put, List.setIfInBounds_toArray, List.set_cons_zero, List.set_cons_succ]
              refine wpAnyH_take (i := 7) (oi := ⟨some 93, _, _, _, _, _⟩) (v := ?_) rfl (by kernel_rfl) (by kernel_rfl) (by kernel_rfl) (fun _ _ _ h => h) (Or.inl ⟨by rfl, ?_⟩) hS10 ?_
              rotate_left 1
              · (intro w hSw; obtain hSw1 := hSw; go_simp; try with_reducible rfl)
              simp only [Act.put, List.setIfInBounds_toArray, List.set_cons_zero, List.set_cons_succ]
              refine wpAnyH_take (i := 8) (oi := ⟨some 94, _, _, _, _, _⟩) (v := ?_) rfl (by kernel_rfl) (by kernel_rfl) (by kernel_rfl) (fun _ _ _ h => h) (Or.inl ⟨by rfl, ?_⟩) hS10 ?_
              rotate_left 1
              · (intro w hSw; obtain hSw1 := hSw; go_simp; try with_reducible rfl)
              simp only [Act.put, List.setIfInBounds_toArray, List.set_cons_zero, List.set_cons_succ]
              refine wpAnyH_take (i := 9) (oi := ⟨some 95, _, _, _, _, _⟩) (v := ?_) rfl (by kernel_rfl) (by kernel_rfl) (by kernel_rfl) (fun _ _ _ h => h) (Or.inl ⟨by rfl, ?_⟩) hS10 ?_
              rotate_left 1
              · (intro w hSw; obtain hSw1 := hSw; go_simp; try with_reducible rfl)
              simp only [Act.put, List.setIfInBounds_toArray, List.set_cons_zero, List.set_cons_succ]
              refine wpAnyH_take (i := 10) (oi := ⟨some 96, _, _, _, _, _⟩) (v := ?_) rfl (by kernel_rfl) (by kernel_rfl) (by kernel_rfl) (fun _ _ _ h => h) (Or.inl ⟨by rfl, ?_⟩) hS10 ?_
              rotate_left 1
              · (intro w hSw; obtain hSw1 := hSw; go_simp; try with_reducible rfl)
              simp only [Act.put, List.setIfInBounds_toArray, List.set_cons_zero, List.set_cons_succ]
              refine wpAnyH_take (i := 11) (oi := ⟨some 97, _, _, _, _, _⟩) (v := ?_) rfl (by kernel_rfl) (by kernel_rfl) (by kernel_rfl) (fun _ _ _ h => h) (Or.inl ⟨by rfl, ?_⟩) hS10 ?_
              rotate_left 1
              · (intro w hSw; obtain hSw1 := hSw; go_simp; try with_reducible rfl)
              simp only [Act.put, List.setIfInBounds_toArray, List.set_cons_zero, List.set_cons_succ]
              refine wpAnyH_take (i := 12) (oi := ⟨some 98, _, _, _, _, _⟩) (v := ?_) rfl (by kernel_rfl) (by kernel_rfl) (by kernel_rfl) (fun _ _ _ h => h) (Or.inl ⟨by rfl, ?_⟩) hS10 ?_
              rotate_left 1
              · (intro w hSw; obtain hSw1 := hSw; go_simp; try with_reducible rfl)
              simp only [Act.put, List.setIfInBounds_toArray, List.set_cons_zero, List.set_cons_succ]
              refine wpAnyH_take (i := 13) (oi := ⟨some 99, _, _, _, _, _⟩) (v := ?_) rfl (by kernel_rfl) (by kernel_rfl) (by kernel_rfl) (fun _ _ _ h => h) (Or.inl ⟨by rfl, ?_⟩) hS10 ?_
              rotate_left 1
              · (intro w hSw; obtain hSw1 := hSw; go_simp; try with_reducible rfl)
              simp only [Act.put, List.setIfInBounds_toArray, List.set_cons_zero, List.set_cons_succ]
              refine wpAnyH_take (i := 14) (oi := ⟨some 100, _, _, _, _, _⟩) (v := ?_) rfl (by kernel_rfl) (by kernel_rfl) (by kernel_rfl) (fun _ _ _ h => h) (Or.inl ⟨by rfl, ?_⟩) hS10 ?_
              rotate_left 1
              · (intro w hSw; obtain hSw1 := hSw; go_simp; try with_reducible rfl)
              simp only [Act.put, List.setIfInBounds_toArray, List.set_cons_zero, List.set_cons_succ]
              refine wpAnyH_take (i := 15) (oi := ⟨some 101, _, _, _, _, _⟩) (v := ?_) rfl (by kernel_rfl) (by kernel_rfl) (by kernel_rfl) (fun _ _ _ h => h) (Or.inl ⟨by rfl, ?_⟩) hS10 ?_
              rotate_left 1
              · (intro w hSw; obtain hSw1 := hSw; go_simp; try with_reducible rfl)
              simp only [Act.put, List.setIfInBounds_toArray, List.set_cons_zero, List.set_cons_succ]
              refine wpAnyH_take (i := 16) (oi := ⟨some 102, _, _, _, _, _⟩) (v := undef) rfl (by kernel_rfl) (by kernel_rfl) (by kernel_rfl) (fun _ _ _ h => h) (Or.inr ⟨by rfl, rfl⟩) hS10 ?_
              simp only [Act.put, List.setIfInBounds_toArray, List.set_cons_zero, List.set_cons_succ]
              refine wpAnyH_take (i := 17) (oi := ⟨some 103, _, _, _, _, _⟩) (v := undef) rfl (by kernel_rfl) (by kernel_rfl) (by kernel_rfl) (fun _ _ _ h => h) (Or.inr ⟨by rfl, rfl⟩) hS10 ?_
              simp only [Act.put, List.setIfInBounds_toArray, List.set_cons_zero, List.set_cons_succ]
              refine wpAnyH_take (i := 18) (oi := ⟨some 104, _, _, _, _, _⟩) (v := undef) rfl (by kernel_rfl) (by kernel_rfl) (by kernel_rfl) (fun _ _ _ h => h) (Or.inr ⟨by rfl, rfl⟩) hS10 ?_
              simp only [Act.put, List.setIfInBounds_toArray, List.set_cons_zero, List.set_cons_succ]
              refine wpAnyH_take (i := 19) (oi := ⟨some 105, _, _, _, _, _⟩) (v := undef) rfl (by kernel_rfl) (by kernel_rfl) (by kernel_rfl) (fun _ _ _ h => h) (Or.inr ⟨by rfl, rfl⟩) hS10 ?_
              simp only [Act.put, List.setIfInBounds_toArray, List.set_cons_zero, List.set_cons_succ]
              refine wpAnyH_take (i := 20) (oi := ⟨some 106, _, _, _, _, _⟩) (v := ?_) rfl (by kernel_rfl) (by kernel_rfl) (by kernel_rfl) (fun _ _ _ h => h) (Or.inl ⟨by rfl, ?_⟩) hS10 ?_
              rotate_left 1
              · (intro w hSw; obtain hSw1 := hSw; go_simp; try with_reducible rfl)
              simp only [Act.put, List.setIfInBounds_toArray, List.set_cons_zero, List.set_cons_succ]
              refine wpAnyH_take (i := 21) (oi := ⟨some 107, _, _, _, _, _⟩) (v := ?_) rfl (by kernel_rfl) (by kernel_rfl) (by kernel_rfl) (fun _ _ _ h => h) (Or.inl ⟨by rfl, ?_⟩) hS10 ?_
              rotate_left 1
              · (intro w hSw; obtain hSw1 := hSw; go_simp; try with_reducible rfl)
              simp only [Act.put, List.setIfInBounds_toArray, List.set_cons_zero, List.set_cons_succ]
              refine wpAnyH_done (by kernel_rfl) ?_ _
              clear hS0 hS9 hS10 HS8 HS9 HS0
              have HCn := hide (P_counts HS.out)
              obtain ⟨ll, hll⟩ : ∃ ll, (L).length = ll := ⟨_, rfl⟩
              have HLL := hide hll
              rw [hll] at HCn
              clear hll HS
              go_wp2_with fail
              refine HCn.out.mono ?_
              rintro e w20 ⟨rfl, hs20⟩
              obtain ⟨A20, m20, c20, hm20, d0, d1, d2, -⟩ := P_cells hs20
              rw [HLL.out] at hm20
              rw [hm20] at d0
              have HCl := hide (P_list hs20)
              clear hs20 HCn hm20
              go_wp2_with fail
              refine HCl.out.mono ?_
              rintro e w21 ⟨v21, rfl, hv21, hs21⟩
              obtain ⟨A21, c21, rfl, _, _, hsv21⟩ := hv21.form
              obtain ⟨_, _, -, hrow21⟩ := P_form hs21
              rw [HTl.out] at hrow21 ⊢
              have HSm := hide (Same3_any w21 T tl A21 TA c21 tc HTl.out (by have := HTl.out; have := HTk.out; have := Hn.out; omega) hsv21 hrow21.src)
              have HS21 := hide hs21
              clear hv21 hsv21 hs21 hrow21 HCl d0 d1 d2
              go_wp2_with fail
              refine HSm.out.mono ?_
              rintro e w22 ⟨rfl, hb22⟩
              have HR22 : Hid (PR w1 w1.heap.size w2.heap.size w3.heap.size n (k + 1) (.slice TA tl tc) w22) := ⟨⟨_, _, _, _, P_drop (HS21.out.below hb22), HLk.out, HTk.out⟩, Hlt.out⟩
              clear hb22 HS21 HSm
              go_wp2
              go_roundw
              case rel => exact ⟨k + 1, by go_num, HR22.out⟩
              case measure => have := Hlt.out; simp [intOf]; omega
          · skip
            as_aux_lemma =>
              have HLk := hide (show L.length ≤ k + 1 by have := HLk0.out; omega)
              have HTk := hide (show T.length ≤ k + 1 by have := HTk0.out; omega)
              have HK := hide (show on < 0 ∨ (nx : Int) < on by omega)
              have HC7 := hide (P_ackN HS6.out on HK.out)
              clear hin HS6
              go_wp2_with fail
              refine HC7.out.mono ?_
              rintro e w7 ⟨f7, rfl, hf7, hs7⟩
              have HS7 := hide hs7
              have HF7 := hide hf7
              have HC8 := hide (First_flt (HE.out.below hs7.bel HE.out.lt) hf7)
              clear hs7 hf7 HC7
              go_wp2_with fail
              refine HC8.out.mono ?_
              rintro e w8 ⟨rfl, hb8⟩
              have HF8 := hide (HF7.out.below (hb8.trans (Below.refl _ _).drew))
              have HS8 := hide (HS7.out.below hb8).drew
              have HS0 : Hid (w8.drew.cell? ⟨Bo, 1, none⟩ = some (.int .i64 on)) := (P_op HS8.out).2.1
              clear hb8 HS7 HC8 HF7
              go_wp2
              have hS0 := HS0.out
              refine wp_region_held (S := (fun W => W.cell? ⟨Bo, 1, none⟩ = some (.int .i64 on))) (by kernel_rfl) ?_
              change wpAnyH _ _ _ _ _ _ _ _ (World.drew _)
              refine wpAnyH_take (i := 0) (oi := ⟨some 86, _, _, _, _, _⟩) (v := ?_) rfl (by kernel_rfl) (by kernel_rfl) (by kernel_rfl) (fun _ _ _ h => h) (Or.inl ⟨by rfl, ?_⟩) hS0 ?_
              rotate_left 1
              · (intro w hSw; obtain hSw1 := hSw; go_simp; try with_reducible rfl)
              simp only [Act.put, List.setIfInBounds_toArray, List.set_cons_zero, List.set_cons_succ]
              refine wpAnyH_take (i := 2) (oi := ⟨some 88, _, _, _, _, _⟩) (v := ?_) rfl (by kernel_rfl) (by kernel_rfl) (by kernel_rfl) (fun _ _ _ h => h) (Or.inl ⟨by rfl, ?_⟩) hS0 ?_
              rotate_left 1
              · (intro w hSw; obtain hSw1 := hSw; go_simp; try with_reducible rfl)
              simp only [Act.put, List.setIfInBounds_toArray, List.set_cons_zero, List.set_cons_succ]
              refine wpAnyH_take (i := 3) (oi := ⟨some 89, _, _, _, _, _⟩) (v := ?_) rfl (by kernel_rfl) (by kernel_rfl) (by kernel_rfl) (fun _ _ _ h => h) (Or.inl ⟨by rfl, ?_⟩) hS0 ?_
              rotate_left 1
              · (intro w hSw; obtain hSw1 := hSw; go_simp; try with_reducible rfl)
              simp only [Act.put, List.setIfInBounds_toArray, List.set_cons_zero, List.set_cons_succ]
              refine wpAnyH_take (i := 4) (oi := ⟨some 90, _, _, _, _, _⟩) (v := ?_) rfl (by kernel_rfl) (by kernel_rfl) (by kernel_rfl) (fun _ _ _ h => h) (Or.inl ⟨by rfl, ?_⟩) hS0 ?_
              rotate_left 1
              · (intro w hSw; obtain hSw1 := hSw; go_simp; try with_reducible rfl)
              simp only [Act.put, List.setIfInBounds_toArray, List.set_cons_zero, List.set_cons_succ]
              refine wpAnyH_ready (rs := [1]) (by kernel_rfl) (by simp) ?_
              refine AllReadyH.cons (o := ⟨some 87, _, _, _, _, _⟩) rfl (fun K hK => ?_) AllReadyH.nil
              go_simp
              refine (Code_flt (HE.out.below HS8.out.bel HE.out.lt) HF8.out).mono ?_
              rintro e w9 ⟨rfl, hb9⟩
              have HS9 := hide (HS8.out.below hb9)
              have hS9 : w9.cell? ⟨Bo, 1, none⟩ = some (.int .i64 on) := (P_op HS9.out).2.1
              clear hb9
              refine hK.out _ _ hS9 (fun hHeld => ?_)
              clear hK K
              clear hHeld
              refine wpAnyH_ready (rs := [5]) (by kernel_rfl) (by simp) ?_
              refine AllReadyH.cons (o := ⟨some 91, _, _, _, _, _⟩) rfl (fun K hK => ?_) AllReadyH.nil
              go_simp
              refine (P_rackN HS9.out on HK.out).mono ?_
              rintro e w10 ⟨rfl, hs10⟩
              have HS := hide hs10
              have hS10 : w10.cell? ⟨Bo, 1, none⟩ = some (.int .i64 on) := (P_op HS.out).2.1
              clear hs10
              refine hK.out _ _ hS10 (fun hHeld => ?_)
              clear hK K
              clear hHeld
              refine wpAnyH_take (i := 6) (oi := ⟨some 92, _, _, _, _, _⟩) (v := ?_) rfl (by kernel_rfl) (by kernel_rfl) (by kernel_rfl) (fun _ _ _ h => h) (Or.inl ⟨by rfl, ?_⟩) hS10 ?_
              rotate_left 1
              · (intro w hSw; obtain hSw1 := hSw; go_simp; try with_reducible rfl)
              simp only [Act.put, List.setIfInBounds_toArray, List.set_cons_zero, List.set_cons_succ]
              refine wpAnyH_take (i := 7) (oi := ⟨some 93, _, _, _, _, _⟩) (v := ?_) rfl (by kernel_rfl) (by kernel_rfl) (by kernel_rfl) (fun _ _ _ h => h) (Or.inl ⟨by rfl, ?_⟩) hS10 ?_
              rotate_left 1
              · (intro w hSw; obtain hSw1 := hSw; go_simp; try with_reducible rfl)
              simp only [Act.put, List.setIfInBounds_toArray, List.set_cons_zero, List.set_cons_succ]
              refine wpAnyH_take (i := 8) (oi := ⟨some 94, _, _, _, _, _⟩) (v := ?_) rfl (by kernel_rfl) (by kernel_rfl) (by kernel_rfl) (fun _ _ _ h => h) (Or.inl ⟨by rfl, ?_⟩) hS10 ?_
              rotate_left 1
              · (intro w hSw; obtain hSw1 := hSw; go_simp; try with_reducible rfl)
              simp only [Act.put, List.setIfInBounds_toArray, List.set_cons_zero, List.set_cons_succ]
              refine wpAnyH_take (i := 9) (oi := ⟨some 95, _, _, _, _, _⟩) (v := ?_) rfl (by kernel_rfl) (by kernel_rfl) (by kernel_rfl) (fun _ _ _ h => h) (Or.inl ⟨by rfl, ?_⟩) hS10 ?_
              rotate_left 1
              · (intro w hSw; obtain hSw1 := hSw; go_simp; try with_reducible rfl)
              simp only [Act.put, List.setIfInBounds_toArray, List.set_cons_zero, List.set_cons_succ]
              refine wpAnyH_take (i := 10) (oi := ⟨some 96, _, _, _, _, _⟩) (v := ?_) rfl (by kernel_rfl) (by kernel_rfl) (by kernel_rfl) (fun _ _ _ h => h) (Or.inl ⟨by rfl, ?_⟩) hS10 ?_
              rotate_left 1
              · (intro w hSw; obtain hSw1 := hSw; go_simp; try with_reducible rfl)
              simp only [Act.put, List.setIfInBounds_toArray, List.set_cons_zero, List.set_cons_succ]
              refine wpAnyH_take (i := 11) (oi := ⟨some 97, _, _, _, _, _⟩) (v := ?_) rfl (by kernel_rfl) (by kernel_rfl) (by kernel_rfl) (fun _ _ _ h => h) (Or.inl ⟨by rfl, ?_⟩) hS10 ?_
              rotate_left 1
              · (intro w hSw; obtain hSw1 := hSw; go_simp; try with_reducible rfl)
              simp only [Act.put, List.setIfInBounds_toArray, List.set_cons_zero, List.set_cons_succ]
              refine wpAnyH_take (i := 12) (oi := ⟨some 98, _, _, _, _, _⟩) (v := ?_) rfl (by kernel_rfl) (by kernel_rfl) (by kernel_rfl) (fun _ _ _ h => h) (Or.inl ⟨by rfl, ?_⟩) hS10 ?_
              rotate_left 1
              · (intro w hSw; obtain hSw1 := hSw; go_simp; try with_reducible rfl)
              simp only [Act.put, List.setIfInBounds_toArray, List.set_cons_zero, List.set_cons_succ]
              refine wpAnyH_take (i := 13) (oi := ⟨some 99, _, _, _, _, _⟩) (v := ?_) rfl (by kernel_rfl) (by kernel_rfl) (by kernel_rfl) (fun _ _ _ h => h) (Or.inl ⟨by rfl, ?_⟩) hS10 ?_
              rotate_left 1
              · (intro w hSw; obtain hSw1 := hSw; go_simp; try with_reducible rfl)
              simp only [Act.put, List.setIfInBounds_toArray, List.set_cons_zero, List.set_cons_succ]
              refine wpAnyH_take (i := 14) (oi := ⟨some 100, _, _, _, _, _⟩) (v := ?_) rfl (by kernel_rfl) (by kernel_rfl) (by kernel_rfl) (fun _ _ _ h => h) (Or.inl ⟨by rfl, ?_⟩) hS10 ?_
              rotate_left 1
              · (intro w hSw; obtain hSw1 := hSw; go_simp; try with_reducible rfl)
              simp only [Act.put, List.setIfInBounds_toArray, List.set_cons_zero, List.set_cons_succ]
              refine wpAnyH_take (i := 15) (oi := ⟨some 101, _, _, _, _, _⟩) (v := ?_) rfl (by kernel_rfl) (by kernel_rfl) (by kernel_rfl) (fun _ _ _ h => h) (Or.inl ⟨by rfl, ?_⟩) hS10 ?_
              rotate_left 1
              · (intro w hSw; obtain hSw1 := hSw; go_simp; try with_reducible rfl)
              simp only [Act.put, List.setIfInBounds_toArray, List.set_cons_zero, List.set_cons_succ]
              refine wpAnyH_take (i := 16) (oi := ⟨some 102, _, _, _, _, _⟩) (v := ?_) rfl (by kernel_rfl) (by kernel_rfl) (by kernel_rfl) (fun _ _ _ h => h) (Or.inl ⟨by rfl, ?_⟩) hS10 ?_
              rotate_left 1
              · (intro w hSw; obtain hSw1 := hSw; go_simp; try with_reducible rfl)
              simp only [Act.put, List.setIfInBounds_toArray, List.set_cons_zero, List.set_cons_succ]
              refine wpAnyH_take (i := 17) (oi := ⟨some 103, _, _, _, _, _⟩) (v := ?_) rfl (by kernel_rfl) (by kernel_rfl) (by kernel_rfl) (fun _ _ _ h => h) (Or.inl ⟨by rfl, ?_⟩) hS10 ?_
              rotate_left 1
              · (intro w hSw; obtain hSw1 := hSw; go_simp; try with_reducible rfl)
              simp only [Act.put, List.setIfInBounds_toArray, List.set_cons_zero, List.set_cons_succ]
              refine wpAnyH_take (i := 18) (oi := ⟨some 104, _, _, _, _, _⟩) (v := ?_) rfl (by kernel_rfl) (by kernel_rfl) (by kernel_rfl) (fun _ _ _ h => h) (Or.inl ⟨by rfl, ?_⟩) hS10 ?_
              rotate_left 1
              · (intro w hSw; obtain hSw1 := hSw; go_simp; try with_reducible rfl)
              simp only [Act.put, List.setIfInBounds_toArray, List.set_cons_zero, List.set_cons_succ]
              refine wpAnyH_take (i := 19) (oi := ⟨some 105, _, _, _, _, _⟩) (v := ?_) rfl (by kernel_rfl) (by kernel_rfl) (by kernel_rfl) (fun _ _ _ h => h) (Or.inl ⟨by rfl, ?_⟩) hS10 ?_
              rotate_left 1
              · (intro w hSw; obtain hSw1 := hSw; go_simp; try with_reducible rfl)
              simp only [Act.put, List.setIfInBounds_toArray, List.set_cons_zero, List.set_cons_succ]
              refine wpAnyH_take (i := 20) (oi := ⟨some 106, _, _, _, _, _⟩) (v := ?_) rfl (by kernel_rfl) (by kernel_rfl) (by kernel_rfl) (fun _ _ _ h => h) (Or.inl ⟨by rfl, ?_⟩) hS10 ?_
              rotate_left 1
              · (intro w hSw; obtain hSw1 := hSw; go_simp; try with_reducible rfl)
              simp only [Act.put, List.setIfInBounds_toArray, List.set_cons_zero, List.set_cons_succ]
              refine wpAnyH_take (i := 21) (oi := ⟨some 107, _, _, _, _, _⟩) (v := ?_) rfl (by kernel_rfl) (by kernel_rfl) (by kernel_rfl) (fun _ _ _ h => h) (Or.inl ⟨by rfl, ?_⟩) hS10 ?_
              rotate_left 1
              · (intro w hSw; obtain hSw1 := hSw; go_simp; try with_reducible rfl)
              simp only [Act.put, List.setIfInBounds_toArray, List.set_cons_zero, List.set_cons_succ]
              refine wpAnyH_done (by kernel_rfl) ?_ _
              clear hS0 hS9 hS10 HS8 HS9 HS0
              have HCn := hide (P_counts HS.out)
              obtain ⟨ll, hll⟩ : ∃ ll, (L).length = ll := ⟨_, rfl⟩
              have HLL := hide hll
              rw [hll] at HCn
              clear hll HS
              go_wp2_with fail
              refine HCn.out.mono ?_
              rintro e w20 ⟨rfl, hs20⟩
              obtain ⟨A20, m20, c20, hm20, d0, d1, d2, -⟩ := P_cells hs20
              rw [HLL.out] at hm20
              rw [hm20] at d0
              have HCl := hide (P_list hs20)
              clear hs20 HCn hm20
              go_wp2_with fail
              refine HCl.out.mono ?_
              rintro e w21 ⟨v21, rfl, hv21, hs21⟩
              obtain ⟨A21, c21, rfl, _, _, hsv21⟩ := hv21.form
              obtain ⟨_, _, -, hrow21⟩ := P_form hs21
              rw [HTl.out] at hrow21 ⊢
              have HSm := hide (Same3_any w21 T tl A21 TA c21 tc HTl.out (by have := HTl.out; have := HTk.out; have := Hn.out; omega) hsv21 hrow21.src)
              have HS21 := hide hs21
              clear hv21 hsv21 hs21 hrow21 HCl d0 d1 d2
              go_wp2_with fail
              refine HSm.out.mono ?_
              rintro e w22 ⟨rfl, hb22⟩
              have HR22 : Hid (PR w1 w1.heap.size w2.heap.size w3.heap.size n (k + 1) (.slice TA tl tc) w22) := ⟨⟨_, _, _, _, P_drop (HS21.out.below hb22), HLk.out, HTk.out⟩, Hlt.out⟩
              clear hb22 HS21 HSm
              go_wp2
              go_roundw
              case rel => exact ⟨k + 1, by go_num, HR22.out⟩
              case measure => have := Hlt.out; simp [intOf]; omega
        have q4 : (kind == 4) = false := by simpa using k4
        clear k4
        by_cases k5 : kind = 5
        · subst k5
          by_cases hin : on = (tl : Int) + 1
          · skip
            as_aux_lemma =>
              have HLk := hide (show L.length ≤ k + 1 by have := HLk0.out; omega)
              have HTk := hide (show (T ++ [os]).length ≤ k + 1 by have := HTk0.out; rw [List.length_append]; simp; omega)
              have HTl0 := HTl
              have HY := hide hin
              have hy1 : (tl : Int) + 1 = on := hin.symm
              have hti : (tl : Int) ≤ 300 := by have := HTk0.out; have := HTl.out; have := Hk300.out; omega
              have hyw : IntKind.i64.wrap on = on := by rw [← hy1]; exact wrap_id (by omega) (by omega)
              clear hin
              have hb4 : Below w6.heap.size w6 (w6.alloc (.cells #[.string os] 9)) := (Below.refl _ _).alloc (Nat.le_refl _) _
              have HM7 := hide (Made.el (Below.refl w6.heap.size w6) os)
              have HO7 : Hid (ORow (w6.alloc (.cells #[.string os] 9)) 9 1 (.slice TA tl tc) tl (vals T)) := by
                obtain ⟨_, _, -, hrow⟩ := P_form HS6.out
                rw [HTl.out] at hrow
                exact hrow.below hb4
              have HX7 := hide (fun (W2 : World) (v : Value) (hg : Grown (w6.alloc (.cells #[.string os] 9)) 9 1 (.slice TA tl tc) (tl + 1) (vals T ++ vals [os]) v W2) => P_took HS6.out hb4 (by rw [HTl.out]) os hg)
              have Hm1 := hide (show tl + 1 ≤ maxLen by have := HTk0.out; have := HTl.out; have := Hk300.out; unfold maxLen; omega)
              have Hm2 := hide (show (tl + 1) * 16 ≤ 140737488355328 by have := HTk0.out; have := HTl.out; have := Hk300.out; omega)
              clear hb4 HS6
              go_wp2_with (at_builtin; go_must (refine wpList_app app_el rfl (.tmp 116) (.tmp 119) rfl (.slice TA tl tc) tl (vals T) rfl HO7.out _ 1 1 (vals [os]) rfl rfl HM7.out.src (vals_one _) (by decide) Hm1.out Hm2.out ?_))
              intro v7 w7 hg7
              have HS7 := hide (HX7.out w7 v7 hg7.out)
              obtain ⟨A7, c7, rfl, _, _, _⟩ := hg7.out.row.form
              have g1 : w7.cell? ⟨Bo, 1, none⟩ = some (.int .i64 on) := (P_op HS7.out).2.1
              have g2 : w7.cell? ⟨Bo, 2, none⟩ = some (.string os) := (P_op HS7.out).2.2
              have HC8 := hide (P_takeY HS7.out (by have := HTk0.out; have := Hk300.out; omega) os)
              rw [HTl.out, hy1] at HC8
              clear hg7 HX7 HO7 HM7 b0 b1 b2
              go_wp2_with fail
              refine HC8.out.mono ?_
              rintro e w8 ⟨rfl, hs8⟩
              have HS := hide hs8
              have HTl := hide (show (T ++ [os]).length = tl + 1 by rw [List.length_append, HTl0.out]; rfl)
              clear hs8 HC8 HS7 g1 g2
              have HCn := hide (P_counts HS.out)
              obtain ⟨ll, hll⟩ : ∃ ll, (L).length = ll := ⟨_, rfl⟩
              have HLL := hide hll
              rw [hll] at HCn
              clear hll HS
              go_wp2_with fail
              refine HCn.out.mono ?_
              rintro e w20 ⟨rfl, hs20⟩
              obtain ⟨A20, m20, c20, hm20, d0, d1, d2, -⟩ := P_cells hs20
              rw [HLL.out] at hm20
              rw [hm20] at d0
              have HCl := hide (P_list hs20)
              clear hs20 HCn hm20
              go_wp2_with fail
              refine HCl.out.mono ?_
              rintro e w21 ⟨v21, rfl, hv21, hs21⟩
              obtain ⟨A21, c21, rfl, _, _, hsv21⟩ := hv21.form
              obtain ⟨_, _, -, hrow21⟩ := P_form hs21
              rw [HTl.out] at hrow21 ⊢
              have HSm := hide (Same3_any w21 (T ++ [os]) (tl + 1) A21 A7 c21 c7 HTl.out (by have := HTl.out; have := HTk.out; have := Hn.out; omega) hsv21 hrow21.src)
              have HS21 := hide hs21
              clear hv21 hsv21 hs21 hrow21 HCl d0 d1 d2
              go_wp2_with fail
              refine HSm.out.mono ?_
              rintro e w22 ⟨rfl, hb22⟩
              have HR22 : Hid (PR w1 w1.heap.size w2.heap.size w3.heap.size n (k + 1) (.slice A7 (tl + 1) c7) w22) := ⟨⟨_, _, _, _, P_drop (HS21.out.below hb22), HLk.out, HTk.out⟩, Hlt.out⟩
              clear hb22 HS21 HSm
              go_wp2
              go_roundw
              case rel => exact ⟨k + 1, by go_num, HR22.out⟩
              case measure => have := Hlt.out; simp [intOf]; omega
          · skip
            as_aux_lemma =>
              have HLk := hide (show L.length ≤ k + 1 by have := HLk0.out; omega)
              have HTk := hide (show T.length ≤ k + 1 by have := HTk0.out; omega)
              have hnq : (on == (tl : Int) + 1) = false := by simpa using hin
              have hti : (tl : Int) ≤ 300 := by have := HTk0.out; have := HTl.out; have := Hk300.out; omega
              have HC8 := hide (P_takeN HS6.out on os (by rw [HTl.out]; exact hin))
              rw [HTl.out] at HC8
              clear hin HS6
              go_wp2_with fail
              refine HC8.out.mono ?_
              rintro e w8 ⟨rfl, hs8⟩
              have HS := hide hs8
              clear hs8 HC8 b0 b1 b2
              have HCn := hide (P_counts HS.out)
              obtain ⟨ll, hll⟩ : ∃ ll, (L).length = ll := ⟨_, rfl⟩
              have HLL := hide hll
              rw [hll] at HCn
              clear hll HS
              go_wp2_with fail
              refine HCn.out.mono ?_
              rintro e w20 ⟨rfl, hs20⟩
              obtain ⟨A20, m20, c20, hm20, d0, d1, d2, -⟩ := P_cells hs20
              rw [HLL.out] at hm20
              rw [hm20] at d0
              have HCl := hide (P_list hs20)
              clear hs20 HCn hm20
              go_wp2_with fail
              refine HCl.out.mono ?_
              rintro e w21 ⟨v21, rfl, hv21, hs21⟩
              obtain ⟨A21, c21, rfl, _, _, hsv21⟩ := hv21.form
              obtain ⟨_, _, -, hrow21⟩ := P_form hs21
              rw [HTl.out] at hrow21 ⊢
              have HSm := hide (Same3_any w21 T tl A21 TA c21 tc HTl.out (by have := HTl.out; have := HTk.out; have := Hn.out; omega) hsv21 hrow21.src)
              have HS21 := hide hs21
              clear hv21 hsv21 hs21 hrow21 HCl d0 d1 d2
              go_wp2_with fail
              refine HSm.out.mono ?_
              rintro e w22 ⟨rfl, hb22⟩
              have HR22 : Hid (PR w1 w1.heap.size w2.heap.size w3.heap.size n (k + 1) (.slice TA tl tc) w22) := ⟨⟨_, _, _, _, P_drop (HS21.out.below hb22), HLk.out, HTk.out⟩, Hlt.out⟩
              clear hb22 HS21 HSm
              go_wp2
              go_roundw
              case rel => exact ⟨k + 1, by go_num, HR22.out⟩
              case measure => have := Hlt.out; simp [intOf]; omega
        have q5 : (kind == 5) = false := by simpa using k5
        clear k5
        as_aux_lemma =>
          have HLk := hide (show L.length ≤ k + 1 by have := HLk0.out; omega)
          have HTk := hide (show T.length ≤ k + 1 by have := HTk0.out; omega)
          have HS := HS6
          clear HS6
          have HCn := hide (P_counts HS.out)
          obtain ⟨ll, hll⟩ : ∃ ll, (L).length = ll := ⟨_, rfl⟩
          have HLL := hide hll
          rw [hll] at HCn
          clear hll HS
          go_wp2_with fail
          refine HCn.out.mono ?_
          rintro e w20 ⟨rfl, hs20⟩
          obtain ⟨A20, m20, c20, hm20, d0, d1, d2, -⟩ := P_cells hs20
          rw [HLL.out] at hm20
          rw [hm20] at d0
          have HCl := hide (P_list hs20)
          clear hs20 HCn hm20
          go_wp2_with fail
          refine HCl.out.mono ?_
          rintro e w21 ⟨v21, rfl, hv21, hs21⟩
          obtain ⟨A21, c21, rfl, _, _, hsv21⟩ := hv21.form
          obtain ⟨_, _, -, hrow21⟩ := P_form hs21
          rw [HTl.out] at hrow21 ⊢
          have HSm := hide (Same3_any w21 T tl A21 TA c21 tc HTl.out (by have := HTl.out; have := HTk.out; have := Hn.out; omega) hsv21 hrow21.src)
          have HS21 := hide hs21
          clear hv21 hsv21 hs21 hrow21 HCl d0 d1 d2
          go_wp2_with fail
          refine HSm.out.mono ?_
          rintro e w22 ⟨rfl, hb22⟩
          have HR22 : Hid (PR w1 w1.heap.size w2.heap.size w3.heap.size n (k + 1) (.slice TA tl tc) w22) := ⟨⟨_, _, _, _, P_drop (HS21.out.below hb22), HLk.out, HTk.out⟩, Hlt.out⟩
          clear hb22 HS21 HSm
          go_wp2
          go_roundw
          case rel => exact ⟨k + 1, by go_num, HR22.out⟩
          case measure => have := Hlt.out; simp [intOf]; omega
      · obtain rfl : k = n := by
          have := hpr.out.le
          omega
        obtain ⟨L, nx, a, T, hst, _, _⟩ := hpr.out.ex
        have HBf := hide (HB1.out.trans (hst.bel.mono HB1.out.size))
        clear hpr hst hge
        go_wp2
        go_ret
        exact ⟨rfl, HBf.out⟩

end Go.Proofs.YtabjoalkbobhdaaDoor.Ws
