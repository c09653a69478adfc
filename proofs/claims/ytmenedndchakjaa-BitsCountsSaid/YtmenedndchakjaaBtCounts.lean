/-
  BitsCounts at all slices and numbers: it returns true, and changes nothing that was there.
-/
import Derived.IntWalk
import Derived.Deep.DeepCutAuto
import Derived.Test.YtmenedndchakjaaBtTwo
namespace Go.Proofs.Ytmenedndchakjaa.Bt
open Go.RowKit
open Pk Sm

set_option maxRecDepth 100000 in
set_option maxHeartbeats 2000000 in
theorem Counts_any (A : Option Addr) (xs : List Int) (n c : Nat) (A' : Option Addr) (ys : List Int) (m d : Nat) (x : Int) (w : World) (hx : xs.length = n) (hA : Ints w w.heap.size A xs) (hn : n ≤ maxLen) (hy : ys.length = m) (hA' : Ints w w.heap.size A' ys) (hm : m ≤ maxLen) :
    Calls Try.prog 6 #[.slice A n c, .slice A' m d, .int .i64 x] w fun e w' => e = .returned (.bool true) ∧ Below w.heap.size w w' := by
  replace hn : n ≤ 9223372036854775807 := hn
  replace hm : m ≤ 9223372036854775807 := hm
  have HX := hide hx
  have HY := hide hy
  have HA := hide hA
  have HA' := hide hA'
  clear hx hy hA hA'
  by_cases h100 : 100 < n ∨ 100 < m
  · rcases (by omega : 100 < n ∨ (n ≤ 100 ∧ 100 < m)) with h1 | ⟨h1, h2⟩
    all_goals
      clear h100
      go_enter Try.func6, Try.ntmps6
      go_wp2_with fail
      refine (awake_any w).mono ?_
      rintro e w1 ⟨rfl, hb1⟩
      have z1 := hb1.size
      have HB1 := hide hb1
      clear hb1
      go_wp2_with fail
      refine (awake_any w1).mono ?_
      rintro e w2 ⟨rfl, hb2⟩
      have HB2 := hide (HB1.out.trans (hb2.mono z1))
      clear hb2
      go_wp2
      go_ret
      exact ⟨rfl, HB2.out⟩
  · have h1 : n ≤ 100 := by omega
    have h2 : m ≤ 100 := by omega
    clear h100
    go_enter Try.func6, Try.ntmps6
    go_wp2_with fail
    refine (awake_any w).mono ?_
    rintro e w1 ⟨rfl, hb1⟩
    have z1 := hb1.size
    have HB1 := hide hb1
    have HO1 := hide (Of_any A xs n c w1 HX.out ((HA.out.below hb1).more z1) hn)
    clear hb1
    go_wp2_with fail
    refine HO1.out.mono ?_
    rintro e w2 ⟨rfl, hb2⟩
    have z2 := hb2.size
    have HB2 := hide (HB1.out.trans (hb2.mono z1))
    have HO2 := hide (Of_any A' ys m d w2 HY.out ((HA'.out.below HB2.out).more (by omega)) hm)
    clear hb2 HO1 HB1
    obtain ⟨S, hS⟩ : ∃ S, of xs = S := ⟨_, rfl⟩
    obtain ⟨O, hO⟩ : ∃ O, of ys = O := ⟨_, rfl⟩
    have HS8 : Hid (S.length = 8) := hide (by rw [← hS]; exact of_length _)
    have HO8 : Hid (O.length = 8) := hide (by rw [← hO]; exact of_length _)
    rw [hO] at HO2
    rw [hS]
    clear hS hO
    go_wp2_with fail
    refine HO2.out.mono ?_
    rintro e w3 ⟨rfl, hb3⟩
    have z3 := hb3.size
    have HB3 := hide (HB2.out.trans (hb3.mono (by omega)))
    clear hb3 HO2 HB2
    have HlS : Hid ((bcels S).length = 8) := hide (by rw [bcels_length]; exact HS8.out)
    have HlO : Hid ((bcels O).length = 8) := hide (by rw [bcels_length]; exact HO8.out)
    go_wp2_with (refine wpList_alloc_told rfl 28 rfl _ set_zero ?_)
    intro w4 H4
    have E4 := hide (show Lies w4 w3.heap.size empty by rw [H4.out]; exact lies_new w3 empty)
    have B4 := hide (show Below w.heap.size w w4 by rw [H4.out]; exact HB3.out.alloc (by omega) _)
    have z4 : w3.heap.size < w4.heap.size := E4.out.lt
    clear H4
    go_wp2_with (refine wpList_alloc_told rfl 28 rfl _ set_zero ?_)
    intro w5 H5
    have E5 := hide (show Lies w5 w3.heap.size empty by rw [H5.out]; exact E4.out.alloc _)
    have F5 := hide (show Lies w5 w4.heap.size empty by rw [H5.out]; exact lies_new w4 empty)
    have B5 := hide (show Below w.heap.size w w5 by rw [H5.out]; exact B4.out.alloc (by omega) _)
    have z5 : w4.heap.size < w5.heap.size := F5.out.lt
    clear H5 E4 B4
    go_wp2_with (refine wpList_store_told rfl 28 (.tmp 7) (.tmp 24) rfl w3.heap.size (bcels S).toArray rfl rfl _ E5.out.heap (by rw [set_size, List.size_toArray, HlS.out]) (by rw [List.size_toArray, List.size_toArray, HlS.out, bcels_length, empty_length]) (all_oneCell_toArray (bcels_one _)) ?_)
    intro w6 H6
    have E6 := hide (show Lies w6 w3.heap.size S by rw [H6.out]; exact setRow_heap _ _ _ _ _ _ E5.out.heap)
    have F6 := hide (show Lies w6 w4.heap.size empty by rw [H6.out]; exact (setRow_other _ _ _ _ (by omega)).trans F5.out)
    have B6 := hide (show Below w.heap.size w w6 by rw [H6.out]; exact below_setRow B5.out (by omega) _)
    clear H6 E5 F5 B5
    go_wp2_with (refine wpList_store_told rfl 28 (.tmp 8) (.tmp 26) rfl w4.heap.size (bcels O).toArray rfl rfl _ F6.out.heap (by rw [set_size, List.size_toArray, HlO.out]) (by rw [List.size_toArray, List.size_toArray, HlO.out, bcels_length, empty_length]) (all_oneCell_toArray (bcels_one _)) ?_)
    intro w7 H7
    have HT := hide (show Two w w3.heap.size w4.heap.size S O w7 by
      rw [H7.out]
      exact ⟨(setRow_other _ _ _ _ (by omega)).trans E6.out, setRow_heap _ _ _ _ _ _ F6.out.heap, below_setRow B6.out (by omega) _⟩)
    clear H7 E6 F6 B6 z5 z4 z3 z2 z1 HX HY HA HA'
    go_upto_region 5 with fail
    go_cut [9, 38] (fun m0 v wx => m0 = .int .i64 0 ∧ v = .bool (decide (more S x = 1)) ∧ Two w w3.heap.size w4.heap.size S O wx)
    case first =>
      have HR := hide HT.out.one.range
      go_wp2_with (first | with_reducible refine wpList_load_mid rfl 28 (.tmp 7) rfl w3.heap.size 0 rfl (bcels S) _ HR.out Try.underlying28 rfl (by rw [set_size, HlS.out]) ?_)
      refine (Has_any S HS8.out x w7).mono ?_
      rintro e w8 ⟨rfl, hb8⟩
      have HT8 := hide (HT.out.below hb8)
      clear hb8
      rcases (by omega : x < 0 ∨ 8 ≤ x ∨ (0 ≤ x ∧ x < 8)) with h | h | ⟨h, h'⟩
      · rw [has_out S x (by omega)]
        have Hm : Hid (decide (more S x = 1) = false) := hide (decide_eq_false (by unfold more; rw [if_neg (by omega)]; omega))
        have d1 : decide (0 ≤ x) = false := decide_eq_false (by omega)
        go_wp2
        go_meet
        exact ⟨rfl, by rw [Hm.out], HT8.out⟩
      · rw [has_out S x (by omega)]
        have Hm : Hid (decide (more S x = 1) = false) := hide (decide_eq_false (by unfold more; rw [if_neg (by omega)]; omega))
        have d1 : decide (0 ≤ x) = true := decide_eq_true (by omega)
        have d2 : decide (x < 8) = false := decide_eq_false (by omega)
        go_wp2
        go_meet
        exact ⟨rfl, by rw [Hm.out], HT8.out⟩
      · have d1 : decide (0 ≤ x) = true := decide_eq_true (by omega)
        have d2 : decide (x < 8) = true := decide_eq_true (by omega)
        cases hh : has S x
        · have Hm : Hid (decide (more S x = 1) = true) := hide (decide_eq_true (by unfold more; rw [if_pos ⟨hh, h, h'⟩]))
          clear hh
          go_wp2
          go_meet
          exact ⟨rfl, by rw [Hm.out], HT8.out⟩
        · have Hm : Hid (decide (more S x = 1) = false) := hide (decide_eq_false (by unfold more; rw [if_neg (by rw [hh]; simp)]; omega))
          clear hh
          go_wp2
          go_meet
          exact ⟨rfl, by rw [Hm.out], HT8.out⟩
    case rest =>
      obtain ⟨rfl, rfl, hT⟩ := hcut
      have HT1 := hide hT
      have hM : more S x = 0 ∨ more S x = 1 := by
        unfold more
        split
        · exact Or.inr rfl
        · exact Or.inl rfl
      have HM := hide hM
      clear hT hM HT
      go_upto_if 38 with fail
      go_cut [9] (fun v wy => v = .int .i64 (more S x : Int) ∧ Hid (wc = wy))
      case first =>
        rcases HM.out with h | h
        · have Hh := hide h
          rw [h]
          clear h
          go_wp2
          go_meet
          exact ⟨by rw [Hh.out]; rfl, hide rfl⟩
        · have Hh := hide h
          rw [h]
          clear h
          go_wp2
          go_meet
          exact ⟨by rw [Hh.out]; rfl, hide rfl⟩
      case rest =>
        -- THE LAST REGION
        obtain ⟨rfl, hw⟩ := hcut
        have K0 : Hid (Two w w3.heap.size w4.heap.size S O wc.drew) := hide (by rw [← hw.out]; exact HT1.out.drew)
        have hM := HM.out
        clear hw HT1 HM
        have hS := HS8.out
        have hO := HO8.out
        have l1 := len_orr hS hO
        have l2 := len_put hS x
        have l3 := len_but hS hO
        have l4 := len_le S
        have l5 := len_le (but O S)
        have p1 : (put S x true).length = 8 := by rw [put_length]; exact hS
        obtain ⟨a, ha⟩ : ∃ a : Int, (len S : Int) = a := ⟨_, rfl⟩
        obtain ⟨b, hb⟩ : ∃ b : Int, (len (but O S) : Int) = b := ⟨_, rfl⟩
        obtain ⟨mo, hmo⟩ : ∃ mo : Int, (more S x : Int) = mo := ⟨_, rfl⟩
        obtain ⟨f, hf⟩ : ∃ f : Int, (len (but S O) : Int) = f := ⟨_, rfl⟩
        have HOr := hide (fun W => Or_any S O hS hO W)
        have HLor := hide (fun W => Len_any (orr S O) (by rw [orr_length]; exact hS) (a + b) (by omega) W)
        have HLS := hide (fun W => Len_any S hS a ha W)
        have HBut := hide (fun W => But_any O S hO hS W)
        have HLb := hide (fun W => Len_any (but O S) (by rw [but_length]; exact hO) b hb W)
        have HW := hide (fun W => With_any S hS x W)
        have HLw := hide (fun W => Len_any (put S x true) p1 (a + mo) (by omega) W)
        have HWW := hide (fun W => Without_any (put S x true) p1 x W)
        have HWo := hide (fun W => Without_any S hS x W)
        have HTx := hide (fun W => Text_any S hS W)
        have HBu2 := hide (fun W => But_any S O hS hO W)
        have HLe := hide (fun W => Len_any (but S O) (by rw [but_length]; exact hS) f hf W)
        have hq := fun W => set_eql (put (put S x true) x false) (put S x false) (by rw [put_length]; exact p1) (by rw [put_length]; exact hS) true (decide_eq_true (put_put hS x)) W
        have hg := fun o y z W => set_eqg o y z (put (put S x true) x false) (put S x false) W
        have hts : ((txt S).size : Int) = 8 := by rw [txt_size, hS]; rfl
        have e1 : IntKind.i64.wrap (a + b) = a + b := IntWalk.i64_in _ (by omega)
        have e2 : IntKind.i64.wrap (a + mo) = a + mo := IntWalk.i64_in _ (by omega)
        have d3 : decide (f ≤ a) = true := decide_eq_true (by omega)
        rw [hmo]
        clear l1 l2 l3 l4 l5 ha hb hmo hf hM hS hO p1
        generalize txt S = T at *
        go_wp2
        refine wp_region_held (S := (Two w w3.heap.size w4.heap.size S O)) (by kernel_rfl) ?_
        change wpAnyH _ _ _ _ _ _ _ _ (World.drew _)
        refine wpAnyH_take (i := 0) (oi := ⟨some 39, _, _, _, _, _⟩) (v := val S) rfl (by kernel_rfl) (by kernel_rfl) (by kernel_rfl) (fun _ _ _ h => h) (yields_set (by rfl) (.tmp 7) rfl w3.heap.size rfl S HS8.out (fun w hw => hw.one)) K0.out ?_
        simp only [Act.put, List.setIfInBounds_toArray, List.set_cons_zero, List.set_cons_succ]
        refine wpAnyH_take (i := 1) (oi := ⟨some 40, _, _, _, _, _⟩) (v := val O) rfl (by kernel_rfl) (by kernel_rfl) (by kernel_rfl) (fun _ _ _ h => h) (yields_set (by rfl) (.tmp 8) rfl w4.heap.size rfl O HO8.out (fun w hw => hw.two)) K0.out ?_
        simp only [Act.put, List.setIfInBounds_toArray, List.set_cons_zero, List.set_cons_succ]
        refine wpAnyH_take (i := 4) (oi := ⟨some 43, _, _, _, _, _⟩) (v := val S) rfl (by kernel_rfl) (by kernel_rfl) (by kernel_rfl) (fun _ _ _ h => h) (yields_set (by rfl) (.tmp 7) rfl w3.heap.size rfl S HS8.out (fun w hw => hw.one)) K0.out ?_
        simp only [Act.put, List.setIfInBounds_toArray, List.set_cons_zero, List.set_cons_succ]
        refine wpAnyH_take (i := 6) (oi := ⟨some 45, _, _, _, _, _⟩) (v := val O) rfl (by kernel_rfl) (by kernel_rfl) (by kernel_rfl) (fun _ _ _ h => h) (yields_set (by rfl) (.tmp 8) rfl w4.heap.size rfl O HO8.out (fun w hw => hw.two)) K0.out ?_
        simp only [Act.put, List.setIfInBounds_toArray, List.set_cons_zero, List.set_cons_succ]
        refine wpAnyH_take (i := 7) (oi := ⟨some 46, _, _, _, _, _⟩) (v := val S) rfl (by kernel_rfl) (by kernel_rfl) (by kernel_rfl) (fun _ _ _ h => h) (yields_set (by rfl) (.tmp 7) rfl w3.heap.size rfl S HS8.out (fun w hw => hw.one)) K0.out ?_
        simp only [Act.put, List.setIfInBounds_toArray, List.set_cons_zero, List.set_cons_succ]
        refine wpAnyH_ready (rs := [2]) (by kernel_rfl) (by simp) ?_
        refine AllReadyH.cons (o := ⟨some 41, _, _, _, _, _⟩) rfl (fun K hK => ?_) AllReadyH.nil
        go_simp
        refine (HOr.out _).mono ?_
        rintro r v1 ⟨rfl, hb⟩
        have K1 := hide (K0.out.below hb)
        clear hb
        refine hK.out _ _ K1.out (fun hHeld => ?_)
        clear hK K
        clear hHeld
        refine wpAnyH_ready (rs := [3]) (by kernel_rfl) (by simp) ?_
        refine AllReadyH.cons (o := ⟨some 42, _, _, _, _, _⟩) rfl (fun K hK => ?_) AllReadyH.nil
        go_simp
        refine (HLor.out _).mono ?_
        rintro r v2 ⟨rfl, hb⟩
        have K2 := hide (K1.out.below hb)
        clear hb
        refine hK.out _ _ K2.out (fun hHeld => ?_)
        clear hK K
        clear hHeld
        refine wpAnyH_ready (rs := [5]) (by kernel_rfl) (by simp) ?_
        refine AllReadyH.cons (o := ⟨some 44, _, _, _, _, _⟩) rfl (fun K hK => ?_) AllReadyH.nil
        go_simp
        refine (HLS.out _).mono ?_
        rintro r v3 ⟨rfl, hb⟩
        have K3 := hide (K2.out.below hb)
        clear hb
        refine hK.out _ _ K3.out (fun hHeld => ?_)
        clear hK K
        clear hHeld
        refine wpAnyH_ready (rs := [8]) (by kernel_rfl) (by simp) ?_
        refine AllReadyH.cons (o := ⟨some 47, _, _, _, _, _⟩) rfl (fun K hK => ?_) AllReadyH.nil
        go_simp
        refine (HBut.out _).mono ?_
        rintro r v4 ⟨rfl, hb⟩
        have K4 := hide (K3.out.below hb)
        clear hb
        refine hK.out _ _ K4.out (fun hHeld => ?_)
        clear hK K
        clear hHeld
        refine wpAnyH_ready (rs := [9]) (by kernel_rfl) (by simp) ?_
        refine AllReadyH.cons (o := ⟨some 48, _, _, _, _, _⟩) rfl (fun K hK => ?_) AllReadyH.nil
        go_simp
        refine (HLb.out _).mono ?_
        rintro r v5 ⟨rfl, hb⟩
        have K5 := hide (K4.out.below hb)
        clear hb
        refine hK.out _ _ K5.out (fun hHeld => ?_)
        clear hK K
        clear hHeld
        refine wpAnyH_take (i := 10) (oi := ⟨some 49, _, _, _, _, _⟩) (v := ?_) rfl (by kernel_rfl) (by kernel_rfl) (by kernel_rfl) (fun _ _ _ h => h) (Or.inl ⟨by rfl, ?_⟩) K5.out ?_
        rotate_left 1
        · (intro w hSw; clear hSw; go_simp; try with_reducible rfl)
        simp only [Act.put, List.setIfInBounds_toArray, List.set_cons_zero, List.set_cons_succ]
        refine wpAnyH_take (i := 11) (oi := ⟨some 50, _, _, _, _, _⟩) (v := ?_) rfl (by kernel_rfl) (by kernel_rfl) (by kernel_rfl) (fun _ _ _ h => h) (Or.inl ⟨by rfl, ?_⟩) K5.out ?_
        rotate_left 1
        · (intro w hSw; clear hSw; go_simp; try with_reducible rfl)
        simp only [Act.put, List.setIfInBounds_toArray, List.set_cons_zero, List.set_cons_succ]
        refine wpAnyH_take (i := 12) (oi := ⟨some 51, _, _, _, _, _⟩) (v := ?_) rfl (by kernel_rfl) (by kernel_rfl) (by kernel_rfl) (fun _ _ _ h => h) (Or.inl ⟨by rfl, ?_⟩) K5.out ?_
        rotate_left 1
        · (intro w hSw; clear hSw; go_simp; try with_reducible rfl)
        simp only [Act.put, List.setIfInBounds_toArray, List.set_cons_zero, List.set_cons_succ]
        refine wpAnyH_take (i := 13) (oi := ⟨some 52, _, _, _, _, _⟩) (v := val S) rfl (by kernel_rfl) (by kernel_rfl) (by kernel_rfl) (fun _ _ _ h => h) (yields_set (by rfl) (.tmp 7) rfl w3.heap.size rfl S HS8.out (fun w hw => hw.one)) K5.out ?_
        simp only [Act.put, List.setIfInBounds_toArray, List.set_cons_zero, List.set_cons_succ]
        refine wpAnyH_take (i := 14) (oi := ⟨some 53, _, _, _, _, _⟩) (v := ?_) rfl (by kernel_rfl) (by kernel_rfl) (by kernel_rfl) (fun _ _ _ h => h) (Or.inl ⟨by rfl, ?_⟩) K5.out ?_
        rotate_left 1
        · (intro w hSw; clear hSw; go_simp; try with_reducible rfl)
        simp only [Act.put, List.setIfInBounds_toArray, List.set_cons_zero, List.set_cons_succ]
        refine wpAnyH_take (i := 17) (oi := ⟨some 56, _, _, _, _, _⟩) (v := val S) rfl (by kernel_rfl) (by kernel_rfl) (by kernel_rfl) (fun _ _ _ h => h) (yields_set (by rfl) (.tmp 7) rfl w3.heap.size rfl S HS8.out (fun w hw => hw.one)) K5.out ?_
        simp only [Act.put, List.setIfInBounds_toArray, List.set_cons_zero, List.set_cons_succ]
        refine wpAnyH_take (i := 19) (oi := ⟨some 58, _, _, _, _, _⟩) (v := ?_) rfl (by kernel_rfl) (by kernel_rfl) (by kernel_rfl) (fun _ _ _ h => h) (Or.inl ⟨by rfl, ?_⟩) K5.out ?_
        rotate_left 1
        · (intro w hSw; clear hSw; go_simp; try with_reducible rfl)
        simp only [Act.put, List.setIfInBounds_toArray, List.set_cons_zero, List.set_cons_succ]
        refine wpAnyH_ready (rs := [15]) (by kernel_rfl) (by simp) ?_
        refine AllReadyH.cons (o := ⟨some 54, _, _, _, _, _⟩) rfl (fun K hK => ?_) AllReadyH.nil
        go_simp
        refine (HW.out _).mono ?_
        rintro r v6 ⟨rfl, hb⟩
        have K6 := hide (K5.out.below hb)
        clear hb
        refine hK.out _ _ K6.out (fun hHeld => ?_)
        clear hK K
        clear hHeld
        refine wpAnyH_ready (rs := [16]) (by kernel_rfl) (by simp) ?_
        refine AllReadyH.cons (o := ⟨some 55, _, _, _, _, _⟩) rfl (fun K hK => ?_) AllReadyH.nil
        go_simp
        refine (HLw.out _).mono ?_
        rintro r v7 ⟨rfl, hb⟩
        have K7 := hide (K6.out.below hb)
        clear hb
        refine hK.out _ _ K7.out (fun hHeld => ?_)
        clear hK K
        clear hHeld
        refine wpAnyH_ready (rs := [18]) (by kernel_rfl) (by simp) ?_
        refine AllReadyH.cons (o := ⟨some 57, _, _, _, _, _⟩) rfl (fun K hK => ?_) AllReadyH.nil
        go_simp
        refine (HLS.out _).mono ?_
        rintro r v8 ⟨rfl, hb⟩
        have K8 := hide (K7.out.below hb)
        clear hb
        refine hK.out _ _ K8.out (fun hHeld => ?_)
        clear hK K
        clear hHeld
        refine wpAnyH_take (i := 20) (oi := ⟨some 59, _, _, _, _, _⟩) (v := ?_) rfl (by kernel_rfl) (by kernel_rfl) (by kernel_rfl) (fun _ _ _ h => h) (Or.inl ⟨by rfl, ?_⟩) K8.out ?_
        rotate_left 1
        · (intro w hSw; clear hSw; go_simp; try with_reducible rfl)
        simp only [Act.put, List.setIfInBounds_toArray, List.set_cons_zero, List.set_cons_succ]
        refine wpAnyH_take (i := 21) (oi := ⟨some 60, _, _, _, _, _⟩) (v := ?_) rfl (by kernel_rfl) (by kernel_rfl) (by kernel_rfl) (fun _ _ _ h => h) (Or.inl ⟨by rfl, ?_⟩) K8.out ?_
        rotate_left 1
        · (intro w hSw; clear hSw; go_simp; try with_reducible rfl)
        simp only [Act.put, List.setIfInBounds_toArray, List.set_cons_zero, List.set_cons_succ]
        refine wpAnyH_take (i := 22) (oi := ⟨some 61, _, _, _, _, _⟩) (v := ?_) rfl (by kernel_rfl) (by kernel_rfl) (by kernel_rfl) (fun _ _ _ h => h) (Or.inl ⟨by rfl, ?_⟩) K8.out ?_
        rotate_left 1
        · (intro w hSw; clear hSw; go_simp; try with_reducible rfl)
        simp only [Act.put, List.setIfInBounds_toArray, List.set_cons_zero, List.set_cons_succ]
        refine wpAnyH_take (i := 23) (oi := ⟨some 62, _, _, _, _, _⟩) (v := ?_) rfl (by kernel_rfl) (by kernel_rfl) (by kernel_rfl) (fun _ _ _ h => h) (Or.inl ⟨by rfl, ?_⟩) K8.out ?_
        rotate_left 1
        · (intro w hSw; clear hSw; go_simp; try with_reducible rfl)
        simp only [Act.put, List.setIfInBounds_toArray, List.set_cons_zero, List.set_cons_succ]
        refine wpAnyH_take (i := 24) (oi := ⟨some 63, _, _, _, _, _⟩) (v := val S) rfl (by kernel_rfl) (by kernel_rfl) (by kernel_rfl) (fun _ _ _ h => h) (yields_set (by rfl) (.tmp 7) rfl w3.heap.size rfl S HS8.out (fun w hw => hw.one)) K8.out ?_
        simp only [Act.put, List.setIfInBounds_toArray, List.set_cons_zero, List.set_cons_succ]
        refine wpAnyH_take (i := 25) (oi := ⟨some 64, _, _, _, _, _⟩) (v := ?_) rfl (by kernel_rfl) (by kernel_rfl) (by kernel_rfl) (fun _ _ _ h => h) (Or.inl ⟨by rfl, ?_⟩) K8.out ?_
        rotate_left 1
        · (intro w hSw; clear hSw; go_simp; try with_reducible rfl)
        simp only [Act.put, List.setIfInBounds_toArray, List.set_cons_zero, List.set_cons_succ]
        refine wpAnyH_take (i := 27) (oi := ⟨some 66, _, _, _, _, _⟩) (v := ?_) rfl (by kernel_rfl) (by kernel_rfl) (by kernel_rfl) (fun _ _ _ h => h) (Or.inl ⟨by rfl, ?_⟩) K8.out ?_
        rotate_left 1
        · (intro w hSw; clear hSw; go_simp; try with_reducible rfl)
        simp only [Act.put, List.setIfInBounds_toArray, List.set_cons_zero, List.set_cons_succ]
        refine wpAnyH_take (i := 29) (oi := ⟨some 68, _, _, _, _, _⟩) (v := val S) rfl (by kernel_rfl) (by kernel_rfl) (by kernel_rfl) (fun _ _ _ h => h) (yields_set (by rfl) (.tmp 7) rfl w3.heap.size rfl S HS8.out (fun w hw => hw.one)) K8.out ?_
        simp only [Act.put, List.setIfInBounds_toArray, List.set_cons_zero, List.set_cons_succ]
        refine wpAnyH_take (i := 30) (oi := ⟨some 69, _, _, _, _, _⟩) (v := ?_) rfl (by kernel_rfl) (by kernel_rfl) (by kernel_rfl) (fun _ _ _ h => h) (Or.inl ⟨by rfl, ?_⟩) K8.out ?_
        rotate_left 1
        · (intro w hSw; clear hSw; go_simp; try with_reducible rfl)
        simp only [Act.put, List.setIfInBounds_toArray, List.set_cons_zero, List.set_cons_succ]
        refine wpAnyH_ready (rs := [26]) (by kernel_rfl) (by simp) ?_
        refine AllReadyH.cons (o := ⟨some 65, _, _, _, _, _⟩) rfl (fun K hK => ?_) AllReadyH.nil
        go_simp
        refine (HW.out _).mono ?_
        rintro r v9 ⟨rfl, hb⟩
        have K9 := hide (K8.out.below hb)
        clear hb
        refine hK.out _ _ K9.out (fun hHeld => ?_)
        clear hK K
        clear hHeld
        refine wpAnyH_ready (rs := [28]) (by kernel_rfl) (by simp) ?_
        refine AllReadyH.cons (o := ⟨some 67, _, _, _, _, _⟩) rfl (fun K hK => ?_) AllReadyH.nil
        go_simp
        refine (HWW.out _).mono ?_
        rintro r v10 ⟨rfl, hb⟩
        have K10 := hide (K9.out.below hb)
        clear hb
        refine hK.out _ _ K10.out (fun hHeld => ?_)
        clear hK K
        clear hHeld
        refine wpAnyH_ready (rs := [31]) (by kernel_rfl) (by simp) ?_
        refine AllReadyH.cons (o := ⟨some 70, _, _, _, _, _⟩) rfl (fun K hK => ?_) AllReadyH.nil
        go_simp
        refine (HWo.out _).mono ?_
        rintro r v11 ⟨rfl, hb⟩
        have K11 := hide (K10.out.below hb)
        clear hb
        refine hK.out _ _ K11.out (fun hHeld => ?_)
        clear hK K
        clear hHeld
        refine wpAnyH_take (i := 32) (oi := ⟨some 71, _, _, _, _, _⟩) (v := ?_) rfl (by kernel_rfl) (by kernel_rfl) (by kernel_rfl) (fun _ _ _ h => h) (Or.inl ⟨by rfl, ?_⟩) K11.out ?_
        rotate_left 1
        · (intro w hSw; clear hSw; go_simp; try with_reducible rfl)
        simp only [Act.put, List.setIfInBounds_toArray, List.set_cons_zero, List.set_cons_succ]
        refine wpAnyH_take (i := 33) (oi := ⟨some 72, _, _, _, _, _⟩) (v := ?_) rfl (by kernel_rfl) (by kernel_rfl) (by kernel_rfl) (fun _ _ _ h => h) (Or.inl ⟨by rfl, ?_⟩) K11.out ?_
        rotate_left 1
        · (intro w hSw; clear hSw; go_simp; try with_reducible rfl)
        simp only [Act.put, List.setIfInBounds_toArray, List.set_cons_zero, List.set_cons_succ]
        refine wpAnyH_take (i := 34) (oi := ⟨some 73, _, _, _, _, _⟩) (v := ?_) rfl (by kernel_rfl) (by kernel_rfl) (by kernel_rfl) (fun _ _ _ h => h) (Or.inl ⟨by rfl, ?_⟩) K11.out ?_
        rotate_left 1
        · (intro w hSw; clear hSw; go_simp; try with_reducible rfl)
        simp only [Act.put, List.setIfInBounds_toArray, List.set_cons_zero, List.set_cons_succ]
        refine wpAnyH_take (i := 35) (oi := ⟨some 74, _, _, _, _, _⟩) (v := val S) rfl (by kernel_rfl) (by kernel_rfl) (by kernel_rfl) (fun _ _ _ h => h) (yields_set (by rfl) (.tmp 7) rfl w3.heap.size rfl S HS8.out (fun w hw => hw.one)) K11.out ?_
        simp only [Act.put, List.setIfInBounds_toArray, List.set_cons_zero, List.set_cons_succ]
        refine wpAnyH_ready (rs := [36]) (by kernel_rfl) (by simp) ?_
        refine AllReadyH.cons (o := ⟨some 75, _, _, _, _, _⟩) rfl (fun K hK => ?_) AllReadyH.nil
        go_simp
        refine (HTx.out _).mono ?_
        rintro r v12 ⟨rfl, hb⟩
        have K12 := hide (K11.out.below hb)
        clear hb
        refine hK.out _ _ K12.out (fun hHeld => ?_)
        clear hK K
        clear hHeld
        refine wpAnyH_take (i := 37) (oi := ⟨some 76, _, _, _, _, _⟩) (v := ?_) rfl (by kernel_rfl) (by kernel_rfl) (by kernel_rfl) (fun _ _ _ h => h) (Or.inl ⟨by rfl, ?_⟩) K12.out ?_
        rotate_left 1
        · (intro w hSw; clear hSw; go_simp; try with_reducible rfl)
        simp only [Act.put, List.setIfInBounds_toArray, List.set_cons_zero, List.set_cons_succ]
        refine wpAnyH_take (i := 38) (oi := ⟨some 77, _, _, _, _, _⟩) (v := ?_) rfl (by kernel_rfl) (by kernel_rfl) (by kernel_rfl) (fun _ _ _ h => h) (Or.inl ⟨by rfl, ?_⟩) K12.out ?_
        rotate_left 1
        · (intro w hSw; clear hSw; go_simp; try with_reducible rfl)
        simp only [Act.put, List.setIfInBounds_toArray, List.set_cons_zero, List.set_cons_succ]
        refine wpAnyH_take (i := 39) (oi := ⟨some 78, _, _, _, _, _⟩) (v := ?_) rfl (by kernel_rfl) (by kernel_rfl) (by kernel_rfl) (fun _ _ _ h => h) (Or.inl ⟨by rfl, ?_⟩) K12.out ?_
        rotate_left 1
        · (intro w hSw; clear hSw; go_simp; try with_reducible rfl)
        simp only [Act.put, List.setIfInBounds_toArray, List.set_cons_zero, List.set_cons_succ]
        refine wpAnyH_take (i := 40) (oi := ⟨some 79, _, _, _, _, _⟩) (v := ?_) rfl (by kernel_rfl) (by kernel_rfl) (by kernel_rfl) (fun _ _ _ h => h) (Or.inl ⟨by rfl, ?_⟩) K12.out ?_
        rotate_left 1
        · (intro w hSw; clear hSw; go_simp; try with_reducible rfl)
        simp only [Act.put, List.setIfInBounds_toArray, List.set_cons_zero, List.set_cons_succ]
        refine wpAnyH_take (i := 41) (oi := ⟨some 80, _, _, _, _, _⟩) (v := val S) rfl (by kernel_rfl) (by kernel_rfl) (by kernel_rfl) (fun _ _ _ h => h) (yields_set (by rfl) (.tmp 7) rfl w3.heap.size rfl S HS8.out (fun w hw => hw.one)) K12.out ?_
        simp only [Act.put, List.setIfInBounds_toArray, List.set_cons_zero, List.set_cons_succ]
        refine wpAnyH_take (i := 42) (oi := ⟨some 81, _, _, _, _, _⟩) (v := val O) rfl (by kernel_rfl) (by kernel_rfl) (by kernel_rfl) (fun _ _ _ h => h) (yields_set (by rfl) (.tmp 8) rfl w4.heap.size rfl O HO8.out (fun w hw => hw.two)) K12.out ?_
        simp only [Act.put, List.setIfInBounds_toArray, List.set_cons_zero, List.set_cons_succ]
        refine wpAnyH_take (i := 45) (oi := ⟨some 84, _, _, _, _, _⟩) (v := val S) rfl (by kernel_rfl) (by kernel_rfl) (by kernel_rfl) (fun _ _ _ h => h) (yields_set (by rfl) (.tmp 7) rfl w3.heap.size rfl S HS8.out (fun w hw => hw.one)) K12.out ?_
        simp only [Act.put, List.setIfInBounds_toArray, List.set_cons_zero, List.set_cons_succ]
        refine wpAnyH_ready (rs := [43]) (by kernel_rfl) (by simp) ?_
        refine AllReadyH.cons (o := ⟨some 82, _, _, _, _, _⟩) rfl (fun K hK => ?_) AllReadyH.nil
        go_simp
        refine (HBu2.out _).mono ?_
        rintro r v13 ⟨rfl, hb⟩
        have K13 := hide (K12.out.below hb)
        clear hb
        refine hK.out _ _ K13.out (fun hHeld => ?_)
        clear hK K
        clear hHeld
        refine wpAnyH_ready (rs := [44]) (by kernel_rfl) (by simp) ?_
        refine AllReadyH.cons (o := ⟨some 83, _, _, _, _, _⟩) rfl (fun K hK => ?_) AllReadyH.nil
        go_simp
        refine (HLe.out _).mono ?_
        rintro r v14 ⟨rfl, hb⟩
        have K14 := hide (K13.out.below hb)
        clear hb
        refine hK.out _ _ K14.out (fun hHeld => ?_)
        clear hK K
        clear hHeld
        refine wpAnyH_ready (rs := [46]) (by kernel_rfl) (by simp) ?_
        refine AllReadyH.cons (o := ⟨some 85, _, _, _, _, _⟩) rfl (fun K hK => ?_) AllReadyH.nil
        go_simp
        refine (HLS.out _).mono ?_
        rintro r v15 ⟨rfl, hb⟩
        have K15 := hide (K14.out.below hb)
        clear hb
        refine hK.out _ _ K15.out (fun hHeld => ?_)
        clear hK K
        clear hHeld
        refine wpAnyH_take (i := 47) (oi := ⟨some 86, _, _, _, _, _⟩) (v := ?_) rfl (by kernel_rfl) (by kernel_rfl) (by kernel_rfl) (fun _ _ _ h => h) (Or.inl ⟨by rfl, ?_⟩) K15.out ?_
        rotate_left 1
        · (intro w hSw; clear hSw; go_simp; try with_reducible rfl)
        simp only [Act.put, List.setIfInBounds_toArray, List.set_cons_zero, List.set_cons_succ]
        refine wpAnyH_take (i := 48) (oi := ⟨some 87, _, _, _, _, _⟩) (v := ?_) rfl (by kernel_rfl) (by kernel_rfl) (by kernel_rfl) (fun _ _ _ h => h) (Or.inl ⟨by rfl, ?_⟩) K15.out ?_
        rotate_left 1
        · (intro w hSw; clear hSw; go_simp; try with_reducible rfl)
        simp only [Act.put, List.setIfInBounds_toArray, List.set_cons_zero, List.set_cons_succ]
        refine wpAnyH_take (i := 49) (oi := ⟨some 6, _, _, _, _, _⟩) (v := ?_) rfl (by kernel_rfl) (by kernel_rfl) (by kernel_rfl) (fun _ _ _ h => h) (Or.inl ⟨by rfl, ?_⟩) K15.out ?_
        rotate_left 1
        · (intro w hSw; clear hSw; go_simp; try with_reducible rfl)
        simp only [Act.put, List.setIfInBounds_toArray, List.set_cons_zero, List.set_cons_succ]
        refine wpAnyH_done (by kernel_rfl) ?_ _
        go_wp2
        go_ret
        exact ⟨rfl, K15.out.bel⟩

end Go.Proofs.Ytmenedndchakjaa.Bt
