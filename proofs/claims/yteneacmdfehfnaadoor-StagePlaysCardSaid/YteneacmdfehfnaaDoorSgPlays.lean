/-
  The walk of isobarlaw12.StagePlays: it returns true, at every first number and every script; nothing that was there is changed. Condition: the library's variable errors.errorType holds what the program's own text lays.
-/
import Derived.Deep.CutBlock
import Derived.Test.YteneacmdfehfnaaDoorSgPair
namespace Go.Proofs.YteneacmdfehfnaaDoor.Sg
open Go.RowKit
open Pk Dk Wn Lk Rc Fa

def Both (w1 : World) (p q k : Nat) (Us : List Thg) (w : World) : Prop := ∃ (L : List Rd) (f b : Nat) (m : Int), L.length ≤ k ∧ St w1 (stgT p L f b m :: rstT q L f b m :: Us) w
set_option maxRecDepth 100000 in
set_option maxHeartbeats 16000000 in
theorem Plays_any (first : Int) (A : Option Addr) (n c : Nat) (l : List Oq) (w : World) (hty : Ety w) (hl : l.length = n) (hf : Fits l) (hs : Src w A (ocels l)) :
    Calls Tryd.prog 3 #[.int .i64 first, .slice A n c] w fun e w' => e = .returned (.bool true) ∧ Below w.heap.size w w' := by
  have Hty := hide hty
  have Hl := hide hl
  have Hf := hide hf
  have Hs := hide hs
  clear hty hl hf hs
  go_enter Tryd.func3, Tryd.ntmps3
  go_wp2_with fail
  refine (awake_any w).mono ?_
  rintro e w1 ⟨rfl, hb1⟩
  have HB1 := hide hb1
  clear hb1
  go_wp2_with fail
  refine (few_any A n c l w1 Hl.out (Hs.out.below HB1.out) Hf.out).mono ?_
  rintro e w1' ⟨⟨B1, rfl, hB1⟩, hw1⟩
  subst hw1
  have HF := hide hB1
  clear hB1
  cases B1 with
  | false =>
    go_wp2_with fail
    refine (awake_any w1).mono ?_
    rintro e w2 ⟨rfl, hb2⟩
    have HB := hide (HB1.out.trans (hb2.mono HB1.out.size))
    clear hb2
    go_wp2
    go_ret
    exact ⟨rfl, HB.out⟩
  | true =>
    have Hn := hide (show n ≤ 200 by have := (HF.out.yes).1; have := Hl.out; omega)
    have Hsh := hide (HF.out.yes).2
    have Hs1 := hide (Hs.out.below HB1.out)
    have Hty1 := hide (Ety.below Hty.out HB1.out Hty.out.lt)
    have hni : (n : Int) ≤ 200 := by have := Hn.out; omega
    clear HF Hs Hty
    go_wp2_with fail
    refine (S_new (St.start w1) first).mono ?_
    rintro e w2 ⟨rfl, hst⟩
    have HS := hide (show St w1 [stgT w1.heap.size [] 0 (beg first) 0] w2 from hst)
    generalize w1.heap.size = p at *
    clear hst
    go_wp2_with fail
    refine (R_new HS.out first).mono ?_
    rintro e w3 ⟨rfl, hst⟩
    have HS3 : Hid (Both w1 p w2.heap.size 0 [] w3) := ⟨[], 0, beg first, 0, Nat.le_refl _, hst⟩
    generalize w2.heap.size = q at *
    clear hst HS
    go_wp2_with fail
    go_loopw [35] (fun j wr => ∃ k : Nat, k ≤ n ∧ j = .int .i64 (k : Int) ∧ Hid (Both w1 p q k [] wr)) (fun j _ => n - (intOf j).toNat)
    case atStart => exact ⟨0, Nat.zero_le _, rfl, HS3.out⟩
    case round =>
      clear HS3
      obtain ⟨k, hk, rfl, L, f, b, m, hLk, hst⟩ := hrel
      rcases Nat.lt_or_ge k n with hlt | hge
      · have Hlt := hide hlt
        have hki : (k : Int) < (n : Int) := by omega
        obtain ⟨x, hx⟩ : ∃ x, l[k]? = some x := ⟨_, List.getElem?_eq_getElem (by rw [Hl.out]; exact hlt)⟩
        obtain ⟨g, o, rfl, hgl, ho⟩ := Src.op (Hs1.out.below hst.bel) hx
        have hmem := List.mem_of_getElem? hx
        have hxd := Hsh.out x hmem
        obtain ⟨xk, xn, ⟨rs, rk, rb, rd, rm⟩, xx⟩ := x
        obtain ⟨o0, o1, ⟨o2, o3, o4, o5, o6⟩, o7⟩ := ho
        rw [show o + k * 8 + 2 + 1 = o + k * 8 + 3 by omega] at o3
        rw [show o + k * 8 + 2 + 2 = o + k * 8 + 4 by omega] at o4
        rw [show o + k * 8 + 2 + 3 = o + k * 8 + 5 by omega] at o5
        rw [show o + k * 8 + 2 + 4 = o + k * 8 + 6 by omega] at o6
        simp only at o0 o1 o2 o3 o4 o5 o6 o7 hxd
        have Hxd := hide (show rd.size ≤ 100 from hxd)
        obtain ⟨hfl, hfew, hbb, -⟩ := S_facts hst (i := 0) rfl
        obtain ⟨t, ht⟩ : ∃ t, b + L.length = t := ⟨_, rfl⟩
        have htl : t ≤ 1152921504606846975 := by rw [← ht]; exact hbb
        have Hfl := hide hfl
        have Hfew := hide hfew
        have HLk := hide hLk
        have Ht := hide ht
        have Htl := hide htl
        have e1 : IntKind.i64.wrap ((t : Int) + 1) = (t : Int) + 1 := wrap_id (by omega) (by omega)
        have HO := hide (show St w1 [stgT p L f b m, rstT q L f b m, opT wr.heap.size ⟨xk, xn, ⟨rs, rk, rb, rd, rm⟩, xx⟩] (wr.alloc (.cells #[.int .i64 xk, .int .i64 xn, .int .i64 rs, .int .i64 rk, .int .i64 rb, .string rd, .int .i64 rm, .bool xx] 32)) from St.blk_new hst _ _)
        clear hx hgl hmem hxd hfl hfew hbb ht htl hLk hst hlt hk
        go_upto_if 43 with fail
        generalize wr.heap.size = Bo at *
        go_cut [] (fun wx => Hid (St w1 [stgT p L f b m, rstT q L f b m, opT Bo (Oq.at ⟨xk, xn, ⟨rs, rk, rb, rd, rm⟩, xx⟩ t)] wx))
        case first =>
          clear o0 o1 o2 o3 o4 o5 o6 o7
          generalize World.alloc _ _ = wo at *
          obtain ⟨c0, c1, c2, c3, c4, c5, c6, c7, cf⟩ := O_view HO.out (i := 2) rfl
          cases xx with
          | false =>
            go_wp2
            go_meet
            exact HO.out
          | true =>
            go_wp2_with fail
            refine (R_taken HO.out (i := 1) rfl Ht.out Htl.out).mono ?_
            rintro e w5 ⟨rfl, hst⟩
            obtain ⟨d0, d1, d2, d3, d4, d5, d6, d7, df⟩ := O_view hst (i := 2) rfl
            have df2 := df 2
            have HW := hide (show St w1 [stgT p L f b m, rstT q L f b m, opT Bo (Oq.at ⟨xk, xn, ⟨rs, rk, rb, rd, rm⟩, true⟩ t)] (w5.setCell ⟨Bo, 2, none⟩ (.int .i64 ((t : Int) + 1))) from (St.blk hst (i := 2) rfl).2.2.2 2 (.int .i64 ((t : Int) + 1)))
            clear hst df HO c0 c1 c2 c3 c4 c5 c6 c7 cf
            go_wp2
            go_meet
            exact HW.out
        case rest =>
          clear HO o0 o1 o2 o3 o4 o5 o6 o7
          have HO := hcut
          clear hcut
          obtain ⟨y, hy⟩ : ∃ y, Oq.at ⟨xk, xn, ⟨rs, rk, rb, rd, rm⟩, xx⟩ t = y := ⟨_, rfl⟩
          have Hyd := hide (show y.r.d.size ≤ 9223372036854775807 by rw [← hy, Oq.at_d]; have := Hxd.out; show rd.size ≤ _; omega)
          rw [hy] at HO
          clear hy Hxd
          obtain ⟨yk, yn, ⟨rs, rk, rb, rd, rm⟩, yx⟩ := y
          obtain ⟨c0, c1, c2, c3, c4, c5, c6, c7, cf⟩ := O_view HO.out (i := 2) rfl
          clear cf c7
          simp only at c0 c1 c2 c3 c4 c5 c6
          go_upto_block 2 with fail
          go_cut [] (fun wx => Hid (Both w1 p q (k + 1) [opT Bo ⟨yk, yn, ⟨rs, rk, rb, rd, rm⟩, yx⟩] wx))
          case first =>
            have Hmore := hide (show L.length ≤ k + 1 by have := HLk.out; omega)
            by_cases h1 : yk = 1
            · have g1 : (yk == 1) = true := by simpa using h1
              clear h1
              by_cases hfit : fits ⟨rs, rk, rb, rd, rm⟩ t
              · have Hfit := hide hfit
                clear hfit
                as_aux_lemma =>
                  have hS0 : (fun W : World => W.cell? ⟨Bo, 2, none⟩ = some (.int .i64 rs) ∧ W.cell? ⟨Bo, 3, none⟩ = some (.int .i64 rk) ∧ W.cell? ⟨Bo, 4, none⟩ = some (.int .i64 rb) ∧ W.cell? ⟨Bo, 5, none⟩ = some (.string rd) ∧ W.cell? ⟨Bo, 6, none⟩ = some (.int .i64 rm)) wc.drew := ⟨c2, c3, c4, c5, c6⟩
                  have HOd := hide HO.out.drew
                  clear c0 c1 c2 c3 c4 c5 c6 HO
                  go_wp2_with fail
                  refine wp_region_held (S := (fun W : World => W.cell? ⟨Bo, 2, none⟩ = some (.int .i64 rs) ∧ W.cell? ⟨Bo, 3, none⟩ = some (.int .i64 rk) ∧ W.cell? ⟨Bo, 4, none⟩ = some (.int .i64 rb) ∧ W.cell? ⟨Bo, 5, none⟩ = some (.string rd) ∧ W.cell? ⟨Bo, 6, none⟩ = some (.int .i64 rm))) (by kernel_rfl) ?_
                  change wpAnyH _ _ _ _ _ _ _ _ (World.drew _)
                  refine wpAnyH_take (i := 0) (oi := ⟨some 53, _, _, _, _, _⟩) (v := ?_) rfl (by kernel_rfl) (by kernel_rfl) (by kernel_rfl) (fun _ _ _ h => h) (Or.inl ⟨by rfl, ?_⟩) hS0 ?_
                  rotate_left 1
                  · (intro w hSw; obtain ⟨hSw1, hSw2, hSw3, hSw4, hSw5⟩ := hSw; go_simp; try with_reducible rfl)
                  simp only [Act.put, List.setIfInBounds_toArray, List.set_cons_zero, List.set_cons_succ]
                  refine wpAnyH_take (i := 1) (oi := ⟨some 54, _, _, _, _, _⟩) (v := ?_) rfl (by kernel_rfl) (by kernel_rfl) (by kernel_rfl) (fun _ _ _ h => h) (Or.inl ⟨by rfl, ?_⟩) hS0 ?_
                  rotate_left 1
                  · (intro w hSw; obtain ⟨hSw1, hSw2, hSw3, hSw4, hSw5⟩ := hSw; go_simp; try with_reducible rfl)
                  simp only [Act.put, List.setIfInBounds_toArray, List.set_cons_zero, List.set_cons_succ]
                  refine wpAnyH_take (i := 2) (oi := ⟨some 55, _, _, _, _, _⟩) (v := ?_) rfl (by kernel_rfl) (by kernel_rfl) (by kernel_rfl) (fun _ _ _ h => h) (Or.inl ⟨by rfl, ?_⟩) hS0 ?_
                  rotate_left 1
                  · (intro w hSw; obtain ⟨hSw1, hSw2, hSw3, hSw4, hSw5⟩ := hSw; go_simp; try with_reducible rfl)
                  simp only [Act.put, List.setIfInBounds_toArray, List.set_cons_zero, List.set_cons_succ]
                  refine wpAnyH_take (i := 4) (oi := ⟨some 57, _, _, _, _, _⟩) (v := ?_) rfl (by kernel_rfl) (by kernel_rfl) (by kernel_rfl) (fun _ _ _ h => h) (Or.inl ⟨by rfl, ?_⟩) hS0 ?_
                  rotate_left 1
                  · (intro w hSw; obtain ⟨hSw1, hSw2, hSw3, hSw4, hSw5⟩ := hSw; go_simp; try with_reducible rfl)
                  simp only [Act.put, List.setIfInBounds_toArray, List.set_cons_zero, List.set_cons_succ]
                  refine wpAnyH_take (i := 5) (oi := ⟨some 58, _, _, _, _, _⟩) (v := ?_) rfl (by kernel_rfl) (by kernel_rfl) (by kernel_rfl) (fun _ _ _ h => h) (Or.inl ⟨by rfl, ?_⟩) hS0 ?_
                  rotate_left 1
                  · (intro w hSw; obtain ⟨hSw1, hSw2, hSw3, hSw4, hSw5⟩ := hSw; go_simp; try with_reducible rfl)
                  simp only [Act.put, List.setIfInBounds_toArray, List.set_cons_zero, List.set_cons_succ]
                  refine wpAnyH_take (i := 6) (oi := ⟨some 59, _, _, _, _, _⟩) (v := ?_) rfl (by kernel_rfl) (by kernel_rfl) (by kernel_rfl) (fun _ _ _ h => h) (Or.inl ⟨by rfl, ?_⟩) hS0 ?_
                  rotate_left 1
                  · (intro w hSw; obtain ⟨hSw1, hSw2, hSw3, hSw4, hSw5⟩ := hSw; go_simp; try with_reducible rfl)
                  simp only [Act.put, List.setIfInBounds_toArray, List.set_cons_zero, List.set_cons_succ]
                  refine wpAnyH_ready (rs := [3]) (by kernel_rfl) (by simp) ?_
                  refine AllReadyH.cons (o := ⟨some 56, _, _, _, _, _⟩) rfl (fun K hK => ?_) AllReadyH.nil
                  go_simp
                  refine (S_take HOd.out (i := 0) rfl ⟨rs, rk, rb, rd, rm⟩ Hyd.out Ht.out Hfit.out (by have := Hmore.out; have := Hlt.out; have := Hn.out; omega)).mono ?_
                  rintro e w5 ⟨rfl, hst⟩
                  have hst5 : St w1 [stgT p (L ++ [⟨rs, rk, rb, rd, rm⟩]) f b m, rstT q L f b m, opT Bo ⟨yk, yn, ⟨rs, rk, rb, rd, rm⟩, yx⟩] w5 := hst
                  have HO5 := hide hst5
                  obtain ⟨z0, z1, z2, z3, z4, z5, z6, z7, _⟩ := O_view hst5 (i := 2) rfl
                  have hS5 : (fun W : World => W.cell? ⟨Bo, 2, none⟩ = some (.int .i64 rs) ∧ W.cell? ⟨Bo, 3, none⟩ = some (.int .i64 rk) ∧ W.cell? ⟨Bo, 4, none⟩ = some (.int .i64 rb) ∧ W.cell? ⟨Bo, 5, none⟩ = some (.string rd) ∧ W.cell? ⟨Bo, 6, none⟩ = some (.int .i64 rm)) _ := ⟨z2, z3, z4, z5, z6⟩
                  clear z0 z1 z2 z3 z4 z5 z6 z7
                  clear hst hst5
                  refine hK.out _ _ hS5 (fun hHeld => ?_)
                  clear hK K
                  clear hHeld
                  refine wpAnyH_ready (rs := [7]) (by kernel_rfl) (by simp) ?_
                  refine AllReadyH.cons (o := ⟨some 60, _, _, _, _, _⟩) rfl (fun K hK => ?_) AllReadyH.nil
                  go_simp
                  refine (R_take HO5.out (i := 1) rfl ⟨rs, rk, rb, rd, rm⟩ Hyd.out Ht.out Htl.out Hfit.out (by have := Hmore.out; have := Hlt.out; have := Hn.out; omega)).mono ?_
                  rintro e w6 ⟨rfl, hst⟩
                  have hst6 : St w1 [stgT p (L ++ [⟨rs, rk, rb, rd, rm⟩]) f b m, rstT q (L ++ [⟨rs, rk, rb, rd, rm⟩]) f b m, opT Bo ⟨yk, yn, ⟨rs, rk, rb, rd, rm⟩, yx⟩] w6 := hst
                  have HO6 := hide hst6
                  obtain ⟨z0, z1, z2, z3, z4, z5, z6, z7, _⟩ := O_view hst6 (i := 2) rfl
                  have hS6 : (fun W : World => W.cell? ⟨Bo, 2, none⟩ = some (.int .i64 rs) ∧ W.cell? ⟨Bo, 3, none⟩ = some (.int .i64 rk) ∧ W.cell? ⟨Bo, 4, none⟩ = some (.int .i64 rb) ∧ W.cell? ⟨Bo, 5, none⟩ = some (.string rd) ∧ W.cell? ⟨Bo, 6, none⟩ = some (.int .i64 rm)) _ := ⟨z2, z3, z4, z5, z6⟩
                  clear z0 z1 z2 z3 z4 z5 z6 z7
                  clear hst hst6
                  refine hK.out _ _ hS6 (fun hHeld => ?_)
                  clear hK K
                  clear hHeld
                  refine wpAnyH_take (i := 8) (oi := ⟨some 61, _, _, _, _, _⟩) (v := ?_) rfl (by kernel_rfl) (by kernel_rfl) (by kernel_rfl) (fun _ _ _ h => h) (Or.inl ⟨by rfl, ?_⟩) hS6 ?_
                  rotate_left 1
                  · (intro w hSw; obtain ⟨hSw1, hSw2, hSw3, hSw4, hSw5⟩ := hSw; go_simp; try with_reducible rfl)
                  simp only [Act.put, List.setIfInBounds_toArray, List.set_cons_zero, List.set_cons_succ]
                  refine wpAnyH_done (by kernel_rfl) ?_ _
                  clear hS0 hS5 hS6 HOd HO5
                  have HE : Hid (Both w1 p q (k + 1) [opT Bo ⟨yk, yn, ⟨rs, rk, rb, rd, rm⟩, yx⟩] w6) := ⟨L ++ [⟨rs, rk, rb, rd, rm⟩], f, b, m, by rw [List.length_append]; have := HLk.out; simp; omega, HO6.out⟩
                  clear HO6
                  go_wp2
                  go_meet
                  exact HE.out
              · have Hfit := hide hfit
                clear hfit
                as_aux_lemma =>
                  have hS0 : (fun W : World => W.cell? ⟨Bo, 2, none⟩ = some (.int .i64 rs) ∧ W.cell? ⟨Bo, 3, none⟩ = some (.int .i64 rk) ∧ W.cell? ⟨Bo, 4, none⟩ = some (.int .i64 rb) ∧ W.cell? ⟨Bo, 5, none⟩ = some (.string rd) ∧ W.cell? ⟨Bo, 6, none⟩ = some (.int .i64 rm)) wc.drew := ⟨c2, c3, c4, c5, c6⟩
                  have HOd := hide HO.out.drew
                  clear c0 c1 c2 c3 c4 c5 c6 HO
                  go_wp2_with fail
                  refine wp_region_held (S := (fun W : World => W.cell? ⟨Bo, 2, none⟩ = some (.int .i64 rs) ∧ W.cell? ⟨Bo, 3, none⟩ = some (.int .i64 rk) ∧ W.cell? ⟨Bo, 4, none⟩ = some (.int .i64 rb) ∧ W.cell? ⟨Bo, 5, none⟩ = some (.string rd) ∧ W.cell? ⟨Bo, 6, none⟩ = some (.int .i64 rm))) (by kernel_rfl) ?_
                  change wpAnyH _ _ _ _ _ _ _ _ (World.drew _)
                  refine wpAnyH_take (i := 0) (oi := ⟨some 53, _, _, _, _, _⟩) (v := ?_) rfl (by kernel_rfl) (by kernel_rfl) (by kernel_rfl) (fun _ _ _ h => h) (Or.inl ⟨by rfl, ?_⟩) hS0 ?_
                  rotate_left 1
                  · (intro w hSw; obtain ⟨hSw1, hSw2, hSw3, hSw4, hSw5⟩ := hSw; go_simp; try with_reducible rfl)
                  simp only [Act.put, List.setIfInBounds_toArray, List.set_cons_zero, List.set_cons_succ]
                  refine wpAnyH_take (i := 1) (oi := ⟨some 54, _, _, _, _, _⟩) (v := ?_) rfl (by kernel_rfl) (by kernel_rfl) (by kernel_rfl) (fun _ _ _ h => h) (Or.inl ⟨by rfl, ?_⟩) hS0 ?_
                  rotate_left 1
                  · (intro w hSw; obtain ⟨hSw1, hSw2, hSw3, hSw4, hSw5⟩ := hSw; go_simp; try with_reducible rfl)
                  simp only [Act.put, List.setIfInBounds_toArray, List.set_cons_zero, List.set_cons_succ]
                  refine wpAnyH_take (i := 2) (oi := ⟨some 55, _, _, _, _, _⟩) (v := ?_) rfl (by kernel_rfl) (by kernel_rfl) (by kernel_rfl) (fun _ _ _ h => h) (Or.inl ⟨by rfl, ?_⟩) hS0 ?_
                  rotate_left 1
                  · (intro w hSw; obtain ⟨hSw1, hSw2, hSw3, hSw4, hSw5⟩ := hSw; go_simp; try with_reducible rfl)
                  simp only [Act.put, List.setIfInBounds_toArray, List.set_cons_zero, List.set_cons_succ]
                  refine wpAnyH_take (i := 4) (oi := ⟨some 57, _, _, _, _, _⟩) (v := ?_) rfl (by kernel_rfl) (by kernel_rfl) (by kernel_rfl) (fun _ _ _ h => h) (Or.inl ⟨by rfl, ?_⟩) hS0 ?_
                  rotate_left 1
                  · (intro w hSw; obtain ⟨hSw1, hSw2, hSw3, hSw4, hSw5⟩ := hSw; go_simp; try with_reducible rfl)
                  simp only [Act.put, List.setIfInBounds_toArray, List.set_cons_zero, List.set_cons_succ]
                  refine wpAnyH_take (i := 5) (oi := ⟨some 58, _, _, _, _, _⟩) (v := ?_) rfl (by kernel_rfl) (by kernel_rfl) (by kernel_rfl) (fun _ _ _ h => h) (Or.inl ⟨by rfl, ?_⟩) hS0 ?_
                  rotate_left 1
                  · (intro w hSw; obtain ⟨hSw1, hSw2, hSw3, hSw4, hSw5⟩ := hSw; go_simp; try with_reducible rfl)
                  simp only [Act.put, List.setIfInBounds_toArray, List.set_cons_zero, List.set_cons_succ]
                  refine wpAnyH_take (i := 6) (oi := ⟨some 59, _, _, _, _, _⟩) (v := ?_) rfl (by kernel_rfl) (by kernel_rfl) (by kernel_rfl) (fun _ _ _ h => h) (Or.inl ⟨by rfl, ?_⟩) hS0 ?_
                  rotate_left 1
                  · (intro w hSw; obtain ⟨hSw1, hSw2, hSw3, hSw4, hSw5⟩ := hSw; go_simp; try with_reducible rfl)
                  simp only [Act.put, List.setIfInBounds_toArray, List.set_cons_zero, List.set_cons_succ]
                  refine wpAnyH_ready (rs := [3]) (by kernel_rfl) (by simp) ?_
                  refine AllReadyH.cons (o := ⟨some 56, _, _, _, _, _⟩) rfl (fun K hK => ?_) AllReadyH.nil
                  go_simp
                  refine (S_refuse HOd.out (i := 0) rfl ⟨rs, rk, rb, rd, rm⟩ Hyd.out Ht.out Hfit.out).mono ?_
                  rintro e w5 ⟨rfl, hst⟩
                  have HO5 := hide hst
                  obtain ⟨z0, z1, z2, z3, z4, z5, z6, z7, _⟩ := O_view hst (i := 2) rfl
                  have hS5 : (fun W : World => W.cell? ⟨Bo, 2, none⟩ = some (.int .i64 rs) ∧ W.cell? ⟨Bo, 3, none⟩ = some (.int .i64 rk) ∧ W.cell? ⟨Bo, 4, none⟩ = some (.int .i64 rb) ∧ W.cell? ⟨Bo, 5, none⟩ = some (.string rd) ∧ W.cell? ⟨Bo, 6, none⟩ = some (.int .i64 rm)) _ := ⟨z2, z3, z4, z5, z6⟩
                  clear z0 z1 z2 z3 z4 z5 z6 z7
                  clear hst
                  refine hK.out _ _ hS5 (fun hHeld => ?_)
                  clear hK K
                  clear hHeld
                  refine wpAnyH_ready (rs := [7]) (by kernel_rfl) (by simp) ?_
                  refine AllReadyH.cons (o := ⟨some 60, _, _, _, _, _⟩) rfl (fun K hK => ?_) AllReadyH.nil
                  go_simp
                  refine (R_refuse HO5.out (i := 1) rfl ⟨rs, rk, rb, rd, rm⟩ Hyd.out Ht.out Htl.out Hfit.out).mono ?_
                  rintro e w6 ⟨rfl, hst⟩
                  have HO6 := hide hst
                  obtain ⟨z0, z1, z2, z3, z4, z5, z6, z7, _⟩ := O_view hst (i := 2) rfl
                  have hS6 : (fun W : World => W.cell? ⟨Bo, 2, none⟩ = some (.int .i64 rs) ∧ W.cell? ⟨Bo, 3, none⟩ = some (.int .i64 rk) ∧ W.cell? ⟨Bo, 4, none⟩ = some (.int .i64 rb) ∧ W.cell? ⟨Bo, 5, none⟩ = some (.string rd) ∧ W.cell? ⟨Bo, 6, none⟩ = some (.int .i64 rm)) _ := ⟨z2, z3, z4, z5, z6⟩
                  clear z0 z1 z2 z3 z4 z5 z6 z7
                  clear hst
                  refine hK.out _ _ hS6 (fun hHeld => ?_)
                  clear hK K
                  clear hHeld
                  refine wpAnyH_take (i := 8) (oi := ⟨some 61, _, _, _, _, _⟩) (v := ?_) rfl (by kernel_rfl) (by kernel_rfl) (by kernel_rfl) (fun _ _ _ h => h) (Or.inl ⟨by rfl, ?_⟩) hS6 ?_
                  rotate_left 1
                  · (intro w hSw; obtain ⟨hSw1, hSw2, hSw3, hSw4, hSw5⟩ := hSw; go_simp; try with_reducible rfl)
                  simp only [Act.put, List.setIfInBounds_toArray, List.set_cons_zero, List.set_cons_succ]
                  refine wpAnyH_done (by kernel_rfl) ?_ _
                  clear hS0 hS5 hS6 HOd HO5
                  have HE : Hid (Both w1 p q (k + 1) [opT Bo ⟨yk, yn, ⟨rs, rk, rb, rd, rm⟩, yx⟩] w6) := ⟨L, f, b, m, Hmore.out, HO6.out⟩
                  clear HO6
                  go_wp2
                  go_meet
                  exact HE.out
            by_cases h2 : yk = 2
            · have g1 : (yk == 1) = false := by simpa using h1
              have g2 : (yk == 2) = true := by simpa using h2
              clear h1 h2
              as_aux_lemma =>
                go_wp2_with fail
                refine (S_flush HO.out (i := 0) rfl).mono ?_
                rintro e w5 ⟨rfl, hst⟩
                have HO5 := hide (show St w1 [stgT p L L.length b m, rstT q L f b m, opT Bo ⟨yk, yn, ⟨rs, rk, rb, rd, rm⟩, yx⟩] w5 from hst)
                obtain ⟨RA, rn, rc, hrn, _, _, _, v0, v1, v2, v3, vf, hset, _⟩ := R_view HO5.out (i := 1) rfl
                have vf1 := vf 1
                have HE : Hid (Both w1 p q (k + 1) [opT Bo ⟨yk, yn, ⟨rs, rk, rb, rd, rm⟩, yx⟩] (w5.setCell ⟨q, 1, none⟩ (.int .i64 (rn : Int)))) := ⟨L, L.length, b, m, Hmore.out, by have h := hset rn; rw [hrn] at h ⊢; exact h⟩
                clear hst HO hset vf hrn c0 c1 c2 c3 c4 c5 c6
                go_wp2
                go_meet
                exact HE.out
            by_cases h3 : yk = 3
            · have g1 : (yk == 1) = false := by simpa using h1
              have g2 : (yk == 2) = false := by simpa using h2
              have g3 : (yk == 3) = true := by simpa using h3
              clear h1 h2 h3
              as_aux_lemma =>
                obtain ⟨z, hz⟩ : ∃ z, left yn f L.length = z := ⟨_, rfl⟩
                have Hz := hide hz
                clear hz
                go_wp2_with fail
                refine (S_crash HO.out (i := 0) rfl yn Hz.out).mono ?_
                rintro e w5 ⟨rfl, hst⟩
                have HO5 := hide (show St w1 [stgT p (L.take z) z b m, rstT q L f b m, opT Bo ⟨yk, yn, ⟨rs, rk, rb, rd, rm⟩, yx⟩] w5 from hst)
                obtain ⟨z0, z1, z2, z3, z4, z5, z6, z7, _⟩ := O_view HO5.out (i := 2) rfl
                clear hst HO c0 c1 c2 c3 c4 c5 c6
                go_wp2_with fail
                refine (R_crash HO5.out (i := 1) rfl yn Hfl.out Hfew.out Hz.out).mono ?_
                rintro e w6 ⟨rfl, hst⟩
                have HE : Hid (Both w1 p q (k + 1) [opT Bo ⟨yk, yn, ⟨rs, rk, rb, rd, rm⟩, yx⟩] w6) := ⟨L.take z, z, b, m, by rw [List.length_take]; have := HLk.out; omega, hst⟩
                clear hst HO5
                go_wp2
                go_meet
                exact HE.out
            by_cases h4 : yk = 4
            · have g1 : (yk == 1) = false := by simpa using h1
              have g2 : (yk == 2) = false := by simpa using h2
              have g3 : (yk == 3) = false := by simpa using h3
              have g4 : (yk == 4) = true := by simpa using h4
              clear h1 h2 h3 h4
              obtain ⟨j, hj⟩ : ∃ j, reach yn (L.take f) = j := ⟨_, rfl⟩
              have Hj := hide hj
              clear hj
              by_cases h0 : j = 0
              · subst h0
                as_aux_lemma =>
                  have HJ : Hid (reach yn (L.take f) = 0) := Hj.out
                  go_wp2_with fail
                  refine (S_upto_none HO.out (i := 0) rfl yn HJ.out).mono ?_
                  rintro e w5 ⟨rfl, hst⟩
                  have HO5 := hide hst
                  obtain ⟨z0, z1, z2, z3, z4, z5, z6, z7, _⟩ := O_view HO5.out (i := 2) rfl
                  clear hst HO c0 c1 c2 c3 c4 c5 c6
                  go_wp2_with fail
                  refine (R_upto HO5.out (i := 1) rfl yn Hfl.out Hfew.out HJ.out (z := -1) rfl).mono ?_
                  rintro e w6 ⟨rfl, hst⟩
                  have HO6 := hide hst
                  obtain ⟨RA, rn, rc, hrn, hrc, hrm, _, v0, v1, v2, v3, vf, _, _⟩ := R_view HO6.out (i := 1) rfl
                  have e2 : rc ≤ 9223372036854775807 := by unfold maxLen at hrm; omega
                  have HC := hide (SameR_any w6 [] 0 none RA 0 rc rfl (by decide) (Lk.Src.none _ _) (Lk.Src.none _ _))
                  clear hst HO5 vf z0 z1 z2 z3 z4 z5 z6 z7 hrn
                  go_wp2_with fail
                  refine HC.out.mono ?_
                  rintro e w7 ⟨rfl, hb7⟩
                  have HE : Hid (Both w1 p q (k + 1) [opT Bo ⟨yk, yn, ⟨rs, rk, rb, rd, rm⟩, yx⟩] w7) := ⟨L, f, b, m, Hmore.out, HO6.out.below hb7⟩
                  clear hb7 HO6 HC
                  go_wp2
                  go_meet
                  exact HE.out
              · have Hj0 := hide (show 0 < j by omega)
                clear h0
                as_aux_lemma =>
                  have HJ : Hid (reach yn (L.take f) = j) := Hj.out
                  go_wp2_with fail
                  refine (S_upto HO.out (i := 0) rfl yn HJ.out Hj0.out).mono ?_
                  rintro e w5 ⟨UA, uc, rfl, hu1, hu2, hst⟩
                  have HO5 := hide (show St w1 [stgT p L f b m, rstT q L f b m, opT Bo ⟨yk, yn, ⟨rs, rk, rb, rd, rm⟩, yx⟩, rowT 30 5 (.slice UA j uc) j (rcels (L.take j))] w5 from hst)
                  obtain ⟨z0, z1, z2, z3, z4, z5, z6, z7, _⟩ := O_view HO5.out (i := 2) rfl
                  have Hjf := hide (show j ≤ L.length by
                    have := reach_le yn (L.take f)
                    rw [HJ.out, List.length_take] at this
                    omega)
                  have hji : (0 : Int) ≤ (j : Int) := by omega
                  have hji2 : (j : Int) ≤ 200 := by have := Hjf.out; have := HLk.out; have := Hlt.out; have := Hn.out; omega
                  clear hst HO c0 c1 c2 c3 c4 c5 c6 hu1 hu2
                  go_wp2_with fail
                  refine (R_upto HO5.out (i := 1) rfl yn Hfl.out Hfew.out HJ.out (z := (j : Int)) (by rw [if_neg (by have := Hj0.out; omega)])).mono ?_
                  rintro e w6 ⟨rfl, hst⟩
                  have HO6 := hide hst
                  obtain ⟨RA, rn, rc, hrn, hrc, hrm, hrs, v0, v1, v2, v3, vf, _, _⟩ := R_view HO6.out (i := 1) rfl
                  have e2 : rc ≤ 9223372036854775807 := by unfold maxLen at hrm; omega
                  have e3 : (j : Int) ≤ (rc : Int) := by have := Hjf.out; omega
                  have e4 : j ≤ rc := by have := Hjf.out; omega
                  have e5 : max (j : Int) 0 = (j : Int) := by omega
                  have HC := hide (SameR_any w6 (L.take j) j UA RA uc rc (by rw [List.length_take]; have := Hjf.out; omega) (by omega) (Lk.St.src HO6.out (i := 3) rfl) (by rw [← rcels_take]; exact Lk.Src.take hrs _))
                  clear hst HO5 vf z0 z1 z2 z3 z4 z5 z6 z7 hrn hrs
                  go_wp2_with fail
                  refine HC.out.mono ?_
                  rintro e w7 ⟨rfl, hb7⟩
                  have HE : Hid (Both w1 p q (k + 1) [opT Bo ⟨yk, yn, ⟨rs, rk, rb, rd, rm⟩, yx⟩] w7) := ⟨L, f, b, m, Hmore.out, Wn.St.weaken (Ts := [stgT p L f b m, rstT q L f b m, opT Bo ⟨yk, yn, ⟨rs, rk, rb, rd, rm⟩, yx⟩]) (HO6.out.below hb7)⟩
                  clear hb7 HO6 HC
                  go_wp2
                  go_meet
                  exact HE.out
            by_cases h5 : yk = 5
            · have g1 : (yk == 1) = false := by simpa using h1
              have g2 : (yk == 2) = false := by simpa using h2
              have g3 : (yk == 3) = false := by simpa using h3
              have g4 : (yk == 4) = false := by simpa using h4
              have g5 : (yk == 5) = true := by simpa using h5
              clear h1 h2 h3 h4 h5
              obtain ⟨j, hj⟩ : ∃ j, reach yn (L.take f) = j := ⟨_, rfl⟩
              have Hj := hide hj
              clear hj
              by_cases h0 : j = 0
              · subst h0
                as_aux_lemma =>
                  have HJ : Hid (reach yn (L.take f) = 0) := Hj.out
                  go_wp2_with fail
                  refine (S_drop_none HO.out (i := 0) rfl yn HJ.out).mono ?_
                  rintro e w5 ⟨⟨fp, rfl, hfl5⟩, hst⟩
                  have HO5 := hide hst
                  have HF5 := hide hfl5
                  clear hst HO c0 c1 c2 c3 c4 c5 c6 hfl5
                  go_wp2_with fail
                  refine (First_sflt (Ety.below Hty1.out HO5.out.bel Hty1.out.lt) HF5.out).mono ?_
                  rintro e w6 ⟨rfl, hb6⟩
                  have HO6 := hide (HO5.out.below hb6)
                  have HF6 := hide (HF5.out.below (hb6.trans ((Below.refl _ w6).drew.mono hb6.size)))
                  have HO6d := hide HO6.out.drew
                  obtain ⟨z0, z1, z2, z3, z4, z5, z6, z7, _⟩ := O_view HO6d.out (i := 2) rfl
                  have hS0 : (fun W : World => W.cell? ⟨Bo, 1, none⟩ = some (.int .i64 yn) ∧ Below w1.heap.size w1 W) w6.drew := ⟨z1, HO6d.out.bel⟩
                  clear hb6 HO5 HO6 z0 z1 z2 z3 z4 z5 z6 z7
                  go_wp2_with fail
                  refine wp_region_held (S := (fun W : World => W.cell? ⟨Bo, 1, none⟩ = some (.int .i64 yn) ∧ Below w1.heap.size w1 W)) (by kernel_rfl) ?_
                  change wpAnyH _ _ _ _ _ _ _ _ (World.drew _)
                  refine wpAnyH_take (i := 0) (oi := ⟨some 124, _, _, _, _, _⟩) (v := ?_) rfl (by kernel_rfl) (by kernel_rfl) (by kernel_rfl) (fun _ _ _ h => h) (Or.inl ⟨by rfl, ?_⟩) hS0 ?_
                  rotate_left 1
                  · (intro w hSw; obtain ⟨hSw1, hSw2⟩ := hSw; go_simp; try with_reducible rfl)
                  simp only [Act.put, List.setIfInBounds_toArray, List.set_cons_zero, List.set_cons_succ]
                  refine wpAnyH_take (i := 2) (oi := ⟨some 126, _, _, _, _, _⟩) (v := ?_) rfl (by kernel_rfl) (by kernel_rfl) (by kernel_rfl) (fun _ _ _ h => h) (Or.inl ⟨by rfl, ?_⟩) hS0 ?_
                  rotate_left 1
                  · (intro w hSw; obtain ⟨hSw1, hSw2⟩ := hSw; go_simp; try with_reducible rfl)
                  simp only [Act.put, List.setIfInBounds_toArray, List.set_cons_zero, List.set_cons_succ]
                  refine wpAnyH_take (i := 3) (oi := ⟨some 127, _, _, _, _, _⟩) (v := ?_) rfl (by kernel_rfl) (by kernel_rfl) (by kernel_rfl) (fun _ _ _ h => h) (Or.inl ⟨by rfl, ?_⟩) hS0 ?_
                  rotate_left 1
                  · (intro w hSw; obtain ⟨hSw1, hSw2⟩ := hSw; go_simp; try with_reducible rfl)
                  simp only [Act.put, List.setIfInBounds_toArray, List.set_cons_zero, List.set_cons_succ]
                  refine wpAnyH_take (i := 4) (oi := ⟨some 128, _, _, _, _, _⟩) (v := ?_) rfl (by kernel_rfl) (by kernel_rfl) (by kernel_rfl) (fun _ _ _ h => h) (Or.inl ⟨by rfl, ?_⟩) hS0 ?_
                  rotate_left 1
                  · (intro w hSw; obtain ⟨hSw1, hSw2⟩ := hSw; go_simp; try with_reducible rfl)
                  simp only [Act.put, List.setIfInBounds_toArray, List.set_cons_zero, List.set_cons_succ]
                  refine wpAnyH_ready (rs := [1]) (by kernel_rfl) (by simp) ?_
                  refine AllReadyH.cons (o := ⟨some 125, _, _, _, _, _⟩) rfl (fun K hK => ?_) AllReadyH.nil
                  go_simp
                  refine (Code_sflt (Ety.below Hty1.out HO6d.out.bel Hty1.out.lt) HF6.out).mono ?_
                  rintro e w7 ⟨rfl, hb7⟩
                  have HO7 := hide (HO6d.out.below hb7)
                  obtain ⟨z0, z1, z2, z3, z4, z5, z6, z7, _⟩ := O_view HO7.out (i := 2) rfl
                  have hS7 : (fun W : World => W.cell? ⟨Bo, 1, none⟩ = some (.int .i64 yn) ∧ Below w1.heap.size w1 W) w7 := ⟨z1, HO7.out.bel⟩
                  clear z0 z1 z2 z3 z4 z5 z6 z7 hb7
                  refine hK.out _ _ hS7 (fun hHeld => ?_)
                  clear hK K
                  clear hHeld
                  refine wpAnyH_ready (rs := [5]) (by kernel_rfl) (by simp) ?_
                  refine AllReadyH.cons (o := ⟨some 129, _, _, _, _, _⟩) rfl (fun K hK => ?_) AllReadyH.nil
                  go_simp
                  refine (R_drop_none HO7.out (i := 1) rfl yn Hfl.out Hfew.out HJ.out).mono ?_
                  rintro e w8 ⟨rfl, hst⟩
                  have HO8 := hide hst
                  obtain ⟨z0, z1, z2, z3, z4, z5, z6, z7, _⟩ := O_view HO8.out (i := 2) rfl
                  have hS8 : (fun W : World => W.cell? ⟨Bo, 1, none⟩ = some (.int .i64 yn) ∧ Below w1.heap.size w1 W) w8 := ⟨z1, HO8.out.bel⟩
                  clear z0 z1 z2 z3 z4 z5 z6 z7 hst
                  refine hK.out _ _ hS8 (fun hHeld => ?_)
                  clear hK K
                  clear hHeld
                  refine wpAnyH_take (i := 6) (oi := ⟨some 130, _, _, _, _, _⟩) (v := ?_) rfl (by kernel_rfl) (by kernel_rfl) (by kernel_rfl) (fun _ _ _ h => h) (Or.inl ⟨by rfl, ?_⟩) hS8 ?_
                  rotate_left 1
                  · (intro w hSw; obtain ⟨hSw1, hSw2⟩ := hSw; go_simp; try with_reducible rfl)
                  simp only [Act.put, List.setIfInBounds_toArray, List.set_cons_zero, List.set_cons_succ]
                  refine wpAnyH_take (i := 7) (oi := ⟨some 131, _, _, _, _, _⟩) (v := ?_) rfl (by kernel_rfl) (by kernel_rfl) (by kernel_rfl) (fun _ _ _ h => h) (Or.inl ⟨by rfl, ?_⟩) hS8 ?_
                  rotate_left 1
                  · (intro w hSw; obtain ⟨hSw1, hSw2⟩ := hSw; go_simp; try with_reducible rfl)
                  simp only [Act.put, List.setIfInBounds_toArray, List.set_cons_zero, List.set_cons_succ]
                  refine wpAnyH_take (i := 8) (oi := ⟨some 132, _, _, _, _, _⟩) (v := ?_) rfl (by kernel_rfl) (by kernel_rfl) (by kernel_rfl) (fun _ _ _ h => h) (Or.inl ⟨by rfl, ?_⟩) hS8 ?_
                  rotate_left 1
                  · (intro w hSw; obtain ⟨hSw1, hSw2⟩ := hSw; go_simp; try with_reducible rfl)
                  simp only [Act.put, List.setIfInBounds_toArray, List.set_cons_zero, List.set_cons_succ]
                  refine wpAnyH_take (i := 9) (oi := ⟨some 133, _, _, _, _, _⟩) (v := ?_) rfl (by kernel_rfl) (by kernel_rfl) (by kernel_rfl) (fun _ _ _ h => h) (Or.inl ⟨by rfl, ?_⟩) hS8 ?_
                  rotate_left 1
                  · (intro w hSw; obtain ⟨hSw1, hSw2⟩ := hSw; go_simp; try with_reducible rfl)
                  simp only [Act.put, List.setIfInBounds_toArray, List.set_cons_zero, List.set_cons_succ]
                  refine wpAnyH_take (i := 10) (oi := ⟨some 134, _, _, _, _, _⟩) (v := ?_) rfl (by kernel_rfl) (by kernel_rfl) (by kernel_rfl) (fun _ _ _ h => h) (Or.inl ⟨by rfl, ?_⟩) hS8 ?_
                  rotate_left 1
                  · (intro w hSw; obtain ⟨hSw1, hSw2⟩ := hSw; go_simp; try with_reducible rfl)
                  simp only [Act.put, List.setIfInBounds_toArray, List.set_cons_zero, List.set_cons_succ]
                  refine wpAnyH_take (i := 11) (oi := ⟨some 135, _, _, _, _, _⟩) (v := ?_) rfl (by kernel_rfl) (by kernel_rfl) (by kernel_rfl) (fun _ _ _ h => h) (Or.inl ⟨by rfl, ?_⟩) hS8 ?_
                  rotate_left 1
                  · (intro w hSw; obtain ⟨hSw1, hSw2⟩ := hSw; go_simp; try with_reducible rfl)
                  simp only [Act.put, List.setIfInBounds_toArray, List.set_cons_zero, List.set_cons_succ]
                  refine wpAnyH_take (i := 12) (oi := ⟨some 136, _, _, _, _, _⟩) (v := ?_) rfl (by kernel_rfl) (by kernel_rfl) (by kernel_rfl) (fun _ _ _ h => h) (Or.inl ⟨by rfl, ?_⟩) hS8 ?_
                  rotate_left 1
                  · (intro w hSw; obtain ⟨hSw1, hSw2⟩ := hSw; go_simp; try with_reducible rfl)
                  simp only [Act.put, List.setIfInBounds_toArray, List.set_cons_zero, List.set_cons_succ]
                  refine wpAnyH_take (i := 13) (oi := ⟨some 137, _, _, _, _, _⟩) (v := ?_) rfl (by kernel_rfl) (by kernel_rfl) (by kernel_rfl) (fun _ _ _ h => h) (Or.inl ⟨by rfl, ?_⟩) hS8 ?_
                  rotate_left 1
                  · (intro w hSw; obtain ⟨hSw1, hSw2⟩ := hSw; go_simp; try with_reducible rfl)
                  simp only [Act.put, List.setIfInBounds_toArray, List.set_cons_zero, List.set_cons_succ]
                  refine wpAnyH_take (i := 14) (oi := ⟨some 138, _, _, _, _, _⟩) (v := ?_) rfl (by kernel_rfl) (by kernel_rfl) (by kernel_rfl) (fun _ _ _ h => h) (Or.inl ⟨by rfl, ?_⟩) hS8 ?_
                  rotate_left 1
                  · (intro w hSw; obtain ⟨hSw1, hSw2⟩ := hSw; go_simp; try with_reducible rfl)
                  simp only [Act.put, List.setIfInBounds_toArray, List.set_cons_zero, List.set_cons_succ]
                  refine wpAnyH_take (i := 15) (oi := ⟨some 139, _, _, _, _, _⟩) (v := ?_) rfl (by kernel_rfl) (by kernel_rfl) (by kernel_rfl) (fun _ _ _ h => h) (Or.inl ⟨by rfl, ?_⟩) hS8 ?_
                  rotate_left 1
                  · (intro w hSw; obtain ⟨hSw1, hSw2⟩ := hSw; go_simp; try with_reducible rfl)
                  simp only [Act.put, List.setIfInBounds_toArray, List.set_cons_zero, List.set_cons_succ]
                  refine wpAnyH_take (i := 16) (oi := ⟨some 140, _, _, _, _, _⟩) (v := ?_) rfl (by kernel_rfl) (by kernel_rfl) (by kernel_rfl) (fun _ _ _ h => h) (Or.inl ⟨by rfl, ?_⟩) hS8 ?_
                  rotate_left 1
                  · (intro w hSw; obtain ⟨hSw1, hSw2⟩ := hSw; go_simp; try with_reducible rfl)
                  simp only [Act.put, List.setIfInBounds_toArray, List.set_cons_zero, List.set_cons_succ]
                  refine wpAnyH_take (i := 17) (oi := ⟨some 141, _, _, _, _, _⟩) (v := ?_) rfl (by kernel_rfl) (by kernel_rfl) (by kernel_rfl) (fun _ _ _ h => h) (Or.inl ⟨by rfl, ?_⟩) hS8 ?_
                  rotate_left 1
                  · (intro w hSw; obtain ⟨hSw1, hSw2⟩ := hSw; go_simp; try with_reducible rfl)
                  simp only [Act.put, List.setIfInBounds_toArray, List.set_cons_zero, List.set_cons_succ]
                  refine wpAnyH_take (i := 18) (oi := ⟨some 142, _, _, _, _, _⟩) (v := ?_) rfl (by kernel_rfl) (by kernel_rfl) (by kernel_rfl) (fun _ _ _ h => h) (Or.inl ⟨by rfl, ?_⟩) hS8 ?_
                  rotate_left 1
                  · (intro w hSw; obtain ⟨hSw1, hSw2⟩ := hSw; go_simp; try with_reducible rfl)
                  simp only [Act.put, List.setIfInBounds_toArray, List.set_cons_zero, List.set_cons_succ]
                  refine wpAnyH_take (i := 19) (oi := ⟨some 143, _, _, _, _, _⟩) (v := ?_) rfl (by kernel_rfl) (by kernel_rfl) (by kernel_rfl) (fun _ _ _ h => h) (Or.inl ⟨by rfl, ?_⟩) hS8 ?_
                  rotate_left 1
                  · (intro w hSw; obtain ⟨hSw1, hSw2⟩ := hSw; go_simp; try with_reducible rfl)
                  simp only [Act.put, List.setIfInBounds_toArray, List.set_cons_zero, List.set_cons_succ]
                  refine wpAnyH_take (i := 20) (oi := ⟨some 144, _, _, _, _, _⟩) (v := ?_) rfl (by kernel_rfl) (by kernel_rfl) (by kernel_rfl) (fun _ _ _ h => h) (Or.inl ⟨by rfl, ?_⟩) hS8 ?_
                  rotate_left 1
                  · (intro w hSw; obtain ⟨hSw1, hSw2⟩ := hSw; go_simp; try with_reducible rfl)
                  simp only [Act.put, List.setIfInBounds_toArray, List.set_cons_zero, List.set_cons_succ]
                  refine wpAnyH_take (i := 21) (oi := ⟨some 145, _, _, _, _, _⟩) (v := ?_) rfl (by kernel_rfl) (by kernel_rfl) (by kernel_rfl) (fun _ _ _ h => h) (Or.inl ⟨by rfl, ?_⟩) hS8 ?_
                  rotate_left 1
                  · (intro w hSw; obtain ⟨hSw1, hSw2⟩ := hSw; go_simp; try with_reducible rfl)
                  simp only [Act.put, List.setIfInBounds_toArray, List.set_cons_zero, List.set_cons_succ]
                  refine wpAnyH_done (by kernel_rfl) ?_ _
                  have HE : Hid (Both w1 p q (k + 1) [opT Bo ⟨yk, yn, ⟨rs, rk, rb, rd, rm⟩, yx⟩] w8) := ⟨L, f, b, m, Hmore.out, HO8.out⟩
                  clear hS0 hS7 hS8 HO6d HO7 HO8
                  go_wp2
                  go_meet
                  exact HE.out
              · have Hj0 := hide (show 0 < j by omega)
                clear h0
                as_aux_lemma =>
                  have HJ : Hid (reach yn (L.take f) = j) := Hj.out
                  go_wp2_with fail
                  refine (S_drop HO.out (i := 0) rfl yn HJ.out Hj0.out).mono ?_
                  rintro e w5 ⟨rfl, hst⟩
                  have HO5 := hide (show St w1 [stgT p (L.drop j) (f - j) (b + j) yn, rstT q L f b m, opT Bo ⟨yk, yn, ⟨rs, rk, rb, rd, rm⟩, yx⟩] w5 from hst)
                  clear hst HO c0 c1 c2 c3 c4 c5 c6
                  go_wp2_with fail
                  refine (First_none (Ety.below Hty1.out HO5.out.bel Hty1.out.lt)).mono ?_
                  rintro e w6 ⟨rfl, hb6⟩
                  have HO6 := hide (HO5.out.below hb6)
                  have HO6d := hide HO6.out.drew
                  obtain ⟨z0, z1, z2, z3, z4, z5, z6, z7, _⟩ := O_view HO6d.out (i := 2) rfl
                  have hS0 : (fun W : World => W.cell? ⟨Bo, 1, none⟩ = some (.int .i64 yn) ∧ Below w1.heap.size w1 W) w6.drew := ⟨z1, HO6d.out.bel⟩
                  clear hb6 HO5 HO6 z0 z1 z2 z3 z4 z5 z6 z7
                  go_wp2_with fail
                  refine wp_region_held (S := (fun W : World => W.cell? ⟨Bo, 1, none⟩ = some (.int .i64 yn) ∧ Below w1.heap.size w1 W)) (by kernel_rfl) ?_
                  change wpAnyH _ _ _ _ _ _ _ _ (World.drew _)
                  refine wpAnyH_take (i := 0) (oi := ⟨some 124, _, _, _, _, _⟩) (v := ?_) rfl (by kernel_rfl) (by kernel_rfl) (by kernel_rfl) (fun _ _ _ h => h) (Or.inl ⟨by rfl, ?_⟩) hS0 ?_
                  rotate_left 1
                  · (intro w hSw; obtain ⟨hSw1, hSw2⟩ := hSw; go_simp; try with_reducible rfl)
                  simp only [Act.put, List.setIfInBounds_toArray, List.set_cons_zero, List.set_cons_succ]
                  refine wpAnyH_take (i := 2) (oi := ⟨some 126, _, _, _, _, _⟩) (v := ?_) rfl (by kernel_rfl) (by kernel_rfl) (by kernel_rfl) (fun _ _ _ h => h) (Or.inl ⟨by rfl, ?_⟩) hS0 ?_
                  rotate_left 1
                  · (intro w hSw; obtain ⟨hSw1, hSw2⟩ := hSw; go_simp; try with_reducible rfl)
                  simp only [Act.put, List.setIfInBounds_toArray, List.set_cons_zero, List.set_cons_succ]
                  refine wpAnyH_take (i := 3) (oi := ⟨some 127, _, _, _, _, _⟩) (v := ?_) rfl (by kernel_rfl) (by kernel_rfl) (by kernel_rfl) (fun _ _ _ h => h) (Or.inl ⟨by rfl, ?_⟩) hS0 ?_
                  rotate_left 1
                  · (intro w hSw; obtain ⟨hSw1, hSw2⟩ := hSw; go_simp; try with_reducible rfl)
                  simp only [Act.put, List.setIfInBounds_toArray, List.set_cons_zero, List.set_cons_succ]
                  refine wpAnyH_take (i := 4) (oi := ⟨some 128, _, _, _, _, _⟩) (v := ?_) rfl (by kernel_rfl) (by kernel_rfl) (by kernel_rfl) (fun _ _ _ h => h) (Or.inl ⟨by rfl, ?_⟩) hS0 ?_
                  rotate_left 1
                  · (intro w hSw; obtain ⟨hSw1, hSw2⟩ := hSw; go_simp; try with_reducible rfl)
                  simp only [Act.put, List.setIfInBounds_toArray, List.set_cons_zero, List.set_cons_succ]
                  refine wpAnyH_ready (rs := [1]) (by kernel_rfl) (by simp) ?_
                  refine AllReadyH.cons (o := ⟨some 125, _, _, _, _, _⟩) rfl (fun K hK => ?_) AllReadyH.nil
                  go_simp
                  refine (Code_none (Ety.below Hty1.out HO6d.out.bel Hty1.out.lt)).mono ?_
                  rintro e w7 ⟨rfl, hb7⟩
                  have HO7 := hide (HO6d.out.below hb7)
                  obtain ⟨z0, z1, z2, z3, z4, z5, z6, z7, _⟩ := O_view HO7.out (i := 2) rfl
                  have hS7 : (fun W : World => W.cell? ⟨Bo, 1, none⟩ = some (.int .i64 yn) ∧ Below w1.heap.size w1 W) w7 := ⟨z1, HO7.out.bel⟩
                  clear z0 z1 z2 z3 z4 z5 z6 z7 hb7
                  refine hK.out _ _ hS7 (fun hHeld => ?_)
                  clear hK K
                  clear hHeld
                  refine wpAnyH_ready (rs := [5]) (by kernel_rfl) (by simp) ?_
                  refine AllReadyH.cons (o := ⟨some 129, _, _, _, _, _⟩) rfl (fun K hK => ?_) AllReadyH.nil
                  go_simp
                  refine (R_drop HO7.out (i := 1) rfl yn Hfl.out Hfew.out (by rw [Ht.out]; exact Htl.out) HJ.out Hj0.out).mono ?_
                  rintro e w8 ⟨rfl, hst⟩
                  have HO8 := hide (show St w1 [stgT p (L.drop j) (f - j) (b + j) yn, rstT q (L.drop j) (f - j) (b + j) yn, opT Bo ⟨yk, yn, ⟨rs, rk, rb, rd, rm⟩, yx⟩] w8 from hst)
                  obtain ⟨z0, z1, z2, z3, z4, z5, z6, z7, _⟩ := O_view HO8.out (i := 2) rfl
                  have hS8 : (fun W : World => W.cell? ⟨Bo, 1, none⟩ = some (.int .i64 yn) ∧ Below w1.heap.size w1 W) w8 := ⟨z1, HO8.out.bel⟩
                  clear z0 z1 z2 z3 z4 z5 z6 z7 hst
                  refine hK.out _ _ hS8 (fun hHeld => ?_)
                  clear hK K
                  clear hHeld
                  refine wpAnyH_take (i := 6) (oi := ⟨some 130, _, _, _, _, _⟩) (v := ?_) rfl (by kernel_rfl) (by kernel_rfl) (by kernel_rfl) (fun _ _ _ h => h) (Or.inl ⟨by rfl, ?_⟩) hS8 ?_
                  rotate_left 1
                  · (intro w hSw; obtain ⟨hSw1, hSw2⟩ := hSw; go_simp; try with_reducible rfl)
                  simp only [Act.put, List.setIfInBounds_toArray, List.set_cons_zero, List.set_cons_succ]
                  refine wpAnyH_take (i := 7) (oi := ⟨some 131, _, _, _, _, _⟩) (v := ?_) rfl (by kernel_rfl) (by kernel_rfl) (by kernel_rfl) (fun _ _ _ h => h) (Or.inl ⟨by rfl, ?_⟩) hS8 ?_
                  rotate_left 1
                  · (intro w hSw; obtain ⟨hSw1, hSw2⟩ := hSw; go_simp; try with_reducible rfl)
                  simp only [Act.put, List.setIfInBounds_toArray, List.set_cons_zero, List.set_cons_succ]
                  refine wpAnyH_take (i := 8) (oi := ⟨some 132, _, _, _, _, _⟩) (v := ?_) rfl (by kernel_rfl) (by kernel_rfl) (by kernel_rfl) (fun _ _ _ h => h) (Or.inl ⟨by rfl, ?_⟩) hS8 ?_
                  rotate_left 1
                  · (intro w hSw; obtain ⟨hSw1, hSw2⟩ := hSw; go_simp; try with_reducible rfl)
                  simp only [Act.put, List.setIfInBounds_toArray, List.set_cons_zero, List.set_cons_succ]
                  refine wpAnyH_take (i := 9) (oi := ⟨some 133, _, _, _, _, _⟩) (v := ?_) rfl (by kernel_rfl) (by kernel_rfl) (by kernel_rfl) (fun _ _ _ h => h) (Or.inl ⟨by rfl, ?_⟩) hS8 ?_
                  rotate_left 1
                  · (intro w hSw; obtain ⟨hSw1, hSw2⟩ := hSw; go_simp; try with_reducible rfl)
                  simp only [Act.put, List.setIfInBounds_toArray, List.set_cons_zero, List.set_cons_succ]
                  refine wpAnyH_take (i := 10) (oi := ⟨some 134, _, _, _, _, _⟩) (v := undef) rfl (by kernel_rfl) (by kernel_rfl) (by kernel_rfl) (fun _ _ _ h => h) (Or.inr ⟨by rfl, rfl⟩) hS8 ?_
                  simp only [Act.put, List.setIfInBounds_toArray, List.set_cons_zero, List.set_cons_succ]
                  refine wpAnyH_take (i := 11) (oi := ⟨some 135, _, _, _, _, _⟩) (v := undef) rfl (by kernel_rfl) (by kernel_rfl) (by kernel_rfl) (fun _ _ _ h => h) (Or.inr ⟨by rfl, rfl⟩) hS8 ?_
                  simp only [Act.put, List.setIfInBounds_toArray, List.set_cons_zero, List.set_cons_succ]
                  refine wpAnyH_take (i := 12) (oi := ⟨some 136, _, _, _, _, _⟩) (v := undef) rfl (by kernel_rfl) (by kernel_rfl) (by kernel_rfl) (fun _ _ _ h => h) (Or.inr ⟨by rfl, rfl⟩) hS8 ?_
                  simp only [Act.put, List.setIfInBounds_toArray, List.set_cons_zero, List.set_cons_succ]
                  refine wpAnyH_take (i := 13) (oi := ⟨some 137, _, _, _, _, _⟩) (v := undef) rfl (by kernel_rfl) (by kernel_rfl) (by kernel_rfl) (fun _ _ _ h => h) (Or.inr ⟨by rfl, rfl⟩) hS8 ?_
                  simp only [Act.put, List.setIfInBounds_toArray, List.set_cons_zero, List.set_cons_succ]
                  refine wpAnyH_take (i := 14) (oi := ⟨some 138, _, _, _, _, _⟩) (v := ?_) rfl (by kernel_rfl) (by kernel_rfl) (by kernel_rfl) (fun _ _ _ h => h) (Or.inl ⟨by rfl, ?_⟩) hS8 ?_
                  rotate_left 1
                  · (intro w hSw; obtain ⟨hSw1, hSw2⟩ := hSw; go_simp; try with_reducible rfl)
                  simp only [Act.put, List.setIfInBounds_toArray, List.set_cons_zero, List.set_cons_succ]
                  refine wpAnyH_take (i := 15) (oi := ⟨some 139, _, _, _, _, _⟩) (v := ?_) rfl (by kernel_rfl) (by kernel_rfl) (by kernel_rfl) (fun _ _ _ h => h) (Or.inl ⟨by rfl, ?_⟩) hS8 ?_
                  rotate_left 1
                  · (intro w hSw; obtain ⟨hSw1, hSw2⟩ := hSw; go_simp; try with_reducible rfl)
                  simp only [Act.put, List.setIfInBounds_toArray, List.set_cons_zero, List.set_cons_succ]
                  refine wpAnyH_take (i := 16) (oi := ⟨some 140, _, _, _, _, _⟩) (v := ?_) rfl (by kernel_rfl) (by kernel_rfl) (by kernel_rfl) (fun _ _ _ h => h) (Or.inl ⟨by rfl, ?_⟩) hS8 ?_
                  rotate_left 1
                  · (intro w hSw; obtain ⟨hSw1, hSw2⟩ := hSw; go_simp; try with_reducible rfl)
                  simp only [Act.put, List.setIfInBounds_toArray, List.set_cons_zero, List.set_cons_succ]
                  refine wpAnyH_take (i := 17) (oi := ⟨some 141, _, _, _, _, _⟩) (v := ?_) rfl (by kernel_rfl) (by kernel_rfl) (by kernel_rfl) (fun _ _ _ h => h) (Or.inl ⟨by rfl, ?_⟩) hS8 ?_
                  rotate_left 1
                  · (intro w hSw; obtain ⟨hSw1, hSw2⟩ := hSw; go_simp; try with_reducible rfl)
                  simp only [Act.put, List.setIfInBounds_toArray, List.set_cons_zero, List.set_cons_succ]
                  refine wpAnyH_take (i := 18) (oi := ⟨some 142, _, _, _, _, _⟩) (v := ?_) rfl (by kernel_rfl) (by kernel_rfl) (by kernel_rfl) (fun _ _ _ h => h) (Or.inl ⟨by rfl, ?_⟩) hS8 ?_
                  rotate_left 1
                  · (intro w hSw; obtain ⟨hSw1, hSw2⟩ := hSw; go_simp; try with_reducible rfl)
                  simp only [Act.put, List.setIfInBounds_toArray, List.set_cons_zero, List.set_cons_succ]
                  refine wpAnyH_take (i := 19) (oi := ⟨some 143, _, _, _, _, _⟩) (v := ?_) rfl (by kernel_rfl) (by kernel_rfl) (by kernel_rfl) (fun _ _ _ h => h) (Or.inl ⟨by rfl, ?_⟩) hS8 ?_
                  rotate_left 1
                  · (intro w hSw; obtain ⟨hSw1, hSw2⟩ := hSw; go_simp; try with_reducible rfl)
                  simp only [Act.put, List.setIfInBounds_toArray, List.set_cons_zero, List.set_cons_succ]
                  refine wpAnyH_take (i := 20) (oi := ⟨some 144, _, _, _, _, _⟩) (v := ?_) rfl (by kernel_rfl) (by kernel_rfl) (by kernel_rfl) (fun _ _ _ h => h) (Or.inl ⟨by rfl, ?_⟩) hS8 ?_
                  rotate_left 1
                  · (intro w hSw; obtain ⟨hSw1, hSw2⟩ := hSw; go_simp; try with_reducible rfl)
                  simp only [Act.put, List.setIfInBounds_toArray, List.set_cons_zero, List.set_cons_succ]
                  refine wpAnyH_take (i := 21) (oi := ⟨some 145, _, _, _, _, _⟩) (v := ?_) rfl (by kernel_rfl) (by kernel_rfl) (by kernel_rfl) (fun _ _ _ h => h) (Or.inl ⟨by rfl, ?_⟩) hS8 ?_
                  rotate_left 1
                  · (intro w hSw; obtain ⟨hSw1, hSw2⟩ := hSw; go_simp; try with_reducible rfl)
                  simp only [Act.put, List.setIfInBounds_toArray, List.set_cons_zero, List.set_cons_succ]
                  refine wpAnyH_done (by kernel_rfl) ?_ _
                  have HE : Hid (Both w1 p q (k + 1) [opT Bo ⟨yk, yn, ⟨rs, rk, rb, rd, rm⟩, yx⟩] w8) := ⟨L.drop j, f - j, b + j, yn, by rw [List.length_drop]; have := HLk.out; omega, HO8.out⟩
                  clear hS0 hS7 hS8 HO6d HO7 HO8
                  go_wp2
                  go_meet
                  exact HE.out
            by_cases h6 : yk = 6
            · have g1 : (yk == 1) = false := by simpa using h1
              have g2 : (yk == 2) = false := by simpa using h2
              have g3 : (yk == 3) = false := by simpa using h3
              have g4 : (yk == 4) = false := by simpa using h4
              have g5 : (yk == 5) = false := by simpa using h5
              have g6 : (yk == 6) = true := by simpa using h6
              clear h1 h2 h3 h4 h5 h6
              as_aux_lemma =>
                obtain ⟨RA, rn, rc, hrn, _, _, hst0⟩ := R_open HO.out (i := 1) rfl
                have Hrn := hide hrn
                have HOd := hide (show St w1 [stgT p L f b m, rst1 q L f b m (.slice RA rn rc), opT Bo ⟨yk, yn, ⟨rs, rk, rb, rd, rm⟩, yx⟩] wc.drew from St.drew hst0)
                have hS0 : (fun W : World => W.cell? ⟨q, 3, none⟩ = some (.slice RA rn rc)) wc.drew := R_cell HOd.out (i := 1) rfl
                clear hrn hst0 c0 c1 c2 c3 c4 c5 c6 HO
                go_wp2_with fail
                refine wp_region_held (S := (fun W : World => W.cell? ⟨q, 3, none⟩ = some (.slice RA rn rc))) (by kernel_rfl) ?_
                change wpAnyH _ _ _ _ _ _ _ _ (World.drew _)
                refine wpAnyH_take (i := 0) (oi := ⟨some 148, _, _, _, _, _⟩) (v := ?_) rfl (by kernel_rfl) (by kernel_rfl) (by kernel_rfl) (fun _ _ _ h => h) (Or.inl ⟨by rfl, ?_⟩) hS0 ?_
                rotate_left 1
                · (intro w hSw; obtain hSw1 := hSw; go_simp; try with_reducible rfl)
                simp only [Act.put, List.setIfInBounds_toArray, List.set_cons_zero, List.set_cons_succ]
                refine wpAnyH_take (i := 2) (oi := ⟨some 150, _, _, _, _, _⟩) (v := ?_) rfl (by kernel_rfl) (by kernel_rfl) (by kernel_rfl) (fun _ _ _ h => h) (Or.inl ⟨by rfl, ?_⟩) hS0 ?_
                rotate_left 1
                · (intro w hSw; obtain hSw1 := hSw; go_simp; try with_reducible rfl)
                simp only [Act.put, List.setIfInBounds_toArray, List.set_cons_zero, List.set_cons_succ]
                refine wpAnyH_take (i := 3) (oi := ⟨some 151, _, _, _, _, _⟩) (v := ?_) rfl (by kernel_rfl) (by kernel_rfl) (by kernel_rfl) (fun _ _ _ h => h) (Or.inl ⟨by rfl, ?_⟩) hS0 ?_
                rotate_left 1
                · (intro w hSw; obtain hSw1 := hSw; go_simp; try with_reducible rfl)
                simp only [Act.put, List.setIfInBounds_toArray, List.set_cons_zero, List.set_cons_succ]
                refine wpAnyH_take (i := 4) (oi := ⟨some 152, _, _, _, _, _⟩) (v := ?_) rfl (by kernel_rfl) (by kernel_rfl) (by kernel_rfl) (fun _ _ _ h => h) (Or.inl ⟨by rfl, ?_⟩) hS0 ?_
                rotate_left 1
                · (intro w hSw; obtain hSw1 := hSw; go_simp; try with_reducible rfl)
                simp only [Act.put, List.setIfInBounds_toArray, List.set_cons_zero, List.set_cons_succ]
                refine wpAnyH_take (i := 5) (oi := ⟨some 153, _, _, _, _, _⟩) (v := ?_) rfl (by kernel_rfl) (by kernel_rfl) (by kernel_rfl) (fun _ _ _ h => h) (Or.inl ⟨by rfl, ?_⟩) hS0 ?_
                rotate_left 1
                · (intro w hSw; obtain hSw1 := hSw; go_simp; try with_reducible rfl)
                simp only [Act.put, List.setIfInBounds_toArray, List.set_cons_zero, List.set_cons_succ]
                refine wpAnyH_take (i := 6) (oi := ⟨some 154, _, _, _, _, _⟩) (v := ?_) rfl (by kernel_rfl) (by kernel_rfl) (by kernel_rfl) (fun _ _ _ h => h) (Or.inl ⟨by rfl, ?_⟩) hS0 ?_
                rotate_left 1
                · (intro w hSw; obtain hSw1 := hSw; go_simp; try with_reducible rfl)
                simp only [Act.put, List.setIfInBounds_toArray, List.set_cons_zero, List.set_cons_succ]
                refine wpAnyH_ready (rs := [1]) (by kernel_rfl) (by simp) ?_
                refine AllReadyH.cons (o := ⟨some 149, _, _, _, _, _⟩) rfl (fun K hK => ?_) AllReadyH.nil
                go_simp
                refine (S_cut HOd.out (i := 0) rfl).mono ?_
                rintro e w5 ⟨rfl, hst⟩
                have HO5 := hide (show St w1 [stgT p [] 0 b m, rst1 q L f b m (.slice RA rn rc), opT Bo ⟨yk, yn, ⟨rs, rk, rb, rd, rm⟩, yx⟩] w5 from hst)
                have hS5 : (fun W : World => W.cell? ⟨q, 3, none⟩ = some (.slice RA rn rc)) w5 := R_cell HO5.out (i := 1) rfl
                rw [← Hrn.out]
                clear hst
                refine hK.out _ _ hS5 (fun hHeld => ?_)
                clear hK K
                clear hHeld
                refine wpAnyH_take (i := 7) (oi := ⟨some 155, _, _, _, _, _⟩) (v := ?_) rfl (by kernel_rfl) (by kernel_rfl) (by kernel_rfl) (fun _ _ _ h => h) (Or.inl ⟨by rfl, ?_⟩) hS5 ?_
                rotate_left 1
                · (intro w hSw; obtain hSw1 := hSw; go_simp; try with_reducible rfl)
                simp only [Act.put, List.setIfInBounds_toArray, List.set_cons_zero, List.set_cons_succ]
                refine wpAnyH_done (by kernel_rfl) ?_ _
                have HO6 := hide (show St w1 [stgT p [] 0 b m, rstT q L f b m, opT Bo ⟨yk, yn, ⟨rs, rk, rb, rd, rm⟩, yx⟩] w5 from R_close HO5.out (i := 1) rfl)
                obtain ⟨_, _, _, _, _, _, _, v0, v1, v2, v3, vf, _, hset⟩ := R_view HO6.out (i := 1) rfl
                have vf1 := vf 1
                have vf3 := vf 3
                have HE : Hid (Both w1 p q (k + 1) [opT Bo ⟨yk, yn, ⟨rs, rk, rb, rd, rm⟩, yx⟩] ((w5.setCell ⟨q, 3, none⟩ (.slice none 0 0)).setCell ⟨q, 1, none⟩ (.int .i64 0))) := ⟨[], 0, b, m, Nat.zero_le _, hset⟩
                clear hS0 hS5 HOd HO5 HO6 hset vf
                go_wp2
                go_meet
                exact HE.out
            as_aux_lemma =>
              have g1 : (yk == 1) = false := by simpa using h1
              have g2 : (yk == 2) = false := by simpa using h2
              have g3 : (yk == 3) = false := by simpa using h3
              have g4 : (yk == 4) = false := by simpa using h4
              have g5 : (yk == 5) = false := by simpa using h5
              have g6 : (yk == 6) = false := by simpa using h6
              have HE : Hid (Both w1 p q (k + 1) [opT Bo ⟨yk, yn, ⟨rs, rk, rb, rd, rm⟩, yx⟩] wc) := ⟨L, f, b, m, Hmore.out, HO.out⟩
              clear h1 h2 h3 h4 h5 h6 HO c1 c2 c3 c4 c5 c6
              go_wp2
              go_meet
              exact HE.out
          case rest =>
            clear HO c0 c1 c2 c3 c4 c5 c6 HLk Hfl Hfew Ht Htl e1
            clear L f b m t
            obtain ⟨L, f, b, m, hLk, hst⟩ := hcut
            obtain ⟨hfl, hfew, hbb, -⟩ := S_facts hst (i := 0) rfl
            obtain ⟨t, ht⟩ : ∃ t, b + L.length = t := ⟨_, rfl⟩
            have htl : t ≤ 1152921504606846975 := by rw [← ht]; exact hbb
            have Hfl := hide hfl
            have Hfew := hide hfew
            have HLk := hide hLk
            have Ht := hide ht
            have Htl := hide htl
            have HO := hide hst
            clear hfl hfew hbb ht htl hLk hst
            as_aux_lemma =>
              obtain ⟨u, hu⟩ : ∃ u, b + f = u := ⟨_, rfl⟩
              have Hu := hide hu
              have hui : u ≤ 1152921504606846975 := by have := Hfl.out; have := Ht.out; have := Htl.out; omega
              have htl := Htl.out
              clear hu
              go_wp2_with fail
              refine (S_last HO.out (i := 0) rfl Ht.out Hu.out).mono ?_
              rintro e w5 ⟨rfl, hst⟩
              have HO5 := hide hst
              clear hst HO
              go_wp2_with fail
              refine (S_dropped HO5.out (i := 0) rfl).mono ?_
              rintro e w6 ⟨rfl, hst⟩
              have HO6 := hide hst.drew
              obtain ⟨_, _, _, _, _, _, _, v0, v1, v2, _, _, _, _⟩ := R_view HO6.out (i := 1) rfl
              have hS0 : (fun W : World => W.cell? ⟨q, 0, none⟩ = some (.int .i64 ((b : Int) + 1)) ∧ W.cell? ⟨q, 1, none⟩ = some (.int .i64 (f : Int)) ∧ W.cell? ⟨q, 2, none⟩ = some (.int .i64 m)) _ := ⟨v0, v1, v2⟩
              clear v0 v1 v2
              have e1 : (b : Int) + 1 - 1 = (b : Int) := by omega
              have e2 : IntKind.i64.wrap ((b : Int) + 1 - 1) = (b : Int) := by rw [e1]; exact wrap_id (by omega) (by have := Ht.out; omega)
              have e3 : IntKind.i64.wrap ((b : Int) + 1 + (f : Int)) = (u : Int) + 1 := by rw [show (b : Int) + 1 + (f : Int) = (u : Int) + 1 by have := Hu.out; omega]; exact wrap_id (by omega) (by omega)
              have e4 : IntKind.i64.wrap ((u : Int) + 1 - 1) = (u : Int) := by rw [show (u : Int) + 1 - 1 = (u : Int) by omega]; exact wrap_id (by omega) (by omega)
              have e5 : IntKind.i64.wrap (b : Int) = (b : Int) := wrap_id (by omega) (by have := Ht.out; omega)
              have e6 : IntKind.i64.wrap (u : Int) = (u : Int) := wrap_id (by omega) (by omega)
              have e7 : (b : Int) + 1 + (f : Int) = (u : Int) + 1 := by have := Hu.out; omega
              have e8 : IntKind.i64.wrap ((u : Int) + 1) = (u : Int) + 1 := wrap_id (by omega) (by omega)
              have Hmk := hide (show (marks (L.take f)).length ≤ 100000 by have := marks_len (L.take f); rw [List.length_take] at this; have := Hfew.out; omega)
              clear hst HO5 hui htl
              go_wp2_with fail
              refine wp_region_held (S := (fun W : World => W.cell? ⟨q, 0, none⟩ = some (.int .i64 ((b : Int) + 1)) ∧ W.cell? ⟨q, 1, none⟩ = some (.int .i64 (f : Int)) ∧ W.cell? ⟨q, 2, none⟩ = some (.int .i64 m))) (by kernel_rfl) ?_
              change wpAnyH _ _ _ _ _ _ _ _ (World.drew _)
              refine wpAnyH_take (i := 0) (oi := ⟨some 172, _, _, _, _, _⟩) (v := ?_) rfl (by kernel_rfl) (by kernel_rfl) (by kernel_rfl) (fun _ _ _ h => h) (Or.inl ⟨by rfl, ?_⟩) hS0 ?_
              rotate_left 1
              · (intro w hSw; obtain ⟨hSw1, hSw2, hSw3⟩ := hSw; go_simp; try with_reducible rfl)
              simp only [Act.put, List.setIfInBounds_toArray, List.set_cons_zero, List.set_cons_succ]
              refine wpAnyH_take (i := 1) (oi := ⟨some 173, _, _, _, _, _⟩) (v := ?_) rfl (by kernel_rfl) (by kernel_rfl) (by kernel_rfl) (fun _ _ _ h => h) (Or.inl ⟨by rfl, ?_⟩) hS0 ?_
              rotate_left 1
              · (intro w hSw; obtain ⟨hSw1, hSw2, hSw3⟩ := hSw; go_simp; try with_reducible rfl)
              simp only [Act.put, List.setIfInBounds_toArray, List.set_cons_zero, List.set_cons_succ]
              refine wpAnyH_take (i := 2) (oi := ⟨some 174, _, _, _, _, _⟩) (v := ?_) rfl (by kernel_rfl) (by kernel_rfl) (by kernel_rfl) (fun _ _ _ h => h) (Or.inl ⟨by rfl, ?_⟩) hS0 ?_
              rotate_left 1
              · (intro w hSw; obtain ⟨hSw1, hSw2, hSw3⟩ := hSw; go_simp; try with_reducible rfl)
              simp only [Act.put, List.setIfInBounds_toArray, List.set_cons_zero, List.set_cons_succ]
              refine wpAnyH_take (i := 3) (oi := ⟨some 175, _, _, _, _, _⟩) (v := ?_) rfl (by kernel_rfl) (by kernel_rfl) (by kernel_rfl) (fun _ _ _ h => h) (Or.inl ⟨by rfl, ?_⟩) hS0 ?_
              rotate_left 1
              · (intro w hSw; obtain ⟨hSw1, hSw2, hSw3⟩ := hSw; go_simp; try with_reducible rfl)
              simp only [Act.put, List.setIfInBounds_toArray, List.set_cons_zero, List.set_cons_succ]
              refine wpAnyH_take (i := 4) (oi := ⟨some 176, _, _, _, _, _⟩) (v := ?_) rfl (by kernel_rfl) (by kernel_rfl) (by kernel_rfl) (fun _ _ _ h => h) (Or.inl ⟨by rfl, ?_⟩) hS0 ?_
              rotate_left 1
              · (intro w hSw; obtain ⟨hSw1, hSw2, hSw3⟩ := hSw; go_simp; try with_reducible rfl)
              simp only [Act.put, List.setIfInBounds_toArray, List.set_cons_zero, List.set_cons_succ]
              refine wpAnyH_take (i := 5) (oi := ⟨some 177, _, _, _, _, _⟩) (v := ?_) rfl (by kernel_rfl) (by kernel_rfl) (by kernel_rfl) (fun _ _ _ h => h) (Or.inl ⟨by rfl, ?_⟩) hS0 ?_
              rotate_left 1
              · (intro w hSw; obtain ⟨hSw1, hSw2, hSw3⟩ := hSw; go_simp; try with_reducible rfl)
              simp only [Act.put, List.setIfInBounds_toArray, List.set_cons_zero, List.set_cons_succ]
              refine wpAnyH_take (i := 6) (oi := ⟨some 178, _, _, _, _, _⟩) (v := ?_) rfl (by kernel_rfl) (by kernel_rfl) (by kernel_rfl) (fun _ _ _ h => h) (Or.inl ⟨by rfl, ?_⟩) hS0 ?_
              rotate_left 1
              · (intro w hSw; obtain ⟨hSw1, hSw2, hSw3⟩ := hSw; go_simp; try with_reducible rfl)
              simp only [Act.put, List.setIfInBounds_toArray, List.set_cons_zero, List.set_cons_succ]
              refine wpAnyH_take (i := 7) (oi := ⟨some 179, _, _, _, _, _⟩) (v := ?_) rfl (by kernel_rfl) (by kernel_rfl) (by kernel_rfl) (fun _ _ _ h => h) (Or.inl ⟨by rfl, ?_⟩) hS0 ?_
              rotate_left 1
              · (intro w hSw; obtain ⟨hSw1, hSw2, hSw3⟩ := hSw; go_simp; try with_reducible rfl)
              simp only [Act.put, List.setIfInBounds_toArray, List.set_cons_zero, List.set_cons_succ]
              refine wpAnyH_take (i := 8) (oi := ⟨some 180, _, _, _, _, _⟩) (v := ?_) rfl (by kernel_rfl) (by kernel_rfl) (by kernel_rfl) (fun _ _ _ h => h) (Or.inl ⟨by rfl, ?_⟩) hS0 ?_
              rotate_left 1
              · (intro w hSw; obtain ⟨hSw1, hSw2, hSw3⟩ := hSw; go_simp; try with_reducible rfl)
              simp only [Act.put, List.setIfInBounds_toArray, List.set_cons_zero, List.set_cons_succ]
              refine wpAnyH_take (i := 9) (oi := ⟨some 181, _, _, _, _, _⟩) (v := ?_) rfl (by kernel_rfl) (by kernel_rfl) (by kernel_rfl) (fun _ _ _ h => h) (Or.inl ⟨by rfl, ?_⟩) hS0 ?_
              rotate_left 1
              · (intro w hSw; obtain ⟨hSw1, hSw2, hSw3⟩ := hSw; go_simp; try with_reducible rfl)
              simp only [Act.put, List.setIfInBounds_toArray, List.set_cons_zero, List.set_cons_succ]
              refine wpAnyH_take (i := 10) (oi := ⟨some 182, _, _, _, _, _⟩) (v := ?_) rfl (by kernel_rfl) (by kernel_rfl) (by kernel_rfl) (fun _ _ _ h => h) (Or.inl ⟨by rfl, ?_⟩) hS0 ?_
              rotate_left 1
              · (intro w hSw; obtain ⟨hSw1, hSw2, hSw3⟩ := hSw; go_simp; try with_reducible rfl)
              simp only [Act.put, List.setIfInBounds_toArray, List.set_cons_zero, List.set_cons_succ]
              refine wpAnyH_take (i := 11) (oi := ⟨some 183, _, _, _, _, _⟩) (v := ?_) rfl (by kernel_rfl) (by kernel_rfl) (by kernel_rfl) (fun _ _ _ h => h) (Or.inl ⟨by rfl, ?_⟩) hS0 ?_
              rotate_left 1
              · (intro w hSw; obtain ⟨hSw1, hSw2, hSw3⟩ := hSw; go_simp; try with_reducible rfl)
              simp only [Act.put, List.setIfInBounds_toArray, List.set_cons_zero, List.set_cons_succ]
              refine wpAnyH_take (i := 12) (oi := ⟨some 184, _, _, _, _, _⟩) (v := ?_) rfl (by kernel_rfl) (by kernel_rfl) (by kernel_rfl) (fun _ _ _ h => h) (Or.inl ⟨by rfl, ?_⟩) hS0 ?_
              rotate_left 1
              · (intro w hSw; obtain ⟨hSw1, hSw2, hSw3⟩ := hSw; go_simp; try with_reducible rfl)
              simp only [Act.put, List.setIfInBounds_toArray, List.set_cons_zero, List.set_cons_succ]
              refine wpAnyH_take (i := 13) (oi := ⟨some 185, _, _, _, _, _⟩) (v := ?_) rfl (by kernel_rfl) (by kernel_rfl) (by kernel_rfl) (fun _ _ _ h => h) (Or.inl ⟨by rfl, ?_⟩) hS0 ?_
              rotate_left 1
              · (intro w hSw; obtain ⟨hSw1, hSw2, hSw3⟩ := hSw; go_simp; try with_reducible rfl)
              simp only [Act.put, List.setIfInBounds_toArray, List.set_cons_zero, List.set_cons_succ]
              refine wpAnyH_take (i := 14) (oi := ⟨some 186, _, _, _, _, _⟩) (v := ?_) rfl (by kernel_rfl) (by kernel_rfl) (by kernel_rfl) (fun _ _ _ h => h) (Or.inl ⟨by rfl, ?_⟩) hS0 ?_
              rotate_left 1
              · (intro w hSw; obtain ⟨hSw1, hSw2, hSw3⟩ := hSw; go_simp; try with_reducible rfl)
              simp only [Act.put, List.setIfInBounds_toArray, List.set_cons_zero, List.set_cons_succ]
              refine wpAnyH_take (i := 15) (oi := ⟨some 187, _, _, _, _, _⟩) (v := ?_) rfl (by kernel_rfl) (by kernel_rfl) (by kernel_rfl) (fun _ _ _ h => h) (Or.inl ⟨by rfl, ?_⟩) hS0 ?_
              rotate_left 1
              · (intro w hSw; obtain ⟨hSw1, hSw2, hSw3⟩ := hSw; go_simp; try with_reducible rfl)
              simp only [Act.put, List.setIfInBounds_toArray, List.set_cons_zero, List.set_cons_succ]
              refine wpAnyH_take (i := 16) (oi := ⟨some 188, _, _, _, _, _⟩) (v := ?_) rfl (by kernel_rfl) (by kernel_rfl) (by kernel_rfl) (fun _ _ _ h => h) (Or.inl ⟨by rfl, ?_⟩) hS0 ?_
              rotate_left 1
              · (intro w hSw; obtain ⟨hSw1, hSw2, hSw3⟩ := hSw; go_simp; try with_reducible rfl)
              simp only [Act.put, List.setIfInBounds_toArray, List.set_cons_zero, List.set_cons_succ]
              refine wpAnyH_take (i := 17) (oi := ⟨some 189, _, _, _, _, _⟩) (v := ?_) rfl (by kernel_rfl) (by kernel_rfl) (by kernel_rfl) (fun _ _ _ h => h) (Or.inl ⟨by rfl, ?_⟩) hS0 ?_
              rotate_left 1
              · (intro w hSw; obtain ⟨hSw1, hSw2, hSw3⟩ := hSw; go_simp; try with_reducible rfl)
              simp only [Act.put, List.setIfInBounds_toArray, List.set_cons_zero, List.set_cons_succ]
              refine wpAnyH_ready (rs := [18]) (by kernel_rfl) (by simp) ?_
              refine AllReadyH.cons (o := ⟨some 190, _, _, _, _, _⟩) rfl (fun K hK => ?_) AllReadyH.nil
              go_simp
              refine (R_taken HO6.out (i := 1) rfl Ht.out Htl.out).mono ?_
              rintro e w7 ⟨rfl, hst⟩
              have HO7 := hide hst
              obtain ⟨_, _, _, _, _, _, _, v0, v1, v2, _, _, _, _⟩ := R_view HO7.out (i := 1) rfl
              have hS7 : (fun W : World => W.cell? ⟨q, 0, none⟩ = some (.int .i64 ((b : Int) + 1)) ∧ W.cell? ⟨q, 1, none⟩ = some (.int .i64 (f : Int)) ∧ W.cell? ⟨q, 2, none⟩ = some (.int .i64 m)) _ := ⟨v0, v1, v2⟩
              clear v0 v1 v2
              clear hst
              refine hK.out _ _ hS7 (fun hHeld => ?_)
              clear hK K
              clear hHeld
              refine wpAnyH_take (i := 19) (oi := ⟨some 191, _, _, _, _, _⟩) (v := ?_) rfl (by kernel_rfl) (by kernel_rfl) (by kernel_rfl) (fun _ _ _ h => h) (Or.inl ⟨by rfl, ?_⟩) hS7 ?_
              rotate_left 1
              · (intro w hSw; obtain ⟨hSw1, hSw2, hSw3⟩ := hSw; go_simp; try with_reducible rfl)
              simp only [Act.put, List.setIfInBounds_toArray, List.set_cons_zero, List.set_cons_succ]
              refine wpAnyH_take (i := 20) (oi := ⟨some 192, _, _, _, _, _⟩) (v := ?_) rfl (by kernel_rfl) (by kernel_rfl) (by kernel_rfl) (fun _ _ _ h => h) (Or.inl ⟨by rfl, ?_⟩) hS7 ?_
              rotate_left 1
              · (intro w hSw; obtain ⟨hSw1, hSw2, hSw3⟩ := hSw; go_simp; try with_reducible rfl)
              simp only [Act.put, List.setIfInBounds_toArray, List.set_cons_zero, List.set_cons_succ]
              refine wpAnyH_take (i := 21) (oi := ⟨some 193, _, _, _, _, _⟩) (v := ?_) rfl (by kernel_rfl) (by kernel_rfl) (by kernel_rfl) (fun _ _ _ h => h) (Or.inl ⟨by rfl, ?_⟩) hS7 ?_
              rotate_left 1
              · (intro w hSw; obtain ⟨hSw1, hSw2, hSw3⟩ := hSw; go_simp; try with_reducible rfl)
              simp only [Act.put, List.setIfInBounds_toArray, List.set_cons_zero, List.set_cons_succ]
              refine wpAnyH_take (i := 22) (oi := ⟨some 194, _, _, _, _, _⟩) (v := ?_) rfl (by kernel_rfl) (by kernel_rfl) (by kernel_rfl) (fun _ _ _ h => h) (Or.inl ⟨by rfl, ?_⟩) hS7 ?_
              rotate_left 1
              · (intro w hSw; obtain ⟨hSw1, hSw2, hSw3⟩ := hSw; go_simp; try with_reducible rfl)
              simp only [Act.put, List.setIfInBounds_toArray, List.set_cons_zero, List.set_cons_succ]
              refine wpAnyH_take (i := 23) (oi := ⟨some 195, _, _, _, _, _⟩) (v := ?_) rfl (by kernel_rfl) (by kernel_rfl) (by kernel_rfl) (fun _ _ _ h => h) (Or.inl ⟨by rfl, ?_⟩) hS7 ?_
              rotate_left 1
              · (intro w hSw; obtain ⟨hSw1, hSw2, hSw3⟩ := hSw; go_simp; try with_reducible rfl)
              simp only [Act.put, List.setIfInBounds_toArray, List.set_cons_zero, List.set_cons_succ]
              refine wpAnyH_take (i := 24) (oi := ⟨some 196, _, _, _, _, _⟩) (v := ?_) rfl (by kernel_rfl) (by kernel_rfl) (by kernel_rfl) (fun _ _ _ h => h) (Or.inl ⟨by rfl, ?_⟩) hS7 ?_
              rotate_left 1
              · (intro w hSw; obtain ⟨hSw1, hSw2, hSw3⟩ := hSw; go_simp; try with_reducible rfl)
              simp only [Act.put, List.setIfInBounds_toArray, List.set_cons_zero, List.set_cons_succ]
              refine wpAnyH_take (i := 25) (oi := ⟨some 197, _, _, _, _, _⟩) (v := ?_) rfl (by kernel_rfl) (by kernel_rfl) (by kernel_rfl) (fun _ _ _ h => h) (Or.inl ⟨by rfl, ?_⟩) hS7 ?_
              rotate_left 1
              · (intro w hSw; obtain ⟨hSw1, hSw2, hSw3⟩ := hSw; go_simp; try with_reducible rfl)
              simp only [Act.put, List.setIfInBounds_toArray, List.set_cons_zero, List.set_cons_succ]
              refine wpAnyH_take (i := 26) (oi := ⟨some 198, _, _, _, _, _⟩) (v := ?_) rfl (by kernel_rfl) (by kernel_rfl) (by kernel_rfl) (fun _ _ _ h => h) (Or.inl ⟨by rfl, ?_⟩) hS7 ?_
              rotate_left 1
              · (intro w hSw; obtain ⟨hSw1, hSw2, hSw3⟩ := hSw; go_simp; try with_reducible rfl)
              simp only [Act.put, List.setIfInBounds_toArray, List.set_cons_zero, List.set_cons_succ]
              refine wpAnyH_take (i := 27) (oi := ⟨some 199, _, _, _, _, _⟩) (v := ?_) rfl (by kernel_rfl) (by kernel_rfl) (by kernel_rfl) (fun _ _ _ h => h) (Or.inl ⟨by rfl, ?_⟩) hS7 ?_
              rotate_left 1
              · (intro w hSw; obtain ⟨hSw1, hSw2, hSw3⟩ := hSw; go_simp; try with_reducible rfl)
              simp only [Act.put, List.setIfInBounds_toArray, List.set_cons_zero, List.set_cons_succ]
              refine wpAnyH_take (i := 28) (oi := ⟨some 200, _, _, _, _, _⟩) (v := ?_) rfl (by kernel_rfl) (by kernel_rfl) (by kernel_rfl) (fun _ _ _ h => h) (Or.inl ⟨by rfl, ?_⟩) hS7 ?_
              rotate_left 1
              · (intro w hSw; obtain ⟨hSw1, hSw2, hSw3⟩ := hSw; go_simp; try with_reducible rfl)
              simp only [Act.put, List.setIfInBounds_toArray, List.set_cons_zero, List.set_cons_succ]
              refine wpAnyH_take (i := 29) (oi := ⟨some 201, _, _, _, _, _⟩) (v := ?_) rfl (by kernel_rfl) (by kernel_rfl) (by kernel_rfl) (fun _ _ _ h => h) (Or.inl ⟨by rfl, ?_⟩) hS7 ?_
              rotate_left 1
              · (intro w hSw; obtain ⟨hSw1, hSw2, hSw3⟩ := hSw; go_simp; try with_reducible rfl)
              simp only [Act.put, List.setIfInBounds_toArray, List.set_cons_zero, List.set_cons_succ]
              refine wpAnyH_take (i := 30) (oi := ⟨some 202, _, _, _, _, _⟩) (v := ?_) rfl (by kernel_rfl) (by kernel_rfl) (by kernel_rfl) (fun _ _ _ h => h) (Or.inl ⟨by rfl, ?_⟩) hS7 ?_
              rotate_left 1
              · (intro w hSw; obtain ⟨hSw1, hSw2, hSw3⟩ := hSw; go_simp; try with_reducible rfl)
              simp only [Act.put, List.setIfInBounds_toArray, List.set_cons_zero, List.set_cons_succ]
              refine wpAnyH_take (i := 31) (oi := ⟨some 203, _, _, _, _, _⟩) (v := ?_) rfl (by kernel_rfl) (by kernel_rfl) (by kernel_rfl) (fun _ _ _ h => h) (Or.inl ⟨by rfl, ?_⟩) hS7 ?_
              rotate_left 1
              · (intro w hSw; obtain ⟨hSw1, hSw2, hSw3⟩ := hSw; go_simp; try with_reducible rfl)
              simp only [Act.put, List.setIfInBounds_toArray, List.set_cons_zero, List.set_cons_succ]
              refine wpAnyH_take (i := 32) (oi := ⟨some 204, _, _, _, _, _⟩) (v := ?_) rfl (by kernel_rfl) (by kernel_rfl) (by kernel_rfl) (fun _ _ _ h => h) (Or.inl ⟨by rfl, ?_⟩) hS7 ?_
              rotate_left 1
              · (intro w hSw; obtain ⟨hSw1, hSw2, hSw3⟩ := hSw; go_simp; try with_reducible rfl)
              simp only [Act.put, List.setIfInBounds_toArray, List.set_cons_zero, List.set_cons_succ]
              refine wpAnyH_take (i := 33) (oi := ⟨some 205, _, _, _, _, _⟩) (v := ?_) rfl (by kernel_rfl) (by kernel_rfl) (by kernel_rfl) (fun _ _ _ h => h) (Or.inl ⟨by rfl, ?_⟩) hS7 ?_
              rotate_left 1
              · (intro w hSw; obtain ⟨hSw1, hSw2, hSw3⟩ := hSw; go_simp; try with_reducible rfl)
              simp only [Act.put, List.setIfInBounds_toArray, List.set_cons_zero, List.set_cons_succ]
              refine wpAnyH_take (i := 34) (oi := ⟨some 206, _, _, _, _, _⟩) (v := ?_) rfl (by kernel_rfl) (by kernel_rfl) (by kernel_rfl) (fun _ _ _ h => h) (Or.inl ⟨by rfl, ?_⟩) hS7 ?_
              rotate_left 1
              · (intro w hSw; obtain ⟨hSw1, hSw2, hSw3⟩ := hSw; go_simp; try with_reducible rfl)
              simp only [Act.put, List.setIfInBounds_toArray, List.set_cons_zero, List.set_cons_succ]
              refine wpAnyH_take (i := 35) (oi := ⟨some 207, _, _, _, _, _⟩) (v := ?_) rfl (by kernel_rfl) (by kernel_rfl) (by kernel_rfl) (fun _ _ _ h => h) (Or.inl ⟨by rfl, ?_⟩) hS7 ?_
              rotate_left 1
              · (intro w hSw; obtain ⟨hSw1, hSw2, hSw3⟩ := hSw; go_simp; try with_reducible rfl)
              simp only [Act.put, List.setIfInBounds_toArray, List.set_cons_zero, List.set_cons_succ]
              refine wpAnyH_take (i := 36) (oi := ⟨some 208, _, _, _, _, _⟩) (v := ?_) rfl (by kernel_rfl) (by kernel_rfl) (by kernel_rfl) (fun _ _ _ h => h) (Or.inl ⟨by rfl, ?_⟩) hS7 ?_
              rotate_left 1
              · (intro w hSw; obtain ⟨hSw1, hSw2, hSw3⟩ := hSw; go_simp; try with_reducible rfl)
              simp only [Act.put, List.setIfInBounds_toArray, List.set_cons_zero, List.set_cons_succ]
              refine wpAnyH_take (i := 38) (oi := ⟨some 210, _, _, _, _, _⟩) (v := ?_) rfl (by kernel_rfl) (by kernel_rfl) (by kernel_rfl) (fun _ _ _ h => h) (Or.inl ⟨by rfl, ?_⟩) hS7 ?_
              rotate_left 1
              · (intro w hSw; obtain ⟨hSw1, hSw2, hSw3⟩ := hSw; go_simp; try with_reducible rfl)
              simp only [Act.put, List.setIfInBounds_toArray, List.set_cons_zero, List.set_cons_succ]
              refine wpAnyH_ready (rs := [37]) (by kernel_rfl) (by simp) ?_
              refine AllReadyH.cons (o := ⟨some 209, _, _, _, _, _⟩) rfl (fun K hK => ?_) AllReadyH.nil
              go_simp
              refine (S_marks2 HO7.out (i := 0) rfl).mono ?_
              rintro e w8 ⟨MA, mc, rfl, hst⟩
              have HO8 := hide hst
              obtain ⟨_, _, _, _, _, _, _, v0, v1, v2, _, _, _, _⟩ := R_view HO8.out (i := 1) rfl
              have hS8 : (fun W : World => W.cell? ⟨q, 0, none⟩ = some (.int .i64 ((b : Int) + 1)) ∧ W.cell? ⟨q, 1, none⟩ = some (.int .i64 (f : Int)) ∧ W.cell? ⟨q, 2, none⟩ = some (.int .i64 m)) _ := ⟨v0, v1, v2⟩
              clear v0 v1 v2
              clear hst
              refine hK.out _ _ hS8 (fun hHeld => ?_)
              clear hK K
              clear hHeld
              refine wpAnyH_ready (rs := [39]) (by kernel_rfl) (by simp) ?_
              refine AllReadyH.cons (o := ⟨some 211, _, _, _, _, _⟩) rfl (fun K hK => ?_) AllReadyH.nil
              go_simp
              refine (R_marks2 HO8.out (i := 1) rfl Hfl.out Hfew.out).mono ?_
              rintro e w9 ⟨NA, nc, rfl, hst⟩
              have HO9 := hide hst
              obtain ⟨_, _, _, _, _, _, _, v0, v1, v2, _, _, _, _⟩ := R_view HO9.out (i := 1) rfl
              have hS9 : (fun W : World => W.cell? ⟨q, 0, none⟩ = some (.int .i64 ((b : Int) + 1)) ∧ W.cell? ⟨q, 1, none⟩ = some (.int .i64 (f : Int)) ∧ W.cell? ⟨q, 2, none⟩ = some (.int .i64 m)) _ := ⟨v0, v1, v2⟩
              clear v0 v1 v2
              clear hst
              refine hK.out _ _ hS9 (fun hHeld => ?_)
              clear hK K
              clear hHeld
              refine wpAnyH_ready (rs := [40]) (by kernel_rfl) (by simp) ?_
              refine AllReadyH.cons (o := ⟨some 212, _, _, _, _, _⟩) rfl (fun K hK => ?_) AllReadyH.nil
              go_simp
              refine (sameI_any w9 (marks (L.take f)) _ MA NA mc nc rfl Hmk.out (Lk.St.src HO9.out (i := 3) rfl) (Lk.St.src HO9.out (i := 4) rfl)).mono ?_
              rintro e w10 ⟨rfl, hb10⟩
              have HO10 := hide (HO9.out.below hb10)
              obtain ⟨_, _, _, _, _, _, _, v0, v1, v2, _, _, _, _⟩ := R_view HO10.out (i := 1) rfl
              have hS10 : (fun W : World => W.cell? ⟨q, 0, none⟩ = some (.int .i64 ((b : Int) + 1)) ∧ W.cell? ⟨q, 1, none⟩ = some (.int .i64 (f : Int)) ∧ W.cell? ⟨q, 2, none⟩ = some (.int .i64 m)) _ := ⟨v0, v1, v2⟩
              clear v0 v1 v2
              clear hb10
              refine hK.out _ _ hS10 (fun hHeld => ?_)
              clear hK K
              clear hHeld
              refine wpAnyH_take (i := 41) (oi := ⟨some 213, _, _, _, _, _⟩) (v := ?_) rfl (by kernel_rfl) (by kernel_rfl) (by kernel_rfl) (fun _ _ _ h => h) (Or.inl ⟨by rfl, ?_⟩) hS10 ?_
              rotate_left 1
              · (intro w hSw; obtain ⟨hSw1, hSw2, hSw3⟩ := hSw; go_simp; try with_reducible rfl)
              simp only [Act.put, List.setIfInBounds_toArray, List.set_cons_zero, List.set_cons_succ]
              refine wpAnyH_take (i := 42) (oi := ⟨some 214, _, _, _, _, _⟩) (v := ?_) rfl (by kernel_rfl) (by kernel_rfl) (by kernel_rfl) (fun _ _ _ h => h) (Or.inl ⟨by rfl, ?_⟩) hS10 ?_
              rotate_left 1
              · (intro w hSw; obtain ⟨hSw1, hSw2, hSw3⟩ := hSw; go_simp; try with_reducible rfl)
              simp only [Act.put, List.setIfInBounds_toArray, List.set_cons_zero, List.set_cons_succ]
              refine wpAnyH_done (by kernel_rfl) ?_ _
              have HE : Hid (Both w1 p q (k + 1) [] w10) := ⟨L, f, b, m, HLk.out, Wn.St.weaken (Ts := [stgT p L f b m, rstT q L f b m]) HO10.out⟩
              clear hS0 hS7 hS8 hS9 hS10 HO6 HO7 HO8 HO9 HO10
              go_wp2
              go_roundw
              case rel => exact ⟨k + 1, Hlt.out, by go_num, HE.out⟩
              case measure => have := Hlt.out; simp [intOf]; omega
      · obtain rfl : k = n := by omega
        have HBf := hide (HB1.out.trans (hst.bel.mono HB1.out.size))
        clear hst hge hk hLk
        go_wp2
        go_ret
        exact ⟨rfl, HBf.out⟩

end Go.Proofs.YteneacmdfehfnaaDoor.Sg
