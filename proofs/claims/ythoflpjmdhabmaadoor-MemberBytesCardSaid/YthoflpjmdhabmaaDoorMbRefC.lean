/-
  The contracts of the document's own Change and New of a group. Nothing but the group's own blocks is changed.
-/
import Derived.Deep.RegionHeld3
import Derived.Test.YthoflpjmdhabmaaDoorMbRef
import Derived.Test.YthoflpjmdhabmaaDoorMbCode
import Derived.Test.YthoflpjmdhabmaaDoorPkRefLay
import Derived.Test.YthoflpjmdhabmaaDoorFaPlace
namespace Go.Proofs.YthoflpjmdhabmaaDoor.Mb
open Go.RowKit
open Pk hiding str str_data str_size str_of run_str str_append
open Sm hiding run_str
open Fa Dk Wn Lk

section
variable {w : World} {G : Nat → Prop} {p s : Nat} {L : List Ch}
set_option maxRecDepth 100000 in
set_option maxHeartbeats 8000000 in
theorem RChange_any (h : (rgrpT p s L).P w G) (hF : Fine s L) (v m : Int) (r : Bool) : Calls Tryd.prog 12 #[.pointer (some ⟨p, 0, none⟩), .int .i64 v, .int .i64 m, .bool r] w fun e w' => e = .returned (.int .i64 (chk s L v m r)) ∧ After (rgrpT p s (add1 s L v m r)) w G w' := by
  obtain ⟨A, n, c, hx1, hn, hnc, hcm, hsr, hp, _, c1, _⟩ := Rgp.cells h
  have hn100 : n ≤ 100 := by rw [hn]; exact hF.len
  have HL : Hid (∀ W, Below w.heap.size w W → Calls Tryd.prog 15 #[.pointer (some ⟨p, 0, none⟩)] W fun e w' => e = .returned (.int .i64 (last L)) ∧ Below W.heap.size W w') := fun W hW => RLast_any (Thg.below h hW) hF.len
  have HO : Hid (∀ W (u : Nat), Below w.heap.size w W → u < 4 → Calls Tryd.prog 34 #[.pointer (some ⟨p, 0, none⟩), .int .i64 (u : Int), .int .i64 (last L)] W fun e w' => e = .returned (.bool (bt (atS s L (last L)) u)) ∧ W = w') := fun W u hW hu => RHas_any (Thg.below h hW) hF hu (last L)
  have HC1 : Hid (∀ W, Below w.heap.size w W → W.cell? ⟨p, 4, none⟩ = some (.slice A n c)) := fun W hW => (hW.cell (p := ⟨p, 4, none⟩) hp).trans c1
  have hro := One.row hx1
  have HRo : Hid (∀ W, Below w.heap.size w W → ORow W 72 3 (.slice A n c) n (ccels L)) := fun W hW => hro.below hW
  have HS : Hid (∀ W v2 w2, Below w.heap.size w W → Grown W 72 3 (.slice A n c) (n + 1) (ccels L ++ ccel ⟨m, v, r⟩) v2 w2 → w2.frozen? ⟨p, 4, none⟩ = false ∧ w2.cell? ⟨p, 4, none⟩ = some (.slice A n c) ∧ After (rgrpT p s (L ++ [⟨m, v, r⟩])) w G (w2.setCell ⟨p, 4, none⟩ v2)) := fun W v2 w2 hW hg => by
    rw [← ccels_snoc] at hg
    exact Rgp.put hx1 hW hg (by rw [List.length_append]; simp; omega)
  have HNo : Hid (chk s L v m r ≠ 0 → ∀ w', Below w.heap.size w w' → After (rgrpT p s (add1 s L v m r)) w G w') := fun hk w' hb => by
    unfold add1
    rw [if_neg hk]
    exact Lk.Thg.after h hb
  have HYes : Hid (chk s L v m r = 0 → add1 s L v m r = L ++ [⟨m, v, r⟩]) := fun hk => by unfold add1; rw [if_pos hk]
  obtain ⟨t, ht⟩ : ∃ t, atS s L (last L) = t := ⟨_, rfl⟩
  obtain ⟨k, hk⟩ : ∃ k, last L = k := ⟨_, rfl⟩
  obtain ⟨x, hx⟩ : ∃ x, chk s L v m r = x := ⟨_, rfl⟩
  have HX := hide hx
  rw [hx] at HNo HYes ⊢
  unfold chk at HX
  rw [← hn] at HX
  rw [ht] at HX HO
  rw [hk] at HX HL HO
  have Hm1 := hide (show n + 1 ≤ maxLen by unfold maxLen; omega)
  have Hm2 := hide (show (n + 1) * 24 ≤ 140737488355328 by omega)
  have Hcc : Hid (∀ W : World, Src (W.alloc (.cells #[.int .i64 m, .int .i64 v, .bool r] 72)) (some ⟨W.heap.size, 0, none⟩) (ccel ⟨m, v, r⟩)) := fun W => (Made.row (Below.refl _ W) #[.int .i64 m, .int .i64 v, .bool r] 72).src
  have Hn100 := hide hn100
  generalize add1 s L v m r = L2 at *
  clear h hF hx1 hn hnc hcm hsr hp c1 ht hk hx hro hn100
  go_enter Tryd.func12, Tryd.ntmps12
  go_wp2_with fail
  refine (in_any v w).mono ?_
  rintro e w2 ⟨rfl, hw2⟩
  subst hw2
  by_cases hv : 0 ≤ v ∧ v < 4
  · have e1 : isV v = true := by simp [isV, hv]
    rw [e1]
    rw [if_neg (Decidable.not_not.2 hv)] at HX
    obtain ⟨u, rfl⟩ : ∃ u : Nat, v = (u : Int) := ⟨v.toNat, by omega⟩
    have Hu := hide (show u < 4 by omega)
    rw [Int.toNat_natCast] at HX
    clear e1 hv
    go_wp2_with fail
    refine (HL.out w (Below.refl _ _)).mono ?_
    rintro e w3 ⟨rfl, hb⟩
    have HB3 := hide hb
    clear hb
    by_cases hm : m ≤ k
    · rw [if_pos hm] at HX
      have HA := hide (HNo.out (by rw [← HX.out]; decide) w3 HB3.out)
      have HX' := hide HX.out.symm
      clear HX HNo HYes
      go_wp2
      go_ret
      exact ⟨by rw [HX'.out]; rfl, HA.out⟩
    · rw [if_neg hm] at HX
      by_cases hm2 : 1152921504606846975 < m
      · rw [if_pos hm2] at HX
        have HA := hide (HNo.out (by rw [← HX.out]; decide) w3 HB3.out)
        have HX' := hide HX.out.symm
        clear HX HNo HYes
        go_wp2
        go_ret
        exact ⟨by rw [HX'.out]; rfl, HA.out⟩
      · rw [if_neg hm2] at HX
        go_wp2_with fail
        refine (HL.out w3 HB3.out).mono ?_
        rintro e w4 ⟨rfl, hb⟩
        have HB4 := hide (HB3.out.trans (hb.mono HB3.out.size))
        clear hb HB3
        go_wp2_with fail
        refine (HO.out w4 u HB4.out Hu.out).mono ?_
        rintro e w5 ⟨rfl, hw5⟩
        subst hw5
        cases hbr : (bt t u == r) with
        | false =>
          rw [if_pos (by simp [bne, hbr])] at HX
          have HA := hide (HNo.out (by rw [← HX.out]; decide) w4 HB4.out)
          have HX' := hide HX.out.symm
          clear HX HNo HYes
          go_wp2
          go_ret
          exact ⟨by rw [HX'.out]; rfl, HA.out⟩
        | true =>
          rw [if_neg (by simp [bne, hbr])] at HX
          have q1 := HC1.out _ HB4.out
          by_cases hf : 100 ≤ n
          · rw [if_pos hf] at HX
            obtain rfl : n = 100 := by have := Hn100.out; omega
            have HA := hide (HNo.out (by rw [← HX.out]; decide) w4 HB4.out)
            have HX' := hide HX.out.symm
            clear HX HNo HYes hf
            go_wp2
            go_ret
            exact ⟨by rw [HX'.out]; rfl, HA.out⟩
          · rw [if_neg hf] at HX
            have HX' := hide HX.out.symm
            have HY := hide (HYes.out HX'.out)
            have hfi : ((n : Int) == 100) = false := by simp; omega
            have hb5 : Below w4.heap.size w4 (w4.alloc (.cells #[.int .i64 m, .int .i64 (u : Int), .bool r] 72)) := (Below.refl _ _).alloc (Nat.le_refl _) _
            have HB5 := hide (HB4.out.trans (hb5.mono HB4.out.size))
            have HM := hide (Hcc.out w4)
            have HO5 := hide (HRo.out _ HB5.out)
            clear HX HNo HYes hf hb5
            go_wp2_with (at_builtin; go_must (refine wpList_app app_rch rfl (.tmp 35) (.tmp 40) rfl (.slice A n c) n (ccels L) rfl HO5.out _ 1 1 (ccel ⟨m, (u : Int), r⟩) rfl rfl HM.out (ccel_ones _) (by decide) Hm1.out Hm2.out ?_))
            intro v2 w6 hg
            obtain ⟨s0, s1, s2⟩ := HS.out _ _ _ HB5.out hg.out
            have HA := hide s2
            obtain ⟨A2, c2, rfl, _, _, _⟩ := hg.out.row.form
            clear hg s2 HM HO5
            go_wp2
            go_ret
            refine ⟨by rw [HX'.out]; rfl, ?_⟩
            rw [HY.out]
            exact HA.out
  · have e1 : isV v = false := by simp [isV, hv]
    rw [e1]
    rw [if_pos hv] at HX
    have HA := hide (HNo.out (by rw [← HX.out]; decide) w (Below.refl _ _))
    have HX' := hide HX.out.symm
    clear e1 hv HX HNo HYes
    go_wp2
    go_ret
    exact ⟨by rw [HX'.out]; rfl, HA.out⟩
end

/-- What the document's New returns and leaves. -/
def RNewR (w : World) (R : Nat ⊕ (Int × Int)) (e : Ending) (w' : World) : Prop := match R with
  | .inl t => e = .returned (.tuple #[.pointer (some ⟨w.heap.size, 0, none⟩), .int .i64 0, .int .i64 0]) ∧ St w [rgrpT w.heap.size t []] w'
  | .inr (v, f) => e = .returned (.tuple #[.pointer none, .int .i64 v, .int .i64 f]) ∧ Below w.heap.size w w'
theorem St.rset {w0 w : World} {Ts : List Thg} {i p s : Nat} {L : List Ch} (h : St w0 Ts w) (hi : Ts[i]? = some (rgrpT p s L)) : (∀ v, v < 4 → w.cell? ⟨p, v, none⟩ = some (.int .i64 (bn s v))) ∧ (∀ j, w.frozen? ⟨p, j, none⟩ = false) ∧ ∀ v, v < 4 → St w0 (Ts.set i (rgrpT p (wit s v) L)) (w.setCell ⟨p, v, none⟩ (.int .i64 1)) := by
  obtain ⟨G, hp, _, hs⟩ := St.opened h hi
  obtain ⟨A, n, c, _, _, _, _, _, _, c0, _, fz⟩ := Rgp.cells hp
  exact ⟨c0, fz, fun v hv => hs _ _ (Rgp.set hp hv)⟩
set_option maxRecDepth 100000 in
set_option maxHeartbeats 8000000 in
theorem RNew_any (A : Option Addr) (n c : Nat) (l : List Int) (w : World) (hl : l.length = n) (hn : n ≤ 100000) (hsr : Src w A (nums l)) : Calls Tryd.prog 9 #[.slice A n c] w (RNewR w (newS 0 l)) := by
  obtain ⟨R, hR⟩ : ∃ R, newS 0 l = R := ⟨_, rfl⟩
  have Hl := hide hl
  have HR := hide hR
  have Hsr := hide hsr
  have hni : (n : Int) ≤ 100000 := by omega
  have HS0 := hide (St.rgrp_new (St.start w))
  rw [hR]
  clear hl hR hsr hn
  go_enter Tryd.func9, Tryd.ntmps9
  go_wp2_with fail
  go_loopw [11] (fun iv wr => ∃ k : Nat, k ≤ n ∧ ∃ t : Nat, iv = .int .i64 (k : Int) ∧ Hid (t < 16 ∧ newS t (l.drop k) = R) ∧ Hid (St w [rgrpT w.heap.size t []] wr)) (fun iv _ => n - (intOf iv).toNat)
  case atStart => exact ⟨0, Nat.zero_le _, 0, rfl, ⟨by decide, HR.out⟩, HS0.out⟩
  case round =>
    obtain ⟨k, hk, t, rfl, ht, hst⟩ := hrel
    rcases Nat.lt_or_ge k n with hlt | hge
    · have Hlt := hide hlt
      have hki : (k : Int) < (n : Int) := by omega
      obtain ⟨x, hx⟩ : ∃ x, l[k]? = some x := ⟨_, List.getElem?_eq_getElem (by rw [Hl.out]; exact hlt)⟩
      obtain ⟨g, o, rfl, hgl, b0⟩ := Src.num Hsr.out hx
      have HA0 : Hid (∀ W, Below w.heap.size w W → W.cell? ⟨g, o + k, none⟩ = some (.int .i64 x)) := fun W hW => (hW.cell (p := ⟨g, o + k, none⟩) hgl).trans b0
      have a0 := HA0.out _ hst.out.bel
      have HD := ht.out.2
      rw [drop_get hx] at HD
      unfold newS at HD
      have HD' := hide HD
      clear HD hx hlt hk b0 hgl
      go_wp2_with fail
      refine (in_any x wr).mono ?_
      rintro e w2 ⟨rfl, hw2⟩
      subst hw2
      by_cases hv : 0 ≤ x ∧ x < 4
      · rw [if_neg (Decidable.not_not.2 hv)] at HD'
        have e1 : isV x = true := by simp [isV, hv]
        rw [e1]
        obtain ⟨u, rfl⟩ : ∃ u : Nat, x = (u : Int) := ⟨x.toNat, by omega⟩
        have hu : u < 4 := by omega
        have hui : (u : Int) < 4 := by omega
        have Hu := hide hu
        obtain ⟨cs, fz, hset⟩ := St.rset hst.out (i := 0) rfl
        have c0 := cs u hu
        have f0 := fz u
        have HSet := hide (hset u hu)
        have H16 := hide (wit_lt (n := 4) ht.out.1 hu)
        have HBn := hide (bn_of (s := t) (v := u))
        rw [Int.toNat_natCast] at HD'
        generalize bn t u = b1 at *
        clear e1 hv hu ht cs fz hset
        cases hb : bt t u with
        | true =>
          rw [if_pos hb] at HD'
          rw [hb] at HBn
          have hbn := HBn.out
          clear hb
          go_wp2_with fail
          go_quiet (fail)
          go_wp2_with fail
          go_quiet (fail)
          go_wp2
          go_ret3
          rw [← HD'.out]
          exact ⟨rfl, hst.out.bel.trans ⟨rfl, rfl, rfl, Nat.le_refl _, fun _ _ => rfl⟩⟩
        | false =>
          rw [if_neg (by simp [hb])] at HD'
          rw [hb] at HBn
          have hbn := HBn.out
          clear hb
          go_wp2_with fail
          go_quiet (fail)
          go_wp2_with fail
          generalize hW : World.drewN wr _ = wq
          have HQ := hide (hst.out.below (w' := wq.drew) (by rw [← hW]; exact ⟨rfl, rfl, rfl, Nat.le_refl _, fun _ _ => rfl⟩))
          clear hW HSet c0 f0 a0 hst
          obtain ⟨cs, fz, hset⟩ := St.rset HQ.out (i := 0) rfl
          have c0 := cs u Hu.out
          have f0 := fz u
          have HS3 := hide (hset u Hu.out)
          clear cs fz hset
          refine wp_region_any (by kernel_rfl) ?_
          change wpAny _ _ _ _ _ _ _ (World.drew _)
          generalize World.drew _ = wd at *
          refine wpAny_take (i := 0) (oi := ⟨some 38, _, _, _, _, _⟩) (v := ?_) rfl (by kernel_rfl) (by kernel_rfl) (by kernel_rfl) (fun _ _ _ h => h) (Or.inl ⟨by rfl, ?_⟩) ?_
          rotate_left 1
          · (intro w; go_simp; try with_reducible rfl)
          simp only [Act.put, List.setIfInBounds_toArray, List.set_cons_zero, List.set_cons_succ]
          refine wpAny_take (i := 1) (oi := ⟨some 39, _, _, _, _, _⟩) (v := ?_) rfl (by kernel_rfl) (by kernel_rfl) (by kernel_rfl) (fun _ _ _ h => h) (Or.inl ⟨by rfl, ?_⟩) ?_
          rotate_left 1
          · (intro w; go_simp; try with_reducible rfl)
          simp only [Act.put, List.setIfInBounds_toArray, List.set_cons_zero, List.set_cons_succ]
          refine wpAny_take (i := 2) (oi := ⟨some 40, _, _, _, _, _⟩) (v := ?_) rfl (by kernel_rfl) (by kernel_rfl) (by kernel_rfl) (fun _ _ _ h => h) (Or.inl ⟨by rfl, ?_⟩) ?_
          rotate_left 1
          · (intro w; go_simp; try with_reducible rfl)
          simp only [Act.put, List.setIfInBounds_toArray, List.set_cons_zero, List.set_cons_succ]
          refine wpAny_take (i := 3) (oi := ⟨some 41, _, _, _, _, _⟩) (v := ?_) rfl (by kernel_rfl) (by kernel_rfl) (by kernel_rfl) (fun _ _ _ h => h) (Or.inl ⟨by rfl, ?_⟩) ?_
          rotate_left 1
          · (intro w; go_simp; try with_reducible rfl)
          simp only [Act.put, List.setIfInBounds_toArray, List.set_cons_zero, List.set_cons_succ]
          refine wpAny_take (i := 5) (oi := ⟨some 43, _, _, _, _, _⟩) (v := ?_) rfl (by kernel_rfl) (by kernel_rfl) (by kernel_rfl) (fun _ _ _ h => h) (Or.inl ⟨by rfl, ?_⟩) ?_
          rotate_left 1
          · (intro w; go_simp; try with_reducible rfl)
          simp only [Act.put, List.setIfInBounds_toArray, List.set_cons_zero, List.set_cons_succ]
          refine wpAny_take (i := 6) (oi := ⟨some 44, _, _, _, _, _⟩) (v := ?_) rfl (by kernel_rfl) (by kernel_rfl) (by kernel_rfl) (fun _ _ _ h => h) (Or.inl ⟨by rfl, ?_⟩) ?_
          rotate_left 1
          · (intro w; go_simp; try with_reducible rfl)
          simp only [Act.put, List.setIfInBounds_toArray, List.set_cons_zero, List.set_cons_succ]
          refine wpAny_ready (rs := [4]) (by kernel_rfl) (by simp) ?_
          refine AllReady.cons (o := ⟨some 42, _, _, _, _, _⟩) rfl (fun K hK => ?_) AllReady.nil
          have hq := HA0.out _ HQ.out.bel
          go_simp
          clear hq
          refine hK _ _ ?_
          clear hK K
          refine wpAny_take (i := 7) (oi := ⟨some 45, _, _, _, _, _⟩) (v := ?_) rfl (by kernel_rfl) (by kernel_rfl) (by kernel_rfl) (fun _ _ _ h => h) (Or.inl ⟨by rfl, ?_⟩) ?_
          rotate_left 1
          · (intro w; go_simp; try with_reducible rfl)
          simp only [Act.put, List.setIfInBounds_toArray, List.set_cons_zero, List.set_cons_succ]
          refine wpAny_ready (rs := [8]) (by kernel_rfl) (by simp) ?_
          refine AllReady.cons (o := ⟨none, _, _, _, _, _⟩) rfl (fun K hK => ?_) AllReady.nil
          go_simp
          generalize World.setCell _ _ _ = w3 at *
          refine hK _ _ ?_
          clear hK K
          refine wpAny_done (by kernel_rfl) ?_ _
          clear c0 f0
          go_wp2
          go_roundw
          case rel => exact ⟨k + 1, Hlt.out, wit t u, by go_num, ⟨H16.out, HD'.out⟩, HS3.out⟩
          case measure => have := Hlt.out; simp [intOf]; omega
      · rw [if_pos hv] at HD'
        have e1 : isV x = false := by simp [isV, hv]
        rw [e1]
        clear hv e1 ht
        go_wp2_with fail
        go_quiet (fail)
        go_wp2
        go_ret3
        rw [← HD'.out]
        exact ⟨rfl, hst.out.bel.trans ⟨rfl, rfl, rfl, Nat.le_refl _, fun _ _ => rfl⟩⟩
    · obtain rfl : k = n := by omega
      have e1 : Hid (R = .inl t) := by
        have := ht.out.2
        rw [List.drop_of_length_le (by rw [Hl.out]; exact Nat.le_refl _)] at this
        exact this.symm
      clear hge hk ht
      go_wp2
      go_ret3
      rw [e1.out]
      exact ⟨rfl, hst.out⟩

end Go.Proofs.YthoflpjmdhabmaaDoor.Mb
