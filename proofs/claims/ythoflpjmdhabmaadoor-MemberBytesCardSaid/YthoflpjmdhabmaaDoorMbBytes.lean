/-
  The walk of isobarlaw15.MemberBytes: it returns true, at any bytes, any first volumes, every script and every marker; nothing that was there is changed. Condition: the library's variable errors.errorType holds what the program's own text lays.
-/
import Derived.Deep.RegionHeld3
import Derived.Test.YthoflpjmdhabmaaDoorMbRWalk
import Derived.Test.YthoflpjmdhabmaaDoorMbPlace
namespace Go.Proofs.YthoflpjmdhabmaaDoor.Mb
open Go.RowKit
open Pk hiding str str_data str_size str_of run_str str_append
open Sm hiding run_str
open Fa Dk Wn Lk

set_option maxRecDepth 100000 in
theorem MBytes_long (s0 : ByteArray) (A1 : Option Addr) (n1 c1 : Nat) (A2 : Option Addr) (n2 c2 : Nat) (mark : Int) (w : World) (hs : s0.size ≤ maxLen) (hn : 2000 < s0.size ∨ 20 < n1 ∨ 200 < n2) :
    Calls Tryd.prog 4 #[.string s0, .slice A1 n1 c1, .slice A2 n2 c2, .int .i64 mark] w fun e w' => e = .returned (.bool true) ∧ Below w.heap.size w w' := by
  unfold maxLen at hs
  go_enter Tryd.func4, Tryd.ntmps4
  go_wp2_with fail
  refine (awake_any w).mono ?_
  rintro e w2 ⟨rfl, hb⟩
  have HB2 := hide hb
  clear hb
  by_cases h0 : 2000 < s0.size
  · have hni : (2000 : Int) < (s0.size : Int) := by omega
    clear hn h0
    go_wp2_with fail
    refine (awake_any w2).mono ?_
    rintro e w3 ⟨rfl, hb⟩
    have HB3 := hide (HB2.out.trans (hb.mono HB2.out.size))
    clear hb HB2
    go_wp2
    go_ret
    exact ⟨rfl, HB3.out⟩
  · have hni : ¬ (2000 : Int) < (s0.size : Int) := by omega
    by_cases h1 : 20 < n1
    · have hnj : (20 : Int) < (n1 : Int) := by omega
      clear hn h0 h1
      go_wp2_with fail
      refine (awake_any w2).mono ?_
      rintro e w3 ⟨rfl, hb⟩
      have HB3 := hide (HB2.out.trans (hb.mono HB2.out.size))
      clear hb HB2
      go_wp2
      go_ret
      exact ⟨rfl, HB3.out⟩
    · have hnj : ¬ (20 : Int) < (n1 : Int) := by omega
      have hnk : (200 : Int) < (n2 : Int) := by omega
      clear hn h0 h1
      go_wp2_with fail
      refine (awake_any w2).mono ?_
      rintro e w3 ⟨rfl, hb⟩
      have HB3 := hide (HB2.out.trans (hb.mono HB2.out.size))
      clear hb HB2
      go_wp2
      go_ret
      exact ⟨rfl, HB3.out⟩
set_option maxRecDepth 100000 in
set_option maxHeartbeats 16000000 in
theorem MBytes_law (s0 : ByteArray) (A1 : Option Addr) (n1 c1 : Nat) (l1 : List Int) (A2 : Option Addr) (n2 c2 : Nat) (l2 : List Oq) (mark : Int) (w : World) (hty : Ety w) (hl1 : l1.length = n1) (hs1 : Src w A1 (nums l1)) (hl2 : l2.length = n2) (hs2 : Src w A2 (ocels l2)) (hn0 : s0.size ≤ 2000) (hn1 : n1 ≤ 20) (hn2 : n2 ≤ 200) :
    Calls Tryd.prog 4 #[.string s0, .slice A1 n1 c1, .slice A2 n2 c2, .int .i64 mark] w fun e w' => e = .returned (.bool true) ∧ Below w.heap.size w w' := by
  have hni : ¬ (2000 : Int) < (s0.size : Int) := by omega
  have hnj : ¬ (20 : Int) < (n1 : Int) := by omega
  have hnk : ¬ (200 : Int) < (n2 : Int) := by omega
  have HE0 : Hid (∀ W, Below w.heap.size w W → Ety W) := fun W hW => Ety.below hty hW hty.lt
  have Hn0 := hide hn0
  have Hl1 := hide hl1
  have Hl2 := hide hl2
  have Hs1 := hide hs1
  have Hs2 := hide hs2
  have Hn1 := hide hn1
  have Hn2 := hide hn2
  clear hl1 hl2 hs1 hs2 hn0 hn1 hn2 hty
  go_enter Tryd.func4, Tryd.ntmps4
  go_wp2_with fail
  refine (awake_any w).mono ?_
  rintro e w2 ⟨rfl, hb⟩
  have HB2 := hide hb
  clear hb
  obtain ⟨wb, cb, k1, k2, hconv, hby, hbel⟩ := Sm.to_bytes w2 s0 (by have := Hn0.out; unfold maxLen; omega)
  have HFB := hide (FromBytes_any (some ⟨w2.heap.size, 0, none⟩) s0.size cb s0.data.toList wb (size_eq s0) hby k1 (by unfold maxLen; omega))
  have HBb := hide (HB2.out.trans (hbel.mono HB2.out.size))
  clear k1 k2 hby hbel HB2
  go_wp2_with fail
  clear hconv
  refine HFB.out.mono ?_
  intro e w3 hfrom
  clear HFB
  have Hsz : Hid (s0.data.toList.length ≤ 100000) := by show _ ≤ _; rw [size_eq]; have := Hn0.out; omega
  have Hstr : Hid (str s0.data.toList = s0) := rfl
  generalize s0.data.toList = l at *
  rcases hfrom with ⟨s, M, hg, rfl, hS⟩ | ⟨hg, b, rfl, hF⟩
  · have HG := hide hg
    have HS3 := hide hS
    have HE : Hid (∀ W, St wb [] W → Below w.heap.size w W) := fun W hW => HBb.out.trans (hW.bel.mono HBb.out.size)
    obtain ⟨hs16, hFM, hlw⟩ := wrote_grpOf hg
    have Hs16 := hide hs16
    have HFM := hide hFM
    have Hlw : Hid (str (wrote s M) = s0) := by rw [← hlw]; exact Hstr.out
    clear hg hS hs16 hFM hlw HBb
    generalize wb.heap.size = p at *
    go_wp2_with fail
    refine (RFromBytes_any l s0 Hstr.out Hsz.out w3).mono ?_
    intro e w4 hrf
    rcases hrf with ⟨q, s', M', hg', rfl, hS⟩ | ⟨hg', rfl, _⟩
    · have hinj : s = s' ∧ M = M' := by
        have := HG.out
        rw [hg'] at this
        simp only [Option.some.injEq, Prod.mk.injEq] at this
        exact ⟨this.1.symm, this.2.symm⟩
      obtain ⟨rfl, rfl⟩ := hinj
      obtain ⟨G, hp, hG, _⟩ := St.opened hS (i := 0) rfl
      have HS4 := hide (show St wb [grpT p s M, rgrpT q s M] w4 from HS3.out.add hS.bel hp hG)
      have HP := hide (place_none (HE0.out _ (HE.out w4 (St.weaken (Ts := []) HS4.out))) 0)
      clear hg' hS hp hG HS3 HG
      go_wp2_with fail
      refine HP.out.mono ?_
      rintro e w5 ⟨rfl, hb⟩
      have HS5 := hide (HS4.out.below hb)
      clear hb HP HS4
      go_wp2_with fail
      refine (S_bytes HS5.out (i := 0) rfl HFM.out Hs16.out).mono ?_
      rintro e w6 ⟨⟨A9, n9, c9, rfl, hl9, _, _, hby⟩, hS⟩
      have HS6 := hide hS
      have hcv := Sm.run_str _ _ A9 _ n9 c9 hl9 hby
      rw [Hlw.out] at hcv
      clear hS HS5 hl9 hby
      go_wp2_with fail
      clear hcv
      refine (S_at HS6.out (i := 0) rfl HFM.out Hs16.out mark).mono ?_
      rintro e w7 ⟨VA, ca, rfl, hS⟩
      obtain ⟨L, hL⟩ : ∃ L, vols (atS s M mark) 4 = L := ⟨_, rfl⟩
      have HL := hide hL
      have HL4 := hide (show L.length ≤ 4 by rw [← hL]; exact vols_len _ 4)
      rw [hL] at hS ⊢
      have HS7 := hide (show St wb [grpT p s M, rgrpT q s M, rowT 3 1 (.slice VA L.length ca) L.length (nums L)] w7 from hS)
      clear hS hL HS6
      go_wp2_with fail
      refine (S_rat HS7.out (i := 1) rfl HFM.out mark).mono ?_
      intro e w8 hrow
      rw [HL.out] at hrow
      obtain ⟨VB, cc, rfl, hS⟩ := hrow
      have HS8 := hide (show St wb [grpT p s M, rgrpT q s M, rowT 3 1 (.slice VA L.length ca) L.length (nums L), rowT 3 1 (.slice VB L.length cc) L.length (nums L)] w8 from hS)
      have HQ := hide (same_any (w := w8) L L _ _ VA VB ca cc rfl rfl (by have := HL4.out; omega) (St.src HS8.out (i := 2) rfl) (St.src HS8.out (i := 3) rfl))
      rw [decide_eq_true rfl] at HQ
      have HBW := hide (HE.out _ (St.weaken (Ts := []) HS8.out))
      clear hS HS7 HL HL4 HS8
      generalize L.length = nL at *
      go_wp2_with fail
      refine HQ.out.mono ?_
      rintro e w9 ⟨rfl, hb⟩
      have HBX := hide (HBW.out.trans (hb.mono HBW.out.size))
      clear hb HQ HBW HE
      go_wp2_with fail
      refine (New_any A1 n1 c1 l1 w9 Hl1.out (by have := Hn1.out; omega) (Hs1.out.below HBX.out)).mono ?_
      intro e y1 hnew
      cases hN : newS 0 l1 with
      | inr z =>
        obtain ⟨u, f⟩ := z
        rw [hN] at hnew
        obtain ⟨fb, rfl, hF⟩ := hnew
        have HB3 := hide (HBX.out.trans (hF.2.mono HBX.out.size))
        clear hF hN
        go_wp2
        go_ret
        exact ⟨rfl, HB3.out⟩
      | inl t =>
        rw [hN] at hnew
        have hnew' : e = .returned (.tuple #[.pointer (some ⟨w9.heap.size, 0, none⟩), .nilIface]) ∧ St w9 [grpT w9.heap.size t []] y1 := hnew
        obtain ⟨rfl, hS⟩ := hnew'
        have Ht := hide (newS_lt l1 0 t (by decide) hN)
        have HS3 := hide hS
        have HE : Hid (∀ W, St w9 [] W → Below w.heap.size w W) := fun W hW => HBX.out.trans (hW.bel.mono HBX.out.size)
        have Hsr := hide (Hs2.out.below HBX.out)
        clear hnew hS hN HBX
        generalize w9.heap.size = px at *
        go_wp2_with fail
        refine (play_any HS3.out Fine.nil Ht.out A2 n2 c2 l2 Hl2.out (by have := Hn2.out; omega) Hsr.out).mono ?_
        rintro e y2 ⟨rfl, M2, hM, hS⟩
        have HM := hide hM
        have HS4 := hide hS
        clear hM hS HS3 Hsr
        go_wp2_with fail
        refine (S_bytes HS4.out (i := 0) rfl HM.out Ht.out).mono ?_
        rintro e y3 ⟨⟨A9, n9, c9, rfl, hl9, hnc, hcm, hby⟩, hS⟩
        have HS5 := hide hS
        have HFB := hide (FromBytes_any A9 n9 c9 _ y3 hl9 hby hnc hcm)
        clear hl9 hnc hcm hby hS HS4
        go_wp2_with fail
        refine HFB.out.mono ?_
        intro e y4 hfrom
        clear HFB
        rcases hfrom with ⟨s', M', hg, rfl, hS⟩ | ⟨hg, _⟩
        · rw [grpOf_wrote HM.out Ht.out] at hg
          simp only [Option.some.injEq, Prod.mk.injEq] at hg
          obtain ⟨rfl, rfl⟩ := hg
          obtain ⟨G, hp, hG, _⟩ := St.opened hS (i := 0) rfl
          have HS6 := hide (show St w9 [grpT px t M2, grpT y3.heap.size t M2] y4 from HS5.out.add hS.bel hp hG)
          clear hS hp hG HS5
          generalize y3.heap.size = py at *
          go_wp2_with fail
          have HX0 := hide (HS6.out.below (Below.refl _ _).drew)
          obtain ⟨ln, hln⟩ : ∃ ln, vols (atS t M2 (last M2)) 4 = ln := ⟨_, rfl⟩
          have HLn := hide hln
          have HLn4 := hide (show ln.length ≤ 4 by rw [← hln]; exact vols_len _ 4)
          obtain ⟨lm, hlm⟩ : ∃ lm, vols (atS t M2 mark) 4 = lm := ⟨_, rfl⟩
          have HLm := hide hlm
          have HLm4 := hide (show lm.length ≤ 4 by rw [← hlm]; exact vols_len _ 4)
          clear hln hlm HS6
          refine wp_region_any (by kernel_rfl) ?_
          change wpAny _ _ _ _ _ _ _ (World.drew _)
          refine wpAny_take (i := 0) (oi := ⟨some 94, _, _, _, _, _⟩) (v := ?_) rfl (by kernel_rfl) (by kernel_rfl) (by kernel_rfl) (fun _ _ _ h => h) (Or.inl ⟨by rfl, ?_⟩) ?_
          rotate_left 1
          · (intro w; go_simp; try with_reducible rfl)
          simp only [Act.put, List.setIfInBounds_toArray, List.set_cons_zero, List.set_cons_succ]
          refine wpAny_take (i := 1) (oi := ⟨some 95, _, _, _, _, _⟩) (v := ?_) rfl (by kernel_rfl) (by kernel_rfl) (by kernel_rfl) (fun _ _ _ h => h) (Or.inl ⟨by rfl, ?_⟩) ?_
          rotate_left 1
          · (intro w; go_simp; try with_reducible rfl)
          simp only [Act.put, List.setIfInBounds_toArray, List.set_cons_zero, List.set_cons_succ]
          refine wpAny_take (i := 2) (oi := ⟨some 96, _, _, _, _, _⟩) (v := ?_) rfl (by kernel_rfl) (by kernel_rfl) (by kernel_rfl) (fun _ _ _ h => h) (Or.inl ⟨by rfl, ?_⟩) ?_
          rotate_left 1
          · (intro w; go_simp; try with_reducible rfl)
          simp only [Act.put, List.setIfInBounds_toArray, List.set_cons_zero, List.set_cons_succ]
          refine wpAny_take (i := 3) (oi := ⟨some 97, _, _, _, _, _⟩) (v := ?_) rfl (by kernel_rfl) (by kernel_rfl) (by kernel_rfl) (fun _ _ _ h => h) (Or.inl ⟨by rfl, ?_⟩) ?_
          rotate_left 1
          · (intro w; go_simp; try with_reducible rfl)
          simp only [Act.put, List.setIfInBounds_toArray, List.set_cons_zero, List.set_cons_succ]
          refine wpAny_take (i := 6) (oi := ⟨some 100, _, _, _, _, _⟩) (v := ?_) rfl (by kernel_rfl) (by kernel_rfl) (by kernel_rfl) (fun _ _ _ h => h) (Or.inl ⟨by rfl, ?_⟩) ?_
          rotate_left 1
          · (intro w; go_simp; try with_reducible rfl)
          simp only [Act.put, List.setIfInBounds_toArray, List.set_cons_zero, List.set_cons_succ]
          refine wpAny_ready (rs := [4]) (by kernel_rfl) (by simp) ?_
          refine AllReady.cons (o := ⟨some 98, _, _, _, _, _⟩) rfl (fun K hK => ?_) AllReady.nil
          go_simp
          refine (S_bytes HX0.out (i := 1) rfl HM.out Ht.out).mono ?_
          rintro e x1 ⟨⟨A8, n8, c8, rfl, hl8, _, _, hby⟩, hS⟩
          have HBy := hide hby
          have Hl8 := hide hl8
          have HX1 := hide hS
          clear hS hby hl8
          refine hK _ _ ?_
          clear hK K
          refine wpAny_ready (rs := [5, 7]) (by kernel_rfl) (by simp) ?_
          refine AllReady.cons (o := ⟨some 99, _, _, _, _, _⟩) rfl (fun K hK => ?_) (AllReady.cons (o := ⟨some 101, _, _, _, _, _⟩) rfl (fun K hK => ?_) AllReady.nil)
          · have hcv := Sm.run_str _ _ A8 _ n8 c8 Hl8.out (HBy.out)
            go_simp
            clear hcv
            refine hK _ _ ?_
            clear hK K
            refine wpAny_ready (rs := [7]) (by kernel_rfl) (by simp) ?_
            refine AllReady.cons (o := ⟨some 101, _, _, _, _, _⟩) rfl (fun K hK => ?_) AllReady.nil
            go_simp
            obtain ⟨Gr, hpr, _, _⟩ := St.opened HX1.out (i := 0) rfl
            refine (Bytes_any hpr HM.out (by have := Ht.out; omega)).mono ?_
            rintro e x2 ⟨v4, rfl, hO, hb⟩
            obtain ⟨A7, c7, rfl, _, _, hby⟩ := hO.form
            have HX2b := hide hb
            have HX2 := hide (HX1.out.below hb)
            have HBy2 := hide hby
            clear hb hpr hO hby
            refine hK _ _ ?_
            clear hK K
            refine wpAny_ready (rs := [8]) (by kernel_rfl) (by simp) ?_
            refine AllReady.cons (o := ⟨some 102, _, _, _, _, _⟩) rfl (fun K hK => ?_) AllReady.nil
            have hcv := Sm.run_str _ _ A7 _ _ c7 rfl HBy2.out
            go_simp
            clear hcv
            refine hK _ _ ?_
            clear hK K
            refine wpAny_take (i := 9) (oi := ⟨some 103, _, _, _, _, _⟩) (v := ?_) rfl (by kernel_rfl) (by kernel_rfl) (by kernel_rfl) (fun _ _ _ h => h) (Or.inl ⟨by rfl, ?_⟩) ?_
            rotate_left 1
            · (intro w; go_simp; try with_reducible rfl)
            simp only [Act.put, List.setIfInBounds_toArray, List.set_cons_zero, List.set_cons_succ]
            refine wpAny_take (i := 10) (oi := ⟨some 104, _, _, _, _, _⟩) (v := ?_) rfl (by kernel_rfl) (by kernel_rfl) (by kernel_rfl) (fun _ _ _ h => h) (Or.inl ⟨by rfl, ?_⟩) ?_
            rotate_left 1
            · (intro w; go_simp; try with_reducible rfl)
            simp only [Act.put, List.setIfInBounds_toArray, List.set_cons_zero, List.set_cons_succ]
            refine wpAny_take (i := 11) (oi := ⟨some 105, _, _, _, _, _⟩) (v := ?_) rfl (by kernel_rfl) (by kernel_rfl) (by kernel_rfl) (fun _ _ _ h => h) (Or.inl ⟨by rfl, ?_⟩) ?_
            rotate_left 1
            · (intro w; go_simp; try with_reducible rfl)
            simp only [Act.put, List.setIfInBounds_toArray, List.set_cons_zero, List.set_cons_succ]
            refine wpAny_take (i := 12) (oi := ⟨some 106, _, _, _, _, _⟩) (v := ?_) rfl (by kernel_rfl) (by kernel_rfl) (by kernel_rfl) (fun _ _ _ h => h) (Or.inl ⟨by rfl, ?_⟩) ?_
            rotate_left 1
            · (intro w; go_simp; try with_reducible rfl)
            simp only [Act.put, List.setIfInBounds_toArray, List.set_cons_zero, List.set_cons_succ]
            refine wpAny_take (i := 14) (oi := ⟨some 108, _, _, _, _, _⟩) (v := ?_) rfl (by kernel_rfl) (by kernel_rfl) (by kernel_rfl) (fun _ _ _ h => h) (Or.inl ⟨by rfl, ?_⟩) ?_
            rotate_left 1
            · (intro w; go_simp; try with_reducible rfl)
            simp only [Act.put, List.setIfInBounds_toArray, List.set_cons_zero, List.set_cons_succ]
            refine wpAny_ready (rs := [13]) (by kernel_rfl) (by simp) ?_
            refine AllReady.cons (o := ⟨some 107, _, _, _, _, _⟩) rfl (fun K hK => ?_) AllReady.nil
            go_simp
            refine (S_now HX2.out (i := 1) rfl HM.out Ht.out).mono ?_
            intro e x3 hrow
            rw [HLn.out] at hrow
            obtain ⟨V3, d3, rfl, hS⟩ := hrow
            have HX3 := hide (show St w9 ([grpT px t M2, grpT py t M2, rowT 3 1 (.slice V3 ln.length d3) ln.length (nums ln)]) x3 from hS)
            clear hS
            refine hK _ _ ?_
            clear hK K
            refine wpAny_ready (rs := [15]) (by kernel_rfl) (by simp) ?_
            refine AllReady.cons (o := ⟨some 109, _, _, _, _, _⟩) rfl (fun K hK => ?_) AllReady.nil
            go_simp
            refine (S_now HX3.out (i := 0) rfl HM.out Ht.out).mono ?_
            intro e x4 hrow
            rw [HLn.out] at hrow
            obtain ⟨V4, d4, rfl, hS⟩ := hrow
            have HX4 := hide (show St w9 ([grpT px t M2, grpT py t M2, rowT 3 1 (.slice V3 ln.length d3) ln.length (nums ln), rowT 3 1 (.slice V4 ln.length d4) ln.length (nums ln)]) x4 from hS)
            clear hS
            refine hK _ _ ?_
            clear hK K
            refine wpAny_ready (rs := [16]) (by kernel_rfl) (by simp) ?_
            refine AllReady.cons (o := ⟨some 110, _, _, _, _, _⟩) rfl (fun K hK => ?_) AllReady.nil
            go_simp
            have HQ := hide (same_any (w := x4) ln ln _ _ V3 V4 d3 d4 rfl rfl (by have := HLn4.out; omega) (St.src HX4.out (i := 2) rfl) (St.src HX4.out (i := 3) rfl))
            rw [decide_eq_true rfl] at HQ
            refine HQ.out.mono ?_
            rintro e x5 ⟨rfl, hb⟩
            have HX5 := hide ((St.weaken (Ts := [grpT px t M2, grpT py t M2]) (Us := [_, _]) HX4.out).below hb)
            clear hb HQ
            refine hK _ _ ?_
            clear hK K
            refine wpAny_take (i := 17) (oi := ⟨some 111, _, _, _, _, _⟩) (v := ?_) rfl (by kernel_rfl) (by kernel_rfl) (by kernel_rfl) (fun _ _ _ h => h) (Or.inl ⟨by rfl, ?_⟩) ?_
            rotate_left 1
            · (intro w; go_simp; try with_reducible rfl)
            simp only [Act.put, List.setIfInBounds_toArray, List.set_cons_zero, List.set_cons_succ]
            refine wpAny_take (i := 18) (oi := ⟨some 112, _, _, _, _, _⟩) (v := ?_) rfl (by kernel_rfl) (by kernel_rfl) (by kernel_rfl) (fun _ _ _ h => h) (Or.inl ⟨by rfl, ?_⟩) ?_
            rotate_left 1
            · (intro w; go_simp; try with_reducible rfl)
            simp only [Act.put, List.setIfInBounds_toArray, List.set_cons_zero, List.set_cons_succ]
            refine wpAny_take (i := 19) (oi := ⟨some 113, _, _, _, _, _⟩) (v := ?_) rfl (by kernel_rfl) (by kernel_rfl) (by kernel_rfl) (fun _ _ _ h => h) (Or.inl ⟨by rfl, ?_⟩) ?_
            rotate_left 1
            · (intro w; go_simp; try with_reducible rfl)
            simp only [Act.put, List.setIfInBounds_toArray, List.set_cons_zero, List.set_cons_succ]
            refine wpAny_take (i := 20) (oi := ⟨some 114, _, _, _, _, _⟩) (v := ?_) rfl (by kernel_rfl) (by kernel_rfl) (by kernel_rfl) (fun _ _ _ h => h) (Or.inl ⟨by rfl, ?_⟩) ?_
            rotate_left 1
            · (intro w; go_simp; try with_reducible rfl)
            simp only [Act.put, List.setIfInBounds_toArray, List.set_cons_zero, List.set_cons_succ]
            refine wpAny_take (i := 22) (oi := ⟨some 116, _, _, _, _, _⟩) (v := ?_) rfl (by kernel_rfl) (by kernel_rfl) (by kernel_rfl) (fun _ _ _ h => h) (Or.inl ⟨by rfl, ?_⟩) ?_
            rotate_left 1
            · (intro w; go_simp; try with_reducible rfl)
            simp only [Act.put, List.setIfInBounds_toArray, List.set_cons_zero, List.set_cons_succ]
            refine wpAny_take (i := 23) (oi := ⟨some 117, _, _, _, _, _⟩) (v := ?_) rfl (by kernel_rfl) (by kernel_rfl) (by kernel_rfl) (fun _ _ _ h => h) (Or.inl ⟨by rfl, ?_⟩) ?_
            rotate_left 1
            · (intro w; go_simp; try with_reducible rfl)
            simp only [Act.put, List.setIfInBounds_toArray, List.set_cons_zero, List.set_cons_succ]
            refine wpAny_ready (rs := [21]) (by kernel_rfl) (by simp) ?_
            refine AllReady.cons (o := ⟨some 115, _, _, _, _, _⟩) rfl (fun K hK => ?_) AllReady.nil
            go_simp
            refine (S_at HX5.out (i := 1) rfl HM.out Ht.out mark).mono ?_
            intro e x6 hrow
            rw [HLm.out] at hrow
            obtain ⟨V6, d6, rfl, hS⟩ := hrow
            have HX6 := hide (show St w9 ([grpT px t M2, grpT py t M2, rowT 3 1 (.slice V6 lm.length d6) lm.length (nums lm)]) x6 from hS)
            clear hS
            refine hK _ _ ?_
            clear hK K
            refine wpAny_ready (rs := [24]) (by kernel_rfl) (by simp) ?_
            refine AllReady.cons (o := ⟨some 118, _, _, _, _, _⟩) rfl (fun K hK => ?_) AllReady.nil
            go_simp
            refine (S_at HX6.out (i := 0) rfl HM.out Ht.out mark).mono ?_
            intro e x7 hrow
            rw [HLm.out] at hrow
            obtain ⟨V7, d7, rfl, hS⟩ := hrow
            have HX7 := hide (show St w9 ([grpT px t M2, grpT py t M2, rowT 3 1 (.slice V6 lm.length d6) lm.length (nums lm), rowT 3 1 (.slice V7 lm.length d7) lm.length (nums lm)]) x7 from hS)
            clear hS
            refine hK _ _ ?_
            clear hK K
            refine wpAny_ready (rs := [25]) (by kernel_rfl) (by simp) ?_
            refine AllReady.cons (o := ⟨some 119, _, _, _, _, _⟩) rfl (fun K hK => ?_) AllReady.nil
            go_simp
            have HQ := hide (same_any (w := x7) lm lm _ _ V6 V7 d6 d7 rfl rfl (by have := HLm4.out; omega) (St.src HX7.out (i := 2) rfl) (St.src HX7.out (i := 3) rfl))
            rw [decide_eq_true rfl] at HQ
            refine HQ.out.mono ?_
            rintro e x8 ⟨rfl, hb⟩
            have HX8 := hide ((St.weaken (Ts := [grpT px t M2, grpT py t M2]) (Us := [_, _]) HX7.out).below hb)
            clear hb HQ
            refine hK _ _ ?_
            clear hK K
            refine wpAny_take (i := 26) (oi := ⟨some 120, _, _, _, _, _⟩) (v := ?_) rfl (by kernel_rfl) (by kernel_rfl) (by kernel_rfl) (fun _ _ _ h => h) (Or.inl ⟨by rfl, ?_⟩) ?_
            rotate_left 1
            · (intro w; go_simp; try with_reducible rfl)
            simp only [Act.put, List.setIfInBounds_toArray, List.set_cons_zero, List.set_cons_succ]
            refine wpAny_take (i := 27) (oi := ⟨some 121, _, _, _, _, _⟩) (v := ?_) rfl (by kernel_rfl) (by kernel_rfl) (by kernel_rfl) (fun _ _ _ h => h) (Or.inl ⟨by rfl, ?_⟩) ?_
            rotate_left 1
            · (intro w; go_simp; try with_reducible rfl)
            simp only [Act.put, List.setIfInBounds_toArray, List.set_cons_zero, List.set_cons_succ]
            refine wpAny_take (i := 28) (oi := ⟨some 122, _, _, _, _, _⟩) (v := ?_) rfl (by kernel_rfl) (by kernel_rfl) (by kernel_rfl) (fun _ _ _ h => h) (Or.inl ⟨by rfl, ?_⟩) ?_
            rotate_left 1
            · (intro w; go_simp; try with_reducible rfl)
            simp only [Act.put, List.setIfInBounds_toArray, List.set_cons_zero, List.set_cons_succ]
            refine wpAny_take (i := 30) (oi := ⟨some 124, _, _, _, _, _⟩) (v := ?_) rfl (by kernel_rfl) (by kernel_rfl) (by kernel_rfl) (fun _ _ _ h => h) (Or.inl ⟨by rfl, ?_⟩) ?_
            rotate_left 1
            · (intro w; go_simp; try with_reducible rfl)
            simp only [Act.put, List.setIfInBounds_toArray, List.set_cons_zero, List.set_cons_succ]
            refine wpAny_ready (rs := [29]) (by kernel_rfl) (by simp) ?_
            refine AllReady.cons (o := ⟨some 123, _, _, _, _, _⟩) rfl (fun K hK => ?_) AllReady.nil
            go_simp
            refine (S_last HX8.out (i := 1) rfl HM.out).mono ?_
            rintro e x9 ⟨rfl, hS⟩
            have HX9 := hide hS
            clear hS
            refine hK _ _ ?_
            clear hK K
            refine wpAny_ready (rs := [31]) (by kernel_rfl) (by simp) ?_
            refine AllReady.cons (o := ⟨some 125, _, _, _, _, _⟩) rfl (fun K hK => ?_) AllReady.nil
            go_simp
            refine (S_last HX9.out (i := 0) rfl HM.out).mono ?_
            rintro e x10 ⟨rfl, hS⟩
            have HX10 := hide hS
            clear hS
            refine hK _ _ ?_
            clear hK K
            refine wpAny_take (i := 32) (oi := ⟨some 126, _, _, _, _, _⟩) (v := ?_) rfl (by kernel_rfl) (by kernel_rfl) (by kernel_rfl) (fun _ _ _ h => h) (Or.inl ⟨by rfl, ?_⟩) ?_
            rotate_left 1
            · (intro w; go_simp; try with_reducible rfl)
            simp only [Act.put, List.setIfInBounds_toArray, List.set_cons_zero, List.set_cons_succ]
            refine wpAny_take (i := 33) (oi := ⟨some 127, _, _, _, _, _⟩) (v := ?_) rfl (by kernel_rfl) (by kernel_rfl) (by kernel_rfl) (fun _ _ _ h => h) (Or.inl ⟨by rfl, ?_⟩) ?_
            rotate_left 1
            · (intro w; go_simp; try with_reducible rfl)
            simp only [Act.put, List.setIfInBounds_toArray, List.set_cons_zero, List.set_cons_succ]
            refine wpAny_take (i := 34) (oi := ⟨some 8, _, _, _, _, _⟩) (v := ?_) rfl (by kernel_rfl) (by kernel_rfl) (by kernel_rfl) (fun _ _ _ h => h) (Or.inl ⟨by rfl, ?_⟩) ?_
            rotate_left 1
            · (intro w; go_simp; try with_reducible rfl)
            simp only [Act.put, List.setIfInBounds_toArray, List.set_cons_zero, List.set_cons_succ]
            refine wpAny_done (by kernel_rfl) ?_ _
            have HB9 := hide (HE.out _ (St.weaken (Ts := []) HX10.out))
            go_wp2
            go_ret
            exact ⟨by first | rfl | simp, HB9.out⟩
          · go_simp
            obtain ⟨Gr, hpr, _, _⟩ := St.opened HX1.out (i := 0) rfl
            refine (Bytes_any hpr HM.out (by have := Ht.out; omega)).mono ?_
            rintro e x2 ⟨v4, rfl, hO, hb⟩
            obtain ⟨A7, c7, rfl, _, _, hby⟩ := hO.form
            have HX2b := hide hb
            have HX2 := hide (HX1.out.below hb)
            have HBy2 := hide hby
            clear hb hpr hO hby
            refine hK _ _ ?_
            clear hK K
            refine wpAny_ready (rs := [5, 8]) (by kernel_rfl) (by simp) ?_
            refine AllReady.cons (o := ⟨some 99, _, _, _, _, _⟩) rfl (fun K hK => ?_) (AllReady.cons (o := ⟨some 102, _, _, _, _, _⟩) rfl (fun K hK => ?_) AllReady.nil)
            · have hcv := Sm.run_str _ _ A8 _ n8 c8 Hl8.out (HBy.out.below HX2b.out)
              go_simp
              clear hcv
              refine hK _ _ ?_
              clear hK K
              refine wpAny_ready (rs := [8]) (by kernel_rfl) (by simp) ?_
              refine AllReady.cons (o := ⟨some 102, _, _, _, _, _⟩) rfl (fun K hK => ?_) AllReady.nil
              have hcv := Sm.run_str _ _ A7 _ _ c7 rfl HBy2.out
              go_simp
              clear hcv
              refine hK _ _ ?_
              clear hK K
              refine wpAny_take (i := 9) (oi := ⟨some 103, _, _, _, _, _⟩) (v := ?_) rfl (by kernel_rfl) (by kernel_rfl) (by kernel_rfl) (fun _ _ _ h => h) (Or.inl ⟨by rfl, ?_⟩) ?_
              rotate_left 1
              · (intro w; go_simp; try with_reducible rfl)
              simp only [Act.put, List.setIfInBounds_toArray, List.set_cons_zero, List.set_cons_succ]
              refine wpAny_take (i := 10) (oi := ⟨some 104, _, _, _, _, _⟩) (v := ?_) rfl (by kernel_rfl) (by kernel_rfl) (by kernel_rfl) (fun _ _ _ h => h) (Or.inl ⟨by rfl, ?_⟩) ?_
              rotate_left 1
              · (intro w; go_simp; try with_reducible rfl)
              simp only [Act.put, List.setIfInBounds_toArray, List.set_cons_zero, List.set_cons_succ]
              refine wpAny_take (i := 11) (oi := ⟨some 105, _, _, _, _, _⟩) (v := ?_) rfl (by kernel_rfl) (by kernel_rfl) (by kernel_rfl) (fun _ _ _ h => h) (Or.inl ⟨by rfl, ?_⟩) ?_
              rotate_left 1
              · (intro w; go_simp; try with_reducible rfl)
              simp only [Act.put, List.setIfInBounds_toArray, List.set_cons_zero, List.set_cons_succ]
              refine wpAny_take (i := 12) (oi := ⟨some 106, _, _, _, _, _⟩) (v := ?_) rfl (by kernel_rfl) (by kernel_rfl) (by kernel_rfl) (fun _ _ _ h => h) (Or.inl ⟨by rfl, ?_⟩) ?_
              rotate_left 1
              · (intro w; go_simp; try with_reducible rfl)
              simp only [Act.put, List.setIfInBounds_toArray, List.set_cons_zero, List.set_cons_succ]
              refine wpAny_take (i := 14) (oi := ⟨some 108, _, _, _, _, _⟩) (v := ?_) rfl (by kernel_rfl) (by kernel_rfl) (by kernel_rfl) (fun _ _ _ h => h) (Or.inl ⟨by rfl, ?_⟩) ?_
              rotate_left 1
              · (intro w; go_simp; try with_reducible rfl)
              simp only [Act.put, List.setIfInBounds_toArray, List.set_cons_zero, List.set_cons_succ]
              refine wpAny_ready (rs := [13]) (by kernel_rfl) (by simp) ?_
              refine AllReady.cons (o := ⟨some 107, _, _, _, _, _⟩) rfl (fun K hK => ?_) AllReady.nil
              go_simp
              refine (S_now HX2.out (i := 1) rfl HM.out Ht.out).mono ?_
              intro e x3 hrow
              rw [HLn.out] at hrow
              obtain ⟨V3, d3, rfl, hS⟩ := hrow
              have HX3 := hide (show St w9 ([grpT px t M2, grpT py t M2, rowT 3 1 (.slice V3 ln.length d3) ln.length (nums ln)]) x3 from hS)
              clear hS
              refine hK _ _ ?_
              clear hK K
              refine wpAny_ready (rs := [15]) (by kernel_rfl) (by simp) ?_
              refine AllReady.cons (o := ⟨some 109, _, _, _, _, _⟩) rfl (fun K hK => ?_) AllReady.nil
              go_simp
              refine (S_now HX3.out (i := 0) rfl HM.out Ht.out).mono ?_
              intro e x4 hrow
              rw [HLn.out] at hrow
              obtain ⟨V4, d4, rfl, hS⟩ := hrow
              have HX4 := hide (show St w9 ([grpT px t M2, grpT py t M2, rowT 3 1 (.slice V3 ln.length d3) ln.length (nums ln), rowT 3 1 (.slice V4 ln.length d4) ln.length (nums ln)]) x4 from hS)
              clear hS
              refine hK _ _ ?_
              clear hK K
              refine wpAny_ready (rs := [16]) (by kernel_rfl) (by simp) ?_
              refine AllReady.cons (o := ⟨some 110, _, _, _, _, _⟩) rfl (fun K hK => ?_) AllReady.nil
              go_simp
              have HQ := hide (same_any (w := x4) ln ln _ _ V3 V4 d3 d4 rfl rfl (by have := HLn4.out; omega) (St.src HX4.out (i := 2) rfl) (St.src HX4.out (i := 3) rfl))
              rw [decide_eq_true rfl] at HQ
              refine HQ.out.mono ?_
              rintro e x5 ⟨rfl, hb⟩
              have HX5 := hide ((St.weaken (Ts := [grpT px t M2, grpT py t M2]) (Us := [_, _]) HX4.out).below hb)
              clear hb HQ
              refine hK _ _ ?_
              clear hK K
              refine wpAny_take (i := 17) (oi := ⟨some 111, _, _, _, _, _⟩) (v := ?_) rfl (by kernel_rfl) (by kernel_rfl) (by kernel_rfl) (fun _ _ _ h => h) (Or.inl ⟨by rfl, ?_⟩) ?_
              rotate_left 1
              · (intro w; go_simp; try with_reducible rfl)
              simp only [Act.put, List.setIfInBounds_toArray, List.set_cons_zero, List.set_cons_succ]
              refine wpAny_take (i := 18) (oi := ⟨some 112, _, _, _, _, _⟩) (v := ?_) rfl (by kernel_rfl) (by kernel_rfl) (by kernel_rfl) (fun _ _ _ h => h) (Or.inl ⟨by rfl, ?_⟩) ?_
              rotate_left 1
              · (intro w; go_simp; try with_reducible rfl)
              simp only [Act.put, List.setIfInBounds_toArray, List.set_cons_zero, List.set_cons_succ]
              refine wpAny_take (i := 19) (oi := ⟨some 113, _, _, _, _, _⟩) (v := ?_) rfl (by kernel_rfl) (by kernel_rfl) (by kernel_rfl) (fun _ _ _ h => h) (Or.inl ⟨by rfl, ?_⟩) ?_
              rotate_left 1
              · (intro w; go_simp; try with_reducible rfl)
              simp only [Act.put, List.setIfInBounds_toArray, List.set_cons_zero, List.set_cons_succ]
              refine wpAny_take (i := 20) (oi := ⟨some 114, _, _, _, _, _⟩) (v := ?_) rfl (by kernel_rfl) (by kernel_rfl) (by kernel_rfl) (fun _ _ _ h => h) (Or.inl ⟨by rfl, ?_⟩) ?_
              rotate_left 1
              · (intro w; go_simp; try with_reducible rfl)
              simp only [Act.put, List.setIfInBounds_toArray, List.set_cons_zero, List.set_cons_succ]
              refine wpAny_take (i := 22) (oi := ⟨some 116, _, _, _, _, _⟩) (v := ?_) rfl (by kernel_rfl) (by kernel_rfl) (by kernel_rfl) (fun _ _ _ h => h) (Or.inl ⟨by rfl, ?_⟩) ?_
              rotate_left 1
              · (intro w; go_simp; try with_reducible rfl)
              simp only [Act.put, List.setIfInBounds_toArray, List.set_cons_zero, List.set_cons_succ]
              refine wpAny_take (i := 23) (oi := ⟨some 117, _, _, _, _, _⟩) (v := ?_) rfl (by kernel_rfl) (by kernel_rfl) (by kernel_rfl) (fun _ _ _ h => h) (Or.inl ⟨by rfl, ?_⟩) ?_
              rotate_left 1
              · (intro w; go_simp; try with_reducible rfl)
              simp only [Act.put, List.setIfInBounds_toArray, List.set_cons_zero, List.set_cons_succ]
              refine wpAny_ready (rs := [21]) (by kernel_rfl) (by simp) ?_
              refine AllReady.cons (o := ⟨some 115, _, _, _, _, _⟩) rfl (fun K hK => ?_) AllReady.nil
              go_simp
              refine (S_at HX5.out (i := 1) rfl HM.out Ht.out mark).mono ?_
              intro e x6 hrow
              rw [HLm.out] at hrow
              obtain ⟨V6, d6, rfl, hS⟩ := hrow
              have HX6 := hide (show St w9 ([grpT px t M2, grpT py t M2, rowT 3 1 (.slice V6 lm.length d6) lm.length (nums lm)]) x6 from hS)
              clear hS
              refine hK _ _ ?_
              clear hK K
              refine wpAny_ready (rs := [24]) (by kernel_rfl) (by simp) ?_
              refine AllReady.cons (o := ⟨some 118, _, _, _, _, _⟩) rfl (fun K hK => ?_) AllReady.nil
              go_simp
              refine (S_at HX6.out (i := 0) rfl HM.out Ht.out mark).mono ?_
              intro e x7 hrow
              rw [HLm.out] at hrow
              obtain ⟨V7, d7, rfl, hS⟩ := hrow
              have HX7 := hide (show St w9 ([grpT px t M2, grpT py t M2, rowT 3 1 (.slice V6 lm.length d6) lm.length (nums lm), rowT 3 1 (.slice V7 lm.length d7) lm.length (nums lm)]) x7 from hS)
              clear hS
              refine hK _ _ ?_
              clear hK K
              refine wpAny_ready (rs := [25]) (by kernel_rfl) (by simp) ?_
              refine AllReady.cons (o := ⟨some 119, _, _, _, _, _⟩) rfl (fun K hK => ?_) AllReady.nil
              go_simp
              have HQ := hide (same_any (w := x7) lm lm _ _ V6 V7 d6 d7 rfl rfl (by have := HLm4.out; omega) (St.src HX7.out (i := 2) rfl) (St.src HX7.out (i := 3) rfl))
              rw [decide_eq_true rfl] at HQ
              refine HQ.out.mono ?_
              rintro e x8 ⟨rfl, hb⟩
              have HX8 := hide ((St.weaken (Ts := [grpT px t M2, grpT py t M2]) (Us := [_, _]) HX7.out).below hb)
              clear hb HQ
              refine hK _ _ ?_
              clear hK K
              refine wpAny_take (i := 26) (oi := ⟨some 120, _, _, _, _, _⟩) (v := ?_) rfl (by kernel_rfl) (by kernel_rfl) (by kernel_rfl) (fun _ _ _ h => h) (Or.inl ⟨by rfl, ?_⟩) ?_
              rotate_left 1
              · (intro w; go_simp; try with_reducible rfl)
              simp only [Act.put, List.setIfInBounds_toArray, List.set_cons_zero, List.set_cons_succ]
              refine wpAny_take (i := 27) (oi := ⟨some 121, _, _, _, _, _⟩) (v := ?_) rfl (by kernel_rfl) (by kernel_rfl) (by kernel_rfl) (fun _ _ _ h => h) (Or.inl ⟨by rfl, ?_⟩) ?_
              rotate_left 1
              · (intro w; go_simp; try with_reducible rfl)
              simp only [Act.put, List.setIfInBounds_toArray, List.set_cons_zero, List.set_cons_succ]
              refine wpAny_take (i := 28) (oi := ⟨some 122, _, _, _, _, _⟩) (v := ?_) rfl (by kernel_rfl) (by kernel_rfl) (by kernel_rfl) (fun _ _ _ h => h) (Or.inl ⟨by rfl, ?_⟩) ?_
              rotate_left 1
              · (intro w; go_simp; try with_reducible rfl)
              simp only [Act.put, List.setIfInBounds_toArray, List.set_cons_zero, List.set_cons_succ]
              refine wpAny_take (i := 30) (oi := ⟨some 124, _, _, _, _, _⟩) (v := ?_) rfl (by kernel_rfl) (by kernel_rfl) (by kernel_rfl) (fun _ _ _ h => h) (Or.inl ⟨by rfl, ?_⟩) ?_
              rotate_left 1
              · (intro w; go_simp; try with_reducible rfl)
              simp only [Act.put, List.setIfInBounds_toArray, List.set_cons_zero, List.set_cons_succ]
              refine wpAny_ready (rs := [29]) (by kernel_rfl) (by simp) ?_
              refine AllReady.cons (o := ⟨some 123, _, _, _, _, _⟩) rfl (fun K hK => ?_) AllReady.nil
              go_simp
              refine (S_last HX8.out (i := 1) rfl HM.out).mono ?_
              rintro e x9 ⟨rfl, hS⟩
              have HX9 := hide hS
              clear hS
              refine hK _ _ ?_
              clear hK K
              refine wpAny_ready (rs := [31]) (by kernel_rfl) (by simp) ?_
              refine AllReady.cons (o := ⟨some 125, _, _, _, _, _⟩) rfl (fun K hK => ?_) AllReady.nil
              go_simp
              refine (S_last HX9.out (i := 0) rfl HM.out).mono ?_
              rintro e x10 ⟨rfl, hS⟩
              have HX10 := hide hS
              clear hS
              refine hK _ _ ?_
              clear hK K
              refine wpAny_take (i := 32) (oi := ⟨some 126, _, _, _, _, _⟩) (v := ?_) rfl (by kernel_rfl) (by kernel_rfl) (by kernel_rfl) (fun _ _ _ h => h) (Or.inl ⟨by rfl, ?_⟩) ?_
              rotate_left 1
              · (intro w; go_simp; try with_reducible rfl)
              simp only [Act.put, List.setIfInBounds_toArray, List.set_cons_zero, List.set_cons_succ]
              refine wpAny_take (i := 33) (oi := ⟨some 127, _, _, _, _, _⟩) (v := ?_) rfl (by kernel_rfl) (by kernel_rfl) (by kernel_rfl) (fun _ _ _ h => h) (Or.inl ⟨by rfl, ?_⟩) ?_
              rotate_left 1
              · (intro w; go_simp; try with_reducible rfl)
              simp only [Act.put, List.setIfInBounds_toArray, List.set_cons_zero, List.set_cons_succ]
              refine wpAny_take (i := 34) (oi := ⟨some 8, _, _, _, _, _⟩) (v := ?_) rfl (by kernel_rfl) (by kernel_rfl) (by kernel_rfl) (fun _ _ _ h => h) (Or.inl ⟨by rfl, ?_⟩) ?_
              rotate_left 1
              · (intro w; go_simp; try with_reducible rfl)
              simp only [Act.put, List.setIfInBounds_toArray, List.set_cons_zero, List.set_cons_succ]
              refine wpAny_done (by kernel_rfl) ?_ _
              have HB9 := hide (HE.out _ (St.weaken (Ts := []) HX10.out))
              go_wp2
              go_ret
              exact ⟨by first | rfl | simp, HB9.out⟩
            · have hcv := Sm.run_str _ _ A7 _ _ c7 rfl HBy2.out
              go_simp
              clear hcv
              refine hK _ _ ?_
              clear hK K
              refine wpAny_ready (rs := [5]) (by kernel_rfl) (by simp) ?_
              refine AllReady.cons (o := ⟨some 99, _, _, _, _, _⟩) rfl (fun K hK => ?_) AllReady.nil
              have hcv := Sm.run_str _ _ A8 _ n8 c8 Hl8.out (HBy.out.below HX2b.out)
              go_simp
              clear hcv
              refine hK _ _ ?_
              clear hK K
              refine wpAny_take (i := 9) (oi := ⟨some 103, _, _, _, _, _⟩) (v := ?_) rfl (by kernel_rfl) (by kernel_rfl) (by kernel_rfl) (fun _ _ _ h => h) (Or.inl ⟨by rfl, ?_⟩) ?_
              rotate_left 1
              · (intro w; go_simp; try with_reducible rfl)
              simp only [Act.put, List.setIfInBounds_toArray, List.set_cons_zero, List.set_cons_succ]
              refine wpAny_take (i := 10) (oi := ⟨some 104, _, _, _, _, _⟩) (v := ?_) rfl (by kernel_rfl) (by kernel_rfl) (by kernel_rfl) (fun _ _ _ h => h) (Or.inl ⟨by rfl, ?_⟩) ?_
              rotate_left 1
              · (intro w; go_simp; try with_reducible rfl)
              simp only [Act.put, List.setIfInBounds_toArray, List.set_cons_zero, List.set_cons_succ]
              refine wpAny_take (i := 11) (oi := ⟨some 105, _, _, _, _, _⟩) (v := ?_) rfl (by kernel_rfl) (by kernel_rfl) (by kernel_rfl) (fun _ _ _ h => h) (Or.inl ⟨by rfl, ?_⟩) ?_
              rotate_left 1
              · (intro w; go_simp; try with_reducible rfl)
              simp only [Act.put, List.setIfInBounds_toArray, List.set_cons_zero, List.set_cons_succ]
              refine wpAny_take (i := 12) (oi := ⟨some 106, _, _, _, _, _⟩) (v := ?_) rfl (by kernel_rfl) (by kernel_rfl) (by kernel_rfl) (fun _ _ _ h => h) (Or.inl ⟨by rfl, ?_⟩) ?_
              rotate_left 1
              · (intro w; go_simp; try with_reducible rfl)
              simp only [Act.put, List.setIfInBounds_toArray, List.set_cons_zero, List.set_cons_succ]
              refine wpAny_take (i := 14) (oi := ⟨some 108, _, _, _, _, _⟩) (v := ?_) rfl (by kernel_rfl) (by kernel_rfl) (by kernel_rfl) (fun _ _ _ h => h) (Or.inl ⟨by rfl, ?_⟩) ?_
              rotate_left 1
              · (intro w; go_simp; try with_reducible rfl)
              simp only [Act.put, List.setIfInBounds_toArray, List.set_cons_zero, List.set_cons_succ]
              refine wpAny_ready (rs := [13]) (by kernel_rfl) (by simp) ?_
              refine AllReady.cons (o := ⟨some 107, _, _, _, _, _⟩) rfl (fun K hK => ?_) AllReady.nil
              go_simp
              refine (S_now HX2.out (i := 1) rfl HM.out Ht.out).mono ?_
              intro e x3 hrow
              rw [HLn.out] at hrow
              obtain ⟨V3, d3, rfl, hS⟩ := hrow
              have HX3 := hide (show St w9 ([grpT px t M2, grpT py t M2, rowT 3 1 (.slice V3 ln.length d3) ln.length (nums ln)]) x3 from hS)
              clear hS
              refine hK _ _ ?_
              clear hK K
              refine wpAny_ready (rs := [15]) (by kernel_rfl) (by simp) ?_
              refine AllReady.cons (o := ⟨some 109, _, _, _, _, _⟩) rfl (fun K hK => ?_) AllReady.nil
              go_simp
              refine (S_now HX3.out (i := 0) rfl HM.out Ht.out).mono ?_
              intro e x4 hrow
              rw [HLn.out] at hrow
              obtain ⟨V4, d4, rfl, hS⟩ := hrow
              have HX4 := hide (show St w9 ([grpT px t M2, grpT py t M2, rowT 3 1 (.slice V3 ln.length d3) ln.length (nums ln), rowT 3 1 (.slice V4 ln.length d4) ln.length (nums ln)]) x4 from hS)
              clear hS
              refine hK _ _ ?_
              clear hK K
              refine wpAny_ready (rs := [16]) (by kernel_rfl) (by simp) ?_
              refine AllReady.cons (o := ⟨some 110, _, _, _, _, _⟩) rfl (fun K hK => ?_) AllReady.nil
              go_simp
              have HQ := hide (same_any (w := x4) ln ln _ _ V3 V4 d3 d4 rfl rfl (by have := HLn4.out; omega) (St.src HX4.out (i := 2) rfl) (St.src HX4.out (i := 3) rfl))
              rw [decide_eq_true rfl] at HQ
              refine HQ.out.mono ?_
              rintro e x5 ⟨rfl, hb⟩
              have HX5 := hide ((St.weaken (Ts := [grpT px t M2, grpT py t M2]) (Us := [_, _]) HX4.out).below hb)
              clear hb HQ
              refine hK _ _ ?_
              clear hK K
              refine wpAny_take (i := 17) (oi := ⟨some 111, _, _, _, _, _⟩) (v := ?_) rfl (by kernel_rfl) (by kernel_rfl) (by kernel_rfl) (fun _ _ _ h => h) (Or.inl ⟨by rfl, ?_⟩) ?_
              rotate_left 1
              · (intro w; go_simp; try with_reducible rfl)
              simp only [Act.put, List.setIfInBounds_toArray, List.set_cons_zero, List.set_cons_succ]
              refine wpAny_take (i := 18) (oi := ⟨some 112, _, _, _, _, _⟩) (v := ?_) rfl (by kernel_rfl) (by kernel_rfl) (by kernel_rfl) (fun _ _ _ h => h) (Or.inl ⟨by rfl, ?_⟩) ?_
              rotate_left 1
              · (intro w; go_simp; try with_reducible rfl)
              simp only [Act.put, List.setIfInBounds_toArray, List.set_cons_zero, List.set_cons_succ]
              refine wpAny_take (i := 19) (oi := ⟨some 113, _, _, _, _, _⟩) (v := ?_) rfl (by kernel_rfl) (by kernel_rfl) (by kernel_rfl) (fun _ _ _ h => h) (Or.inl ⟨by rfl, ?_⟩) ?_
              rotate_left 1
              · (intro w; go_simp; try with_reducible rfl)
              simp only [Act.put, List.setIfInBounds_toArray, List.set_cons_zero, List.set_cons_succ]
              refine wpAny_take (i := 20) (oi := ⟨some 114, _, _, _, _, _⟩) (v := ?_) rfl (by kernel_rfl) (by kernel_rfl) (by kernel_rfl) (fun _ _ _ h => h) (Or.inl ⟨by rfl, ?_⟩) ?_
              rotate_left 1
              · (intro w; go_simp; try with_reducible rfl)
              simp only [Act.put, List.setIfInBounds_toArray, List.set_cons_zero, List.set_cons_succ]
              refine wpAny_take (i := 22) (oi := ⟨some 116, _, _, _, _, _⟩) (v := ?_) rfl (by kernel_rfl) (by kernel_rfl) (by kernel_rfl) (fun _ _ _ h => h) (Or.inl ⟨by rfl, ?_⟩) ?_
              rotate_left 1
              · (intro w; go_simp; try with_reducible rfl)
              simp only [Act.put, List.setIfInBounds_toArray, List.set_cons_zero, List.set_cons_succ]
              refine wpAny_take (i := 23) (oi := ⟨some 117, _, _, _, _, _⟩) (v := ?_) rfl (by kernel_rfl) (by kernel_rfl) (by kernel_rfl) (fun _ _ _ h => h) (Or.inl ⟨by rfl, ?_⟩) ?_
              rotate_left 1
              · (intro w; go_simp; try with_reducible rfl)
              simp only [Act.put, List.setIfInBounds_toArray, List.set_cons_zero, List.set_cons_succ]
              refine wpAny_ready (rs := [21]) (by kernel_rfl) (by simp) ?_
              refine AllReady.cons (o := ⟨some 115, _, _, _, _, _⟩) rfl (fun K hK => ?_) AllReady.nil
              go_simp
              refine (S_at HX5.out (i := 1) rfl HM.out Ht.out mark).mono ?_
              intro e x6 hrow
              rw [HLm.out] at hrow
              obtain ⟨V6, d6, rfl, hS⟩ := hrow
              have HX6 := hide (show St w9 ([grpT px t M2, grpT py t M2, rowT 3 1 (.slice V6 lm.length d6) lm.length (nums lm)]) x6 from hS)
              clear hS
              refine hK _ _ ?_
              clear hK K
              refine wpAny_ready (rs := [24]) (by kernel_rfl) (by simp) ?_
              refine AllReady.cons (o := ⟨some 118, _, _, _, _, _⟩) rfl (fun K hK => ?_) AllReady.nil
              go_simp
              refine (S_at HX6.out (i := 0) rfl HM.out Ht.out mark).mono ?_
              intro e x7 hrow
              rw [HLm.out] at hrow
              obtain ⟨V7, d7, rfl, hS⟩ := hrow
              have HX7 := hide (show St w9 ([grpT px t M2, grpT py t M2, rowT 3 1 (.slice V6 lm.length d6) lm.length (nums lm), rowT 3 1 (.slice V7 lm.length d7) lm.length (nums lm)]) x7 from hS)
              clear hS
              refine hK _ _ ?_
              clear hK K
              refine wpAny_ready (rs := [25]) (by kernel_rfl) (by simp) ?_
              refine AllReady.cons (o := ⟨some 119, _, _, _, _, _⟩) rfl (fun K hK => ?_) AllReady.nil
              go_simp
              have HQ := hide (same_any (w := x7) lm lm _ _ V6 V7 d6 d7 rfl rfl (by have := HLm4.out; omega) (St.src HX7.out (i := 2) rfl) (St.src HX7.out (i := 3) rfl))
              rw [decide_eq_true rfl] at HQ
              refine HQ.out.mono ?_
              rintro e x8 ⟨rfl, hb⟩
              have HX8 := hide ((St.weaken (Ts := [grpT px t M2, grpT py t M2]) (Us := [_, _]) HX7.out).below hb)
              clear hb HQ
              refine hK _ _ ?_
              clear hK K
              refine wpAny_take (i := 26) (oi := ⟨some 120, _, _, _, _, _⟩) (v := ?_) rfl (by kernel_rfl) (by kernel_rfl) (by kernel_rfl) (fun _ _ _ h => h) (Or.inl ⟨by rfl, ?_⟩) ?_
              rotate_left 1
              · (intro w; go_simp; try with_reducible rfl)
              simp only [Act.put, List.setIfInBounds_toArray, List.set_cons_zero, List.set_cons_succ]
              refine wpAny_take (i := 27) (oi := ⟨some 121, _, _, _, _, _⟩) (v := ?_) rfl (by kernel_rfl) (by kernel_rfl) (by kernel_rfl) (fun _ _ _ h => h) (Or.inl ⟨by rfl, ?_⟩) ?_
              rotate_left 1
              · (intro w; go_simp; try with_reducible rfl)
              simp only [Act.put, List.setIfInBounds_toArray, List.set_cons_zero, List.set_cons_succ]
              refine wpAny_take (i := 28) (oi := ⟨some 122, _, _, _, _, _⟩) (v := ?_) rfl (by kernel_rfl) (by kernel_rfl) (by kernel_rfl) (fun _ _ _ h => h) (Or.inl ⟨by rfl, ?_⟩) ?_
              rotate_left 1
              · (intro w; go_simp; try with_reducible rfl)
              simp only [Act.put, List.setIfInBounds_toArray, List.set_cons_zero, List.set_cons_succ]
              refine wpAny_take (i := 30) (oi := ⟨some 124, _, _, _, _, _⟩) (v := ?_) rfl (by kernel_rfl) (by kernel_rfl) (by kernel_rfl) (fun _ _ _ h => h) (Or.inl ⟨by rfl, ?_⟩) ?_
              rotate_left 1
              · (intro w; go_simp; try with_reducible rfl)
              simp only [Act.put, List.setIfInBounds_toArray, List.set_cons_zero, List.set_cons_succ]
              refine wpAny_ready (rs := [29]) (by kernel_rfl) (by simp) ?_
              refine AllReady.cons (o := ⟨some 123, _, _, _, _, _⟩) rfl (fun K hK => ?_) AllReady.nil
              go_simp
              refine (S_last HX8.out (i := 1) rfl HM.out).mono ?_
              rintro e x9 ⟨rfl, hS⟩
              have HX9 := hide hS
              clear hS
              refine hK _ _ ?_
              clear hK K
              refine wpAny_ready (rs := [31]) (by kernel_rfl) (by simp) ?_
              refine AllReady.cons (o := ⟨some 125, _, _, _, _, _⟩) rfl (fun K hK => ?_) AllReady.nil
              go_simp
              refine (S_last HX9.out (i := 0) rfl HM.out).mono ?_
              rintro e x10 ⟨rfl, hS⟩
              have HX10 := hide hS
              clear hS
              refine hK _ _ ?_
              clear hK K
              refine wpAny_take (i := 32) (oi := ⟨some 126, _, _, _, _, _⟩) (v := ?_) rfl (by kernel_rfl) (by kernel_rfl) (by kernel_rfl) (fun _ _ _ h => h) (Or.inl ⟨by rfl, ?_⟩) ?_
              rotate_left 1
              · (intro w; go_simp; try with_reducible rfl)
              simp only [Act.put, List.setIfInBounds_toArray, List.set_cons_zero, List.set_cons_succ]
              refine wpAny_take (i := 33) (oi := ⟨some 127, _, _, _, _, _⟩) (v := ?_) rfl (by kernel_rfl) (by kernel_rfl) (by kernel_rfl) (fun _ _ _ h => h) (Or.inl ⟨by rfl, ?_⟩) ?_
              rotate_left 1
              · (intro w; go_simp; try with_reducible rfl)
              simp only [Act.put, List.setIfInBounds_toArray, List.set_cons_zero, List.set_cons_succ]
              refine wpAny_take (i := 34) (oi := ⟨some 8, _, _, _, _, _⟩) (v := ?_) rfl (by kernel_rfl) (by kernel_rfl) (by kernel_rfl) (fun _ _ _ h => h) (Or.inl ⟨by rfl, ?_⟩) ?_
              rotate_left 1
              · (intro w; go_simp; try with_reducible rfl)
              simp only [Act.put, List.setIfInBounds_toArray, List.set_cons_zero, List.set_cons_succ]
              refine wpAny_done (by kernel_rfl) ?_ _
              have HB9 := hide (HE.out _ (St.weaken (Ts := []) HX10.out))
              go_wp2
              go_ret
              exact ⟨by first | rfl | simp, HB9.out⟩
        · exfalso
          rw [grpOf_wrote HM.out Ht.out] at hg
          cases hg
    · exfalso
      have := HG.out
      rw [hg'] at this
      cases this
  · have HG := hide hg
    have HF := hide hF.1
    have HB3 := hide (HBb.out.trans (hF.2.mono HBb.out.size))
    clear hg hF HBb
    go_wp2_with fail
    refine (RFromBytes_any l s0 Hstr.out Hsz.out w3).mono ?_
    intro e w4 hrf
    rcases hrf with ⟨q, s', M', hg', _, _⟩ | ⟨_, rfl, hb4⟩
    · exfalso
      have := HG.out
      rw [hg'] at this
      cases this
    · have HB4 := hide (HB3.out.trans (hb4.mono HB3.out.size))
      have HP := hide (place_flt (HE0.out _ HB4.out) (Flt.below HF.out hb4) (by decide))
      clear hb4 HF HB3 HG
      go_wp2_with fail
      refine HP.out.mono ?_
      rintro e w9 ⟨rfl, hb⟩
      have HBX := hide (HB4.out.trans (hb.mono HB4.out.size))
      clear hb HP HB4
      go_wp2_with fail
      refine (New_any A1 n1 c1 l1 w9 Hl1.out (by have := Hn1.out; omega) (Hs1.out.below HBX.out)).mono ?_
      intro e y1 hnew
      cases hN : newS 0 l1 with
      | inr z =>
        obtain ⟨u, f⟩ := z
        rw [hN] at hnew
        obtain ⟨fb, rfl, hF⟩ := hnew
        have HB3 := hide (HBX.out.trans (hF.2.mono HBX.out.size))
        clear hF hN
        go_wp2
        go_ret
        exact ⟨rfl, HB3.out⟩
      | inl t =>
        rw [hN] at hnew
        have hnew' : e = .returned (.tuple #[.pointer (some ⟨w9.heap.size, 0, none⟩), .nilIface]) ∧ St w9 [grpT w9.heap.size t []] y1 := hnew
        obtain ⟨rfl, hS⟩ := hnew'
        have Ht := hide (newS_lt l1 0 t (by decide) hN)
        have HS3 := hide hS
        have HE : Hid (∀ W, St w9 [] W → Below w.heap.size w W) := fun W hW => HBX.out.trans (hW.bel.mono HBX.out.size)
        have Hsr := hide (Hs2.out.below HBX.out)
        clear hnew hS hN HBX
        generalize w9.heap.size = px at *
        go_wp2_with fail
        refine (play_any HS3.out Fine.nil Ht.out A2 n2 c2 l2 Hl2.out (by have := Hn2.out; omega) Hsr.out).mono ?_
        rintro e y2 ⟨rfl, M2, hM, hS⟩
        have HM := hide hM
        have HS4 := hide hS
        clear hM hS HS3 Hsr
        go_wp2_with fail
        refine (S_bytes HS4.out (i := 0) rfl HM.out Ht.out).mono ?_
        rintro e y3 ⟨⟨A9, n9, c9, rfl, hl9, hnc, hcm, hby⟩, hS⟩
        have HS5 := hide hS
        have HFB := hide (FromBytes_any A9 n9 c9 _ y3 hl9 hby hnc hcm)
        clear hl9 hnc hcm hby hS HS4
        go_wp2_with fail
        refine HFB.out.mono ?_
        intro e y4 hfrom
        clear HFB
        rcases hfrom with ⟨s', M', hg, rfl, hS⟩ | ⟨hg, _⟩
        · rw [grpOf_wrote HM.out Ht.out] at hg
          simp only [Option.some.injEq, Prod.mk.injEq] at hg
          obtain ⟨rfl, rfl⟩ := hg
          obtain ⟨G, hp, hG, _⟩ := St.opened hS (i := 0) rfl
          have HS6 := hide (show St w9 [grpT px t M2, grpT y3.heap.size t M2] y4 from HS5.out.add hS.bel hp hG)
          clear hS hp hG HS5
          generalize y3.heap.size = py at *
          go_wp2_with fail
          have HX0 := hide (HS6.out.below (Below.refl _ _).drew)
          obtain ⟨ln, hln⟩ : ∃ ln, vols (atS t M2 (last M2)) 4 = ln := ⟨_, rfl⟩
          have HLn := hide hln
          have HLn4 := hide (show ln.length ≤ 4 by rw [← hln]; exact vols_len _ 4)
          obtain ⟨lm, hlm⟩ : ∃ lm, vols (atS t M2 mark) 4 = lm := ⟨_, rfl⟩
          have HLm := hide hlm
          have HLm4 := hide (show lm.length ≤ 4 by rw [← hlm]; exact vols_len _ 4)
          clear hln hlm HS6
          refine wp_region_any (by kernel_rfl) ?_
          change wpAny _ _ _ _ _ _ _ (World.drew _)
          refine wpAny_take (i := 0) (oi := ⟨some 94, _, _, _, _, _⟩) (v := ?_) rfl (by kernel_rfl) (by kernel_rfl) (by kernel_rfl) (fun _ _ _ h => h) (Or.inl ⟨by rfl, ?_⟩) ?_
          rotate_left 1
          · (intro w; go_simp; try with_reducible rfl)
          simp only [Act.put, List.setIfInBounds_toArray, List.set_cons_zero, List.set_cons_succ]
          refine wpAny_take (i := 1) (oi := ⟨some 95, _, _, _, _, _⟩) (v := ?_) rfl (by kernel_rfl) (by kernel_rfl) (by kernel_rfl) (fun _ _ _ h => h) (Or.inl ⟨by rfl, ?_⟩) ?_
          rotate_left 1
          · (intro w; go_simp; try with_reducible rfl)
          simp only [Act.put, List.setIfInBounds_toArray, List.set_cons_zero, List.set_cons_succ]
          refine wpAny_take (i := 2) (oi := ⟨some 96, _, _, _, _, _⟩) (v := ?_) rfl (by kernel_rfl) (by kernel_rfl) (by kernel_rfl) (fun _ _ _ h => h) (Or.inl ⟨by rfl, ?_⟩) ?_
          rotate_left 1
          · (intro w; go_simp; try with_reducible rfl)
          simp only [Act.put, List.setIfInBounds_toArray, List.set_cons_zero, List.set_cons_succ]
          refine wpAny_take (i := 3) (oi := ⟨some 97, _, _, _, _, _⟩) (v := ?_) rfl (by kernel_rfl) (by kernel_rfl) (by kernel_rfl) (fun _ _ _ h => h) (Or.inl ⟨by rfl, ?_⟩) ?_
          rotate_left 1
          · (intro w; go_simp; try with_reducible rfl)
          simp only [Act.put, List.setIfInBounds_toArray, List.set_cons_zero, List.set_cons_succ]
          refine wpAny_take (i := 6) (oi := ⟨some 100, _, _, _, _, _⟩) (v := ?_) rfl (by kernel_rfl) (by kernel_rfl) (by kernel_rfl) (fun _ _ _ h => h) (Or.inl ⟨by rfl, ?_⟩) ?_
          rotate_left 1
          · (intro w; go_simp; try with_reducible rfl)
          simp only [Act.put, List.setIfInBounds_toArray, List.set_cons_zero, List.set_cons_succ]
          refine wpAny_ready (rs := [4]) (by kernel_rfl) (by simp) ?_
          refine AllReady.cons (o := ⟨some 98, _, _, _, _, _⟩) rfl (fun K hK => ?_) AllReady.nil
          go_simp
          refine (S_bytes HX0.out (i := 1) rfl HM.out Ht.out).mono ?_
          rintro e x1 ⟨⟨A8, n8, c8, rfl, hl8, _, _, hby⟩, hS⟩
          have HBy := hide hby
          have Hl8 := hide hl8
          have HX1 := hide hS
          clear hS hby hl8
          refine hK _ _ ?_
          clear hK K
          refine wpAny_ready (rs := [5, 7]) (by kernel_rfl) (by simp) ?_
          refine AllReady.cons (o := ⟨some 99, _, _, _, _, _⟩) rfl (fun K hK => ?_) (AllReady.cons (o := ⟨some 101, _, _, _, _, _⟩) rfl (fun K hK => ?_) AllReady.nil)
          · have hcv := Sm.run_str _ _ A8 _ n8 c8 Hl8.out (HBy.out)
            go_simp
            clear hcv
            refine hK _ _ ?_
            clear hK K
            refine wpAny_ready (rs := [7]) (by kernel_rfl) (by simp) ?_
            refine AllReady.cons (o := ⟨some 101, _, _, _, _, _⟩) rfl (fun K hK => ?_) AllReady.nil
            go_simp
            obtain ⟨Gr, hpr, _, _⟩ := St.opened HX1.out (i := 0) rfl
            refine (Bytes_any hpr HM.out (by have := Ht.out; omega)).mono ?_
            rintro e x2 ⟨v4, rfl, hO, hb⟩
            obtain ⟨A7, c7, rfl, _, _, hby⟩ := hO.form
            have HX2b := hide hb
            have HX2 := hide (HX1.out.below hb)
            have HBy2 := hide hby
            clear hb hpr hO hby
            refine hK _ _ ?_
            clear hK K
            refine wpAny_ready (rs := [8]) (by kernel_rfl) (by simp) ?_
            refine AllReady.cons (o := ⟨some 102, _, _, _, _, _⟩) rfl (fun K hK => ?_) AllReady.nil
            have hcv := Sm.run_str _ _ A7 _ _ c7 rfl HBy2.out
            go_simp
            clear hcv
            refine hK _ _ ?_
            clear hK K
            refine wpAny_take (i := 9) (oi := ⟨some 103, _, _, _, _, _⟩) (v := ?_) rfl (by kernel_rfl) (by kernel_rfl) (by kernel_rfl) (fun _ _ _ h => h) (Or.inl ⟨by rfl, ?_⟩) ?_
            rotate_left 1
            · (intro w; go_simp; try with_reducible rfl)
            simp only [Act.put, List.setIfInBounds_toArray, List.set_cons_zero, List.set_cons_succ]
            refine wpAny_take (i := 10) (oi := ⟨some 104, _, _, _, _, _⟩) (v := ?_) rfl (by kernel_rfl) (by kernel_rfl) (by kernel_rfl) (fun _ _ _ h => h) (Or.inl ⟨by rfl, ?_⟩) ?_
            rotate_left 1
            · (intro w; go_simp; try with_reducible rfl)
            simp only [Act.put, List.setIfInBounds_toArray, List.set_cons_zero, List.set_cons_succ]
            refine wpAny_take (i := 11) (oi := ⟨some 105, _, _, _, _, _⟩) (v := ?_) rfl (by kernel_rfl) (by kernel_rfl) (by kernel_rfl) (fun _ _ _ h => h) (Or.inl ⟨by rfl, ?_⟩) ?_
            rotate_left 1
            · (intro w; go_simp; try with_reducible rfl)
            simp only [Act.put, List.setIfInBounds_toArray, List.set_cons_zero, List.set_cons_succ]
            refine wpAny_take (i := 12) (oi := ⟨some 106, _, _, _, _, _⟩) (v := ?_) rfl (by kernel_rfl) (by kernel_rfl) (by kernel_rfl) (fun _ _ _ h => h) (Or.inl ⟨by rfl, ?_⟩) ?_
            rotate_left 1
            · (intro w; go_simp; try with_reducible rfl)
            simp only [Act.put, List.setIfInBounds_toArray, List.set_cons_zero, List.set_cons_succ]
            refine wpAny_take (i := 14) (oi := ⟨some 108, _, _, _, _, _⟩) (v := ?_) rfl (by kernel_rfl) (by kernel_rfl) (by kernel_rfl) (fun _ _ _ h => h) (Or.inl ⟨by rfl, ?_⟩) ?_
            rotate_left 1
            · (intro w; go_simp; try with_reducible rfl)
            simp only [Act.put, List.setIfInBounds_toArray, List.set_cons_zero, List.set_cons_succ]
            refine wpAny_ready (rs := [13]) (by kernel_rfl) (by simp) ?_
            refine AllReady.cons (o := ⟨some 107, _, _, _, _, _⟩) rfl (fun K hK => ?_) AllReady.nil
            go_simp
            refine (S_now HX2.out (i := 1) rfl HM.out Ht.out).mono ?_
            intro e x3 hrow
            rw [HLn.out] at hrow
            obtain ⟨V3, d3, rfl, hS⟩ := hrow
            have HX3 := hide (show St w9 ([grpT px t M2, grpT py t M2, rowT 3 1 (.slice V3 ln.length d3) ln.length (nums ln)]) x3 from hS)
            clear hS
            refine hK _ _ ?_
            clear hK K
            refine wpAny_ready (rs := [15]) (by kernel_rfl) (by simp) ?_
            refine AllReady.cons (o := ⟨some 109, _, _, _, _, _⟩) rfl (fun K hK => ?_) AllReady.nil
            go_simp
            refine (S_now HX3.out (i := 0) rfl HM.out Ht.out).mono ?_
            intro e x4 hrow
            rw [HLn.out] at hrow
            obtain ⟨V4, d4, rfl, hS⟩ := hrow
            have HX4 := hide (show St w9 ([grpT px t M2, grpT py t M2, rowT 3 1 (.slice V3 ln.length d3) ln.length (nums ln), rowT 3 1 (.slice V4 ln.length d4) ln.length (nums ln)]) x4 from hS)
            clear hS
            refine hK _ _ ?_
            clear hK K
            refine wpAny_ready (rs := [16]) (by kernel_rfl) (by simp) ?_
            refine AllReady.cons (o := ⟨some 110, _, _, _, _, _⟩) rfl (fun K hK => ?_) AllReady.nil
            go_simp
            have HQ := hide (same_any (w := x4) ln ln _ _ V3 V4 d3 d4 rfl rfl (by have := HLn4.out; omega) (St.src HX4.out (i := 2) rfl) (St.src HX4.out (i := 3) rfl))
            rw [decide_eq_true rfl] at HQ
            refine HQ.out.mono ?_
            rintro e x5 ⟨rfl, hb⟩
            have HX5 := hide ((St.weaken (Ts := [grpT px t M2, grpT py t M2]) (Us := [_, _]) HX4.out).below hb)
            clear hb HQ
            refine hK _ _ ?_
            clear hK K
            refine wpAny_take (i := 17) (oi := ⟨some 111, _, _, _, _, _⟩) (v := ?_) rfl (by kernel_rfl) (by kernel_rfl) (by kernel_rfl) (fun _ _ _ h => h) (Or.inl ⟨by rfl, ?_⟩) ?_
            rotate_left 1
            · (intro w; go_simp; try with_reducible rfl)
            simp only [Act.put, List.setIfInBounds_toArray, List.set_cons_zero, List.set_cons_succ]
            refine wpAny_take (i := 18) (oi := ⟨some 112, _, _, _, _, _⟩) (v := ?_) rfl (by kernel_rfl) (by kernel_rfl) (by kernel_rfl) (fun _ _ _ h => h) (Or.inl ⟨by rfl, ?_⟩) ?_
            rotate_left 1
            · (intro w; go_simp; try with_reducible rfl)
            simp only [Act.put, List.setIfInBounds_toArray, List.set_cons_zero, List.set_cons_succ]
            refine wpAny_take (i := 19) (oi := ⟨some 113, _, _, _, _, _⟩) (v := ?_) rfl (by kernel_rfl) (by kernel_rfl) (by kernel_rfl) (fun _ _ _ h => h) (Or.inl ⟨by rfl, ?_⟩) ?_
            rotate_left 1
            · (intro w; go_simp; try with_reducible rfl)
            simp only [Act.put, List.setIfInBounds_toArray, List.set_cons_zero, List.set_cons_succ]
            refine wpAny_take (i := 20) (oi := ⟨some 114, _, _, _, _, _⟩) (v := ?_) rfl (by kernel_rfl) (by kernel_rfl) (by kernel_rfl) (fun _ _ _ h => h) (Or.inl ⟨by rfl, ?_⟩) ?_
            rotate_left 1
            · (intro w; go_simp; try with_reducible rfl)
            simp only [Act.put, List.setIfInBounds_toArray, List.set_cons_zero, List.set_cons_succ]
            refine wpAny_take (i := 22) (oi := ⟨some 116, _, _, _, _, _⟩) (v := ?_) rfl (by kernel_rfl) (by kernel_rfl) (by kernel_rfl) (fun _ _ _ h => h) (Or.inl ⟨by rfl, ?_⟩) ?_
            rotate_left 1
            · (intro w; go_simp; try with_reducible rfl)
            simp only [Act.put, List.setIfInBounds_toArray, List.set_cons_zero, List.set_cons_succ]
            refine wpAny_take (i := 23) (oi := ⟨some 117, _, _, _, _, _⟩) (v := ?_) rfl (by kernel_rfl) (by kernel_rfl) (by kernel_rfl) (fun _ _ _ h => h) (Or.inl ⟨by rfl, ?_⟩) ?_
            rotate_left 1
            · (intro w; go_simp; try with_reducible rfl)
            simp only [Act.put, List.setIfInBounds_toArray, List.set_cons_zero, List.set_cons_succ]
            refine wpAny_ready (rs := [21]) (by kernel_rfl) (by simp) ?_
            refine AllReady.cons (o := ⟨some 115, _, _, _, _, _⟩) rfl (fun K hK => ?_) AllReady.nil
            go_simp
            refine (S_at HX5.out (i := 1) rfl HM.out Ht.out mark).mono ?_
            intro e x6 hrow
            rw [HLm.out] at hrow
            obtain ⟨V6, d6, rfl, hS⟩ := hrow
            have HX6 := hide (show St w9 ([grpT px t M2, grpT py t M2, rowT 3 1 (.slice V6 lm.length d6) lm.length (nums lm)]) x6 from hS)
            clear hS
            refine hK _ _ ?_
            clear hK K
            refine wpAny_ready (rs := [24]) (by kernel_rfl) (by simp) ?_
            refine AllReady.cons (o := ⟨some 118, _, _, _, _, _⟩) rfl (fun K hK => ?_) AllReady.nil
            go_simp
            refine (S_at HX6.out (i := 0) rfl HM.out Ht.out mark).mono ?_
            intro e x7 hrow
            rw [HLm.out] at hrow
            obtain ⟨V7, d7, rfl, hS⟩ := hrow
            have HX7 := hide (show St w9 ([grpT px t M2, grpT py t M2, rowT 3 1 (.slice V6 lm.length d6) lm.length (nums lm), rowT 3 1 (.slice V7 lm.length d7) lm.length (nums lm)]) x7 from hS)
            clear hS
            refine hK _ _ ?_
            clear hK K
            refine wpAny_ready (rs := [25]) (by kernel_rfl) (by simp) ?_
            refine AllReady.cons (o := ⟨some 119, _, _, _, _, _⟩) rfl (fun K hK => ?_) AllReady.nil
            go_simp
            have HQ := hide (same_any (w := x7) lm lm _ _ V6 V7 d6 d7 rfl rfl (by have := HLm4.out; omega) (St.src HX7.out (i := 2) rfl) (St.src HX7.out (i := 3) rfl))
            rw [decide_eq_true rfl] at HQ
            refine HQ.out.mono ?_
            rintro e x8 ⟨rfl, hb⟩
            have HX8 := hide ((St.weaken (Ts := [grpT px t M2, grpT py t M2]) (Us := [_, _]) HX7.out).below hb)
            clear hb HQ
            refine hK _ _ ?_
            clear hK K
            refine wpAny_take (i := 26) (oi := ⟨some 120, _, _, _, _, _⟩) (v := ?_) rfl (by kernel_rfl) (by kernel_rfl) (by kernel_rfl) (fun _ _ _ h => h) (Or.inl ⟨by rfl, ?_⟩) ?_
            rotate_left 1
            · (intro w; go_simp; try with_reducible rfl)
            simp only [Act.put, List.setIfInBounds_toArray, List.set_cons_zero, List.set_cons_succ]
            refine wpAny_take (i := 27) (oi := ⟨some 121, _, _, _, _, _⟩) (v := ?_) rfl (by kernel_rfl) (by kernel_rfl) (by kernel_rfl) (fun _ _ _ h => h) (Or.inl ⟨by rfl, ?_⟩) ?_
            rotate_left 1
            · (intro w; go_simp; try with_reducible rfl)
            simp only [Act.put, List.setIfInBounds_toArray, List.set_cons_zero, List.set_cons_succ]
            refine wpAny_take (i := 28) (oi := ⟨some 122, _, _, _, _, _⟩) (v := ?_) rfl (by kernel_rfl) (by kernel_rfl) (by kernel_rfl) (fun _ _ _ h => h) (Or.inl ⟨by rfl, ?_⟩) ?_
            rotate_left 1
            · (intro w; go_simp; try with_reducible rfl)
            simp only [Act.put, List.setIfInBounds_toArray, List.set_cons_zero, List.set_cons_succ]
            refine wpAny_take (i := 30) (oi := ⟨some 124, _, _, _, _, _⟩) (v := ?_) rfl (by kernel_rfl) (by kernel_rfl) (by kernel_rfl) (fun _ _ _ h => h) (Or.inl ⟨by rfl, ?_⟩) ?_
            rotate_left 1
            · (intro w; go_simp; try with_reducible rfl)
            simp only [Act.put, List.setIfInBounds_toArray, List.set_cons_zero, List.set_cons_succ]
            refine wpAny_ready (rs := [29]) (by kernel_rfl) (by simp) ?_
            refine AllReady.cons (o := ⟨some 123, _, _, _, _, _⟩) rfl (fun K hK => ?_) AllReady.nil
            go_simp
            refine (S_last HX8.out (i := 1) rfl HM.out).mono ?_
            rintro e x9 ⟨rfl, hS⟩
            have HX9 := hide hS
            clear hS
            refine hK _ _ ?_
            clear hK K
            refine wpAny_ready (rs := [31]) (by kernel_rfl) (by simp) ?_
            refine AllReady.cons (o := ⟨some 125, _, _, _, _, _⟩) rfl (fun K hK => ?_) AllReady.nil
            go_simp
            refine (S_last HX9.out (i := 0) rfl HM.out).mono ?_
            rintro e x10 ⟨rfl, hS⟩
            have HX10 := hide hS
            clear hS
            refine hK _ _ ?_
            clear hK K
            refine wpAny_take (i := 32) (oi := ⟨some 126, _, _, _, _, _⟩) (v := ?_) rfl (by kernel_rfl) (by kernel_rfl) (by kernel_rfl) (fun _ _ _ h => h) (Or.inl ⟨by rfl, ?_⟩) ?_
            rotate_left 1
            · (intro w; go_simp; try with_reducible rfl)
            simp only [Act.put, List.setIfInBounds_toArray, List.set_cons_zero, List.set_cons_succ]
            refine wpAny_take (i := 33) (oi := ⟨some 127, _, _, _, _, _⟩) (v := ?_) rfl (by kernel_rfl) (by kernel_rfl) (by kernel_rfl) (fun _ _ _ h => h) (Or.inl ⟨by rfl, ?_⟩) ?_
            rotate_left 1
            · (intro w; go_simp; try with_reducible rfl)
            simp only [Act.put, List.setIfInBounds_toArray, List.set_cons_zero, List.set_cons_succ]
            refine wpAny_take (i := 34) (oi := ⟨some 8, _, _, _, _, _⟩) (v := ?_) rfl (by kernel_rfl) (by kernel_rfl) (by kernel_rfl) (fun _ _ _ h => h) (Or.inl ⟨by rfl, ?_⟩) ?_
            rotate_left 1
            · (intro w; go_simp; try with_reducible rfl)
            simp only [Act.put, List.setIfInBounds_toArray, List.set_cons_zero, List.set_cons_succ]
            refine wpAny_done (by kernel_rfl) ?_ _
            have HB9 := hide (HE.out _ (St.weaken (Ts := []) HX10.out))
            go_wp2
            go_ret
            exact ⟨by first | rfl | simp, HB9.out⟩
          · go_simp
            obtain ⟨Gr, hpr, _, _⟩ := St.opened HX1.out (i := 0) rfl
            refine (Bytes_any hpr HM.out (by have := Ht.out; omega)).mono ?_
            rintro e x2 ⟨v4, rfl, hO, hb⟩
            obtain ⟨A7, c7, rfl, _, _, hby⟩ := hO.form
            have HX2b := hide hb
            have HX2 := hide (HX1.out.below hb)
            have HBy2 := hide hby
            clear hb hpr hO hby
            refine hK _ _ ?_
            clear hK K
            refine wpAny_ready (rs := [5, 8]) (by kernel_rfl) (by simp) ?_
            refine AllReady.cons (o := ⟨some 99, _, _, _, _, _⟩) rfl (fun K hK => ?_) (AllReady.cons (o := ⟨some 102, _, _, _, _, _⟩) rfl (fun K hK => ?_) AllReady.nil)
            · have hcv := Sm.run_str _ _ A8 _ n8 c8 Hl8.out (HBy.out.below HX2b.out)
              go_simp
              clear hcv
              refine hK _ _ ?_
              clear hK K
              refine wpAny_ready (rs := [8]) (by kernel_rfl) (by simp) ?_
              refine AllReady.cons (o := ⟨some 102, _, _, _, _, _⟩) rfl (fun K hK => ?_) AllReady.nil
              have hcv := Sm.run_str _ _ A7 _ _ c7 rfl HBy2.out
              go_simp
              clear hcv
              refine hK _ _ ?_
              clear hK K
              refine wpAny_take (i := 9) (oi := ⟨some 103, _, _, _, _, _⟩) (v := ?_) rfl (by kernel_rfl) (by kernel_rfl) (by kernel_rfl) (fun _ _ _ h => h) (Or.inl ⟨by rfl, ?_⟩) ?_
              rotate_left 1
              · (intro w; go_simp; try with_reducible rfl)
              simp only [Act.put, List.setIfInBounds_toArray, List.set_cons_zero, List.set_cons_succ]
              refine wpAny_take (i := 10) (oi := ⟨some 104, _, _, _, _, _⟩) (v := ?_) rfl (by kernel_rfl) (by kernel_rfl) (by kernel_rfl) (fun _ _ _ h => h) (Or.inl ⟨by rfl, ?_⟩) ?_
              rotate_left 1
              · (intro w; go_simp; try with_reducible rfl)
              simp only [Act.put, List.setIfInBounds_toArray, List.set_cons_zero, List.set_cons_succ]
              refine wpAny_take (i := 11) (oi := ⟨some 105, _, _, _, _, _⟩) (v := ?_) rfl (by kernel_rfl) (by kernel_rfl) (by kernel_rfl) (fun _ _ _ h => h) (Or.inl ⟨by rfl, ?_⟩) ?_
              rotate_left 1
              · (intro w; go_simp; try with_reducible rfl)
              simp only [Act.put, List.setIfInBounds_toArray, List.set_cons_zero, List.set_cons_succ]
              refine wpAny_take (i := 12) (oi := ⟨some 106, _, _, _, _, _⟩) (v := ?_) rfl (by kernel_rfl) (by kernel_rfl) (by kernel_rfl) (fun _ _ _ h => h) (Or.inl ⟨by rfl, ?_⟩) ?_
              rotate_left 1
              · (intro w; go_simp; try with_reducible rfl)
              simp only [Act.put, List.setIfInBounds_toArray, List.set_cons_zero, List.set_cons_succ]
              refine wpAny_take (i := 14) (oi := ⟨some 108, _, _, _, _, _⟩) (v := ?_) rfl (by kernel_rfl) (by kernel_rfl) (by kernel_rfl) (fun _ _ _ h => h) (Or.inl ⟨by rfl, ?_⟩) ?_
              rotate_left 1
              · (intro w; go_simp; try with_reducible rfl)
              simp only [Act.put, List.setIfInBounds_toArray, List.set_cons_zero, List.set_cons_succ]
              refine wpAny_ready (rs := [13]) (by kernel_rfl) (by simp) ?_
              refine AllReady.cons (o := ⟨some 107, _, _, _, _, _⟩) rfl (fun K hK => ?_) AllReady.nil
              go_simp
              refine (S_now HX2.out (i := 1) rfl HM.out Ht.out).mono ?_
              intro e x3 hrow
              rw [HLn.out] at hrow
              obtain ⟨V3, d3, rfl, hS⟩ := hrow
              have HX3 := hide (show St w9 ([grpT px t M2, grpT py t M2, rowT 3 1 (.slice V3 ln.length d3) ln.length (nums ln)]) x3 from hS)
              clear hS
              refine hK _ _ ?_
              clear hK K
              refine wpAny_ready (rs := [15]) (by kernel_rfl) (by simp) ?_
              refine AllReady.cons (o := ⟨some 109, _, _, _, _, _⟩) rfl (fun K hK => ?_) AllReady.nil
              go_simp
              refine (S_now HX3.out (i := 0) rfl HM.out Ht.out).mono ?_
              intro e x4 hrow
              rw [HLn.out] at hrow
              obtain ⟨V4, d4, rfl, hS⟩ := hrow
              have HX4 := hide (show St w9 ([grpT px t M2, grpT py t M2, rowT 3 1 (.slice V3 ln.length d3) ln.length (nums ln), rowT 3 1 (.slice V4 ln.length d4) ln.length (nums ln)]) x4 from hS)
              clear hS
              refine hK _ _ ?_
              clear hK K
              refine wpAny_ready (rs := [16]) (by kernel_rfl) (by simp) ?_
              refine AllReady.cons (o := ⟨some 110, _, _, _, _, _⟩) rfl (fun K hK => ?_) AllReady.nil
              go_simp
              have HQ := hide (same_any (w := x4) ln ln _ _ V3 V4 d3 d4 rfl rfl (by have := HLn4.out; omega) (St.src HX4.out (i := 2) rfl) (St.src HX4.out (i := 3) rfl))
              rw [decide_eq_true rfl] at HQ
              refine HQ.out.mono ?_
              rintro e x5 ⟨rfl, hb⟩
              have HX5 := hide ((St.weaken (Ts := [grpT px t M2, grpT py t M2]) (Us := [_, _]) HX4.out).below hb)
              clear hb HQ
              refine hK _ _ ?_
              clear hK K
              refine wpAny_take (i := 17) (oi := ⟨some 111, _, _, _, _, _⟩) (v := ?_) rfl (by kernel_rfl) (by kernel_rfl) (by kernel_rfl) (fun _ _ _ h => h) (Or.inl ⟨by rfl, ?_⟩) ?_
              rotate_left 1
              · (intro w; go_simp; try with_reducible rfl)
              simp only [Act.put, List.setIfInBounds_toArray, List.set_cons_zero, List.set_cons_succ]
              refine wpAny_take (i := 18) (oi := ⟨some 112, _, _, _, _, _⟩) (v := ?_) rfl (by kernel_rfl) (by kernel_rfl) (by kernel_rfl) (fun _ _ _ h => h) (Or.inl ⟨by rfl, ?_⟩) ?_
              rotate_left 1
              · (intro w; go_simp; try with_reducible rfl)
              simp only [Act.put, List.setIfInBounds_toArray, List.set_cons_zero, List.set_cons_succ]
              refine wpAny_take (i := 19) (oi := ⟨some 113, _, _, _, _, _⟩) (v := ?_) rfl (by kernel_rfl) (by kernel_rfl) (by kernel_rfl) (fun _ _ _ h => h) (Or.inl ⟨by rfl, ?_⟩) ?_
              rotate_left 1
              · (intro w; go_simp; try with_reducible rfl)
              simp only [Act.put, List.setIfInBounds_toArray, List.set_cons_zero, List.set_cons_succ]
              refine wpAny_take (i := 20) (oi := ⟨some 114, _, _, _, _, _⟩) (v := ?_) rfl (by kernel_rfl) (by kernel_rfl) (by kernel_rfl) (fun _ _ _ h => h) (Or.inl ⟨by rfl, ?_⟩) ?_
              rotate_left 1
              · (intro w; go_simp; try with_reducible rfl)
              simp only [Act.put, List.setIfInBounds_toArray, List.set_cons_zero, List.set_cons_succ]
              refine wpAny_take (i := 22) (oi := ⟨some 116, _, _, _, _, _⟩) (v := ?_) rfl (by kernel_rfl) (by kernel_rfl) (by kernel_rfl) (fun _ _ _ h => h) (Or.inl ⟨by rfl, ?_⟩) ?_
              rotate_left 1
              · (intro w; go_simp; try with_reducible rfl)
              simp only [Act.put, List.setIfInBounds_toArray, List.set_cons_zero, List.set_cons_succ]
              refine wpAny_take (i := 23) (oi := ⟨some 117, _, _, _, _, _⟩) (v := ?_) rfl (by kernel_rfl) (by kernel_rfl) (by kernel_rfl) (fun _ _ _ h => h) (Or.inl ⟨by rfl, ?_⟩) ?_
              rotate_left 1
              · (intro w; go_simp; try with_reducible rfl)
              simp only [Act.put, List.setIfInBounds_toArray, List.set_cons_zero, List.set_cons_succ]
              refine wpAny_ready (rs := [21]) (by kernel_rfl) (by simp) ?_
              refine AllReady.cons (o := ⟨some 115, _, _, _, _, _⟩) rfl (fun K hK => ?_) AllReady.nil
              go_simp
              refine (S_at HX5.out (i := 1) rfl HM.out Ht.out mark).mono ?_
              intro e x6 hrow
              rw [HLm.out] at hrow
              obtain ⟨V6, d6, rfl, hS⟩ := hrow
              have HX6 := hide (show St w9 ([grpT px t M2, grpT py t M2, rowT 3 1 (.slice V6 lm.length d6) lm.length (nums lm)]) x6 from hS)
              clear hS
              refine hK _ _ ?_
              clear hK K
              refine wpAny_ready (rs := [24]) (by kernel_rfl) (by simp) ?_
              refine AllReady.cons (o := ⟨some 118, _, _, _, _, _⟩) rfl (fun K hK => ?_) AllReady.nil
              go_simp
              refine (S_at HX6.out (i := 0) rfl HM.out Ht.out mark).mono ?_
              intro e x7 hrow
              rw [HLm.out] at hrow
              obtain ⟨V7, d7, rfl, hS⟩ := hrow
              have HX7 := hide (show St w9 ([grpT px t M2, grpT py t M2, rowT 3 1 (.slice V6 lm.length d6) lm.length (nums lm), rowT 3 1 (.slice V7 lm.length d7) lm.length (nums lm)]) x7 from hS)
              clear hS
              refine hK _ _ ?_
              clear hK K
              refine wpAny_ready (rs := [25]) (by kernel_rfl) (by simp) ?_
              refine AllReady.cons (o := ⟨some 119, _, _, _, _, _⟩) rfl (fun K hK => ?_) AllReady.nil
              go_simp
              have HQ := hide (same_any (w := x7) lm lm _ _ V6 V7 d6 d7 rfl rfl (by have := HLm4.out; omega) (St.src HX7.out (i := 2) rfl) (St.src HX7.out (i := 3) rfl))
              rw [decide_eq_true rfl] at HQ
              refine HQ.out.mono ?_
              rintro e x8 ⟨rfl, hb⟩
              have HX8 := hide ((St.weaken (Ts := [grpT px t M2, grpT py t M2]) (Us := [_, _]) HX7.out).below hb)
              clear hb HQ
              refine hK _ _ ?_
              clear hK K
              refine wpAny_take (i := 26) (oi := ⟨some 120, _, _, _, _, _⟩) (v := ?_) rfl (by kernel_rfl) (by kernel_rfl) (by kernel_rfl) (fun _ _ _ h => h) (Or.inl ⟨by rfl, ?_⟩) ?_
              rotate_left 1
              · (intro w; go_simp; try with_reducible rfl)
              simp only [Act.put, List.setIfInBounds_toArray, List.set_cons_zero, List.set_cons_succ]
              refine wpAny_take (i := 27) (oi := ⟨some 121, _, _, _, _, _⟩) (v := ?_) rfl (by kernel_rfl) (by kernel_rfl) (by kernel_rfl) (fun _ _ _ h => h) (Or.inl ⟨by rfl, ?_⟩) ?_
              rotate_left 1
              · (intro w; go_simp; try with_reducible rfl)
              simp only [Act.put, List.setIfInBounds_toArray, List.set_cons_zero, List.set_cons_succ]
              refine wpAny_take (i := 28) (oi := ⟨some 122, _, _, _, _, _⟩) (v := ?_) rfl (by kernel_rfl) (by kernel_rfl) (by kernel_rfl) (fun _ _ _ h => h) (Or.inl ⟨by rfl, ?_⟩) ?_
              rotate_left 1
              · (intro w; go_simp; try with_reducible rfl)
              simp only [Act.put, List.setIfInBounds_toArray, List.set_cons_zero, List.set_cons_succ]
              refine wpAny_take (i := 30) (oi := ⟨some 124, _, _, _, _, _⟩) (v := ?_) rfl (by kernel_rfl) (by kernel_rfl) (by kernel_rfl) (fun _ _ _ h => h) (Or.inl ⟨by rfl, ?_⟩) ?_
              rotate_left 1
              · (intro w; go_simp; try with_reducible rfl)
              simp only [Act.put, List.setIfInBounds_toArray, List.set_cons_zero, List.set_cons_succ]
              refine wpAny_ready (rs := [29]) (by kernel_rfl) (by simp) ?_
              refine AllReady.cons (o := ⟨some 123, _, _, _, _, _⟩) rfl (fun K hK => ?_) AllReady.nil
              go_simp
              refine (S_last HX8.out (i := 1) rfl HM.out).mono ?_
              rintro e x9 ⟨rfl, hS⟩
              have HX9 := hide hS
              clear hS
              refine hK _ _ ?_
              clear hK K
              refine wpAny_ready (rs := [31]) (by kernel_rfl) (by simp) ?_
              refine AllReady.cons (o := ⟨some 125, _, _, _, _, _⟩) rfl (fun K hK => ?_) AllReady.nil
              go_simp
              refine (S_last HX9.out (i := 0) rfl HM.out).mono ?_
              rintro e x10 ⟨rfl, hS⟩
              have HX10 := hide hS
              clear hS
              refine hK _ _ ?_
              clear hK K
              refine wpAny_take (i := 32) (oi := ⟨some 126, _, _, _, _, _⟩) (v := ?_) rfl (by kernel_rfl) (by kernel_rfl) (by kernel_rfl) (fun _ _ _ h => h) (Or.inl ⟨by rfl, ?_⟩) ?_
              rotate_left 1
              · (intro w; go_simp; try with_reducible rfl)
              simp only [Act.put, List.setIfInBounds_toArray, List.set_cons_zero, List.set_cons_succ]
              refine wpAny_take (i := 33) (oi := ⟨some 127, _, _, _, _, _⟩) (v := ?_) rfl (by kernel_rfl) (by kernel_rfl) (by kernel_rfl) (fun _ _ _ h => h) (Or.inl ⟨by rfl, ?_⟩) ?_
              rotate_left 1
              · (intro w; go_simp; try with_reducible rfl)
              simp only [Act.put, List.setIfInBounds_toArray, List.set_cons_zero, List.set_cons_succ]
              refine wpAny_take (i := 34) (oi := ⟨some 8, _, _, _, _, _⟩) (v := ?_) rfl (by kernel_rfl) (by kernel_rfl) (by kernel_rfl) (fun _ _ _ h => h) (Or.inl ⟨by rfl, ?_⟩) ?_
              rotate_left 1
              · (intro w; go_simp; try with_reducible rfl)
              simp only [Act.put, List.setIfInBounds_toArray, List.set_cons_zero, List.set_cons_succ]
              refine wpAny_done (by kernel_rfl) ?_ _
              have HB9 := hide (HE.out _ (St.weaken (Ts := []) HX10.out))
              go_wp2
              go_ret
              exact ⟨by first | rfl | simp, HB9.out⟩
            · have hcv := Sm.run_str _ _ A7 _ _ c7 rfl HBy2.out
              go_simp
              clear hcv
              refine hK _ _ ?_
              clear hK K
              refine wpAny_ready (rs := [5]) (by kernel_rfl) (by simp) ?_
              refine AllReady.cons (o := ⟨some 99, _, _, _, _, _⟩) rfl (fun K hK => ?_) AllReady.nil
              have hcv := Sm.run_str _ _ A8 _ n8 c8 Hl8.out (HBy.out.below HX2b.out)
              go_simp
              clear hcv
              refine hK _ _ ?_
              clear hK K
              refine wpAny_take (i := 9) (oi := ⟨some 103, _, _, _, _, _⟩) (v := ?_) rfl (by kernel_rfl) (by kernel_rfl) (by kernel_rfl) (fun _ _ _ h => h) (Or.inl ⟨by rfl, ?_⟩) ?_
              rotate_left 1
              · (intro w; go_simp; try with_reducible rfl)
              simp only [Act.put, List.setIfInBounds_toArray, List.set_cons_zero, List.set_cons_succ]
              refine wpAny_take (i := 10) (oi := ⟨some 104, _, _, _, _, _⟩) (v := ?_) rfl (by kernel_rfl) (by kernel_rfl) (by kernel_rfl) (fun _ _ _ h => h) (Or.inl ⟨by rfl, ?_⟩) ?_
              rotate_left 1
              · (intro w; go_simp; try with_reducible rfl)
              simp only [Act.put, List.setIfInBounds_toArray, List.set_cons_zero, List.set_cons_succ]
              refine wpAny_take (i := 11) (oi := ⟨some 105, _, _, _, _, _⟩) (v := ?_) rfl (by kernel_rfl) (by kernel_rfl) (by kernel_rfl) (fun _ _ _ h => h) (Or.inl ⟨by rfl, ?_⟩) ?_
              rotate_left 1
              · (intro w; go_simp; try with_reducible rfl)
              simp only [Act.put, List.setIfInBounds_toArray, List.set_cons_zero, List.set_cons_succ]
              refine wpAny_take (i := 12) (oi := ⟨some 106, _, _, _, _, _⟩) (v := ?_) rfl (by kernel_rfl) (by kernel_rfl) (by kernel_rfl) (fun _ _ _ h => h) (Or.inl ⟨by rfl, ?_⟩) ?_
              rotate_left 1
              · (intro w; go_simp; try with_reducible rfl)
              simp only [Act.put, List.setIfInBounds_toArray, List.set_cons_zero, List.set_cons_succ]
              refine wpAny_take (i := 14) (oi := ⟨some 108, _, _, _, _, _⟩) (v := ?_) rfl (by kernel_rfl) (by kernel_rfl) (by kernel_rfl) (fun _ _ _ h => h) (Or.inl ⟨by rfl, ?_⟩) ?_
              rotate_left 1
              · (intro w; go_simp; try with_reducible rfl)
              simp only [Act.put, List.setIfInBounds_toArray, List.set_cons_zero, List.set_cons_succ]
              refine wpAny_ready (rs := [13]) (by kernel_rfl) (by simp) ?_
              refine AllReady.cons (o := ⟨some 107, _, _, _, _, _⟩) rfl (fun K hK => ?_) AllReady.nil
              go_simp
              refine (S_now HX2.out (i := 1) rfl HM.out Ht.out).mono ?_
              intro e x3 hrow
              rw [HLn.out] at hrow
              obtain ⟨V3, d3, rfl, hS⟩ := hrow
              have HX3 := hide (show St w9 ([grpT px t M2, grpT py t M2, rowT 3 1 (.slice V3 ln.length d3) ln.length (nums ln)]) x3 from hS)
              clear hS
              refine hK _ _ ?_
              clear hK K
              refine wpAny_ready (rs := [15]) (by kernel_rfl) (by simp) ?_
              refine AllReady.cons (o := ⟨some 109, _, _, _, _, _⟩) rfl (fun K hK => ?_) AllReady.nil
              go_simp
              refine (S_now HX3.out (i := 0) rfl HM.out Ht.out).mono ?_
              intro e x4 hrow
              rw [HLn.out] at hrow
              obtain ⟨V4, d4, rfl, hS⟩ := hrow
              have HX4 := hide (show St w9 ([grpT px t M2, grpT py t M2, rowT 3 1 (.slice V3 ln.length d3) ln.length (nums ln), rowT 3 1 (.slice V4 ln.length d4) ln.length (nums ln)]) x4 from hS)
              clear hS
              refine hK _ _ ?_
              clear hK K
              refine wpAny_ready (rs := [16]) (by kernel_rfl) (by simp) ?_
              refine AllReady.cons (o := ⟨some 110, _, _, _, _, _⟩) rfl (fun K hK => ?_) AllReady.nil
              go_simp
              have HQ := hide (same_any (w := x4) ln ln _ _ V3 V4 d3 d4 rfl rfl (by have := HLn4.out; omega) (St.src HX4.out (i := 2) rfl) (St.src HX4.out (i := 3) rfl))
              rw [decide_eq_true rfl] at HQ
              refine HQ.out.mono ?_
              rintro e x5 ⟨rfl, hb⟩
              have HX5 := hide ((St.weaken (Ts := [grpT px t M2, grpT py t M2]) (Us := [_, _]) HX4.out).below hb)
              clear hb HQ
              refine hK _ _ ?_
              clear hK K
              refine wpAny_take (i := 17) (oi := ⟨some 111, _, _, _, _, _⟩) (v := ?_) rfl (by kernel_rfl) (by kernel_rfl) (by kernel_rfl) (fun _ _ _ h => h) (Or.inl ⟨by rfl, ?_⟩) ?_
              rotate_left 1
              · (intro w; go_simp; try with_reducible rfl)
              simp only [Act.put, List.setIfInBounds_toArray, List.set_cons_zero, List.set_cons_succ]
              refine wpAny_take (i := 18) (oi := ⟨some 112, _, _, _, _, _⟩) (v := ?_) rfl (by kernel_rfl) (by kernel_rfl) (by kernel_rfl) (fun _ _ _ h => h) (Or.inl ⟨by rfl, ?_⟩) ?_
              rotate_left 1
              · (intro w; go_simp; try with_reducible rfl)
              simp only [Act.put, List.setIfInBounds_toArray, List.set_cons_zero, List.set_cons_succ]
              refine wpAny_take (i := 19) (oi := ⟨some 113, _, _, _, _, _⟩) (v := ?_) rfl (by kernel_rfl) (by kernel_rfl) (by kernel_rfl) (fun _ _ _ h => h) (Or.inl ⟨by rfl, ?_⟩) ?_
              rotate_left 1
              · (intro w; go_simp; try with_reducible rfl)
              simp only [Act.put, List.setIfInBounds_toArray, List.set_cons_zero, List.set_cons_succ]
              refine wpAny_take (i := 20) (oi := ⟨some 114, _, _, _, _, _⟩) (v := ?_) rfl (by kernel_rfl) (by kernel_rfl) (by kernel_rfl) (fun _ _ _ h => h) (Or.inl ⟨by rfl, ?_⟩) ?_
              rotate_left 1
              · (intro w; go_simp; try with_reducible rfl)
              simp only [Act.put, List.setIfInBounds_toArray, List.set_cons_zero, List.set_cons_succ]
              refine wpAny_take (i := 22) (oi := ⟨some 116, _, _, _, _, _⟩) (v := ?_) rfl (by kernel_rfl) (by kernel_rfl) (by kernel_rfl) (fun _ _ _ h => h) (Or.inl ⟨by rfl, ?_⟩) ?_
              rotate_left 1
              · (intro w; go_simp; try with_reducible rfl)
              simp only [Act.put, List.setIfInBounds_toArray, List.set_cons_zero, List.set_cons_succ]
              refine wpAny_take (i := 23) (oi := ⟨some 117, _, _, _, _, _⟩) (v := ?_) rfl (by kernel_rfl) (by kernel_rfl) (by kernel_rfl) (fun _ _ _ h => h) (Or.inl ⟨by rfl, ?_⟩) ?_
              rotate_left 1
              · (intro w; go_simp; try with_reducible rfl)
              simp only [Act.put, List.setIfInBounds_toArray, List.set_cons_zero, List.set_cons_succ]
              refine wpAny_ready (rs := [21]) (by kernel_rfl) (by simp) ?_
              refine AllReady.cons (o := ⟨some 115, _, _, _, _, _⟩) rfl (fun K hK => ?_) AllReady.nil
              go_simp
              refine (S_at HX5.out (i := 1) rfl HM.out Ht.out mark).mono ?_
              intro e x6 hrow
              rw [HLm.out] at hrow
              obtain ⟨V6, d6, rfl, hS⟩ := hrow
              have HX6 := hide (show St w9 ([grpT px t M2, grpT py t M2, rowT 3 1 (.slice V6 lm.length d6) lm.length (nums lm)]) x6 from hS)
              clear hS
              refine hK _ _ ?_
              clear hK K
              refine wpAny_ready (rs := [24]) (by kernel_rfl) (by simp) ?_
              refine AllReady.cons (o := ⟨some 118, _, _, _, _, _⟩) rfl (fun K hK => ?_) AllReady.nil
              go_simp
              refine (S_at HX6.out (i := 0) rfl HM.out Ht.out mark).mono ?_
              intro e x7 hrow
              rw [HLm.out] at hrow
              obtain ⟨V7, d7, rfl, hS⟩ := hrow
              have HX7 := hide (show St w9 ([grpT px t M2, grpT py t M2, rowT 3 1 (.slice V6 lm.length d6) lm.length (nums lm), rowT 3 1 (.slice V7 lm.length d7) lm.length (nums lm)]) x7 from hS)
              clear hS
              refine hK _ _ ?_
              clear hK K
              refine wpAny_ready (rs := [25]) (by kernel_rfl) (by simp) ?_
              refine AllReady.cons (o := ⟨some 119, _, _, _, _, _⟩) rfl (fun K hK => ?_) AllReady.nil
              go_simp
              have HQ := hide (same_any (w := x7) lm lm _ _ V6 V7 d6 d7 rfl rfl (by have := HLm4.out; omega) (St.src HX7.out (i := 2) rfl) (St.src HX7.out (i := 3) rfl))
              rw [decide_eq_true rfl] at HQ
              refine HQ.out.mono ?_
              rintro e x8 ⟨rfl, hb⟩
              have HX8 := hide ((St.weaken (Ts := [grpT px t M2, grpT py t M2]) (Us := [_, _]) HX7.out).below hb)
              clear hb HQ
              refine hK _ _ ?_
              clear hK K
              refine wpAny_take (i := 26) (oi := ⟨some 120, _, _, _, _, _⟩) (v := ?_) rfl (by kernel_rfl) (by kernel_rfl) (by kernel_rfl) (fun _ _ _ h => h) (Or.inl ⟨by rfl, ?_⟩) ?_
              rotate_left 1
              · (intro w; go_simp; try with_reducible rfl)
              simp only [Act.put, List.setIfInBounds_toArray, List.set_cons_zero, List.set_cons_succ]
              refine wpAny_take (i := 27) (oi := ⟨some 121, _, _, _, _, _⟩) (v := ?_) rfl (by kernel_rfl) (by kernel_rfl) (by kernel_rfl) (fun _ _ _ h => h) (Or.inl ⟨by rfl, ?_⟩) ?_
              rotate_left 1
              · (intro w; go_simp; try with_reducible rfl)
              simp only [Act.put, List.setIfInBounds_toArray, List.set_cons_zero, List.set_cons_succ]
              refine wpAny_take (i := 28) (oi := ⟨some 122, _, _, _, _, _⟩) (v := ?_) rfl (by kernel_rfl) (by kernel_rfl) (by kernel_rfl) (fun _ _ _ h => h) (Or.inl ⟨by rfl, ?_⟩) ?_
              rotate_left 1
              · (intro w; go_simp; try with_reducible rfl)
              simp only [Act.put, List.setIfInBounds_toArray, List.set_cons_zero, List.set_cons_succ]
              refine wpAny_take (i := 30) (oi := ⟨some 124, _, _, _, _, _⟩) (v := ?_) rfl (by kernel_rfl) (by kernel_rfl) (by kernel_rfl) (fun _ _ _ h => h) (Or.inl ⟨by rfl, ?_⟩) ?_
              rotate_left 1
              · (intro w; go_simp; try with_reducible rfl)
              simp only [Act.put, List.setIfInBounds_toArray, List.set_cons_zero, List.set_cons_succ]
              refine wpAny_ready (rs := [29]) (by kernel_rfl) (by simp) ?_
              refine AllReady.cons (o := ⟨some 123, _, _, _, _, _⟩) rfl (fun K hK => ?_) AllReady.nil
              go_simp
              refine (S_last HX8.out (i := 1) rfl HM.out).mono ?_
              rintro e x9 ⟨rfl, hS⟩
              have HX9 := hide hS
              clear hS
              refine hK _ _ ?_
              clear hK K
              refine wpAny_ready (rs := [31]) (by kernel_rfl) (by simp) ?_
              refine AllReady.cons (o := ⟨some 125, _, _, _, _, _⟩) rfl (fun K hK => ?_) AllReady.nil
              go_simp
              refine (S_last HX9.out (i := 0) rfl HM.out).mono ?_
              rintro e x10 ⟨rfl, hS⟩
              have HX10 := hide hS
              clear hS
              refine hK _ _ ?_
              clear hK K
              refine wpAny_take (i := 32) (oi := ⟨some 126, _, _, _, _, _⟩) (v := ?_) rfl (by kernel_rfl) (by kernel_rfl) (by kernel_rfl) (fun _ _ _ h => h) (Or.inl ⟨by rfl, ?_⟩) ?_
              rotate_left 1
              · (intro w; go_simp; try with_reducible rfl)
              simp only [Act.put, List.setIfInBounds_toArray, List.set_cons_zero, List.set_cons_succ]
              refine wpAny_take (i := 33) (oi := ⟨some 127, _, _, _, _, _⟩) (v := ?_) rfl (by kernel_rfl) (by kernel_rfl) (by kernel_rfl) (fun _ _ _ h => h) (Or.inl ⟨by rfl, ?_⟩) ?_
              rotate_left 1
              · (intro w; go_simp; try with_reducible rfl)
              simp only [Act.put, List.setIfInBounds_toArray, List.set_cons_zero, List.set_cons_succ]
              refine wpAny_take (i := 34) (oi := ⟨some 8, _, _, _, _, _⟩) (v := ?_) rfl (by kernel_rfl) (by kernel_rfl) (by kernel_rfl) (fun _ _ _ h => h) (Or.inl ⟨by rfl, ?_⟩) ?_
              rotate_left 1
              · (intro w; go_simp; try with_reducible rfl)
              simp only [Act.put, List.setIfInBounds_toArray, List.set_cons_zero, List.set_cons_succ]
              refine wpAny_done (by kernel_rfl) ?_ _
              have HB9 := hide (HE.out _ (St.weaken (Ts := []) HX10.out))
              go_wp2
              go_ret
              exact ⟨by first | rfl | simp, HB9.out⟩
        · exfalso
          rw [grpOf_wrote HM.out Ht.out] at hg
          cases hg
theorem Bytes_law_any (s0 : ByteArray) (A1 : Option Addr) (n1 c1 : Nat) (l1 : List Int) (A2 : Option Addr) (n2 c2 : Nat) (l2 : List Oq) (mark : Int) (w : World) (hty : Ety w) (hs : s0.size ≤ maxLen) (hl1 : l1.length = n1) (hs1 : Src w A1 (nums l1)) (hl2 : l2.length = n2) (hs2 : Src w A2 (ocels l2)) :
    Calls Tryd.prog 4 #[.string s0, .slice A1 n1 c1, .slice A2 n2 c2, .int .i64 mark] w fun e w' => e = .returned (.bool true) ∧ Below w.heap.size w w' := by
  by_cases h : s0.size ≤ 2000 ∧ n1 ≤ 20 ∧ n2 ≤ 200
  · exact MBytes_law s0 A1 n1 c1 l1 A2 n2 c2 l2 mark w hty hl1 hs1 hl2 hs2 h.1 h.2.1 h.2.2
  · exact MBytes_long s0 A1 n1 c1 A2 n2 c2 mark w hs (by omega)

end Go.Proofs.YthoflpjmdhabmaaDoor.Mb
