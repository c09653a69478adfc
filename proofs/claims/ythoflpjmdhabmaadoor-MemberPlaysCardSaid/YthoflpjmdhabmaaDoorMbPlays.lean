/-
  The walk of isobarlaw15.MemberPlays: it returns true, at any first volumes, every script and every marker; nothing that was there is changed. Condition: the library's variable errors.errorType holds what the program's own text lays.
-/
import Derived.Deep.RegionHeld3
import Derived.Test.YthoflpjmdhabmaaDoorMbRWalk
import Derived.Test.YthoflpjmdhabmaaDoorMbPlace
namespace Go.Proofs.YthoflpjmdhabmaaDoor.Mb
open Go.RowKit
open Pk hiding str str_data str_size str_of run_str str_append
open Sm hiding run_str
open Fa Dk Wn Lk

set_option maxRecDepth 100000 in
theorem Plays_long (A0 : Option Addr) (n0 c0 : Nat) (A1 : Option Addr) (n1 c1 : Nat) (mark : Int) (w : World) (hn : 20 < n0 ∨ 200 < n1) :
    Calls Tryd.prog 3 #[.slice A0 n0 c0, .slice A1 n1 c1, .int .i64 mark] w fun e w' => e = .returned (.bool true) ∧ Below w.heap.size w w' := by
  go_enter Tryd.func3, Tryd.ntmps3
  go_wp2_with fail
  refine (awake_any w).mono ?_
  rintro e w2 ⟨rfl, hb⟩
  have HB2 := hide hb
  clear hb
  by_cases h0 : 20 < n0
  · have hni : (20 : Int) < (n0 : Int) := by omega
    clear hn h0
    go_wp2_with fail
    refine (awake_any w2).mono ?_
    rintro e w3 ⟨rfl, hb⟩
    have HB3 := hide (HB2.out.trans (hb.mono HB2.out.size))
    clear hb HB2
    go_wp2
    go_ret
    exact ⟨rfl, HB3.out⟩
  · have hni : ¬ (20 : Int) < (n0 : Int) := by omega
    have hnj : (200 : Int) < (n1 : Int) := by omega
    clear hn h0
    go_wp2_with fail
    refine (awake_any w2).mono ?_
    rintro e w3 ⟨rfl, hb⟩
    have HB3 := hide (HB2.out.trans (hb.mono HB2.out.size))
    clear hb HB2
    go_wp2
    go_ret
    exact ⟨rfl, HB3.out⟩
set_option maxRecDepth 100000 in
set_option maxHeartbeats 16000000 in
theorem Plays_law (A0 : Option Addr) (n0 c0 : Nat) (l0 : List Int) (A1 : Option Addr) (n1 c1 : Nat) (l1 : List Oq) (mark : Int) (w : World) (hty : Ety w) (hl0 : l0.length = n0) (hs0 : Src w A0 (nums l0)) (hl1 : l1.length = n1) (hs1 : Src w A1 (ocels l1)) (hn0 : n0 ≤ 20) (hn1 : n1 ≤ 200) :
    Calls Tryd.prog 3 #[.slice A0 n0 c0, .slice A1 n1 c1, .int .i64 mark] w fun e w' => e = .returned (.bool true) ∧ Below w.heap.size w w' := by
  have hni : ¬ (20 : Int) < (n0 : Int) := by omega
  have hnj : ¬ (200 : Int) < (n1 : Int) := by omega
  have HE0 : Hid (∀ W, Below w.heap.size w W → Ety W) := fun W hW => Ety.below hty hW hty.lt
  have Hl0 := hide hl0
  have Hl1 := hide hl1
  have Hs0 := hide hs0
  have Hs1 := hide hs1
  have Hn0 := hide hn0
  have Hn1 := hide hn1
  clear hl0 hl1 hs0 hs1 hn0 hn1 hty
  go_enter Tryd.func3, Tryd.ntmps3
  go_wp2_with fail
  refine (awake_any w).mono ?_
  rintro e w2 ⟨rfl, hb⟩
  have HB2 := hide hb
  clear hb
  go_wp2_with fail
  refine (New_any A0 n0 c0 l0 w2 Hl0.out (by have := Hn0.out; omega) (Hs0.out.below HB2.out)).mono ?_
  intro e w3 hnew
  cases hN : newS 0 l0 with
  | inr z =>
    obtain ⟨u, f⟩ := z
    have hf := newS_err l0 0 u f hN
    rw [hN] at hnew
    obtain ⟨b, rfl, hF⟩ := hnew
    have HF := hide hF.1
    have HB3 := hide (HB2.out.trans (hF.2.mono HB2.out.size))
    have HR := hide (RNew_any A0 n0 c0 l0 w3 Hl0.out (by have := Hn0.out; omega) (Hs0.out.below HB3.out))
    rw [hN] at HR
    have hf0 : f ≠ 0 := by omega
    have Hf0 := hide hf0
    have hf1 : (f != 0) = true := by simp [bne, hf0]
    clear hF hN HB2 hf hf0
    go_wp2_with fail
    refine HR.out.mono ?_
    intro e w4 hr
    have hr' : e = .returned (.tuple #[.pointer none, .int .i64 u, .int .i64 f]) ∧ Below w3.heap.size w3 w4 := hr
    obtain ⟨rfl, hb⟩ := hr'
    have HB4 := hide (HB3.out.trans (hb.mono HB3.out.size))
    have HP := hide (place_flt (HE0.out _ HB4.out) (Flt.below HF.out hb) Hf0.out)
    clear hr hb HR HB3 HF
    go_wp2_with fail
    refine HP.out.mono ?_
    rintro e w5 ⟨rfl, hb⟩
    have HB5 := hide (HB4.out.trans (hb.mono HB4.out.size))
    clear hb HP HB4
    go_wp2
    go_ret
    exact ⟨rfl, HB5.out⟩
  | inl t =>
    rw [hN] at hnew
    have hnew' : e = .returned (.tuple #[.pointer (some ⟨w2.heap.size, 0, none⟩), .nilIface]) ∧ St w2 [grpT w2.heap.size t []] w3 := hnew
    obtain ⟨rfl, hS⟩ := hnew'
    have Ht := hide (newS_lt l0 0 t (by decide) hN)
    have HS3 := hide hS
    have HE : Hid (∀ W, St w2 [] W → Below w.heap.size w W) := fun W hW => HB2.out.trans (hW.bel.mono HB2.out.size)
    have Hsr := hide (Hs1.out.below HB2.out)
    have HR := hide (RNew_any A0 n0 c0 l0 w3 Hl0.out (by have := Hn0.out; omega) (Hs0.out.below (HE.out w3 (St.weaken (Ts := []) hS))))
    rw [hN] at HR
    clear hnew hS hN Hs0 Hs1 HB2
    generalize w2.heap.size = p at *
    go_wp2_with fail
    refine HR.out.mono ?_
    intro e w4 hr
    have hr' : e = .returned (.tuple #[.pointer (some ⟨w3.heap.size, 0, none⟩), .int .i64 0, .int .i64 0]) ∧ St w3 [rgrpT w3.heap.size t []] w4 := hr
    obtain ⟨rfl, hS⟩ := hr'
    obtain ⟨G, hp, hG, _⟩ := St.opened hS (i := 0) rfl
    have HS4 := hide (show St w2 [grpT p t [], rgrpT w3.heap.size t []] w4 from HS3.out.add hS.bel hp hG)
    have HP := hide (place_none (HE0.out _ (HE.out w4 (St.weaken (Ts := []) HS4.out))) 0)
    clear hr hS hp hG HR HS3
    generalize w3.heap.size = q at *
    go_wp2_with fail
    refine HP.out.mono ?_
    rintro e w5 ⟨rfl, hb⟩
    have HS5 := hide (HS4.out.below hb)
    clear hb HP HS4
    go_wp2_with fail
    go_loopw [54] (fun jv wr => ∃ k : Nat, k ≤ n1 ∧ jv = .int .i64 (k : Int) ∧ ∃ M : List Ch, Hid (Fine t M) ∧ Hid (St w2 [grpT p t M, rgrpT q t M] wr)) (fun jv _ => n1 - (intOf jv).toNat)
    case atStart => exact ⟨0, Nat.zero_le _, rfl, [], Fine.nil, HS5.out⟩
    case round =>
      obtain ⟨k, hk, rfl, M, hM, hst⟩ := hrel
      rcases Nat.lt_or_ge k n1 with hlt | hge
      · have Hlt := hide hlt
        have hki : (k : Int) < (n1 : Int) := by omega
        obtain ⟨o1, ho⟩ : ∃ o1, l1[k]? = some o1 := ⟨_, List.getElem?_eq_getElem (by rw [Hl1.out]; exact hlt)⟩
        obtain ⟨g, o, rfl, hg, hat⟩ := Src.op (Hsr.out.below hst.out.bel) ho
        obtain ⟨qk, qv, qm⟩ := o1
        have a0 := hat.kind
        have a1 := hat.v
        have a2 := hat.m
        have HSa := hide (Lk.St.blk_new hst.out #[.int .i64 qk, .int .i64 qv, .int .i64 qm] 35)
        simp only at a0 a1 a2
        clear hk hlt ho hg hat hst
        by_cases h1 : qk = 1
        · subst h1
          go_wp2_with fail
          generalize wr.heap.size = b at *
          generalize World.alloc _ _ = wa at *
          have HSb := hide (show St w2 [grpT p t M, rgrpT q t M, blkT b #[.int .i64 1, .int .i64 qv, .int .i64 qm] 35] wa from HSa.out)
          clear HSa
          go_wp2_with fail
          have HD := hide (HSb.out.below (Below.refl _ wa).drew)
          have hS0 : wa.drew.cell? ⟨b, 1, none⟩ = some (.int .i64 qv) ∧ wa.drew.cell? ⟨b, 2, none⟩ = some (.int .i64 qm) := ⟨(Lk.St.blk HD.out (i := 2) rfl).1 1, (Lk.St.blk HD.out (i := 2) rfl).1 2⟩
          have HA := hide (S_add HD.out (i := 0) rfl hM.out Ht.out qv qm)
          have HF2 := hide (hM.out.add qv qm false)
          by_cases hx : chk t M qv qm false = 0
          · refine wp_region_held (S := (fun W : World => W.cell? ⟨b, 1, none⟩ = some (.int .i64 qv) ∧ W.cell? ⟨b, 2, none⟩ = some (.int .i64 qm))) (by kernel_rfl) ?_
            change wpAnyH _ _ _ _ _ _ _ _ (World.drew _)
            refine wpAnyH_take (i := 0) (oi := ⟨some 65, _, _, _, _, _⟩) (v := ?_) rfl (by kernel_rfl) (by kernel_rfl) (by kernel_rfl) (fun _ _ _ h => h) (Or.inl ⟨by rfl, ?_⟩) hS0 ?_
            rotate_left 1
            · (intro w hSw; obtain ⟨hSw1, hSw2⟩ := hSw; go_simp; try with_reducible rfl)
            simp only [Act.put, List.setIfInBounds_toArray, List.set_cons_zero, List.set_cons_succ]
            refine wpAnyH_take (i := 1) (oi := ⟨some 66, _, _, _, _, _⟩) (v := ?_) rfl (by kernel_rfl) (by kernel_rfl) (by kernel_rfl) (fun _ _ _ h => h) (Or.inl ⟨by rfl, ?_⟩) hS0 ?_
            rotate_left 1
            · (intro w hSw; obtain ⟨hSw1, hSw2⟩ := hSw; go_simp; try with_reducible rfl)
            simp only [Act.put, List.setIfInBounds_toArray, List.set_cons_zero, List.set_cons_succ]
            refine wpAnyH_take (i := 2) (oi := ⟨some 67, _, _, _, _, _⟩) (v := ?_) rfl (by kernel_rfl) (by kernel_rfl) (by kernel_rfl) (fun _ _ _ h => h) (Or.inl ⟨by rfl, ?_⟩) hS0 ?_
            rotate_left 1
            · (intro w hSw; obtain ⟨hSw1, hSw2⟩ := hSw; go_simp; try with_reducible rfl)
            simp only [Act.put, List.setIfInBounds_toArray, List.set_cons_zero, List.set_cons_succ]
            refine wpAnyH_take (i := 3) (oi := ⟨some 68, _, _, _, _, _⟩) (v := ?_) rfl (by kernel_rfl) (by kernel_rfl) (by kernel_rfl) (fun _ _ _ h => h) (Or.inl ⟨by rfl, ?_⟩) hS0 ?_
            rotate_left 1
            · (intro w hSw; obtain ⟨hSw1, hSw2⟩ := hSw; go_simp; try with_reducible rfl)
            simp only [Act.put, List.setIfInBounds_toArray, List.set_cons_zero, List.set_cons_succ]
            refine wpAnyH_take (i := 4) (oi := ⟨some 69, _, _, _, _, _⟩) (v := ?_) rfl (by kernel_rfl) (by kernel_rfl) (by kernel_rfl) (fun _ _ _ h => h) (Or.inl ⟨by rfl, ?_⟩) hS0 ?_
            rotate_left 1
            · (intro w hSw; obtain ⟨hSw1, hSw2⟩ := hSw; go_simp; try with_reducible rfl)
            simp only [Act.put, List.setIfInBounds_toArray, List.set_cons_zero, List.set_cons_succ]
            refine wpAnyH_take (i := 6) (oi := ⟨some 71, _, _, _, _, _⟩) (v := ?_) rfl (by kernel_rfl) (by kernel_rfl) (by kernel_rfl) (fun _ _ _ h => h) (Or.inl ⟨by rfl, ?_⟩) hS0 ?_
            rotate_left 1
            · (intro w hSw; obtain ⟨hSw1, hSw2⟩ := hSw; go_simp; try with_reducible rfl)
            simp only [Act.put, List.setIfInBounds_toArray, List.set_cons_zero, List.set_cons_succ]
            refine wpAnyH_take (i := 7) (oi := ⟨some 72, _, _, _, _, _⟩) (v := ?_) rfl (by kernel_rfl) (by kernel_rfl) (by kernel_rfl) (fun _ _ _ h => h) (Or.inl ⟨by rfl, ?_⟩) hS0 ?_
            rotate_left 1
            · (intro w hSw; obtain ⟨hSw1, hSw2⟩ := hSw; go_simp; try with_reducible rfl)
            simp only [Act.put, List.setIfInBounds_toArray, List.set_cons_zero, List.set_cons_succ]
            refine wpAnyH_take (i := 8) (oi := ⟨some 73, _, _, _, _, _⟩) (v := ?_) rfl (by kernel_rfl) (by kernel_rfl) (by kernel_rfl) (fun _ _ _ h => h) (Or.inl ⟨by rfl, ?_⟩) hS0 ?_
            rotate_left 1
            · (intro w hSw; obtain ⟨hSw1, hSw2⟩ := hSw; go_simp; try with_reducible rfl)
            simp only [Act.put, List.setIfInBounds_toArray, List.set_cons_zero, List.set_cons_succ]
            refine wpAnyH_take (i := 9) (oi := ⟨some 74, _, _, _, _, _⟩) (v := ?_) rfl (by kernel_rfl) (by kernel_rfl) (by kernel_rfl) (fun _ _ _ h => h) (Or.inl ⟨by rfl, ?_⟩) hS0 ?_
            rotate_left 1
            · (intro w hSw; obtain ⟨hSw1, hSw2⟩ := hSw; go_simp; try with_reducible rfl)
            simp only [Act.put, List.setIfInBounds_toArray, List.set_cons_zero, List.set_cons_succ]
            refine wpAnyH_take (i := 10) (oi := ⟨some 75, _, _, _, _, _⟩) (v := ?_) rfl (by kernel_rfl) (by kernel_rfl) (by kernel_rfl) (fun _ _ _ h => h) (Or.inl ⟨by rfl, ?_⟩) hS0 ?_
            rotate_left 1
            · (intro w hSw; obtain ⟨hSw1, hSw2⟩ := hSw; go_simp; try with_reducible rfl)
            simp only [Act.put, List.setIfInBounds_toArray, List.set_cons_zero, List.set_cons_succ]
            refine wpAnyH_take (i := 11) (oi := ⟨some 76, _, _, _, _, _⟩) (v := ?_) rfl (by kernel_rfl) (by kernel_rfl) (by kernel_rfl) (fun _ _ _ h => h) (Or.inl ⟨by rfl, ?_⟩) hS0 ?_
            rotate_left 1
            · (intro w hSw; obtain ⟨hSw1, hSw2⟩ := hSw; go_simp; try with_reducible rfl)
            simp only [Act.put, List.setIfInBounds_toArray, List.set_cons_zero, List.set_cons_succ]
            refine wpAnyH_take (i := 12) (oi := ⟨some 77, _, _, _, _, _⟩) (v := ?_) rfl (by kernel_rfl) (by kernel_rfl) (by kernel_rfl) (fun _ _ _ h => h) (Or.inl ⟨by rfl, ?_⟩) hS0 ?_
            rotate_left 1
            · (intro w hSw; obtain ⟨hSw1, hSw2⟩ := hSw; go_simp; try with_reducible rfl)
            simp only [Act.put, List.setIfInBounds_toArray, List.set_cons_zero, List.set_cons_succ]
            refine wpAnyH_ready (rs := [5]) (by kernel_rfl) (by simp) ?_
            refine AllReadyH.cons (o := ⟨some 70, _, _, _, _, _⟩) rfl (fun K hK => ?_) AllReadyH.nil
            go_simp
            refine HA.out.mono ?_
            rintro e wb ⟨hr, hS⟩
            rw [hx] at hr
            obtain rfl := hr.ok
            have HSc := hide (show St w2 [grpT p t (add1 t M qv qm false), rgrpT q t M, blkT b #[.int .i64 1, .int .i64 qv, .int .i64 qm] 35] wb from hS)
            have hS1 : wb.cell? ⟨b, 1, none⟩ = some (.int .i64 qv) ∧ wb.cell? ⟨b, 2, none⟩ = some (.int .i64 qm) := ⟨(Lk.St.blk HSc.out (i := 2) rfl).1 1, (Lk.St.blk HSc.out (i := 2) rfl).1 2⟩
            refine hK.out _ _ hS1 (fun hHeld => ?_)
            clear hK K
            clear hHeld
            refine wpAnyH_ready (rs := [13]) (by kernel_rfl) (by simp) ?_
            refine AllReadyH.cons (o := ⟨some 78, _, _, _, _, _⟩) rfl (fun K hK => ?_) AllReadyH.nil
            go_simp
            refine (S_change HSc.out (i := 1) rfl hM.out qv qm false).mono ?_
            rintro e wc ⟨rfl, hS2a, hkeep⟩
            have HSd := hide (show St w2 [grpT p t (add1 t M qv qm false), rgrpT q t (add1 t M qv qm false), blkT b #[.int .i64 1, .int .i64 qv, .int .i64 qm] 35] wc from hS2a)
            have hS2 : wc.cell? ⟨b, 1, none⟩ = some (.int .i64 qv) ∧ wc.cell? ⟨b, 2, none⟩ = some (.int .i64 qm) := ⟨(Lk.St.blk HSd.out (i := 2) rfl).1 1, (Lk.St.blk HSd.out (i := 2) rfl).1 2⟩
            rw [hx]
            have HP := hide (place_none (HE0.out _ (HE.out wc (St.weaken (Ts := []) HSd.out))) qv)
            refine hK.out _ _ hS2 (fun hHeld => ?_)
            clear hK K
            clear hHeld
            refine wpAnyH_ready (rs := [14]) (by kernel_rfl) (by simp) ?_
            refine AllReadyH.cons (o := ⟨some 79, _, _, _, _, _⟩) rfl (fun K hK => ?_) AllReadyH.nil
            go_simp
            refine HP.out.mono ?_
            rintro e wd ⟨rfl, hb⟩
            have HSe := hide (HSd.out.below hb)
            have hS3 : wd.cell? ⟨b, 1, none⟩ = some (.int .i64 qv) ∧ wd.cell? ⟨b, 2, none⟩ = some (.int .i64 qm) := ⟨(Lk.St.blk HSe.out (i := 2) rfl).1 1, (Lk.St.blk HSe.out (i := 2) rfl).1 2⟩
            refine hK.out _ _ hS3 (fun hHeld => ?_)
            clear hK K
            clear hHeld
            refine wpAnyH_take (i := 15) (oi := ⟨some 80, _, _, _, _, _⟩) (v := ?_) rfl (by kernel_rfl) (by kernel_rfl) (by kernel_rfl) (fun _ _ _ h => h) (Or.inl ⟨by rfl, ?_⟩) hS3 ?_
            rotate_left 1
            · (intro w hSw; obtain ⟨hSw1, hSw2⟩ := hSw; go_simp; try with_reducible rfl)
            simp only [Act.put, List.setIfInBounds_toArray, List.set_cons_zero, List.set_cons_succ]
            refine wpAnyH_done (by kernel_rfl) ?_ _
            have HSz := hide (show St w2 [grpT p t (add1 t M qv qm false), rgrpT q t (add1 t M qv qm false)] wd from St.weaken (Us := [_]) HSe.out)
            have HFz := hide HF2.out
            clear hS0 hS1 hS2 hS3 hb hS hS2a hkeep hr HP HA HD HSb HSc HSd HSe hx HF2 hM
            generalize add1 t M qv qm false = M2 at *
            clear a0 a1 a2
            go_wp2_with fail
            refine (S_last HSz.out (i := 0) rfl HFz.out).mono ?_
            rintro e u1 ⟨rfl, hS⟩
            have HU1 := hide hS
            clear hS HSz
            go_wp2_with fail
            refine (S_rlast HU1.out (i := 1) rfl HFz.out).mono ?_
            rintro e u2 ⟨rfl, hS⟩
            have HU2 := hide hS
            clear hS HU1
            go_wp2_with fail
            refine (S_at HU2.out (i := 0) rfl HFz.out Ht.out mark).mono ?_
            rintro e u3 ⟨V3, d3, rfl, hS⟩
            have HU3 := hide (show St w2 ([grpT p t M2, rgrpT q t M2] ++ [rowT 3 1 (.slice V3 (vols (atS t M2 mark) 4).length d3) (vols (atS t M2 mark) 4).length (nums (vols (atS t M2 mark) 4))]) u3 from hS)
            clear hS HU2
            rw [List.cons_append, List.cons_append, List.nil_append] at HU3
            go_wp2_with fail
            refine (S_rat HU3.out (i := 1) rfl HFz.out mark).mono ?_
            rintro e u4 ⟨V4, d4, rfl, hS⟩
            have HU4 := hide (show St w2 ([grpT p t M2, rgrpT q t M2] ++ [rowT 3 1 (.slice V3 (vols (atS t M2 mark) 4).length d3) (vols (atS t M2 mark) 4).length (nums (vols (atS t M2 mark) 4))] ++ [rowT 3 1 (.slice V4 (vols (atS t M2 mark) 4).length d4) (vols (atS t M2 mark) 4).length (nums (vols (atS t M2 mark) 4))]) u4 from hS)
            clear hS HU3
            have HQ := hide (same_any (w := u4) (vols (atS t M2 mark) 4) (vols (atS t M2 mark) 4) _ _ V3 V4 d3 d4 rfl rfl (by have := vols_len (atS t M2 mark) 4; omega) (St.src HU4.out (i := 2) rfl) (St.src HU4.out (i := 3) rfl))
            rw [decide_eq_true rfl] at HQ
            have HU5 := hide (St.weaken (Ts := [grpT p t M2, rgrpT q t M2]) (Us := [_, _]) HU4.out)
            clear HU4
            generalize (vols (atS t M2 mark) 4).length = nl1 at *
            go_wp2_with fail
            refine HQ.out.mono ?_
            rintro e u6 ⟨rfl, hb⟩
            have HU6 := hide (HU5.out.below hb)
            clear hb HQ HU5
            go_wp2_with fail
            refine (S_now HU6.out (i := 0) rfl HFz.out Ht.out).mono ?_
            rintro e u7 ⟨V7, d7, rfl, hS⟩
            have HU7 := hide (show St w2 ([grpT p t M2, rgrpT q t M2] ++ [rowT 3 1 (.slice V7 (vols (atS t M2 (last M2)) 4).length d7) (vols (atS t M2 (last M2)) 4).length (nums (vols (atS t M2 (last M2)) 4))]) u7 from hS)
            clear hS HU6
            rw [List.cons_append, List.cons_append, List.nil_append] at HU7
            go_wp2_with fail
            refine (S_rlast HU7.out (i := 1) rfl HFz.out).mono ?_
            rintro e u8 ⟨rfl, hS⟩
            have HU8 := hide hS
            clear hS HU7
            go_wp2_with fail
            refine (S_rat HU8.out (i := 1) rfl HFz.out (last M2)).mono ?_
            rintro e u9 ⟨V9, d9, rfl, hS⟩
            have HU9 := hide (show St w2 ([grpT p t M2, rgrpT q t M2] ++ [rowT 3 1 (.slice V7 (vols (atS t M2 (last M2)) 4).length d7) (vols (atS t M2 (last M2)) 4).length (nums (vols (atS t M2 (last M2)) 4))] ++ [rowT 3 1 (.slice V9 (vols (atS t M2 (last M2)) 4).length d9) (vols (atS t M2 (last M2)) 4).length (nums (vols (atS t M2 (last M2)) 4))]) u9 from hS)
            clear hS HU8
            have HQ := hide (same_any (w := u9) (vols (atS t M2 (last M2)) 4) (vols (atS t M2 (last M2)) 4) _ _ V7 V9 d7 d9 rfl rfl (by have := vols_len (atS t M2 (last M2)) 4; omega) (St.src HU9.out (i := 2) rfl) (St.src HU9.out (i := 3) rfl))
            rw [decide_eq_true rfl] at HQ
            have HU10 := hide (St.weaken (Ts := [grpT p t M2, rgrpT q t M2]) (Us := [_, _]) HU9.out)
            clear HU9
            generalize (vols (atS t M2 (last M2)) 4).length = nl2 at *
            go_wp2_with fail
            refine HQ.out.mono ?_
            rintro e u11 ⟨rfl, hb⟩
            have HU11 := hide (HU10.out.below hb)
            clear hb HQ HU10
            go_wp2
            go_roundw
            case rel => exact ⟨k + 1, Hlt.out, by go_num, M2, HFz.out, HU11.out⟩
            case measure => have := Hlt.out; simp [intOf]; omega
          · refine wp_region_held (S := (fun W : World => W.cell? ⟨b, 1, none⟩ = some (.int .i64 qv) ∧ W.cell? ⟨b, 2, none⟩ = some (.int .i64 qm))) (by kernel_rfl) ?_
            change wpAnyH _ _ _ _ _ _ _ _ (World.drew _)
            refine wpAnyH_take (i := 0) (oi := ⟨some 65, _, _, _, _, _⟩) (v := ?_) rfl (by kernel_rfl) (by kernel_rfl) (by kernel_rfl) (fun _ _ _ h => h) (Or.inl ⟨by rfl, ?_⟩) hS0 ?_
            rotate_left 1
            · (intro w hSw; obtain ⟨hSw1, hSw2⟩ := hSw; go_simp; try with_reducible rfl)
            simp only [Act.put, List.setIfInBounds_toArray, List.set_cons_zero, List.set_cons_succ]
            refine wpAnyH_take (i := 1) (oi := ⟨some 66, _, _, _, _, _⟩) (v := ?_) rfl (by kernel_rfl) (by kernel_rfl) (by kernel_rfl) (fun _ _ _ h => h) (Or.inl ⟨by rfl, ?_⟩) hS0 ?_
            rotate_left 1
            · (intro w hSw; obtain ⟨hSw1, hSw2⟩ := hSw; go_simp; try with_reducible rfl)
            simp only [Act.put, List.setIfInBounds_toArray, List.set_cons_zero, List.set_cons_succ]
            refine wpAnyH_take (i := 2) (oi := ⟨some 67, _, _, _, _, _⟩) (v := ?_) rfl (by kernel_rfl) (by kernel_rfl) (by kernel_rfl) (fun _ _ _ h => h) (Or.inl ⟨by rfl, ?_⟩) hS0 ?_
            rotate_left 1
            · (intro w hSw; obtain ⟨hSw1, hSw2⟩ := hSw; go_simp; try with_reducible rfl)
            simp only [Act.put, List.setIfInBounds_toArray, List.set_cons_zero, List.set_cons_succ]
            refine wpAnyH_take (i := 3) (oi := ⟨some 68, _, _, _, _, _⟩) (v := ?_) rfl (by kernel_rfl) (by kernel_rfl) (by kernel_rfl) (fun _ _ _ h => h) (Or.inl ⟨by rfl, ?_⟩) hS0 ?_
            rotate_left 1
            · (intro w hSw; obtain ⟨hSw1, hSw2⟩ := hSw; go_simp; try with_reducible rfl)
            simp only [Act.put, List.setIfInBounds_toArray, List.set_cons_zero, List.set_cons_succ]
            refine wpAnyH_take (i := 4) (oi := ⟨some 69, _, _, _, _, _⟩) (v := ?_) rfl (by kernel_rfl) (by kernel_rfl) (by kernel_rfl) (fun _ _ _ h => h) (Or.inl ⟨by rfl, ?_⟩) hS0 ?_
            rotate_left 1
            · (intro w hSw; obtain ⟨hSw1, hSw2⟩ := hSw; go_simp; try with_reducible rfl)
            simp only [Act.put, List.setIfInBounds_toArray, List.set_cons_zero, List.set_cons_succ]
            refine wpAnyH_take (i := 6) (oi := ⟨some 71, _, _, _, _, _⟩) (v := ?_) rfl (by kernel_rfl) (by kernel_rfl) (by kernel_rfl) (fun _ _ _ h => h) (Or.inl ⟨by rfl, ?_⟩) hS0 ?_
            rotate_left 1
            · (intro w hSw; obtain ⟨hSw1, hSw2⟩ := hSw; go_simp; try with_reducible rfl)
            simp only [Act.put, List.setIfInBounds_toArray, List.set_cons_zero, List.set_cons_succ]
            refine wpAnyH_take (i := 7) (oi := ⟨some 72, _, _, _, _, _⟩) (v := ?_) rfl (by kernel_rfl) (by kernel_rfl) (by kernel_rfl) (fun _ _ _ h => h) (Or.inl ⟨by rfl, ?_⟩) hS0 ?_
            rotate_left 1
            · (intro w hSw; obtain ⟨hSw1, hSw2⟩ := hSw; go_simp; try with_reducible rfl)
            simp only [Act.put, List.setIfInBounds_toArray, List.set_cons_zero, List.set_cons_succ]
            refine wpAnyH_take (i := 8) (oi := ⟨some 73, _, _, _, _, _⟩) (v := ?_) rfl (by kernel_rfl) (by kernel_rfl) (by kernel_rfl) (fun _ _ _ h => h) (Or.inl ⟨by rfl, ?_⟩) hS0 ?_
            rotate_left 1
            · (intro w hSw; obtain ⟨hSw1, hSw2⟩ := hSw; go_simp; try with_reducible rfl)
            simp only [Act.put, List.setIfInBounds_toArray, List.set_cons_zero, List.set_cons_succ]
            refine wpAnyH_take (i := 9) (oi := ⟨some 74, _, _, _, _, _⟩) (v := ?_) rfl (by kernel_rfl) (by kernel_rfl) (by kernel_rfl) (fun _ _ _ h => h) (Or.inl ⟨by rfl, ?_⟩) hS0 ?_
            rotate_left 1
            · (intro w hSw; obtain ⟨hSw1, hSw2⟩ := hSw; go_simp; try with_reducible rfl)
            simp only [Act.put, List.setIfInBounds_toArray, List.set_cons_zero, List.set_cons_succ]
            refine wpAnyH_take (i := 10) (oi := ⟨some 75, _, _, _, _, _⟩) (v := ?_) rfl (by kernel_rfl) (by kernel_rfl) (by kernel_rfl) (fun _ _ _ h => h) (Or.inl ⟨by rfl, ?_⟩) hS0 ?_
            rotate_left 1
            · (intro w hSw; obtain ⟨hSw1, hSw2⟩ := hSw; go_simp; try with_reducible rfl)
            simp only [Act.put, List.setIfInBounds_toArray, List.set_cons_zero, List.set_cons_succ]
            refine wpAnyH_take (i := 11) (oi := ⟨some 76, _, _, _, _, _⟩) (v := ?_) rfl (by kernel_rfl) (by kernel_rfl) (by kernel_rfl) (fun _ _ _ h => h) (Or.inl ⟨by rfl, ?_⟩) hS0 ?_
            rotate_left 1
            · (intro w hSw; obtain ⟨hSw1, hSw2⟩ := hSw; go_simp; try with_reducible rfl)
            simp only [Act.put, List.setIfInBounds_toArray, List.set_cons_zero, List.set_cons_succ]
            refine wpAnyH_take (i := 12) (oi := ⟨some 77, _, _, _, _, _⟩) (v := ?_) rfl (by kernel_rfl) (by kernel_rfl) (by kernel_rfl) (fun _ _ _ h => h) (Or.inl ⟨by rfl, ?_⟩) hS0 ?_
            rotate_left 1
            · (intro w hSw; obtain ⟨hSw1, hSw2⟩ := hSw; go_simp; try with_reducible rfl)
            simp only [Act.put, List.setIfInBounds_toArray, List.set_cons_zero, List.set_cons_succ]
            refine wpAnyH_ready (rs := [5]) (by kernel_rfl) (by simp) ?_
            refine AllReadyH.cons (o := ⟨some 70, _, _, _, _, _⟩) rfl (fun K hK => ?_) AllReadyH.nil
            go_simp
            refine HA.out.mono ?_
            rintro e wb ⟨hr, hS⟩
            obtain ⟨fb, rfl, hflt⟩ := hr.no hx
            have HFl := hide hflt
            have HSc := hide (show St w2 [grpT p t (add1 t M qv qm false), rgrpT q t M, blkT b #[.int .i64 1, .int .i64 qv, .int .i64 qm] 35] wb from hS)
            have hS1 : wb.cell? ⟨b, 1, none⟩ = some (.int .i64 qv) ∧ wb.cell? ⟨b, 2, none⟩ = some (.int .i64 qm) := ⟨(Lk.St.blk HSc.out (i := 2) rfl).1 1, (Lk.St.blk HSc.out (i := 2) rfl).1 2⟩
            refine hK.out _ _ hS1 (fun hHeld => ?_)
            clear hK K
            clear hHeld
            refine wpAnyH_ready (rs := [13]) (by kernel_rfl) (by simp) ?_
            refine AllReadyH.cons (o := ⟨some 78, _, _, _, _, _⟩) rfl (fun K hK => ?_) AllReadyH.nil
            go_simp
            refine (S_change HSc.out (i := 1) rfl hM.out qv qm false).mono ?_
            rintro e wc ⟨rfl, hS2a, hkeep⟩
            have HSd := hide (show St w2 [grpT p t (add1 t M qv qm false), rgrpT q t (add1 t M qv qm false), blkT b #[.int .i64 1, .int .i64 qv, .int .i64 qm] 35] wc from hS2a)
            have hS2 : wc.cell? ⟨b, 1, none⟩ = some (.int .i64 qv) ∧ wc.cell? ⟨b, 2, none⟩ = some (.int .i64 qm) := ⟨(Lk.St.blk HSd.out (i := 2) rfl).1 1, (Lk.St.blk HSd.out (i := 2) rfl).1 2⟩
            have HP := hide (place_flt (HE0.out _ (HE.out wc (St.weaken (Ts := []) HSd.out))) (hkeep _ _ _ HFl.out) hx)
            refine hK.out _ _ hS2 (fun hHeld => ?_)
            clear hK K
            clear hHeld
            refine wpAnyH_ready (rs := [14]) (by kernel_rfl) (by simp) ?_
            refine AllReadyH.cons (o := ⟨some 79, _, _, _, _, _⟩) rfl (fun K hK => ?_) AllReadyH.nil
            go_simp
            refine HP.out.mono ?_
            rintro e wd ⟨rfl, hb⟩
            have HSe := hide (HSd.out.below hb)
            have hS3 : wd.cell? ⟨b, 1, none⟩ = some (.int .i64 qv) ∧ wd.cell? ⟨b, 2, none⟩ = some (.int .i64 qm) := ⟨(Lk.St.blk HSe.out (i := 2) rfl).1 1, (Lk.St.blk HSe.out (i := 2) rfl).1 2⟩
            refine hK.out _ _ hS3 (fun hHeld => ?_)
            clear hK K
            clear hHeld
            refine wpAnyH_take (i := 15) (oi := ⟨some 80, _, _, _, _, _⟩) (v := ?_) rfl (by kernel_rfl) (by kernel_rfl) (by kernel_rfl) (fun _ _ _ h => h) (Or.inl ⟨by rfl, ?_⟩) hS3 ?_
            rotate_left 1
            · (intro w hSw; obtain ⟨hSw1, hSw2⟩ := hSw; go_simp; try with_reducible rfl)
            simp only [Act.put, List.setIfInBounds_toArray, List.set_cons_zero, List.set_cons_succ]
            refine wpAnyH_done (by kernel_rfl) ?_ _
            have HSz := hide (show St w2 [grpT p t (add1 t M qv qm false), rgrpT q t (add1 t M qv qm false)] wd from St.weaken (Us := [_]) HSe.out)
            have HFz := hide HF2.out
            clear hS0 hS1 hS2 hS3 hb hS hS2a hkeep hr HP HA HD HSb HSc HSd HSe hx HF2 hM hflt HFl
            generalize add1 t M qv qm false = M2 at *
            clear a0 a1 a2
            go_wp2_with fail
            refine (S_last HSz.out (i := 0) rfl HFz.out).mono ?_
            rintro e u1 ⟨rfl, hS⟩
            have HU1 := hide hS
            clear hS HSz
            go_wp2_with fail
            refine (S_rlast HU1.out (i := 1) rfl HFz.out).mono ?_
            rintro e u2 ⟨rfl, hS⟩
            have HU2 := hide hS
            clear hS HU1
            go_wp2_with fail
            refine (S_at HU2.out (i := 0) rfl HFz.out Ht.out mark).mono ?_
            rintro e u3 ⟨V3, d3, rfl, hS⟩
            have HU3 := hide (show St w2 ([grpT p t M2, rgrpT q t M2] ++ [rowT 3 1 (.slice V3 (vols (atS t M2 mark) 4).length d3) (vols (atS t M2 mark) 4).length (nums (vols (atS t M2 mark) 4))]) u3 from hS)
            clear hS HU2
            rw [List.cons_append, List.cons_append, List.nil_append] at HU3
            go_wp2_with fail
            refine (S_rat HU3.out (i := 1) rfl HFz.out mark).mono ?_
            rintro e u4 ⟨V4, d4, rfl, hS⟩
            have HU4 := hide (show St w2 ([grpT p t M2, rgrpT q t M2] ++ [rowT 3 1 (.slice V3 (vols (atS t M2 mark) 4).length d3) (vols (atS t M2 mark) 4).length (nums (vols (atS t M2 mark) 4))] ++ [rowT 3 1 (.slice V4 (vols (atS t M2 mark) 4).length d4) (vols (atS t M2 mark) 4).length (nums (vols (atS t M2 mark) 4))]) u4 from hS)
            clear hS HU3
            have HQ := hide (same_any (w := u4) (vols (atS t M2 mark) 4) (vols (atS t M2 mark) 4) _ _ V3 V4 d3 d4 rfl rfl (by have := vols_len (atS t M2 mark) 4; omega) (St.src HU4.out (i := 2) rfl) (St.src HU4.out (i := 3) rfl))
            rw [decide_eq_true rfl] at HQ
            have HU5 := hide (St.weaken (Ts := [grpT p t M2, rgrpT q t M2]) (Us := [_, _]) HU4.out)
            clear HU4
            generalize (vols (atS t M2 mark) 4).length = nl1 at *
            go_wp2_with fail
            refine HQ.out.mono ?_
            rintro e u6 ⟨rfl, hb⟩
            have HU6 := hide (HU5.out.below hb)
            clear hb HQ HU5
            go_wp2_with fail
            refine (S_now HU6.out (i := 0) rfl HFz.out Ht.out).mono ?_
            rintro e u7 ⟨V7, d7, rfl, hS⟩
            have HU7 := hide (show St w2 ([grpT p t M2, rgrpT q t M2] ++ [rowT 3 1 (.slice V7 (vols (atS t M2 (last M2)) 4).length d7) (vols (atS t M2 (last M2)) 4).length (nums (vols (atS t M2 (last M2)) 4))]) u7 from hS)
            clear hS HU6
            rw [List.cons_append, List.cons_append, List.nil_append] at HU7
            go_wp2_with fail
            refine (S_rlast HU7.out (i := 1) rfl HFz.out).mono ?_
            rintro e u8 ⟨rfl, hS⟩
            have HU8 := hide hS
            clear hS HU7
            go_wp2_with fail
            refine (S_rat HU8.out (i := 1) rfl HFz.out (last M2)).mono ?_
            rintro e u9 ⟨V9, d9, rfl, hS⟩
            have HU9 := hide (show St w2 ([grpT p t M2, rgrpT q t M2] ++ [rowT 3 1 (.slice V7 (vols (atS t M2 (last M2)) 4).length d7) (vols (atS t M2 (last M2)) 4).length (nums (vols (atS t M2 (last M2)) 4))] ++ [rowT 3 1 (.slice V9 (vols (atS t M2 (last M2)) 4).length d9) (vols (atS t M2 (last M2)) 4).length (nums (vols (atS t M2 (last M2)) 4))]) u9 from hS)
            clear hS HU8
            have HQ := hide (same_any (w := u9) (vols (atS t M2 (last M2)) 4) (vols (atS t M2 (last M2)) 4) _ _ V7 V9 d7 d9 rfl rfl (by have := vols_len (atS t M2 (last M2)) 4; omega) (St.src HU9.out (i := 2) rfl) (St.src HU9.out (i := 3) rfl))
            rw [decide_eq_true rfl] at HQ
            have HU10 := hide (St.weaken (Ts := [grpT p t M2, rgrpT q t M2]) (Us := [_, _]) HU9.out)
            clear HU9
            generalize (vols (atS t M2 (last M2)) 4).length = nl2 at *
            go_wp2_with fail
            refine HQ.out.mono ?_
            rintro e u11 ⟨rfl, hb⟩
            have HU11 := hide (HU10.out.below hb)
            clear hb HQ HU10
            go_wp2
            go_roundw
            case rel => exact ⟨k + 1, Hlt.out, by go_num, M2, HFz.out, HU11.out⟩
            case measure => have := Hlt.out; simp [intOf]; omega
        · by_cases h2 : qk = 2
          · subst h2
            go_wp2_with fail
            generalize wr.heap.size = b at *
            generalize World.alloc _ _ = wa at *
            have HSb := hide (show St w2 [grpT p t M, rgrpT q t M, blkT b #[.int .i64 2, .int .i64 qv, .int .i64 qm] 35] wa from HSa.out)
            clear HSa
            go_wp2_with fail
            have HD := hide (HSb.out.below (Below.refl _ wa).drew)
            have hS0 : wa.drew.cell? ⟨b, 1, none⟩ = some (.int .i64 qv) ∧ wa.drew.cell? ⟨b, 2, none⟩ = some (.int .i64 qm) := ⟨(Lk.St.blk HD.out (i := 2) rfl).1 1, (Lk.St.blk HD.out (i := 2) rfl).1 2⟩
            have HA := hide (S_remove HD.out (i := 0) rfl hM.out Ht.out qv qm)
            have HF2 := hide (hM.out.add qv qm true)
            by_cases hx : chk t M qv qm true = 0
            · refine wp_region_held (S := (fun W : World => W.cell? ⟨b, 1, none⟩ = some (.int .i64 qv) ∧ W.cell? ⟨b, 2, none⟩ = some (.int .i64 qm))) (by kernel_rfl) ?_
              change wpAnyH _ _ _ _ _ _ _ _ (World.drew _)
              refine wpAnyH_take (i := 0) (oi := ⟨some 83, _, _, _, _, _⟩) (v := ?_) rfl (by kernel_rfl) (by kernel_rfl) (by kernel_rfl) (fun _ _ _ h => h) (Or.inl ⟨by rfl, ?_⟩) hS0 ?_
              rotate_left 1
              · (intro w hSw; obtain ⟨hSw1, hSw2⟩ := hSw; go_simp; try with_reducible rfl)
              simp only [Act.put, List.setIfInBounds_toArray, List.set_cons_zero, List.set_cons_succ]
              refine wpAnyH_take (i := 1) (oi := ⟨some 84, _, _, _, _, _⟩) (v := ?_) rfl (by kernel_rfl) (by kernel_rfl) (by kernel_rfl) (fun _ _ _ h => h) (Or.inl ⟨by rfl, ?_⟩) hS0 ?_
              rotate_left 1
              · (intro w hSw; obtain ⟨hSw1, hSw2⟩ := hSw; go_simp; try with_reducible rfl)
              simp only [Act.put, List.setIfInBounds_toArray, List.set_cons_zero, List.set_cons_succ]
              refine wpAnyH_take (i := 2) (oi := ⟨some 85, _, _, _, _, _⟩) (v := ?_) rfl (by kernel_rfl) (by kernel_rfl) (by kernel_rfl) (fun _ _ _ h => h) (Or.inl ⟨by rfl, ?_⟩) hS0 ?_
              rotate_left 1
              · (intro w hSw; obtain ⟨hSw1, hSw2⟩ := hSw; go_simp; try with_reducible rfl)
              simp only [Act.put, List.setIfInBounds_toArray, List.set_cons_zero, List.set_cons_succ]
              refine wpAnyH_take (i := 3) (oi := ⟨some 86, _, _, _, _, _⟩) (v := ?_) rfl (by kernel_rfl) (by kernel_rfl) (by kernel_rfl) (fun _ _ _ h => h) (Or.inl ⟨by rfl, ?_⟩) hS0 ?_
              rotate_left 1
              · (intro w hSw; obtain ⟨hSw1, hSw2⟩ := hSw; go_simp; try with_reducible rfl)
              simp only [Act.put, List.setIfInBounds_toArray, List.set_cons_zero, List.set_cons_succ]
              refine wpAnyH_take (i := 4) (oi := ⟨some 87, _, _, _, _, _⟩) (v := ?_) rfl (by kernel_rfl) (by kernel_rfl) (by kernel_rfl) (fun _ _ _ h => h) (Or.inl ⟨by rfl, ?_⟩) hS0 ?_
              rotate_left 1
              · (intro w hSw; obtain ⟨hSw1, hSw2⟩ := hSw; go_simp; try with_reducible rfl)
              simp only [Act.put, List.setIfInBounds_toArray, List.set_cons_zero, List.set_cons_succ]
              refine wpAnyH_take (i := 6) (oi := ⟨some 89, _, _, _, _, _⟩) (v := ?_) rfl (by kernel_rfl) (by kernel_rfl) (by kernel_rfl) (fun _ _ _ h => h) (Or.inl ⟨by rfl, ?_⟩) hS0 ?_
              rotate_left 1
              · (intro w hSw; obtain ⟨hSw1, hSw2⟩ := hSw; go_simp; try with_reducible rfl)
              simp only [Act.put, List.setIfInBounds_toArray, List.set_cons_zero, List.set_cons_succ]
              refine wpAnyH_take (i := 7) (oi := ⟨some 90, _, _, _, _, _⟩) (v := ?_) rfl (by kernel_rfl) (by kernel_rfl) (by kernel_rfl) (fun _ _ _ h => h) (Or.inl ⟨by rfl, ?_⟩) hS0 ?_
              rotate_left 1
              · (intro w hSw; obtain ⟨hSw1, hSw2⟩ := hSw; go_simp; try with_reducible rfl)
              simp only [Act.put, List.setIfInBounds_toArray, List.set_cons_zero, List.set_cons_succ]
              refine wpAnyH_take (i := 8) (oi := ⟨some 91, _, _, _, _, _⟩) (v := ?_) rfl (by kernel_rfl) (by kernel_rfl) (by kernel_rfl) (fun _ _ _ h => h) (Or.inl ⟨by rfl, ?_⟩) hS0 ?_
              rotate_left 1
              · (intro w hSw; obtain ⟨hSw1, hSw2⟩ := hSw; go_simp; try with_reducible rfl)
              simp only [Act.put, List.setIfInBounds_toArray, List.set_cons_zero, List.set_cons_succ]
              refine wpAnyH_take (i := 9) (oi := ⟨some 92, _, _, _, _, _⟩) (v := ?_) rfl (by kernel_rfl) (by kernel_rfl) (by kernel_rfl) (fun _ _ _ h => h) (Or.inl ⟨by rfl, ?_⟩) hS0 ?_
              rotate_left 1
              · (intro w hSw; obtain ⟨hSw1, hSw2⟩ := hSw; go_simp; try with_reducible rfl)
              simp only [Act.put, List.setIfInBounds_toArray, List.set_cons_zero, List.set_cons_succ]
              refine wpAnyH_take (i := 10) (oi := ⟨some 93, _, _, _, _, _⟩) (v := ?_) rfl (by kernel_rfl) (by kernel_rfl) (by kernel_rfl) (fun _ _ _ h => h) (Or.inl ⟨by rfl, ?_⟩) hS0 ?_
              rotate_left 1
              · (intro w hSw; obtain ⟨hSw1, hSw2⟩ := hSw; go_simp; try with_reducible rfl)
              simp only [Act.put, List.setIfInBounds_toArray, List.set_cons_zero, List.set_cons_succ]
              refine wpAnyH_take (i := 11) (oi := ⟨some 94, _, _, _, _, _⟩) (v := ?_) rfl (by kernel_rfl) (by kernel_rfl) (by kernel_rfl) (fun _ _ _ h => h) (Or.inl ⟨by rfl, ?_⟩) hS0 ?_
              rotate_left 1
              · (intro w hSw; obtain ⟨hSw1, hSw2⟩ := hSw; go_simp; try with_reducible rfl)
              simp only [Act.put, List.setIfInBounds_toArray, List.set_cons_zero, List.set_cons_succ]
              refine wpAnyH_take (i := 12) (oi := ⟨some 95, _, _, _, _, _⟩) (v := ?_) rfl (by kernel_rfl) (by kernel_rfl) (by kernel_rfl) (fun _ _ _ h => h) (Or.inl ⟨by rfl, ?_⟩) hS0 ?_
              rotate_left 1
              · (intro w hSw; obtain ⟨hSw1, hSw2⟩ := hSw; go_simp; try with_reducible rfl)
              simp only [Act.put, List.setIfInBounds_toArray, List.set_cons_zero, List.set_cons_succ]
              refine wpAnyH_ready (rs := [5]) (by kernel_rfl) (by simp) ?_
              refine AllReadyH.cons (o := ⟨some 88, _, _, _, _, _⟩) rfl (fun K hK => ?_) AllReadyH.nil
              go_simp
              refine HA.out.mono ?_
              rintro e wb ⟨hr, hS⟩
              rw [hx] at hr
              obtain rfl := hr.ok
              have HSc := hide (show St w2 [grpT p t (add1 t M qv qm true), rgrpT q t M, blkT b #[.int .i64 2, .int .i64 qv, .int .i64 qm] 35] wb from hS)
              have hS1 : wb.cell? ⟨b, 1, none⟩ = some (.int .i64 qv) ∧ wb.cell? ⟨b, 2, none⟩ = some (.int .i64 qm) := ⟨(Lk.St.blk HSc.out (i := 2) rfl).1 1, (Lk.St.blk HSc.out (i := 2) rfl).1 2⟩
              refine hK.out _ _ hS1 (fun hHeld => ?_)
              clear hK K
              clear hHeld
              refine wpAnyH_ready (rs := [13]) (by kernel_rfl) (by simp) ?_
              refine AllReadyH.cons (o := ⟨some 96, _, _, _, _, _⟩) rfl (fun K hK => ?_) AllReadyH.nil
              go_simp
              refine (S_change HSc.out (i := 1) rfl hM.out qv qm true).mono ?_
              rintro e wc ⟨rfl, hS2a, hkeep⟩
              have HSd := hide (show St w2 [grpT p t (add1 t M qv qm true), rgrpT q t (add1 t M qv qm true), blkT b #[.int .i64 2, .int .i64 qv, .int .i64 qm] 35] wc from hS2a)
              have hS2 : wc.cell? ⟨b, 1, none⟩ = some (.int .i64 qv) ∧ wc.cell? ⟨b, 2, none⟩ = some (.int .i64 qm) := ⟨(Lk.St.blk HSd.out (i := 2) rfl).1 1, (Lk.St.blk HSd.out (i := 2) rfl).1 2⟩
              rw [hx]
              have HP := hide (place_none (HE0.out _ (HE.out wc (St.weaken (Ts := []) HSd.out))) qv)
              refine hK.out _ _ hS2 (fun hHeld => ?_)
              clear hK K
              clear hHeld
              refine wpAnyH_ready (rs := [14]) (by kernel_rfl) (by simp) ?_
              refine AllReadyH.cons (o := ⟨some 97, _, _, _, _, _⟩) rfl (fun K hK => ?_) AllReadyH.nil
              go_simp
              refine HP.out.mono ?_
              rintro e wd ⟨rfl, hb⟩
              have HSe := hide (HSd.out.below hb)
              have hS3 : wd.cell? ⟨b, 1, none⟩ = some (.int .i64 qv) ∧ wd.cell? ⟨b, 2, none⟩ = some (.int .i64 qm) := ⟨(Lk.St.blk HSe.out (i := 2) rfl).1 1, (Lk.St.blk HSe.out (i := 2) rfl).1 2⟩
              refine hK.out _ _ hS3 (fun hHeld => ?_)
              clear hK K
              clear hHeld
              refine wpAnyH_take (i := 15) (oi := ⟨some 98, _, _, _, _, _⟩) (v := ?_) rfl (by kernel_rfl) (by kernel_rfl) (by kernel_rfl) (fun _ _ _ h => h) (Or.inl ⟨by rfl, ?_⟩) hS3 ?_
              rotate_left 1
              · (intro w hSw; obtain ⟨hSw1, hSw2⟩ := hSw; go_simp; try with_reducible rfl)
              simp only [Act.put, List.setIfInBounds_toArray, List.set_cons_zero, List.set_cons_succ]
              refine wpAnyH_done (by kernel_rfl) ?_ _
              have HSz := hide (show St w2 [grpT p t (add1 t M qv qm true), rgrpT q t (add1 t M qv qm true)] wd from St.weaken (Us := [_]) HSe.out)
              have HFz := hide HF2.out
              clear hS0 hS1 hS2 hS3 hb hS hS2a hkeep hr HP HA HD HSb HSc HSd HSe hx HF2 hM
              generalize add1 t M qv qm true = M2 at *
              clear a0 a1 a2
              go_wp2_with fail
              refine (S_last HSz.out (i := 0) rfl HFz.out).mono ?_
              rintro e u1 ⟨rfl, hS⟩
              have HU1 := hide hS
              clear hS HSz
              go_wp2_with fail
              refine (S_rlast HU1.out (i := 1) rfl HFz.out).mono ?_
              rintro e u2 ⟨rfl, hS⟩
              have HU2 := hide hS
              clear hS HU1
              go_wp2_with fail
              refine (S_at HU2.out (i := 0) rfl HFz.out Ht.out mark).mono ?_
              rintro e u3 ⟨V3, d3, rfl, hS⟩
              have HU3 := hide (show St w2 ([grpT p t M2, rgrpT q t M2] ++ [rowT 3 1 (.slice V3 (vols (atS t M2 mark) 4).length d3) (vols (atS t M2 mark) 4).length (nums (vols (atS t M2 mark) 4))]) u3 from hS)
              clear hS HU2
              rw [List.cons_append, List.cons_append, List.nil_append] at HU3
              go_wp2_with fail
              refine (S_rat HU3.out (i := 1) rfl HFz.out mark).mono ?_
              rintro e u4 ⟨V4, d4, rfl, hS⟩
              have HU4 := hide (show St w2 ([grpT p t M2, rgrpT q t M2] ++ [rowT 3 1 (.slice V3 (vols (atS t M2 mark) 4).length d3) (vols (atS t M2 mark) 4).length (nums (vols (atS t M2 mark) 4))] ++ [rowT 3 1 (.slice V4 (vols (atS t M2 mark) 4).length d4) (vols (atS t M2 mark) 4).length (nums (vols (atS t M2 mark) 4))]) u4 from hS)
              clear hS HU3
              have HQ := hide (same_any (w := u4) (vols (atS t M2 mark) 4) (vols (atS t M2 mark) 4) _ _ V3 V4 d3 d4 rfl rfl (by have := vols_len (atS t M2 mark) 4; omega) (St.src HU4.out (i := 2) rfl) (St.src HU4.out (i := 3) rfl))
              rw [decide_eq_true rfl] at HQ
              have HU5 := hide (St.weaken (Ts := [grpT p t M2, rgrpT q t M2]) (Us := [_, _]) HU4.out)
              clear HU4
              generalize (vols (atS t M2 mark) 4).length = nl1 at *
              go_wp2_with fail
              refine HQ.out.mono ?_
              rintro e u6 ⟨rfl, hb⟩
              have HU6 := hide (HU5.out.below hb)
              clear hb HQ HU5
              go_wp2_with fail
              refine (S_now HU6.out (i := 0) rfl HFz.out Ht.out).mono ?_
              rintro e u7 ⟨V7, d7, rfl, hS⟩
              have HU7 := hide (show St w2 ([grpT p t M2, rgrpT q t M2] ++ [rowT 3 1 (.slice V7 (vols (atS t M2 (last M2)) 4).length d7) (vols (atS t M2 (last M2)) 4).length (nums (vols (atS t M2 (last M2)) 4))]) u7 from hS)
              clear hS HU6
              rw [List.cons_append, List.cons_append, List.nil_append] at HU7
              go_wp2_with fail
              refine (S_rlast HU7.out (i := 1) rfl HFz.out).mono ?_
              rintro e u8 ⟨rfl, hS⟩
              have HU8 := hide hS
              clear hS HU7
              go_wp2_with fail
              refine (S_rat HU8.out (i := 1) rfl HFz.out (last M2)).mono ?_
              rintro e u9 ⟨V9, d9, rfl, hS⟩
              have HU9 := hide (show St w2 ([grpT p t M2, rgrpT q t M2] ++ [rowT 3 1 (.slice V7 (vols (atS t M2 (last M2)) 4).length d7) (vols (atS t M2 (last M2)) 4).length (nums (vols (atS t M2 (last M2)) 4))] ++ [rowT 3 1 (.slice V9 (vols (atS t M2 (last M2)) 4).length d9) (vols (atS t M2 (last M2)) 4).length (nums (vols (atS t M2 (last M2)) 4))]) u9 from hS)
              clear hS HU8
              have HQ := hide (same_any (w := u9) (vols (atS t M2 (last M2)) 4) (vols (atS t M2 (last M2)) 4) _ _ V7 V9 d7 d9 rfl rfl (by have := vols_len (atS t M2 (last M2)) 4; omega) (St.src HU9.out (i := 2) rfl) (St.src HU9.out (i := 3) rfl))
              rw [decide_eq_true rfl] at HQ
              have HU10 := hide (St.weaken (Ts := [grpT p t M2, rgrpT q t M2]) (Us := [_, _]) HU9.out)
              clear HU9
              generalize (vols (atS t M2 (last M2)) 4).length = nl2 at *
              go_wp2_with fail
              refine HQ.out.mono ?_
              rintro e u11 ⟨rfl, hb⟩
              have HU11 := hide (HU10.out.below hb)
              clear hb HQ HU10
              go_wp2
              go_roundw
              case rel => exact ⟨k + 1, Hlt.out, by go_num, M2, HFz.out, HU11.out⟩
              case measure => have := Hlt.out; simp [intOf]; omega
            · refine wp_region_held (S := (fun W : World => W.cell? ⟨b, 1, none⟩ = some (.int .i64 qv) ∧ W.cell? ⟨b, 2, none⟩ = some (.int .i64 qm))) (by kernel_rfl) ?_
              change wpAnyH _ _ _ _ _ _ _ _ (World.drew _)
              refine wpAnyH_take (i := 0) (oi := ⟨some 83, _, _, _, _, _⟩) (v := ?_) rfl (by kernel_rfl) (by kernel_rfl) (by kernel_rfl) (fun _ _ _ h => h) (Or.inl ⟨by rfl, ?_⟩) hS0 ?_
              rotate_left 1
              · (intro w hSw; obtain ⟨hSw1, hSw2⟩ := hSw; go_simp; try with_reducible rfl)
              simp only [Act.put, List.setIfInBounds_toArray, List.set_cons_zero, List.set_cons_succ]
              refine wpAnyH_take (i := 1) (oi := ⟨some 84, _, _, _, _, _⟩) (v := ?_) rfl (by kernel_rfl) (by kernel_rfl) (by kernel_rfl) (fun _ _ _ h => h) (Or.inl ⟨by rfl, ?_⟩) hS0 ?_
              rotate_left 1
              · (intro w hSw; obtain ⟨hSw1, hSw2⟩ := hSw; go_simp; try with_reducible rfl)
              simp only [Act.put, List.setIfInBounds_toArray, List.set_cons_zero, List.set_cons_succ]
              refine wpAnyH_take (i := 2) (oi := ⟨some 85, _, _, _, _, _⟩) (v := ?_) rfl (by kernel_rfl) (by kernel_rfl) (by kernel_rfl) (fun _ _ _ h => h) (Or.inl ⟨by rfl, ?_⟩) hS0 ?_
              rotate_left 1
              · (intro w hSw; obtain ⟨hSw1, hSw2⟩ := hSw; go_simp; try with_reducible rfl)
              simp only [Act.put, List.setIfInBounds_toArray, List.set_cons_zero, List.set_cons_succ]
              refine wpAnyH_take (i := 3) (oi := ⟨some 86, _, _, _, _, _⟩) (v := ?_) rfl (by kernel_rfl) (by kernel_rfl) (by kernel_rfl) (fun _ _ _ h => h) (Or.inl ⟨by rfl, ?_⟩) hS0 ?_
              rotate_left 1
              · (intro w hSw; obtain ⟨hSw1, hSw2⟩ := hSw; go_simp; try with_reducible rfl)
              simp only [Act.put, List.setIfInBounds_toArray, List.set_cons_zero, List.set_cons_succ]
              refine wpAnyH_take (i := 4) (oi := ⟨some 87, _, _, _, _, _⟩) (v := ?_) rfl (by kernel_rfl) (by kernel_rfl) (by kernel_rfl) (fun _ _ _ h => h) (Or.inl ⟨by rfl, ?_⟩) hS0 ?_
              rotate_left 1
              · (intro w hSw; obtain ⟨hSw1, hSw2⟩ := hSw; go_simp; try with_reducible rfl)
              simp only [Act.put, List.setIfInBounds_toArray, List.set_cons_zero, List.set_cons_succ]
              refine wpAnyH_take (i := 6) (oi := ⟨some 89, _, _, _, _, _⟩) (v := ?_) rfl (by kernel_rfl) (by kernel_rfl) (by kernel_rfl) (fun _ _ _ h => h) (Or.inl ⟨by rfl, ?_⟩) hS0 ?_
              rotate_left 1
              · (intro w hSw; obtain ⟨hSw1, hSw2⟩ := hSw; go_simp; try with_reducible rfl)
              simp only [Act.put, List.setIfInBounds_toArray, List.set_cons_zero, List.set_cons_succ]
              refine wpAnyH_take (i := 7) (oi := ⟨some 90, _, _, _, _, _⟩) (v := ?_) rfl (by kernel_rfl) (by kernel_rfl) (by kernel_rfl) (fun _ _ _ h => h) (Or.inl ⟨by rfl, ?_⟩) hS0 ?_
              rotate_left 1
              · (intro w hSw; obtain ⟨hSw1, hSw2⟩ := hSw; go_simp; try with_reducible rfl)
              simp only [Act.put, List.setIfInBounds_toArray, List.set_cons_zero, List.set_cons_succ]
              refine wpAnyH_take (i := 8) (oi := ⟨some 91, _, _, _, _, _⟩) (v := ?_) rfl (by kernel_rfl) (by kernel_rfl) (by kernel_rfl) (fun _ _ _ h => h) (Or.inl ⟨by rfl, ?_⟩) hS0 ?_
              rotate_left 1
              · (intro w hSw; obtain ⟨hSw1, hSw2⟩ := hSw; go_simp; try with_reducible rfl)
              simp only [Act.put, List.setIfInBounds_toArray, List.set_cons_zero, List.set_cons_succ]
              refine wpAnyH_take (i := 9) (oi := ⟨some 92, _, _, _, _, _⟩) (v := ?_) rfl (by kernel_rfl) (by kernel_rfl) (by kernel_rfl) (fun _ _ _ h => h) (Or.inl ⟨by rfl, ?_⟩) hS0 ?_
              rotate_left 1
              · (intro w hSw; obtain ⟨hSw1, hSw2⟩ := hSw; go_simp; try with_reducible rfl)
              simp only [Act.put, List.setIfInBounds_toArray, List.set_cons_zero, List.set_cons_succ]
              refine wpAnyH_take (i := 10) (oi := ⟨some 93, _, _, _, _, _⟩) (v := ?_) rfl (by kernel_rfl) (by kernel_rfl) (by kernel_rfl) (fun _ _ _ h => h) (Or.inl ⟨by rfl, ?_⟩) hS0 ?_
              rotate_left 1
              · (intro w hSw; obtain ⟨hSw1, hSw2⟩ := hSw; go_simp; try with_reducible rfl)
              simp only [Act.put, List.setIfInBounds_toArray, List.set_cons_zero, List.set_cons_succ]
              refine wpAnyH_take (i := 11) (oi := ⟨some 94, _, _, _, _, _⟩) (v := ?_) rfl (by kernel_rfl) (by kernel_rfl) (by kernel_rfl) (fun _ _ _ h => h) (Or.inl ⟨by rfl, ?_⟩) hS0 ?_
              rotate_left 1
              · (intro w hSw; obtain ⟨hSw1, hSw2⟩ := hSw; go_simp; try with_reducible rfl)
              simp only [Act.put, List.setIfInBounds_toArray, List.set_cons_zero, List.set_cons_succ]
              refine wpAnyH_take (i := 12) (oi := ⟨some 95, _, _, _, _, _⟩) (v := ?_) rfl (by kernel_rfl) (by kernel_rfl) (by kernel_rfl) (fun _ _ _ h => h) (Or.inl ⟨by rfl, ?_⟩) hS0 ?_
              rotate_left 1
              · (intro w hSw; obtain ⟨hSw1, hSw2⟩ := hSw; go_simp; try with_reducible rfl)
              simp only [Act.put, List.setIfInBounds_toArray, List.set_cons_zero, List.set_cons_succ]
              refine wpAnyH_ready (rs := [5]) (by kernel_rfl) (by simp) ?_
              refine AllReadyH.cons (o := ⟨some 88, _, _, _, _, _⟩) rfl (fun K hK => ?_) AllReadyH.nil
              go_simp
              refine HA.out.mono ?_
              rintro e wb ⟨hr, hS⟩
              obtain ⟨fb, rfl, hflt⟩ := hr.no hx
              have HFl := hide hflt
              have HSc := hide (show St w2 [grpT p t (add1 t M qv qm true), rgrpT q t M, blkT b #[.int .i64 2, .int .i64 qv, .int .i64 qm] 35] wb from hS)
              have hS1 : wb.cell? ⟨b, 1, none⟩ = some (.int .i64 qv) ∧ wb.cell? ⟨b, 2, none⟩ = some (.int .i64 qm) := ⟨(Lk.St.blk HSc.out (i := 2) rfl).1 1, (Lk.St.blk HSc.out (i := 2) rfl).1 2⟩
              refine hK.out _ _ hS1 (fun hHeld => ?_)
              clear hK K
              clear hHeld
              refine wpAnyH_ready (rs := [13]) (by kernel_rfl) (by simp) ?_
              refine AllReadyH.cons (o := ⟨some 96, _, _, _, _, _⟩) rfl (fun K hK => ?_) AllReadyH.nil
              go_simp
              refine (S_change HSc.out (i := 1) rfl hM.out qv qm true).mono ?_
              rintro e wc ⟨rfl, hS2a, hkeep⟩
              have HSd := hide (show St w2 [grpT p t (add1 t M qv qm true), rgrpT q t (add1 t M qv qm true), blkT b #[.int .i64 2, .int .i64 qv, .int .i64 qm] 35] wc from hS2a)
              have hS2 : wc.cell? ⟨b, 1, none⟩ = some (.int .i64 qv) ∧ wc.cell? ⟨b, 2, none⟩ = some (.int .i64 qm) := ⟨(Lk.St.blk HSd.out (i := 2) rfl).1 1, (Lk.St.blk HSd.out (i := 2) rfl).1 2⟩
              have HP := hide (place_flt (HE0.out _ (HE.out wc (St.weaken (Ts := []) HSd.out))) (hkeep _ _ _ HFl.out) hx)
              refine hK.out _ _ hS2 (fun hHeld => ?_)
              clear hK K
              clear hHeld
              refine wpAnyH_ready (rs := [14]) (by kernel_rfl) (by simp) ?_
              refine AllReadyH.cons (o := ⟨some 97, _, _, _, _, _⟩) rfl (fun K hK => ?_) AllReadyH.nil
              go_simp
              refine HP.out.mono ?_
              rintro e wd ⟨rfl, hb⟩
              have HSe := hide (HSd.out.below hb)
              have hS3 : wd.cell? ⟨b, 1, none⟩ = some (.int .i64 qv) ∧ wd.cell? ⟨b, 2, none⟩ = some (.int .i64 qm) := ⟨(Lk.St.blk HSe.out (i := 2) rfl).1 1, (Lk.St.blk HSe.out (i := 2) rfl).1 2⟩
              refine hK.out _ _ hS3 (fun hHeld => ?_)
              clear hK K
              clear hHeld
              refine wpAnyH_take (i := 15) (oi := ⟨some 98, _, _, _, _, _⟩) (v := ?_) rfl (by kernel_rfl) (by kernel_rfl) (by kernel_rfl) (fun _ _ _ h => h) (Or.inl ⟨by rfl, ?_⟩) hS3 ?_
              rotate_left 1
              · (intro w hSw; obtain ⟨hSw1, hSw2⟩ := hSw; go_simp; try with_reducible rfl)
              simp only [Act.put, List.setIfInBounds_toArray, List.set_cons_zero, List.set_cons_succ]
              refine wpAnyH_done (by kernel_rfl) ?_ _
              have HSz := hide (show St w2 [grpT p t (add1 t M qv qm true), rgrpT q t (add1 t M qv qm true)] wd from St.weaken (Us := [_]) HSe.out)
              have HFz := hide HF2.out
              clear hS0 hS1 hS2 hS3 hb hS hS2a hkeep hr HP HA HD HSb HSc HSd HSe hx HF2 hM hflt HFl
              generalize add1 t M qv qm true = M2 at *
              clear a0 a1 a2
              go_wp2_with fail
              refine (S_last HSz.out (i := 0) rfl HFz.out).mono ?_
              rintro e u1 ⟨rfl, hS⟩
              have HU1 := hide hS
              clear hS HSz
              go_wp2_with fail
              refine (S_rlast HU1.out (i := 1) rfl HFz.out).mono ?_
              rintro e u2 ⟨rfl, hS⟩
              have HU2 := hide hS
              clear hS HU1
              go_wp2_with fail
              refine (S_at HU2.out (i := 0) rfl HFz.out Ht.out mark).mono ?_
              rintro e u3 ⟨V3, d3, rfl, hS⟩
              have HU3 := hide (show St w2 ([grpT p t M2, rgrpT q t M2] ++ [rowT 3 1 (.slice V3 (vols (atS t M2 mark) 4).length d3) (vols (atS t M2 mark) 4).length (nums (vols (atS t M2 mark) 4))]) u3 from hS)
              clear hS HU2
              rw [List.cons_append, List.cons_append, List.nil_append] at HU3
              go_wp2_with fail
              refine (S_rat HU3.out (i := 1) rfl HFz.out mark).mono ?_
              rintro e u4 ⟨V4, d4, rfl, hS⟩
              have HU4 := hide (show St w2 ([grpT p t M2, rgrpT q t M2] ++ [rowT 3 1 (.slice V3 (vols (atS t M2 mark) 4).length d3) (vols (atS t M2 mark) 4).length (nums (vols (atS t M2 mark) 4))] ++ [rowT 3 1 (.slice V4 (vols (atS t M2 mark) 4).length d4) (vols (atS t M2 mark) 4).length (nums (vols (atS t M2 mark) 4))]) u4 from hS)
              clear hS HU3
              have HQ := hide (same_any (w := u4) (vols (atS t M2 mark) 4) (vols (atS t M2 mark) 4) _ _ V3 V4 d3 d4 rfl rfl (by have := vols_len (atS t M2 mark) 4; omega) (St.src HU4.out (i := 2) rfl) (St.src HU4.out (i := 3) rfl))
              rw [decide_eq_true rfl] at HQ
              have HU5 := hide (St.weaken (Ts := [grpT p t M2, rgrpT q t M2]) (Us := [_, _]) HU4.out)
              clear HU4
              generalize (vols (atS t M2 mark) 4).length = nl1 at *
              go_wp2_with fail
              refine HQ.out.mono ?_
              rintro e u6 ⟨rfl, hb⟩
              have HU6 := hide (HU5.out.below hb)
              clear hb HQ HU5
              go_wp2_with fail
              refine (S_now HU6.out (i := 0) rfl HFz.out Ht.out).mono ?_
              rintro e u7 ⟨V7, d7, rfl, hS⟩
              have HU7 := hide (show St w2 ([grpT p t M2, rgrpT q t M2] ++ [rowT 3 1 (.slice V7 (vols (atS t M2 (last M2)) 4).length d7) (vols (atS t M2 (last M2)) 4).length (nums (vols (atS t M2 (last M2)) 4))]) u7 from hS)
              clear hS HU6
              rw [List.cons_append, List.cons_append, List.nil_append] at HU7
              go_wp2_with fail
              refine (S_rlast HU7.out (i := 1) rfl HFz.out).mono ?_
              rintro e u8 ⟨rfl, hS⟩
              have HU8 := hide hS
              clear hS HU7
              go_wp2_with fail
              refine (S_rat HU8.out (i := 1) rfl HFz.out (last M2)).mono ?_
              rintro e u9 ⟨V9, d9, rfl, hS⟩
              have HU9 := hide (show St w2 ([grpT p t M2, rgrpT q t M2] ++ [rowT 3 1 (.slice V7 (vols (atS t M2 (last M2)) 4).length d7) (vols (atS t M2 (last M2)) 4).length (nums (vols (atS t M2 (last M2)) 4))] ++ [rowT 3 1 (.slice V9 (vols (atS t M2 (last M2)) 4).length d9) (vols (atS t M2 (last M2)) 4).length (nums (vols (atS t M2 (last M2)) 4))]) u9 from hS)
              clear hS HU8
              have HQ := hide (same_any (w := u9) (vols (atS t M2 (last M2)) 4) (vols (atS t M2 (last M2)) 4) _ _ V7 V9 d7 d9 rfl rfl (by have := vols_len (atS t M2 (last M2)) 4; omega) (St.src HU9.out (i := 2) rfl) (St.src HU9.out (i := 3) rfl))
              rw [decide_eq_true rfl] at HQ
              have HU10 := hide (St.weaken (Ts := [grpT p t M2, rgrpT q t M2]) (Us := [_, _]) HU9.out)
              clear HU9
              generalize (vols (atS t M2 (last M2)) 4).length = nl2 at *
              go_wp2_with fail
              refine HQ.out.mono ?_
              rintro e u11 ⟨rfl, hb⟩
              have HU11 := hide (HU10.out.below hb)
              clear hb HQ HU10
              go_wp2
              go_roundw
              case rel => exact ⟨k + 1, Hlt.out, by go_num, M2, HFz.out, HU11.out⟩
              case measure => have := Hlt.out; simp [intOf]; omega
          · have e1 : (qk == 1) = false := by simpa using h1
            have e2 : (qk == 2) = false := by simpa using h2
            have HSz := hide (show St w2 [grpT p t M, rgrpT q t M] _ from St.weaken HSa.out)
            have HFz := hide hM.out
            clear h1 h2 HSa hM
            go_wp2_with fail
            generalize wr.heap.size = b at *
            generalize World.alloc _ _ = wa at *
            clear a0 a1 a2
            refine (S_last HSz.out (i := 0) rfl HFz.out).mono ?_
            rintro e u1 ⟨rfl, hS⟩
            have HU1 := hide hS
            clear hS HSz
            go_wp2_with fail
            refine (S_rlast HU1.out (i := 1) rfl HFz.out).mono ?_
            rintro e u2 ⟨rfl, hS⟩
            have HU2 := hide hS
            clear hS HU1
            go_wp2_with fail
            refine (S_at HU2.out (i := 0) rfl HFz.out Ht.out mark).mono ?_
            rintro e u3 ⟨V3, d3, rfl, hS⟩
            have HU3 := hide (show St w2 ([grpT p t M, rgrpT q t M] ++ [rowT 3 1 (.slice V3 (vols (atS t M mark) 4).length d3) (vols (atS t M mark) 4).length (nums (vols (atS t M mark) 4))]) u3 from hS)
            clear hS HU2
            rw [List.cons_append, List.cons_append, List.nil_append] at HU3
            go_wp2_with fail
            refine (S_rat HU3.out (i := 1) rfl HFz.out mark).mono ?_
            rintro e u4 ⟨V4, d4, rfl, hS⟩
            have HU4 := hide (show St w2 ([grpT p t M, rgrpT q t M] ++ [rowT 3 1 (.slice V3 (vols (atS t M mark) 4).length d3) (vols (atS t M mark) 4).length (nums (vols (atS t M mark) 4))] ++ [rowT 3 1 (.slice V4 (vols (atS t M mark) 4).length d4) (vols (atS t M mark) 4).length (nums (vols (atS t M mark) 4))]) u4 from hS)
            clear hS HU3
            have HQ := hide (same_any (w := u4) (vols (atS t M mark) 4) (vols (atS t M mark) 4) _ _ V3 V4 d3 d4 rfl rfl (by have := vols_len (atS t M mark) 4; omega) (St.src HU4.out (i := 2) rfl) (St.src HU4.out (i := 3) rfl))
            rw [decide_eq_true rfl] at HQ
            have HU5 := hide (St.weaken (Ts := [grpT p t M, rgrpT q t M]) (Us := [_, _]) HU4.out)
            clear HU4
            generalize (vols (atS t M mark) 4).length = nl1 at *
            go_wp2_with fail
            refine HQ.out.mono ?_
            rintro e u6 ⟨rfl, hb⟩
            have HU6 := hide (HU5.out.below hb)
            clear hb HQ HU5
            go_wp2_with fail
            refine (S_now HU6.out (i := 0) rfl HFz.out Ht.out).mono ?_
            rintro e u7 ⟨V7, d7, rfl, hS⟩
            have HU7 := hide (show St w2 ([grpT p t M, rgrpT q t M] ++ [rowT 3 1 (.slice V7 (vols (atS t M (last M)) 4).length d7) (vols (atS t M (last M)) 4).length (nums (vols (atS t M (last M)) 4))]) u7 from hS)
            clear hS HU6
            rw [List.cons_append, List.cons_append, List.nil_append] at HU7
            go_wp2_with fail
            refine (S_rlast HU7.out (i := 1) rfl HFz.out).mono ?_
            rintro e u8 ⟨rfl, hS⟩
            have HU8 := hide hS
            clear hS HU7
            go_wp2_with fail
            refine (S_rat HU8.out (i := 1) rfl HFz.out (last M)).mono ?_
            rintro e u9 ⟨V9, d9, rfl, hS⟩
            have HU9 := hide (show St w2 ([grpT p t M, rgrpT q t M] ++ [rowT 3 1 (.slice V7 (vols (atS t M (last M)) 4).length d7) (vols (atS t M (last M)) 4).length (nums (vols (atS t M (last M)) 4))] ++ [rowT 3 1 (.slice V9 (vols (atS t M (last M)) 4).length d9) (vols (atS t M (last M)) 4).length (nums (vols (atS t M (last M)) 4))]) u9 from hS)
            clear hS HU8
            have HQ := hide (same_any (w := u9) (vols (atS t M (last M)) 4) (vols (atS t M (last M)) 4) _ _ V7 V9 d7 d9 rfl rfl (by have := vols_len (atS t M (last M)) 4; omega) (St.src HU9.out (i := 2) rfl) (St.src HU9.out (i := 3) rfl))
            rw [decide_eq_true rfl] at HQ
            have HU10 := hide (St.weaken (Ts := [grpT p t M, rgrpT q t M]) (Us := [_, _]) HU9.out)
            clear HU9
            generalize (vols (atS t M (last M)) 4).length = nl2 at *
            go_wp2_with fail
            refine HQ.out.mono ?_
            rintro e u11 ⟨rfl, hb⟩
            have HU11 := hide (HU10.out.below hb)
            clear hb HQ HU10
            go_wp2
            go_roundw
            case rel => exact ⟨k + 1, Hlt.out, by go_num, M, HFz.out, HU11.out⟩
            case measure => have := Hlt.out; simp [intOf]; omega
      · obtain rfl : k = n1 := by omega
        have HS9 := hide hst.out
        have HF9 := hide hM.out
        clear hge hk hst hM
        go_wp2_with fail
        have HX0 := hide (HS9.out.below (Below.refl _ _).drew)
        refine wp_region_any (by kernel_rfl) ?_
        change wpAny _ _ _ _ _ _ _ (World.drew _)
        refine wpAny_take (i := 0) (oi := ⟨some 125, _, _, _, _, _⟩) (v := ?_) rfl (by kernel_rfl) (by kernel_rfl) (by kernel_rfl) (fun _ _ _ h => h) (Or.inl ⟨by rfl, ?_⟩) ?_
        rotate_left 1
        · (intro w; go_simp; try with_reducible rfl)
        simp only [Act.put, List.setIfInBounds_toArray, List.set_cons_zero, List.set_cons_succ]
        refine wpAny_take (i := 3) (oi := ⟨some 128, _, _, _, _, _⟩) (v := ?_) rfl (by kernel_rfl) (by kernel_rfl) (by kernel_rfl) (fun _ _ _ h => h) (Or.inl ⟨by rfl, ?_⟩) ?_
        rotate_left 1
        · (intro w; go_simp; try with_reducible rfl)
        simp only [Act.put, List.setIfInBounds_toArray, List.set_cons_zero, List.set_cons_succ]
        refine wpAny_ready (rs := [1]) (by kernel_rfl) (by simp) ?_
        refine AllReady.cons (o := ⟨some 126, _, _, _, _, _⟩) rfl (fun K hK => ?_) AllReady.nil
        go_simp
        refine (S_bytes HX0.out (i := 0) rfl HF9.out Ht.out).mono ?_
        rintro e x1 ⟨⟨A9, n9, c9, rfl, hl9, _, _, hby⟩, hS⟩
        have HBy := hide hby
        have Hl9 := hide hl9
        have HX1 := hide hS
        clear hS hby hl9
        refine hK _ _ ?_
        clear hK K
        refine wpAny_ready (rs := [2, 4]) (by kernel_rfl) (by simp) ?_
        refine AllReady.cons (o := ⟨some 127, _, _, _, _, _⟩) rfl (fun K hK => ?_) (AllReady.cons (o := ⟨some 129, _, _, _, _, _⟩) rfl (fun K hK => ?_) AllReady.nil)
        · have hcv := Sm.run_str _ _ A9 _ n9 c9 Hl9.out (HBy.out)
          go_simp
          clear hcv
          refine hK _ _ ?_
          clear hK K
          refine wpAny_ready (rs := [4]) (by kernel_rfl) (by simp) ?_
          refine AllReady.cons (o := ⟨some 129, _, _, _, _, _⟩) rfl (fun K hK => ?_) AllReady.nil
          go_simp
          obtain ⟨Gr, hpr, _, _⟩ := St.opened HX1.out (i := 1) rfl
          refine (RBytes_any hpr HF9.out Ht.out _ rfl).mono ?_
          rintro e x2 ⟨rfl, hb⟩
          have HX2b := hide hb
          have HX2 := hide (HX1.out.below hb)
          clear hb hpr
          refine hK _ _ ?_
          clear hK K
          refine wpAny_take (i := 5) (oi := ⟨some 130, _, _, _, _, _⟩) (v := ?_) rfl (by kernel_rfl) (by kernel_rfl) (by kernel_rfl) (fun _ _ _ h => h) (Or.inl ⟨by rfl, ?_⟩) ?_
          rotate_left 1
          · (intro w; go_simp; try with_reducible rfl)
          simp only [Act.put, List.setIfInBounds_toArray, List.set_cons_zero, List.set_cons_succ]
          refine wpAny_take (i := 6) (oi := ⟨some 6, _, _, _, _, _⟩) (v := ?_) rfl (by kernel_rfl) (by kernel_rfl) (by kernel_rfl) (fun _ _ _ h => h) (Or.inl ⟨by rfl, ?_⟩) ?_
          rotate_left 1
          · (intro w; go_simp; try with_reducible rfl)
          simp only [Act.put, List.setIfInBounds_toArray, List.set_cons_zero, List.set_cons_succ]
          refine wpAny_done (by kernel_rfl) ?_ _
          have HB9 := hide (HE.out _ (St.weaken (Ts := []) HX2.out))
          go_wp2
          go_ret
          exact ⟨by simp, HB9.out⟩
        · go_simp
          obtain ⟨Gr, hpr, _, _⟩ := St.opened HX1.out (i := 1) rfl
          refine (RBytes_any hpr HF9.out Ht.out _ rfl).mono ?_
          rintro e x2 ⟨rfl, hb⟩
          have HX2b := hide hb
          have HX2 := hide (HX1.out.below hb)
          clear hb hpr
          refine hK _ _ ?_
          clear hK K
          refine wpAny_ready (rs := [2]) (by kernel_rfl) (by simp) ?_
          refine AllReady.cons (o := ⟨some 127, _, _, _, _, _⟩) rfl (fun K hK => ?_) AllReady.nil
          have hcv := Sm.run_str _ _ A9 _ n9 c9 Hl9.out (HBy.out.below HX2b.out)
          go_simp
          clear hcv
          refine hK _ _ ?_
          clear hK K
          refine wpAny_take (i := 5) (oi := ⟨some 130, _, _, _, _, _⟩) (v := ?_) rfl (by kernel_rfl) (by kernel_rfl) (by kernel_rfl) (fun _ _ _ h => h) (Or.inl ⟨by rfl, ?_⟩) ?_
          rotate_left 1
          · (intro w; go_simp; try with_reducible rfl)
          simp only [Act.put, List.setIfInBounds_toArray, List.set_cons_zero, List.set_cons_succ]
          refine wpAny_take (i := 6) (oi := ⟨some 6, _, _, _, _, _⟩) (v := ?_) rfl (by kernel_rfl) (by kernel_rfl) (by kernel_rfl) (fun _ _ _ h => h) (Or.inl ⟨by rfl, ?_⟩) ?_
          rotate_left 1
          · (intro w; go_simp; try with_reducible rfl)
          simp only [Act.put, List.setIfInBounds_toArray, List.set_cons_zero, List.set_cons_succ]
          refine wpAny_done (by kernel_rfl) ?_ _
          have HB9 := hide (HE.out _ (St.weaken (Ts := []) HX2.out))
          go_wp2
          go_ret
          exact ⟨by simp, HB9.out⟩
theorem Plays_any (A0 : Option Addr) (n0 c0 : Nat) (l0 : List Int) (A1 : Option Addr) (n1 c1 : Nat) (l1 : List Oq) (mark : Int) (w : World) (hty : Ety w) (hl0 : l0.length = n0) (hs0 : Src w A0 (nums l0)) (hl1 : l1.length = n1) (hs1 : Src w A1 (ocels l1)) :
    Calls Tryd.prog 3 #[.slice A0 n0 c0, .slice A1 n1 c1, .int .i64 mark] w fun e w' => e = .returned (.bool true) ∧ Below w.heap.size w w' := by
  by_cases h : n0 ≤ 20 ∧ n1 ≤ 200
  · exact Plays_law A0 n0 c0 l0 A1 n1 c1 l1 mark w hty hl0 hs0 hl1 hs1 h.1 h.2
  · exact Plays_long A0 n0 c0 A1 n1 c1 mark w (by omega)

end Go.Proofs.YthoflpjmdhabmaaDoor.Mb
