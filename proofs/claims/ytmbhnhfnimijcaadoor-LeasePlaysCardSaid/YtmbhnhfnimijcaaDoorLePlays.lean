/-
  LeasePlays at every script: it returns true, and changes nothing that was there. Condition: the library's variable errors.errorType holds what the program's own text lays.
-/
import Derived.Deep.RegionHeld3
import Derived.Test.YtmbhnhfnimijcaaDoorLePair
import Derived.Test.YtmbhnhfnimijcaaDoorLeAwake
import Derived.Test.YtmbhnhfnimijcaaDoorLeOp
namespace Go.Proofs.YtmbhnhfnimijcaaDoor.Le
open Go.RowKit
open Pk Sm Fa Dk Wn Lk

set_option maxRecDepth 100000 in
theorem Plays_long (A : Option Addr) (n c : Nat) (w : World) (hty : Ety w) (hn : 300 < n) :
    Calls Tryd.prog 3 #[.slice A n c] w fun e w' => e = .returned (.bool true) ∧ Below w.heap.size w w' := by
  have hni : (300 : Int) < (n : Int) := by omega
  have HA := hide (awake_any w hty)
  have HA2 : Hid (∀ W, Below w.heap.size w W → Calls Tryd.prog 9 #[] W fun e w' => e = .returned (.bool true) ∧ Below W.heap.size W w') := fun W hW => awake_any W (Ety.below hty hW hty.lt)
  clear hty hn
  go_enter Tryd.func3, Tryd.ntmps3
  go_wp2_with fail
  refine HA.out.mono ?_
  rintro e w1 ⟨rfl, hb⟩
  have HB1 := hide hb
  have HA3 := hide (HA2.out w1 hb)
  clear hb HA HA2
  go_wp2_with fail
  refine HA3.out.mono ?_
  rintro e w2 ⟨rfl, hb⟩
  have HB2 := hide (HB1.out.trans (hb.mono HB1.out.size))
  clear hb HA3
  go_wp2
  go_ret
  exact ⟨rfl, HB2.out⟩

set_option maxRecDepth 100000 in
set_option maxHeartbeats 16000000 in
theorem Plays_law (A : Option Addr) (n c : Nat) (l : List Oq) (w : World) (hty : Ety w) (hl : l.length = n) (hf : OFits l) (hs : Src w A (ocels l)) (hn : n ≤ 300) :
    Calls Tryd.prog 3 #[.slice A n c] w fun e w' => e = .returned (.bool true) ∧ Below w.heap.size w w' := by
  have hni : ¬ (300 : Int) < (n : Int) := by omega
  have HE0 : Hid (∀ W, Below w.heap.size w W → Ety W) := fun W hW => Ety.below hty hW hty.lt
  have HA := hide (awake_any w hty)
  have Hl := hide hl
  have Hf := hide hf
  have Hs := hide hs
  clear hty hl hf hs hn
  go_enter Tryd.func3, Tryd.ntmps3
  go_wp2_with fail
  refine HA.out.mono ?_
  rintro e w1 ⟨rfl, hb⟩
  have HB1 := hide hb
  have HE : Hid (∀ W, St w1 [] W → Ety W) := fun W hW => HE0.out W (hb.trans (hW.bel.mono hb.size))
  have Hsr := hide (Hs.out.below hb)
  have HN := hide (St.new_four w1)
  clear hb HA Hs HE0
  go_wp2_with fail
  generalize World.alloc _ _ = w3 at *
  have HS3 := hide HN.out
  clear HN
  generalize w1.heap.size + 1 + 1 + 1 = p4 at *
  generalize w1.heap.size + 1 + 1 = p3 at *
  generalize w1.heap.size + 1 = p2 at *
  generalize w1.heap.size = p1 at *
  go_loopw [37] (fun jv wr => ∃ k : Nat, k ≤ n ∧ jv = .int .i64 (k : Int) ∧ ∃ (s : Sit) (f : Fen), Hid s.Ok ∧ Hid f.Ok ∧ Hid (St w1 [sitT p1 s, rsitT p2 s, fenT p3 f, rfenT p4 f] wr)) (fun jv _ => n - (intOf jv).toNat)
  case atStart => exact ⟨0, Nat.zero_le _, rfl, s0, f0, s0_ok, f0_ok, HS3.out⟩
  case round =>
    clear HS3
    obtain ⟨k, hk, rfl, s, f, hso, hfo, hst⟩ := hrel
    rcases Nat.lt_or_ge k n with hlt | hge
    · have Hlt := hide hlt
      have hki : (k : Int) < (n : Int) := by omega
      obtain ⟨o1, ho⟩ : ∃ o1, l[k]? = some o1 := ⟨_, List.getElem?_eq_getElem (by rw [Hl.out]; exact hlt)⟩
      obtain ⟨g, o, rfl, hg, hat⟩ := Src.op (Hsr.out.below hst.out.bel) ho
      have hfit := Hf.out o1 (List.mem_of_getElem? ho)
      obtain ⟨qk, qe, qn⟩ := o1
      have a0 := hat.kind
      have a1 := hat.e
      have a2 := hat.n
      have He := hide (show qe ≤ 9223372036854775807 from hfit.2.1.2)
      have HSa := hide (Lk.St.blk_new hst.out #[.int .i64 qk, .int .i64 qe, .int .i64 qn] 39)
      simp only at a0 a1 a2
      clear hk hlt ho hg hat hst hfit
      by_cases h1 : qk = 1
      · subst h1
        go_wp2_with fail
        generalize wr.heap.size = b at *
        generalize World.alloc _ _ = wa at *
        have HSb := hide (show St w1 [sitT p1 s, rsitT p2 s, fenT p3 f, rfenT p4 f, blkT b #[.int .i64 1, .int .i64 qe, .int .i64 qn] 39] wa from HSa.out)
        clear HSa
        obtain ⟨X2, hX2⟩ : ∃ X2, s.grant qe qn = X2 := ⟨_, rfl⟩
        have HOk : Hid X2.Ok := by rw [← hX2]; exact hso.out.grant qe qn He.out
        have HD := hide (HSb.out.below (Below.refl _ wa).drew)
        have hS0 : wa.drew.cell? ⟨b, 1, none⟩ = some (.int .i64 qe) ∧ wa.drew.cell? ⟨b, 2, none⟩ = some (.int .i64 qn) := ⟨(Lk.St.blk HD.out (i := 4) rfl).1 1, (Lk.St.blk HD.out (i := 4) rfl).1 2⟩
        have HX2 := hide hX2
        clear hX2 a0 a1 a2
        go_wp2_with fail
        refine wp_region_held (S := (fun W : World => W.cell? ⟨b, 1, none⟩ = some (.int .i64 qe) ∧ W.cell? ⟨b, 2, none⟩ = some (.int .i64 qn))) (by kernel_rfl) ?_
        change wpAnyH _ _ _ _ _ _ _ _ (World.drew _)
        refine wpAnyH_take (i := 0) (oi := ⟨some 48, _, _, _, _, _⟩) (v := ?_) rfl (by kernel_rfl) (by kernel_rfl) (by kernel_rfl) (fun _ _ _ h => h) (Or.inl ⟨by rfl, ?_⟩) hS0 ?_
        rotate_left 1
        · (intro w hSw; obtain ⟨hSw1, hSw2⟩ := hSw; go_simp; try with_reducible rfl)
        simp only [Act.put, List.setIfInBounds_toArray, List.set_cons_zero, List.set_cons_succ]
        refine wpAnyH_take (i := 1) (oi := ⟨some 49, _, _, _, _, _⟩) (v := ?_) rfl (by kernel_rfl) (by kernel_rfl) (by kernel_rfl) (fun _ _ _ h => h) (Or.inl ⟨by rfl, ?_⟩) hS0 ?_
        rotate_left 1
        · (intro w hSw; obtain ⟨hSw1, hSw2⟩ := hSw; go_simp; try with_reducible rfl)
        simp only [Act.put, List.setIfInBounds_toArray, List.set_cons_zero, List.set_cons_succ]
        refine wpAnyH_take (i := 2) (oi := ⟨some 50, _, _, _, _, _⟩) (v := ?_) rfl (by kernel_rfl) (by kernel_rfl) (by kernel_rfl) (fun _ _ _ h => h) (Or.inl ⟨by rfl, ?_⟩) hS0 ?_
        rotate_left 1
        · (intro w hSw; obtain ⟨hSw1, hSw2⟩ := hSw; go_simp; try with_reducible rfl)
        simp only [Act.put, List.setIfInBounds_toArray, List.set_cons_zero, List.set_cons_succ]
        refine wpAnyH_take (i := 3) (oi := ⟨some 51, _, _, _, _, _⟩) (v := ?_) rfl (by kernel_rfl) (by kernel_rfl) (by kernel_rfl) (fun _ _ _ h => h) (Or.inl ⟨by rfl, ?_⟩) hS0 ?_
        rotate_left 1
        · (intro w hSw; obtain ⟨hSw1, hSw2⟩ := hSw; go_simp; try with_reducible rfl)
        simp only [Act.put, List.setIfInBounds_toArray, List.set_cons_zero, List.set_cons_succ]
        refine wpAnyH_take (i := 4) (oi := ⟨some 52, _, _, _, _, _⟩) (v := ?_) rfl (by kernel_rfl) (by kernel_rfl) (by kernel_rfl) (fun _ _ _ h => h) (Or.inl ⟨by rfl, ?_⟩) hS0 ?_
        rotate_left 1
        · (intro w hSw; obtain ⟨hSw1, hSw2⟩ := hSw; go_simp; try with_reducible rfl)
        simp only [Act.put, List.setIfInBounds_toArray, List.set_cons_zero, List.set_cons_succ]
        refine wpAnyH_take (i := 6) (oi := ⟨some 54, _, _, _, _, _⟩) (v := ?_) rfl (by kernel_rfl) (by kernel_rfl) (by kernel_rfl) (fun _ _ _ h => h) (Or.inl ⟨by rfl, ?_⟩) hS0 ?_
        rotate_left 1
        · (intro w hSw; obtain ⟨hSw1, hSw2⟩ := hSw; go_simp; try with_reducible rfl)
        simp only [Act.put, List.setIfInBounds_toArray, List.set_cons_zero, List.set_cons_succ]
        refine wpAnyH_take (i := 7) (oi := ⟨some 55, _, _, _, _, _⟩) (v := ?_) rfl (by kernel_rfl) (by kernel_rfl) (by kernel_rfl) (fun _ _ _ h => h) (Or.inl ⟨by rfl, ?_⟩) hS0 ?_
        rotate_left 1
        · (intro w hSw; obtain ⟨hSw1, hSw2⟩ := hSw; go_simp; try with_reducible rfl)
        simp only [Act.put, List.setIfInBounds_toArray, List.set_cons_zero, List.set_cons_succ]
        refine wpAnyH_take (i := 8) (oi := ⟨some 56, _, _, _, _, _⟩) (v := ?_) rfl (by kernel_rfl) (by kernel_rfl) (by kernel_rfl) (fun _ _ _ h => h) (Or.inl ⟨by rfl, ?_⟩) hS0 ?_
        rotate_left 1
        · (intro w hSw; obtain ⟨hSw1, hSw2⟩ := hSw; go_simp; try with_reducible rfl)
        simp only [Act.put, List.setIfInBounds_toArray, List.set_cons_zero, List.set_cons_succ]
        refine wpAnyH_take (i := 9) (oi := ⟨some 57, _, _, _, _, _⟩) (v := ?_) rfl (by kernel_rfl) (by kernel_rfl) (by kernel_rfl) (fun _ _ _ h => h) (Or.inl ⟨by rfl, ?_⟩) hS0 ?_
        rotate_left 1
        · (intro w hSw; obtain ⟨hSw1, hSw2⟩ := hSw; go_simp; try with_reducible rfl)
        simp only [Act.put, List.setIfInBounds_toArray, List.set_cons_zero, List.set_cons_succ]
        refine wpAnyH_take (i := 10) (oi := ⟨some 58, _, _, _, _, _⟩) (v := ?_) rfl (by kernel_rfl) (by kernel_rfl) (by kernel_rfl) (fun _ _ _ h => h) (Or.inl ⟨by rfl, ?_⟩) hS0 ?_
        rotate_left 1
        · (intro w hSw; obtain ⟨hSw1, hSw2⟩ := hSw; go_simp; try with_reducible rfl)
        simp only [Act.put, List.setIfInBounds_toArray, List.set_cons_zero, List.set_cons_succ]
        refine wpAnyH_take (i := 11) (oi := ⟨some 59, _, _, _, _, _⟩) (v := ?_) rfl (by kernel_rfl) (by kernel_rfl) (by kernel_rfl) (fun _ _ _ h => h) (Or.inl ⟨by rfl, ?_⟩) hS0 ?_
        rotate_left 1
        · (intro w hSw; obtain ⟨hSw1, hSw2⟩ := hSw; go_simp; try with_reducible rfl)
        simp only [Act.put, List.setIfInBounds_toArray, List.set_cons_zero, List.set_cons_succ]
        refine wpAnyH_take (i := 12) (oi := ⟨some 60, _, _, _, _, _⟩) (v := ?_) rfl (by kernel_rfl) (by kernel_rfl) (by kernel_rfl) (fun _ _ _ h => h) (Or.inl ⟨by rfl, ?_⟩) hS0 ?_
        rotate_left 1
        · (intro w hSw; obtain ⟨hSw1, hSw2⟩ := hSw; go_simp; try with_reducible rfl)
        simp only [Act.put, List.setIfInBounds_toArray, List.set_cons_zero, List.set_cons_succ]
        refine wpAnyH_ready (rs := [5]) (by kernel_rfl) (by simp) ?_
        refine AllReadyH.cons (o := ⟨some 53, _, _, _, _, _⟩) rfl (fun K hK => ?_) AllReadyH.nil
        go_simp
        refine (S_grant HD.out (i := 0) rfl hso.out qe qn).mono ?_
        rintro e wb ⟨v, rfl, hE, hS⟩
        rw [HX2.out] at hS
        have HEr := hide hE
        have HSc := hide (show St w1 [sitT p1 X2, rsitT p2 s, fenT p3 f, rfenT p4 f, blkT b #[.int .i64 1, .int .i64 qe, .int .i64 qn] 39] wb from hS)
        have hS1 : wb.cell? ⟨b, 1, none⟩ = some (.int .i64 qe) ∧ wb.cell? ⟨b, 2, none⟩ = some (.int .i64 qn) := ⟨(Lk.St.blk HSc.out (i := 4) rfl).1 1, (Lk.St.blk HSc.out (i := 4) rfl).1 2⟩
        refine hK.out _ _ hS1 (fun hHeld => ?_)
        clear hK K
        clear hHeld
        refine wpAnyH_ready (rs := [13]) (by kernel_rfl) (by simp) ?_
        refine AllReadyH.cons (o := ⟨some 61, _, _, _, _, _⟩) rfl (fun K hK => ?_) AllReadyH.nil
        go_simp
        refine (K_grant HSc.out (i := 1) rfl hso.out qe qn).mono ?_
        rintro e wc ⟨rfl, hS2a, hkeep⟩
        rw [HX2.out] at hS2a
        have HSd := hide (show St w1 [sitT p1 X2, rsitT p2 X2, fenT p3 f, rfenT p4 f, blkT b #[.int .i64 1, .int .i64 qe, .int .i64 qn] 39] wc from hS2a)
        have hS2 : wc.cell? ⟨b, 1, none⟩ = some (.int .i64 qe) ∧ wc.cell? ⟨b, 2, none⟩ = some (.int .i64 qn) := ⟨(Lk.St.blk HSd.out (i := 4) rfl).1 1, (Lk.St.blk HSd.out (i := 4) rfl).1 2⟩
        have HP := hide (place_any (HE.out _ (St.weaken (Ts := []) HSd.out)) (hkeep _ _ _ HEr.out))
        refine hK.out _ _ hS2 (fun hHeld => ?_)
        clear hK K
        clear hHeld
        refine wpAnyH_ready (rs := [14]) (by kernel_rfl) (by simp) ?_
        refine AllReadyH.cons (o := ⟨some 62, _, _, _, _, _⟩) rfl (fun K hK => ?_) AllReadyH.nil
        go_simp
        refine HP.out.mono ?_
        rintro e wd ⟨rfl, hb⟩
        have HSe := hide (HSd.out.below hb)
        have hS3 : wd.cell? ⟨b, 1, none⟩ = some (.int .i64 qe) ∧ wd.cell? ⟨b, 2, none⟩ = some (.int .i64 qn) := ⟨(Lk.St.blk HSe.out (i := 4) rfl).1 1, (Lk.St.blk HSe.out (i := 4) rfl).1 2⟩
        refine hK.out _ _ hS3 (fun hHeld => ?_)
        clear hK K
        clear hHeld
        refine wpAnyH_take (i := 15) (oi := ⟨some 9, _, _, _, _, _⟩) (v := ?_) rfl (by kernel_rfl) (by kernel_rfl) (by kernel_rfl) (fun _ _ _ h => h) (Or.inl ⟨by rfl, ?_⟩) hS3 ?_
        rotate_left 1
        · (intro w hSw; obtain ⟨hSw1, hSw2⟩ := hSw; go_simp; try with_reducible rfl)
        simp only [Act.put, List.setIfInBounds_toArray, List.set_cons_zero, List.set_cons_succ]
        refine wpAnyH_done (by kernel_rfl) ?_ _
        have HSz := hide (show St w1 [sitT p1 X2, rsitT p2 X2, fenT p3 f, rfenT p4 f] wd from St.weaken (Us := [_]) HSe.out)
        clear hS0 hS1 hS2 hS3 hb hS hS2a hkeep hE HEr HP HD HSb HSc HSd HSe HX2
        go_wp2_with fail
        refine (S_epoch HSz.out (i := 0) rfl).mono ?_
        rintro e u1 ⟨rfl, hS⟩
        have HU1 := hide hS
        obtain ⟨x0, x1, -, -, -⟩ := St.rsite HU1.out (i := 1) rfl
        clear hS HSz
        have hee : ((X2).e != (X2).e) = false := by simp
        have huu : ((X2).u != (X2).u) = false := by simp
        go_wp2
        go_roundw
        case rel => exact ⟨k + 1, Hlt.out, by go_num, _, _, HOk.out, hfo.out, HU1.out⟩
        case measure => have := Hlt.out; simp [intOf]; omega
      · have e1 : (qk == 1) = false := by simpa using h1
        by_cases h2 : qk = 2
        · subst h2
          clear e1 h1
          go_wp2_with fail
          generalize wr.heap.size = b at *
          generalize World.alloc _ _ = wa at *
          have HSb := hide (show St w1 [sitT p1 s, rsitT p2 s, fenT p3 f, rfenT p4 f, blkT b #[.int .i64 2, .int .i64 qe, .int .i64 qn] 39] wa from HSa.out)
          clear HSa
          obtain ⟨X2, hX2⟩ : ∃ X2, s.tick qn = X2 := ⟨_, rfl⟩
          have HOk : Hid X2.Ok := by rw [← hX2]; exact hso.out.tick qn
          have HD := hide (HSb.out.below (Below.refl _ wa).drew)
          have hS0 : wa.drew.cell? ⟨b, 1, none⟩ = some (.int .i64 qe) ∧ wa.drew.cell? ⟨b, 2, none⟩ = some (.int .i64 qn) := ⟨(Lk.St.blk HD.out (i := 4) rfl).1 1, (Lk.St.blk HD.out (i := 4) rfl).1 2⟩
          have HX2 := hide hX2
          clear hX2 a0 a1 a2
          go_wp2_with fail
          refine wp_region_held (S := (fun W : World => W.cell? ⟨b, 1, none⟩ = some (.int .i64 qe) ∧ W.cell? ⟨b, 2, none⟩ = some (.int .i64 qn))) (by kernel_rfl) ?_
          change wpAnyH _ _ _ _ _ _ _ _ (World.drew _)
          refine wpAnyH_take (i := 0) (oi := ⟨some 65, _, _, _, _, _⟩) (v := ?_) rfl (by kernel_rfl) (by kernel_rfl) (by kernel_rfl) (fun _ _ _ h => h) (Or.inl ⟨by rfl, ?_⟩) hS0 ?_
          rotate_left 1
          · (intro w hSw; obtain ⟨hSw1, hSw2⟩ := hSw; go_simp; try with_reducible rfl)
          simp only [Act.put, List.setIfInBounds_toArray, List.set_cons_zero, List.set_cons_succ]
          refine wpAnyH_take (i := 1) (oi := ⟨some 66, _, _, _, _, _⟩) (v := ?_) rfl (by kernel_rfl) (by kernel_rfl) (by kernel_rfl) (fun _ _ _ h => h) (Or.inl ⟨by rfl, ?_⟩) hS0 ?_
          rotate_left 1
          · (intro w hSw; obtain ⟨hSw1, hSw2⟩ := hSw; go_simp; try with_reducible rfl)
          simp only [Act.put, List.setIfInBounds_toArray, List.set_cons_zero, List.set_cons_succ]
          refine wpAnyH_take (i := 2) (oi := ⟨some 67, _, _, _, _, _⟩) (v := ?_) rfl (by kernel_rfl) (by kernel_rfl) (by kernel_rfl) (fun _ _ _ h => h) (Or.inl ⟨by rfl, ?_⟩) hS0 ?_
          rotate_left 1
          · (intro w hSw; obtain ⟨hSw1, hSw2⟩ := hSw; go_simp; try with_reducible rfl)
          simp only [Act.put, List.setIfInBounds_toArray, List.set_cons_zero, List.set_cons_succ]
          refine wpAnyH_take (i := 3) (oi := ⟨some 68, _, _, _, _, _⟩) (v := ?_) rfl (by kernel_rfl) (by kernel_rfl) (by kernel_rfl) (fun _ _ _ h => h) (Or.inl ⟨by rfl, ?_⟩) hS0 ?_
          rotate_left 1
          · (intro w hSw; obtain ⟨hSw1, hSw2⟩ := hSw; go_simp; try with_reducible rfl)
          simp only [Act.put, List.setIfInBounds_toArray, List.set_cons_zero, List.set_cons_succ]
          refine wpAnyH_take (i := 4) (oi := ⟨some 69, _, _, _, _, _⟩) (v := ?_) rfl (by kernel_rfl) (by kernel_rfl) (by kernel_rfl) (fun _ _ _ h => h) (Or.inl ⟨by rfl, ?_⟩) hS0 ?_
          rotate_left 1
          · (intro w hSw; obtain ⟨hSw1, hSw2⟩ := hSw; go_simp; try with_reducible rfl)
          simp only [Act.put, List.setIfInBounds_toArray, List.set_cons_zero, List.set_cons_succ]
          refine wpAnyH_take (i := 6) (oi := ⟨some 71, _, _, _, _, _⟩) (v := ?_) rfl (by kernel_rfl) (by kernel_rfl) (by kernel_rfl) (fun _ _ _ h => h) (Or.inl ⟨by rfl, ?_⟩) hS0 ?_
          rotate_left 1
          · (intro w hSw; obtain ⟨hSw1, hSw2⟩ := hSw; go_simp; try with_reducible rfl)
          simp only [Act.put, List.setIfInBounds_toArray, List.set_cons_zero, List.set_cons_succ]
          refine wpAnyH_take (i := 7) (oi := ⟨some 72, _, _, _, _, _⟩) (v := ?_) rfl (by kernel_rfl) (by kernel_rfl) (by kernel_rfl) (fun _ _ _ h => h) (Or.inl ⟨by rfl, ?_⟩) hS0 ?_
          rotate_left 1
          · (intro w hSw; obtain ⟨hSw1, hSw2⟩ := hSw; go_simp; try with_reducible rfl)
          simp only [Act.put, List.setIfInBounds_toArray, List.set_cons_zero, List.set_cons_succ]
          refine wpAnyH_take (i := 8) (oi := ⟨some 73, _, _, _, _, _⟩) (v := ?_) rfl (by kernel_rfl) (by kernel_rfl) (by kernel_rfl) (fun _ _ _ h => h) (Or.inl ⟨by rfl, ?_⟩) hS0 ?_
          rotate_left 1
          · (intro w hSw; obtain ⟨hSw1, hSw2⟩ := hSw; go_simp; try with_reducible rfl)
          simp only [Act.put, List.setIfInBounds_toArray, List.set_cons_zero, List.set_cons_succ]
          refine wpAnyH_take (i := 9) (oi := ⟨some 74, _, _, _, _, _⟩) (v := ?_) rfl (by kernel_rfl) (by kernel_rfl) (by kernel_rfl) (fun _ _ _ h => h) (Or.inl ⟨by rfl, ?_⟩) hS0 ?_
          rotate_left 1
          · (intro w hSw; obtain ⟨hSw1, hSw2⟩ := hSw; go_simp; try with_reducible rfl)
          simp only [Act.put, List.setIfInBounds_toArray, List.set_cons_zero, List.set_cons_succ]
          refine wpAnyH_take (i := 10) (oi := ⟨some 75, _, _, _, _, _⟩) (v := ?_) rfl (by kernel_rfl) (by kernel_rfl) (by kernel_rfl) (fun _ _ _ h => h) (Or.inl ⟨by rfl, ?_⟩) hS0 ?_
          rotate_left 1
          · (intro w hSw; obtain ⟨hSw1, hSw2⟩ := hSw; go_simp; try with_reducible rfl)
          simp only [Act.put, List.setIfInBounds_toArray, List.set_cons_zero, List.set_cons_succ]
          refine wpAnyH_take (i := 11) (oi := ⟨some 76, _, _, _, _, _⟩) (v := ?_) rfl (by kernel_rfl) (by kernel_rfl) (by kernel_rfl) (fun _ _ _ h => h) (Or.inl ⟨by rfl, ?_⟩) hS0 ?_
          rotate_left 1
          · (intro w hSw; obtain ⟨hSw1, hSw2⟩ := hSw; go_simp; try with_reducible rfl)
          simp only [Act.put, List.setIfInBounds_toArray, List.set_cons_zero, List.set_cons_succ]
          refine wpAnyH_take (i := 12) (oi := ⟨some 77, _, _, _, _, _⟩) (v := ?_) rfl (by kernel_rfl) (by kernel_rfl) (by kernel_rfl) (fun _ _ _ h => h) (Or.inl ⟨by rfl, ?_⟩) hS0 ?_
          rotate_left 1
          · (intro w hSw; obtain ⟨hSw1, hSw2⟩ := hSw; go_simp; try with_reducible rfl)
          simp only [Act.put, List.setIfInBounds_toArray, List.set_cons_zero, List.set_cons_succ]
          refine wpAnyH_ready (rs := [5]) (by kernel_rfl) (by simp) ?_
          refine AllReadyH.cons (o := ⟨some 70, _, _, _, _, _⟩) rfl (fun K hK => ?_) AllReadyH.nil
          go_simp
          refine (S_check HD.out (i := 0) rfl qe qn).mono ?_
          rintro e wb ⟨v, rfl, hE, hS⟩
          rw [HX2.out] at hS
          have HEr := hide hE
          have HSc := hide (show St w1 [sitT p1 X2, rsitT p2 s, fenT p3 f, rfenT p4 f, blkT b #[.int .i64 2, .int .i64 qe, .int .i64 qn] 39] wb from hS)
          have hS1 : wb.cell? ⟨b, 1, none⟩ = some (.int .i64 qe) ∧ wb.cell? ⟨b, 2, none⟩ = some (.int .i64 qn) := ⟨(Lk.St.blk HSc.out (i := 4) rfl).1 1, (Lk.St.blk HSc.out (i := 4) rfl).1 2⟩
          refine hK.out _ _ hS1 (fun hHeld => ?_)
          clear hK K
          clear hHeld
          refine wpAnyH_ready (rs := [13]) (by kernel_rfl) (by simp) ?_
          refine AllReadyH.cons (o := ⟨some 78, _, _, _, _, _⟩) rfl (fun K hK => ?_) AllReadyH.nil
          go_simp
          refine (K_check HSc.out (i := 1) rfl qe qn).mono ?_
          rintro e wc ⟨rfl, hS2a, hkeep⟩
          rw [HX2.out] at hS2a
          have HSd := hide (show St w1 [sitT p1 X2, rsitT p2 X2, fenT p3 f, rfenT p4 f, blkT b #[.int .i64 2, .int .i64 qe, .int .i64 qn] 39] wc from hS2a)
          have hS2 : wc.cell? ⟨b, 1, none⟩ = some (.int .i64 qe) ∧ wc.cell? ⟨b, 2, none⟩ = some (.int .i64 qn) := ⟨(Lk.St.blk HSd.out (i := 4) rfl).1 1, (Lk.St.blk HSd.out (i := 4) rfl).1 2⟩
          have HP := hide (place_any (HE.out _ (St.weaken (Ts := []) HSd.out)) (hkeep _ _ _ HEr.out))
          refine hK.out _ _ hS2 (fun hHeld => ?_)
          clear hK K
          clear hHeld
          refine wpAnyH_ready (rs := [14]) (by kernel_rfl) (by simp) ?_
          refine AllReadyH.cons (o := ⟨some 79, _, _, _, _, _⟩) rfl (fun K hK => ?_) AllReadyH.nil
          go_simp
          refine HP.out.mono ?_
          rintro e wd ⟨rfl, hb⟩
          have HSe := hide (HSd.out.below hb)
          have hS3 : wd.cell? ⟨b, 1, none⟩ = some (.int .i64 qe) ∧ wd.cell? ⟨b, 2, none⟩ = some (.int .i64 qn) := ⟨(Lk.St.blk HSe.out (i := 4) rfl).1 1, (Lk.St.blk HSe.out (i := 4) rfl).1 2⟩
          refine hK.out _ _ hS3 (fun hHeld => ?_)
          clear hK K
          clear hHeld
          refine wpAnyH_take (i := 15) (oi := ⟨some 9, _, _, _, _, _⟩) (v := ?_) rfl (by kernel_rfl) (by kernel_rfl) (by kernel_rfl) (fun _ _ _ h => h) (Or.inl ⟨by rfl, ?_⟩) hS3 ?_
          rotate_left 1
          · (intro w hSw; obtain ⟨hSw1, hSw2⟩ := hSw; go_simp; try with_reducible rfl)
          simp only [Act.put, List.setIfInBounds_toArray, List.set_cons_zero, List.set_cons_succ]
          refine wpAnyH_done (by kernel_rfl) ?_ _
          have HSz := hide (show St w1 [sitT p1 X2, rsitT p2 X2, fenT p3 f, rfenT p4 f] wd from St.weaken (Us := [_]) HSe.out)
          clear hS0 hS1 hS2 hS3 hb hS hS2a hkeep hE HEr HP HD HSb HSc HSd HSe HX2
          go_wp2_with fail
          refine (S_epoch HSz.out (i := 0) rfl).mono ?_
          rintro e u1 ⟨rfl, hS⟩
          have HU1 := hide hS
          obtain ⟨x0, x1, -, -, -⟩ := St.rsite HU1.out (i := 1) rfl
          clear hS HSz
          have hee : ((X2).e != (X2).e) = false := by simp
          have huu : ((X2).u != (X2).u) = false := by simp
          go_wp2
          go_roundw
          case rel => exact ⟨k + 1, Hlt.out, by go_num, _, _, HOk.out, hfo.out, HU1.out⟩
          case measure => have := Hlt.out; simp [intOf]; omega
        · have e2 : (qk == 2) = false := by simpa using h2
          by_cases h3 : qk = 3
          · subst h3
            clear e1 h1 e2 h2
            obtain ⟨y0, -, -, -, -, -⟩ := St.rfence HSa.out (i := 3) rfl
            have hn2 : (World.alloc wr (.cells #[.int .i64 3, .int .i64 qe, .int .i64 qn] 39)).cell? ⟨wr.heap.size, 2, none⟩ = some (.int .i64 qn) := (Lk.St.blk HSa.out (i := 4) rfl).1 2
            go_wp2_with fail
            generalize wr.heap.size = b at *
            generalize World.alloc _ _ = wa at *
            have HSb := hide (show St w1 [sitT p1 s, rsitT p2 s, fenT p3 f, rfenT p4 f, blkT b #[.int .i64 3, .int .i64 qe, .int .i64 qn] 39] wa from HSa.out)
            clear HSa
            obtain ⟨X2, hX2⟩ : ∃ X2, f.prom qn = X2 := ⟨_, rfl⟩
            have HOk : Hid X2.Ok := by rw [← hX2]; exact hfo.out.prom qn
            have HX2 := hide hX2
            clear hX2 a0 a1 a2
            rcases Int.lt_or_le f.l 1073741824 with hl | hl
            · have HL := hide hl
              obtain ⟨a9, ha9⟩ : ∃ a9, f.l + 1 = a9 := ⟨_, rfl⟩
              obtain ⟨b9, hb9⟩ : ∃ b9, max (tk f.t qn) f.u = b9 := ⟨_, rfl⟩
              have HA9 := hide ha9
              have HB9 := hide hb9
              clear ha9 hb9 hl
              have haa : (a9 == a9) = true := by simp
              have hbb : (b9 == b9) = true := by simp
              refine (S_prom_ok HSb.out (i := 2) rfl hfo.out qn HL.out).mono ?_
              rintro e wb ⟨v, rfl, hE, hS⟩
              rw [HX2.out] at hS
              have HEr := hide hE
              have HSc := hide (show St w1 [sitT p1 s, rsitT p2 s, fenT p3 X2, rfenT p4 f, blkT b #[.int .i64 3, .int .i64 qe, .int .i64 qn] 39] wb from hS)
              have hn3 : wb.cell? ⟨b, 2, none⟩ = some (.int .i64 qn) := (Lk.St.blk HSc.out (i := 4) rfl).1 2
              rw [HA9.out, HB9.out]
              clear hS hE HSb y0 hn2
              go_wp2_with fail
              refine (K_prom_ok HSc.out (i := 3) rfl hfo.out qn HL.out).mono ?_
              rintro e wc ⟨rfl, hS2a, hkeep⟩
              rw [HX2.out] at hS2a
              rw [HA9.out, HB9.out]
              have HSd := hide (show St w1 [sitT p1 s, rsitT p2 s, fenT p3 X2, rfenT p4 X2, blkT b #[.int .i64 3, .int .i64 qe, .int .i64 qn] 39] wc from hS2a)
              have HP := hide (place_any (HE.out _ (St.weaken (Ts := []) HSd.out)) (hkeep _ _ _ HEr.out))
              clear hS2a hkeep HSc HEr hn3
              go_wp2_with fail
              refine HP.out.mono ?_
              rintro e wd ⟨rfl, hb⟩
              have HSz := hide (show St w1 [sitT p1 s, rsitT p2 s, fenT p3 X2, rfenT p4 X2] wd from St.weaken (Us := [_]) (HSd.out.below hb))
              clear hb HP HSd HX2 HA9 HB9 haa hbb
              go_wp2_with fail
              refine (S_epoch HSz.out (i := 0) rfl).mono ?_
              rintro e u1 ⟨rfl, hS⟩
              have HU1 := hide hS
              obtain ⟨x0, x1, -, -, -⟩ := St.rsite HU1.out (i := 1) rfl
              clear hS HSz
              have hee : ((s).e != (s).e) = false := by simp
              have huu : ((s).u != (s).u) = false := by simp
              go_wp2
              go_roundw
              case rel => exact ⟨k + 1, Hlt.out, by go_num, _, _, hso.out, HOk.out, HU1.out⟩
              case measure => have := Hlt.out; simp [intOf]; omega
            · have HL := hide hl
              obtain ⟨a9, ha9⟩ : ∃ a9, (0 : Int) = a9 := ⟨_, rfl⟩
              obtain ⟨b9, hb9⟩ : ∃ b9, (0 : Int) = b9 := ⟨_, rfl⟩
              have HA9 := hide ha9
              have HB9 := hide hb9
              clear ha9 hb9 hl
              have haa : (a9 == a9) = true := by simp
              have hbb : (b9 == b9) = true := by simp
              refine (S_prom_no HSb.out (i := 2) rfl qn HL.out).mono ?_
              rintro e wb ⟨v, rfl, hE, hS⟩
              rw [HX2.out] at hS
              have HEr := hide hE
              have HSc := hide (show St w1 [sitT p1 s, rsitT p2 s, fenT p3 X2, rfenT p4 f, blkT b #[.int .i64 3, .int .i64 qe, .int .i64 qn] 39] wb from hS)
              have hn3 : wb.cell? ⟨b, 2, none⟩ = some (.int .i64 qn) := (Lk.St.blk HSc.out (i := 4) rfl).1 2
              clear hS hE HSb y0 hn2
              go_wp2_with fail
              refine (K_prom_no HSc.out (i := 3) rfl hfo.out qn HL.out).mono ?_
              rintro e wc ⟨rfl, hS2a, hkeep⟩
              rw [HX2.out] at hS2a
              have HSd := hide (show St w1 [sitT p1 s, rsitT p2 s, fenT p3 X2, rfenT p4 X2, blkT b #[.int .i64 3, .int .i64 qe, .int .i64 qn] 39] wc from hS2a)
              have HP := hide (place_any (HE.out _ (St.weaken (Ts := []) HSd.out)) (hkeep _ _ _ HEr.out))
              clear hS2a hkeep HSc HEr hn3
              go_wp2_with fail
              refine HP.out.mono ?_
              rintro e wd ⟨rfl, hb⟩
              have HSz := hide (show St w1 [sitT p1 s, rsitT p2 s, fenT p3 X2, rfenT p4 X2] wd from St.weaken (Us := [_]) (HSd.out.below hb))
              clear hb HP HSd HX2 HA9 HB9 haa hbb
              go_wp2_with fail
              refine (S_epoch HSz.out (i := 0) rfl).mono ?_
              rintro e u1 ⟨rfl, hS⟩
              have HU1 := hide hS
              obtain ⟨x0, x1, -, -, -⟩ := St.rsite HU1.out (i := 1) rfl
              clear hS HSz
              have hee : ((s).e != (s).e) = false := by simp
              have huu : ((s).u != (s).u) = false := by simp
              go_wp2
              go_roundw
              case rel => exact ⟨k + 1, Hlt.out, by go_num, _, _, hso.out, HOk.out, HU1.out⟩
              case measure => have := Hlt.out; simp [intOf]; omega
          · have e3 : (qk == 3) = false := by simpa using h3
            by_cases h4 : qk = 4
            · subst h4
              clear e1 h1 e2 h2 e3 h3
              go_wp2_with fail
              generalize wr.heap.size = b at *
              generalize World.alloc _ _ = wa at *
              have HSb := hide (show St w1 [sitT p1 s, rsitT p2 s, fenT p3 f, rfenT p4 f, blkT b #[.int .i64 4, .int .i64 qe, .int .i64 qn] 39] wa from HSa.out)
              clear HSa
              obtain ⟨X2, hX2⟩ : ∃ X2, f.renew qe qn = X2 := ⟨_, rfl⟩
              have HOk : Hid X2.Ok := by rw [← hX2]; exact hfo.out.renew qe qn
              have HD := hide (HSb.out.below (Below.refl _ wa).drew)
              have hS0 : wa.drew.cell? ⟨b, 1, none⟩ = some (.int .i64 qe) ∧ wa.drew.cell? ⟨b, 2, none⟩ = some (.int .i64 qn) := ⟨(Lk.St.blk HD.out (i := 4) rfl).1 1, (Lk.St.blk HD.out (i := 4) rfl).1 2⟩
              have HX2 := hide hX2
              clear hX2 a0 a1 a2
              go_wp2_with fail
              refine wp_region_held (S := (fun W : World => W.cell? ⟨b, 1, none⟩ = some (.int .i64 qe) ∧ W.cell? ⟨b, 2, none⟩ = some (.int .i64 qn))) (by kernel_rfl) ?_
              change wpAnyH _ _ _ _ _ _ _ _ (World.drew _)
              refine wpAnyH_take (i := 0) (oi := ⟨some 118, _, _, _, _, _⟩) (v := ?_) rfl (by kernel_rfl) (by kernel_rfl) (by kernel_rfl) (fun _ _ _ h => h) (Or.inl ⟨by rfl, ?_⟩) hS0 ?_
              rotate_left 1
              · (intro w hSw; obtain ⟨hSw1, hSw2⟩ := hSw; go_simp; try with_reducible rfl)
              simp only [Act.put, List.setIfInBounds_toArray, List.set_cons_zero, List.set_cons_succ]
              refine wpAnyH_take (i := 1) (oi := ⟨some 119, _, _, _, _, _⟩) (v := ?_) rfl (by kernel_rfl) (by kernel_rfl) (by kernel_rfl) (fun _ _ _ h => h) (Or.inl ⟨by rfl, ?_⟩) hS0 ?_
              rotate_left 1
              · (intro w hSw; obtain ⟨hSw1, hSw2⟩ := hSw; go_simp; try with_reducible rfl)
              simp only [Act.put, List.setIfInBounds_toArray, List.set_cons_zero, List.set_cons_succ]
              refine wpAnyH_take (i := 2) (oi := ⟨some 120, _, _, _, _, _⟩) (v := ?_) rfl (by kernel_rfl) (by kernel_rfl) (by kernel_rfl) (fun _ _ _ h => h) (Or.inl ⟨by rfl, ?_⟩) hS0 ?_
              rotate_left 1
              · (intro w hSw; obtain ⟨hSw1, hSw2⟩ := hSw; go_simp; try with_reducible rfl)
              simp only [Act.put, List.setIfInBounds_toArray, List.set_cons_zero, List.set_cons_succ]
              refine wpAnyH_take (i := 3) (oi := ⟨some 121, _, _, _, _, _⟩) (v := ?_) rfl (by kernel_rfl) (by kernel_rfl) (by kernel_rfl) (fun _ _ _ h => h) (Or.inl ⟨by rfl, ?_⟩) hS0 ?_
              rotate_left 1
              · (intro w hSw; obtain ⟨hSw1, hSw2⟩ := hSw; go_simp; try with_reducible rfl)
              simp only [Act.put, List.setIfInBounds_toArray, List.set_cons_zero, List.set_cons_succ]
              refine wpAnyH_take (i := 4) (oi := ⟨some 122, _, _, _, _, _⟩) (v := ?_) rfl (by kernel_rfl) (by kernel_rfl) (by kernel_rfl) (fun _ _ _ h => h) (Or.inl ⟨by rfl, ?_⟩) hS0 ?_
              rotate_left 1
              · (intro w hSw; obtain ⟨hSw1, hSw2⟩ := hSw; go_simp; try with_reducible rfl)
              simp only [Act.put, List.setIfInBounds_toArray, List.set_cons_zero, List.set_cons_succ]
              refine wpAnyH_take (i := 6) (oi := ⟨some 124, _, _, _, _, _⟩) (v := ?_) rfl (by kernel_rfl) (by kernel_rfl) (by kernel_rfl) (fun _ _ _ h => h) (Or.inl ⟨by rfl, ?_⟩) hS0 ?_
              rotate_left 1
              · (intro w hSw; obtain ⟨hSw1, hSw2⟩ := hSw; go_simp; try with_reducible rfl)
              simp only [Act.put, List.setIfInBounds_toArray, List.set_cons_zero, List.set_cons_succ]
              refine wpAnyH_take (i := 7) (oi := ⟨some 125, _, _, _, _, _⟩) (v := ?_) rfl (by kernel_rfl) (by kernel_rfl) (by kernel_rfl) (fun _ _ _ h => h) (Or.inl ⟨by rfl, ?_⟩) hS0 ?_
              rotate_left 1
              · (intro w hSw; obtain ⟨hSw1, hSw2⟩ := hSw; go_simp; try with_reducible rfl)
              simp only [Act.put, List.setIfInBounds_toArray, List.set_cons_zero, List.set_cons_succ]
              refine wpAnyH_take (i := 8) (oi := ⟨some 126, _, _, _, _, _⟩) (v := ?_) rfl (by kernel_rfl) (by kernel_rfl) (by kernel_rfl) (fun _ _ _ h => h) (Or.inl ⟨by rfl, ?_⟩) hS0 ?_
              rotate_left 1
              · (intro w hSw; obtain ⟨hSw1, hSw2⟩ := hSw; go_simp; try with_reducible rfl)
              simp only [Act.put, List.setIfInBounds_toArray, List.set_cons_zero, List.set_cons_succ]
              refine wpAnyH_take (i := 9) (oi := ⟨some 127, _, _, _, _, _⟩) (v := ?_) rfl (by kernel_rfl) (by kernel_rfl) (by kernel_rfl) (fun _ _ _ h => h) (Or.inl ⟨by rfl, ?_⟩) hS0 ?_
              rotate_left 1
              · (intro w hSw; obtain ⟨hSw1, hSw2⟩ := hSw; go_simp; try with_reducible rfl)
              simp only [Act.put, List.setIfInBounds_toArray, List.set_cons_zero, List.set_cons_succ]
              refine wpAnyH_take (i := 10) (oi := ⟨some 128, _, _, _, _, _⟩) (v := ?_) rfl (by kernel_rfl) (by kernel_rfl) (by kernel_rfl) (fun _ _ _ h => h) (Or.inl ⟨by rfl, ?_⟩) hS0 ?_
              rotate_left 1
              · (intro w hSw; obtain ⟨hSw1, hSw2⟩ := hSw; go_simp; try with_reducible rfl)
              simp only [Act.put, List.setIfInBounds_toArray, List.set_cons_zero, List.set_cons_succ]
              refine wpAnyH_take (i := 11) (oi := ⟨some 129, _, _, _, _, _⟩) (v := ?_) rfl (by kernel_rfl) (by kernel_rfl) (by kernel_rfl) (fun _ _ _ h => h) (Or.inl ⟨by rfl, ?_⟩) hS0 ?_
              rotate_left 1
              · (intro w hSw; obtain ⟨hSw1, hSw2⟩ := hSw; go_simp; try with_reducible rfl)
              simp only [Act.put, List.setIfInBounds_toArray, List.set_cons_zero, List.set_cons_succ]
              refine wpAnyH_take (i := 12) (oi := ⟨some 130, _, _, _, _, _⟩) (v := ?_) rfl (by kernel_rfl) (by kernel_rfl) (by kernel_rfl) (fun _ _ _ h => h) (Or.inl ⟨by rfl, ?_⟩) hS0 ?_
              rotate_left 1
              · (intro w hSw; obtain ⟨hSw1, hSw2⟩ := hSw; go_simp; try with_reducible rfl)
              simp only [Act.put, List.setIfInBounds_toArray, List.set_cons_zero, List.set_cons_succ]
              refine wpAnyH_ready (rs := [5]) (by kernel_rfl) (by simp) ?_
              refine AllReadyH.cons (o := ⟨some 123, _, _, _, _, _⟩) rfl (fun K hK => ?_) AllReadyH.nil
              go_simp
              refine (S_renew HD.out (i := 2) rfl hfo.out qe qn).mono ?_
              rintro e wb ⟨v, rfl, hE, hS⟩
              rw [HX2.out] at hS
              have HEr := hide hE
              have HSc := hide (show St w1 [sitT p1 s, rsitT p2 s, fenT p3 X2, rfenT p4 f, blkT b #[.int .i64 4, .int .i64 qe, .int .i64 qn] 39] wb from hS)
              have hS1 : wb.cell? ⟨b, 1, none⟩ = some (.int .i64 qe) ∧ wb.cell? ⟨b, 2, none⟩ = some (.int .i64 qn) := ⟨(Lk.St.blk HSc.out (i := 4) rfl).1 1, (Lk.St.blk HSc.out (i := 4) rfl).1 2⟩
              refine hK.out _ _ hS1 (fun hHeld => ?_)
              clear hK K
              clear hHeld
              refine wpAnyH_ready (rs := [13]) (by kernel_rfl) (by simp) ?_
              refine AllReadyH.cons (o := ⟨some 131, _, _, _, _, _⟩) rfl (fun K hK => ?_) AllReadyH.nil
              go_simp
              refine (K_renew HSc.out (i := 3) rfl hfo.out qe qn).mono ?_
              rintro e wc ⟨rfl, hS2a, hkeep⟩
              rw [HX2.out] at hS2a
              have HSd := hide (show St w1 [sitT p1 s, rsitT p2 s, fenT p3 X2, rfenT p4 X2, blkT b #[.int .i64 4, .int .i64 qe, .int .i64 qn] 39] wc from hS2a)
              have hS2 : wc.cell? ⟨b, 1, none⟩ = some (.int .i64 qe) ∧ wc.cell? ⟨b, 2, none⟩ = some (.int .i64 qn) := ⟨(Lk.St.blk HSd.out (i := 4) rfl).1 1, (Lk.St.blk HSd.out (i := 4) rfl).1 2⟩
              have HP := hide (place_any (HE.out _ (St.weaken (Ts := []) HSd.out)) (hkeep _ _ _ HEr.out))
              refine hK.out _ _ hS2 (fun hHeld => ?_)
              clear hK K
              clear hHeld
              refine wpAnyH_ready (rs := [14]) (by kernel_rfl) (by simp) ?_
              refine AllReadyH.cons (o := ⟨some 132, _, _, _, _, _⟩) rfl (fun K hK => ?_) AllReadyH.nil
              go_simp
              refine HP.out.mono ?_
              rintro e wd ⟨rfl, hb⟩
              have HSe := hide (HSd.out.below hb)
              have hS3 : wd.cell? ⟨b, 1, none⟩ = some (.int .i64 qe) ∧ wd.cell? ⟨b, 2, none⟩ = some (.int .i64 qn) := ⟨(Lk.St.blk HSe.out (i := 4) rfl).1 1, (Lk.St.blk HSe.out (i := 4) rfl).1 2⟩
              refine hK.out _ _ hS3 (fun hHeld => ?_)
              clear hK K
              clear hHeld
              refine wpAnyH_take (i := 15) (oi := ⟨some 9, _, _, _, _, _⟩) (v := ?_) rfl (by kernel_rfl) (by kernel_rfl) (by kernel_rfl) (fun _ _ _ h => h) (Or.inl ⟨by rfl, ?_⟩) hS3 ?_
              rotate_left 1
              · (intro w hSw; obtain ⟨hSw1, hSw2⟩ := hSw; go_simp; try with_reducible rfl)
              simp only [Act.put, List.setIfInBounds_toArray, List.set_cons_zero, List.set_cons_succ]
              refine wpAnyH_done (by kernel_rfl) ?_ _
              have HSz := hide (show St w1 [sitT p1 s, rsitT p2 s, fenT p3 X2, rfenT p4 X2] wd from St.weaken (Us := [_]) HSe.out)
              clear hS0 hS1 hS2 hS3 hb hS hS2a hkeep hE HEr HP HD HSb HSc HSd HSe HX2
              go_wp2_with fail
              refine (S_epoch HSz.out (i := 0) rfl).mono ?_
              rintro e u1 ⟨rfl, hS⟩
              have HU1 := hide hS
              obtain ⟨x0, x1, -, -, -⟩ := St.rsite HU1.out (i := 1) rfl
              clear hS HSz
              have hee : ((s).e != (s).e) = false := by simp
              have huu : ((s).u != (s).u) = false := by simp
              go_wp2
              go_roundw
              case rel => exact ⟨k + 1, Hlt.out, by go_num, _, _, hso.out, HOk.out, HU1.out⟩
              case measure => have := Hlt.out; simp [intOf]; omega
            · have e4 : (qk == 4) = false := by simpa using h4
              by_cases h5 : qk = 5
              · subst h5
                clear e1 h1 e2 h2 e3 h3 e4 h4
                go_wp2_with fail
                generalize wr.heap.size = b at *
                generalize World.alloc _ _ = wa at *
                have HSb := hide (show St w1 [sitT p1 s, rsitT p2 s, fenT p3 f, rfenT p4 f, blkT b #[.int .i64 5, .int .i64 qe, .int .i64 qn] 39] wa from HSa.out)
                clear HSa
                obtain ⟨X2, hX2⟩ : ∃ X2, f.tick qn = X2 := ⟨_, rfl⟩
                have HOk : Hid X2.Ok := by rw [← hX2]; exact hfo.out.tick qn
                obtain ⟨Ho, hHo⟩ : ∃ Ho, f.hold qn = Ho := ⟨_, rfl⟩
                have HHo := hide hHo
                have HD := hide (HSb.out.below (Below.refl _ wa).drew)
                have hS0 : wa.drew.cell? ⟨b, 1, none⟩ = some (.int .i64 qe) ∧ wa.drew.cell? ⟨b, 2, none⟩ = some (.int .i64 qn) := ⟨(Lk.St.blk HD.out (i := 4) rfl).1 1, (Lk.St.blk HD.out (i := 4) rfl).1 2⟩
                have HX2 := hide hX2
                clear hX2 hHo a0 a1 a2
                go_wp2_with fail
                refine wp_region_held (S := (fun W : World => W.cell? ⟨b, 1, none⟩ = some (.int .i64 qe) ∧ W.cell? ⟨b, 2, none⟩ = some (.int .i64 qn))) (by kernel_rfl) ?_
                change wpAnyH _ _ _ _ _ _ _ _ (World.drew _)
                refine wpAnyH_take (i := 0) (oi := ⟨some 135, _, _, _, _, _⟩) (v := ?_) rfl (by kernel_rfl) (by kernel_rfl) (by kernel_rfl) (fun _ _ _ h => h) (Or.inl ⟨by rfl, ?_⟩) hS0 ?_
                rotate_left 1
                · (intro w hSw; obtain ⟨hSw1, hSw2⟩ := hSw; go_simp; try with_reducible rfl)
                simp only [Act.put, List.setIfInBounds_toArray, List.set_cons_zero, List.set_cons_succ]
                refine wpAnyH_take (i := 1) (oi := ⟨some 136, _, _, _, _, _⟩) (v := ?_) rfl (by kernel_rfl) (by kernel_rfl) (by kernel_rfl) (fun _ _ _ h => h) (Or.inl ⟨by rfl, ?_⟩) hS0 ?_
                rotate_left 1
                · (intro w hSw; obtain ⟨hSw1, hSw2⟩ := hSw; go_simp; try with_reducible rfl)
                simp only [Act.put, List.setIfInBounds_toArray, List.set_cons_zero, List.set_cons_succ]
                refine wpAnyH_take (i := 2) (oi := ⟨some 137, _, _, _, _, _⟩) (v := ?_) rfl (by kernel_rfl) (by kernel_rfl) (by kernel_rfl) (fun _ _ _ h => h) (Or.inl ⟨by rfl, ?_⟩) hS0 ?_
                rotate_left 1
                · (intro w hSw; obtain ⟨hSw1, hSw2⟩ := hSw; go_simp; try with_reducible rfl)
                simp only [Act.put, List.setIfInBounds_toArray, List.set_cons_zero, List.set_cons_succ]
                refine wpAnyH_take (i := 4) (oi := ⟨some 139, _, _, _, _, _⟩) (v := ?_) rfl (by kernel_rfl) (by kernel_rfl) (by kernel_rfl) (fun _ _ _ h => h) (Or.inl ⟨by rfl, ?_⟩) hS0 ?_
                rotate_left 1
                · (intro w hSw; obtain ⟨hSw1, hSw2⟩ := hSw; go_simp; try with_reducible rfl)
                simp only [Act.put, List.setIfInBounds_toArray, List.set_cons_zero, List.set_cons_succ]
                refine wpAnyH_take (i := 5) (oi := ⟨some 140, _, _, _, _, _⟩) (v := ?_) rfl (by kernel_rfl) (by kernel_rfl) (by kernel_rfl) (fun _ _ _ h => h) (Or.inl ⟨by rfl, ?_⟩) hS0 ?_
                rotate_left 1
                · (intro w hSw; obtain ⟨hSw1, hSw2⟩ := hSw; go_simp; try with_reducible rfl)
                simp only [Act.put, List.setIfInBounds_toArray, List.set_cons_zero, List.set_cons_succ]
                refine wpAnyH_take (i := 6) (oi := ⟨some 141, _, _, _, _, _⟩) (v := ?_) rfl (by kernel_rfl) (by kernel_rfl) (by kernel_rfl) (fun _ _ _ h => h) (Or.inl ⟨by rfl, ?_⟩) hS0 ?_
                rotate_left 1
                · (intro w hSw; obtain ⟨hSw1, hSw2⟩ := hSw; go_simp; try with_reducible rfl)
                simp only [Act.put, List.setIfInBounds_toArray, List.set_cons_zero, List.set_cons_succ]
                refine wpAnyH_ready (rs := [3]) (by kernel_rfl) (by simp) ?_
                refine AllReadyH.cons (o := ⟨some 138, _, _, _, _, _⟩) rfl (fun K hK => ?_) AllReadyH.nil
                go_simp
                refine (S_holds HD.out (i := 2) rfl qn).mono ?_
                rintro e wb ⟨rfl, hS⟩
                rw [HX2.out] at hS
                rw [HHo.out]
                have HSc := hide (show St w1 [sitT p1 s, rsitT p2 s, fenT p3 X2, rfenT p4 f, blkT b #[.int .i64 5, .int .i64 qe, .int .i64 qn] 39] wb from hS)
                have hS1 : wb.cell? ⟨b, 1, none⟩ = some (.int .i64 qe) ∧ wb.cell? ⟨b, 2, none⟩ = some (.int .i64 qn) := ⟨(Lk.St.blk HSc.out (i := 4) rfl).1 1, (Lk.St.blk HSc.out (i := 4) rfl).1 2⟩
                refine hK.out _ _ hS1 (fun hHeld => ?_)
                clear hK K
                clear hHeld
                refine wpAnyH_ready (rs := [7]) (by kernel_rfl) (by simp) ?_
                refine AllReadyH.cons (o := ⟨some 142, _, _, _, _, _⟩) rfl (fun K hK => ?_) AllReadyH.nil
                go_simp
                refine (R_holds HSc.out (i := 3) rfl qn).mono ?_
                rintro e wc ⟨rfl, hS2a⟩
                rw [HX2.out] at hS2a
                rw [HHo.out]
                have HSd := hide (show St w1 [sitT p1 s, rsitT p2 s, fenT p3 X2, rfenT p4 X2, blkT b #[.int .i64 5, .int .i64 qe, .int .i64 qn] 39] wc from hS2a)
                have hS2 : wc.cell? ⟨b, 1, none⟩ = some (.int .i64 qe) ∧ wc.cell? ⟨b, 2, none⟩ = some (.int .i64 qn) := ⟨(Lk.St.blk HSd.out (i := 4) rfl).1 1, (Lk.St.blk HSd.out (i := 4) rfl).1 2⟩
                refine hK.out _ _ hS2 (fun hHeld => ?_)
                clear hK K
                clear hHeld
                refine wpAnyH_take (i := 8) (oi := ⟨some 143, _, _, _, _, _⟩) (v := ?_) rfl (by kernel_rfl) (by kernel_rfl) (by kernel_rfl) (fun _ _ _ h => h) (Or.inl ⟨by rfl, ?_⟩) hS2 ?_
                rotate_left 1
                · (intro w hSw; obtain ⟨hSw1, hSw2⟩ := hSw; go_simp; try with_reducible rfl)
                simp only [Act.put, List.setIfInBounds_toArray, List.set_cons_zero, List.set_cons_succ]
                refine wpAnyH_take (i := 9) (oi := ⟨some 9, _, _, _, _, _⟩) (v := ?_) rfl (by kernel_rfl) (by kernel_rfl) (by kernel_rfl) (fun _ _ _ h => h) (Or.inl ⟨by rfl, ?_⟩) hS2 ?_
                rotate_left 1
                · (intro w hSw; obtain ⟨hSw1, hSw2⟩ := hSw; go_simp; try with_reducible rfl)
                simp only [Act.put, List.setIfInBounds_toArray, List.set_cons_zero, List.set_cons_succ]
                refine wpAnyH_done (by kernel_rfl) ?_ _
                have HSz := hide (show St w1 [sitT p1 s, rsitT p2 s, fenT p3 X2, rfenT p4 X2] wc from St.weaken (Us := [_]) HSd.out)
                have hoo : (Ho == Ho) = true := by simp
                clear hS0 hS1 hS2 hS hS2a HD HSb HSc HSd HX2 HHo
                go_wp2_with fail
                refine (S_epoch HSz.out (i := 0) rfl).mono ?_
                rintro e u1 ⟨rfl, hS⟩
                have HU1 := hide hS
                obtain ⟨x0, x1, -, -, -⟩ := St.rsite HU1.out (i := 1) rfl
                clear hS HSz
                have hee : ((s).e != (s).e) = false := by simp
                have huu : ((s).u != (s).u) = false := by simp
                go_wp2
                go_roundw
                case rel => exact ⟨k + 1, Hlt.out, by go_num, _, _, hso.out, HOk.out, HU1.out⟩
                case measure => have := Hlt.out; simp [intOf]; omega
              · have e5 : (qk == 5) = false := by simpa using h5
                clear h1 h2 h3 h4 h5
                go_wp2_with fail
                generalize wr.heap.size = b at *
                generalize World.alloc _ _ = wa at *
                have HSb := hide (show St w1 [sitT p1 s, rsitT p2 s, fenT p3 f, rfenT p4 f, blkT b #[.int .i64 qk, .int .i64 qe, .int .i64 qn] 39] wa from HSa.out)
                clear HSa
                have HSz := hide (show St w1 [sitT p1 s, rsitT p2 s, fenT p3 f, rfenT p4 f] wa from St.weaken (Us := [_]) HSb.out)
                clear HSb a0 a1 a2
                refine (S_epoch HSz.out (i := 0) rfl).mono ?_
                rintro e u1 ⟨rfl, hS⟩
                have HU1 := hide hS
                obtain ⟨x0, x1, -, -, -⟩ := St.rsite HU1.out (i := 1) rfl
                clear hS HSz
                have hee : ((s).e != (s).e) = false := by simp
                have huu : ((s).u != (s).u) = false := by simp
                go_wp2
                go_roundw
                case rel => exact ⟨k + 1, Hlt.out, by go_num, _, _, hso.out, hfo.out, HU1.out⟩
                case measure => have := Hlt.out; simp [intOf]; omega
    · obtain rfl : k = n := by omega
      have hki : ¬ ((k : Int) < (k : Int)) := by omega
      have HB := hide (HB1.out.trans (hst.out.bel.mono HB1.out.size))
      clear hge hk hst hso hfo
      go_wp2
      go_ret
      exact ⟨rfl, HB.out⟩
theorem Plays_any (A : Option Addr) (n c : Nat) (l : List Oq) (w : World) (hty : Ety w) (hl : l.length = n) (hf : OFits l) (hs : Src w A (ocels l)) :
    Calls Tryd.prog 3 #[.slice A n c] w fun e w' => e = .returned (.bool true) ∧ Below w.heap.size w w' := by
  rcases Nat.lt_or_ge 300 n with h | h
  · exact Plays_long A n c w hty h
  · exact Plays_law A n c l w hty hl hf hs h

end Go.Proofs.YtmbhnhfnimijcaaDoor.Le
