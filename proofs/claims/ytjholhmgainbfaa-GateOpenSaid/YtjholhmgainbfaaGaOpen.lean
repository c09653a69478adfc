/-
  GateOpen at every script and every call: it returns true, and changes nothing that was there. No condition.
-/
import Derived.BigQuiet
import Derived.Deep.RegionHeld3
import Derived.Test.YtjholhmgainbfaaGaWalk
namespace Go.Proofs.Ytjholhmgainbfaa.Ga
open Go.RowKit
open Pk Dk

set_option maxRecDepth 100000 in
set_option maxHeartbeats 4000000 in
theorem Open_good (A : Option Addr) (n cp : Nat) (l : List Oq) (c : Cl) (w : World) (hl : l.length = n) (hp : Ops w w.heap.size A l) (hf : OFits l) (hfew : Few l) (hd : c.d.size ≤ 200) :
    Calls Try.prog 5 #[.slice A n cp, cl3 c] w fun e w' => e = .returned (.bool true) ∧ Below w.heap.size w w' := by
  have Hl := hide hl
  have Hp := hide hp
  have Hf := hide hf
  have Hfew := hide hfew
  have hdi : ¬ (200 : Int) < (c.d.size : Int) := by omega
  have Hn := hide (show n ≤ 300 by rw [← hl]; exact hfew.1)
  clear hl hp hf hfew hd
  go_enter Try.func5, Try.ntmps5
  go_wp2_with (refine wpList_box_told rfl 29 (.tmp 1) rfl _ rfl ?_)
  intro w0 Hw0
  have HB0 : Hid (Below w.heap.size w w0) := by rw [Hw0.out]; exact (Below.refl _ _).alloc (Nat.le_refl _) _
  have hx : ∀ j u, (ccel c)[j]? = some u → w0.cell? ⟨w.heap.size, j, none⟩ = some u := fun j u hu => by
    have hh : w0.heap[w.heap.size]? = some (.cells #[.int .i64 c.id, .int .i64 c.b, .string c.d] 29 (0, 0)) := by rw [Hw0.out]; exact heap_alloc_new w _
    rw [cell_of_row _ _ j _ _ _ hh]
    exact List.getElem?_toArray.trans hu
  have HC0 : Hid (CAt w0 w.heap.size 0 c) := ⟨hx 0 _ rfl, hx 1 _ rfl, hx 2 _ rfl⟩
  have HW0 := hide (show w.heap.size < w0.heap.size by rw [Hw0.out]; simp)
  clear Hw0 hx
  go_wp2_with fail
  refine (awake_any w0).mono ?_
  rintro e w1 ⟨rfl, hb1⟩
  have HB1 := hide (HB0.out.trans (hb1.mono HB0.out.size))
  have HC := hide (HC0.out.below HW0.out hb1)
  have HCb := hide (show w.heap.size < w1.heap.size from Nat.lt_of_lt_of_le HW0.out hb1.size)
  have x2 := HC.out.2.2
  clear hb1 HB0 HC0 HW0
  go_wp2_with fail
  refine (few_any A n cp l w1 Hl.out ((Hp.out.below HB1.out).more1 HB1.out.size) Hf.out).mono ?_
  rintro e w' ⟨⟨b, rfl, hb⟩, rfl⟩
  obtain rfl : b = true := hb.2 Hfew.out
  clear hb
  have HRO := hide ((Hp.out.below HB1.out).more1 HB1.out.size)
  go_wp2_with fail
  refine (GW.start w1).mono ?_
  rintro e w2 ⟨g, rfl, hg⟩
  have HG2 := hide hg
  clear hg x2
  go_wp2
  go_loopw [28] (fun j wr => ∃ (k : Nat) (a l2 : Int) (Q : List Cl) (m : Nat), k ≤ n ∧ j = .int .i64 k ∧ Hid (GW w1 g a l2 Q m wr)) (fun j _ => n - (intOf j).toNat)
  case atStart => exact ⟨0, _, _, _, _, Nat.zero_le _, rfl, HG2.out⟩
  case round =>
    clear HG2
    obtain ⟨k, a, l1, Q, m, hk, rfl, hj⟩ := hrel
    rcases Nat.lt_or_ge k n with hlt | hge
    · have Hlt := hide hlt
      have hki : (k : Int) < (n : Int) := by omega
      have hn3i : (n : Int) ≤ 300 := by have := Hn.out; omega
      obtain ⟨o, hok⟩ : ∃ o, l[k]? = some o := ⟨_, List.getElem?_eq_getElem (by rw [Hl.out]; exact hlt)⟩
      have Hok := hide hok
      have hfit := Hf.out o (List.mem_of_getElem? hok)
      obtain ⟨b, off, rfl, hat⟩ := (HRO.out.below hj.out.bel).at_ hok
      obtain ⟨kind, or, ot, oc⟩ := o
      have Hor := hide (show I64 or from hfit.2.1)
      have Hot := hide (show I64 ot from hfit.2.2.1)
      obtain ⟨e0, e1, e2, -, -, -⟩ := hat
      simp only at e0 e1 e2
      clear hok hfit hlt hk
      by_cases k1 : kind = 1
      · subst k1
        have hS0 : wr.drew.cell? ⟨b, off + k * 6 + 1, none⟩ = some (.int .i64 or) ∧ wr.drew.cell? ⟨b, off + k * 6 + 2, none⟩ = some (.int .i64 ot) := ⟨e1, e2⟩
        have HS0 := hide hS0
        clear hS0
        go_wp2
        have hS0 := HS0.out
        clear e0 e1 e2
        refine wp_region_held (S := (fun W => W.cell? ⟨b, off + k * 6 + 1, none⟩ = some (.int .i64 or) ∧ W.cell? ⟨b, off + k * 6 + 2, none⟩ = some (.int .i64 ot))) (by kernel_rfl) ?_
        change wpAnyH _ _ _ _ _ _ _ _ (World.drew _)
        refine wpAnyH_take (i := 0) (oi := ⟨some 38, _, _, _, _, _⟩) (v := ?_) rfl (by kernel_rfl) (by kernel_rfl) (by kernel_rfl) (fun _ _ _ h => h) (Or.inl ⟨by rfl, ?_⟩) hS0 ?_
        rotate_left 1
        · (intro w hSw; obtain ⟨hSw1, hSw2⟩ := hSw; go_simp; try with_reducible rfl)
        simp only [Act.put, List.setIfInBounds_toArray, List.set_cons_zero, List.set_cons_succ]
        refine wpAnyH_take (i := 1) (oi := ⟨some 39, _, _, _, _, _⟩) (v := ?_) rfl (by kernel_rfl) (by kernel_rfl) (by kernel_rfl) (fun _ _ _ h => h) (Or.inl ⟨by rfl, ?_⟩) hS0 ?_
        rotate_left 1
        · (intro w hSw; obtain ⟨hSw1, hSw2⟩ := hSw; go_simp; try with_reducible rfl)
        simp only [Act.put, List.setIfInBounds_toArray, List.set_cons_zero, List.set_cons_succ]
        refine wpAnyH_take (i := 2) (oi := ⟨some 40, _, _, _, _, _⟩) (v := ?_) rfl (by kernel_rfl) (by kernel_rfl) (by kernel_rfl) (fun _ _ _ h => h) (Or.inl ⟨by rfl, ?_⟩) hS0 ?_
        rotate_left 1
        · (intro w hSw; obtain ⟨hSw1, hSw2⟩ := hSw; go_simp; try with_reducible rfl)
        simp only [Act.put, List.setIfInBounds_toArray, List.set_cons_zero, List.set_cons_succ]
        refine wpAnyH_take (i := 3) (oi := ⟨some 41, _, _, _, _, _⟩) (v := ?_) rfl (by kernel_rfl) (by kernel_rfl) (by kernel_rfl) (fun _ _ _ h => h) (Or.inl ⟨by rfl, ?_⟩) hS0 ?_
        rotate_left 1
        · (intro w hSw; obtain ⟨hSw1, hSw2⟩ := hSw; go_simp; try with_reducible rfl)
        simp only [Act.put, List.setIfInBounds_toArray, List.set_cons_zero, List.set_cons_succ]
        refine wpAnyH_take (i := 4) (oi := ⟨some 42, _, _, _, _, _⟩) (v := ?_) rfl (by kernel_rfl) (by kernel_rfl) (by kernel_rfl) (fun _ _ _ h => h) (Or.inl ⟨by rfl, ?_⟩) hS0 ?_
        rotate_left 1
        · (intro w hSw; obtain ⟨hSw1, hSw2⟩ := hSw; go_simp; try with_reducible rfl)
        simp only [Act.put, List.setIfInBounds_toArray, List.set_cons_zero, List.set_cons_succ]
        refine wpAnyH_take (i := 5) (oi := ⟨some 43, _, _, _, _, _⟩) (v := ?_) rfl (by kernel_rfl) (by kernel_rfl) (by kernel_rfl) (fun _ _ _ h => h) (Or.inl ⟨by rfl, ?_⟩) hS0 ?_
        rotate_left 1
        · (intro w hSw; obtain ⟨hSw1, hSw2⟩ := hSw; go_simp; try with_reducible rfl)
        simp only [Act.put, List.setIfInBounds_toArray, List.set_cons_zero, List.set_cons_succ]
        refine wpAnyH_take (i := 6) (oi := ⟨some 44, _, _, _, _, _⟩) (v := ?_) rfl (by kernel_rfl) (by kernel_rfl) (by kernel_rfl) (fun _ _ _ h => h) (Or.inl ⟨by rfl, ?_⟩) hS0 ?_
        rotate_left 1
        · (intro w hSw; obtain ⟨hSw1, hSw2⟩ := hSw; go_simp; try with_reducible rfl)
        simp only [Act.put, List.setIfInBounds_toArray, List.set_cons_zero, List.set_cons_succ]
        refine wpAnyH_take (i := 7) (oi := ⟨some 45, _, _, _, _, _⟩) (v := ?_) rfl (by kernel_rfl) (by kernel_rfl) (by kernel_rfl) (fun _ _ _ h => h) (Or.inl ⟨by rfl, ?_⟩) hS0 ?_
        rotate_left 1
        · (intro w hSw; obtain ⟨hSw1, hSw2⟩ := hSw; go_simp; try with_reducible rfl)
        simp only [Act.put, List.setIfInBounds_toArray, List.set_cons_zero, List.set_cons_succ]
        refine wpAnyH_take (i := 8) (oi := ⟨some 46, _, _, _, _, _⟩) (v := ?_) rfl (by kernel_rfl) (by kernel_rfl) (by kernel_rfl) (fun _ _ _ h => h) (Or.inl ⟨by rfl, ?_⟩) hS0 ?_
        rotate_left 1
        · (intro w hSw; obtain ⟨hSw1, hSw2⟩ := hSw; go_simp; try with_reducible rfl)
        simp only [Act.put, List.setIfInBounds_toArray, List.set_cons_zero, List.set_cons_succ]
        refine wpAnyH_take (i := 9) (oi := ⟨some 47, _, _, _, _, _⟩) (v := ?_) rfl (by kernel_rfl) (by kernel_rfl) (by kernel_rfl) (fun _ _ _ h => h) (Or.inl ⟨by rfl, ?_⟩) hS0 ?_
        rotate_left 1
        · (intro w hSw; obtain ⟨hSw1, hSw2⟩ := hSw; go_simp; try with_reducible rfl)
        simp only [Act.put, List.setIfInBounds_toArray, List.set_cons_zero, List.set_cons_succ]
        refine wpAnyH_take (i := 10) (oi := ⟨some 48, _, _, _, _, _⟩) (v := ?_) rfl (by kernel_rfl) (by kernel_rfl) (by kernel_rfl) (fun _ _ _ h => h) (Or.inl ⟨by rfl, ?_⟩) hS0 ?_
        rotate_left 1
        · (intro w hSw; obtain ⟨hSw1, hSw2⟩ := hSw; go_simp; try with_reducible rfl)
        simp only [Act.put, List.setIfInBounds_toArray, List.set_cons_zero, List.set_cons_succ]
        refine wpAnyH_ready (rs := [11]) (by kernel_rfl) (by simp) ?_
        refine AllReadyH.cons (o := ⟨some 49, _, _, _, _, _⟩) rfl (fun K hK => ?_) AllReadyH.nil
        go_simp
        refine (hj.out.drew.freeze' or ot Hor.out.2 Hot.out.2).mono ?_
        rintro e w5 ⟨v5, a2, l2, rfl, hj5⟩
        have hS5 : w5.cell? ⟨b, off + k * 6 + 1, none⟩ = some (.int .i64 or) ∧ w5.cell? ⟨b, off + k * 6 + 2, none⟩ = some (.int .i64 ot) := by obtain ⟨b2, off2, e2, hat2⟩ := (HRO.out.below hj5.bel).at_ Hok.out; cases e2; exact ⟨hat2.2.1, hat2.2.2.1⟩
        have HJ := hide hj5
        obtain ⟨Q2, m2, hq2, hm2⟩ : ∃ (Q2 : List Cl) (m2 : Nat), Q2 = Q ∧ m2 = m := ⟨_, _, rfl, rfl⟩
        rw [← hq2, ← hm2] at HJ
        clear hq2 hm2 hj5 hj
        refine hK.out _ _ hS5 (fun hHeld => ?_)
        clear hK K
        clear hHeld
        refine wpAnyH_done (by kernel_rfl) ?_ _
        clear hS0 hS5
        by_cases z : l2 = 0
        · subst z
          go_wp2_with fail
          refine (show Calls Try.prog 12 #[.pointer (some ⟨g, 0, none⟩)] _ fun e w' => e = .returned (.int .i64 0) ∧ _ = w' from HJ.out.frozen).mono ?_
          rintro e w' ⟨rfl, rfl⟩
          go_wp2_with fail
          refine (HJ.out.waiting).mono ?_
          rintro e w' ⟨rfl, rfl⟩
          obtain ⟨x0, x1, x2⟩ := HC.out.below HCb.out HJ.out.bel
          go_wp2_with fail
          refine (HJ.out.enter0 c).mono ?_
          rintro e w9 ⟨rfl, hj9⟩
          have HJ9 := hide hj9
          clear hj9 HJ x0 x1 x2
          go_wp2
          go_roundw
          case rel => exact ⟨k + 1, _, _, _, _, Hlt.out, by go_num, HJ9.out⟩
          case measure => have := Hlt.out; simp [intOf]; omega
        · have hm4 := HJ.out.gate.few
          have hr : rnd a2 l2 = a2 := by unfold rnd; rw [if_neg z]
          have HF0 := hide (show Calls Try.prog 12 #[.pointer (some ⟨g, 0, none⟩)] _ fun e w' => e = .returned (.int .i64 a2) ∧ _ = w' by have := HJ.out.frozen; rw [hr] at this; exact this)
          have q0 : (a2 == 0) = false := by have := HJ.out.gate.on z; simp; omega
          have q0' : (a2 != 0) = true := by have := HJ.out.gate.on z; simp; omega
          have HZ := hide z
          clear hr z
          by_cases y : m2 = 4
          · subst y
            clear hm4
            go_wp2_with fail
            refine HF0.out.mono ?_
            rintro e w' ⟨rfl, rfl⟩
            go_wp2_with fail
            refine (HJ.out.waiting).mono ?_
            rintro e w' ⟨rfl, rfl⟩
            obtain ⟨x0, x1, x2⟩ := HC.out.below HCb.out HJ.out.bel
            go_wp2_with fail
            refine (HJ.out.enter4 c).mono ?_
            rintro e w9 ⟨p9, rfl, _, hj9⟩
            have HJ9 := hide hj9
            clear hj9 HJ x0 x1 x2 HF0
            go_wp2
            go_roundw
            case rel => exact ⟨k + 1, _, _, _, _, Hlt.out, by go_num, HJ9.out⟩
            case measure => have := Hlt.out; simp [intOf]; omega
          · have hm : m2 < 4 := by omega
            have HM := hide hm
            have hmi : (m2 : Int) < 4 := by omega
            have hmd : decide ((m2 : Int) < 4) = true := decide_eq_true hmi
            clear y hm4 hm
            go_wp2_with fail
            refine HF0.out.mono ?_
            rintro e w' ⟨rfl, rfl⟩
            go_wp2_with fail
            refine (HJ.out.waiting).mono ?_
            rintro e w' ⟨rfl, rfl⟩
            obtain ⟨x0, x1, x2⟩ := HC.out.below HCb.out HJ.out.bel
            go_wp2_with fail
            refine (HJ.out.enter HZ.out HM.out c).mono ?_
            rintro e w9 ⟨rfl, hj9⟩
            have HJ9 := hide hj9
            clear hj9 HJ x0 x1 x2 HF0
            go_wp2
            go_roundw
            case rel => exact ⟨k + 1, _, _, _, _, Hlt.out, by go_num, HJ9.out⟩
            case measure => have := Hlt.out; simp [intOf]; omega
      · have q1 : (kind == 1) = false := by simpa using k1
        by_cases k2 : kind = 2
        · subst k2
          go_wp2_with fail
          refine (hj.out.thaw' or).mono ?_
          rintro e w5 ⟨v5, x5, l2, Q2, m2, rfl, _, _, hj5⟩
          obtain ⟨a2, rfl⟩ : ∃ a2, a2 = a := ⟨_, rfl⟩
          have HJ := hide hj5
          clear hj5 hj e0 e1 e2
          by_cases z : l2 = 0
          · subst z
            go_wp2_with fail
            refine (show Calls Try.prog 12 #[.pointer (some ⟨g, 0, none⟩)] _ fun e w' => e = .returned (.int .i64 0) ∧ _ = w' from HJ.out.frozen).mono ?_
            rintro e w' ⟨rfl, rfl⟩
            go_wp2_with fail
            refine (HJ.out.waiting).mono ?_
            rintro e w' ⟨rfl, rfl⟩
            obtain ⟨x0, x1, x2⟩ := HC.out.below HCb.out HJ.out.bel
            go_wp2_with fail
            refine (HJ.out.enter0 c).mono ?_
            rintro e w9 ⟨rfl, hj9⟩
            have HJ9 := hide hj9
            clear hj9 HJ x0 x1 x2
            go_wp2
            go_roundw
            case rel => exact ⟨k + 1, _, _, _, _, Hlt.out, by go_num, HJ9.out⟩
            case measure => have := Hlt.out; simp [intOf]; omega
          · have hm4 := HJ.out.gate.few
            have hr : rnd a2 l2 = a2 := by unfold rnd; rw [if_neg z]
            have HF0 := hide (show Calls Try.prog 12 #[.pointer (some ⟨g, 0, none⟩)] _ fun e w' => e = .returned (.int .i64 a2) ∧ _ = w' by have := HJ.out.frozen; rw [hr] at this; exact this)
            have q0 : (a2 == 0) = false := by have := HJ.out.gate.on z; simp; omega
            have q0' : (a2 != 0) = true := by have := HJ.out.gate.on z; simp; omega
            have HZ := hide z
            clear hr z
            by_cases y : m2 = 4
            · subst y
              clear hm4
              go_wp2_with fail
              refine HF0.out.mono ?_
              rintro e w' ⟨rfl, rfl⟩
              go_wp2_with fail
              refine (HJ.out.waiting).mono ?_
              rintro e w' ⟨rfl, rfl⟩
              obtain ⟨x0, x1, x2⟩ := HC.out.below HCb.out HJ.out.bel
              go_wp2_with fail
              refine (HJ.out.enter4 c).mono ?_
              rintro e w9 ⟨p9, rfl, _, hj9⟩
              have HJ9 := hide hj9
              clear hj9 HJ x0 x1 x2 HF0
              go_wp2
              go_roundw
              case rel => exact ⟨k + 1, _, _, _, _, Hlt.out, by go_num, HJ9.out⟩
              case measure => have := Hlt.out; simp [intOf]; omega
            · have hm : m2 < 4 := by omega
              have HM := hide hm
              have hmi : (m2 : Int) < 4 := by omega
              have hmd : decide ((m2 : Int) < 4) = true := decide_eq_true hmi
              clear y hm4 hm
              go_wp2_with fail
              refine HF0.out.mono ?_
              rintro e w' ⟨rfl, rfl⟩
              go_wp2_with fail
              refine (HJ.out.waiting).mono ?_
              rintro e w' ⟨rfl, rfl⟩
              obtain ⟨x0, x1, x2⟩ := HC.out.below HCb.out HJ.out.bel
              go_wp2_with fail
              refine (HJ.out.enter HZ.out HM.out c).mono ?_
              rintro e w9 ⟨rfl, hj9⟩
              have HJ9 := hide hj9
              clear hj9 HJ x0 x1 x2 HF0
              go_wp2
              go_roundw
              case rel => exact ⟨k + 1, _, _, _, _, Hlt.out, by go_num, HJ9.out⟩
              case measure => have := Hlt.out; simp [intOf]; omega
        · have q2 : (kind == 2) = false := by simpa using k2
          by_cases k4 : kind = 4
          · subst k4
            go_wp2_with fail
            refine hj.out.tick.mono ?_
            rintro e w5 ⟨v5, rfl, _, hj5⟩
            obtain ⟨a2, rfl⟩ : ∃ a2, a2 = a := ⟨_, rfl⟩
            generalize (ticked l1 Q m).2.1 = l2 at hj5
            generalize (ticked l1 Q m).2.2.1 = Q2 at hj5
            generalize (ticked l1 Q m).2.2.2 = m2 at hj5
            have HJ := hide hj5
            clear hj5 hj e0 e1 e2
            by_cases z : l2 = 0
            · subst z
              go_wp2_with fail
              refine (show Calls Try.prog 12 #[.pointer (some ⟨g, 0, none⟩)] _ fun e w' => e = .returned (.int .i64 0) ∧ _ = w' from HJ.out.frozen).mono ?_
              rintro e w' ⟨rfl, rfl⟩
              go_wp2_with fail
              refine (HJ.out.waiting).mono ?_
              rintro e w' ⟨rfl, rfl⟩
              obtain ⟨x0, x1, x2⟩ := HC.out.below HCb.out HJ.out.bel
              go_wp2_with fail
              refine (HJ.out.enter0 c).mono ?_
              rintro e w9 ⟨rfl, hj9⟩
              have HJ9 := hide hj9
              clear hj9 HJ x0 x1 x2
              go_wp2
              go_roundw
              case rel => exact ⟨k + 1, _, _, _, _, Hlt.out, by go_num, HJ9.out⟩
              case measure => have := Hlt.out; simp [intOf]; omega
            · have hm4 := HJ.out.gate.few
              have hr : rnd a2 l2 = a2 := by unfold rnd; rw [if_neg z]
              have HF0 := hide (show Calls Try.prog 12 #[.pointer (some ⟨g, 0, none⟩)] _ fun e w' => e = .returned (.int .i64 a2) ∧ _ = w' by have := HJ.out.frozen; rw [hr] at this; exact this)
              have q0 : (a2 == 0) = false := by have := HJ.out.gate.on z; simp; omega
              have q0' : (a2 != 0) = true := by have := HJ.out.gate.on z; simp; omega
              have HZ := hide z
              clear hr z
              by_cases y : m2 = 4
              · subst y
                clear hm4
                go_wp2_with fail
                refine HF0.out.mono ?_
                rintro e w' ⟨rfl, rfl⟩
                go_wp2_with fail
                refine (HJ.out.waiting).mono ?_
                rintro e w' ⟨rfl, rfl⟩
                obtain ⟨x0, x1, x2⟩ := HC.out.below HCb.out HJ.out.bel
                go_wp2_with fail
                refine (HJ.out.enter4 c).mono ?_
                rintro e w9 ⟨p9, rfl, _, hj9⟩
                have HJ9 := hide hj9
                clear hj9 HJ x0 x1 x2 HF0
                go_wp2
                go_roundw
                case rel => exact ⟨k + 1, _, _, _, _, Hlt.out, by go_num, HJ9.out⟩
                case measure => have := Hlt.out; simp [intOf]; omega
              · have hm : m2 < 4 := by omega
                have HM := hide hm
                have hmi : (m2 : Int) < 4 := by omega
                have hmd : decide ((m2 : Int) < 4) = true := decide_eq_true hmi
                clear y hm4 hm
                go_wp2_with fail
                refine HF0.out.mono ?_
                rintro e w' ⟨rfl, rfl⟩
                go_wp2_with fail
                refine (HJ.out.waiting).mono ?_
                rintro e w' ⟨rfl, rfl⟩
                obtain ⟨x0, x1, x2⟩ := HC.out.below HCb.out HJ.out.bel
                go_wp2_with fail
                refine (HJ.out.enter HZ.out HM.out c).mono ?_
                rintro e w9 ⟨rfl, hj9⟩
                have HJ9 := hide hj9
                clear hj9 HJ x0 x1 x2 HF0
                go_wp2
                go_roundw
                case rel => exact ⟨k + 1, _, _, _, _, Hlt.out, by go_num, HJ9.out⟩
                case measure => have := Hlt.out; simp [intOf]; omega
          · have q4 : (kind == 4) = false := by simpa using k4
            obtain ⟨a2, rfl⟩ : ∃ a2, a2 = a := ⟨_, rfl⟩
            obtain ⟨l2, rfl⟩ : ∃ l2, l2 = l1 := ⟨_, rfl⟩
            obtain ⟨Q2, rfl⟩ : ∃ Q2, Q2 = Q := ⟨_, rfl⟩
            obtain ⟨m2, rfl⟩ : ∃ m2, m2 = m := ⟨_, rfl⟩
            have HJ := hj
            clear hj e1 e2
            by_cases z : l2 = 0
            · subst z
              go_wp2_with fail
              refine (show Calls Try.prog 12 #[.pointer (some ⟨g, 0, none⟩)] _ fun e w' => e = .returned (.int .i64 0) ∧ _ = w' from HJ.out.frozen).mono ?_
              rintro e w' ⟨rfl, rfl⟩
              go_wp2_with fail
              refine (HJ.out.waiting).mono ?_
              rintro e w' ⟨rfl, rfl⟩
              obtain ⟨x0, x1, x2⟩ := HC.out.below HCb.out HJ.out.bel
              go_wp2_with fail
              refine (HJ.out.enter0 c).mono ?_
              rintro e w9 ⟨rfl, hj9⟩
              have HJ9 := hide hj9
              clear hj9 HJ x0 x1 x2
              go_wp2
              go_roundw
              case rel => exact ⟨k + 1, _, _, _, _, Hlt.out, by go_num, HJ9.out⟩
              case measure => have := Hlt.out; simp [intOf]; omega
            · have hm4 := HJ.out.gate.few
              have hr : rnd a2 l2 = a2 := by unfold rnd; rw [if_neg z]
              have HF0 := hide (show Calls Try.prog 12 #[.pointer (some ⟨g, 0, none⟩)] _ fun e w' => e = .returned (.int .i64 a2) ∧ _ = w' by have := HJ.out.frozen; rw [hr] at this; exact this)
              have q0 : (a2 == 0) = false := by have := HJ.out.gate.on z; simp; omega
              have q0' : (a2 != 0) = true := by have := HJ.out.gate.on z; simp; omega
              have HZ := hide z
              clear hr z
              by_cases y : m2 = 4
              · subst y
                clear hm4
                go_wp2_with fail
                refine HF0.out.mono ?_
                rintro e w' ⟨rfl, rfl⟩
                go_wp2_with fail
                refine (HJ.out.waiting).mono ?_
                rintro e w' ⟨rfl, rfl⟩
                obtain ⟨x0, x1, x2⟩ := HC.out.below HCb.out HJ.out.bel
                go_wp2_with fail
                refine (HJ.out.enter4 c).mono ?_
                rintro e w9 ⟨p9, rfl, _, hj9⟩
                have HJ9 := hide hj9
                clear hj9 HJ x0 x1 x2 HF0
                go_wp2
                go_roundw
                case rel => exact ⟨k + 1, _, _, _, _, Hlt.out, by go_num, HJ9.out⟩
                case measure => have := Hlt.out; simp [intOf]; omega
              · have hm : m2 < 4 := by omega
                have HM := hide hm
                have hmi : (m2 : Int) < 4 := by omega
                have hmd : decide ((m2 : Int) < 4) = true := decide_eq_true hmi
                clear y hm4 hm
                go_wp2_with fail
                refine HF0.out.mono ?_
                rintro e w' ⟨rfl, rfl⟩
                go_wp2_with fail
                refine (HJ.out.waiting).mono ?_
                rintro e w' ⟨rfl, rfl⟩
                obtain ⟨x0, x1, x2⟩ := HC.out.below HCb.out HJ.out.bel
                go_wp2_with fail
                refine (HJ.out.enter HZ.out HM.out c).mono ?_
                rintro e w9 ⟨rfl, hj9⟩
                have HJ9 := hide hj9
                clear hj9 HJ x0 x1 x2 HF0
                go_wp2
                go_roundw
                case rel => exact ⟨k + 1, _, _, _, _, Hlt.out, by go_num, HJ9.out⟩
                case measure => have := Hlt.out; simp [intOf]; omega
    · have hkn : ¬ ((k : Int) < (n : Int)) := by omega
      have HB := hide (HB1.out.trans (hj.out.bel.mono HB1.out.size))
      clear hj hge hk
      go_wp2
      go_ret
      exact ⟨rfl, HB.out⟩

set_option maxRecDepth 100000 in
set_option maxHeartbeats 2000000 in
theorem Open_any (A : Option Addr) (n cp : Nat) (l : List Oq) (c : Cl) (w : World) (hl : l.length = n) (hp : Ops w w.heap.size A l) (hf : OFits l) :
    Calls Try.prog 5 #[.slice A n cp, cl3 c] w fun e w' => e = .returned (.bool true) ∧ Below w.heap.size w w' := by
  by_cases hgood : Few l ∧ c.d.size ≤ 200
  · exact Open_good A n cp l c w hl hp hf hgood.1 hgood.2
  · have Hl := hide hl
    have Hp := hide hp
    have Hf := hide hf
    have HNG := hide hgood
    clear hl hp hf hgood
    go_enter Try.func5, Try.ntmps5
    go_wp2_with (refine wpList_box_told rfl 29 (.tmp 1) rfl _ rfl ?_)
    intro w0 Hw0
    have HB0 : Hid (Below w.heap.size w w0) := by rw [Hw0.out]; exact (Below.refl _ _).alloc (Nat.le_refl _) _
    have HC0 : Hid (w0.cell? ⟨w.heap.size, 2, none⟩ = some (.string c.d)) := by
      have hh : w0.heap[w.heap.size]? = some (.cells #[.int .i64 c.id, .int .i64 c.b, .string c.d] 29 (0, 0)) := by rw [Hw0.out]; exact heap_alloc_new w _
      rw [Hid, cell_of_row _ _ 2 _ _ _ hh]
      rfl
    have HW0 := hide (show w.heap.size < w0.heap.size by rw [Hw0.out]; simp)
    clear Hw0
    go_wp2_with fail
    refine (awake_any w0).mono ?_
    rintro e w1 ⟨rfl, hb1⟩
    have HB1 := hide (HB0.out.trans (hb1.mono HB0.out.size))
    have x2 : w1.cell? ⟨w.heap.size, 2, none⟩ = some (.string c.d) := (hb1.cell (p := ⟨w.heap.size, 2, none⟩) HW0.out).trans HC0.out
    clear hb1 HB0 HC0 HW0
    go_wp2_with fail
    refine (few_any A n cp l w1 Hl.out ((Hp.out.below HB1.out).more1 HB1.out.size) Hf.out).mono ?_
    rintro e w' ⟨⟨b, rfl, hb⟩, rfl⟩
    cases b with
    | false =>
      clear hb
      go_wp2_with fail
      refine (awake_any w1).mono ?_
      rintro e w2 ⟨rfl, hb2⟩
      have HB2 := hide (HB1.out.trans (hb2.mono HB1.out.size))
      clear hb2
      go_wp2
      go_ret
      exact ⟨rfl, HB2.out⟩
    | true =>
      have hdi : (200 : Int) < (c.d.size : Int) := by
        have h1 := hb.1 rfl
        have h2 : ¬ c.d.size ≤ 200 := fun h => HNG.out ⟨h1, h⟩
        omega
      clear hb
      go_wp2_with fail
      refine (awake_any w1).mono ?_
      rintro e w2 ⟨rfl, hb2⟩
      have HB2 := hide (HB1.out.trans (hb2.mono HB1.out.size))
      clear hb2
      go_wp2
      go_ret
      exact ⟨rfl, HB2.out⟩

end Go.Proofs.Ytjholhmgainbfaa.Ga
