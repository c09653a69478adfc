/-
  GateKeeps at every script: it returns true, and changes nothing that was there. No condition.
-/
import Derived.BigQuiet
import Derived.Deep.RegionHeld3
import Derived.Test.YtjholhmgainbfaaGaWalk
namespace Go.Proofs.Ytjholhmgainbfaa.Ga
open Go.RowKit
open Pk Dk

/-- Entered, told, what is being told, what waits: each in its place. -/
def KI (E T : Nat) (L Q : List Cl) (m : Nat) : Prop := E = T + L.length + m ∧ (∀ (i : Nat) (c : Cl), L[i]? = some c → c.id = (T : Int) + (i : Int)) ∧ ∀ (i : Nat) (c : Cl), i < m → Q[i]? = some c → c.id = (T : Int) + (L.length : Int) + (i : Int)
theorem KI.start : KI 0 0 [] noQ 0 := ⟨rfl, fun _ _ h => by simp at h, fun _ _ h => by omega⟩
section
variable {E T m : Nat} {L Q : List Cl}
theorem KI.opened (h : KI E T [] Q 0) : KI (E + 1) (T + 1) [] Q 0 := ⟨by have := h.1; simp at this; simp; omega, fun _ _ h => by simp at h, fun _ _ h => by omega⟩
theorem KI.entered (h : KI E T [] Q m) (hQ : Q.length = 4) (hm : m < 4) : KI (E + 1) T [] (Q.set m ⟨(E : Int), 0, ⟨#[]⟩⟩) (m + 1) := by
  have h1 := h.1
  simp at h1
  refine ⟨by simp; omega, fun _ _ h => by simp at h, fun i c hi hc => ?_⟩
  by_cases e : i = m
  · subst e
    rw [List.getElem?_set_self (by omega)] at hc
    cases hc
    simp
    omega
  · rw [List.getElem?_set_ne (by omega)] at hc
    exact h.2.2 i c (by omega) hc
theorem KI.outed (h : KI E T [] Q m) (hQ : Q.length = 4) (hm : m ≤ 4) : KI E T (Q.take m) noQ 0 := by
  have h1 := h.1
  simp at h1
  refine ⟨by rw [List.length_take, hQ]; omega, fun i c hc => ?_, fun _ _ h => by omega⟩
  rw [List.getElem?_take] at hc
  split at hc
  · have := h.2.2 i c (by assumption) hc
    simpa using this
  · cases hc
theorem KI.told (h : KI E T L Q m) : KI E (T + L.length) [] Q m := by
  refine ⟨by have := h.1; simp; omega, fun _ _ h => by simp at h, fun i c hi hc => ?_⟩
  have := h.2.2 i c hi hc
  simp
  omega
theorem KI.ticked (h : KI E T [] Q m) (hQ : Q.length = 4) (hm : m ≤ 4) (l : Int) : KI E T (ticked l Q m).1 (ticked l Q m).2.2.1 (ticked l Q m).2.2.2 := by
  unfold Ga.ticked
  split
  · exact h.outed hQ hm
  · exact h
theorem ticked_few (l : Int) (hQ : Q.length = 4) : (ticked l Q m).1.length ≤ 4 := by
  unfold Ga.ticked
  split
  · simp [hQ]; omega
  · simp
end
/-- With the bound on what entered. -/
def KB (k E T : Nat) (Q : List Cl) (m : Nat) : Prop := KI E T [] Q m ∧ E ≤ k
theorem KI.up {k E T m : Nat} {Q : List Cl} (h : KI E T [] Q m) (hk : E ≤ k) : KB k E T Q m := ⟨h, hk⟩
theorem built_id (i : Int) : Try.prog.built 39 [(0, .int .i64 i)] = some #[.int .i64 i, .int .i64 0, .string ⟨#[]⟩] := by kernel_rfl

set_option maxRecDepth 100000 in
set_option maxHeartbeats 8000000 in
theorem Keeps_good (A : Option Addr) (n cp : Nat) (l : List Oq) (w : World) (hl : l.length = n) (hp : Ops w w.heap.size A l) (hf : OFits l) (hfew : Few l) :
    Calls Try.prog 3 #[.slice A n cp] w fun e w' => e = .returned (.bool true) ∧ Below w.heap.size w w' := by
  have Hl := hide hl
  have Hp := hide hp
  have Hf := hide hf
  have Hfew := hide hfew
  have Hn := hide (show n ≤ 300 by rw [← hl]; exact hfew.1)
  clear hl hp hf hfew
  go_enter Try.func3, Try.ntmps3
  go_wp2_with fail
  refine (awake_any w).mono ?_
  rintro e w1 ⟨rfl, hb1⟩
  have HB1 := hide hb1
  clear hb1
  go_wp2_with fail
  refine (few_any A n cp l w1 Hl.out ((Hp.out.below HB1.out).more1 HB1.out.size) Hf.out).mono ?_
  rintro e w' ⟨⟨b, rfl, hb⟩, rfl⟩
  obtain rfl : b = true := hb.2 Hfew.out
  clear hb
  have HRO := hide ((Hp.out.below HB1.out).more1 HB1.out.size)
  go_wp2_with fail
  refine (GW.start w1).mono ?_
  rintro e w2 ⟨g, rfl, hg⟩
  have HG2 := hide hg
  clear hg
  go_wp2
  go_loopw [4, 5, 22] (fun ve vt j wr => ∃ (k E T : Nat) (a l2 : Int) (Q : List Cl) (m : Nat), k ≤ n ∧ ve = .int .i64 (E : Int) ∧ vt = .int .i64 (T : Int) ∧ j = .int .i64 k ∧ Hid (GW w1 g a l2 Q m wr) ∧ Hid (KB k E T Q m)) (fun _ _ j _ => n - (intOf j).toNat)
  case atStart => exact ⟨0, 0, 0, _, _, _, _, Nat.zero_le _, rfl, rfl, rfl, HG2.out, KI.start.up (Nat.le_refl _)⟩
  case round =>
    clear HG2
    obtain ⟨k, E, T, a, l1, Q, m, hk, rfl, rfl, rfl, hj, hkb⟩ := hrel
    rcases Nat.lt_or_ge k n with hlt | hge
    · have Hlt := hide hlt
      have hki0 : (k : Int) < (n : Int) := by omega
      have hn3i : (n : Int) ≤ 300 := by have := Hn.out; omega
      have hki := hide hkb.out.1
      have hEi : (E : Int) ≤ 300 := by have := hkb.out.2; have := Hn.out; omega
      have hTi : (T : Int) ≤ 300 := by have := hki.out.1; simp at this; omega
      have Hek := hide (show E ≤ k + 1 by have := hkb.out.2; omega)
      have Hek1 := hide (show E + 1 ≤ k + 1 by have := hkb.out.2; omega)
      clear hkb
      obtain ⟨o, hok⟩ : ∃ o, l[k]? = some o := ⟨_, List.getElem?_eq_getElem (by rw [Hl.out]; exact hlt)⟩
      have Hok := hide hok
      have hfit := Hf.out o (List.mem_of_getElem? hok)
      obtain ⟨b, off, rfl, hat⟩ := (HRO.out.below hj.out.bel).at_ hok
      obtain ⟨kind, or, ot, oc⟩ := o
      have Hor := hide (show I64 or from hfit.2.1)
      have Hot := hide (show I64 ot from hfit.2.2.1)
      obtain ⟨e0, e1, e2, -, -, -⟩ := hat
      simp only at e0 e1 e2
      clear hok hfit hlt hk
      by_cases k1 : kind = 1
      · subst k1
        have hS0 : wr.drew.cell? ⟨b, off + k * 6 + 1, none⟩ = some (.int .i64 or) ∧ wr.drew.cell? ⟨b, off + k * 6 + 2, none⟩ = some (.int .i64 ot) := ⟨e1, e2⟩
        have HS0 := hide hS0
        clear hS0
        go_wp2
        have hS0 := HS0.out
        clear e0 e1 e2
        refine wp_region_held (S := (fun W => W.cell? ⟨b, off + k * 6 + 1, none⟩ = some (.int .i64 or) ∧ W.cell? ⟨b, off + k * 6 + 2, none⟩ = some (.int .i64 ot))) (by kernel_rfl) ?_
        change wpAnyH _ _ _ _ _ _ _ _ (World.drew _)
        refine wpAnyH_take (i := 0) (oi := ⟨some 32, _, _, _, _, _⟩) (v := ?_) rfl (by kernel_rfl) (by kernel_rfl) (by kernel_rfl) (fun _ _ _ h => h) (Or.inl ⟨by rfl, ?_⟩) hS0 ?_
        rotate_left 1
        · (intro w hSw; obtain ⟨hSw1, hSw2⟩ := hSw; go_simp; try with_reducible rfl)
        simp only [Act.put, List.setIfInBounds_toArray, List.set_cons_zero, List.set_cons_succ]
        refine wpAnyH_take (i := 1) (oi := ⟨some 33, _, _, _, _, _⟩) (v := ?_) rfl (by kernel_rfl) (by kernel_rfl) (by kernel_rfl) (fun _ _ _ h => h) (Or.inl ⟨by rfl, ?_⟩) hS0 ?_
        rotate_left 1
        · (intro w hSw; obtain ⟨hSw1, hSw2⟩ := hSw; go_simp; try with_reducible rfl)
        simp only [Act.put, List.setIfInBounds_toArray, List.set_cons_zero, List.set_cons_succ]
        refine wpAnyH_take (i := 2) (oi := ⟨some 34, _, _, _, _, _⟩) (v := ?_) rfl (by kernel_rfl) (by kernel_rfl) (by kernel_rfl) (fun _ _ _ h => h) (Or.inl ⟨by rfl, ?_⟩) hS0 ?_
        rotate_left 1
        · (intro w hSw; obtain ⟨hSw1, hSw2⟩ := hSw; go_simp; try with_reducible rfl)
        simp only [Act.put, List.setIfInBounds_toArray, List.set_cons_zero, List.set_cons_succ]
        refine wpAnyH_take (i := 3) (oi := ⟨some 35, _, _, _, _, _⟩) (v := ?_) rfl (by kernel_rfl) (by kernel_rfl) (by kernel_rfl) (fun _ _ _ h => h) (Or.inl ⟨by rfl, ?_⟩) hS0 ?_
        rotate_left 1
        · (intro w hSw; obtain ⟨hSw1, hSw2⟩ := hSw; go_simp; try with_reducible rfl)
        simp only [Act.put, List.setIfInBounds_toArray, List.set_cons_zero, List.set_cons_succ]
        refine wpAnyH_take (i := 4) (oi := ⟨some 36, _, _, _, _, _⟩) (v := ?_) rfl (by kernel_rfl) (by kernel_rfl) (by kernel_rfl) (fun _ _ _ h => h) (Or.inl ⟨by rfl, ?_⟩) hS0 ?_
        rotate_left 1
        · (intro w hSw; obtain ⟨hSw1, hSw2⟩ := hSw; go_simp; try with_reducible rfl)
        simp only [Act.put, List.setIfInBounds_toArray, List.set_cons_zero, List.set_cons_succ]
        refine wpAnyH_take (i := 5) (oi := ⟨some 37, _, _, _, _, _⟩) (v := ?_) rfl (by kernel_rfl) (by kernel_rfl) (by kernel_rfl) (fun _ _ _ h => h) (Or.inl ⟨by rfl, ?_⟩) hS0 ?_
        rotate_left 1
        · (intro w hSw; obtain ⟨hSw1, hSw2⟩ := hSw; go_simp; try with_reducible rfl)
        simp only [Act.put, List.setIfInBounds_toArray, List.set_cons_zero, List.set_cons_succ]
        refine wpAnyH_take (i := 6) (oi := ⟨some 38, _, _, _, _, _⟩) (v := ?_) rfl (by kernel_rfl) (by kernel_rfl) (by kernel_rfl) (fun _ _ _ h => h) (Or.inl ⟨by rfl, ?_⟩) hS0 ?_
        rotate_left 1
        · (intro w hSw; obtain ⟨hSw1, hSw2⟩ := hSw; go_simp; try with_reducible rfl)
        simp only [Act.put, List.setIfInBounds_toArray, List.set_cons_zero, List.set_cons_succ]
        refine wpAnyH_take (i := 7) (oi := ⟨some 39, _, _, _, _, _⟩) (v := ?_) rfl (by kernel_rfl) (by kernel_rfl) (by kernel_rfl) (fun _ _ _ h => h) (Or.inl ⟨by rfl, ?_⟩) hS0 ?_
        rotate_left 1
        · (intro w hSw; obtain ⟨hSw1, hSw2⟩ := hSw; go_simp; try with_reducible rfl)
        simp only [Act.put, List.setIfInBounds_toArray, List.set_cons_zero, List.set_cons_succ]
        refine wpAnyH_take (i := 8) (oi := ⟨some 40, _, _, _, _, _⟩) (v := ?_) rfl (by kernel_rfl) (by kernel_rfl) (by kernel_rfl) (fun _ _ _ h => h) (Or.inl ⟨by rfl, ?_⟩) hS0 ?_
        rotate_left 1
        · (intro w hSw; obtain ⟨hSw1, hSw2⟩ := hSw; go_simp; try with_reducible rfl)
        simp only [Act.put, List.setIfInBounds_toArray, List.set_cons_zero, List.set_cons_succ]
        refine wpAnyH_take (i := 9) (oi := ⟨some 41, _, _, _, _, _⟩) (v := ?_) rfl (by kernel_rfl) (by kernel_rfl) (by kernel_rfl) (fun _ _ _ h => h) (Or.inl ⟨by rfl, ?_⟩) hS0 ?_
        rotate_left 1
        · (intro w hSw; obtain ⟨hSw1, hSw2⟩ := hSw; go_simp; try with_reducible rfl)
        simp only [Act.put, List.setIfInBounds_toArray, List.set_cons_zero, List.set_cons_succ]
        refine wpAnyH_take (i := 10) (oi := ⟨some 42, _, _, _, _, _⟩) (v := ?_) rfl (by kernel_rfl) (by kernel_rfl) (by kernel_rfl) (fun _ _ _ h => h) (Or.inl ⟨by rfl, ?_⟩) hS0 ?_
        rotate_left 1
        · (intro w hSw; obtain ⟨hSw1, hSw2⟩ := hSw; go_simp; try with_reducible rfl)
        simp only [Act.put, List.setIfInBounds_toArray, List.set_cons_zero, List.set_cons_succ]
        refine wpAnyH_ready (rs := [11]) (by kernel_rfl) (by simp) ?_
        refine AllReadyH.cons (o := ⟨some 43, _, _, _, _, _⟩) rfl (fun K hK => ?_) AllReadyH.nil
        go_simp
        refine (hj.out.drew.freeze' or ot Hor.out.2 Hot.out.2).mono ?_
        rintro e w5 ⟨v5, a2, l2, rfl, hj5⟩
        have hS5 : w5.cell? ⟨b, off + k * 6 + 1, none⟩ = some (.int .i64 or) ∧ w5.cell? ⟨b, off + k * 6 + 2, none⟩ = some (.int .i64 ot) := by obtain ⟨b2, off2, e2, hat2⟩ := (HRO.out.below hj5.bel).at_ Hok.out; cases e2; exact ⟨hat2.2.1, hat2.2.2.1⟩
        have HJ := hide hj5
        clear hj5 hj
        refine hK.out _ _ hS5 (fun hHeld => ?_)
        clear hK K
        clear hHeld
        refine wpAnyH_done (by kernel_rfl) ?_ _
        clear hS0 hS5
        obtain ⟨Q2, rfl⟩ : ∃ Q2, Q2 = Q := ⟨_, rfl⟩
        obtain ⟨m2, rfl⟩ : ∃ m2, m2 = m := ⟨_, rfl⟩
        have HK := hki
        go_wp2_with fail
        go_loop [5, 97] (fun v j => v = .int .i64 ((T : Int)) ∧ j = .int .i64 0) (fun _ _ => 0)
        case atStart => exact ⟨rfl, rfl⟩
        case round =>
          obtain ⟨rfl, rfl⟩ := hrel
          by_cases z : l2 = 0
          · subst z
            obtain rfl : m2 = 0 := HJ.out.gate.idle rfl
            have HF0 := hide (show Calls Try.prog 12 #[.pointer (some ⟨g, 0, none⟩)] _ fun e w' => e = .returned (.int .i64 0) ∧ _ = w' from HJ.out.frozen)
            have HW0 := hide (show Calls Try.prog 14 #[.pointer (some ⟨g, 0, none⟩)] _ fun e w' => e = .returned (.int .i64 0) ∧ _ = w' from HJ.out.waiting)
            have hcmp : ((0 : Int) != (E : Int) - (T : Int)) = false := by have := HK.out.1; simp at this; simp <;> omega
            go_wp2_with fail
            refine HW0.out.mono ?_
            rintro e w' ⟨rfl, rfl⟩
            go_wp2_with fail
            refine HW0.out.mono ?_
            rintro e w' ⟨rfl, rfl⟩
            go_wp2_with fail
            refine HF0.out.mono ?_
            rintro e w' ⟨rfl, rfl⟩
            go_wp2_with fail
            refine HW0.out.mono ?_
            rintro e w' ⟨rfl, rfl⟩
            clear HF0 HW0
            go_wp2
            go_roundw
            case rel => exact ⟨k + 1, E, T, _, _, _, _, Hlt.out, by go_num, by go_num, by go_num, HJ.out, HK.out.up Hek.out⟩
            case measure => have := Hlt.out; simp [intOf]; omega
          · have HZ := hide z
            clear z
            have HF0 := hide (show Calls Try.prog 12 #[.pointer (some ⟨g, 0, none⟩)] _ fun e w' => e = .returned (.int .i64 a2) ∧ _ = w' by have := HJ.out.frozen; unfold rnd at this; rw [if_neg HZ.out] at this; exact this)
            have HW0 := hide (show Calls Try.prog 14 #[.pointer (some ⟨g, 0, none⟩)] _ fun e w' => e = .returned (.int .i64 (m2 : Int)) ∧ _ = w' from HJ.out.waiting)
            have q0 : (a2 == 0) = false := by have := HJ.out.gate.on HZ.out; simp; omega
            have hm4 : ((m2 : Nat) : Int) ≤ 4 := by have := HJ.out.gate.few; omega
            have hcmp : ((m2 : Int) != (E : Int) - (T : Int)) = false := by have := HK.out.1; simp at this; simp; omega
            go_wp2_with fail
            refine HW0.out.mono ?_
            rintro e w' ⟨rfl, rfl⟩
            go_wp2_with fail
            refine HW0.out.mono ?_
            rintro e w' ⟨rfl, rfl⟩
            go_wp2_with fail
            refine HF0.out.mono ?_
            rintro e w' ⟨rfl, rfl⟩
            clear HF0 HW0
            go_wp2
            go_roundw
            case rel => exact ⟨k + 1, E, T, _, _, _, _, Hlt.out, by go_num, by go_num, by go_num, HJ.out, HK.out.up Hek.out⟩
            case measure => have := Hlt.out; simp [intOf]; omega
      · have q1 : (kind == 1) = false := by simpa using k1
        clear k1
        by_cases k2 : kind = 2
        · subst k2
          go_wp2_with fail
          refine (hj.out.thaw' or).mono ?_
          rintro e w5 ⟨v5, x5, l2, Q2, m2, rfl, hr5, he5, hj5⟩
          obtain ⟨a2, rfl⟩ : ∃ a2, a2 = a := ⟨_, rfl⟩
          obtain ⟨L5, hL5⟩ : ∃ L5, (if l1 ≠ 0 ∧ or = a2 then Q.take m else []) = L5 := ⟨_, rfl⟩
          have HKL : Hid (KI E T L5 Q2 m2) := by
            rw [← hL5]
            split at he5
            · rename_i hh
              cases he5
              rw [if_pos hh]
              exact hki.out.outed hj.out.gate.len hj.out.gate.few
            · rename_i hh
              cases he5
              rw [if_neg hh]
              exact hki.out
          have hL4 : L5.length ≤ 4 := by
            rw [← hL5]
            split
            · have := hj.out.gate.len
              simp
              omega
            · simp
          rw [hL5] at hr5
          have HJ := hide hj5
          clear hj5 hj e0 e1 e2 he5 hL5 hki
          obtain ⟨A5, c5, rfl, hlc5, hcm5, hcell5⟩ := hr5.form
          obtain ⟨m5, hm5⟩ : ∃ m5, L5.length = m5 := ⟨_, rfl⟩
          rw [hm5] at hlc5 hcell5
          rw [hm5]
          have HR5 := hide hcell5
          have HL5 := hide hm5
          have HM5 := hide (show m5 ≤ 4 by rw [← hm5]; exact hL4)
          have hm5i : (m5 : Int) ≤ 4 := by omega
          have hc5i : (m5 : Int) ≤ (c5 : Int) := by omega
          clear hr5 hcell5 hm5 hlc5 hcm5 hL4
          go_wp2_with fail
          go_loop [5, 97] (fun v j => ∃ k5 : Nat, k5 ≤ m5 ∧ v = .int .i64 ((T + k5 : Nat) : Int) ∧ j = .int .i64 (k5 : Int)) (fun _ j => m5 - (intOf j).toNat)
          case atStart => exact ⟨0, Nat.zero_le _, rfl, rfl⟩
          case round =>
            obtain ⟨k5, hk5, rfl, rfl⟩ := hrel
            rcases Nat.lt_or_ge k5 m5 with hlt5 | hge5
            · have Hlt5 := hide hlt5
              have hki5 : (k5 : Int) < (m5 : Int) := by omega
              obtain ⟨x5, hx5⟩ : ∃ x, L5[k5]? = some x := ⟨_, List.getElem?_eq_getElem (by rw [HL5.out]; exact hlt5)⟩
              obtain ⟨b5, rfl, _, _, hc5⟩ := HR5.out (by omega)
              have hid5 := HKL.out.2.1 k5 x5 hx5
              have hcc5 := (hc5 k5 x5 hx5).1
              obtain ⟨T5, hT5⟩ : ∃ T5, T + k5 = T5 := ⟨_, rfl⟩
              rw [hid5, show ((T : Int) + (k5 : Int)) = ((T5 : Nat) : Int) by omega] at hcc5
              rw [hT5]
              have hT5i : (T5 : Int) ≤ 400 := by omega
              have q5 : ((T5 : Int) != (T5 : Int)) = false := by simp
              have HT5 := hide hT5
              clear hx5 hid5 hT5 hc5 hlt5 hk5
              go_wp2
              go_round
              case rel => exact ⟨k5 + 1, Hlt5.out, by rw [show T + (k5 + 1) = T5 + 1 by have := HT5.out; omega]; go_num, by go_num⟩
              case measure => have := Hlt5.out; simp [intOf]; omega
            · obtain rfl : k5 = m5 := by omega
              obtain ⟨T5, hT5⟩ : ∃ T5, T + k5 = T5 := ⟨_, rfl⟩
              rw [hT5]
              have hT5i : (T5 : Int) ≤ 400 := by omega
              have hkk : ¬ (k5 : Int) < (k5 : Int) := by omega
              have HK := hide (show KI E T5 [] Q2 m2 by rw [← hT5, ← HL5.out]; exact HKL.out.told)
              clear hT5 hge5 hk5 HKL HR5 HL5 HM5
              go_wp2_with fail
              by_cases z : l2 = 0
              · subst z
                obtain rfl : m2 = 0 := HJ.out.gate.idle rfl
                have HF0 := hide (show Calls Try.prog 12 #[.pointer (some ⟨g, 0, none⟩)] _ fun e w' => e = .returned (.int .i64 0) ∧ _ = w' from HJ.out.frozen)
                have HW0 := hide (show Calls Try.prog 14 #[.pointer (some ⟨g, 0, none⟩)] _ fun e w' => e = .returned (.int .i64 0) ∧ _ = w' from HJ.out.waiting)
                have hcmp : ((0 : Int) != (E : Int) - (T5 : Int)) = false := by have := HK.out.1; simp at this; simp <;> omega
                go_wp2_with fail
                refine HW0.out.mono ?_
                rintro e w' ⟨rfl, rfl⟩
                go_wp2_with fail
                refine HW0.out.mono ?_
                rintro e w' ⟨rfl, rfl⟩
                go_wp2_with fail
                refine HF0.out.mono ?_
                rintro e w' ⟨rfl, rfl⟩
                go_wp2_with fail
                refine HW0.out.mono ?_
                rintro e w' ⟨rfl, rfl⟩
                clear HF0 HW0
                go_wp2
                go_roundw
                case rel => exact ⟨k + 1, E, T5, _, _, _, _, Hlt.out, by go_num, by go_num, by go_num, HJ.out, HK.out.up Hek.out⟩
                case measure => have := Hlt.out; simp [intOf]; omega
              · have HZ := hide z
                clear z
                have HF0 := hide (show Calls Try.prog 12 #[.pointer (some ⟨g, 0, none⟩)] _ fun e w' => e = .returned (.int .i64 a2) ∧ _ = w' by have := HJ.out.frozen; unfold rnd at this; rw [if_neg HZ.out] at this; exact this)
                have HW0 := hide (show Calls Try.prog 14 #[.pointer (some ⟨g, 0, none⟩)] _ fun e w' => e = .returned (.int .i64 (m2 : Int)) ∧ _ = w' from HJ.out.waiting)
                have q0 : (a2 == 0) = false := by have := HJ.out.gate.on HZ.out; simp; omega
                have hm4 : ((m2 : Nat) : Int) ≤ 4 := by have := HJ.out.gate.few; omega
                have hcmp : ((m2 : Int) != (E : Int) - (T5 : Int)) = false := by have := HK.out.1; simp at this; simp; omega
                go_wp2_with fail
                refine HW0.out.mono ?_
                rintro e w' ⟨rfl, rfl⟩
                go_wp2_with fail
                refine HW0.out.mono ?_
                rintro e w' ⟨rfl, rfl⟩
                go_wp2_with fail
                refine HF0.out.mono ?_
                rintro e w' ⟨rfl, rfl⟩
                clear HF0 HW0
                go_wp2
                go_roundw
                case rel => exact ⟨k + 1, E, T5, _, _, _, _, Hlt.out, by go_num, by go_num, by go_num, HJ.out, HK.out.up Hek.out⟩
                case measure => have := Hlt.out; simp [intOf]; omega
        · have q2 : (kind == 2) = false := by simpa using k2
          clear k2
          by_cases k3 : kind = 3
          · subst k3
            by_cases z : l1 = 0
            · subst z
              obtain rfl : m = 0 := hj.out.gate.idle rfl
              obtain rfl : E = T := by have := hki.out.1; simpa using this
              have q5 : ((E : Int) != (E : Int)) = false := by simp
              go_wp2_with (first | refine wpList_built rfl 39 _ rfl _ (built_id (E : Int)) ?_)
              refine (hj.out.enter0 ⟨(E : Int), 0, ⟨#[]⟩⟩).mono ?_
              rintro e w5 ⟨rfl, hj5⟩
              obtain ⟨a2, rfl⟩ : ∃ a2, a2 = a := ⟨_, rfl⟩
              obtain ⟨Q2, rfl⟩ : ∃ Q2, Q2 = Q := ⟨_, rfl⟩
              have HJ := hide hj5
              have HK := hide hki.out.opened
              have HE0 := Hek1
              clear hj5 hj e0 e1 e2 hki Hek
              have Hek := HE0
              go_wp2_with fail
              go_loop [5, 97] (fun v j => v = .int .i64 ((E : Int) + 1) ∧ j = .int .i64 0) (fun _ _ => 0)
              case atStart => exact ⟨rfl, rfl⟩
              case round =>
                obtain ⟨rfl, rfl⟩ := hrel
                have HF0 := hide (show Calls Try.prog 12 #[.pointer (some ⟨g, 0, none⟩)] _ fun e w' => e = .returned (.int .i64 0) ∧ _ = w' from HJ.out.frozen)
                have HW0 := hide (show Calls Try.prog 14 #[.pointer (some ⟨g, 0, none⟩)] _ fun e w' => e = .returned (.int .i64 0) ∧ _ = w' from HJ.out.waiting)
                have hcmp : ((0 : Int) != ((E : Int) + 1) - ((E : Int) + 1)) = false := by have := HK.out.1; simp at this; simp <;> omega
                go_wp2_with fail
                refine HW0.out.mono ?_
                rintro e w' ⟨rfl, rfl⟩
                go_wp2_with fail
                refine HW0.out.mono ?_
                rintro e w' ⟨rfl, rfl⟩
                go_wp2_with fail
                refine HF0.out.mono ?_
                rintro e w' ⟨rfl, rfl⟩
                go_wp2_with fail
                refine HW0.out.mono ?_
                rintro e w' ⟨rfl, rfl⟩
                clear HF0 HW0
                go_wp2
                go_roundw
                case rel => exact ⟨k + 1, (E + 1), (E + 1), _, _, _, _, Hlt.out, by go_num, by go_num, by go_num, HJ.out, HK.out.up Hek.out⟩
                case measure => have := Hlt.out; simp [intOf]; omega
            · have HZ := hide z
              by_cases y : m = 4
              · subst y
                go_wp2_with (first | refine wpList_built rfl 39 _ rfl _ (built_id (E : Int)) ?_)
                refine (hj.out.enter4 ⟨(E : Int), 0, ⟨#[]⟩⟩).mono ?_
                rintro e w5 ⟨p5, rfl, _, hj5⟩
                obtain ⟨a2, rfl⟩ : ∃ a2, a2 = a := ⟨_, rfl⟩
                obtain ⟨Q2, rfl⟩ : ∃ Q2, Q2 = Q := ⟨_, rfl⟩
                obtain ⟨m2, hm2⟩ : ∃ m2, 4 = m2 := ⟨_, rfl⟩
                rw [hm2] at hj5 hki
                have HJ := hide hj5
                have HK := hki
                clear hj5 hj e0 e1 e2 z hm2
                go_wp2_with fail
                go_loop [5, 97] (fun v j => v = .int .i64 ((T : Int)) ∧ j = .int .i64 0) (fun _ _ => 0)
                case atStart => exact ⟨rfl, rfl⟩
                case round =>
                  obtain ⟨rfl, rfl⟩ := hrel
                  have HF0 := hide (show Calls Try.prog 12 #[.pointer (some ⟨g, 0, none⟩)] _ fun e w' => e = .returned (.int .i64 a2) ∧ _ = w' by have := HJ.out.frozen; unfold rnd at this; rw [if_neg HZ.out] at this; exact this)
                  have HW0 := hide (show Calls Try.prog 14 #[.pointer (some ⟨g, 0, none⟩)] _ fun e w' => e = .returned (.int .i64 (m2 : Int)) ∧ _ = w' from HJ.out.waiting)
                  have q0 : (a2 == 0) = false := by have := HJ.out.gate.on HZ.out; simp; omega
                  have hm4 : ((m2 : Nat) : Int) ≤ 4 := by have := HJ.out.gate.few; omega
                  have hcmp : ((m2 : Int) != (E : Int) - (T : Int)) = false := by have := HK.out.1; simp at this; simp; omega
                  go_wp2_with fail
                  refine HW0.out.mono ?_
                  rintro e w' ⟨rfl, rfl⟩
                  go_wp2_with fail
                  refine HW0.out.mono ?_
                  rintro e w' ⟨rfl, rfl⟩
                  go_wp2_with fail
                  refine HF0.out.mono ?_
                  rintro e w' ⟨rfl, rfl⟩
                  clear HF0 HW0
                  go_wp2
                  go_roundw
                  case rel => exact ⟨k + 1, E, T, _, _, _, _, Hlt.out, by go_num, by go_num, by go_num, HJ.out, HK.out.up Hek.out⟩
                  case measure => have := Hlt.out; simp [intOf]; omega
              · have hm : m < 4 := by have := hj.out.gate.few; omega
                have HF9 := hide (fun (W : World) (Q9 : List Cl) (m9 : Nat) (h : GW w1 g a l1 Q9 m9 W) => show Calls Try.prog 12 #[.pointer (some ⟨g, 0, none⟩)] W fun e w' => e = .returned (.int .i64 a) ∧ W = w' by have := h.frozen; unfold rnd at this; rw [if_neg HZ.out] at this; exact this)
                have q9 : (a == 0) = false := by have := hj.out.gate.on HZ.out; simp; omega
                have HM := hide hm
                clear y hm z
                go_wp2_with (first | refine wpList_built rfl 39 _ rfl _ (built_id (E : Int)) ?_)
                refine (hj.out.enter HZ.out HM.out ⟨(E : Int), 0, ⟨#[]⟩⟩).mono ?_
                rintro e w5 ⟨rfl, hj5⟩
                obtain ⟨a2, rfl⟩ : ∃ a2, a2 = a := ⟨_, rfl⟩
                obtain ⟨m2, hm2⟩ : ∃ m2, m + 1 = m2 := ⟨_, rfl⟩
                have HK := hide (show KI (E + 1) T [] (Q.set m ⟨(E : Int), 0, ⟨#[]⟩⟩) m2 by rw [← hm2]; exact hki.out.entered hj.out.gate.len HM.out)
                rw [hm2] at hj5
                have HJ := hide hj5
                have HE0 := Hek1
                clear hj5 hj e0 e1 e2 hki hm2 Hek HM
                have Hek := HE0
                go_wp2_with fail
                refine (HF9.out _ _ _ HJ.out).mono ?_
                rintro e w' ⟨rfl, rfl⟩
                clear HF9
                go_wp2_with fail
                go_loop [5, 97] (fun v j => v = .int .i64 ((T : Int)) ∧ j = .int .i64 0) (fun _ _ => 0)
                case atStart => exact ⟨rfl, rfl⟩
                case round =>
                  obtain ⟨rfl, rfl⟩ := hrel
                  have HF0 := hide (show Calls Try.prog 12 #[.pointer (some ⟨g, 0, none⟩)] _ fun e w' => e = .returned (.int .i64 a2) ∧ _ = w' by have := HJ.out.frozen; unfold rnd at this; rw [if_neg HZ.out] at this; exact this)
                  have HW0 := hide (show Calls Try.prog 14 #[.pointer (some ⟨g, 0, none⟩)] _ fun e w' => e = .returned (.int .i64 (m2 : Int)) ∧ _ = w' from HJ.out.waiting)
                  have q0 : (a2 == 0) = false := by have := HJ.out.gate.on HZ.out; simp; omega
                  have hm4 : ((m2 : Nat) : Int) ≤ 4 := by have := HJ.out.gate.few; omega
                  have hcmp : ((m2 : Int) != ((E : Int) + 1) - (T : Int)) = false := by have := HK.out.1; simp at this; simp; omega
                  go_wp2_with fail
                  refine HW0.out.mono ?_
                  rintro e w' ⟨rfl, rfl⟩
                  go_wp2_with fail
                  refine HW0.out.mono ?_
                  rintro e w' ⟨rfl, rfl⟩
                  go_wp2_with fail
                  refine HF0.out.mono ?_
                  rintro e w' ⟨rfl, rfl⟩
                  clear HF0 HW0
                  go_wp2
                  go_roundw
                  case rel => exact ⟨k + 1, (E + 1), T, _, _, _, _, Hlt.out, by go_num, by go_num, by go_num, HJ.out, HK.out.up Hek.out⟩
                  case measure => have := Hlt.out; simp [intOf]; omega
          · have q3 : (kind == 3) = false := by simpa using k3
            clear k3
            by_cases k4 : kind = 4
            · subst k4
              go_wp2_with fail
              refine hj.out.tick.mono ?_
              rintro e w5 ⟨v5, rfl, hr5, hj5⟩
              obtain ⟨a2, rfl⟩ : ∃ a2, a2 = a := ⟨_, rfl⟩
              have hkt := hki.out.ticked hj.out.gate.len hj.out.gate.few l1
              have hL4 := ticked_few (m := m) l1 hj.out.gate.len
              generalize (ticked l1 Q m).1 = L5 at *
              generalize (ticked l1 Q m).2.1 = l2 at *
              generalize (ticked l1 Q m).2.2.1 = Q2 at *
              generalize (ticked l1 Q m).2.2.2 = m2 at *
              have HJ := hide hj5
              have HKL := hide hkt
              clear hj5 hj e0 e1 e2 hki hkt
              obtain ⟨A5, c5, rfl, hlc5, hcm5, hcell5⟩ := hr5.form
              obtain ⟨m5, hm5⟩ : ∃ m5, L5.length = m5 := ⟨_, rfl⟩
              rw [hm5] at hlc5 hcell5
              rw [hm5]
              have HR5 := hide hcell5
              have HL5 := hide hm5
              have HM5 := hide (show m5 ≤ 4 by rw [← hm5]; exact hL4)
              have hm5i : (m5 : Int) ≤ 4 := by omega
              have hc5i : (m5 : Int) ≤ (c5 : Int) := by omega
              clear hr5 hcell5 hm5 hlc5 hcm5 hL4
              go_wp2_with fail
              go_loop [5, 97] (fun v j => ∃ k5 : Nat, k5 ≤ m5 ∧ v = .int .i64 ((T + k5 : Nat) : Int) ∧ j = .int .i64 (k5 : Int)) (fun _ j => m5 - (intOf j).toNat)
              case atStart => exact ⟨0, Nat.zero_le _, rfl, rfl⟩
              case round =>
                obtain ⟨k5, hk5, rfl, rfl⟩ := hrel
                rcases Nat.lt_or_ge k5 m5 with hlt5 | hge5
                · have Hlt5 := hide hlt5
                  have hki5 : (k5 : Int) < (m5 : Int) := by omega
                  obtain ⟨x5, hx5⟩ : ∃ x, L5[k5]? = some x := ⟨_, List.getElem?_eq_getElem (by rw [HL5.out]; exact hlt5)⟩
                  obtain ⟨b5, rfl, _, _, hc5⟩ := HR5.out (by omega)
                  have hid5 := HKL.out.2.1 k5 x5 hx5
                  have hcc5 := (hc5 k5 x5 hx5).1
                  obtain ⟨T5, hT5⟩ : ∃ T5, T + k5 = T5 := ⟨_, rfl⟩
                  rw [hid5, show ((T : Int) + (k5 : Int)) = ((T5 : Nat) : Int) by omega] at hcc5
                  rw [hT5]
                  have hT5i : (T5 : Int) ≤ 400 := by omega
                  have q5 : ((T5 : Int) != (T5 : Int)) = false := by simp
                  have HT5 := hide hT5
                  clear hx5 hid5 hT5 hc5 hlt5 hk5
                  go_wp2
                  go_round
                  case rel => exact ⟨k5 + 1, Hlt5.out, by rw [show T + (k5 + 1) = T5 + 1 by have := HT5.out; omega]; go_num, by go_num⟩
                  case measure => have := Hlt5.out; simp [intOf]; omega
                · obtain rfl : k5 = m5 := by omega
                  obtain ⟨T5, hT5⟩ : ∃ T5, T + k5 = T5 := ⟨_, rfl⟩
                  rw [hT5]
                  have hT5i : (T5 : Int) ≤ 400 := by omega
                  have hkk : ¬ (k5 : Int) < (k5 : Int) := by omega
                  have HK := hide (show KI E T5 [] Q2 m2 by rw [← hT5, ← HL5.out]; exact HKL.out.told)
                  clear hT5 hge5 hk5 HKL HR5 HL5 HM5
                  go_wp2_with fail
                  by_cases z : l2 = 0
                  · subst z
                    obtain rfl : m2 = 0 := HJ.out.gate.idle rfl
                    have HF0 := hide (show Calls Try.prog 12 #[.pointer (some ⟨g, 0, none⟩)] _ fun e w' => e = .returned (.int .i64 0) ∧ _ = w' from HJ.out.frozen)
                    have HW0 := hide (show Calls Try.prog 14 #[.pointer (some ⟨g, 0, none⟩)] _ fun e w' => e = .returned (.int .i64 0) ∧ _ = w' from HJ.out.waiting)
                    have hcmp : ((0 : Int) != (E : Int) - (T5 : Int)) = false := by have := HK.out.1; simp at this; simp <;> omega
                    go_wp2_with fail
                    refine HW0.out.mono ?_
                    rintro e w' ⟨rfl, rfl⟩
                    go_wp2_with fail
                    refine HW0.out.mono ?_
                    rintro e w' ⟨rfl, rfl⟩
                    go_wp2_with fail
                    refine HF0.out.mono ?_
                    rintro e w' ⟨rfl, rfl⟩
                    go_wp2_with fail
                    refine HW0.out.mono ?_
                    rintro e w' ⟨rfl, rfl⟩
                    clear HF0 HW0
                    go_wp2
                    go_roundw
                    case rel => exact ⟨k + 1, E, T5, _, _, _, _, Hlt.out, by go_num, by go_num, by go_num, HJ.out, HK.out.up Hek.out⟩
                    case measure => have := Hlt.out; simp [intOf]; omega
                  · have HZ := hide z
                    clear z
                    have HF0 := hide (show Calls Try.prog 12 #[.pointer (some ⟨g, 0, none⟩)] _ fun e w' => e = .returned (.int .i64 a2) ∧ _ = w' by have := HJ.out.frozen; unfold rnd at this; rw [if_neg HZ.out] at this; exact this)
                    have HW0 := hide (show Calls Try.prog 14 #[.pointer (some ⟨g, 0, none⟩)] _ fun e w' => e = .returned (.int .i64 (m2 : Int)) ∧ _ = w' from HJ.out.waiting)
                    have q0 : (a2 == 0) = false := by have := HJ.out.gate.on HZ.out; simp; omega
                    have hm4 : ((m2 : Nat) : Int) ≤ 4 := by have := HJ.out.gate.few; omega
                    have hcmp : ((m2 : Int) != (E : Int) - (T5 : Int)) = false := by have := HK.out.1; simp at this; simp; omega
                    go_wp2_with fail
                    refine HW0.out.mono ?_
                    rintro e w' ⟨rfl, rfl⟩
                    go_wp2_with fail
                    refine HW0.out.mono ?_
                    rintro e w' ⟨rfl, rfl⟩
                    go_wp2_with fail
                    refine HF0.out.mono ?_
                    rintro e w' ⟨rfl, rfl⟩
                    clear HF0 HW0
                    go_wp2
                    go_roundw
                    case rel => exact ⟨k + 1, E, T5, _, _, _, _, Hlt.out, by go_num, by go_num, by go_num, HJ.out, HK.out.up Hek.out⟩
                    case measure => have := Hlt.out; simp [intOf]; omega
            · have q4 : (kind == 4) = false := by simpa using k4
              clear k4
              obtain ⟨a2, rfl⟩ : ∃ a2, a2 = a := ⟨_, rfl⟩
              obtain ⟨l2, rfl⟩ : ∃ l2, l2 = l1 := ⟨_, rfl⟩
              have HJ := hj
              clear hj e1 e2
              obtain ⟨Q2, rfl⟩ : ∃ Q2, Q2 = Q := ⟨_, rfl⟩
              obtain ⟨m2, rfl⟩ : ∃ m2, m2 = m := ⟨_, rfl⟩
              have HK := hki
              go_wp2_with fail
              go_loop [5, 97] (fun v j => v = .int .i64 ((T : Int)) ∧ j = .int .i64 0) (fun _ _ => 0)
              case atStart => exact ⟨rfl, rfl⟩
              case round =>
                obtain ⟨rfl, rfl⟩ := hrel
                by_cases z : l2 = 0
                · subst z
                  obtain rfl : m2 = 0 := HJ.out.gate.idle rfl
                  have HF0 := hide (show Calls Try.prog 12 #[.pointer (some ⟨g, 0, none⟩)] _ fun e w' => e = .returned (.int .i64 0) ∧ _ = w' from HJ.out.frozen)
                  have HW0 := hide (show Calls Try.prog 14 #[.pointer (some ⟨g, 0, none⟩)] _ fun e w' => e = .returned (.int .i64 0) ∧ _ = w' from HJ.out.waiting)
                  have hcmp : ((0 : Int) != (E : Int) - (T : Int)) = false := by have := HK.out.1; simp at this; simp <;> omega
                  go_wp2_with fail
                  refine HW0.out.mono ?_
                  rintro e w' ⟨rfl, rfl⟩
                  go_wp2_with fail
                  refine HW0.out.mono ?_
                  rintro e w' ⟨rfl, rfl⟩
                  go_wp2_with fail
                  refine HF0.out.mono ?_
                  rintro e w' ⟨rfl, rfl⟩
                  go_wp2_with fail
                  refine HW0.out.mono ?_
                  rintro e w' ⟨rfl, rfl⟩
                  clear HF0 HW0
                  go_wp2
                  go_roundw
                  case rel => exact ⟨k + 1, E, T, _, _, _, _, Hlt.out, by go_num, by go_num, by go_num, HJ.out, HK.out.up Hek.out⟩
                  case measure => have := Hlt.out; simp [intOf]; omega
                · have HZ := hide z
                  clear z
                  have HF0 := hide (show Calls Try.prog 12 #[.pointer (some ⟨g, 0, none⟩)] _ fun e w' => e = .returned (.int .i64 a2) ∧ _ = w' by have := HJ.out.frozen; unfold rnd at this; rw [if_neg HZ.out] at this; exact this)
                  have HW0 := hide (show Calls Try.prog 14 #[.pointer (some ⟨g, 0, none⟩)] _ fun e w' => e = .returned (.int .i64 (m2 : Int)) ∧ _ = w' from HJ.out.waiting)
                  have q0 : (a2 == 0) = false := by have := HJ.out.gate.on HZ.out; simp; omega
                  have hm4 : ((m2 : Nat) : Int) ≤ 4 := by have := HJ.out.gate.few; omega
                  have hcmp : ((m2 : Int) != (E : Int) - (T : Int)) = false := by have := HK.out.1; simp at this; simp; omega
                  go_wp2_with fail
                  refine HW0.out.mono ?_
                  rintro e w' ⟨rfl, rfl⟩
                  go_wp2_with fail
                  refine HW0.out.mono ?_
                  rintro e w' ⟨rfl, rfl⟩
                  go_wp2_with fail
                  refine HF0.out.mono ?_
                  rintro e w' ⟨rfl, rfl⟩
                  clear HF0 HW0
                  go_wp2
                  go_roundw
                  case rel => exact ⟨k + 1, E, T, _, _, _, _, Hlt.out, by go_num, by go_num, by go_num, HJ.out, HK.out.up Hek.out⟩
                  case measure => have := Hlt.out; simp [intOf]; omega
    · have hkn : ¬ ((k : Int) < (n : Int)) := by omega
      have HB := hide (HB1.out.trans (hj.out.bel.mono HB1.out.size))
      clear hj hge hk hkb
      go_wp2
      go_ret
      exact ⟨rfl, HB.out⟩

set_option maxRecDepth 100000 in
set_option maxHeartbeats 2000000 in
theorem Keeps_any (A : Option Addr) (n cp : Nat) (l : List Oq) (w : World) (hl : l.length = n) (hp : Ops w w.heap.size A l) (hf : OFits l) :
    Calls Try.prog 3 #[.slice A n cp] w fun e w' => e = .returned (.bool true) ∧ Below w.heap.size w w' := by
  by_cases hfew : Few l
  · exact Keeps_good A n cp l w hl hp hf hfew
  · have Hl := hide hl
    have Hp := hide hp
    have Hf := hide hf
    have Hfew := hide hfew
    clear hl hp hf hfew
    go_enter Try.func3, Try.ntmps3
    go_wp2_with fail
    refine (awake_any w).mono ?_
    rintro e w1 ⟨rfl, hb1⟩
    have HB1 := hide hb1
    clear hb1
    go_wp2_with fail
    refine (few_any A n cp l w1 Hl.out ((Hp.out.below HB1.out).more1 HB1.out.size) Hf.out).mono ?_
    rintro e w' ⟨⟨b, rfl, hb⟩, rfl⟩
    obtain rfl : b = false := by cases b; rfl; exact absurd (hb.1 rfl) Hfew.out
    clear hb
    go_wp2_with fail
    refine (awake_any w1).mono ?_
    rintro e w2 ⟨rfl, hb2⟩
    have HB2 := hide (HB1.out.trans (hb2.mono HB1.out.size))
    clear hb2
    go_wp2
    go_ret
    exact ⟨rfl, HB2.out⟩

end Go.Proofs.Ytjholhmgainbfaa.Ga
