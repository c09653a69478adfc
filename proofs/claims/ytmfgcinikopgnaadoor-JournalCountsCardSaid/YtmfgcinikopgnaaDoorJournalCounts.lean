/-
  Proved: the statement JournalCounts: for every ring and every script it returns true, and its arguments read as before. Condition: the package variable halves reads as the program's own text lays it (the card ties it).
-/
import Derived.BigQuiet
import Derived.Deep.RegionHeld3
import Derived.Test.YtmfgcinikopgnaaDoorJnE
import Derived.Test.YtmfgcinikopgnaaDoorTie
import Derived.Test.YtmfgcinikopgnaaDoorCards
import Derived.Test.YtmfgcinikopgnaaDoorRcLift
import Derived.Test.YtmfgcinikopgnaaDoorJnC
import Derived.SevenTiedAt

/-
  JournalCounts at every ring and every script: it returns true, and changes nothing that was there. Condition: the table of half bytes holds what the program's own text lays.
-/
namespace Go.Proofs.YtmfgcinikopgnaaDoor.Jn
open Go.RowKit
open Pk Sm Fa Rc Dk

set_option maxRecDepth 100000 in
set_option maxHeartbeats 4000000 in
theorem Counts_good (ring : Nat) (A : Option Addr) (n c : Nat) (l : List Oq) (w : World) (ht : Tab w) (hring : ring < 256) (hl : l.length = n) (hp : Ops w w.heap.size A l) (hf : OFits l) (hfew : Few l) :
    Calls Tryd.prog 6 #[.int .u8 (ring : Int), .slice A n c] w fun e w' => e = .returned (.bool true) ∧ Below w.heap.size w w' := by
  obtain ⟨r, hr⟩ : ∃ r, ring % 16 = r := ⟨_, rfl⟩
  have hrem := rem16 ring
  rw [hr] at hrem
  obtain ⟨nn, hnn⟩ : ∃ nn, 1 + r = nn := ⟨_, rfl⟩
  have h1 : (1 : Int) + (r : Int) = (nn : Int) := by omega
  have h2 : (2 : Int) + (nn : Int) = ((2 + nn : Nat) : Int) := by omega
  obtain ⟨N, hN⟩ : ∃ N, 2 + nn = N := ⟨_, rfl⟩
  rw [hN] at h2
  have hringi : (ring : Int) < 256 := by omega
  have hr16 : (r : Int) < 16 := by omega
  have hnn16 : (nn : Int) ≤ 16 := by omega
  have HNW := fun w => hide (New_any (N : Int) N w (by omega))
  have HT := hide ht
  have Hnn := hide (show 1 ≤ nn ∧ nn ≤ 16 by omega)
  have HNN := hide hN
  have Hl := hide hl
  have Hp := hide hp
  have Hf := hide hf
  have Hfew := hide hfew
  have Hn := hide (show n ≤ 80 by rw [← hl]; exact hfew.1)
  clear ht hl hp hf hfew hr hnn hN hring
  go_enter Tryd.func6, Tryd.ntmps6
  go_wp2_with fail
  refine (awake_any w HT.out).mono ?_
  rintro e w1 ⟨rfl, hb1⟩
  have HB1 := hide hb1
  have HT1 := hide (HT.out.below hb1 HT.out.pos)
  clear hb1
  go_wp2_with fail
  refine (few_any A n c l w1 Hl.out ((Hp.out.below HB1.out).more1 HB1.out.size) Hf.out).mono ?_
  rintro e w' ⟨⟨b, rfl, hb⟩, rfl⟩
  obtain rfl : b = true := hb.2 Hfew.out
  clear hb
  have HRO := hide ((Hp.out.below HB1.out).more1 HB1.out.size)
  go_wp2_with fail
  refine (HNW w1).out.mono ?_
  rintro e w2 ⟨q, D, rfl, hd, hD, hb2⟩
  have HO := hide (JS.start (R := fun _ => False) (n := nn) hd HT1.out hD hb2 (fun k hk => hk.elim) Hnn.out.1 (by have := Hnn.out.2; omega) (by rw [HNN.out]; exact Nat.le_refl _))
  clear hd hD hb2 HNW
  go_wp2_with fail
  refine HO.out.mono ?_
  rintro e w3 ⟨p, rfl, hj, _⟩
  have HJ3 := hide (show JN w1 p q nn 1 nn 1 w3 from ⟨_, _, _, hj, rfl, Nat.zero_add _⟩)
  clear hj HO
  go_wp2
  go_loopw [40] (fun j wr => ∃ (k nx rm : Nat), k ≤ n ∧ j = .int .i64 k ∧ Hid (JN w1 p q nn nx rm (1 + k) wr)) (fun j _ => n - (intOf j).toNat)
  case atStart => exact ⟨0, 1, nn, Nat.zero_le _, rfl, HJ3.out⟩
  case round =>
    clear HJ3
    obtain ⟨k, nx, rm, hk, rfl, hj⟩ := hrel
    have hn80 : n ≤ 80 := Hn.out
    rcases Nat.lt_or_ge k n with hlt | hge
    · have Hlt := hide hlt
      have hki : (k : Int) < (n : Int) := by omega
      have hn80i : (n : Int) ≤ 80 := by omega
      have HTT := hide (show 1 + k + 1 ≤ 1000 by omega)
      have hnx2 : (nx : Int) ≤ 1001 := by have := hj.out.lim.1; omega
      have hrm2 : (rm : Int) ≤ 20 := by have := hj.out.lim.2; omega
      obtain ⟨o, hok⟩ : ∃ o, l[k]? = some o := ⟨_, List.getElem?_eq_getElem (by rw [Hl.out]; exact hlt)⟩
      have Hok := hide hok
      have hfit := Hf.out o (List.mem_of_getElem? hok)
      obtain ⟨kind, on, os, okk, ob, od, om, keep⟩ := o
      have Hd := hide (show od.size ≤ 9223372036854775807 from hfit.2.2.1.2.2.2.1)
      have Hon := hide (show Int64 on from hfit.2.1)
      clear hok hfit hlt hn80 hk
      go_wp2_with fail
      refine (hj.out.next).mono ?_
      rintro e w3 ⟨rfl, hb3⟩
      have HJ3 := hide (hj.out.below hb3)
      clear hb3 hj
      go_wp2_with fail
      refine (HJ3.out.room).mono ?_
      rintro e w4 ⟨rfl, hb4⟩
      have HJ4 := hide (HJ3.out.below hb4)
      clear hb4 HJ3
      obtain ⟨b, off, rfl, hat⟩ := (HRO.out.below HJ4.out.bel).at_ Hok.out
      obtain ⟨e0, e1, ⟨e2, e3, e4, e5, e6⟩, e7⟩ := hat
      simp only at e0 e1 e2 e3 e4 e5 e6 e7
      rw [Nat.add_assoc (off + k * 8) 2 1] at e3
      rw [Nat.add_assoc (off + k * 8) 2 2] at e4
      rw [Nat.add_assoc (off + k * 8) 2 3] at e5
      rw [Nat.add_assoc (off + k * 8) 2 4] at e6
      by_cases k1 : kind = 1
      · subst k1
        go_wp2_with fail
        refine (HJ4.out.append HT1.out HTT.out Hd.out).mono ?_
        rintro e w5 (⟨nx2, rm2, rfl, hnx', hrm', hj5⟩ | ⟨pp, rfl, hj5⟩)
        · have HJ5 := hide hj5
          clear hj5 e0 e1 e2 e3 e4 e5 e6 e7 HJ4
          go_wp2_with fail
          refine (HJ5.out.next).mono ?_
          rintro e w6 ⟨rfl, hb6⟩
          have HJ6 := hide (HJ5.out.below hb6)
          clear hb6 HJ5
          go_wp2_with fail
          refine (HJ6.out.room).mono ?_
          rintro e w7 ⟨rfl, hb7⟩
          have HJ7 := hide (HJ6.out.below hb7)
          clear hb7 HJ6
          go_wp2_with fail
          refine (HJ7.out.records).mono ?_
          rintro e w10 ⟨A10, m10, c10, rfl, hm10, hmn, hmc, hsr, hb10⟩
          have HJ10 := hide (HJ7.out.below hb10)
          have HS10 := hide hsr
          have hlim10 := HJ7.out.lim
          have hm20 : (m10 : Int) ≤ 20 := by have := hlim10.2.2; omega
          have hnx3 : (nx2 : Int) ≤ 1001 := by have := hlim10.1; omega
          have hmn3 : (m10 : Int) ≤ (nx2 : Int) := by omega
          have hmc3 : (m10 : Int) ≤ (c10 : Int) := by omega
          have hrm3 : (rm2 : Int) ≤ (nn : Int) := by have := hlim10.2.1; omega
          clear hsr hb10 HJ7 hlim10 hmn hmc
          go_wp2_with fail
          refine (HJ10.out.room).mono ?_
          rintro e w11 ⟨rfl, hb11⟩
          have HJ11 := hide (HJ10.out.below hb11)
          have HS11 := hide (HS10.out.below hb11)
          clear hb11 HJ10 HS10
          go_wp2
          go_loopw [155] (fun j2 wr2 => ∃ (k2 : Nat), k2 ≤ m10 ∧ j2 = .int .i64 k2 ∧ Hid (JN w1 p q nn nx2 rm2 (1 + k + 1) wr2) ∧ Hid (SeqRow wr2 A10 m10 nx2)) (fun j2 _ => m10 - (intOf j2).toNat)
          case atStart => exact ⟨0, Nat.zero_le _, rfl, HJ11.out, HS11.out⟩
          case round =>
            clear HJ11 HS11
            obtain ⟨k2, hk2, rfl, hj2, hsr⟩ := hrel
            rcases Nat.lt_or_ge k2 m10 with hlt2 | hge2
            · have Hlt2 := hide hlt2
              have hk2i : (k2 : Int) < (m10 : Int) := by omega
              obtain ⟨g, rfl, hgl, hg0'⟩ := hsr.out k2 hlt2
              have hg0 : wr.drew.cell? ⟨g, k2 * 5, none⟩ = some (.int .i64 ((nx2 - m10 + k2 : Nat) : Int)) := hg0'
              obtain ⟨sq, hsq⟩ : ∃ sq, nx2 - m10 + k2 = sq := ⟨_, rfl⟩
              have Hsq := hide hsq
              rw [hsq] at hg0
              have hsqi : (nx2 : Int) - (m10 : Int) + (k2 : Int) = (sq : Int) := by omega
              have hS0 : wr.drew.cell? ⟨g, k2 * 5, none⟩ = some (.int .i64 (sq : Int)) := hg0
              have hcmp : ((sq : Int) != IntKind.i64.wrap (IntKind.i64.wrap ((nx2 : Int) - (m10 : Int)) + (k2 : Int))) = false := by
                have e1 : IntKind.i64.wrap ((nx2 : Int) - (m10 : Int)) = (nx2 : Int) - (m10 : Int) := by rw [IntKind.wrap_i64]; omega
                have e2 : IntKind.i64.wrap ((nx2 : Int) - (m10 : Int) + (k2 : Int)) = (sq : Int) := by rw [IntKind.wrap_i64]; omega
                rw [e1, e2]
                simp
              clear hlt2 hsq hg0 hg0' hgl
              go_wp2
              refine wp_region_held (S := (fun W => W.cell? ⟨g, k2 * 5, none⟩ = some (.int .i64 (sq : Int)))) (by kernel_rfl) ?_
              change wpAnyH _ _ _ _ _ _ _ _ (World.drew _)
              refine wpAnyH_take (i := 0) (oi := ⟨some 158, _, _, _, _, _⟩) (v := ?_) rfl (by kernel_rfl) (by kernel_rfl) (by kernel_rfl) (fun _ _ _ h => h) (Or.inl ⟨by rfl, ?_⟩) hS0 ?_
              rotate_left 1
              · (intro w hSw; obtain hSw1 := hSw; go_simp; try with_reducible rfl)
              simp only [Act.put, List.setIfInBounds_toArray, List.set_cons_zero, List.set_cons_succ]
              refine wpAnyH_take (i := 1) (oi := ⟨some 159, _, _, _, _, _⟩) (v := ?_) rfl (by kernel_rfl) (by kernel_rfl) (by kernel_rfl) (fun _ _ _ h => h) (Or.inl ⟨by rfl, ?_⟩) hS0 ?_
              rotate_left 1
              · (intro w hSw; obtain hSw1 := hSw; go_simp; try with_reducible rfl)
              simp only [Act.put, List.setIfInBounds_toArray, List.set_cons_zero, List.set_cons_succ]
              refine wpAnyH_take (i := 2) (oi := ⟨some 160, _, _, _, _, _⟩) (v := ?_) rfl (by kernel_rfl) (by kernel_rfl) (by kernel_rfl) (fun _ _ _ h => h) (Or.inl ⟨by rfl, ?_⟩) hS0 ?_
              rotate_left 1
              · (intro w hSw; obtain hSw1 := hSw; go_simp; try with_reducible rfl)
              simp only [Act.put, List.setIfInBounds_toArray, List.set_cons_zero, List.set_cons_succ]
              refine wpAnyH_take (i := 3) (oi := ⟨some 161, _, _, _, _, _⟩) (v := ?_) rfl (by kernel_rfl) (by kernel_rfl) (by kernel_rfl) (fun _ _ _ h => h) (Or.inl ⟨by rfl, ?_⟩) hS0 ?_
              rotate_left 1
              · (intro w hSw; obtain hSw1 := hSw; go_simp; try with_reducible rfl)
              simp only [Act.put, List.setIfInBounds_toArray, List.set_cons_zero, List.set_cons_succ]
              refine wpAnyH_take (i := 4) (oi := ⟨some 162, _, _, _, _, _⟩) (v := ?_) rfl (by kernel_rfl) (by kernel_rfl) (by kernel_rfl) (fun _ _ _ h => h) (Or.inl ⟨by rfl, ?_⟩) hS0 ?_
              rotate_left 1
              · (intro w hSw; obtain hSw1 := hSw; go_simp; try with_reducible rfl)
              simp only [Act.put, List.setIfInBounds_toArray, List.set_cons_zero, List.set_cons_succ]
              refine wpAnyH_take (i := 5) (oi := ⟨some 163, _, _, _, _, _⟩) (v := ?_) rfl (by kernel_rfl) (by kernel_rfl) (by kernel_rfl) (fun _ _ _ h => h) (Or.inl ⟨by rfl, ?_⟩) hS0 ?_
              rotate_left 1
              · (intro w hSw; obtain hSw1 := hSw; go_simp; try with_reducible rfl)
              simp only [Act.put, List.setIfInBounds_toArray, List.set_cons_zero, List.set_cons_succ]
              refine wpAnyH_take (i := 7) (oi := ⟨some 165, _, _, _, _, _⟩) (v := ?_) rfl (by kernel_rfl) (by kernel_rfl) (by kernel_rfl) (fun _ _ _ h => h) (Or.inl ⟨by rfl, ?_⟩) hS0 ?_
              rotate_left 1
              · (intro w hSw; obtain hSw1 := hSw; go_simp; try with_reducible rfl)
              simp only [Act.put, List.setIfInBounds_toArray, List.set_cons_zero, List.set_cons_succ]
              refine wpAnyH_take (i := 8) (oi := ⟨some 166, _, _, _, _, _⟩) (v := ?_) rfl (by kernel_rfl) (by kernel_rfl) (by kernel_rfl) (fun _ _ _ h => h) (Or.inl ⟨by rfl, ?_⟩) hS0 ?_
              rotate_left 1
              · (intro w hSw; obtain hSw1 := hSw; go_simp; try with_reducible rfl)
              simp only [Act.put, List.setIfInBounds_toArray, List.set_cons_zero, List.set_cons_succ]
              refine wpAnyH_take (i := 10) (oi := ⟨some 168, _, _, _, _, _⟩) (v := ?_) rfl (by kernel_rfl) (by kernel_rfl) (by kernel_rfl) (fun _ _ _ h => h) (Or.inl ⟨by rfl, ?_⟩) hS0 ?_
              rotate_left 1
              · (intro w hSw; obtain hSw1 := hSw; go_simp; try with_reducible rfl)
              simp only [Act.put, List.setIfInBounds_toArray, List.set_cons_zero, List.set_cons_succ]
              refine wpAnyH_ready (rs := [6]) (by kernel_rfl) (by simp) ?_
              refine AllReadyH.cons (o := ⟨some 164, _, _, _, _, _⟩) rfl (fun K hK => ?_) AllReadyH.nil
              go_simp
              refine (hj2.out.drew.next).mono ?_
              rintro e w12 ⟨rfl, hb12⟩
              have HJ12 := hide (hj2.out.drew.below hb12)
              have HSR12 := hide ((hsr.out.below (Below.refl _ _).drew).below hb12)
              have hS12 : w12.cell? ⟨g, k2 * 5, none⟩ = some (.int .i64 (sq : Int)) := by obtain ⟨g2, e2, _, hc2⟩ := HSR12.out k2 Hlt2.out; cases e2; rw [Hsq.out] at hc2; exact hc2
              clear hb12
              refine hK.out _ _ hS12 (fun hHeld => ?_)
              clear hK K
              clear hHeld
              refine wpAnyH_take (i := 9) (oi := ⟨some 167, _, _, _, _, _⟩) (v := ?_) rfl (by kernel_rfl) (by kernel_rfl) (by kernel_rfl) (fun _ _ _ h => h) (Or.inl ⟨by rfl, ?_⟩) hS12 ?_
              rotate_left 1
              · (intro w hSw; obtain hSw1 := hSw; go_simp; try with_reducible rfl)
              simp only [Act.put, List.setIfInBounds_toArray, List.set_cons_zero, List.set_cons_succ]
              refine wpAnyH_take (i := 11) (oi := ⟨some 169, _, _, _, _, _⟩) (v := ?_) rfl (by kernel_rfl) (by kernel_rfl) (by kernel_rfl) (fun _ _ _ h => h) (Or.inl ⟨by rfl, ?_⟩) hS12 ?_
              rotate_left 1
              · (intro w hSw; obtain hSw1 := hSw; go_simp; try with_reducible rfl)
              simp only [Act.put, List.setIfInBounds_toArray, List.set_cons_zero, List.set_cons_succ]
              refine wpAnyH_take (i := 12) (oi := ⟨some 170, _, _, _, _, _⟩) (v := ?_) rfl (by kernel_rfl) (by kernel_rfl) (by kernel_rfl) (fun _ _ _ h => h) (Or.inl ⟨by rfl, ?_⟩) hS12 ?_
              rotate_left 1
              · (intro w hSw; obtain hSw1 := hSw; go_simp; try with_reducible rfl)
              simp only [Act.put, List.setIfInBounds_toArray, List.set_cons_zero, List.set_cons_succ]
              refine wpAnyH_done (by kernel_rfl) ?_ _
              clear hS0 hS12
              go_wp2
              go_roundw
              case rel => exact ⟨k2 + 1, Hlt2.out, by go_num, HJ12.out, HSR12.out⟩
              case measure => have := Hlt2.out; simp [intOf]; omega
            · have hk2m : ¬ ((k2 : Int) < (m10 : Int)) := by omega
              clear hge2 hk2 hsr
              go_wp2
              go_roundw
              case rel => exact ⟨k + 1, nx2, rm2, Hlt.out, by go_num, by rw [show 1 + (k + 1) = 1 + k + 1 by omega]; exact hj2.out⟩
              case measure => have := Hlt.out; simp [intOf]; omega
        · have HJ5 := hide hj5
          clear hj5 e0 e1 e2 e3 e4 e5 e6 e7 HJ4
          go_wp2_with fail
          refine (HJ5.out.next).mono ?_
          rintro e w6 ⟨rfl, hb6⟩
          have HJ6 := hide (HJ5.out.below hb6)
          clear hb6 HJ5
          go_wp2_with fail
          refine (HJ6.out.room).mono ?_
          rintro e w7 ⟨rfl, hb7⟩
          have HJ7 := hide (HJ6.out.below hb7)
          clear hb7 HJ6
          go_wp2_with fail
          refine (HJ7.out.records).mono ?_
          rintro e w10 ⟨A10, m10, c10, rfl, hm10, hmn, hmc, hsr, hb10⟩
          have HJ10 := hide (HJ7.out.below hb10)
          have HS10 := hide hsr
          have hlim10 := HJ7.out.lim
          have hm20 : (m10 : Int) ≤ 20 := by have := hlim10.2.2; omega
          have hnx3 : (nx : Int) ≤ 1001 := by have := hlim10.1; omega
          have hmn3 : (m10 : Int) ≤ (nx : Int) := by omega
          have hmc3 : (m10 : Int) ≤ (c10 : Int) := by omega
          have hrm3 : (rm : Int) ≤ (nn : Int) := by have := hlim10.2.1; omega
          clear hsr hb10 HJ7 hlim10 hmn hmc
          go_wp2_with fail
          refine (HJ10.out.room).mono ?_
          rintro e w11 ⟨rfl, hb11⟩
          have HJ11 := hide (HJ10.out.below hb11)
          have HS11 := hide (HS10.out.below hb11)
          clear hb11 HJ10 HS10
          go_wp2
          go_loopw [155] (fun j2 wr2 => ∃ (k2 : Nat), k2 ≤ m10 ∧ j2 = .int .i64 k2 ∧ Hid (JN w1 p q nn nx rm (1 + k + 1) wr2) ∧ Hid (SeqRow wr2 A10 m10 nx)) (fun j2 _ => m10 - (intOf j2).toNat)
          case atStart => exact ⟨0, Nat.zero_le _, rfl, HJ11.out, HS11.out⟩
          case round =>
            clear HJ11 HS11
            obtain ⟨k2, hk2, rfl, hj2, hsr⟩ := hrel
            rcases Nat.lt_or_ge k2 m10 with hlt2 | hge2
            · have Hlt2 := hide hlt2
              have hk2i : (k2 : Int) < (m10 : Int) := by omega
              obtain ⟨g, rfl, hgl, hg0'⟩ := hsr.out k2 hlt2
              have hg0 : wr.drew.cell? ⟨g, k2 * 5, none⟩ = some (.int .i64 ((nx - m10 + k2 : Nat) : Int)) := hg0'
              obtain ⟨sq, hsq⟩ : ∃ sq, nx - m10 + k2 = sq := ⟨_, rfl⟩
              have Hsq := hide hsq
              rw [hsq] at hg0
              have hsqi : (nx : Int) - (m10 : Int) + (k2 : Int) = (sq : Int) := by omega
              have hS0 : wr.drew.cell? ⟨g, k2 * 5, none⟩ = some (.int .i64 (sq : Int)) := hg0
              have hcmp : ((sq : Int) != IntKind.i64.wrap (IntKind.i64.wrap ((nx : Int) - (m10 : Int)) + (k2 : Int))) = false := by
                have e1 : IntKind.i64.wrap ((nx : Int) - (m10 : Int)) = (nx : Int) - (m10 : Int) := by rw [IntKind.wrap_i64]; omega
                have e2 : IntKind.i64.wrap ((nx : Int) - (m10 : Int) + (k2 : Int)) = (sq : Int) := by rw [IntKind.wrap_i64]; omega
                rw [e1, e2]
                simp
              clear hlt2 hsq hg0 hg0' hgl
              go_wp2
              refine wp_region_held (S := (fun W => W.cell? ⟨g, k2 * 5, none⟩ = some (.int .i64 (sq : Int)))) (by kernel_rfl) ?_
              change wpAnyH _ _ _ _ _ _ _ _ (World.drew _)
              refine wpAnyH_take (i := 0) (oi := ⟨some 158, _, _, _, _, _⟩) (v := ?_) rfl (by kernel_rfl) (by kernel_rfl) (by kernel_rfl) (fun _ _ _ h => h) (Or.inl ⟨by rfl, ?_⟩) hS0 ?_
              rotate_left 1
              · (intro w hSw; obtain hSw1 := hSw; go_simp; try with_reducible rfl)
              simp only [Act.put, List.setIfInBounds_toArray, List.set_cons_zero, List.set_cons_succ]
              refine wpAnyH_take (i := 1) (oi := ⟨some 159, _, _, _, _, _⟩) (v := ?_) rfl (by kernel_rfl) (by kernel_rfl) (by kernel_rfl) (fun _ _ _ h => h) (Or.inl ⟨by rfl, ?_⟩) hS0 ?_
              rotate_left 1
              · (intro w hSw; obtain hSw1 := hSw; go_simp; try with_reducible rfl)
              simp only [Act.put, List.setIfInBounds_toArray, List.set_cons_zero, List.set_cons_succ]
              refine wpAnyH_take (i := 2) (oi := ⟨some 160, _, _, _, _, _⟩) (v := ?_) rfl (by kernel_rfl) (by kernel_rfl) (by kernel_rfl) (fun _ _ _ h => h) (Or.inl ⟨by rfl, ?_⟩) hS0 ?_
              rotate_left 1
              · (intro w hSw; obtain hSw1 := hSw; go_simp; try with_reducible rfl)
              simp only [Act.put, List.setIfInBounds_toArray, List.set_cons_zero, List.set_cons_succ]
              refine wpAnyH_take (i := 3) (oi := ⟨some 161, _, _, _, _, _⟩) (v := ?_) rfl (by kernel_rfl) (by kernel_rfl) (by kernel_rfl) (fun _ _ _ h => h) (Or.inl ⟨by rfl, ?_⟩) hS0 ?_
              rotate_left 1
              · (intro w hSw; obtain hSw1 := hSw; go_simp; try with_reducible rfl)
              simp only [Act.put, List.setIfInBounds_toArray, List.set_cons_zero, List.set_cons_succ]
              refine wpAnyH_take (i := 4) (oi := ⟨some 162, _, _, _, _, _⟩) (v := ?_) rfl (by kernel_rfl) (by kernel_rfl) (by kernel_rfl) (fun _ _ _ h => h) (Or.inl ⟨by rfl, ?_⟩) hS0 ?_
              rotate_left 1
              · (intro w hSw; obtain hSw1 := hSw; go_simp; try with_reducible rfl)
              simp only [Act.put, List.setIfInBounds_toArray, List.set_cons_zero, List.set_cons_succ]
              refine wpAnyH_take (i := 5) (oi := ⟨some 163, _, _, _, _, _⟩) (v := ?_) rfl (by kernel_rfl) (by kernel_rfl) (by kernel_rfl) (fun _ _ _ h => h) (Or.inl ⟨by rfl, ?_⟩) hS0 ?_
              rotate_left 1
              · (intro w hSw; obtain hSw1 := hSw; go_simp; try with_reducible rfl)
              simp only [Act.put, List.setIfInBounds_toArray, List.set_cons_zero, List.set_cons_succ]
              refine wpAnyH_take (i := 7) (oi := ⟨some 165, _, _, _, _, _⟩) (v := ?_) rfl (by kernel_rfl) (by kernel_rfl) (by kernel_rfl) (fun _ _ _ h => h) (Or.inl ⟨by rfl, ?_⟩) hS0 ?_
              rotate_left 1
              · (intro w hSw; obtain hSw1 := hSw; go_simp; try with_reducible rfl)
              simp only [Act.put, List.setIfInBounds_toArray, List.set_cons_zero, List.set_cons_succ]
              refine wpAnyH_take (i := 8) (oi := ⟨some 166, _, _, _, _, _⟩) (v := ?_) rfl (by kernel_rfl) (by kernel_rfl) (by kernel_rfl) (fun _ _ _ h => h) (Or.inl ⟨by rfl, ?_⟩) hS0 ?_
              rotate_left 1
              · (intro w hSw; obtain hSw1 := hSw; go_simp; try with_reducible rfl)
              simp only [Act.put, List.setIfInBounds_toArray, List.set_cons_zero, List.set_cons_succ]
              refine wpAnyH_take (i := 10) (oi := ⟨some 168, _, _, _, _, _⟩) (v := ?_) rfl (by kernel_rfl) (by kernel_rfl) (by kernel_rfl) (fun _ _ _ h => h) (Or.inl ⟨by rfl, ?_⟩) hS0 ?_
              rotate_left 1
              · (intro w hSw; obtain hSw1 := hSw; go_simp; try with_reducible rfl)
              simp only [Act.put, List.setIfInBounds_toArray, List.set_cons_zero, List.set_cons_succ]
              refine wpAnyH_ready (rs := [6]) (by kernel_rfl) (by simp) ?_
              refine AllReadyH.cons (o := ⟨some 164, _, _, _, _, _⟩) rfl (fun K hK => ?_) AllReadyH.nil
              go_simp
              refine (hj2.out.drew.next).mono ?_
              rintro e w12 ⟨rfl, hb12⟩
              have HJ12 := hide (hj2.out.drew.below hb12)
              have HSR12 := hide ((hsr.out.below (Below.refl _ _).drew).below hb12)
              have hS12 : w12.cell? ⟨g, k2 * 5, none⟩ = some (.int .i64 (sq : Int)) := by obtain ⟨g2, e2, _, hc2⟩ := HSR12.out k2 Hlt2.out; cases e2; rw [Hsq.out] at hc2; exact hc2
              clear hb12
              refine hK.out _ _ hS12 (fun hHeld => ?_)
              clear hK K
              clear hHeld
              refine wpAnyH_take (i := 9) (oi := ⟨some 167, _, _, _, _, _⟩) (v := ?_) rfl (by kernel_rfl) (by kernel_rfl) (by kernel_rfl) (fun _ _ _ h => h) (Or.inl ⟨by rfl, ?_⟩) hS12 ?_
              rotate_left 1
              · (intro w hSw; obtain hSw1 := hSw; go_simp; try with_reducible rfl)
              simp only [Act.put, List.setIfInBounds_toArray, List.set_cons_zero, List.set_cons_succ]
              refine wpAnyH_take (i := 11) (oi := ⟨some 169, _, _, _, _, _⟩) (v := ?_) rfl (by kernel_rfl) (by kernel_rfl) (by kernel_rfl) (fun _ _ _ h => h) (Or.inl ⟨by rfl, ?_⟩) hS12 ?_
              rotate_left 1
              · (intro w hSw; obtain hSw1 := hSw; go_simp; try with_reducible rfl)
              simp only [Act.put, List.setIfInBounds_toArray, List.set_cons_zero, List.set_cons_succ]
              refine wpAnyH_take (i := 12) (oi := ⟨some 170, _, _, _, _, _⟩) (v := ?_) rfl (by kernel_rfl) (by kernel_rfl) (by kernel_rfl) (fun _ _ _ h => h) (Or.inl ⟨by rfl, ?_⟩) hS12 ?_
              rotate_left 1
              · (intro w hSw; obtain hSw1 := hSw; go_simp; try with_reducible rfl)
              simp only [Act.put, List.setIfInBounds_toArray, List.set_cons_zero, List.set_cons_succ]
              refine wpAnyH_done (by kernel_rfl) ?_ _
              clear hS0 hS12
              go_wp2
              go_roundw
              case rel => exact ⟨k2 + 1, Hlt2.out, by go_num, HJ12.out, HSR12.out⟩
              case measure => have := Hlt2.out; simp [intOf]; omega
            · have hk2m : ¬ ((k2 : Int) < (m10 : Int)) := by omega
              clear hge2 hk2 hsr
              go_wp2
              go_roundw
              case rel => exact ⟨k + 1, nx, rm, Hlt.out, by go_num, by rw [show 1 + (k + 1) = 1 + k + 1 by omega]; exact hj2.out⟩
              case measure => have := Hlt.out; simp [intOf]; omega
      · by_cases k3 : kind = 3
        · subst k3
          go_wp2_with fail
          refine (HJ4.out.trim HT1.out HTT.out on).mono ?_
          rintro e w5 (⟨rm2, rfl, hrm', hj5⟩ | ⟨pp, rfl, hj5⟩)
          · have HJ5 := hide hj5
            have hcmpR : ((rm2 : Int) != IntKind.i64.wrap ((rm : Int) + on)) = false := by
              have e : IntKind.i64.wrap ((rm : Int) + on) = (rm2 : Int) := by rw [hrm', IntKind.wrap_i64]; have := hj5.lim.2; omega
              rw [e]
              simp
            have hrm5 : (rm2 : Int) ≤ 20 := by have := hj5.lim.2; omega
            have hcmpR2 : ((rm2 : Int) != IntKind.i64.wrap (rm2 : Int)) = false := by
              have e : IntKind.i64.wrap (rm2 : Int) = (rm2 : Int) := by rw [IntKind.wrap_i64]; omega
              rw [e]
              simp
            clear hj5 e0 e1 e2 e3 e4 e5 e6 e7 HJ4
            have hS5 : w5.drew.cell? ⟨b, off + k * 8 + 1, none⟩ = some (.int .i64 on) := by obtain ⟨b2, off2, e2, hat2⟩ := (HRO.out.below HJ5.out.bel).at_ Hok.out; cases e2; exact hat2.2.1
            go_wp2
            refine wp_region_held (S := (fun W => W.cell? ⟨b, off + k * 8 + 1, none⟩ = some (.int .i64 on))) (by kernel_rfl) ?_
            change wpAnyH _ _ _ _ _ _ _ _ (World.drew _)
            refine wpAnyH_take (i := 0) (oi := ⟨some 114, _, _, _, _, _⟩) (v := ?_) rfl (by kernel_rfl) (by kernel_rfl) (by kernel_rfl) (fun _ _ _ h => h) (Or.inl ⟨by rfl, ?_⟩) hS5 ?_
            rotate_left 1
            · (intro w hSw; obtain hSw1 := hSw; go_simp; try with_reducible rfl)
            simp only [Act.put, List.setIfInBounds_toArray, List.set_cons_zero, List.set_cons_succ]
            refine wpAnyH_take (i := 2) (oi := ⟨some 116, _, _, _, _, _⟩) (v := ?_) rfl (by kernel_rfl) (by kernel_rfl) (by kernel_rfl) (fun _ _ _ h => h) (Or.inl ⟨by rfl, ?_⟩) hS5 ?_
            rotate_left 1
            · (intro w hSw; obtain hSw1 := hSw; go_simp; try with_reducible rfl)
            simp only [Act.put, List.setIfInBounds_toArray, List.set_cons_zero, List.set_cons_succ]
            refine wpAnyH_ready (rs := [1]) (by kernel_rfl) (by simp) ?_
            refine AllReadyH.cons (o := ⟨some 115, _, _, _, _, _⟩) rfl (fun K hK => ?_) AllReadyH.nil
            go_simp
            refine (HJ5.out.drew.next).mono ?_
            rintro e w6 ⟨rfl, hb6⟩
            have HJ6 := hide (HJ5.out.drew.below hb6)
            have hS6 : w6.cell? ⟨b, off + k * 8 + 1, none⟩ = some (.int .i64 on) := by obtain ⟨b2, off2, e2, hat2⟩ := (HRO.out.below HJ6.out.bel).at_ Hok.out; cases e2; exact hat2.2.1
            clear hb6 HJ5
            refine hK.out _ _ hS6 (fun hHeld => ?_)
            clear hK K
            clear hHeld
            refine wpAnyH_take (i := 3) (oi := ⟨some 117, _, _, _, _, _⟩) (v := ?_) rfl (by kernel_rfl) (by kernel_rfl) (by kernel_rfl) (fun _ _ _ h => h) (Or.inl ⟨by rfl, ?_⟩) hS6 ?_
            rotate_left 1
            · (intro w hSw; obtain hSw1 := hSw; go_simp; try with_reducible rfl)
            simp only [Act.put, List.setIfInBounds_toArray, List.set_cons_zero, List.set_cons_succ]
            refine wpAnyH_take (i := 4) (oi := ⟨some 118, _, _, _, _, _⟩) (v := ?_) rfl (by kernel_rfl) (by kernel_rfl) (by kernel_rfl) (fun _ _ _ h => h) (Or.inl ⟨by rfl, ?_⟩) hS6 ?_
            rotate_left 1
            · (intro w hSw; obtain hSw1 := hSw; go_simp; try with_reducible rfl)
            simp only [Act.put, List.setIfInBounds_toArray, List.set_cons_zero, List.set_cons_succ]
            refine wpAnyH_take (i := 5) (oi := ⟨some 119, _, _, _, _, _⟩) (v := ?_) rfl (by kernel_rfl) (by kernel_rfl) (by kernel_rfl) (fun _ _ _ h => h) (Or.inl ⟨by rfl, ?_⟩) hS6 ?_
            rotate_left 1
            · (intro w hSw; obtain hSw1 := hSw; go_simp; try with_reducible rfl)
            simp only [Act.put, List.setIfInBounds_toArray, List.set_cons_zero, List.set_cons_succ]
            refine wpAnyH_take (i := 6) (oi := ⟨some 120, _, _, _, _, _⟩) (v := ?_) rfl (by kernel_rfl) (by kernel_rfl) (by kernel_rfl) (fun _ _ _ h => h) (Or.inl ⟨by rfl, ?_⟩) hS6 ?_
            rotate_left 1
            · (intro w hSw; obtain hSw1 := hSw; go_simp; try with_reducible rfl)
            simp only [Act.put, List.setIfInBounds_toArray, List.set_cons_zero, List.set_cons_succ]
            refine wpAnyH_take (i := 7) (oi := ⟨some 121, _, _, _, _, _⟩) (v := ?_) rfl (by kernel_rfl) (by kernel_rfl) (by kernel_rfl) (fun _ _ _ h => h) (Or.inl ⟨by rfl, ?_⟩) hS6 ?_
            rotate_left 1
            · (intro w hSw; obtain hSw1 := hSw; go_simp; try with_reducible rfl)
            simp only [Act.put, List.setIfInBounds_toArray, List.set_cons_zero, List.set_cons_succ]
            refine wpAnyH_take (i := 8) (oi := ⟨some 122, _, _, _, _, _⟩) (v := ?_) rfl (by kernel_rfl) (by kernel_rfl) (by kernel_rfl) (fun _ _ _ h => h) (Or.inl ⟨by rfl, ?_⟩) hS6 ?_
            rotate_left 1
            · (intro w hSw; obtain hSw1 := hSw; go_simp; try with_reducible rfl)
            simp only [Act.put, List.setIfInBounds_toArray, List.set_cons_zero, List.set_cons_succ]
            refine wpAnyH_take (i := 10) (oi := ⟨some 124, _, _, _, _, _⟩) (v := ?_) rfl (by kernel_rfl) (by kernel_rfl) (by kernel_rfl) (fun _ _ _ h => h) (Or.inl ⟨by rfl, ?_⟩) hS6 ?_
            rotate_left 1
            · (intro w hSw; obtain hSw1 := hSw; go_simp; try with_reducible rfl)
            simp only [Act.put, List.setIfInBounds_toArray, List.set_cons_zero, List.set_cons_succ]
            refine wpAnyH_take (i := 11) (oi := ⟨some 125, _, _, _, _, _⟩) (v := ?_) rfl (by kernel_rfl) (by kernel_rfl) (by kernel_rfl) (fun _ _ _ h => h) (Or.inl ⟨by rfl, ?_⟩) hS6 ?_
            rotate_left 1
            · (intro w hSw; obtain hSw1 := hSw; go_simp; try with_reducible rfl)
            simp only [Act.put, List.setIfInBounds_toArray, List.set_cons_zero, List.set_cons_succ]
            refine wpAnyH_take (i := 12) (oi := ⟨some 126, _, _, _, _, _⟩) (v := ?_) rfl (by kernel_rfl) (by kernel_rfl) (by kernel_rfl) (fun _ _ _ h => h) (Or.inl ⟨by rfl, ?_⟩) hS6 ?_
            rotate_left 1
            · (intro w hSw; obtain hSw1 := hSw; go_simp; try with_reducible rfl)
            simp only [Act.put, List.setIfInBounds_toArray, List.set_cons_zero, List.set_cons_succ]
            refine wpAnyH_take (i := 13) (oi := ⟨some 127, _, _, _, _, _⟩) (v := ?_) rfl (by kernel_rfl) (by kernel_rfl) (by kernel_rfl) (fun _ _ _ h => h) (Or.inl ⟨by rfl, ?_⟩) hS6 ?_
            rotate_left 1
            · (intro w hSw; obtain hSw1 := hSw; go_simp; try with_reducible rfl)
            simp only [Act.put, List.setIfInBounds_toArray, List.set_cons_zero, List.set_cons_succ]
            refine wpAnyH_take (i := 14) (oi := ⟨some 128, _, _, _, _, _⟩) (v := ?_) rfl (by kernel_rfl) (by kernel_rfl) (by kernel_rfl) (fun _ _ _ h => h) (Or.inl ⟨by rfl, ?_⟩) hS6 ?_
            rotate_left 1
            · (intro w hSw; obtain hSw1 := hSw; go_simp; try with_reducible rfl)
            simp only [Act.put, List.setIfInBounds_toArray, List.set_cons_zero, List.set_cons_succ]
            refine wpAnyH_take (i := 15) (oi := ⟨some 129, _, _, _, _, _⟩) (v := ?_) rfl (by kernel_rfl) (by kernel_rfl) (by kernel_rfl) (fun _ _ _ h => h) (Or.inl ⟨by rfl, ?_⟩) hS6 ?_
            rotate_left 1
            · (intro w hSw; obtain hSw1 := hSw; go_simp; try with_reducible rfl)
            simp only [Act.put, List.setIfInBounds_toArray, List.set_cons_zero, List.set_cons_succ]
            refine wpAnyH_take (i := 16) (oi := ⟨some 130, _, _, _, _, _⟩) (v := ?_) rfl (by kernel_rfl) (by kernel_rfl) (by kernel_rfl) (fun _ _ _ h => h) (Or.inl ⟨by rfl, ?_⟩) hS6 ?_
            rotate_left 1
            · (intro w hSw; obtain hSw1 := hSw; go_simp; try with_reducible rfl)
            simp only [Act.put, List.setIfInBounds_toArray, List.set_cons_zero, List.set_cons_succ]
            refine wpAnyH_ready (rs := [9]) (by kernel_rfl) (by simp) ?_
            refine AllReadyH.cons (o := ⟨some 123, _, _, _, _, _⟩) rfl (fun K hK => ?_) AllReadyH.nil
            go_simp
            refine (HJ6.out.room).mono ?_
            rintro e w7 ⟨rfl, hb7⟩
            have HJ7 := hide (HJ6.out.below hb7)
            have hS7 : w7.cell? ⟨b, off + k * 8 + 1, none⟩ = some (.int .i64 on) := by obtain ⟨b2, off2, e2, hat2⟩ := (HRO.out.below HJ7.out.bel).at_ Hok.out; cases e2; exact hat2.2.1
            clear hb7 HJ6
            refine hK.out _ _ hS7 (fun hHeld => ?_)
            clear hK K
            clear hHeld
            refine wpAnyH_take (i := 17) (oi := ⟨some 131, _, _, _, _, _⟩) (v := ?_) rfl (by kernel_rfl) (by kernel_rfl) (by kernel_rfl) (fun _ _ _ h => h) (Or.inl ⟨by rfl, ?_⟩) hS7 ?_
            rotate_left 1
            · (intro w hSw; obtain hSw1 := hSw; go_simp; try with_reducible rfl)
            simp only [Act.put, List.setIfInBounds_toArray, List.set_cons_zero, List.set_cons_succ]
            refine wpAnyH_take (i := 18) (oi := ⟨some 132, _, _, _, _, _⟩) (v := ?_) rfl (by kernel_rfl) (by kernel_rfl) (by kernel_rfl) (fun _ _ _ h => h) (Or.inl ⟨by rfl, ?_⟩) hS7 ?_
            rotate_left 1
            · (intro w hSw; obtain hSw1 := hSw; go_simp; try with_reducible rfl)
            simp only [Act.put, List.setIfInBounds_toArray, List.set_cons_zero, List.set_cons_succ]
            refine wpAnyH_take (i := 19) (oi := ⟨some 133, _, _, _, _, _⟩) (v := ?_) rfl (by kernel_rfl) (by kernel_rfl) (by kernel_rfl) (fun _ _ _ h => h) (Or.inl ⟨by rfl, ?_⟩) hS7 ?_
            rotate_left 1
            · (intro w hSw; obtain hSw1 := hSw; go_simp; try with_reducible rfl)
            simp only [Act.put, List.setIfInBounds_toArray, List.set_cons_zero, List.set_cons_succ]
            refine wpAnyH_take (i := 20) (oi := ⟨some 134, _, _, _, _, _⟩) (v := ?_) rfl (by kernel_rfl) (by kernel_rfl) (by kernel_rfl) (fun _ _ _ h => h) (Or.inl ⟨by rfl, ?_⟩) hS7 ?_
            rotate_left 1
            · (intro w hSw; obtain hSw1 := hSw; go_simp; try with_reducible rfl)
            simp only [Act.put, List.setIfInBounds_toArray, List.set_cons_zero, List.set_cons_succ]
            refine wpAnyH_take (i := 21) (oi := ⟨some 135, _, _, _, _, _⟩) (v := ?_) rfl (by kernel_rfl) (by kernel_rfl) (by kernel_rfl) (fun _ _ _ h => h) (Or.inl ⟨by rfl, ?_⟩) hS7 ?_
            rotate_left 1
            · (intro w hSw; obtain hSw1 := hSw; go_simp; try with_reducible rfl)
            simp only [Act.put, List.setIfInBounds_toArray, List.set_cons_zero, List.set_cons_succ]
            refine wpAnyH_take (i := 22) (oi := ⟨some 136, _, _, _, _, _⟩) (v := ?_) rfl (by kernel_rfl) (by kernel_rfl) (by kernel_rfl) (fun _ _ _ h => h) (Or.inl ⟨by rfl, ?_⟩) hS7 ?_
            rotate_left 1
            · (intro w hSw; obtain hSw1 := hSw; go_simp; try with_reducible rfl)
            simp only [Act.put, List.setIfInBounds_toArray, List.set_cons_zero, List.set_cons_succ]
            refine wpAnyH_take (i := 23) (oi := ⟨some 137, _, _, _, _, _⟩) (v := ?_) rfl (by kernel_rfl) (by kernel_rfl) (by kernel_rfl) (fun _ _ _ h => h) (Or.inl ⟨by rfl, ?_⟩) hS7 ?_
            rotate_left 1
            · (intro w hSw; obtain hSw1 := hSw; go_simp; try with_reducible rfl)
            simp only [Act.put, List.setIfInBounds_toArray, List.set_cons_zero, List.set_cons_succ]
            refine wpAnyH_take (i := 24) (oi := ⟨some 138, _, _, _, _, _⟩) (v := undef) rfl (by kernel_rfl) (by kernel_rfl) (by kernel_rfl) (fun _ _ _ h => h) (Or.inr ⟨by rfl, rfl⟩) hS7 ?_
            simp only [Act.put, List.setIfInBounds_toArray, List.set_cons_zero, List.set_cons_succ]
            refine wpAnyH_take (i := 25) (oi := ⟨some 139, _, _, _, _, _⟩) (v := undef) rfl (by kernel_rfl) (by kernel_rfl) (by kernel_rfl) (fun _ _ _ h => h) (Or.inr ⟨by rfl, rfl⟩) hS7 ?_
            simp only [Act.put, List.setIfInBounds_toArray, List.set_cons_zero, List.set_cons_succ]
            refine wpAnyH_take (i := 26) (oi := ⟨some 140, _, _, _, _, _⟩) (v := undef) rfl (by kernel_rfl) (by kernel_rfl) (by kernel_rfl) (fun _ _ _ h => h) (Or.inr ⟨by rfl, rfl⟩) hS7 ?_
            simp only [Act.put, List.setIfInBounds_toArray, List.set_cons_zero, List.set_cons_succ]
            refine wpAnyH_take (i := 27) (oi := ⟨some 141, _, _, _, _, _⟩) (v := undef) rfl (by kernel_rfl) (by kernel_rfl) (by kernel_rfl) (fun _ _ _ h => h) (Or.inr ⟨by rfl, rfl⟩) hS7 ?_
            simp only [Act.put, List.setIfInBounds_toArray, List.set_cons_zero, List.set_cons_succ]
            refine wpAnyH_take (i := 28) (oi := ⟨some 142, _, _, _, _, _⟩) (v := ?_) rfl (by kernel_rfl) (by kernel_rfl) (by kernel_rfl) (fun _ _ _ h => h) (Or.inl ⟨by rfl, ?_⟩) hS7 ?_
            rotate_left 1
            · (intro w hSw; obtain hSw1 := hSw; go_simp; try with_reducible rfl)
            simp only [Act.put, List.setIfInBounds_toArray, List.set_cons_zero, List.set_cons_succ]
            refine wpAnyH_take (i := 29) (oi := ⟨some 143, _, _, _, _, _⟩) (v := ?_) rfl (by kernel_rfl) (by kernel_rfl) (by kernel_rfl) (fun _ _ _ h => h) (Or.inl ⟨by rfl, ?_⟩) hS7 ?_
            rotate_left 1
            · (intro w hSw; obtain hSw1 := hSw; go_simp; try with_reducible rfl)
            simp only [Act.put, List.setIfInBounds_toArray, List.set_cons_zero, List.set_cons_succ]
            refine wpAnyH_done (by kernel_rfl) ?_ _
            clear hS5 hS6 hS7
            go_wp2_with fail
            refine (HJ7.out.records).mono ?_
            rintro e w10 ⟨A10, m10, c10, rfl, hm10, hmn, hmc, hsr, hb10⟩
            have HJ10 := hide (HJ7.out.below hb10)
            have HS10 := hide hsr
            have hlim10 := HJ7.out.lim
            have hm20 : (m10 : Int) ≤ 20 := by have := hlim10.2.2; omega
            have hnx3 : (nx : Int) ≤ 1001 := by have := hlim10.1; omega
            have hmn3 : (m10 : Int) ≤ (nx : Int) := by omega
            have hmc3 : (m10 : Int) ≤ (c10 : Int) := by omega
            have hrm3 : (rm2 : Int) ≤ (nn : Int) := by have := hlim10.2.1; omega
            clear hsr hb10 HJ7 hlim10 hmn hmc
            go_wp2_with fail
            refine (HJ10.out.room).mono ?_
            rintro e w11 ⟨rfl, hb11⟩
            have HJ11 := hide (HJ10.out.below hb11)
            have HS11 := hide (HS10.out.below hb11)
            clear hb11 HJ10 HS10
            go_wp2
            go_loopw [155] (fun j2 wr2 => ∃ (k2 : Nat), k2 ≤ m10 ∧ j2 = .int .i64 k2 ∧ Hid (JN w1 p q nn nx rm2 (1 + k + 1) wr2) ∧ Hid (SeqRow wr2 A10 m10 nx)) (fun j2 _ => m10 - (intOf j2).toNat)
            case atStart => exact ⟨0, Nat.zero_le _, rfl, HJ11.out, HS11.out⟩
            case round =>
              clear HJ11 HS11
              obtain ⟨k2, hk2, rfl, hj2, hsr⟩ := hrel
              rcases Nat.lt_or_ge k2 m10 with hlt2 | hge2
              · have Hlt2 := hide hlt2
                have hk2i : (k2 : Int) < (m10 : Int) := by omega
                obtain ⟨g, rfl, hgl, hg0'⟩ := hsr.out k2 hlt2
                have hg0 : wr.drew.cell? ⟨g, k2 * 5, none⟩ = some (.int .i64 ((nx - m10 + k2 : Nat) : Int)) := hg0'
                obtain ⟨sq, hsq⟩ : ∃ sq, nx - m10 + k2 = sq := ⟨_, rfl⟩
                have Hsq := hide hsq
                rw [hsq] at hg0
                have hsqi : (nx : Int) - (m10 : Int) + (k2 : Int) = (sq : Int) := by omega
                have hS0 : wr.drew.cell? ⟨g, k2 * 5, none⟩ = some (.int .i64 (sq : Int)) := hg0
                have hcmp : ((sq : Int) != IntKind.i64.wrap (IntKind.i64.wrap ((nx : Int) - (m10 : Int)) + (k2 : Int))) = false := by
                  have e1 : IntKind.i64.wrap ((nx : Int) - (m10 : Int)) = (nx : Int) - (m10 : Int) := by rw [IntKind.wrap_i64]; omega
                  have e2 : IntKind.i64.wrap ((nx : Int) - (m10 : Int) + (k2 : Int)) = (sq : Int) := by rw [IntKind.wrap_i64]; omega
                  rw [e1, e2]
                  simp
                clear hlt2 hsq hg0 hg0' hgl
                go_wp2
                refine wp_region_held (S := (fun W => W.cell? ⟨g, k2 * 5, none⟩ = some (.int .i64 (sq : Int)))) (by kernel_rfl) ?_
                change wpAnyH _ _ _ _ _ _ _ _ (World.drew _)
                refine wpAnyH_take (i := 0) (oi := ⟨some 158, _, _, _, _, _⟩) (v := ?_) rfl (by kernel_rfl) (by kernel_rfl) (by kernel_rfl) (fun _ _ _ h => h) (Or.inl ⟨by rfl, ?_⟩) hS0 ?_
                rotate_left 1
                · (intro w hSw; obtain hSw1 := hSw; go_simp; try with_reducible rfl)
                simp only [Act.put, List.setIfInBounds_toArray, List.set_cons_zero, List.set_cons_succ]
                refine wpAnyH_take (i := 1) (oi := ⟨some 159, _, _, _, _, _⟩) (v := ?_) rfl (by kernel_rfl) (by kernel_rfl) (by kernel_rfl) (fun _ _ _ h => h) (Or.inl ⟨by rfl, ?_⟩) hS0 ?_
                rotate_left 1
                · (intro w hSw; obtain hSw1 := hSw; go_simp; try with_reducible rfl)
                simp only [Act.put, List.setIfInBounds_toArray, List.set_cons_zero, List.set_cons_succ]
                refine wpAnyH_take (i := 2) (oi := ⟨some 160, _, _, _, _, _⟩) (v := ?_) rfl (by kernel_rfl) (by kernel_rfl) (by kernel_rfl) (fun _ _ _ h => h) (Or.inl ⟨by rfl, ?_⟩) hS0 ?_
                rotate_left 1
                · (intro w hSw; obtain hSw1 := hSw; go_simp; try with_reducible rfl)
                simp only [Act.put, List.setIfInBounds_toArray, List.set_cons_zero, List.set_cons_succ]
                refine wpAnyH_take (i := 3) (oi := ⟨some 161, _, _, _, _, _⟩) (v := ?_) rfl (by kernel_rfl) (by kernel_rfl) (by kernel_rfl) (fun _ _ _ h => h) (Or.inl ⟨by rfl, ?_⟩) hS0 ?_
                rotate_left 1
                · (intro w hSw; obtain hSw1 := hSw; go_simp; try with_reducible rfl)
                simp only [Act.put, List.setIfInBounds_toArray, List.set_cons_zero, List.set_cons_succ]
                refine wpAnyH_take (i := 4) (oi := ⟨some 162, _, _, _, _, _⟩) (v := ?_) rfl (by kernel_rfl) (by kernel_rfl) (by kernel_rfl) (fun _ _ _ h => h) (Or.inl ⟨by rfl, ?_⟩) hS0 ?_
                rotate_left 1
                · (intro w hSw; obtain hSw1 := hSw; go_simp; try with_reducible rfl)
                simp only [Act.put, List.setIfInBounds_toArray, List.set_cons_zero, List.set_cons_succ]
                refine wpAnyH_take (i := 5) (oi := ⟨some 163, _, _, _, _, _⟩) (v := ?_) rfl (by kernel_rfl) (by kernel_rfl) (by kernel_rfl) (fun _ _ _ h => h) (Or.inl ⟨by rfl, ?_⟩) hS0 ?_
                rotate_left 1
                · (intro w hSw; obtain hSw1 := hSw; go_simp; try with_reducible rfl)
                simp only [Act.put, List.setIfInBounds_toArray, List.set_cons_zero, List.set_cons_succ]
                refine wpAnyH_take (i := 7) (oi := ⟨some 165, _, _, _, _, _⟩) (v := ?_) rfl (by kernel_rfl) (by kernel_rfl) (by kernel_rfl) (fun _ _ _ h => h) (Or.inl ⟨by rfl, ?_⟩) hS0 ?_
                rotate_left 1
                · (intro w hSw; obtain hSw1 := hSw; go_simp; try with_reducible rfl)
                simp only [Act.put, List.setIfInBounds_toArray, List.set_cons_zero, List.set_cons_succ]
                refine wpAnyH_take (i := 8) (oi := ⟨some 166, _, _, _, _, _⟩) (v := ?_) rfl (by kernel_rfl) (by kernel_rfl) (by kernel_rfl) (fun _ _ _ h => h) (Or.inl ⟨by rfl, ?_⟩) hS0 ?_
                rotate_left 1
                · (intro w hSw; obtain hSw1 := hSw; go_simp; try with_reducible rfl)
                simp only [Act.put, List.setIfInBounds_toArray, List.set_cons_zero, List.set_cons_succ]
                refine wpAnyH_take (i := 10) (oi := ⟨some 168, _, _, _, _, _⟩) (v := ?_) rfl (by kernel_rfl) (by kernel_rfl) (by kernel_rfl) (fun _ _ _ h => h) (Or.inl ⟨by rfl, ?_⟩) hS0 ?_
                rotate_left 1
                · (intro w hSw; obtain hSw1 := hSw; go_simp; try with_reducible rfl)
                simp only [Act.put, List.setIfInBounds_toArray, List.set_cons_zero, List.set_cons_succ]
                refine wpAnyH_ready (rs := [6]) (by kernel_rfl) (by simp) ?_
                refine AllReadyH.cons (o := ⟨some 164, _, _, _, _, _⟩) rfl (fun K hK => ?_) AllReadyH.nil
                go_simp
                refine (hj2.out.drew.next).mono ?_
                rintro e w12 ⟨rfl, hb12⟩
                have HJ12 := hide (hj2.out.drew.below hb12)
                have HSR12 := hide ((hsr.out.below (Below.refl _ _).drew).below hb12)
                have hS12 : w12.cell? ⟨g, k2 * 5, none⟩ = some (.int .i64 (sq : Int)) := by obtain ⟨g2, e2, _, hc2⟩ := HSR12.out k2 Hlt2.out; cases e2; rw [Hsq.out] at hc2; exact hc2
                clear hb12
                refine hK.out _ _ hS12 (fun hHeld => ?_)
                clear hK K
                clear hHeld
                refine wpAnyH_take (i := 9) (oi := ⟨some 167, _, _, _, _, _⟩) (v := ?_) rfl (by kernel_rfl) (by kernel_rfl) (by kernel_rfl) (fun _ _ _ h => h) (Or.inl ⟨by rfl, ?_⟩) hS12 ?_
                rotate_left 1
                · (intro w hSw; obtain hSw1 := hSw; go_simp; try with_reducible rfl)
                simp only [Act.put, List.setIfInBounds_toArray, List.set_cons_zero, List.set_cons_succ]
                refine wpAnyH_take (i := 11) (oi := ⟨some 169, _, _, _, _, _⟩) (v := ?_) rfl (by kernel_rfl) (by kernel_rfl) (by kernel_rfl) (fun _ _ _ h => h) (Or.inl ⟨by rfl, ?_⟩) hS12 ?_
                rotate_left 1
                · (intro w hSw; obtain hSw1 := hSw; go_simp; try with_reducible rfl)
                simp only [Act.put, List.setIfInBounds_toArray, List.set_cons_zero, List.set_cons_succ]
                refine wpAnyH_take (i := 12) (oi := ⟨some 170, _, _, _, _, _⟩) (v := ?_) rfl (by kernel_rfl) (by kernel_rfl) (by kernel_rfl) (fun _ _ _ h => h) (Or.inl ⟨by rfl, ?_⟩) hS12 ?_
                rotate_left 1
                · (intro w hSw; obtain hSw1 := hSw; go_simp; try with_reducible rfl)
                simp only [Act.put, List.setIfInBounds_toArray, List.set_cons_zero, List.set_cons_succ]
                refine wpAnyH_done (by kernel_rfl) ?_ _
                clear hS0 hS12
                go_wp2
                go_roundw
                case rel => exact ⟨k2 + 1, Hlt2.out, by go_num, HJ12.out, HSR12.out⟩
                case measure => have := Hlt2.out; simp [intOf]; omega
              · have hk2m : ¬ ((k2 : Int) < (m10 : Int)) := by omega
                clear hge2 hk2 hsr
                go_wp2
                go_roundw
                case rel => exact ⟨k + 1, nx, rm2, Hlt.out, by go_num, by rw [show 1 + (k + 1) = 1 + k + 1 by omega]; exact hj2.out⟩
                case measure => have := Hlt.out; simp [intOf]; omega
          · have HJ5 := hide hj5
            clear hj5 e0 e1 e2 e3 e4 e5 e6 e7 HJ4
            have hS5 : w5.drew.cell? ⟨b, off + k * 8 + 1, none⟩ = some (.int .i64 on) := by obtain ⟨b2, off2, e2, hat2⟩ := (HRO.out.below HJ5.out.bel).at_ Hok.out; cases e2; exact hat2.2.1
            go_wp2
            refine wp_region_held (S := (fun W => W.cell? ⟨b, off + k * 8 + 1, none⟩ = some (.int .i64 on))) (by kernel_rfl) ?_
            change wpAnyH _ _ _ _ _ _ _ _ (World.drew _)
            refine wpAnyH_take (i := 0) (oi := ⟨some 114, _, _, _, _, _⟩) (v := ?_) rfl (by kernel_rfl) (by kernel_rfl) (by kernel_rfl) (fun _ _ _ h => h) (Or.inl ⟨by rfl, ?_⟩) hS5 ?_
            rotate_left 1
            · (intro w hSw; obtain hSw1 := hSw; go_simp; try with_reducible rfl)
            simp only [Act.put, List.setIfInBounds_toArray, List.set_cons_zero, List.set_cons_succ]
            refine wpAnyH_take (i := 2) (oi := ⟨some 116, _, _, _, _, _⟩) (v := ?_) rfl (by kernel_rfl) (by kernel_rfl) (by kernel_rfl) (fun _ _ _ h => h) (Or.inl ⟨by rfl, ?_⟩) hS5 ?_
            rotate_left 1
            · (intro w hSw; obtain hSw1 := hSw; go_simp; try with_reducible rfl)
            simp only [Act.put, List.setIfInBounds_toArray, List.set_cons_zero, List.set_cons_succ]
            refine wpAnyH_ready (rs := [1]) (by kernel_rfl) (by simp) ?_
            refine AllReadyH.cons (o := ⟨some 115, _, _, _, _, _⟩) rfl (fun K hK => ?_) AllReadyH.nil
            go_simp
            refine (HJ5.out.drew.next).mono ?_
            rintro e w6 ⟨rfl, hb6⟩
            have HJ6 := hide (HJ5.out.drew.below hb6)
            have hS6 : w6.cell? ⟨b, off + k * 8 + 1, none⟩ = some (.int .i64 on) := by obtain ⟨b2, off2, e2, hat2⟩ := (HRO.out.below HJ6.out.bel).at_ Hok.out; cases e2; exact hat2.2.1
            clear hb6 HJ5
            refine hK.out _ _ hS6 (fun hHeld => ?_)
            clear hK K
            clear hHeld
            refine wpAnyH_take (i := 3) (oi := ⟨some 117, _, _, _, _, _⟩) (v := ?_) rfl (by kernel_rfl) (by kernel_rfl) (by kernel_rfl) (fun _ _ _ h => h) (Or.inl ⟨by rfl, ?_⟩) hS6 ?_
            rotate_left 1
            · (intro w hSw; obtain hSw1 := hSw; go_simp; try with_reducible rfl)
            simp only [Act.put, List.setIfInBounds_toArray, List.set_cons_zero, List.set_cons_succ]
            refine wpAnyH_take (i := 4) (oi := ⟨some 118, _, _, _, _, _⟩) (v := ?_) rfl (by kernel_rfl) (by kernel_rfl) (by kernel_rfl) (fun _ _ _ h => h) (Or.inl ⟨by rfl, ?_⟩) hS6 ?_
            rotate_left 1
            · (intro w hSw; obtain hSw1 := hSw; go_simp; try with_reducible rfl)
            simp only [Act.put, List.setIfInBounds_toArray, List.set_cons_zero, List.set_cons_succ]
            refine wpAnyH_take (i := 5) (oi := ⟨some 119, _, _, _, _, _⟩) (v := ?_) rfl (by kernel_rfl) (by kernel_rfl) (by kernel_rfl) (fun _ _ _ h => h) (Or.inl ⟨by rfl, ?_⟩) hS6 ?_
            rotate_left 1
            · (intro w hSw; obtain hSw1 := hSw; go_simp; try with_reducible rfl)
            simp only [Act.put, List.setIfInBounds_toArray, List.set_cons_zero, List.set_cons_succ]
            refine wpAnyH_take (i := 6) (oi := ⟨some 120, _, _, _, _, _⟩) (v := ?_) rfl (by kernel_rfl) (by kernel_rfl) (by kernel_rfl) (fun _ _ _ h => h) (Or.inl ⟨by rfl, ?_⟩) hS6 ?_
            rotate_left 1
            · (intro w hSw; obtain hSw1 := hSw; go_simp; try with_reducible rfl)
            simp only [Act.put, List.setIfInBounds_toArray, List.set_cons_zero, List.set_cons_succ]
            refine wpAnyH_take (i := 7) (oi := ⟨some 121, _, _, _, _, _⟩) (v := ?_) rfl (by kernel_rfl) (by kernel_rfl) (by kernel_rfl) (fun _ _ _ h => h) (Or.inl ⟨by rfl, ?_⟩) hS6 ?_
            rotate_left 1
            · (intro w hSw; obtain hSw1 := hSw; go_simp; try with_reducible rfl)
            simp only [Act.put, List.setIfInBounds_toArray, List.set_cons_zero, List.set_cons_succ]
            refine wpAnyH_take (i := 8) (oi := ⟨some 122, _, _, _, _, _⟩) (v := undef) rfl (by kernel_rfl) (by kernel_rfl) (by kernel_rfl) (fun _ _ _ h => h) (Or.inr ⟨by rfl, rfl⟩) hS6 ?_
            simp only [Act.put, List.setIfInBounds_toArray, List.set_cons_zero, List.set_cons_succ]
            refine wpAnyH_take (i := 9) (oi := ⟨some 123, _, _, _, _, _⟩) (v := undef) rfl (by kernel_rfl) (by kernel_rfl) (by kernel_rfl) (fun _ _ _ h => h) (Or.inr ⟨by rfl, rfl⟩) hS6 ?_
            simp only [Act.put, List.setIfInBounds_toArray, List.set_cons_zero, List.set_cons_succ]
            refine wpAnyH_take (i := 10) (oi := ⟨some 124, _, _, _, _, _⟩) (v := undef) rfl (by kernel_rfl) (by kernel_rfl) (by kernel_rfl) (fun _ _ _ h => h) (Or.inr ⟨by rfl, rfl⟩) hS6 ?_
            simp only [Act.put, List.setIfInBounds_toArray, List.set_cons_zero, List.set_cons_succ]
            refine wpAnyH_take (i := 11) (oi := ⟨some 125, _, _, _, _, _⟩) (v := undef) rfl (by kernel_rfl) (by kernel_rfl) (by kernel_rfl) (fun _ _ _ h => h) (Or.inr ⟨by rfl, rfl⟩) hS6 ?_
            simp only [Act.put, List.setIfInBounds_toArray, List.set_cons_zero, List.set_cons_succ]
            refine wpAnyH_take (i := 12) (oi := ⟨some 126, _, _, _, _, _⟩) (v := undef) rfl (by kernel_rfl) (by kernel_rfl) (by kernel_rfl) (fun _ _ _ h => h) (Or.inr ⟨by rfl, rfl⟩) hS6 ?_
            simp only [Act.put, List.setIfInBounds_toArray, List.set_cons_zero, List.set_cons_succ]
            refine wpAnyH_take (i := 13) (oi := ⟨some 127, _, _, _, _, _⟩) (v := undef) rfl (by kernel_rfl) (by kernel_rfl) (by kernel_rfl) (fun _ _ _ h => h) (Or.inr ⟨by rfl, rfl⟩) hS6 ?_
            simp only [Act.put, List.setIfInBounds_toArray, List.set_cons_zero, List.set_cons_succ]
            refine wpAnyH_take (i := 14) (oi := ⟨some 128, _, _, _, _, _⟩) (v := undef) rfl (by kernel_rfl) (by kernel_rfl) (by kernel_rfl) (fun _ _ _ h => h) (Or.inr ⟨by rfl, rfl⟩) hS6 ?_
            simp only [Act.put, List.setIfInBounds_toArray, List.set_cons_zero, List.set_cons_succ]
            refine wpAnyH_take (i := 15) (oi := ⟨some 129, _, _, _, _, _⟩) (v := undef) rfl (by kernel_rfl) (by kernel_rfl) (by kernel_rfl) (fun _ _ _ h => h) (Or.inr ⟨by rfl, rfl⟩) hS6 ?_
            simp only [Act.put, List.setIfInBounds_toArray, List.set_cons_zero, List.set_cons_succ]
            refine wpAnyH_take (i := 16) (oi := ⟨some 130, _, _, _, _, _⟩) (v := undef) rfl (by kernel_rfl) (by kernel_rfl) (by kernel_rfl) (fun _ _ _ h => h) (Or.inr ⟨by rfl, rfl⟩) hS6 ?_
            simp only [Act.put, List.setIfInBounds_toArray, List.set_cons_zero, List.set_cons_succ]
            refine wpAnyH_take (i := 17) (oi := ⟨some 131, _, _, _, _, _⟩) (v := undef) rfl (by kernel_rfl) (by kernel_rfl) (by kernel_rfl) (fun _ _ _ h => h) (Or.inr ⟨by rfl, rfl⟩) hS6 ?_
            simp only [Act.put, List.setIfInBounds_toArray, List.set_cons_zero, List.set_cons_succ]
            refine wpAnyH_take (i := 18) (oi := ⟨some 132, _, _, _, _, _⟩) (v := ?_) rfl (by kernel_rfl) (by kernel_rfl) (by kernel_rfl) (fun _ _ _ h => h) (Or.inl ⟨by rfl, ?_⟩) hS6 ?_
            rotate_left 1
            · (intro w hSw; obtain hSw1 := hSw; go_simp; try with_reducible rfl)
            simp only [Act.put, List.setIfInBounds_toArray, List.set_cons_zero, List.set_cons_succ]
            refine wpAnyH_take (i := 19) (oi := ⟨some 133, _, _, _, _, _⟩) (v := ?_) rfl (by kernel_rfl) (by kernel_rfl) (by kernel_rfl) (fun _ _ _ h => h) (Or.inl ⟨by rfl, ?_⟩) hS6 ?_
            rotate_left 1
            · (intro w hSw; obtain hSw1 := hSw; go_simp; try with_reducible rfl)
            simp only [Act.put, List.setIfInBounds_toArray, List.set_cons_zero, List.set_cons_succ]
            refine wpAnyH_take (i := 20) (oi := ⟨some 134, _, _, _, _, _⟩) (v := ?_) rfl (by kernel_rfl) (by kernel_rfl) (by kernel_rfl) (fun _ _ _ h => h) (Or.inl ⟨by rfl, ?_⟩) hS6 ?_
            rotate_left 1
            · (intro w hSw; obtain hSw1 := hSw; go_simp; try with_reducible rfl)
            simp only [Act.put, List.setIfInBounds_toArray, List.set_cons_zero, List.set_cons_succ]
            refine wpAnyH_take (i := 21) (oi := ⟨some 135, _, _, _, _, _⟩) (v := ?_) rfl (by kernel_rfl) (by kernel_rfl) (by kernel_rfl) (fun _ _ _ h => h) (Or.inl ⟨by rfl, ?_⟩) hS6 ?_
            rotate_left 1
            · (intro w hSw; obtain hSw1 := hSw; go_simp; try with_reducible rfl)
            simp only [Act.put, List.setIfInBounds_toArray, List.set_cons_zero, List.set_cons_succ]
            refine wpAnyH_take (i := 22) (oi := ⟨some 136, _, _, _, _, _⟩) (v := ?_) rfl (by kernel_rfl) (by kernel_rfl) (by kernel_rfl) (fun _ _ _ h => h) (Or.inl ⟨by rfl, ?_⟩) hS6 ?_
            rotate_left 1
            · (intro w hSw; obtain hSw1 := hSw; go_simp; try with_reducible rfl)
            simp only [Act.put, List.setIfInBounds_toArray, List.set_cons_zero, List.set_cons_succ]
            refine wpAnyH_take (i := 23) (oi := ⟨some 137, _, _, _, _, _⟩) (v := ?_) rfl (by kernel_rfl) (by kernel_rfl) (by kernel_rfl) (fun _ _ _ h => h) (Or.inl ⟨by rfl, ?_⟩) hS6 ?_
            rotate_left 1
            · (intro w hSw; obtain hSw1 := hSw; go_simp; try with_reducible rfl)
            simp only [Act.put, List.setIfInBounds_toArray, List.set_cons_zero, List.set_cons_succ]
            refine wpAnyH_take (i := 24) (oi := ⟨some 138, _, _, _, _, _⟩) (v := ?_) rfl (by kernel_rfl) (by kernel_rfl) (by kernel_rfl) (fun _ _ _ h => h) (Or.inl ⟨by rfl, ?_⟩) hS6 ?_
            rotate_left 1
            · (intro w hSw; obtain hSw1 := hSw; go_simp; try with_reducible rfl)
            simp only [Act.put, List.setIfInBounds_toArray, List.set_cons_zero, List.set_cons_succ]
            refine wpAnyH_take (i := 26) (oi := ⟨some 140, _, _, _, _, _⟩) (v := ?_) rfl (by kernel_rfl) (by kernel_rfl) (by kernel_rfl) (fun _ _ _ h => h) (Or.inl ⟨by rfl, ?_⟩) hS6 ?_
            rotate_left 1
            · (intro w hSw; obtain hSw1 := hSw; go_simp; try with_reducible rfl)
            simp only [Act.put, List.setIfInBounds_toArray, List.set_cons_zero, List.set_cons_succ]
            refine wpAnyH_ready (rs := [25]) (by kernel_rfl) (by simp) ?_
            refine AllReadyH.cons (o := ⟨some 139, _, _, _, _, _⟩) rfl (fun K hK => ?_) AllReadyH.nil
            go_simp
            refine (HJ6.out.room).mono ?_
            rintro e w7 ⟨rfl, hb7⟩
            have HJ7 := hide (HJ6.out.below hb7)
            have hS7 : w7.cell? ⟨b, off + k * 8 + 1, none⟩ = some (.int .i64 on) := by obtain ⟨b2, off2, e2, hat2⟩ := (HRO.out.below HJ7.out.bel).at_ Hok.out; cases e2; exact hat2.2.1
            clear hb7 HJ6
            refine hK.out _ _ hS7 (fun hHeld => ?_)
            clear hK K
            clear hHeld
            refine wpAnyH_take (i := 27) (oi := ⟨some 141, _, _, _, _, _⟩) (v := ?_) rfl (by kernel_rfl) (by kernel_rfl) (by kernel_rfl) (fun _ _ _ h => h) (Or.inl ⟨by rfl, ?_⟩) hS7 ?_
            rotate_left 1
            · (intro w hSw; obtain hSw1 := hSw; go_simp; try with_reducible rfl)
            simp only [Act.put, List.setIfInBounds_toArray, List.set_cons_zero, List.set_cons_succ]
            refine wpAnyH_take (i := 28) (oi := ⟨some 142, _, _, _, _, _⟩) (v := ?_) rfl (by kernel_rfl) (by kernel_rfl) (by kernel_rfl) (fun _ _ _ h => h) (Or.inl ⟨by rfl, ?_⟩) hS7 ?_
            rotate_left 1
            · (intro w hSw; obtain hSw1 := hSw; go_simp; try with_reducible rfl)
            simp only [Act.put, List.setIfInBounds_toArray, List.set_cons_zero, List.set_cons_succ]
            refine wpAnyH_take (i := 29) (oi := ⟨some 143, _, _, _, _, _⟩) (v := ?_) rfl (by kernel_rfl) (by kernel_rfl) (by kernel_rfl) (fun _ _ _ h => h) (Or.inl ⟨by rfl, ?_⟩) hS7 ?_
            rotate_left 1
            · (intro w hSw; obtain hSw1 := hSw; go_simp; try with_reducible rfl)
            simp only [Act.put, List.setIfInBounds_toArray, List.set_cons_zero, List.set_cons_succ]
            refine wpAnyH_done (by kernel_rfl) ?_ _
            clear hS5 hS6 hS7
            go_wp2_with fail
            refine (HJ7.out.records).mono ?_
            rintro e w10 ⟨A10, m10, c10, rfl, hm10, hmn, hmc, hsr, hb10⟩
            have HJ10 := hide (HJ7.out.below hb10)
            have HS10 := hide hsr
            have hlim10 := HJ7.out.lim
            have hm20 : (m10 : Int) ≤ 20 := by have := hlim10.2.2; omega
            have hnx3 : (nx : Int) ≤ 1001 := by have := hlim10.1; omega
            have hmn3 : (m10 : Int) ≤ (nx : Int) := by omega
            have hmc3 : (m10 : Int) ≤ (c10 : Int) := by omega
            have hrm3 : (rm : Int) ≤ (nn : Int) := by have := hlim10.2.1; omega
            clear hsr hb10 HJ7 hlim10 hmn hmc
            go_wp2_with fail
            refine (HJ10.out.room).mono ?_
            rintro e w11 ⟨rfl, hb11⟩
            have HJ11 := hide (HJ10.out.below hb11)
            have HS11 := hide (HS10.out.below hb11)
            clear hb11 HJ10 HS10
            go_wp2
            go_loopw [155] (fun j2 wr2 => ∃ (k2 : Nat), k2 ≤ m10 ∧ j2 = .int .i64 k2 ∧ Hid (JN w1 p q nn nx rm (1 + k + 1) wr2) ∧ Hid (SeqRow wr2 A10 m10 nx)) (fun j2 _ => m10 - (intOf j2).toNat)
            case atStart => exact ⟨0, Nat.zero_le _, rfl, HJ11.out, HS11.out⟩
            case round =>
              clear HJ11 HS11
              obtain ⟨k2, hk2, rfl, hj2, hsr⟩ := hrel
              rcases Nat.lt_or_ge k2 m10 with hlt2 | hge2
              · have Hlt2 := hide hlt2
                have hk2i : (k2 : Int) < (m10 : Int) := by omega
                obtain ⟨g, rfl, hgl, hg0'⟩ := hsr.out k2 hlt2
                have hg0 : wr.drew.cell? ⟨g, k2 * 5, none⟩ = some (.int .i64 ((nx - m10 + k2 : Nat) : Int)) := hg0'
                obtain ⟨sq, hsq⟩ : ∃ sq, nx - m10 + k2 = sq := ⟨_, rfl⟩
                have Hsq := hide hsq
                rw [hsq] at hg0
                have hsqi : (nx : Int) - (m10 : Int) + (k2 : Int) = (sq : Int) := by omega
                have hS0 : wr.drew.cell? ⟨g, k2 * 5, none⟩ = some (.int .i64 (sq : Int)) := hg0
                have hcmp : ((sq : Int) != IntKind.i64.wrap (IntKind.i64.wrap ((nx : Int) - (m10 : Int)) + (k2 : Int))) = false := by
                  have e1 : IntKind.i64.wrap ((nx : Int) - (m10 : Int)) = (nx : Int) - (m10 : Int) := by rw [IntKind.wrap_i64]; omega
                  have e2 : IntKind.i64.wrap ((nx : Int) - (m10 : Int) + (k2 : Int)) = (sq : Int) := by rw [IntKind.wrap_i64]; omega
                  rw [e1, e2]
                  simp
                clear hlt2 hsq hg0 hg0' hgl
                go_wp2
                refine wp_region_held (S := (fun W => W.cell? ⟨g, k2 * 5, none⟩ = some (.int .i64 (sq : Int)))) (by kernel_rfl) ?_
                change wpAnyH _ _ _ _ _ _ _ _ (World.drew _)
                refine wpAnyH_take (i := 0) (oi := ⟨some 158, _, _, _, _, _⟩) (v := ?_) rfl (by kernel_rfl) (by kernel_rfl) (by kernel_rfl) (fun _ _ _ h => h) (Or.inl ⟨by rfl, ?_⟩) hS0 ?_
                rotate_left 1
                · (intro w hSw; obtain hSw1 := hSw; go_simp; try with_reducible rfl)
                simp only [Act.put, List.setIfInBounds_toArray, List.set_cons_zero, List.set_cons_succ]
                refine wpAnyH_take (i := 1) (oi := ⟨some 159, _, _, _, _, _⟩) (v := ?_) rfl (by kernel_rfl) (by kernel_rfl) (by kernel_rfl) (fun _ _ _ h => h) (Or.inl ⟨by rfl, ?_⟩) hS0 ?_
                rotate_left 1
                · (intro w hSw; obtain hSw1 := hSw; go_simp; try with_reducible rfl)
                simp only [Act.put, List.setIfInBounds_toArray, List.set_cons_zero, List.set_cons_succ]
                refine wpAnyH_take (i := 2) (oi := ⟨some 160, _, _, _, _, _⟩) (v := ?_) rfl (by kernel_rfl) (by kernel_rfl) (by kernel_rfl) (fun _ _ _ h => h) (Or.inl ⟨by rfl, ?_⟩) hS0 ?_
                rotate_left 1
                · (intro w hSw; obtain hSw1 := hSw; go_simp; try with_reducible rfl)
                simp only [Act.put, List.setIfInBounds_toArray, List.set_cons_zero, List.set_cons_succ]
                refine wpAnyH_take (i := 3) (oi := ⟨some 161, _, _, _, _, _⟩) (v := ?_) rfl (by kernel_rfl) (by kernel_rfl) (by kernel_rfl) (fun _ _ _ h => h) (Or.inl ⟨by rfl, ?_⟩) hS0 ?_
                rotate_left 1
                · (intro w hSw; obtain hSw1 := hSw; go_simp; try with_reducible rfl)
                simp only [Act.put, List.setIfInBounds_toArray, List.set_cons_zero, List.set_cons_succ]
                refine wpAnyH_take (i := 4) (oi := ⟨some 162, _, _, _, _, _⟩) (v := ?_) rfl (by kernel_rfl) (by kernel_rfl) (by kernel_rfl) (fun _ _ _ h => h) (Or.inl ⟨by rfl, ?_⟩) hS0 ?_
                rotate_left 1
                · (intro w hSw; obtain hSw1 := hSw; go_simp; try with_reducible rfl)
                simp only [Act.put, List.setIfInBounds_toArray, List.set_cons_zero, List.set_cons_succ]
                refine wpAnyH_take (i := 5) (oi := ⟨some 163, _, _, _, _, _⟩) (v := ?_) rfl (by kernel_rfl) (by kernel_rfl) (by kernel_rfl) (fun _ _ _ h => h) (Or.inl ⟨by rfl, ?_⟩) hS0 ?_
                rotate_left 1
                · (intro w hSw; obtain hSw1 := hSw; go_simp; try with_reducible rfl)
                simp only [Act.put, List.setIfInBounds_toArray, List.set_cons_zero, List.set_cons_succ]
                refine wpAnyH_take (i := 7) (oi := ⟨some 165, _, _, _, _, _⟩) (v := ?_) rfl (by kernel_rfl) (by kernel_rfl) (by kernel_rfl) (fun _ _ _ h => h) (Or.inl ⟨by rfl, ?_⟩) hS0 ?_
                rotate_left 1
                · (intro w hSw; obtain hSw1 := hSw; go_simp; try with_reducible rfl)
                simp only [Act.put, List.setIfInBounds_toArray, List.set_cons_zero, List.set_cons_succ]
                refine wpAnyH_take (i := 8) (oi := ⟨some 166, _, _, _, _, _⟩) (v := ?_) rfl (by kernel_rfl) (by kernel_rfl) (by kernel_rfl) (fun _ _ _ h => h) (Or.inl ⟨by rfl, ?_⟩) hS0 ?_
                rotate_left 1
                · (intro w hSw; obtain hSw1 := hSw; go_simp; try with_reducible rfl)
                simp only [Act.put, List.setIfInBounds_toArray, List.set_cons_zero, List.set_cons_succ]
                refine wpAnyH_take (i := 10) (oi := ⟨some 168, _, _, _, _, _⟩) (v := ?_) rfl (by kernel_rfl) (by kernel_rfl) (by kernel_rfl) (fun _ _ _ h => h) (Or.inl ⟨by rfl, ?_⟩) hS0 ?_
                rotate_left 1
                · (intro w hSw; obtain hSw1 := hSw; go_simp; try with_reducible rfl)
                simp only [Act.put, List.setIfInBounds_toArray, List.set_cons_zero, List.set_cons_succ]
                refine wpAnyH_ready (rs := [6]) (by kernel_rfl) (by simp) ?_
                refine AllReadyH.cons (o := ⟨some 164, _, _, _, _, _⟩) rfl (fun K hK => ?_) AllReadyH.nil
                go_simp
                refine (hj2.out.drew.next).mono ?_
                rintro e w12 ⟨rfl, hb12⟩
                have HJ12 := hide (hj2.out.drew.below hb12)
                have HSR12 := hide ((hsr.out.below (Below.refl _ _).drew).below hb12)
                have hS12 : w12.cell? ⟨g, k2 * 5, none⟩ = some (.int .i64 (sq : Int)) := by obtain ⟨g2, e2, _, hc2⟩ := HSR12.out k2 Hlt2.out; cases e2; rw [Hsq.out] at hc2; exact hc2
                clear hb12
                refine hK.out _ _ hS12 (fun hHeld => ?_)
                clear hK K
                clear hHeld
                refine wpAnyH_take (i := 9) (oi := ⟨some 167, _, _, _, _, _⟩) (v := ?_) rfl (by kernel_rfl) (by kernel_rfl) (by kernel_rfl) (fun _ _ _ h => h) (Or.inl ⟨by rfl, ?_⟩) hS12 ?_
                rotate_left 1
                · (intro w hSw; obtain hSw1 := hSw; go_simp; try with_reducible rfl)
                simp only [Act.put, List.setIfInBounds_toArray, List.set_cons_zero, List.set_cons_succ]
                refine wpAnyH_take (i := 11) (oi := ⟨some 169, _, _, _, _, _⟩) (v := ?_) rfl (by kernel_rfl) (by kernel_rfl) (by kernel_rfl) (fun _ _ _ h => h) (Or.inl ⟨by rfl, ?_⟩) hS12 ?_
                rotate_left 1
                · (intro w hSw; obtain hSw1 := hSw; go_simp; try with_reducible rfl)
                simp only [Act.put, List.setIfInBounds_toArray, List.set_cons_zero, List.set_cons_succ]
                refine wpAnyH_take (i := 12) (oi := ⟨some 170, _, _, _, _, _⟩) (v := ?_) rfl (by kernel_rfl) (by kernel_rfl) (by kernel_rfl) (fun _ _ _ h => h) (Or.inl ⟨by rfl, ?_⟩) hS12 ?_
                rotate_left 1
                · (intro w hSw; obtain hSw1 := hSw; go_simp; try with_reducible rfl)
                simp only [Act.put, List.setIfInBounds_toArray, List.set_cons_zero, List.set_cons_succ]
                refine wpAnyH_done (by kernel_rfl) ?_ _
                clear hS0 hS12
                go_wp2
                go_roundw
                case rel => exact ⟨k2 + 1, Hlt2.out, by go_num, HJ12.out, HSR12.out⟩
                case measure => have := Hlt2.out; simp [intOf]; omega
              · have hk2m : ¬ ((k2 : Int) < (m10 : Int)) := by omega
                clear hge2 hk2 hsr
                go_wp2
                go_roundw
                case rel => exact ⟨k + 1, nx, rm, Hlt.out, by go_num, by rw [show 1 + (k + 1) = 1 + k + 1 by omega]; exact hj2.out⟩
                case measure => have := Hlt.out; simp [intOf]; omega
        · have q1 : (kind == 1) = false := by simpa using k1
          have q3 : (kind == 3) = false := by simpa using k3
          have HJ5 := hide (HJ4.out.more (T' := 1 + k + 1) (by omega) HTT.out)
          clear e1 e2 e3 e4 e5 e6 e7 HJ4
          go_wp2_with fail
          refine (HJ5.out.records).mono ?_
          rintro e w10 ⟨A10, m10, c10, rfl, hm10, hmn, hmc, hsr, hb10⟩
          have HJ10 := hide (HJ5.out.below hb10)
          have HS10 := hide hsr
          have hlim10 := HJ5.out.lim
          have hm20 : (m10 : Int) ≤ 20 := by have := hlim10.2.2; omega
          have hnx3 : (nx : Int) ≤ 1001 := by have := hlim10.1; omega
          have hmn3 : (m10 : Int) ≤ (nx : Int) := by omega
          have hmc3 : (m10 : Int) ≤ (c10 : Int) := by omega
          have hrm3 : (rm : Int) ≤ (nn : Int) := by have := hlim10.2.1; omega
          clear hsr hb10 HJ5 hlim10 hmn hmc
          go_wp2_with fail
          refine (HJ10.out.room).mono ?_
          rintro e w11 ⟨rfl, hb11⟩
          have HJ11 := hide (HJ10.out.below hb11)
          have HS11 := hide (HS10.out.below hb11)
          clear hb11 HJ10 HS10
          go_wp2
          go_loopw [155] (fun j2 wr2 => ∃ (k2 : Nat), k2 ≤ m10 ∧ j2 = .int .i64 k2 ∧ Hid (JN w1 p q nn nx rm (1 + k + 1) wr2) ∧ Hid (SeqRow wr2 A10 m10 nx)) (fun j2 _ => m10 - (intOf j2).toNat)
          case atStart => exact ⟨0, Nat.zero_le _, rfl, HJ11.out, HS11.out⟩
          case round =>
            clear HJ11 HS11
            obtain ⟨k2, hk2, rfl, hj2, hsr⟩ := hrel
            rcases Nat.lt_or_ge k2 m10 with hlt2 | hge2
            · have Hlt2 := hide hlt2
              have hk2i : (k2 : Int) < (m10 : Int) := by omega
              obtain ⟨g, rfl, hgl, hg0'⟩ := hsr.out k2 hlt2
              have hg0 : wr.drew.cell? ⟨g, k2 * 5, none⟩ = some (.int .i64 ((nx - m10 + k2 : Nat) : Int)) := hg0'
              obtain ⟨sq, hsq⟩ : ∃ sq, nx - m10 + k2 = sq := ⟨_, rfl⟩
              have Hsq := hide hsq
              rw [hsq] at hg0
              have hsqi : (nx : Int) - (m10 : Int) + (k2 : Int) = (sq : Int) := by omega
              have hS0 : wr.drew.cell? ⟨g, k2 * 5, none⟩ = some (.int .i64 (sq : Int)) := hg0
              have hcmp : ((sq : Int) != IntKind.i64.wrap (IntKind.i64.wrap ((nx : Int) - (m10 : Int)) + (k2 : Int))) = false := by
                have e1 : IntKind.i64.wrap ((nx : Int) - (m10 : Int)) = (nx : Int) - (m10 : Int) := by rw [IntKind.wrap_i64]; omega
                have e2 : IntKind.i64.wrap ((nx : Int) - (m10 : Int) + (k2 : Int)) = (sq : Int) := by rw [IntKind.wrap_i64]; omega
                rw [e1, e2]
                simp
              clear hlt2 hsq hg0 hg0' hgl
              go_wp2
              refine wp_region_held (S := (fun W => W.cell? ⟨g, k2 * 5, none⟩ = some (.int .i64 (sq : Int)))) (by kernel_rfl) ?_
              change wpAnyH _ _ _ _ _ _ _ _ (World.drew _)
              refine wpAnyH_take (i := 0) (oi := ⟨some 158, _, _, _, _, _⟩) (v := ?_) rfl (by kernel_rfl) (by kernel_rfl) (by kernel_rfl) (fun _ _ _ h => h) (Or.inl ⟨by rfl, ?_⟩) hS0 ?_
              rotate_left 1
              · (intro w hSw; obtain hSw1 := hSw; go_simp; try with_reducible rfl)
              simp only [Act.put, List.setIfInBounds_toArray, List.set_cons_zero, List.set_cons_succ]
              refine wpAnyH_take (i := 1) (oi := ⟨some 159, _, _, _, _, _⟩) (v := ?_) rfl (by kernel_rfl) (by kernel_rfl) (by kernel_rfl) (fun _ _ _ h => h) (Or.inl ⟨by rfl, ?_⟩) hS0 ?_
              rotate_left 1
              · (intro w hSw; obtain hSw1 := hSw; go_simp; try with_reducible rfl)
              simp only [Act.put, List.setIfInBounds_toArray, List.set_cons_zero, List.set_cons_succ]
              refine wpAnyH_take (i := 2) (oi := ⟨some 160, _, _, _, _, _⟩) (v := ?_) rfl (by kernel_rfl) (by kernel_rfl) (by kernel_rfl) (fun _ _ _ h => h) (Or.inl ⟨by rfl, ?_⟩) hS0 ?_
              rotate_left 1
              · (intro w hSw; obtain hSw1 := hSw; go_simp; try with_reducible rfl)
              simp only [Act.put, List.setIfInBounds_toArray, List.set_cons_zero, List.set_cons_succ]
              refine wpAnyH_take (i := 3) (oi := ⟨some 161, _, _, _, _, _⟩) (v := ?_) rfl (by kernel_rfl) (by kernel_rfl) (by kernel_rfl) (fun _ _ _ h => h) (Or.inl ⟨by rfl, ?_⟩) hS0 ?_
              rotate_left 1
              · (intro w hSw; obtain hSw1 := hSw; go_simp; try with_reducible rfl)
              simp only [Act.put, List.setIfInBounds_toArray, List.set_cons_zero, List.set_cons_succ]
              refine wpAnyH_take (i := 4) (oi := ⟨some 162, _, _, _, _, _⟩) (v := ?_) rfl (by kernel_rfl) (by kernel_rfl) (by kernel_rfl) (fun _ _ _ h => h) (Or.inl ⟨by rfl, ?_⟩) hS0 ?_
              rotate_left 1
              · (intro w hSw; obtain hSw1 := hSw; go_simp; try with_reducible rfl)
              simp only [Act.put, List.setIfInBounds_toArray, List.set_cons_zero, List.set_cons_succ]
              refine wpAnyH_take (i := 5) (oi := ⟨some 163, _, _, _, _, _⟩) (v := ?_) rfl (by kernel_rfl) (by kernel_rfl) (by kernel_rfl) (fun _ _ _ h => h) (Or.inl ⟨by rfl, ?_⟩) hS0 ?_
              rotate_left 1
              · (intro w hSw; obtain hSw1 := hSw; go_simp; try with_reducible rfl)
              simp only [Act.put, List.setIfInBounds_toArray, List.set_cons_zero, List.set_cons_succ]
              refine wpAnyH_take (i := 7) (oi := ⟨some 165, _, _, _, _, _⟩) (v := ?_) rfl (by kernel_rfl) (by kernel_rfl) (by kernel_rfl) (fun _ _ _ h => h) (Or.inl ⟨by rfl, ?_⟩) hS0 ?_
              rotate_left 1
              · (intro w hSw; obtain hSw1 := hSw; go_simp; try with_reducible rfl)
              simp only [Act.put, List.setIfInBounds_toArray, List.set_cons_zero, List.set_cons_succ]
              refine wpAnyH_take (i := 8) (oi := ⟨some 166, _, _, _, _, _⟩) (v := ?_) rfl (by kernel_rfl) (by kernel_rfl) (by kernel_rfl) (fun _ _ _ h => h) (Or.inl ⟨by rfl, ?_⟩) hS0 ?_
              rotate_left 1
              · (intro w hSw; obtain hSw1 := hSw; go_simp; try with_reducible rfl)
              simp only [Act.put, List.setIfInBounds_toArray, List.set_cons_zero, List.set_cons_succ]
              refine wpAnyH_take (i := 10) (oi := ⟨some 168, _, _, _, _, _⟩) (v := ?_) rfl (by kernel_rfl) (by kernel_rfl) (by kernel_rfl) (fun _ _ _ h => h) (Or.inl ⟨by rfl, ?_⟩) hS0 ?_
              rotate_left 1
              · (intro w hSw; obtain hSw1 := hSw; go_simp; try with_reducible rfl)
              simp only [Act.put, List.setIfInBounds_toArray, List.set_cons_zero, List.set_cons_succ]
              refine wpAnyH_ready (rs := [6]) (by kernel_rfl) (by simp) ?_
              refine AllReadyH.cons (o := ⟨some 164, _, _, _, _, _⟩) rfl (fun K hK => ?_) AllReadyH.nil
              go_simp
              refine (hj2.out.drew.next).mono ?_
              rintro e w12 ⟨rfl, hb12⟩
              have HJ12 := hide (hj2.out.drew.below hb12)
              have HSR12 := hide ((hsr.out.below (Below.refl _ _).drew).below hb12)
              have hS12 : w12.cell? ⟨g, k2 * 5, none⟩ = some (.int .i64 (sq : Int)) := by obtain ⟨g2, e2, _, hc2⟩ := HSR12.out k2 Hlt2.out; cases e2; rw [Hsq.out] at hc2; exact hc2
              clear hb12
              refine hK.out _ _ hS12 (fun hHeld => ?_)
              clear hK K
              clear hHeld
              refine wpAnyH_take (i := 9) (oi := ⟨some 167, _, _, _, _, _⟩) (v := ?_) rfl (by kernel_rfl) (by kernel_rfl) (by kernel_rfl) (fun _ _ _ h => h) (Or.inl ⟨by rfl, ?_⟩) hS12 ?_
              rotate_left 1
              · (intro w hSw; obtain hSw1 := hSw; go_simp; try with_reducible rfl)
              simp only [Act.put, List.setIfInBounds_toArray, List.set_cons_zero, List.set_cons_succ]
              refine wpAnyH_take (i := 11) (oi := ⟨some 169, _, _, _, _, _⟩) (v := ?_) rfl (by kernel_rfl) (by kernel_rfl) (by kernel_rfl) (fun _ _ _ h => h) (Or.inl ⟨by rfl, ?_⟩) hS12 ?_
              rotate_left 1
              · (intro w hSw; obtain hSw1 := hSw; go_simp; try with_reducible rfl)
              simp only [Act.put, List.setIfInBounds_toArray, List.set_cons_zero, List.set_cons_succ]
              refine wpAnyH_take (i := 12) (oi := ⟨some 170, _, _, _, _, _⟩) (v := ?_) rfl (by kernel_rfl) (by kernel_rfl) (by kernel_rfl) (fun _ _ _ h => h) (Or.inl ⟨by rfl, ?_⟩) hS12 ?_
              rotate_left 1
              · (intro w hSw; obtain hSw1 := hSw; go_simp; try with_reducible rfl)
              simp only [Act.put, List.setIfInBounds_toArray, List.set_cons_zero, List.set_cons_succ]
              refine wpAnyH_done (by kernel_rfl) ?_ _
              clear hS0 hS12
              go_wp2
              go_roundw
              case rel => exact ⟨k2 + 1, Hlt2.out, by go_num, HJ12.out, HSR12.out⟩
              case measure => have := Hlt2.out; simp [intOf]; omega
            · have hk2m : ¬ ((k2 : Int) < (m10 : Int)) := by omega
              clear hge2 hk2 hsr
              go_wp2
              go_roundw
              case rel => exact ⟨k + 1, nx, rm, Hlt.out, by go_num, by rw [show 1 + (k + 1) = 1 + k + 1 by omega]; exact hj2.out⟩
              case measure => have := Hlt.out; simp [intOf]; omega
    · have hkn : ¬ ((k : Int) < (n : Int)) := by omega
      have HB := hide (HB1.out.trans (hj.out.bel.mono HB1.out.size))
      clear hj hge hk
      go_wp2
      go_ret
      exact ⟨rfl, HB.out⟩

set_option maxRecDepth 100000 in
theorem Counts_any (ring : Nat) (A : Option Addr) (n c : Nat) (l : List Oq) (w : World) (ht : Tab w) (hring : ring < 256) (hl : l.length = n) (hp : Ops w w.heap.size A l) (hf : OFits l) :
    Calls Tryd.prog 6 #[.int .u8 (ring : Int), .slice A n c] w fun e w' => e = .returned (.bool true) ∧ Below w.heap.size w w' := by
  by_cases hfew : Few l
  · exact Counts_good ring A n c l w ht hring hl hp hf hfew
  · have HT := hide ht
    have Hl := hide hl
    have Hp := hide hp
    have Hf := hide hf
    have Hfew := hide hfew
    clear ht hl hp hf hfew
    go_enter Tryd.func6, Tryd.ntmps6
    go_wp2_with fail
    refine (awake_any w HT.out).mono ?_
    rintro e w1 ⟨rfl, hb1⟩
    have HB1 := hide hb1
    clear hb1
    go_wp2_with fail
    refine (few_any A n c l w1 Hl.out (((Hp.out.below HB1.out)).more1 HB1.out.size) Hf.out).mono ?_
    rintro e w' ⟨⟨b, rfl, hb⟩, rfl⟩
    obtain rfl : b = false := by cases b; rfl; exact absurd (hb.1 rfl) Hfew.out
    clear hb
    go_wp2_with fail
    refine (awake_any w1 (HT.out.below HB1.out HT.out.pos)).mono ?_
    rintro e w2 ⟨rfl, hb2⟩
    have HB2 := hide (HB1.out.trans (hb2.mono HB1.out.size))
    clear hb2
    go_wp2
    go_ret
    exact ⟨rfl, HB2.out⟩

end Go.Proofs.YtmfgcinikopgnaaDoor.Jn

namespace Go.Proofs.YtmfgcinikopgnaaDoor.journalCounts
open Go.ChangeShapes Go.WideShapes Go.ChangeAt Go.RowKit
open Go.ChangeMaps (open_string shut_string)
open Go.Deep
open Rc Jn

theorem laidOut : laidOutB Tryd.prog = true := by kernel_rfl

set_option maxRecDepth 100000 in
theorem lifted (os : Os) (started : os.Started) (H : Type) (enc : TypeId × Value → H) :
    ReturnsInHanded {} Tryd.checked os 6 .any (fun w args => (Rows.journalCountsSpec.pre enc Tryd.prog Tryd.f6 [] false w args ∧ laidMetH Tryd.prog laidH w) ∧ sizedMet enc Tryd.prog Tryd.f6 (OpenSpec.ofChange Rows.journalCountsSpec) false w args)
      (Rows.journalCountsSpec.post enc Tryd.prog Tryd.f6 false true false false) := by
  refine returnsInHanded_of_change_and (C := Tryd.checked) (X := fun w _ => laidMetH Tryd.prog laidH w) (fun _ _ _ hh h => h.of_heap hh) own started (by kernel_rfl) Tryd.func6
    (ChangeSpec.witness_shaped (enc := enc) (C := Tryd.checked) (os := os) (X := fun w _ => laidMetH Tryd.prog laidH w) false (World.doorLaid Tryd.prog 21 os) #[.int .u8 0, .slice none 0 0] 8 rfl (World.shaped_of_RefB (by kernel_rfl) (by kernel_rfl)) (by kernel_rfl) (by kernel_rfl) (by kernel_rfl) (Rc.door_metH os _)) ?_
  intro W base args ds gs before hval0 hW _ _ hL _
  have hval : ∀ (j : Nat) t v, Tryd.f6.params[j]? = some t → args[j]? = some v → Value.okWide Tryd.prog W .any base t v := hval0
  have hW' := hW
  obtain ⟨p, q, hA0, hV, rfl, hfz, hnd⟩ := hW
  have hA : DataW.TrodAll enc Tryd.prog W 0 (fun _ => true) true Tryd.f6.params.toList args.toList ds p := hA0
  rw [Tryd.params6] at hA hval
  obtain ⟨v0, vs0, d0, ds0, p0, q0, hargs, rfl, rfl, h0, r0⟩ := trodAll_cons hA
  obtain ⟨v1, vs1, d1, ds1, p1, q1, rfl, rfl, rfl, h1, r1⟩ := trodAll_cons r0
  obtain ⟨rfl, rfl, rfl⟩ := trodAll_nil r1
  obtain rfl : args = #[v0, v1] := by cases args; simp_all
  obtain ⟨rfl, rfl⟩ := trodVars_none hV
  obtain ⟨a0, rfl, rfl, rfl, w0⟩ := open_int Tryd.underlying5 (hval 0 5 v0 rfl rfl) h0
  have b0 := bounds_u8 w0
  obtain ⟨m0, rfl⟩ : ∃ m : Nat, a0 = (m : Int) := ⟨a0.toNat, by omega⟩
  obtain ⟨A1, n1, c1, rfl⟩ := okWide_slice Tryd.underlying22 (hval 1 22 v1 rfl rfl)
  have k1 := h1
  have lt1 : ∀ x ∈ p1, x.block < W.heap.size := by obtain ⟨m, hm⟩ := k1; exact DataW.trod_lt m _ _ _ hm
  obtain ⟨l1, hln1, hft1, hpl1⟩ := open_ops6 h1
  clear hA0 hval0
  refine (Counts_any m0 A1 n1 c1 l1 W (met_of_laidH hL) (by omega) hln1 hpl1 hft1).mono fun e W' ⟨he, bel⟩ => ?_
  subst he
  exact ⟨_, rfl, _, _, _, [], _, [], hW', trodAll_mk1 (shut_bool Tryd.underlying4 _), (trodAll_cons_mk (shut_int Tryd.underlying5 w0) (trodAll_cons_mk (Below.trod laidOut (by kernel_rfl) (of_decide_eq_true (by kernel_rfl)) k1 bel lt1) trodAll_mk0)), rfl, bel.frame _, fun h => by cases h⟩

theorem row : Rows.JournalCountsSaid :=
  OpenClaim.holds_of_wide 6 Tryd.f6 rfl rfl rfl rfl rfl rfl rfl ⟨rfl, rfl, rfl, rfl, rfl⟩ rfl rfl rfl rfl rfl (by kernel_rfl) Tryd.func6 (by kernel_rfl)
    (of_decide_eq_true (by kernel_rfl)) (by unfold Func.isWrapper; first | (rw [if_pos (by decide +kernel)]; kernel_rfl) | (rw [if_neg (by decide +kernel)]; exact ⟨rfl, rfl⟩))
    (fun os started H enc _ => lifted os started H enc)

theorem proved : Rows.JournalCountsCardSaid :=
  Claim7.holds_tied_plain_at .later [] [.data] true Rows.journalCountsCard.stood.harness true
    row (fun _ h => by cases h) (by kernel_rfl) (fun _ h => by cases h) journalCounts_row_tie rfl ⟨rfl, rfl⟩ (by kernel_rfl) rfl
    (fun f fn hf hfn => by
      obtain rfl : f = 6 := Option.some.inj ((show Tryd.prog.funcNamed "isobar/isobarlaw06.JournalCounts" = some 6 by kernel_rfl).symm.trans hf) |>.symm
      obtain rfl : fn = Tryd.f6 := (Option.some.inj (Tryd.func6.symm.trans hfn)).symm
      exact ⟨by kernel_rfl, fun j t ht => by
        rw [Tryd.params6] at ht
        have hm : t ∈ [5, 22] := by simpa using Array.mem_of_getElem? ht
        have hall : ([5, 22].all fun u => !Tryd.prog.wantsStandIn u) = true := by kernel_rfl
        exact (show Tryd.prog.wantsStandIn t = false by simpa using List.all_eq_true.1 hall t hm)⟩)
    (by kernel_rfl)
#print axioms proved
end Go.Proofs.YtmfgcinikopgnaaDoor.journalCounts
