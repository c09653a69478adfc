/-
  VolumeOpens: of any sectors the two Opens' answers, and what both volumes hold, are the same. Conditions: the table of half bytes, and the library's variable errors.errorType, hold what the program's own text lays.
-/
import Derived.Test.YtapiogcoipeinaaGreatDoorU29
import Derived.Test.YtapiogcoipeinaaGreatDoorU12
import Derived.Test.YtapiogcoipeinaaGreatDoorU23
import Derived.Deep.RegionHeld3
namespace Go.Proofs.YtapiogcoipeinaaGreatDoor.Vo
open Go.RowKit
open Pk hiding str str_data str_size str_of run_str head_str str_append
open Sm hiding run_str
open Fa
open Rc hiding zer
open Dk Jn
section
variable {w0 w w' : World} {v p q rv p2 q2 n bo : Nat} {ob : Obj} {S S2 : List Sec} {L L2 : List Wr} {h h2 : Hd} {E E2 : List Ent} {H H2 : Nat → Hm}
theorem TV.pread (j : TV w0 v p q rv p2 q2 n S L h E H S2 L2 h2 E2 H2 bo ob w) {b : Nat} (hb : b < 8) (hE : E.length ≤ 1000) :
 Calls Tryz.prog 18 #[.pointer (some ⟨v, 0, none⟩), .int .i64 (b : Int)] w fun e w' => e = .returned (.tuple #[.string (blk H E b), .nilIface]) ∧ Below w.heap.size w w' := by
 obtain ⟨R, hv, _⟩ := j.liftP
 exact Read_good hv b hb hE
theorem TV.rread' (j : TV w0 v p q rv p2 q2 n S L h E H S2 L2 h2 E2 H2 bo ob w) {b : Nat} (hb : b < 8) (hE : E2.length ≤ 1000) :
 Calls Tryz.prog 19 #[.pointer (some ⟨rv, 0, none⟩), .int .i64 (b : Int)] w fun e w' => e = .returned (.tuple #[.string (blk H2 E2 b), .int .i64 0]) ∧ Below w.heap.size w w' := by
 obtain ⟨G, hv, up⟩ := j.liftR
 exact rRead_good hv b hb hE
end
set_option maxRecDepth 100000 in
set_option maxHeartbeats 16000000 in
theorem Opens_few (A : Option Addr) (m c : Nat) (xs : List ByteArray) (ring : Int) (w : World) (hl : xs.length = m) (hm : m ≤ 40) (hp : Txts w w.heap.size A xs) (ht : Tab w) (hty : Ety w) :
 Calls Tryz.prog 4 #[.slice A m c, .int .i64 ring] w fun r w' => r = .returned (.bool true) ∧ Below w.heap.size w w' := by
 have HT := hide ht
 have HY := hide hty
 have HA := hide (awake_any w ht)
 have hmi : (m : Int) ≤ 40 := by omega
 have HM := hide hm
 have HN := hide (fun W => New_any (m : Int) m W (by omega))
 have HN2 := hide (fun W => RNew_any m W (by omega))
 have Hl := hide hl
 have Hp := hide hp
 clear hl hp ht hty hm
 go_enter Tryz.func4, Tryz.ntmps4
 go_wp2_with fail
 refine HA.out.mono ?_
 rintro e w1 ⟨rfl, hb1⟩
 have HB1 := hide hb1
 clear hb1 HA
 go_wp2_with fail
 refine (HN.out w1).mono ?_
 rintro e w2 ⟨q, D0, rfl, hd, hD, hb2⟩
 have HD := hide hd
 have HDG := hide hD
 have HB2 := hide hb2
 clear hd hD hb2 HN
 go_wp2_with fail
 refine (HN2.out w2).mono ?_
 rintro e w3 ⟨q2, D2, rfl, hr2, hD2, hb3⟩
 have HJ3 : Hid (TD w q q2 (List.replicate m zero) [] (List.replicate m zero) [] w3) := hide
  ⟨D0, D2, HD.out.below hb3, hr2, fun k hk => Nat.le_trans HB1.out.size (HDG.out k hk), fun k hk => by have := hD2 k hk; have := HB1.out.size; have := HB2.out.size; omega, fun k hk hk1 => by have := hD2 k hk; have := HD.out.lt k hk1; omega,
    (HB1.out.trans (HB2.out.mono HB1.out.size)).trans (hb3.mono (by have := HB1.out.size; have := HB2.out.size; omega))⟩
 clear hr2 hD2 hb3 HN2 HD HDG HB1 HB2
 go_wp2
 go_loopw [33] (fun jx wr => ∃ (k : Nat) (L : List Wr), k ≤ m ∧ jx = .int .i64 k ∧ Hid (L.length ≤ k) ∧ Hid (TD w q q2 (List.replicate m zero) L (List.replicate m zero) L wr)) (fun jx _ => m - (intOf jx).toNat)
 case atStart => exact ⟨0, [], Nat.zero_le _, rfl, hide (Nat.le_refl _), HJ3⟩
 case round =>
  obtain ⟨k, L, hk, rfl, hL, hj⟩ := hrel
  rcases Nat.lt_or_ge k m with hlt | hge
  ·have hki : (k : Int) < (m : Int) := by omega
   have Hlt := hide hlt
   obtain ⟨s, hs⟩ : ∃ s, xs[k]? = some s := ⟨_, List.getElem?_eq_getElem (by rw [Hl.out]; exact hlt)⟩
   obtain ⟨g, o, rfl, hg, hc⟩ := Hp.out (by rintro rfl; simp at hs)
   have HC : Hid (∀ W, Below w.heap.size w W → W.cell? ⟨g, o + k, none⟩ = some (.string s)) := hide fun W hb => (hb.cell (p := ⟨g, o + k, none⟩) hg).trans (hc k s hs)
   have hcell := HC.out wr hj.out.bel
   have HLL := hide (show L.length ≤ 40 by have := hL.out; have := HM.out; omega)
   clear hs hlt hg hc
   by_cases hlong : (300 : Int) < (s.size : Int)
   ·go_wp2
    go_ret
    exact ⟨rfl, hj.out.bel⟩
   obtain ⟨w3', c3, hc3, hc3', hrun, hbyt, hb3⟩ := to_bytes wr s (by unfold maxLen; omega)
   have HJ := hide (hj.out.below hb3)
   have Hbyt := hide hbyt
   have hcell3 := HC.out w3' HJ.out.bel
   clear hc3 hc3' hbyt hb3
   by_cases h64 : s.size = 64
   ·have HW := hide (HJ.out.write (c := c3) (i := k) (by rw [List.length_replicate]; exact Hlt.out) Hbyt.out (by rw [size_eq]; exact h64) (by have := HLL.out; omega))
    have H64 := hide h64
    rw [← h64] at HW
    clear h64
    go_wp2_with fail
    refine HW.out.mono ?_
    rintro r w4 ⟨rfl, hj4⟩
    have HR := hide (hj4.rwrite (i := k) (s := s) (by rw [List.length_replicate]; exact Hlt.out) H64.out (by have := HLL.out; omega))
    have hcell4 := HC.out w4 hj4.bel
    clear hj4 hcell hcell3 HW hrun
    go_wp2_with fail
    refine HR.out.mono ?_
    rintro r w5 ⟨rfl, hj5⟩
    have HJ5 := hide hj5
    clear hj5 HR hcell4
    go_wp2
    go_roundw
    case rel => exact ⟨k + 1, L ++ [(k, s.data.toList)], Hlt.out, by go_num, hide (by rw [List.length_append]; have := hL.out; simp; omega), HJ5⟩
    case measure => have := Hlt.out; simp [intOf]; omega
   ·have HW := hide (HJ.out.write_bad (c := c3) (A := some ⟨wr.heap.size, 0, none⟩) (i := k) (by rw [List.length_replicate]; exact Hlt.out) h64)
    have H64 := hide h64
    clear h64
    go_wp2_with fail
    refine HW.out.mono ?_
    rintro r w4 ⟨⟨v, rfl⟩, hj4⟩
    have HJ4 := hide hj4
    have HR := hide (hj4.rwrite_bad (i := k) (s := s) (by rw [List.length_replicate]; exact Hlt.out) H64.out)
    have hcell4 := HC.out w4 hj4.bel
    clear hj4 hcell hcell3 HW hrun
    go_wp2_with fail
    refine HR.out.mono ?_
    rintro r w5 ⟨rfl, rfl⟩
    clear HR hcell4
    go_wp2
    go_roundw
    case rel => exact ⟨k + 1, L, Hlt.out, by go_num, hide (by have := hL.out; omega), HJ4⟩
    case measure => have := Hlt.out; simp [intOf]; omega
  ·have hki : ¬ ((k : Int) < (m : Int)) := by omega
   have HLL := hide (show L.length ≤ 40 by have := hL.out; have := HM.out; omega)
   have HF := hide (hj.out.flush (by have := HLL.out; omega))
   clear HJ3 hL
   go_wp2_with fail
   refine HF.out.mono ?_
   rintro r w4 ⟨rfl, hj4⟩
   have HR := hide (hj4.rflush (by have := HLL.out; omega))
   clear hj4 hj HF
   go_wp2_with fail
   refine HR.out.mono ?_
   rintro r w5 ⟨rfl, hj5⟩
   obtain ⟨S, hS⟩ : ∃ S, all (List.replicate m zero) L = S := ⟨_, rfl⟩
   rw [hS] at hj5
   have HJ5 := hide hj5
   have HSL : Hid (S.length = m) := hide (by rw [← hS, all_length, List.length_replicate])
   clear hj5 HR hS
   obtain ⟨ob, ho⟩ : ∃ ob, w.heap[1]? = some ob := ⟨_, Array.getElem?_eq_getElem HT.out.pos⟩
   rcases HJ5.out.either HT.out ho (by have := HSL.out; have := HM.out; omega) ring with ⟨e, he, hw⟩ | ⟨n, h, E, H, S', rfl, h512, hf, hE, hw⟩
   ·have HW := hide hw
    have he3 : (e != 0) = true := by simp [he]
    have HE := hide he
    clear ho hw HJ5 he
    go_wp2_with fail
    refine HW.out.mono ?_
    rintro r w6 ⟨pp, rfl, hc⟩
    have HC := hide hc
    clear hc HW
    go_wp2_with fail
    refine HC.out.mono ?_
    rintro r w7 ⟨rfl, hv, hb⟩
    have HB := hide hb
    have HP := hide (place_flt (HY.out.below hb HY.out.lt) hv HE.out)
    clear hv hb HC
    go_wp2_with fail
    refine HP.out.mono ?_
    rintro r w8 ⟨rfl, hb8⟩
    have HB8 := hide (HB.out.trans (hb8.mono HB.out.size))
    clear hb8 HP HB
    go_wp2
    go_ret
    exact ⟨rfl, HB8.out⟩
   ·have HW := hide hw
    have HFF := hide hf
    have HEE := hide (show E.length ≤ 1000 by omega)
    clear ho hw HJ5 hf hE h512
    go_wp2_with fail
    refine HW.out.mono ?_
    rintro r w6 ⟨v, p, rfl, hc⟩
    have HC := hide hc
    clear hc HW
    go_wp2_with fail
    refine HC.out.mono ?_
    rintro r w7 ⟨rv, p2, rfl, hj7⟩
    have HJ7 := hide hj7
    have HP := hide (place_none (HY.out.below hj7.bel HY.out.lt) (n : Int))
    clear hj7 HC
    go_wp2_with fail
    refine HP.out.mono ?_
    rintro r w8 ⟨rfl, hb8⟩
    have HJ8 := hide (HJ7.out.below hb8)
    clear hb8 HP HJ7
    go_wp2
    go_loopw [88] (fun jx wq => ∃ i : Nat, i ≤ 8 ∧ jx = .int .i64 i ∧ Hid (TV w v p q rv p2 q2 n S' [] h E H S' [] h E H 1 ob wq)) (fun jx _ => 8 - (intOf jx).toNat)
    case atStart => exact ⟨0, by omega, rfl, HJ8⟩
    case round =>
     obtain ⟨i, hi8, rfl, hq⟩ := hrel
     rcases Nat.lt_or_ge i 8 with hlt8 | hge8
     ·have hii : (i : Int) < 8 := by omega
      have HC := hide (hq.out.pread hlt8 HEE.out)
      have HR : Hid (∀ W, TV w v p q rv p2 q2 n S' [] h E H S' [] h E H 1 ob W → _) := hide fun W j => j.rread' hlt8 HEE.out
      obtain ⟨y, hy⟩ : ∃ y, blk H E i = y := ⟨_, rfl⟩
      rw [hy] at HC HR
      clear hy HJ8
      go_wp2_with fail
      refine HC.out.mono ?_
      rintro r w9 ⟨rfl, hb9⟩
      have HJ9 := hide (hq.out.below hb9)
      clear hb9 HC hq
      go_wp2_with fail
      refine (HR.out w9 HJ9.out).mono ?_
      rintro r w10 ⟨rfl, hb10⟩
      have HJ10 := hide (HJ9.out.below hb10)
      clear hb10 HR HJ9
      go_wp2
      go_roundw
      case rel => exact ⟨i + 1, by omega, by go_num, HJ10⟩
      case measure => simp [intOf]; omega
     ·obtain rfl : i = 8 := by omega
      clear hge8 HJ8
      have HT80 := hide hq.out.drew
      obtain ⟨A2, c2, B2, d2, k1, k6, ha, k1q⟩ := HT80.out.cells
      obtain ⟨el, hel⟩ : ∃ el, E.length = el := ⟨_, rfl⟩
      obtain ⟨nx, hnx⟩ : ∃ nx, h.f + E.length = nx := ⟨_, rfl⟩
      have Hel := hide hel
      have Hnx := hide hnx
      rw [hel] at k6
      have HA80 := hide ha
      have hS80 := And.intro k1 k6
      clear k1 k6 ha k1q hel hnx hq
      go_wp2
      refine wp_region_held (S := (fun W => W.cell? ⟨rv, 1, none⟩ = some (.pointer (some ⟨p2, 0, none⟩)) ∧ W.cell? ⟨p2, 6, none⟩ = some (.slice A2 el c2))) (by kernel_rfl) ?_
      change wpAnyH _ _ _ _ _ _ _ _ (World.drew _)
      refine wpAnyH_take (i := 0) (oi := ⟨some 107, _, _, _, _, _⟩) (v := ?_) rfl (by kernel_rfl) (by kernel_rfl) (by kernel_rfl) (fun _ _ _ h => h) (Or.inl ⟨by rfl, ?_⟩) hS80 ?_
      rotate_left 1
      ·(intro w hSw; obtain ⟨hSw1, hSw2⟩ := hSw; go_simp; try with_reducible rfl)
      simp only [Act.put, sl]
      refine wpAnyH_take (i := 2) (oi := ⟨some 109, _, _, _, _, _⟩) (v := ?_) rfl (by kernel_rfl) (by kernel_rfl) (by kernel_rfl) (fun _ _ _ h => h) (Or.inl ⟨by rfl, ?_⟩) hS80 ?_
      rotate_left 1
      ·(intro w hSw; obtain ⟨hSw1, hSw2⟩ := hSw; go_simp; try with_reducible rfl)
      simp only [Act.put, sl]
      refine wpAnyH_take (i := 3) (oi := ⟨some 110, _, _, _, _, _⟩) (v := ?_) rfl (by kernel_rfl) (by kernel_rfl) (by kernel_rfl) (fun _ _ _ h => h) (Or.inl ⟨by rfl, ?_⟩) hS80 ?_
      rotate_left 1
      ·(intro w hSw; obtain ⟨hSw1, hSw2⟩ := hSw; go_simp; try with_reducible rfl)
      simp only [Act.put, sl]
      refine wpAnyH_take (i := 4) (oi := ⟨some 111, _, _, _, _, _⟩) (v := ?_) rfl (by kernel_rfl) (by kernel_rfl) (by kernel_rfl) (fun _ _ _ h => h) (Or.inl ⟨by rfl, ?_⟩) hS80 ?_
      rotate_left 1
      ·(intro w hSw; obtain ⟨hSw1, hSw2⟩ := hSw; go_simp; try with_reducible rfl)
      simp only [Act.put, sl]
      refine wpAnyH_take (i := 5) (oi := ⟨some 112, _, _, _, _, _⟩) (v := ?_) rfl (by kernel_rfl) (by kernel_rfl) (by kernel_rfl) (fun _ _ _ h => h) (Or.inl ⟨by rfl, ?_⟩) hS80 ?_
      rotate_left 1
      ·(intro w hSw; obtain ⟨hSw1, hSw2⟩ := hSw; go_simp; try with_reducible rfl)
      simp only [Act.put, sl]
      refine wpAnyH_take (i := 6) (oi := ⟨some 113, _, _, _, _, _⟩) (v := ?_) rfl (by kernel_rfl) (by kernel_rfl) (by kernel_rfl) (fun _ _ _ h => h) (Or.inl ⟨by rfl, ?_⟩) hS80 ?_
      rotate_left 1
      ·(intro w hSw; obtain ⟨hSw1, hSw2⟩ := hSw; go_simp; try with_reducible rfl)
      simp only [Act.put, sl]
      refine wpAnyH_take (i := 7) (oi := ⟨some 114, _, _, _, _, _⟩) (v := ?_) rfl (by kernel_rfl) (by kernel_rfl) (by kernel_rfl) (fun _ _ _ h => h) (Or.inl ⟨by rfl, ?_⟩) hS80 ?_
      rotate_left 1
      ·(intro w hSw; obtain ⟨hSw1, hSw2⟩ := hSw; go_simp; try with_reducible rfl)
      simp only [Act.put, sl]
      refine wpAnyH_take (i := 8) (oi := ⟨some 115, _, _, _, _, _⟩) (v := ?_) rfl (by kernel_rfl) (by kernel_rfl) (by kernel_rfl) (fun _ _ _ h => h) (Or.inl ⟨by rfl, ?_⟩) hS80 ?_
      rotate_left 1
      ·(intro w hSw; obtain ⟨hSw1, hSw2⟩ := hSw; go_simp; try with_reducible rfl)
      simp only [Act.put, sl]
      refine wpAnyH_ready (rs := [1]) (by kernel_rfl) (by simp) ?_
      refine AllReadyH.cons (o := ⟨some 108, _, _, _, _, _⟩) rfl (fun K hK => ?_) AllReadyH.nil
      go_simp
      refine (HT80.out.records HEE.out).mono ?_
      rintro r w81 ⟨A81, c81, rfl, ha81, hb81⟩
      rw [Hel.out]
      have hS81 : w81.cell? ⟨rv, 1, none⟩ = some (.pointer (some ⟨p2, 0, none⟩)) ∧ w81.cell? ⟨p2, 6, none⟩ = some (.slice A2 el c2) := ⟨(hb81.cell (p := ⟨rv, 1, none⟩) (World.block_lt_of_cell? _ _ hS80.1)).trans hS80.1, (hb81.cell (p := ⟨p2, 6, none⟩) (World.block_lt_of_cell? _ _ hS80.2)).trans hS80.2⟩
      have HT81 := hide (HT80.out.below hb81)
      have HA81 := hide ha81
      have HA2 := hide (HA80.out.below hb81)
      clear ha81 hb81
      refine hK.out _ _ hS81 (fun hHeld => ?_)
      clear hK K
      clear hHeld
      refine wpAnyH_ready (rs := [9]) (by kernel_rfl) (by simp) ?_
      refine AllReadyH.cons (o := ⟨some 116, _, _, _, _, _⟩) rfl (fun K hK => ?_) AllReadyH.nil
      go_simp
      refine (Same_two w81 _ el A81 A2 c81 c2 Hel.out (by have := Hel.out; have := HEE.out; omega) HA81.out HA2.out).mono ?_
      rintro r w82 ⟨rfl, hb82⟩
      have hS82 : w82.cell? ⟨rv, 1, none⟩ = some (.pointer (some ⟨p2, 0, none⟩)) ∧ w82.cell? ⟨p2, 6, none⟩ = some (.slice A2 el c2) := ⟨(hb82.cell (p := ⟨rv, 1, none⟩) (World.block_lt_of_cell? _ _ hS81.1)).trans hS81.1, (hb82.cell (p := ⟨p2, 6, none⟩) (World.block_lt_of_cell? _ _ hS81.2)).trans hS81.2⟩
      have HT82 := hide (HT81.out.below hb82)
      clear hb82 HA81 HA2
      refine hK.out _ _ hS82 (fun hHeld => ?_)
      clear hK K
      clear hHeld
      refine wpAnyH_take (i := 10) (oi := ⟨some 117, _, _, _, _, _⟩) (v := ?_) rfl (by kernel_rfl) (by kernel_rfl) (by kernel_rfl) (fun _ _ _ h => h) (Or.inl ⟨by rfl, ?_⟩) hS82 ?_
      rotate_left 1
      ·(intro w hSw; obtain ⟨hSw1, hSw2⟩ := hSw; go_simp; try with_reducible rfl)
      simp only [Act.put, sl]
      refine wpAnyH_take (i := 11) (oi := ⟨some 118, _, _, _, _, _⟩) (v := ?_) rfl (by kernel_rfl) (by kernel_rfl) (by kernel_rfl) (fun _ _ _ h => h) (Or.inl ⟨by rfl, ?_⟩) hS82 ?_
      rotate_left 1
      ·(intro w hSw; obtain ⟨hSw1, hSw2⟩ := hSw; go_simp; try with_reducible rfl)
      simp only [Act.put, sl]
      refine wpAnyH_take (i := 13) (oi := ⟨some 120, _, _, _, _, _⟩) (v := ?_) rfl (by kernel_rfl) (by kernel_rfl) (by kernel_rfl) (fun _ _ _ h => h) (Or.inl ⟨by rfl, ?_⟩) hS82 ?_
      rotate_left 1
      ·(intro w hSw; obtain ⟨hSw1, hSw2⟩ := hSw; go_simp; try with_reducible rfl)
      simp only [Act.put, sl]
      refine wpAnyH_take (i := 14) (oi := ⟨some 121, _, _, _, _, _⟩) (v := ?_) rfl (by kernel_rfl) (by kernel_rfl) (by kernel_rfl) (fun _ _ _ h => h) (Or.inl ⟨by rfl, ?_⟩) hS82 ?_
      rotate_left 1
      ·(intro w hSw; obtain ⟨hSw1, hSw2⟩ := hSw; go_simp; try with_reducible rfl)
      simp only [Act.put, sl]
      refine wpAnyH_take (i := 15) (oi := ⟨some 122, _, _, _, _, _⟩) (v := ?_) rfl (by kernel_rfl) (by kernel_rfl) (by kernel_rfl) (fun _ _ _ h => h) (Or.inl ⟨by rfl, ?_⟩) hS82 ?_
      rotate_left 1
      ·(intro w hSw; obtain ⟨hSw1, hSw2⟩ := hSw; go_simp; try with_reducible rfl)
      simp only [Act.put, sl]
      refine wpAnyH_take (i := 16) (oi := ⟨some 123, _, _, _, _, _⟩) (v := ?_) rfl (by kernel_rfl) (by kernel_rfl) (by kernel_rfl) (fun _ _ _ h => h) (Or.inl ⟨by rfl, ?_⟩) hS82 ?_
      rotate_left 1
      ·(intro w hSw; obtain ⟨hSw1, hSw2⟩ := hSw; go_simp; try with_reducible rfl)
      simp only [Act.put, sl]
      refine wpAnyH_ready (rs := [12]) (by kernel_rfl) (by simp) ?_
      refine AllReadyH.cons (o := ⟨some 119, _, _, _, _, _⟩) rfl (fun K hK => ?_) AllReadyH.nil
      go_simp
      refine (HT82.out.next HFF.out HEE.out).mono ?_
      rintro r w83 ⟨rfl, hb83⟩
      rw [Hnx.out]
      have hS83 : w83.cell? ⟨rv, 1, none⟩ = some (.pointer (some ⟨p2, 0, none⟩)) ∧ w83.cell? ⟨p2, 6, none⟩ = some (.slice A2 el c2) := ⟨(hb83.cell (p := ⟨rv, 1, none⟩) (World.block_lt_of_cell? _ _ hS82.1)).trans hS82.1, (hb83.cell (p := ⟨p2, 6, none⟩) (World.block_lt_of_cell? _ _ hS82.2)).trans hS82.2⟩
      have HT83 := hide (HT82.out.below hb83)
      clear hb83
      refine hK.out _ _ hS83 (fun hHeld => ?_)
      clear hK K
      clear hHeld
      refine wpAnyH_ready (rs := [17]) (by kernel_rfl) (by simp) ?_
      refine AllReadyH.cons (o := ⟨some 124, _, _, _, _, _⟩) rfl (fun K hK => ?_) AllReadyH.nil
      go_simp
      refine (HT83.out.rnext HFF.out HEE.out).mono ?_
      rintro r w84 ⟨rfl, hb84⟩
      rw [Hnx.out]
      have hS84 : w84.cell? ⟨rv, 1, none⟩ = some (.pointer (some ⟨p2, 0, none⟩)) ∧ w84.cell? ⟨p2, 6, none⟩ = some (.slice A2 el c2) := ⟨(hb84.cell (p := ⟨rv, 1, none⟩) (World.block_lt_of_cell? _ _ hS83.1)).trans hS83.1, (hb84.cell (p := ⟨p2, 6, none⟩) (World.block_lt_of_cell? _ _ hS83.2)).trans hS83.2⟩
      have HT84 := hide (HT83.out.below hb84)
      clear hb84
      refine hK.out _ _ hS84 (fun hHeld => ?_)
      clear hK K
      clear hHeld
      refine wpAnyH_take (i := 18) (oi := ⟨some 125, _, _, _, _, _⟩) (v := ?_) rfl (by kernel_rfl) (by kernel_rfl) (by kernel_rfl) (fun _ _ _ h => h) (Or.inl ⟨by rfl, ?_⟩) hS84 ?_
      rotate_left 1
      ·(intro w hSw; obtain ⟨hSw1, hSw2⟩ := hSw; go_simp; try with_reducible rfl)
      simp only [Act.put, sl]
      refine wpAnyH_take (i := 19) (oi := ⟨some 126, _, _, _, _, _⟩) (v := ?_) rfl (by kernel_rfl) (by kernel_rfl) (by kernel_rfl) (fun _ _ _ h => h) (Or.inl ⟨by rfl, ?_⟩) hS84 ?_
      rotate_left 1
      ·(intro w hSw; obtain ⟨hSw1, hSw2⟩ := hSw; go_simp; try with_reducible rfl)
      simp only [Act.put, sl]
      refine wpAnyH_take (i := 20) (oi := ⟨some 4, _, _, _, _, _⟩) (v := ?_) rfl (by kernel_rfl) (by kernel_rfl) (by kernel_rfl) (fun _ _ _ h => h) (Or.inl ⟨by rfl, ?_⟩) hS84 ?_
      rotate_left 1
      ·(intro w hSw; obtain ⟨hSw1, hSw2⟩ := hSw; go_simp; try with_reducible rfl)
      simp only [Act.put, sl]
      refine wpAnyH_done (by kernel_rfl) ?_ _
      clear hS80 hS81 hS82 hS83 hS84 HA80
      go_wp2
      go_ret
      exact ⟨rfl, HT84.out.bel⟩
set_option maxRecDepth 100000 in
theorem Opens_many (A : Option Addr) (m c : Nat) (ring : Int) (w : World) (hm : 40 < m) (ht : Tab w) :
 Calls Tryz.prog 4 #[.slice A m c, .int .i64 ring] w fun r w' => r = .returned (.bool true) ∧ Below w.heap.size w w' := by
 have HT := hide ht
 have HA := hide (awake_any w ht)
 have hmi : (40 : Int) < (m : Int) := by omega
 clear ht hm
 go_enter Tryz.func4, Tryz.ntmps4
 go_wp2_with fail
 refine HA.out.mono ?_
 rintro e w1 ⟨rfl, hb1⟩
 have HB1 := hide hb1
 have HA := hide (awake_any w1 (HT.out.below HB1.out HT.out.pos))
 clear hb1
 go_wp2_with fail
 refine HA.out.mono ?_
 rintro e w2 ⟨rfl, hb2⟩
 have HB2 := hide (HB1.out.trans (hb2.mono HB1.out.size))
 clear hb2 HA
 go_wp2
 go_ret
 exact ⟨rfl, HB2.out⟩
theorem Opens_any (A : Option Addr) (m c : Nat) (xs : List ByteArray) (ring : Int) (w : World) (ht : Tab w) (hty : Ety w) (hl : xs.length = m) (hp : Txts w w.heap.size A xs) :
 Calls Tryz.prog 4 #[.slice A m c, .int .i64 ring] w fun r w' => r = .returned (.bool true) ∧ Below w.heap.size w w' := by
 rcases Nat.lt_or_ge 40 m with h | h
 ·exact Opens_many A m c ring w h ht
 ·exact Opens_few A m c xs ring w hl h hp ht hty
end Go.Proofs.YtapiogcoipeinaaGreatDoor.Vo
