/-
  VolumePlays: whatever is written, marked, read, flushed, checkpointed, crashed and opened again, each answer, the records, the blocks and each sector are the document's. Conditions: the table of half bytes, and the library's variable errors.errorType, hold what the program's own text lays.
-/
import Derived.Test.YtapiogcoipeinaaGreatDoorT28
import Derived.Test.YtapiogcoipeinaaGreatDoorT22
import Derived.Test.YtapiogcoipeinaaGreatDoorT29
import Derived.Deep.RegionHeld3
namespace Go.Proofs.YtapiogcoipeinaaGreatDoor.Vo
open Go.RowKit
open Pk hiding str str_data str_size str_of run_str head_str str_append
open Sm hiding run_str
open Fa
open Rc hiding zer
open Dk Jn
theorem rem12 (t : Nat) : (t : Int).tmod 12 = ((t % 12 : Nat) : Int) := by
 rw [Int.tmod_eq_emod_of_nonneg (by omega)]
 rfl
abbrev opb (q : Oq) : Obj := .cells #[.int .i64 q.1, .int .i64 q.2.1, .string q.2.2.1, .int .u64 q.2.2.2] 40 (0, 0)
theorem ob_below (w : World) (q : Oq) : Below w.heap.size w (w.alloc (.cells #[.int .i64 q.1, .int .i64 q.2.1, .string q.2.2.1, .int .u64 q.2.2.2] 40)) := (Below.refl _ _).alloc (Nat.le_refl _) _
theorem cell_of {W : World} {g i : Nat} {cs : Array Value} {t : TypeId} {x : Value} (h : W.heap[g]? = some (.cells cs t (0, 0))) (hx : cs[i]? = some x) : W.cell? ⟨g, i, none⟩ = some x := by
 simp only [World.cell?, h]
 exact hx
set_option maxRecDepth 100000 in
set_option maxHeartbeats 32000000 in
theorem Plays_few (ring : Nat) (A : Option Addr) (m c : Nat) (l : List Oq) (w : World) (hl : l.length = m) (hp : Ops w w.heap.size A l) (hf : OFits l) (ht : Tab w) (hty : Ety w) (hring : ring < 256) :
 Calls Tryz.prog 3 #[.int .u8 (ring : Int), .slice A m c] w fun r w' => r = .returned (.bool true) ∧ Below w.heap.size w w' := by
 obtain ⟨r, hr⟩ : ∃ r, ring % 12 = r := ⟨_, rfl⟩
 have hrem := rem12 ring
 rw [hr] at hrem
 obtain ⟨n, hn⟩ : ∃ n, 1 + r = n := ⟨_, rfl⟩
 have h1 : (1 : Int) + (r : Int) = (n : Int) := by omega
 have hringi : (ring : Int) < 256 := by omega
 have hr12 : (r : Int) < 12 := by omega
 have hn12i : (n : Int) ≤ 12 := by omega
 have HNN := hide (show 1 ≤ n ∧ n ≤ 12 by omega)
 have HT := hide ht
 have HY := hide hty
 have HA := hide (awake_any w ht)
 have HW := hide (fun W (hb : Below w.heap.size w W) => few_any A m c l W hl ((hp.below hb).more1 hb.size) hf)
 obtain ⟨z10, hz10⟩ : ∃ z, 10 + n = z := ⟨_, rfl⟩
 have hzi : (10 : Int) + (n : Int) = (z10 : Int) := by omega
 have hwz : IntKind.i64.wrap (z10 : Int) = (z10 : Int) := IntWalk.i64_in _ (by omega)
 have HN := hide (fun W => New_any (z10 : Int) z10 W (by omega))
 have HN2 := hide (fun W => RNew_any z10 W (by omega))
 have HS : Hid (∀ W, Calls Tryz.prog 9 #[.int .i64 (n : Int)] W fun e w' => e = .returned (.int .i64 (z10 : Int)) ∧ W = w') := hide (fun W => by
  have := Sectors_any (n : Int) (by omega) (by omega) W
  rwa [show (10 : Int) + (n : Int) = (z10 : Int) by omega] at this)
 have HZ10 := hide hz10
 have Hl := hide hl
 have Hp := hide hp
 have Hf := hide hf
 clear hl hp hf ht hty hr hn hz10 hring
 go_enter Tryz.func3, Tryz.ntmps3
 go_wp2_with fail
 refine HA.out.mono ?_
 rintro e w1 ⟨rfl, hb1⟩
 have HB1 := hide hb1
 clear hb1 HA
 go_wp2_with fail
 refine (HW.out w1 HB1.out).mono ?_
 rintro e w2 ⟨⟨bv, rfl, hbv⟩, rfl⟩
 by_cases hfew : Few l
 ·obtain rfl : bv = true := hbv.2 hfew
  have HF := hide hfew
  clear hfew hbv HW
  go_wp2_with fail
  refine (HS.out _).mono ?_
  rintro e w2 ⟨rfl, rfl⟩
  clear HS
  go_wp2_with fail
  refine (HN.out w1).mono ?_
  rintro e w2 ⟨q, D0, rfl, hd, hD, hb2⟩
  have HD := hide hd
  have HDG := hide hD
  have HB2 := hide hb2
  clear hd hD hb2 HN
  go_wp2_with fail
  refine (HN2.out w2).mono ?_
  rintro e w3 ⟨q2, D2, rfl, hr2, hD2, hb3⟩
  obtain ⟨ob0, ho0⟩ : ∃ ob, w3.heap[1]? = some ob := ⟨_, Array.getElem?_eq_getElem (by have := HT.out.pos; have := HB1.out.size; have := HB2.out.size; have := hb3.size; omega)⟩
  have HO := hide (VMid.of (w0 := w) (n := n) (HD.out.below hb3) hr2 HT.out (fun k hk => Nat.le_trans HB1.out.size (HDG.out k hk)) (fun k hk => by have := hD2 k hk; have := HB1.out.size; have := HB2.out.size; omega) (fun k hk hk1 => by have := hD2 k hk; have := HD.out.lt k hk1; omega)
   ((HB1.out.trans (HB2.out.mono HB1.out.size)).trans (hb3.mono (by have := HB1.out.size; have := HB2.out.size; omega))) ho0 HT.out.pos HNN.out.1 (by have := HNN.out.2; omega) (by have := HZ10.out; omega))
  clear hr2 hD2 hb3 ho0 HN2
  go_wp2_with fail
  refine HO.out.mono ?_
  rintro e w4 ⟨v, p, rfl, hm⟩
  have HRO := hide (hm.ropen HNN.out.1 (by have := HNN.out.2; omega) (by have := HZ10.out; omega) (by have := HZ10.out; have := HNN.out.2; omega))
  clear hm HO HB1 HB2 HD HDG
  go_wp2_with fail
  refine HRO.out.mono ?_
  rintro e w5 ⟨rv, p2, rfl, hj⟩
  have HJ5 := hide hj
  have HI5 := hide (Iv.start (n := n) HNN.out.1 (by have := HNN.out.2; omega))
  rw [HZ10.out] at HI5
  have hm80 : m ≤ 80 := by have := HF.out.1; rw [Hl.out] at this; exact this
  clear hj HRO HZ10
  go_wp2
  go_loopw [8, 10, 74] (fun xv xr jx wr => ∃ (k v p rv p2 : Nat) (S : List Sec) (L : List Wr) (h : Hd) (E : List Ent) (H : Nat → Hm) (D bo : Nat) (ob : Obj), k ≤ m ∧ xv = .pointer (some ⟨v, 0, none⟩) ∧ xr = .pointer (some ⟨rv, 0, none⟩) ∧ jx = .int .i64 k ∧ Hid (Iv n (1 + k) S L h E H D) ∧ Hid (TV w v p q rv p2 q2 n S L h E H S L h E H bo ob wr)) (fun _ _ jx _ => m - (intOf jx).toNat)
  case atStart => exact ⟨0, v, p, rv, p2, _, _, _, _, _, _, _, _, Nat.zero_le _, rfl, rfl, rfl, HI5, HJ5⟩
  case round =>
   obtain ⟨k, v, p, rv, p2, S, L, h, E, H, D, bo, ob, hk, rfl, rfl, rfl, hi, hj⟩ := hrel
   rcases Nat.lt_or_ge k m with hlt | hge
   ·have hki : (k : Int) < (m : Int) := by omega
    have Hlt := hide hlt
    obtain ⟨x, hx⟩ : ∃ x, l[k]? = some x := ⟨_, List.getElem?_eq_getElem (by rw [Hl.out]; exact hlt)⟩
    obtain ⟨b, o, rfl, hbB, hat⟩ := Hp.out.at4 hx
    have hblt : b < wr.heap.size := Nat.lt_of_lt_of_le hbB hj.out.bel.size
    have hmem : x ∈ l := List.mem_of_getElem? hx
    have HFX := hide (Hf.out x hmem)
    obtain ⟨a0, a1, a2, a3⟩ := hat.below hbB hj.out.bel
    obtain ⟨kd, nn, ss, kp⟩ := x
    simp only at a0 a1 a2 a3
    have HK80 := hide (show 1 + k + 1 ≤ 1000 by omega)
    have hbo := ob_below wr (kd, nn, ss, kp)
    have hpo := hj.out.with (b2 := wr.heap.size) (o2 := opb (kd, nn, ss, kp)) hbo (Nat.le_refl _) (heap_alloc_new wr _)
    obtain ⟨wo, hwo⟩ : ∃ wo, wr.alloc (.cells #[.int .i64 kd, .int .i64 nn, .string ss, .int .u64 kp] 40) = wo := ⟨_, rfl⟩
    have hgbl : wr.heap.size < wo.heap.size := by rw [← hwo]; simp
    have HP : Hid (TV w v p q rv p2 q2 n S L h E H S L h E H wr.heap.size (opb (kd, nn, ss, kp)) wo) := hide (by rw [← hwo]; exact hpo)
    obtain ⟨gb, hgb⟩ : ∃ gb, wr.heap.size = gb := ⟨_, rfl⟩
    rw [hgb] at HP hgbl
    have o0 : wo.cell? ⟨gb, 0, none⟩ = some (.int .i64 kd) := cell_of HP.out.obj rfl
    have o1 : wo.cell? ⟨gb, 1, none⟩ = some (.int .i64 nn) := cell_of HP.out.obj rfl
    have o2 : wo.cell? ⟨gb, 2, none⟩ = some (.string ss) := cell_of HP.out.obj rfl
    have o3 : wo.cell? ⟨gb, 3, none⟩ = some (.int .u64 kp) := cell_of HP.out.obj rfl
    clear hx hmem hbB hat hj hbo hpo hlt
    by_cases k1 : kd = 1
    ·subst k1
     by_cases hw : wrong n E nn ss = 0
     ·skip
      as_aux_lemma =>
       obtain ⟨h0, h8, hd16, hE⟩ := wrong_zero hi.out.vg.jg.few hw
       have HC := hide (HP.out.write hi.out HT.out hE h0 h8 hd16)
       have HR : Hid (∀ W, TV w v p q rv p2 q2 n S (L ++ [(2 + (h.f + E.length) % n, esec ⟨h.g, h.f + E.length, 1, nn, ss, 0⟩)]) h (E ++ [⟨h.g, h.f + E.length, 1, nn, ss, 0⟩]) H S L h E H gb (opb (1, nn, ss, kp)) W → _) := hide fun W j => j.rwrite (b := nn) (d := ss) hi.out hE h0 h8 hd16
       have HV := hide (hi.out.append HK80.out hE (hi.out.eok.2 (Or.inl ⟨rfl, h0, by omega, hd16, rfl⟩)))
       obtain ⟨y, hy⟩ : ∃ y, h.f + E.length = y := ⟨_, rfl⟩
       rw [hy] at HC HV
       have HYY := hide hy
       clear hw h0 h8 hd16 hE
       go_wp2_with fail
       refine HC.out.mono ?_
       rintro r w6 ⟨rfl, hj6⟩
       have HJ6 := hide hj6
       have HR6 := hide (HR.out w6 (by rw [hy]; exact hj6))
       rw [hy] at HR6
       have x1_w6 : w6.cell? ⟨gb, 1, none⟩ = some (.int .i64 nn) := cell_of HJ6.out.obj rfl
       have x2_w6 : w6.cell? ⟨gb, 2, none⟩ = some (.string ss) := cell_of HJ6.out.obj rfl
       clear hj6 HC HR HP o0 o1 o2 o3 hy
       go_wp2_with fail
       refine HR6.out.mono ?_
       rintro r w7 ⟨rfl, hj7⟩
       have HJ7 := hide hj7
       clear x1_w6 x2_w6
       have x1_w7 : w7.cell? ⟨gb, 1, none⟩ = some (.int .i64 nn) := cell_of HJ7.out.obj rfl
       clear hj7 HR6 HJ6
       go_wp2_with fail
       refine (place_none (HJ7.out.ety HY.out) nn).mono ?_
       rintro r wt ⟨rfl, hbt⟩
       have HT := hide (HJ7.out.below hbt)
       clear hbt HJ7
       clear x1_w7
       have HT80 := hide HT.out.drew
       obtain ⟨A2, c2, B2, d2, k1, k6, ha, k1q⟩ := HT80.out.cells
       obtain ⟨el, hel⟩ : ∃ el, (E ++ [⟨h.g, y, 1, nn, ss, 0⟩] : List Ent).length = el := ⟨_, rfl⟩
       obtain ⟨ll, hll⟩ : ∃ ll, (L ++ [(2 + y % n, esec ⟨h.g, y, 1, nn, ss, 0⟩)] : List Wr).length = ll := ⟨_, rfl⟩
       obtain ⟨nx, hnx⟩ : ∃ nx, h.f + (E ++ [⟨h.g, y, 1, nn, ss, 0⟩] : List Ent).length = nx := ⟨_, rfl⟩
       have Hel := hide hel
       have Hll := hide (show (((L ++ [(2 + y % n, esec ⟨h.g, y, 1, nn, ss, 0⟩)] : List Wr).length : Nat) : Int) = (ll : Int) by rw [hll])
       have Hnx := hide hnx
       rw [hel] at k6
       rw [hll] at k1q
       have HA80 := hide ha
       have hS80 := And.intro k1 (And.intro k6 k1q)
       clear k1 k6 ha k1q hel hll hnx HT
       go_wp2
       refine wp_region_held (S := (fun W => W.cell? ⟨rv, 1, none⟩ = some (.pointer (some ⟨p2, 0, none⟩)) ∧ W.cell? ⟨p2, 6, none⟩ = some (.slice A2 el c2) ∧ W.cell? ⟨q2, 1, none⟩ = some (.slice B2 ll d2))) (by kernel_rfl) ?_
       change wpAnyH _ _ _ _ _ _ _ _ (World.drew _)
       refine wpAnyH_take (i := 0) (oi := ⟨some 216, _, _, _, _, _⟩) (v := ?_) rfl (by kernel_rfl) (by kernel_rfl) (by kernel_rfl) (fun _ _ _ h => h) (Or.inl ⟨by rfl, ?_⟩) hS80 ?_
       rotate_left 1
       ·(intro w hSw; obtain ⟨hSw1, hSw2, hSw3⟩ := hSw; go_simp; try with_reducible rfl)
       simp only [Act.put, Pk.sl]
       refine wpAnyH_take (i := 2) (oi := ⟨some 218, _, _, _, _, _⟩) (v := ?_) rfl (by kernel_rfl) (by kernel_rfl) (by kernel_rfl) (fun _ _ _ h => h) (Or.inl ⟨by rfl, ?_⟩) hS80 ?_
       rotate_left 1
       ·(intro w hSw; obtain ⟨hSw1, hSw2, hSw3⟩ := hSw; go_simp; try with_reducible rfl)
       simp only [Act.put, Pk.sl]
       refine wpAnyH_take (i := 3) (oi := ⟨some 219, _, _, _, _, _⟩) (v := ?_) rfl (by kernel_rfl) (by kernel_rfl) (by kernel_rfl) (fun _ _ _ h => h) (Or.inl ⟨by rfl, ?_⟩) hS80 ?_
       rotate_left 1
       ·(intro w hSw; obtain ⟨hSw1, hSw2, hSw3⟩ := hSw; go_simp; try with_reducible rfl)
       simp only [Act.put, Pk.sl]
       refine wpAnyH_take (i := 4) (oi := ⟨some 220, _, _, _, _, _⟩) (v := ?_) rfl (by kernel_rfl) (by kernel_rfl) (by kernel_rfl) (fun _ _ _ h => h) (Or.inl ⟨by rfl, ?_⟩) hS80 ?_
       rotate_left 1
       ·(intro w hSw; obtain ⟨hSw1, hSw2, hSw3⟩ := hSw; go_simp; try with_reducible rfl)
       simp only [Act.put, Pk.sl]
       refine wpAnyH_take (i := 5) (oi := ⟨some 221, _, _, _, _, _⟩) (v := ?_) rfl (by kernel_rfl) (by kernel_rfl) (by kernel_rfl) (fun _ _ _ h => h) (Or.inl ⟨by rfl, ?_⟩) hS80 ?_
       rotate_left 1
       ·(intro w hSw; obtain ⟨hSw1, hSw2, hSw3⟩ := hSw; go_simp; try with_reducible rfl)
       simp only [Act.put, Pk.sl]
       refine wpAnyH_take (i := 6) (oi := ⟨some 222, _, _, _, _, _⟩) (v := ?_) rfl (by kernel_rfl) (by kernel_rfl) (by kernel_rfl) (fun _ _ _ h => h) (Or.inl ⟨by rfl, ?_⟩) hS80 ?_
       rotate_left 1
       ·(intro w hSw; obtain ⟨hSw1, hSw2, hSw3⟩ := hSw; go_simp; try with_reducible rfl)
       simp only [Act.put, Pk.sl]
       refine wpAnyH_take (i := 7) (oi := ⟨some 223, _, _, _, _, _⟩) (v := ?_) rfl (by kernel_rfl) (by kernel_rfl) (by kernel_rfl) (fun _ _ _ h => h) (Or.inl ⟨by rfl, ?_⟩) hS80 ?_
       rotate_left 1
       ·(intro w hSw; obtain ⟨hSw1, hSw2, hSw3⟩ := hSw; go_simp; try with_reducible rfl)
       simp only [Act.put, Pk.sl]
       refine wpAnyH_take (i := 8) (oi := ⟨some 224, _, _, _, _, _⟩) (v := ?_) rfl (by kernel_rfl) (by kernel_rfl) (by kernel_rfl) (fun _ _ _ h => h) (Or.inl ⟨by rfl, ?_⟩) hS80 ?_
       rotate_left 1
       ·(intro w hSw; obtain ⟨hSw1, hSw2, hSw3⟩ := hSw; go_simp; try with_reducible rfl)
       simp only [Act.put, Pk.sl]
       refine wpAnyH_ready (rs := [1]) (by kernel_rfl) (by simp) ?_
       refine AllReadyH.cons (o := ⟨some 217, _, _, _, _, _⟩) rfl (fun K hK => ?_) AllReadyH.nil
       go_simp
       refine (HT80.out.records (by have := HV.out.vg.jg.few; have := HV.out.lim.n200; omega)).mono ?_
       rintro r w81 ⟨A81, c81, rfl, ha81, hb81⟩
       rw [Hel.out]
       have hS81 : w81.cell? ⟨rv, 1, none⟩ = some (.pointer (some ⟨p2, 0, none⟩)) ∧ w81.cell? ⟨p2, 6, none⟩ = some (.slice A2 el c2) ∧ w81.cell? ⟨q2, 1, none⟩ = some (.slice B2 ll d2) := ⟨(hb81.cell (p := ⟨rv, 1, none⟩) (World.block_lt_of_cell? _ _ hS80.1)).trans hS80.1, (hb81.cell (p := ⟨p2, 6, none⟩) (World.block_lt_of_cell? _ _ hS80.2.1)).trans hS80.2.1, (hb81.cell (p := ⟨q2, 1, none⟩) (World.block_lt_of_cell? _ _ hS80.2.2)).trans hS80.2.2⟩
       have HT81 := hide (HT80.out.below hb81)
       have HA81 := hide ha81
       have HA2 := hide (HA80.out.below hb81)
       clear ha81 hb81
       refine hK.out _ _ hS81 (fun hHeld => ?_)
       clear hK K
       clear hHeld
       refine wpAnyH_ready (rs := [9]) (by kernel_rfl) (by simp) ?_
       refine AllReadyH.cons (o := ⟨some 225, _, _, _, _, _⟩) rfl (fun K hK => ?_) AllReadyH.nil
       go_simp
       refine (Same_two w81 _ el A81 A2 c81 c2 Hel.out (by have := Hel.out; have := HV.out.vg.jg.few; have := HV.out.lim.n200; omega) HA81.out HA2.out).mono ?_
       rintro r w82 ⟨rfl, hb82⟩
       have hS82 : w82.cell? ⟨rv, 1, none⟩ = some (.pointer (some ⟨p2, 0, none⟩)) ∧ w82.cell? ⟨p2, 6, none⟩ = some (.slice A2 el c2) ∧ w82.cell? ⟨q2, 1, none⟩ = some (.slice B2 ll d2) := ⟨(hb82.cell (p := ⟨rv, 1, none⟩) (World.block_lt_of_cell? _ _ hS81.1)).trans hS81.1, (hb82.cell (p := ⟨p2, 6, none⟩) (World.block_lt_of_cell? _ _ hS81.2.1)).trans hS81.2.1, (hb82.cell (p := ⟨q2, 1, none⟩) (World.block_lt_of_cell? _ _ hS81.2.2)).trans hS81.2.2⟩
       have HT82 := hide (HT81.out.below hb82)
       clear hb82 HA81 HA2
       refine hK.out _ _ hS82 (fun hHeld => ?_)
       clear hK K
       clear hHeld
       refine wpAnyH_take (i := 10) (oi := ⟨some 226, _, _, _, _, _⟩) (v := ?_) rfl (by kernel_rfl) (by kernel_rfl) (by kernel_rfl) (fun _ _ _ h => h) (Or.inl ⟨by rfl, ?_⟩) hS82 ?_
       rotate_left 1
       ·(intro w hSw; obtain ⟨hSw1, hSw2, hSw3⟩ := hSw; go_simp; try with_reducible rfl)
       simp only [Act.put, Pk.sl]
       refine wpAnyH_take (i := 11) (oi := ⟨some 227, _, _, _, _, _⟩) (v := ?_) rfl (by kernel_rfl) (by kernel_rfl) (by kernel_rfl) (fun _ _ _ h => h) (Or.inl ⟨by rfl, ?_⟩) hS82 ?_
       rotate_left 1
       ·(intro w hSw; obtain ⟨hSw1, hSw2, hSw3⟩ := hSw; go_simp; try with_reducible rfl)
       simp only [Act.put, Pk.sl]
       refine wpAnyH_take (i := 12) (oi := ⟨some 228, _, _, _, _, _⟩) (v := ?_) rfl (by kernel_rfl) (by kernel_rfl) (by kernel_rfl) (fun _ _ _ h => h) (Or.inl ⟨by rfl, ?_⟩) hS82 ?_
       rotate_left 1
       ·(intro w hSw; obtain ⟨hSw1, hSw2, hSw3⟩ := hSw; go_simp; try with_reducible rfl)
       simp only [Act.put, Pk.sl]
       refine wpAnyH_take (i := 14) (oi := ⟨some 230, _, _, _, _, _⟩) (v := ?_) rfl (by kernel_rfl) (by kernel_rfl) (by kernel_rfl) (fun _ _ _ h => h) (Or.inl ⟨by rfl, ?_⟩) hS82 ?_
       rotate_left 1
       ·(intro w hSw; obtain ⟨hSw1, hSw2, hSw3⟩ := hSw; go_simp; try with_reducible rfl)
       simp only [Act.put, Pk.sl]
       refine wpAnyH_take (i := 15) (oi := ⟨some 231, _, _, _, _, _⟩) (v := ?_) rfl (by kernel_rfl) (by kernel_rfl) (by kernel_rfl) (fun _ _ _ h => h) (Or.inl ⟨by rfl, ?_⟩) hS82 ?_
       rotate_left 1
       ·(intro w hSw; obtain ⟨hSw1, hSw2, hSw3⟩ := hSw; go_simp; try with_reducible rfl)
       simp only [Act.put, Pk.sl]
       refine wpAnyH_take (i := 16) (oi := ⟨some 232, _, _, _, _, _⟩) (v := ?_) rfl (by kernel_rfl) (by kernel_rfl) (by kernel_rfl) (fun _ _ _ h => h) (Or.inl ⟨by rfl, ?_⟩) hS82 ?_
       rotate_left 1
       ·(intro w hSw; obtain ⟨hSw1, hSw2, hSw3⟩ := hSw; go_simp; try with_reducible rfl)
       simp only [Act.put, Pk.sl]
       refine wpAnyH_take (i := 17) (oi := ⟨some 233, _, _, _, _, _⟩) (v := ?_) rfl (by kernel_rfl) (by kernel_rfl) (by kernel_rfl) (fun _ _ _ h => h) (Or.inl ⟨by rfl, ?_⟩) hS82 ?_
       rotate_left 1
       ·(intro w hSw; obtain ⟨hSw1, hSw2, hSw3⟩ := hSw; go_simp; try with_reducible rfl)
       simp only [Act.put, Pk.sl]
       refine wpAnyH_ready (rs := [13]) (by kernel_rfl) (by simp) ?_
       refine AllReadyH.cons (o := ⟨some 229, _, _, _, _, _⟩) rfl (fun K hK => ?_) AllReadyH.nil
       go_simp
       refine (HT82.out.next (by have := HV.out.lim.f; have := HV.out.lim.T; omega) (by have := HV.out.vg.jg.few; have := HV.out.lim.n200; omega)).mono ?_
       rintro r w83 ⟨rfl, hb83⟩
       rw [Hnx.out]
       have hS83 : w83.cell? ⟨rv, 1, none⟩ = some (.pointer (some ⟨p2, 0, none⟩)) ∧ w83.cell? ⟨p2, 6, none⟩ = some (.slice A2 el c2) ∧ w83.cell? ⟨q2, 1, none⟩ = some (.slice B2 ll d2) := ⟨(hb83.cell (p := ⟨rv, 1, none⟩) (World.block_lt_of_cell? _ _ hS82.1)).trans hS82.1, (hb83.cell (p := ⟨p2, 6, none⟩) (World.block_lt_of_cell? _ _ hS82.2.1)).trans hS82.2.1, (hb83.cell (p := ⟨q2, 1, none⟩) (World.block_lt_of_cell? _ _ hS82.2.2)).trans hS82.2.2⟩
       have HT83 := hide (HT82.out.below hb83)
       clear hb83
       refine hK.out _ _ hS83 (fun hHeld => ?_)
       clear hK K
       clear hHeld
       refine wpAnyH_ready (rs := [18]) (by kernel_rfl) (by simp) ?_
       refine AllReadyH.cons (o := ⟨some 234, _, _, _, _, _⟩) rfl (fun K hK => ?_) AllReadyH.nil
       go_simp
       refine (HT83.out.rnext (by have := HV.out.lim.f; have := HV.out.lim.T; omega) (by have := HV.out.vg.jg.few; have := HV.out.lim.n200; omega)).mono ?_
       rintro r w84 ⟨rfl, hb84⟩
       rw [Hnx.out]
       have hS84 : w84.cell? ⟨rv, 1, none⟩ = some (.pointer (some ⟨p2, 0, none⟩)) ∧ w84.cell? ⟨p2, 6, none⟩ = some (.slice A2 el c2) ∧ w84.cell? ⟨q2, 1, none⟩ = some (.slice B2 ll d2) := ⟨(hb84.cell (p := ⟨rv, 1, none⟩) (World.block_lt_of_cell? _ _ hS83.1)).trans hS83.1, (hb84.cell (p := ⟨p2, 6, none⟩) (World.block_lt_of_cell? _ _ hS83.2.1)).trans hS83.2.1, (hb84.cell (p := ⟨q2, 1, none⟩) (World.block_lt_of_cell? _ _ hS83.2.2)).trans hS83.2.2⟩
       have HT84 := hide (HT83.out.below hb84)
       clear hb84
       refine hK.out _ _ hS84 (fun hHeld => ?_)
       clear hK K
       clear hHeld
       refine wpAnyH_take (i := 19) (oi := ⟨some 235, _, _, _, _, _⟩) (v := ?_) rfl (by kernel_rfl) (by kernel_rfl) (by kernel_rfl) (fun _ _ _ h => h) (Or.inl ⟨by rfl, ?_⟩) hS84 ?_
       rotate_left 1
       ·(intro w hSw; obtain ⟨hSw1, hSw2, hSw3⟩ := hSw; go_simp; try with_reducible rfl)
       simp only [Act.put, Pk.sl]
       refine wpAnyH_take (i := 20) (oi := ⟨some 236, _, _, _, _, _⟩) (v := ?_) rfl (by kernel_rfl) (by kernel_rfl) (by kernel_rfl) (fun _ _ _ h => h) (Or.inl ⟨by rfl, ?_⟩) hS84 ?_
       rotate_left 1
       ·(intro w hSw; obtain ⟨hSw1, hSw2, hSw3⟩ := hSw; go_simp; try with_reducible rfl)
       simp only [Act.put, Pk.sl]
       refine wpAnyH_take (i := 21) (oi := ⟨some 237, _, _, _, _, _⟩) (v := ?_) rfl (by kernel_rfl) (by kernel_rfl) (by kernel_rfl) (fun _ _ _ h => h) (Or.inl ⟨by rfl, ?_⟩) hS84 ?_
       rotate_left 1
       ·(intro w hSw; obtain ⟨hSw1, hSw2, hSw3⟩ := hSw; go_simp; try with_reducible rfl)
       simp only [Act.put, Pk.sl]
       refine wpAnyH_take (i := 22) (oi := ⟨some 238, _, _, _, _, _⟩) (v := ?_) rfl (by kernel_rfl) (by kernel_rfl) (by kernel_rfl) (fun _ _ _ h => h) (Or.inl ⟨by rfl, ?_⟩) hS84 ?_
       rotate_left 1
       ·(intro w hSw; obtain ⟨hSw1, hSw2, hSw3⟩ := hSw; go_simp; try with_reducible rfl)
       simp only [Act.put, Pk.sl]
       refine wpAnyH_take (i := 24) (oi := ⟨some 240, _, _, _, _, _⟩) (v := ?_) rfl (by kernel_rfl) (by kernel_rfl) (by kernel_rfl) (fun _ _ _ h => h) (Or.inl ⟨by rfl, ?_⟩) hS84 ?_
       rotate_left 1
       ·(intro w hSw; obtain ⟨hSw1, hSw2, hSw3⟩ := hSw; go_simp; try with_reducible rfl)
       simp only [Act.put, Pk.sl]
       refine wpAnyH_take (i := 25) (oi := ⟨some 241, _, _, _, _, _⟩) (v := ?_) rfl (by kernel_rfl) (by kernel_rfl) (by kernel_rfl) (fun _ _ _ h => h) (Or.inl ⟨by rfl, ?_⟩) hS84 ?_
       rotate_left 1
       ·(intro w hSw; obtain ⟨hSw1, hSw2, hSw3⟩ := hSw; go_simp; try with_reducible rfl)
       simp only [Act.put, Pk.sl]
       refine wpAnyH_take (i := 26) (oi := ⟨some 242, _, _, _, _, _⟩) (v := ?_) rfl (by kernel_rfl) (by kernel_rfl) (by kernel_rfl) (fun _ _ _ h => h) (Or.inl ⟨by rfl, ?_⟩) hS84 ?_
       rotate_left 1
       ·(intro w hSw; obtain ⟨hSw1, hSw2, hSw3⟩ := hSw; go_simp; try with_reducible rfl)
       simp only [Act.put, Pk.sl]
       refine wpAnyH_take (i := 27) (oi := ⟨some 243, _, _, _, _, _⟩) (v := ?_) rfl (by kernel_rfl) (by kernel_rfl) (by kernel_rfl) (fun _ _ _ h => h) (Or.inl ⟨by rfl, ?_⟩) hS84 ?_
       rotate_left 1
       ·(intro w hSw; obtain ⟨hSw1, hSw2, hSw3⟩ := hSw; go_simp; try with_reducible rfl)
       simp only [Act.put, Pk.sl]
       refine wpAnyH_take (i := 28) (oi := ⟨some 244, _, _, _, _, _⟩) (v := ?_) rfl (by kernel_rfl) (by kernel_rfl) (by kernel_rfl) (fun _ _ _ h => h) (Or.inl ⟨by rfl, ?_⟩) hS84 ?_
       rotate_left 1
       ·(intro w hSw; obtain ⟨hSw1, hSw2, hSw3⟩ := hSw; go_simp; try with_reducible rfl)
       simp only [Act.put, Pk.sl]
       refine wpAnyH_ready (rs := [23]) (by kernel_rfl) (by simp) ?_
       refine AllReadyH.cons (o := ⟨some 239, _, _, _, _, _⟩) rfl (fun K hK => ?_) AllReadyH.nil
       go_simp
       refine (HT84.out.loose).mono ?_
       rintro r w85 ⟨rfl, rfl⟩
       rw [Hll.out]
       refine hK.out _ _ hS84 (fun hHeld => ?_)
       clear hK K
       clear hHeld
       refine wpAnyH_take (i := 29) (oi := ⟨some 245, _, _, _, _, _⟩) (v := ?_) rfl (by kernel_rfl) (by kernel_rfl) (by kernel_rfl) (fun _ _ _ h => h) (Or.inl ⟨by rfl, ?_⟩) hS84 ?_
       rotate_left 1
       ·(intro w hSw; obtain ⟨hSw1, hSw2, hSw3⟩ := hSw; go_simp; try with_reducible rfl)
       simp only [Act.put, Pk.sl]
       refine wpAnyH_take (i := 30) (oi := ⟨some 246, _, _, _, _, _⟩) (v := ?_) rfl (by kernel_rfl) (by kernel_rfl) (by kernel_rfl) (fun _ _ _ h => h) (Or.inl ⟨by rfl, ?_⟩) hS84 ?_
       rotate_left 1
       ·(intro w hSw; obtain ⟨hSw1, hSw2, hSw3⟩ := hSw; go_simp; try with_reducible rfl)
       simp only [Act.put, Pk.sl]
       refine wpAnyH_done (by kernel_rfl) ?_ _
       clear hS80 hS81 hS82 hS83 hS84 HA80
       go_wp2
       go_roundw
       case rel => exact ⟨k + 1, v, p, rv, p2, _, _, _, _, _, _, _, _, Hlt.out, rfl, rfl, by go_num, by rw [show 1 + (k + 1) = 1 + k + 1 by omega]; exact HV, HT84⟩
       case measure => have := Hlt.out; simp [intOf]; omega
     ·skip
      as_aux_lemma =>
       have HV := hide (hi.out.more (Nat.le_succ _) HK80.out)
       obtain ⟨R, hvs⟩ := HP.out.vs hi.out
       have HC := hide (hvs.write_no hw)
       have HR : Hid (∀ W, TV w v p q rv p2 q2 n S L h E H S L h E H gb (opb (1, nn, ss, kp)) W → _) := hide fun W j => j.rwrite_no (b := nn) (d := ss) hi.out hw
       obtain ⟨y, hy⟩ : ∃ y, wrong n E nn ss = y := ⟨_, rfl⟩
       rw [hy] at HC HR hw
       have HWN := hide hw
       clear hvs hy hw
       go_wp2_with fail
       refine HC.out.mono ?_
       rintro r w6 ⟨pp, rfl, hf6, hb6⟩
       have HJ6 := hide (HP.out.below hb6)
       have HE6 := hide hf6
       have x1_w6 : w6.cell? ⟨gb, 1, none⟩ = some (.int .i64 nn) := cell_of HJ6.out.obj rfl
       have x2_w6 : w6.cell? ⟨gb, 2, none⟩ = some (.string ss) := cell_of HJ6.out.obj rfl
       clear hf6 hb6 HC HP o0 o1 o2 o3
       go_wp2_with fail
       refine (HR.out w6 HJ6.out).mono ?_
       rintro r w7 ⟨rfl, hb7⟩
       have HJ7 := hide (HJ6.out.below hb7)
       have HE7 := hide (HE6.out.below hb7)
       clear x1_w6 x2_w6
       have x1_w7 : w7.cell? ⟨gb, 1, none⟩ = some (.int .i64 nn) := cell_of HJ7.out.obj rfl
       clear hb7 HR HJ6 HE6
       go_wp2_with fail
       refine (place_flt (HJ7.out.ety HY.out) HE7.out (by first | exact HWN.out | decide)).mono ?_
       rintro r wt ⟨rfl, hbt⟩
       have HT := hide (HJ7.out.below hbt)
       clear hbt HJ7 HE7
       clear x1_w7
       have HT80 := hide HT.out.drew
       obtain ⟨A2, c2, B2, d2, k1, k6, ha, k1q⟩ := HT80.out.cells
       obtain ⟨el, hel⟩ : ∃ el, E.length = el := ⟨_, rfl⟩
       obtain ⟨ll, hll⟩ : ∃ ll, L.length = ll := ⟨_, rfl⟩
       obtain ⟨nx, hnx⟩ : ∃ nx, h.f + E.length = nx := ⟨_, rfl⟩
       have Hel := hide hel
       have Hll := hide (show ((L.length : Nat) : Int) = (ll : Int) by rw [hll])
       have Hnx := hide hnx
       rw [hel] at k6
       rw [hll] at k1q
       have HA80 := hide ha
       have hS80 := And.intro k1 (And.intro k6 k1q)
       clear k1 k6 ha k1q hel hll hnx HT
       go_wp2
       refine wp_region_held (S := (fun W => W.cell? ⟨rv, 1, none⟩ = some (.pointer (some ⟨p2, 0, none⟩)) ∧ W.cell? ⟨p2, 6, none⟩ = some (.slice A2 el c2) ∧ W.cell? ⟨q2, 1, none⟩ = some (.slice B2 ll d2))) (by kernel_rfl) ?_
       change wpAnyH _ _ _ _ _ _ _ _ (World.drew _)
       refine wpAnyH_take (i := 0) (oi := ⟨some 216, _, _, _, _, _⟩) (v := ?_) rfl (by kernel_rfl) (by kernel_rfl) (by kernel_rfl) (fun _ _ _ h => h) (Or.inl ⟨by rfl, ?_⟩) hS80 ?_
       rotate_left 1
       ·(intro w hSw; obtain ⟨hSw1, hSw2, hSw3⟩ := hSw; go_simp; try with_reducible rfl)
       simp only [Act.put, Pk.sl]
       refine wpAnyH_take (i := 2) (oi := ⟨some 218, _, _, _, _, _⟩) (v := ?_) rfl (by kernel_rfl) (by kernel_rfl) (by kernel_rfl) (fun _ _ _ h => h) (Or.inl ⟨by rfl, ?_⟩) hS80 ?_
       rotate_left 1
       ·(intro w hSw; obtain ⟨hSw1, hSw2, hSw3⟩ := hSw; go_simp; try with_reducible rfl)
       simp only [Act.put, Pk.sl]
       refine wpAnyH_take (i := 3) (oi := ⟨some 219, _, _, _, _, _⟩) (v := ?_) rfl (by kernel_rfl) (by kernel_rfl) (by kernel_rfl) (fun _ _ _ h => h) (Or.inl ⟨by rfl, ?_⟩) hS80 ?_
       rotate_left 1
       ·(intro w hSw; obtain ⟨hSw1, hSw2, hSw3⟩ := hSw; go_simp; try with_reducible rfl)
       simp only [Act.put, Pk.sl]
       refine wpAnyH_take (i := 4) (oi := ⟨some 220, _, _, _, _, _⟩) (v := ?_) rfl (by kernel_rfl) (by kernel_rfl) (by kernel_rfl) (fun _ _ _ h => h) (Or.inl ⟨by rfl, ?_⟩) hS80 ?_
       rotate_left 1
       ·(intro w hSw; obtain ⟨hSw1, hSw2, hSw3⟩ := hSw; go_simp; try with_reducible rfl)
       simp only [Act.put, Pk.sl]
       refine wpAnyH_take (i := 5) (oi := ⟨some 221, _, _, _, _, _⟩) (v := ?_) rfl (by kernel_rfl) (by kernel_rfl) (by kernel_rfl) (fun _ _ _ h => h) (Or.inl ⟨by rfl, ?_⟩) hS80 ?_
       rotate_left 1
       ·(intro w hSw; obtain ⟨hSw1, hSw2, hSw3⟩ := hSw; go_simp; try with_reducible rfl)
       simp only [Act.put, Pk.sl]
       refine wpAnyH_take (i := 6) (oi := ⟨some 222, _, _, _, _, _⟩) (v := ?_) rfl (by kernel_rfl) (by kernel_rfl) (by kernel_rfl) (fun _ _ _ h => h) (Or.inl ⟨by rfl, ?_⟩) hS80 ?_
       rotate_left 1
       ·(intro w hSw; obtain ⟨hSw1, hSw2, hSw3⟩ := hSw; go_simp; try with_reducible rfl)
       simp only [Act.put, Pk.sl]
       refine wpAnyH_take (i := 7) (oi := ⟨some 223, _, _, _, _, _⟩) (v := ?_) rfl (by kernel_rfl) (by kernel_rfl) (by kernel_rfl) (fun _ _ _ h => h) (Or.inl ⟨by rfl, ?_⟩) hS80 ?_
       rotate_left 1
       ·(intro w hSw; obtain ⟨hSw1, hSw2, hSw3⟩ := hSw; go_simp; try with_reducible rfl)
       simp only [Act.put, Pk.sl]
       refine wpAnyH_take (i := 8) (oi := ⟨some 224, _, _, _, _, _⟩) (v := ?_) rfl (by kernel_rfl) (by kernel_rfl) (by kernel_rfl) (fun _ _ _ h => h) (Or.inl ⟨by rfl, ?_⟩) hS80 ?_
       rotate_left 1
       ·(intro w hSw; obtain ⟨hSw1, hSw2, hSw3⟩ := hSw; go_simp; try with_reducible rfl)
       simp only [Act.put, Pk.sl]
       refine wpAnyH_ready (rs := [1]) (by kernel_rfl) (by simp) ?_
       refine AllReadyH.cons (o := ⟨some 217, _, _, _, _, _⟩) rfl (fun K hK => ?_) AllReadyH.nil
       go_simp
       refine (HT80.out.records (by have := HV.out.vg.jg.few; have := HV.out.lim.n200; omega)).mono ?_
       rintro r w81 ⟨A81, c81, rfl, ha81, hb81⟩
       rw [Hel.out]
       have hS81 : w81.cell? ⟨rv, 1, none⟩ = some (.pointer (some ⟨p2, 0, none⟩)) ∧ w81.cell? ⟨p2, 6, none⟩ = some (.slice A2 el c2) ∧ w81.cell? ⟨q2, 1, none⟩ = some (.slice B2 ll d2) := ⟨(hb81.cell (p := ⟨rv, 1, none⟩) (World.block_lt_of_cell? _ _ hS80.1)).trans hS80.1, (hb81.cell (p := ⟨p2, 6, none⟩) (World.block_lt_of_cell? _ _ hS80.2.1)).trans hS80.2.1, (hb81.cell (p := ⟨q2, 1, none⟩) (World.block_lt_of_cell? _ _ hS80.2.2)).trans hS80.2.2⟩
       have HT81 := hide (HT80.out.below hb81)
       have HA81 := hide ha81
       have HA2 := hide (HA80.out.below hb81)
       clear ha81 hb81
       refine hK.out _ _ hS81 (fun hHeld => ?_)
       clear hK K
       clear hHeld
       refine wpAnyH_ready (rs := [9]) (by kernel_rfl) (by simp) ?_
       refine AllReadyH.cons (o := ⟨some 225, _, _, _, _, _⟩) rfl (fun K hK => ?_) AllReadyH.nil
       go_simp
       refine (Same_two w81 _ el A81 A2 c81 c2 Hel.out (by have := Hel.out; have := HV.out.vg.jg.few; have := HV.out.lim.n200; omega) HA81.out HA2.out).mono ?_
       rintro r w82 ⟨rfl, hb82⟩
       have hS82 : w82.cell? ⟨rv, 1, none⟩ = some (.pointer (some ⟨p2, 0, none⟩)) ∧ w82.cell? ⟨p2, 6, none⟩ = some (.slice A2 el c2) ∧ w82.cell? ⟨q2, 1, none⟩ = some (.slice B2 ll d2) := ⟨(hb82.cell (p := ⟨rv, 1, none⟩) (World.block_lt_of_cell? _ _ hS81.1)).trans hS81.1, (hb82.cell (p := ⟨p2, 6, none⟩) (World.block_lt_of_cell? _ _ hS81.2.1)).trans hS81.2.1, (hb82.cell (p := ⟨q2, 1, none⟩) (World.block_lt_of_cell? _ _ hS81.2.2)).trans hS81.2.2⟩
       have HT82 := hide (HT81.out.below hb82)
       clear hb82 HA81 HA2
       refine hK.out _ _ hS82 (fun hHeld => ?_)
       clear hK K
       clear hHeld
       refine wpAnyH_take (i := 10) (oi := ⟨some 226, _, _, _, _, _⟩) (v := ?_) rfl (by kernel_rfl) (by kernel_rfl) (by kernel_rfl) (fun _ _ _ h => h) (Or.inl ⟨by rfl, ?_⟩) hS82 ?_
       rotate_left 1
       ·(intro w hSw; obtain ⟨hSw1, hSw2, hSw3⟩ := hSw; go_simp; try with_reducible rfl)
       simp only [Act.put, Pk.sl]
       refine wpAnyH_take (i := 11) (oi := ⟨some 227, _, _, _, _, _⟩) (v := ?_) rfl (by kernel_rfl) (by kernel_rfl) (by kernel_rfl) (fun _ _ _ h => h) (Or.inl ⟨by rfl, ?_⟩) hS82 ?_
       rotate_left 1
       ·(intro w hSw; obtain ⟨hSw1, hSw2, hSw3⟩ := hSw; go_simp; try with_reducible rfl)
       simp only [Act.put, Pk.sl]
       refine wpAnyH_take (i := 12) (oi := ⟨some 228, _, _, _, _, _⟩) (v := ?_) rfl (by kernel_rfl) (by kernel_rfl) (by kernel_rfl) (fun _ _ _ h => h) (Or.inl ⟨by rfl, ?_⟩) hS82 ?_
       rotate_left 1
       ·(intro w hSw; obtain ⟨hSw1, hSw2, hSw3⟩ := hSw; go_simp; try with_reducible rfl)
       simp only [Act.put, Pk.sl]
       refine wpAnyH_take (i := 14) (oi := ⟨some 230, _, _, _, _, _⟩) (v := ?_) rfl (by kernel_rfl) (by kernel_rfl) (by kernel_rfl) (fun _ _ _ h => h) (Or.inl ⟨by rfl, ?_⟩) hS82 ?_
       rotate_left 1
       ·(intro w hSw; obtain ⟨hSw1, hSw2, hSw3⟩ := hSw; go_simp; try with_reducible rfl)
       simp only [Act.put, Pk.sl]
       refine wpAnyH_take (i := 15) (oi := ⟨some 231, _, _, _, _, _⟩) (v := ?_) rfl (by kernel_rfl) (by kernel_rfl) (by kernel_rfl) (fun _ _ _ h => h) (Or.inl ⟨by rfl, ?_⟩) hS82 ?_
       rotate_left 1
       ·(intro w hSw; obtain ⟨hSw1, hSw2, hSw3⟩ := hSw; go_simp; try with_reducible rfl)
       simp only [Act.put, Pk.sl]
       refine wpAnyH_take (i := 16) (oi := ⟨some 232, _, _, _, _, _⟩) (v := ?_) rfl (by kernel_rfl) (by kernel_rfl) (by kernel_rfl) (fun _ _ _ h => h) (Or.inl ⟨by rfl, ?_⟩) hS82 ?_
       rotate_left 1
       ·(intro w hSw; obtain ⟨hSw1, hSw2, hSw3⟩ := hSw; go_simp; try with_reducible rfl)
       simp only [Act.put, Pk.sl]
       refine wpAnyH_take (i := 17) (oi := ⟨some 233, _, _, _, _, _⟩) (v := ?_) rfl (by kernel_rfl) (by kernel_rfl) (by kernel_rfl) (fun _ _ _ h => h) (Or.inl ⟨by rfl, ?_⟩) hS82 ?_
       rotate_left 1
       ·(intro w hSw; obtain ⟨hSw1, hSw2, hSw3⟩ := hSw; go_simp; try with_reducible rfl)
       simp only [Act.put, Pk.sl]
       refine wpAnyH_ready (rs := [13]) (by kernel_rfl) (by simp) ?_
       refine AllReadyH.cons (o := ⟨some 229, _, _, _, _, _⟩) rfl (fun K hK => ?_) AllReadyH.nil
       go_simp
       refine (HT82.out.next (by have := HV.out.lim.f; have := HV.out.lim.T; omega) (by have := HV.out.vg.jg.few; have := HV.out.lim.n200; omega)).mono ?_
       rintro r w83 ⟨rfl, hb83⟩
       rw [Hnx.out]
       have hS83 : w83.cell? ⟨rv, 1, none⟩ = some (.pointer (some ⟨p2, 0, none⟩)) ∧ w83.cell? ⟨p2, 6, none⟩ = some (.slice A2 el c2) ∧ w83.cell? ⟨q2, 1, none⟩ = some (.slice B2 ll d2) := ⟨(hb83.cell (p := ⟨rv, 1, none⟩) (World.block_lt_of_cell? _ _ hS82.1)).trans hS82.1, (hb83.cell (p := ⟨p2, 6, none⟩) (World.block_lt_of_cell? _ _ hS82.2.1)).trans hS82.2.1, (hb83.cell (p := ⟨q2, 1, none⟩) (World.block_lt_of_cell? _ _ hS82.2.2)).trans hS82.2.2⟩
       have HT83 := hide (HT82.out.below hb83)
       clear hb83
       refine hK.out _ _ hS83 (fun hHeld => ?_)
       clear hK K
       clear hHeld
       refine wpAnyH_ready (rs := [18]) (by kernel_rfl) (by simp) ?_
       refine AllReadyH.cons (o := ⟨some 234, _, _, _, _, _⟩) rfl (fun K hK => ?_) AllReadyH.nil
       go_simp
       refine (HT83.out.rnext (by have := HV.out.lim.f; have := HV.out.lim.T; omega) (by have := HV.out.vg.jg.few; have := HV.out.lim.n200; omega)).mono ?_
       rintro r w84 ⟨rfl, hb84⟩
       rw [Hnx.out]
       have hS84 : w84.cell? ⟨rv, 1, none⟩ = some (.pointer (some ⟨p2, 0, none⟩)) ∧ w84.cell? ⟨p2, 6, none⟩ = some (.slice A2 el c2) ∧ w84.cell? ⟨q2, 1, none⟩ = some (.slice B2 ll d2) := ⟨(hb84.cell (p := ⟨rv, 1, none⟩) (World.block_lt_of_cell? _ _ hS83.1)).trans hS83.1, (hb84.cell (p := ⟨p2, 6, none⟩) (World.block_lt_of_cell? _ _ hS83.2.1)).trans hS83.2.1, (hb84.cell (p := ⟨q2, 1, none⟩) (World.block_lt_of_cell? _ _ hS83.2.2)).trans hS83.2.2⟩
       have HT84 := hide (HT83.out.below hb84)
       clear hb84
       refine hK.out _ _ hS84 (fun hHeld => ?_)
       clear hK K
       clear hHeld
       refine wpAnyH_take (i := 19) (oi := ⟨some 235, _, _, _, _, _⟩) (v := ?_) rfl (by kernel_rfl) (by kernel_rfl) (by kernel_rfl) (fun _ _ _ h => h) (Or.inl ⟨by rfl, ?_⟩) hS84 ?_
       rotate_left 1
       ·(intro w hSw; obtain ⟨hSw1, hSw2, hSw3⟩ := hSw; go_simp; try with_reducible rfl)
       simp only [Act.put, Pk.sl]
       refine wpAnyH_take (i := 20) (oi := ⟨some 236, _, _, _, _, _⟩) (v := ?_) rfl (by kernel_rfl) (by kernel_rfl) (by kernel_rfl) (fun _ _ _ h => h) (Or.inl ⟨by rfl, ?_⟩) hS84 ?_
       rotate_left 1
       ·(intro w hSw; obtain ⟨hSw1, hSw2, hSw3⟩ := hSw; go_simp; try with_reducible rfl)
       simp only [Act.put, Pk.sl]
       refine wpAnyH_take (i := 21) (oi := ⟨some 237, _, _, _, _, _⟩) (v := ?_) rfl (by kernel_rfl) (by kernel_rfl) (by kernel_rfl) (fun _ _ _ h => h) (Or.inl ⟨by rfl, ?_⟩) hS84 ?_
       rotate_left 1
       ·(intro w hSw; obtain ⟨hSw1, hSw2, hSw3⟩ := hSw; go_simp; try with_reducible rfl)
       simp only [Act.put, Pk.sl]
       refine wpAnyH_take (i := 22) (oi := ⟨some 238, _, _, _, _, _⟩) (v := ?_) rfl (by kernel_rfl) (by kernel_rfl) (by kernel_rfl) (fun _ _ _ h => h) (Or.inl ⟨by rfl, ?_⟩) hS84 ?_
       rotate_left 1
       ·(intro w hSw; obtain ⟨hSw1, hSw2, hSw3⟩ := hSw; go_simp; try with_reducible rfl)
       simp only [Act.put, Pk.sl]
       refine wpAnyH_take (i := 24) (oi := ⟨some 240, _, _, _, _, _⟩) (v := ?_) rfl (by kernel_rfl) (by kernel_rfl) (by kernel_rfl) (fun _ _ _ h => h) (Or.inl ⟨by rfl, ?_⟩) hS84 ?_
       rotate_left 1
       ·(intro w hSw; obtain ⟨hSw1, hSw2, hSw3⟩ := hSw; go_simp; try with_reducible rfl)
       simp only [Act.put, Pk.sl]
       refine wpAnyH_take (i := 25) (oi := ⟨some 241, _, _, _, _, _⟩) (v := ?_) rfl (by kernel_rfl) (by kernel_rfl) (by kernel_rfl) (fun _ _ _ h => h) (Or.inl ⟨by rfl, ?_⟩) hS84 ?_
       rotate_left 1
       ·(intro w hSw; obtain ⟨hSw1, hSw2, hSw3⟩ := hSw; go_simp; try with_reducible rfl)
       simp only [Act.put, Pk.sl]
       refine wpAnyH_take (i := 26) (oi := ⟨some 242, _, _, _, _, _⟩) (v := ?_) rfl (by kernel_rfl) (by kernel_rfl) (by kernel_rfl) (fun _ _ _ h => h) (Or.inl ⟨by rfl, ?_⟩) hS84 ?_
       rotate_left 1
       ·(intro w hSw; obtain ⟨hSw1, hSw2, hSw3⟩ := hSw; go_simp; try with_reducible rfl)
       simp only [Act.put, Pk.sl]
       refine wpAnyH_take (i := 27) (oi := ⟨some 243, _, _, _, _, _⟩) (v := ?_) rfl (by kernel_rfl) (by kernel_rfl) (by kernel_rfl) (fun _ _ _ h => h) (Or.inl ⟨by rfl, ?_⟩) hS84 ?_
       rotate_left 1
       ·(intro w hSw; obtain ⟨hSw1, hSw2, hSw3⟩ := hSw; go_simp; try with_reducible rfl)
       simp only [Act.put, Pk.sl]
       refine wpAnyH_take (i := 28) (oi := ⟨some 244, _, _, _, _, _⟩) (v := ?_) rfl (by kernel_rfl) (by kernel_rfl) (by kernel_rfl) (fun _ _ _ h => h) (Or.inl ⟨by rfl, ?_⟩) hS84 ?_
       rotate_left 1
       ·(intro w hSw; obtain ⟨hSw1, hSw2, hSw3⟩ := hSw; go_simp; try with_reducible rfl)
       simp only [Act.put, Pk.sl]
       refine wpAnyH_ready (rs := [23]) (by kernel_rfl) (by simp) ?_
       refine AllReadyH.cons (o := ⟨some 239, _, _, _, _, _⟩) rfl (fun K hK => ?_) AllReadyH.nil
       go_simp
       refine (HT84.out.loose).mono ?_
       rintro r w85 ⟨rfl, rfl⟩
       rw [Hll.out]
       refine hK.out _ _ hS84 (fun hHeld => ?_)
       clear hK K
       clear hHeld
       refine wpAnyH_take (i := 29) (oi := ⟨some 245, _, _, _, _, _⟩) (v := ?_) rfl (by kernel_rfl) (by kernel_rfl) (by kernel_rfl) (fun _ _ _ h => h) (Or.inl ⟨by rfl, ?_⟩) hS84 ?_
       rotate_left 1
       ·(intro w hSw; obtain ⟨hSw1, hSw2, hSw3⟩ := hSw; go_simp; try with_reducible rfl)
       simp only [Act.put, Pk.sl]
       refine wpAnyH_take (i := 30) (oi := ⟨some 246, _, _, _, _, _⟩) (v := ?_) rfl (by kernel_rfl) (by kernel_rfl) (by kernel_rfl) (fun _ _ _ h => h) (Or.inl ⟨by rfl, ?_⟩) hS84 ?_
       rotate_left 1
       ·(intro w hSw; obtain ⟨hSw1, hSw2, hSw3⟩ := hSw; go_simp; try with_reducible rfl)
       simp only [Act.put, Pk.sl]
       refine wpAnyH_done (by kernel_rfl) ?_ _
       clear hS80 hS81 hS82 hS83 hS84 HA80
       go_wp2
       go_roundw
       case rel => exact ⟨k + 1, v, p, rv, p2, _, _, _, _, _, _, _, _, Hlt.out, rfl, rfl, by go_num, by rw [show 1 + (k + 1) = 1 + k + 1 by omega]; exact HV, HT84⟩
       case measure => have := Hlt.out; simp [intOf]; omega
    by_cases k2 : kd = 2
    ·subst k2
     clear k1
     by_cases hm : E.length < n ∧ 1 ≤ nn ∧ nn ≤ 1152921504606846975
     ·skip
      as_aux_lemma =>
       have HC := hide (HP.out.mark hi.out HT.out hm.1 hm.2.1 hm.2.2)
       have HR : Hid (∀ W, TV w v p q rv p2 q2 n S (L ++ [(2 + (h.f + E.length) % n, esec ⟨h.g, h.f + E.length, 2, 0, ⟨#[]⟩, nn⟩)]) h (E ++ [⟨h.g, h.f + E.length, 2, 0, ⟨#[]⟩, nn⟩]) H S L h E H gb (opb (2, nn, ss, kp)) W → _) := hide fun W j => j.rmark (m := nn) hi.out hm.1 hm.2.1 hm.2.2
       have HV := hide (hi.out.append HK80.out hm.1 ((hi.out.eok (k := 2) (b := 0) (d := ⟨#[]⟩) (m := nn)).2 (Or.inr ⟨rfl, rfl, rfl, hm.2.1, hm.2.2⟩)))
       obtain ⟨y, hy⟩ : ∃ y, h.f + E.length = y := ⟨_, rfl⟩
       rw [hy] at HC HV
       clear hm
       go_wp2_with fail
       refine HC.out.mono ?_
       rintro r w6 ⟨rfl, hj6⟩
       have HJ6 := hide hj6
       have HR6 := hide (HR.out w6 (by rw [hy]; exact hj6))
       rw [hy] at HR6
       have x1_w6 : w6.cell? ⟨gb, 1, none⟩ = some (.int .i64 nn) := cell_of HJ6.out.obj rfl
       clear hj6 HC HR HP o0 o1 o2 o3 hy
       go_wp2_with fail
       refine HR6.out.mono ?_
       rintro r w7 ⟨rfl, hj7⟩
       have HJ7 := hide hj7
       clear x1_w6
       have x1_w7 : w7.cell? ⟨gb, 1, none⟩ = some (.int .i64 nn) := cell_of HJ7.out.obj rfl
       clear hj7 HR6 HJ6
       go_wp2_with fail
       refine (place_none (HJ7.out.ety HY.out) nn).mono ?_
       rintro r wt ⟨rfl, hbt⟩
       have HT := hide (HJ7.out.below hbt)
       clear hbt HJ7
       clear x1_w7
       have HT80 := hide HT.out.drew
       obtain ⟨A2, c2, B2, d2, k1, k6, ha, k1q⟩ := HT80.out.cells
       obtain ⟨el, hel⟩ : ∃ el, (E ++ [⟨h.g, y, 2, 0, ⟨#[]⟩, nn⟩] : List Ent).length = el := ⟨_, rfl⟩
       obtain ⟨ll, hll⟩ : ∃ ll, (L ++ [(2 + y % n, esec ⟨h.g, y, 2, 0, ⟨#[]⟩, nn⟩)] : List Wr).length = ll := ⟨_, rfl⟩
       obtain ⟨nx, hnx⟩ : ∃ nx, h.f + (E ++ [⟨h.g, y, 2, 0, ⟨#[]⟩, nn⟩] : List Ent).length = nx := ⟨_, rfl⟩
       have Hel := hide hel
       have Hll := hide (show (((L ++ [(2 + y % n, esec ⟨h.g, y, 2, 0, ⟨#[]⟩, nn⟩)] : List Wr).length : Nat) : Int) = (ll : Int) by rw [hll])
       have Hnx := hide hnx
       rw [hel] at k6
       rw [hll] at k1q
       have HA80 := hide ha
       have hS80 := And.intro k1 (And.intro k6 k1q)
       clear k1 k6 ha k1q hel hll hnx HT
       go_wp2
       refine wp_region_held (S := (fun W => W.cell? ⟨rv, 1, none⟩ = some (.pointer (some ⟨p2, 0, none⟩)) ∧ W.cell? ⟨p2, 6, none⟩ = some (.slice A2 el c2) ∧ W.cell? ⟨q2, 1, none⟩ = some (.slice B2 ll d2))) (by kernel_rfl) ?_
       change wpAnyH _ _ _ _ _ _ _ _ (World.drew _)
       refine wpAnyH_take (i := 0) (oi := ⟨some 216, _, _, _, _, _⟩) (v := ?_) rfl (by kernel_rfl) (by kernel_rfl) (by kernel_rfl) (fun _ _ _ h => h) (Or.inl ⟨by rfl, ?_⟩) hS80 ?_
       rotate_left 1
       ·(intro w hSw; obtain ⟨hSw1, hSw2, hSw3⟩ := hSw; go_simp; try with_reducible rfl)
       simp only [Act.put, Pk.sl]
       refine wpAnyH_take (i := 2) (oi := ⟨some 218, _, _, _, _, _⟩) (v := ?_) rfl (by kernel_rfl) (by kernel_rfl) (by kernel_rfl) (fun _ _ _ h => h) (Or.inl ⟨by rfl, ?_⟩) hS80 ?_
       rotate_left 1
       ·(intro w hSw; obtain ⟨hSw1, hSw2, hSw3⟩ := hSw; go_simp; try with_reducible rfl)
       simp only [Act.put, Pk.sl]
       refine wpAnyH_take (i := 3) (oi := ⟨some 219, _, _, _, _, _⟩) (v := ?_) rfl (by kernel_rfl) (by kernel_rfl) (by kernel_rfl) (fun _ _ _ h => h) (Or.inl ⟨by rfl, ?_⟩) hS80 ?_
       rotate_left 1
       ·(intro w hSw; obtain ⟨hSw1, hSw2, hSw3⟩ := hSw; go_simp; try with_reducible rfl)
       simp only [Act.put, Pk.sl]
       refine wpAnyH_take (i := 4) (oi := ⟨some 220, _, _, _, _, _⟩) (v := ?_) rfl (by kernel_rfl) (by kernel_rfl) (by kernel_rfl) (fun _ _ _ h => h) (Or.inl ⟨by rfl, ?_⟩) hS80 ?_
       rotate_left 1
       ·(intro w hSw; obtain ⟨hSw1, hSw2, hSw3⟩ := hSw; go_simp; try with_reducible rfl)
       simp only [Act.put, Pk.sl]
       refine wpAnyH_take (i := 5) (oi := ⟨some 221, _, _, _, _, _⟩) (v := ?_) rfl (by kernel_rfl) (by kernel_rfl) (by kernel_rfl) (fun _ _ _ h => h) (Or.inl ⟨by rfl, ?_⟩) hS80 ?_
       rotate_left 1
       ·(intro w hSw; obtain ⟨hSw1, hSw2, hSw3⟩ := hSw; go_simp; try with_reducible rfl)
       simp only [Act.put, Pk.sl]
       refine wpAnyH_take (i := 6) (oi := ⟨some 222, _, _, _, _, _⟩) (v := ?_) rfl (by kernel_rfl) (by kernel_rfl) (by kernel_rfl) (fun _ _ _ h => h) (Or.inl ⟨by rfl, ?_⟩) hS80 ?_
       rotate_left 1
       ·(intro w hSw; obtain ⟨hSw1, hSw2, hSw3⟩ := hSw; go_simp; try with_reducible rfl)
       simp only [Act.put, Pk.sl]
       refine wpAnyH_take (i := 7) (oi := ⟨some 223, _, _, _, _, _⟩) (v := ?_) rfl (by kernel_rfl) (by kernel_rfl) (by kernel_rfl) (fun _ _ _ h => h) (Or.inl ⟨by rfl, ?_⟩) hS80 ?_
       rotate_left 1
       ·(intro w hSw; obtain ⟨hSw1, hSw2, hSw3⟩ := hSw; go_simp; try with_reducible rfl)
       simp only [Act.put, Pk.sl]
       refine wpAnyH_take (i := 8) (oi := ⟨some 224, _, _, _, _, _⟩) (v := ?_) rfl (by kernel_rfl) (by kernel_rfl) (by kernel_rfl) (fun _ _ _ h => h) (Or.inl ⟨by rfl, ?_⟩) hS80 ?_
       rotate_left 1
       ·(intro w hSw; obtain ⟨hSw1, hSw2, hSw3⟩ := hSw; go_simp; try with_reducible rfl)
       simp only [Act.put, Pk.sl]
       refine wpAnyH_ready (rs := [1]) (by kernel_rfl) (by simp) ?_
       refine AllReadyH.cons (o := ⟨some 217, _, _, _, _, _⟩) rfl (fun K hK => ?_) AllReadyH.nil
       go_simp
       refine (HT80.out.records (by have := HV.out.vg.jg.few; have := HV.out.lim.n200; omega)).mono ?_
       rintro r w81 ⟨A81, c81, rfl, ha81, hb81⟩
       rw [Hel.out]
       have hS81 : w81.cell? ⟨rv, 1, none⟩ = some (.pointer (some ⟨p2, 0, none⟩)) ∧ w81.cell? ⟨p2, 6, none⟩ = some (.slice A2 el c2) ∧ w81.cell? ⟨q2, 1, none⟩ = some (.slice B2 ll d2) := ⟨(hb81.cell (p := ⟨rv, 1, none⟩) (World.block_lt_of_cell? _ _ hS80.1)).trans hS80.1, (hb81.cell (p := ⟨p2, 6, none⟩) (World.block_lt_of_cell? _ _ hS80.2.1)).trans hS80.2.1, (hb81.cell (p := ⟨q2, 1, none⟩) (World.block_lt_of_cell? _ _ hS80.2.2)).trans hS80.2.2⟩
       have HT81 := hide (HT80.out.below hb81)
       have HA81 := hide ha81
       have HA2 := hide (HA80.out.below hb81)
       clear ha81 hb81
       refine hK.out _ _ hS81 (fun hHeld => ?_)
       clear hK K
       clear hHeld
       refine wpAnyH_ready (rs := [9]) (by kernel_rfl) (by simp) ?_
       refine AllReadyH.cons (o := ⟨some 225, _, _, _, _, _⟩) rfl (fun K hK => ?_) AllReadyH.nil
       go_simp
       refine (Same_two w81 _ el A81 A2 c81 c2 Hel.out (by have := Hel.out; have := HV.out.vg.jg.few; have := HV.out.lim.n200; omega) HA81.out HA2.out).mono ?_
       rintro r w82 ⟨rfl, hb82⟩
       have hS82 : w82.cell? ⟨rv, 1, none⟩ = some (.pointer (some ⟨p2, 0, none⟩)) ∧ w82.cell? ⟨p2, 6, none⟩ = some (.slice A2 el c2) ∧ w82.cell? ⟨q2, 1, none⟩ = some (.slice B2 ll d2) := ⟨(hb82.cell (p := ⟨rv, 1, none⟩) (World.block_lt_of_cell? _ _ hS81.1)).trans hS81.1, (hb82.cell (p := ⟨p2, 6, none⟩) (World.block_lt_of_cell? _ _ hS81.2.1)).trans hS81.2.1, (hb82.cell (p := ⟨q2, 1, none⟩) (World.block_lt_of_cell? _ _ hS81.2.2)).trans hS81.2.2⟩
       have HT82 := hide (HT81.out.below hb82)
       clear hb82 HA81 HA2
       refine hK.out _ _ hS82 (fun hHeld => ?_)
       clear hK K
       clear hHeld
       refine wpAnyH_take (i := 10) (oi := ⟨some 226, _, _, _, _, _⟩) (v := ?_) rfl (by kernel_rfl) (by kernel_rfl) (by kernel_rfl) (fun _ _ _ h => h) (Or.inl ⟨by rfl, ?_⟩) hS82 ?_
       rotate_left 1
       ·(intro w hSw; obtain ⟨hSw1, hSw2, hSw3⟩ := hSw; go_simp; try with_reducible rfl)
       simp only [Act.put, Pk.sl]
       refine wpAnyH_take (i := 11) (oi := ⟨some 227, _, _, _, _, _⟩) (v := ?_) rfl (by kernel_rfl) (by kernel_rfl) (by kernel_rfl) (fun _ _ _ h => h) (Or.inl ⟨by rfl, ?_⟩) hS82 ?_
       rotate_left 1
       ·(intro w hSw; obtain ⟨hSw1, hSw2, hSw3⟩ := hSw; go_simp; try with_reducible rfl)
       simp only [Act.put, Pk.sl]
       refine wpAnyH_take (i := 12) (oi := ⟨some 228, _, _, _, _, _⟩) (v := ?_) rfl (by kernel_rfl) (by kernel_rfl) (by kernel_rfl) (fun _ _ _ h => h) (Or.inl ⟨by rfl, ?_⟩) hS82 ?_
       rotate_left 1
       ·(intro w hSw; obtain ⟨hSw1, hSw2, hSw3⟩ := hSw; go_simp; try with_reducible rfl)
       simp only [Act.put, Pk.sl]
       refine wpAnyH_take (i := 14) (oi := ⟨some 230, _, _, _, _, _⟩) (v := ?_) rfl (by kernel_rfl) (by kernel_rfl) (by kernel_rfl) (fun _ _ _ h => h) (Or.inl ⟨by rfl, ?_⟩) hS82 ?_
       rotate_left 1
       ·(intro w hSw; obtain ⟨hSw1, hSw2, hSw3⟩ := hSw; go_simp; try with_reducible rfl)
       simp only [Act.put, Pk.sl]
       refine wpAnyH_take (i := 15) (oi := ⟨some 231, _, _, _, _, _⟩) (v := ?_) rfl (by kernel_rfl) (by kernel_rfl) (by kernel_rfl) (fun _ _ _ h => h) (Or.inl ⟨by rfl, ?_⟩) hS82 ?_
       rotate_left 1
       ·(intro w hSw; obtain ⟨hSw1, hSw2, hSw3⟩ := hSw; go_simp; try with_reducible rfl)
       simp only [Act.put, Pk.sl]
       refine wpAnyH_take (i := 16) (oi := ⟨some 232, _, _, _, _, _⟩) (v := ?_) rfl (by kernel_rfl) (by kernel_rfl) (by kernel_rfl) (fun _ _ _ h => h) (Or.inl ⟨by rfl, ?_⟩) hS82 ?_
       rotate_left 1
       ·(intro w hSw; obtain ⟨hSw1, hSw2, hSw3⟩ := hSw; go_simp; try with_reducible rfl)
       simp only [Act.put, Pk.sl]
       refine wpAnyH_take (i := 17) (oi := ⟨some 233, _, _, _, _, _⟩) (v := ?_) rfl (by kernel_rfl) (by kernel_rfl) (by kernel_rfl) (fun _ _ _ h => h) (Or.inl ⟨by rfl, ?_⟩) hS82 ?_
       rotate_left 1
       ·(intro w hSw; obtain ⟨hSw1, hSw2, hSw3⟩ := hSw; go_simp; try with_reducible rfl)
       simp only [Act.put, Pk.sl]
       refine wpAnyH_ready (rs := [13]) (by kernel_rfl) (by simp) ?_
       refine AllReadyH.cons (o := ⟨some 229, _, _, _, _, _⟩) rfl (fun K hK => ?_) AllReadyH.nil
       go_simp
       refine (HT82.out.next (by have := HV.out.lim.f; have := HV.out.lim.T; omega) (by have := HV.out.vg.jg.few; have := HV.out.lim.n200; omega)).mono ?_
       rintro r w83 ⟨rfl, hb83⟩
       rw [Hnx.out]
       have hS83 : w83.cell? ⟨rv, 1, none⟩ = some (.pointer (some ⟨p2, 0, none⟩)) ∧ w83.cell? ⟨p2, 6, none⟩ = some (.slice A2 el c2) ∧ w83.cell? ⟨q2, 1, none⟩ = some (.slice B2 ll d2) := ⟨(hb83.cell (p := ⟨rv, 1, none⟩) (World.block_lt_of_cell? _ _ hS82.1)).trans hS82.1, (hb83.cell (p := ⟨p2, 6, none⟩) (World.block_lt_of_cell? _ _ hS82.2.1)).trans hS82.2.1, (hb83.cell (p := ⟨q2, 1, none⟩) (World.block_lt_of_cell? _ _ hS82.2.2)).trans hS82.2.2⟩
       have HT83 := hide (HT82.out.below hb83)
       clear hb83
       refine hK.out _ _ hS83 (fun hHeld => ?_)
       clear hK K
       clear hHeld
       refine wpAnyH_ready (rs := [18]) (by kernel_rfl) (by simp) ?_
       refine AllReadyH.cons (o := ⟨some 234, _, _, _, _, _⟩) rfl (fun K hK => ?_) AllReadyH.nil
       go_simp
       refine (HT83.out.rnext (by have := HV.out.lim.f; have := HV.out.lim.T; omega) (by have := HV.out.vg.jg.few; have := HV.out.lim.n200; omega)).mono ?_
       rintro r w84 ⟨rfl, hb84⟩
       rw [Hnx.out]
       have hS84 : w84.cell? ⟨rv, 1, none⟩ = some (.pointer (some ⟨p2, 0, none⟩)) ∧ w84.cell? ⟨p2, 6, none⟩ = some (.slice A2 el c2) ∧ w84.cell? ⟨q2, 1, none⟩ = some (.slice B2 ll d2) := ⟨(hb84.cell (p := ⟨rv, 1, none⟩) (World.block_lt_of_cell? _ _ hS83.1)).trans hS83.1, (hb84.cell (p := ⟨p2, 6, none⟩) (World.block_lt_of_cell? _ _ hS83.2.1)).trans hS83.2.1, (hb84.cell (p := ⟨q2, 1, none⟩) (World.block_lt_of_cell? _ _ hS83.2.2)).trans hS83.2.2⟩
       have HT84 := hide (HT83.out.below hb84)
       clear hb84
       refine hK.out _ _ hS84 (fun hHeld => ?_)
       clear hK K
       clear hHeld
       refine wpAnyH_take (i := 19) (oi := ⟨some 235, _, _, _, _, _⟩) (v := ?_) rfl (by kernel_rfl) (by kernel_rfl) (by kernel_rfl) (fun _ _ _ h => h) (Or.inl ⟨by rfl, ?_⟩) hS84 ?_
       rotate_left 1
       ·(intro w hSw; obtain ⟨hSw1, hSw2, hSw3⟩ := hSw; go_simp; try with_reducible rfl)
       simp only [Act.put, Pk.sl]
       refine wpAnyH_take (i := 20) (oi := ⟨some 236, _, _, _, _, _⟩) (v := ?_) rfl (by kernel_rfl) (by kernel_rfl) (by kernel_rfl) (fun _ _ _ h => h) (Or.inl ⟨by rfl, ?_⟩) hS84 ?_
       rotate_left 1
       ·(intro w hSw; obtain ⟨hSw1, hSw2, hSw3⟩ := hSw; go_simp; try with_reducible rfl)
       simp only [Act.put, Pk.sl]
       refine wpAnyH_take (i := 21) (oi := ⟨some 237, _, _, _, _, _⟩) (v := ?_) rfl (by kernel_rfl) (by kernel_rfl) (by kernel_rfl) (fun _ _ _ h => h) (Or.inl ⟨by rfl, ?_⟩) hS84 ?_
       rotate_left 1
       ·(intro w hSw; obtain ⟨hSw1, hSw2, hSw3⟩ := hSw; go_simp; try with_reducible rfl)
       simp only [Act.put, Pk.sl]
       refine wpAnyH_take (i := 22) (oi := ⟨some 238, _, _, _, _, _⟩) (v := ?_) rfl (by kernel_rfl) (by kernel_rfl) (by kernel_rfl) (fun _ _ _ h => h) (Or.inl ⟨by rfl, ?_⟩) hS84 ?_
       rotate_left 1
       ·(intro w hSw; obtain ⟨hSw1, hSw2, hSw3⟩ := hSw; go_simp; try with_reducible rfl)
       simp only [Act.put, Pk.sl]
       refine wpAnyH_take (i := 24) (oi := ⟨some 240, _, _, _, _, _⟩) (v := ?_) rfl (by kernel_rfl) (by kernel_rfl) (by kernel_rfl) (fun _ _ _ h => h) (Or.inl ⟨by rfl, ?_⟩) hS84 ?_
       rotate_left 1
       ·(intro w hSw; obtain ⟨hSw1, hSw2, hSw3⟩ := hSw; go_simp; try with_reducible rfl)
       simp only [Act.put, Pk.sl]
       refine wpAnyH_take (i := 25) (oi := ⟨some 241, _, _, _, _, _⟩) (v := ?_) rfl (by kernel_rfl) (by kernel_rfl) (by kernel_rfl) (fun _ _ _ h => h) (Or.inl ⟨by rfl, ?_⟩) hS84 ?_
       rotate_left 1
       ·(intro w hSw; obtain ⟨hSw1, hSw2, hSw3⟩ := hSw; go_simp; try with_reducible rfl)
       simp only [Act.put, Pk.sl]
       refine wpAnyH_take (i := 26) (oi := ⟨some 242, _, _, _, _, _⟩) (v := ?_) rfl (by kernel_rfl) (by kernel_rfl) (by kernel_rfl) (fun _ _ _ h => h) (Or.inl ⟨by rfl, ?_⟩) hS84 ?_
       rotate_left 1
       ·(intro w hSw; obtain ⟨hSw1, hSw2, hSw3⟩ := hSw; go_simp; try with_reducible rfl)
       simp only [Act.put, Pk.sl]
       refine wpAnyH_take (i := 27) (oi := ⟨some 243, _, _, _, _, _⟩) (v := ?_) rfl (by kernel_rfl) (by kernel_rfl) (by kernel_rfl) (fun _ _ _ h => h) (Or.inl ⟨by rfl, ?_⟩) hS84 ?_
       rotate_left 1
       ·(intro w hSw; obtain ⟨hSw1, hSw2, hSw3⟩ := hSw; go_simp; try with_reducible rfl)
       simp only [Act.put, Pk.sl]
       refine wpAnyH_take (i := 28) (oi := ⟨some 244, _, _, _, _, _⟩) (v := ?_) rfl (by kernel_rfl) (by kernel_rfl) (by kernel_rfl) (fun _ _ _ h => h) (Or.inl ⟨by rfl, ?_⟩) hS84 ?_
       rotate_left 1
       ·(intro w hSw; obtain ⟨hSw1, hSw2, hSw3⟩ := hSw; go_simp; try with_reducible rfl)
       simp only [Act.put, Pk.sl]
       refine wpAnyH_ready (rs := [23]) (by kernel_rfl) (by simp) ?_
       refine AllReadyH.cons (o := ⟨some 239, _, _, _, _, _⟩) rfl (fun K hK => ?_) AllReadyH.nil
       go_simp
       refine (HT84.out.loose).mono ?_
       rintro r w85 ⟨rfl, rfl⟩
       rw [Hll.out]
       refine hK.out _ _ hS84 (fun hHeld => ?_)
       clear hK K
       clear hHeld
       refine wpAnyH_take (i := 29) (oi := ⟨some 245, _, _, _, _, _⟩) (v := ?_) rfl (by kernel_rfl) (by kernel_rfl) (by kernel_rfl) (fun _ _ _ h => h) (Or.inl ⟨by rfl, ?_⟩) hS84 ?_
       rotate_left 1
       ·(intro w hSw; obtain ⟨hSw1, hSw2, hSw3⟩ := hSw; go_simp; try with_reducible rfl)
       simp only [Act.put, Pk.sl]
       refine wpAnyH_take (i := 30) (oi := ⟨some 246, _, _, _, _, _⟩) (v := ?_) rfl (by kernel_rfl) (by kernel_rfl) (by kernel_rfl) (fun _ _ _ h => h) (Or.inl ⟨by rfl, ?_⟩) hS84 ?_
       rotate_left 1
       ·(intro w hSw; obtain ⟨hSw1, hSw2, hSw3⟩ := hSw; go_simp; try with_reducible rfl)
       simp only [Act.put, Pk.sl]
       refine wpAnyH_done (by kernel_rfl) ?_ _
       clear hS80 hS81 hS82 hS83 hS84 HA80
       go_wp2
       go_roundw
       case rel => exact ⟨k + 1, v, p, rv, p2, _, _, _, _, _, _, _, _, Hlt.out, rfl, rfl, by go_num, by rw [show 1 + (k + 1) = 1 + k + 1 by omega]; exact HV, HT84⟩
       case measure => have := Hlt.out; simp [intOf]; omega
     ·skip
      as_aux_lemma =>
       have HV := hide (hi.out.more (Nat.le_succ _) HK80.out)
       have hno : E.length = n ∨ ¬ (1 ≤ nn ∧ nn ≤ 1152921504606846975) := by
        have := hi.out.vg.jg.few
        by_cases hE : E.length = n
        ·exact Or.inl hE
        ·exact Or.inr fun h => hm ⟨by omega, h.1, h.2⟩
       obtain ⟨R, hvs⟩ := HP.out.vs hi.out
       have HC := hide (hvs.mark_no hno)
       have HR : Hid (∀ W, TV w v p q rv p2 q2 n S L h E H S L h E H gb (opb (2, nn, ss, kp)) W → _) := hide fun W j => j.rmark_no (m := nn) hi.out hno
       obtain ⟨y, hy⟩ : ∃ y : Int, (if E.length = n then (6 : Int) else 1) = y := ⟨_, rfl⟩
       have HWN := hide (show y ≠ 0 by rw [← hy]; split <;> decide)
       rw [hy] at HC HR
       clear hvs hy hm hno
       go_wp2_with fail
       refine HC.out.mono ?_
       rintro r w6 ⟨pp, rfl, hf6, hb6⟩
       have HJ6 := hide (HP.out.below hb6)
       have HE6 := hide hf6
       have x1_w6 : w6.cell? ⟨gb, 1, none⟩ = some (.int .i64 nn) := cell_of HJ6.out.obj rfl
       clear hf6 hb6 HC HP o0 o1 o2 o3
       go_wp2_with fail
       refine (HR.out w6 HJ6.out).mono ?_
       rintro r w7 ⟨rfl, hb7⟩
       have HJ7 := hide (HJ6.out.below hb7)
       have HE7 := hide (HE6.out.below hb7)
       clear x1_w6
       have x1_w7 : w7.cell? ⟨gb, 1, none⟩ = some (.int .i64 nn) := cell_of HJ7.out.obj rfl
       clear hb7 HR HJ6 HE6
       go_wp2_with fail
       refine (place_flt (HJ7.out.ety HY.out) HE7.out (by first | exact HWN.out | decide)).mono ?_
       rintro r wt ⟨rfl, hbt⟩
       have HT := hide (HJ7.out.below hbt)
       clear hbt HJ7 HE7
       clear x1_w7
       have HT80 := hide HT.out.drew
       obtain ⟨A2, c2, B2, d2, k1, k6, ha, k1q⟩ := HT80.out.cells
       obtain ⟨el, hel⟩ : ∃ el, E.length = el := ⟨_, rfl⟩
       obtain ⟨ll, hll⟩ : ∃ ll, L.length = ll := ⟨_, rfl⟩
       obtain ⟨nx, hnx⟩ : ∃ nx, h.f + E.length = nx := ⟨_, rfl⟩
       have Hel := hide hel
       have Hll := hide (show ((L.length : Nat) : Int) = (ll : Int) by rw [hll])
       have Hnx := hide hnx
       rw [hel] at k6
       rw [hll] at k1q
       have HA80 := hide ha
       have hS80 := And.intro k1 (And.intro k6 k1q)
       clear k1 k6 ha k1q hel hll hnx HT
       go_wp2
       refine wp_region_held (S := (fun W => W.cell? ⟨rv, 1, none⟩ = some (.pointer (some ⟨p2, 0, none⟩)) ∧ W.cell? ⟨p2, 6, none⟩ = some (.slice A2 el c2) ∧ W.cell? ⟨q2, 1, none⟩ = some (.slice B2 ll d2))) (by kernel_rfl) ?_
       change wpAnyH _ _ _ _ _ _ _ _ (World.drew _)
       refine wpAnyH_take (i := 0) (oi := ⟨some 216, _, _, _, _, _⟩) (v := ?_) rfl (by kernel_rfl) (by kernel_rfl) (by kernel_rfl) (fun _ _ _ h => h) (Or.inl ⟨by rfl, ?_⟩) hS80 ?_
       rotate_left 1
       ·(intro w hSw; obtain ⟨hSw1, hSw2, hSw3⟩ := hSw; go_simp; try with_reducible rfl)
       simp only [Act.put, Pk.sl]
       refine wpAnyH_take (i := 2) (oi := ⟨some 218, _, _, _, _, _⟩) (v := ?_) rfl (by kernel_rfl) (by kernel_rfl) (by kernel_rfl) (fun _ _ _ h => h) (Or.inl ⟨by rfl, ?_⟩) hS80 ?_
       rotate_left 1
       ·(intro w hSw; obtain ⟨hSw1, hSw2, hSw3⟩ := hSw; go_simp; try with_reducible rfl)
       simp only [Act.put, Pk.sl]
       refine wpAnyH_take (i := 3) (oi := ⟨some 219, _, _, _, _, _⟩) (v := ?_) rfl (by kernel_rfl) (by kernel_rfl) (by kernel_rfl) (fun _ _ _ h => h) (Or.inl ⟨by rfl, ?_⟩) hS80 ?_
       rotate_left 1
       ·(intro w hSw; obtain ⟨hSw1, hSw2, hSw3⟩ := hSw; go_simp; try with_reducible rfl)
       simp only [Act.put, Pk.sl]
       refine wpAnyH_take (i := 4) (oi := ⟨some 220, _, _, _, _, _⟩) (v := ?_) rfl (by kernel_rfl) (by kernel_rfl) (by kernel_rfl) (fun _ _ _ h => h) (Or.inl ⟨by rfl, ?_⟩) hS80 ?_
       rotate_left 1
       ·(intro w hSw; obtain ⟨hSw1, hSw2, hSw3⟩ := hSw; go_simp; try with_reducible rfl)
       simp only [Act.put, Pk.sl]
       refine wpAnyH_take (i := 5) (oi := ⟨some 221, _, _, _, _, _⟩) (v := ?_) rfl (by kernel_rfl) (by kernel_rfl) (by kernel_rfl) (fun _ _ _ h => h) (Or.inl ⟨by rfl, ?_⟩) hS80 ?_
       rotate_left 1
       ·(intro w hSw; obtain ⟨hSw1, hSw2, hSw3⟩ := hSw; go_simp; try with_reducible rfl)
       simp only [Act.put, Pk.sl]
       refine wpAnyH_take (i := 6) (oi := ⟨some 222, _, _, _, _, _⟩) (v := ?_) rfl (by kernel_rfl) (by kernel_rfl) (by kernel_rfl) (fun _ _ _ h => h) (Or.inl ⟨by rfl, ?_⟩) hS80 ?_
       rotate_left 1
       ·(intro w hSw; obtain ⟨hSw1, hSw2, hSw3⟩ := hSw; go_simp; try with_reducible rfl)
       simp only [Act.put, Pk.sl]
       refine wpAnyH_take (i := 7) (oi := ⟨some 223, _, _, _, _, _⟩) (v := ?_) rfl (by kernel_rfl) (by kernel_rfl) (by kernel_rfl) (fun _ _ _ h => h) (Or.inl ⟨by rfl, ?_⟩) hS80 ?_
       rotate_left 1
       ·(intro w hSw; obtain ⟨hSw1, hSw2, hSw3⟩ := hSw; go_simp; try with_reducible rfl)
       simp only [Act.put, Pk.sl]
       refine wpAnyH_take (i := 8) (oi := ⟨some 224, _, _, _, _, _⟩) (v := ?_) rfl (by kernel_rfl) (by kernel_rfl) (by kernel_rfl) (fun _ _ _ h => h) (Or.inl ⟨by rfl, ?_⟩) hS80 ?_
       rotate_left 1
       ·(intro w hSw; obtain ⟨hSw1, hSw2, hSw3⟩ := hSw; go_simp; try with_reducible rfl)
       simp only [Act.put, Pk.sl]
       refine wpAnyH_ready (rs := [1]) (by kernel_rfl) (by simp) ?_
       refine AllReadyH.cons (o := ⟨some 217, _, _, _, _, _⟩) rfl (fun K hK => ?_) AllReadyH.nil
       go_simp
       refine (HT80.out.records (by have := HV.out.vg.jg.few; have := HV.out.lim.n200; omega)).mono ?_
       rintro r w81 ⟨A81, c81, rfl, ha81, hb81⟩
       rw [Hel.out]
       have hS81 : w81.cell? ⟨rv, 1, none⟩ = some (.pointer (some ⟨p2, 0, none⟩)) ∧ w81.cell? ⟨p2, 6, none⟩ = some (.slice A2 el c2) ∧ w81.cell? ⟨q2, 1, none⟩ = some (.slice B2 ll d2) := ⟨(hb81.cell (p := ⟨rv, 1, none⟩) (World.block_lt_of_cell? _ _ hS80.1)).trans hS80.1, (hb81.cell (p := ⟨p2, 6, none⟩) (World.block_lt_of_cell? _ _ hS80.2.1)).trans hS80.2.1, (hb81.cell (p := ⟨q2, 1, none⟩) (World.block_lt_of_cell? _ _ hS80.2.2)).trans hS80.2.2⟩
       have HT81 := hide (HT80.out.below hb81)
       have HA81 := hide ha81
       have HA2 := hide (HA80.out.below hb81)
       clear ha81 hb81
       refine hK.out _ _ hS81 (fun hHeld => ?_)
       clear hK K
       clear hHeld
       refine wpAnyH_ready (rs := [9]) (by kernel_rfl) (by simp) ?_
       refine AllReadyH.cons (o := ⟨some 225, _, _, _, _, _⟩) rfl (fun K hK => ?_) AllReadyH.nil
       go_simp
       refine (Same_two w81 _ el A81 A2 c81 c2 Hel.out (by have := Hel.out; have := HV.out.vg.jg.few; have := HV.out.lim.n200; omega) HA81.out HA2.out).mono ?_
       rintro r w82 ⟨rfl, hb82⟩
       have hS82 : w82.cell? ⟨rv, 1, none⟩ = some (.pointer (some ⟨p2, 0, none⟩)) ∧ w82.cell? ⟨p2, 6, none⟩ = some (.slice A2 el c2) ∧ w82.cell? ⟨q2, 1, none⟩ = some (.slice B2 ll d2) := ⟨(hb82.cell (p := ⟨rv, 1, none⟩) (World.block_lt_of_cell? _ _ hS81.1)).trans hS81.1, (hb82.cell (p := ⟨p2, 6, none⟩) (World.block_lt_of_cell? _ _ hS81.2.1)).trans hS81.2.1, (hb82.cell (p := ⟨q2, 1, none⟩) (World.block_lt_of_cell? _ _ hS81.2.2)).trans hS81.2.2⟩
       have HT82 := hide (HT81.out.below hb82)
       clear hb82 HA81 HA2
       refine hK.out _ _ hS82 (fun hHeld => ?_)
       clear hK K
       clear hHeld
       refine wpAnyH_take (i := 10) (oi := ⟨some 226, _, _, _, _, _⟩) (v := ?_) rfl (by kernel_rfl) (by kernel_rfl) (by kernel_rfl) (fun _ _ _ h => h) (Or.inl ⟨by rfl, ?_⟩) hS82 ?_
       rotate_left 1
       ·(intro w hSw; obtain ⟨hSw1, hSw2, hSw3⟩ := hSw; go_simp; try with_reducible rfl)
       simp only [Act.put, Pk.sl]
       refine wpAnyH_take (i := 11) (oi := ⟨some 227, _, _, _, _, _⟩) (v := ?_) rfl (by kernel_rfl) (by kernel_rfl) (by kernel_rfl) (fun _ _ _ h => h) (Or.inl ⟨by rfl, ?_⟩) hS82 ?_
       rotate_left 1
       ·(intro w hSw; obtain ⟨hSw1, hSw2, hSw3⟩ := hSw; go_simp; try with_reducible rfl)
       simp only [Act.put, Pk.sl]
       refine wpAnyH_take (i := 12) (oi := ⟨some 228, _, _, _, _, _⟩) (v := ?_) rfl (by kernel_rfl) (by kernel_rfl) (by kernel_rfl) (fun _ _ _ h => h) (Or.inl ⟨by rfl, ?_⟩) hS82 ?_
       rotate_left 1
       ·(intro w hSw; obtain ⟨hSw1, hSw2, hSw3⟩ := hSw; go_simp; try with_reducible rfl)
       simp only [Act.put, Pk.sl]
       refine wpAnyH_take (i := 14) (oi := ⟨some 230, _, _, _, _, _⟩) (v := ?_) rfl (by kernel_rfl) (by kernel_rfl) (by kernel_rfl) (fun _ _ _ h => h) (Or.inl ⟨by rfl, ?_⟩) hS82 ?_
       rotate_left 1
       ·(intro w hSw; obtain ⟨hSw1, hSw2, hSw3⟩ := hSw; go_simp; try with_reducible rfl)
       simp only [Act.put, Pk.sl]
       refine wpAnyH_take (i := 15) (oi := ⟨some 231, _, _, _, _, _⟩) (v := ?_) rfl (by kernel_rfl) (by kernel_rfl) (by kernel_rfl) (fun _ _ _ h => h) (Or.inl ⟨by rfl, ?_⟩) hS82 ?_
       rotate_left 1
       ·(intro w hSw; obtain ⟨hSw1, hSw2, hSw3⟩ := hSw; go_simp; try with_reducible rfl)
       simp only [Act.put, Pk.sl]
       refine wpAnyH_take (i := 16) (oi := ⟨some 232, _, _, _, _, _⟩) (v := ?_) rfl (by kernel_rfl) (by kernel_rfl) (by kernel_rfl) (fun _ _ _ h => h) (Or.inl ⟨by rfl, ?_⟩) hS82 ?_
       rotate_left 1
       ·(intro w hSw; obtain ⟨hSw1, hSw2, hSw3⟩ := hSw; go_simp; try with_reducible rfl)
       simp only [Act.put, Pk.sl]
       refine wpAnyH_take (i := 17) (oi := ⟨some 233, _, _, _, _, _⟩) (v := ?_) rfl (by kernel_rfl) (by kernel_rfl) (by kernel_rfl) (fun _ _ _ h => h) (Or.inl ⟨by rfl, ?_⟩) hS82 ?_
       rotate_left 1
       ·(intro w hSw; obtain ⟨hSw1, hSw2, hSw3⟩ := hSw; go_simp; try with_reducible rfl)
       simp only [Act.put, Pk.sl]
       refine wpAnyH_ready (rs := [13]) (by kernel_rfl) (by simp) ?_
       refine AllReadyH.cons (o := ⟨some 229, _, _, _, _, _⟩) rfl (fun K hK => ?_) AllReadyH.nil
       go_simp
       refine (HT82.out.next (by have := HV.out.lim.f; have := HV.out.lim.T; omega) (by have := HV.out.vg.jg.few; have := HV.out.lim.n200; omega)).mono ?_
       rintro r w83 ⟨rfl, hb83⟩
       rw [Hnx.out]
       have hS83 : w83.cell? ⟨rv, 1, none⟩ = some (.pointer (some ⟨p2, 0, none⟩)) ∧ w83.cell? ⟨p2, 6, none⟩ = some (.slice A2 el c2) ∧ w83.cell? ⟨q2, 1, none⟩ = some (.slice B2 ll d2) := ⟨(hb83.cell (p := ⟨rv, 1, none⟩) (World.block_lt_of_cell? _ _ hS82.1)).trans hS82.1, (hb83.cell (p := ⟨p2, 6, none⟩) (World.block_lt_of_cell? _ _ hS82.2.1)).trans hS82.2.1, (hb83.cell (p := ⟨q2, 1, none⟩) (World.block_lt_of_cell? _ _ hS82.2.2)).trans hS82.2.2⟩
       have HT83 := hide (HT82.out.below hb83)
       clear hb83
       refine hK.out _ _ hS83 (fun hHeld => ?_)
       clear hK K
       clear hHeld
       refine wpAnyH_ready (rs := [18]) (by kernel_rfl) (by simp) ?_
       refine AllReadyH.cons (o := ⟨some 234, _, _, _, _, _⟩) rfl (fun K hK => ?_) AllReadyH.nil
       go_simp
       refine (HT83.out.rnext (by have := HV.out.lim.f; have := HV.out.lim.T; omega) (by have := HV.out.vg.jg.few; have := HV.out.lim.n200; omega)).mono ?_
       rintro r w84 ⟨rfl, hb84⟩
       rw [Hnx.out]
       have hS84 : w84.cell? ⟨rv, 1, none⟩ = some (.pointer (some ⟨p2, 0, none⟩)) ∧ w84.cell? ⟨p2, 6, none⟩ = some (.slice A2 el c2) ∧ w84.cell? ⟨q2, 1, none⟩ = some (.slice B2 ll d2) := ⟨(hb84.cell (p := ⟨rv, 1, none⟩) (World.block_lt_of_cell? _ _ hS83.1)).trans hS83.1, (hb84.cell (p := ⟨p2, 6, none⟩) (World.block_lt_of_cell? _ _ hS83.2.1)).trans hS83.2.1, (hb84.cell (p := ⟨q2, 1, none⟩) (World.block_lt_of_cell? _ _ hS83.2.2)).trans hS83.2.2⟩
       have HT84 := hide (HT83.out.below hb84)
       clear hb84
       refine hK.out _ _ hS84 (fun hHeld => ?_)
       clear hK K
       clear hHeld
       refine wpAnyH_take (i := 19) (oi := ⟨some 235, _, _, _, _, _⟩) (v := ?_) rfl (by kernel_rfl) (by kernel_rfl) (by kernel_rfl) (fun _ _ _ h => h) (Or.inl ⟨by rfl, ?_⟩) hS84 ?_
       rotate_left 1
       ·(intro w hSw; obtain ⟨hSw1, hSw2, hSw3⟩ := hSw; go_simp; try with_reducible rfl)
       simp only [Act.put, Pk.sl]
       refine wpAnyH_take (i := 20) (oi := ⟨some 236, _, _, _, _, _⟩) (v := ?_) rfl (by kernel_rfl) (by kernel_rfl) (by kernel_rfl) (fun _ _ _ h => h) (Or.inl ⟨by rfl, ?_⟩) hS84 ?_
       rotate_left 1
       ·(intro w hSw; obtain ⟨hSw1, hSw2, hSw3⟩ := hSw; go_simp; try with_reducible rfl)
       simp only [Act.put, Pk.sl]
       refine wpAnyH_take (i := 21) (oi := ⟨some 237, _, _, _, _, _⟩) (v := ?_) rfl (by kernel_rfl) (by kernel_rfl) (by kernel_rfl) (fun _ _ _ h => h) (Or.inl ⟨by rfl, ?_⟩) hS84 ?_
       rotate_left 1
       ·(intro w hSw; obtain ⟨hSw1, hSw2, hSw3⟩ := hSw; go_simp; try with_reducible rfl)
       simp only [Act.put, Pk.sl]
       refine wpAnyH_take (i := 22) (oi := ⟨some 238, _, _, _, _, _⟩) (v := ?_) rfl (by kernel_rfl) (by kernel_rfl) (by kernel_rfl) (fun _ _ _ h => h) (Or.inl ⟨by rfl, ?_⟩) hS84 ?_
       rotate_left 1
       ·(intro w hSw; obtain ⟨hSw1, hSw2, hSw3⟩ := hSw; go_simp; try with_reducible rfl)
       simp only [Act.put, Pk.sl]
       refine wpAnyH_take (i := 24) (oi := ⟨some 240, _, _, _, _, _⟩) (v := ?_) rfl (by kernel_rfl) (by kernel_rfl) (by kernel_rfl) (fun _ _ _ h => h) (Or.inl ⟨by rfl, ?_⟩) hS84 ?_
       rotate_left 1
       ·(intro w hSw; obtain ⟨hSw1, hSw2, hSw3⟩ := hSw; go_simp; try with_reducible rfl)
       simp only [Act.put, Pk.sl]
       refine wpAnyH_take (i := 25) (oi := ⟨some 241, _, _, _, _, _⟩) (v := ?_) rfl (by kernel_rfl) (by kernel_rfl) (by kernel_rfl) (fun _ _ _ h => h) (Or.inl ⟨by rfl, ?_⟩) hS84 ?_
       rotate_left 1
       ·(intro w hSw; obtain ⟨hSw1, hSw2, hSw3⟩ := hSw; go_simp; try with_reducible rfl)
       simp only [Act.put, Pk.sl]
       refine wpAnyH_take (i := 26) (oi := ⟨some 242, _, _, _, _, _⟩) (v := ?_) rfl (by kernel_rfl) (by kernel_rfl) (by kernel_rfl) (fun _ _ _ h => h) (Or.inl ⟨by rfl, ?_⟩) hS84 ?_
       rotate_left 1
       ·(intro w hSw; obtain ⟨hSw1, hSw2, hSw3⟩ := hSw; go_simp; try with_reducible rfl)
       simp only [Act.put, Pk.sl]
       refine wpAnyH_take (i := 27) (oi := ⟨some 243, _, _, _, _, _⟩) (v := ?_) rfl (by kernel_rfl) (by kernel_rfl) (by kernel_rfl) (fun _ _ _ h => h) (Or.inl ⟨by rfl, ?_⟩) hS84 ?_
       rotate_left 1
       ·(intro w hSw; obtain ⟨hSw1, hSw2, hSw3⟩ := hSw; go_simp; try with_reducible rfl)
       simp only [Act.put, Pk.sl]
       refine wpAnyH_take (i := 28) (oi := ⟨some 244, _, _, _, _, _⟩) (v := ?_) rfl (by kernel_rfl) (by kernel_rfl) (by kernel_rfl) (fun _ _ _ h => h) (Or.inl ⟨by rfl, ?_⟩) hS84 ?_
       rotate_left 1
       ·(intro w hSw; obtain ⟨hSw1, hSw2, hSw3⟩ := hSw; go_simp; try with_reducible rfl)
       simp only [Act.put, Pk.sl]
       refine wpAnyH_ready (rs := [23]) (by kernel_rfl) (by simp) ?_
       refine AllReadyH.cons (o := ⟨some 239, _, _, _, _, _⟩) rfl (fun K hK => ?_) AllReadyH.nil
       go_simp
       refine (HT84.out.loose).mono ?_
       rintro r w85 ⟨rfl, rfl⟩
       rw [Hll.out]
       refine hK.out _ _ hS84 (fun hHeld => ?_)
       clear hK K
       clear hHeld
       refine wpAnyH_take (i := 29) (oi := ⟨some 245, _, _, _, _, _⟩) (v := ?_) rfl (by kernel_rfl) (by kernel_rfl) (by kernel_rfl) (fun _ _ _ h => h) (Or.inl ⟨by rfl, ?_⟩) hS84 ?_
       rotate_left 1
       ·(intro w hSw; obtain ⟨hSw1, hSw2, hSw3⟩ := hSw; go_simp; try with_reducible rfl)
       simp only [Act.put, Pk.sl]
       refine wpAnyH_take (i := 30) (oi := ⟨some 246, _, _, _, _, _⟩) (v := ?_) rfl (by kernel_rfl) (by kernel_rfl) (by kernel_rfl) (fun _ _ _ h => h) (Or.inl ⟨by rfl, ?_⟩) hS84 ?_
       rotate_left 1
       ·(intro w hSw; obtain ⟨hSw1, hSw2, hSw3⟩ := hSw; go_simp; try with_reducible rfl)
       simp only [Act.put, Pk.sl]
       refine wpAnyH_done (by kernel_rfl) ?_ _
       clear hS80 hS81 hS82 hS83 hS84 HA80
       go_wp2
       go_roundw
       case rel => exact ⟨k + 1, v, p, rv, p2, _, _, _, _, _, _, _, _, Hlt.out, rfl, rfl, by go_num, by rw [show 1 + (k + 1) = 1 + k + 1 by omega]; exact HV, HT84⟩
       case measure => have := Hlt.out; simp [intOf]; omega
    by_cases k3 : kd = 3
    ·subst k3
     clear k1 k2
     by_cases hb : 0 ≤ nn ∧ nn < 8
     ·skip
      as_aux_lemma =>
       have HV := hide (hi.out.more (Nat.le_succ _) HK80.out)
       obtain ⟨nb, rfl⟩ : ∃ nb : Nat, nn = (nb : Int) := ⟨nn.toNat, by omega⟩
       have hnb : nb < 8 := by omega
       obtain ⟨R, hvs⟩ := HP.out.vs hi.out
       have HC := hide (hvs.read hnb)
       have HR : Hid (∀ W, TV w v p q rv p2 q2 n S L h E H S L h E H gb (opb (3, (nb : Int), ss, kp)) W → _) := hide fun W j => j.rread8 hi.out hnb
       obtain ⟨y, hy⟩ : ∃ y, blk H E nb = y := ⟨_, rfl⟩
       rw [hy] at HC HR
       clear hvs hy hb
       go_wp2_with fail
       refine HC.out.mono ?_
       rintro r w6 ⟨rfl, hb6⟩
       have HJ6 := hide (HP.out.below hb6)
       have x1_w6 : w6.cell? ⟨gb, 1, none⟩ = some (.int .i64 (nb : Int)) := cell_of HJ6.out.obj rfl
       clear hb6 HC HP o0 o1 o2 o3
       go_wp2_with fail
       refine (HR.out w6 HJ6.out).mono ?_
       rintro r w7 ⟨rfl, hb7⟩
       have HJ7 := hide (HJ6.out.below hb7)
       have x1_w7 : w7.cell? ⟨gb, 1, none⟩ = some (.int .i64 (nb : Int)) := cell_of HJ7.out.obj rfl
       clear hb7 HR HJ6 x1_w6
       go_wp2_with fail
       refine (place_none (HJ7.out.ety HY.out) (nb : Int)).mono ?_
       rintro r wt ⟨rfl, hbt⟩
       have HT := hide (HJ7.out.below hbt)
       clear hbt HJ7
       clear x1_w7
       have HT80 := hide HT.out.drew
       obtain ⟨A2, c2, B2, d2, k1, k6, ha, k1q⟩ := HT80.out.cells
       obtain ⟨el, hel⟩ : ∃ el, E.length = el := ⟨_, rfl⟩
       obtain ⟨ll, hll⟩ : ∃ ll, L.length = ll := ⟨_, rfl⟩
       obtain ⟨nx, hnx⟩ : ∃ nx, h.f + E.length = nx := ⟨_, rfl⟩
       have Hel := hide hel
       have Hll := hide (show ((L.length : Nat) : Int) = (ll : Int) by rw [hll])
       have Hnx := hide hnx
       rw [hel] at k6
       rw [hll] at k1q
       have HA80 := hide ha
       have hS80 := And.intro k1 (And.intro k6 k1q)
       clear k1 k6 ha k1q hel hll hnx HT
       go_wp2
       refine wp_region_held (S := (fun W => W.cell? ⟨rv, 1, none⟩ = some (.pointer (some ⟨p2, 0, none⟩)) ∧ W.cell? ⟨p2, 6, none⟩ = some (.slice A2 el c2) ∧ W.cell? ⟨q2, 1, none⟩ = some (.slice B2 ll d2))) (by kernel_rfl) ?_
       change wpAnyH _ _ _ _ _ _ _ _ (World.drew _)
       refine wpAnyH_take (i := 0) (oi := ⟨some 216, _, _, _, _, _⟩) (v := ?_) rfl (by kernel_rfl) (by kernel_rfl) (by kernel_rfl) (fun _ _ _ h => h) (Or.inl ⟨by rfl, ?_⟩) hS80 ?_
       rotate_left 1
       ·(intro w hSw; obtain ⟨hSw1, hSw2, hSw3⟩ := hSw; go_simp; try with_reducible rfl)
       simp only [Act.put, Pk.sl]
       refine wpAnyH_take (i := 2) (oi := ⟨some 218, _, _, _, _, _⟩) (v := ?_) rfl (by kernel_rfl) (by kernel_rfl) (by kernel_rfl) (fun _ _ _ h => h) (Or.inl ⟨by rfl, ?_⟩) hS80 ?_
       rotate_left 1
       ·(intro w hSw; obtain ⟨hSw1, hSw2, hSw3⟩ := hSw; go_simp; try with_reducible rfl)
       simp only [Act.put, Pk.sl]
       refine wpAnyH_take (i := 3) (oi := ⟨some 219, _, _, _, _, _⟩) (v := ?_) rfl (by kernel_rfl) (by kernel_rfl) (by kernel_rfl) (fun _ _ _ h => h) (Or.inl ⟨by rfl, ?_⟩) hS80 ?_
       rotate_left 1
       ·(intro w hSw; obtain ⟨hSw1, hSw2, hSw3⟩ := hSw; go_simp; try with_reducible rfl)
       simp only [Act.put, Pk.sl]
       refine wpAnyH_take (i := 4) (oi := ⟨some 220, _, _, _, _, _⟩) (v := ?_) rfl (by kernel_rfl) (by kernel_rfl) (by kernel_rfl) (fun _ _ _ h => h) (Or.inl ⟨by rfl, ?_⟩) hS80 ?_
       rotate_left 1
       ·(intro w hSw; obtain ⟨hSw1, hSw2, hSw3⟩ := hSw; go_simp; try with_reducible rfl)
       simp only [Act.put, Pk.sl]
       refine wpAnyH_take (i := 5) (oi := ⟨some 221, _, _, _, _, _⟩) (v := ?_) rfl (by kernel_rfl) (by kernel_rfl) (by kernel_rfl) (fun _ _ _ h => h) (Or.inl ⟨by rfl, ?_⟩) hS80 ?_
       rotate_left 1
       ·(intro w hSw; obtain ⟨hSw1, hSw2, hSw3⟩ := hSw; go_simp; try with_reducible rfl)
       simp only [Act.put, Pk.sl]
       refine wpAnyH_take (i := 6) (oi := ⟨some 222, _, _, _, _, _⟩) (v := ?_) rfl (by kernel_rfl) (by kernel_rfl) (by kernel_rfl) (fun _ _ _ h => h) (Or.inl ⟨by rfl, ?_⟩) hS80 ?_
       rotate_left 1
       ·(intro w hSw; obtain ⟨hSw1, hSw2, hSw3⟩ := hSw; go_simp; try with_reducible rfl)
       simp only [Act.put, Pk.sl]
       refine wpAnyH_take (i := 7) (oi := ⟨some 223, _, _, _, _, _⟩) (v := ?_) rfl (by kernel_rfl) (by kernel_rfl) (by kernel_rfl) (fun _ _ _ h => h) (Or.inl ⟨by rfl, ?_⟩) hS80 ?_
       rotate_left 1
       ·(intro w hSw; obtain ⟨hSw1, hSw2, hSw3⟩ := hSw; go_simp; try with_reducible rfl)
       simp only [Act.put, Pk.sl]
       refine wpAnyH_take (i := 8) (oi := ⟨some 224, _, _, _, _, _⟩) (v := ?_) rfl (by kernel_rfl) (by kernel_rfl) (by kernel_rfl) (fun _ _ _ h => h) (Or.inl ⟨by rfl, ?_⟩) hS80 ?_
       rotate_left 1
       ·(intro w hSw; obtain ⟨hSw1, hSw2, hSw3⟩ := hSw; go_simp; try with_reducible rfl)
       simp only [Act.put, Pk.sl]
       refine wpAnyH_ready (rs := [1]) (by kernel_rfl) (by simp) ?_
       refine AllReadyH.cons (o := ⟨some 217, _, _, _, _, _⟩) rfl (fun K hK => ?_) AllReadyH.nil
       go_simp
       refine (HT80.out.records (by have := HV.out.vg.jg.few; have := HV.out.lim.n200; omega)).mono ?_
       rintro r w81 ⟨A81, c81, rfl, ha81, hb81⟩
       rw [Hel.out]
       have hS81 : w81.cell? ⟨rv, 1, none⟩ = some (.pointer (some ⟨p2, 0, none⟩)) ∧ w81.cell? ⟨p2, 6, none⟩ = some (.slice A2 el c2) ∧ w81.cell? ⟨q2, 1, none⟩ = some (.slice B2 ll d2) := ⟨(hb81.cell (p := ⟨rv, 1, none⟩) (World.block_lt_of_cell? _ _ hS80.1)).trans hS80.1, (hb81.cell (p := ⟨p2, 6, none⟩) (World.block_lt_of_cell? _ _ hS80.2.1)).trans hS80.2.1, (hb81.cell (p := ⟨q2, 1, none⟩) (World.block_lt_of_cell? _ _ hS80.2.2)).trans hS80.2.2⟩
       have HT81 := hide (HT80.out.below hb81)
       have HA81 := hide ha81
       have HA2 := hide (HA80.out.below hb81)
       clear ha81 hb81
       refine hK.out _ _ hS81 (fun hHeld => ?_)
       clear hK K
       clear hHeld
       refine wpAnyH_ready (rs := [9]) (by kernel_rfl) (by simp) ?_
       refine AllReadyH.cons (o := ⟨some 225, _, _, _, _, _⟩) rfl (fun K hK => ?_) AllReadyH.nil
       go_simp
       refine (Same_two w81 _ el A81 A2 c81 c2 Hel.out (by have := Hel.out; have := HV.out.vg.jg.few; have := HV.out.lim.n200; omega) HA81.out HA2.out).mono ?_
       rintro r w82 ⟨rfl, hb82⟩
       have hS82 : w82.cell? ⟨rv, 1, none⟩ = some (.pointer (some ⟨p2, 0, none⟩)) ∧ w82.cell? ⟨p2, 6, none⟩ = some (.slice A2 el c2) ∧ w82.cell? ⟨q2, 1, none⟩ = some (.slice B2 ll d2) := ⟨(hb82.cell (p := ⟨rv, 1, none⟩) (World.block_lt_of_cell? _ _ hS81.1)).trans hS81.1, (hb82.cell (p := ⟨p2, 6, none⟩) (World.block_lt_of_cell? _ _ hS81.2.1)).trans hS81.2.1, (hb82.cell (p := ⟨q2, 1, none⟩) (World.block_lt_of_cell? _ _ hS81.2.2)).trans hS81.2.2⟩
       have HT82 := hide (HT81.out.below hb82)
       clear hb82 HA81 HA2
       refine hK.out _ _ hS82 (fun hHeld => ?_)
       clear hK K
       clear hHeld
       refine wpAnyH_take (i := 10) (oi := ⟨some 226, _, _, _, _, _⟩) (v := ?_) rfl (by kernel_rfl) (by kernel_rfl) (by kernel_rfl) (fun _ _ _ h => h) (Or.inl ⟨by rfl, ?_⟩) hS82 ?_
       rotate_left 1
       ·(intro w hSw; obtain ⟨hSw1, hSw2, hSw3⟩ := hSw; go_simp; try with_reducible rfl)
       simp only [Act.put, Pk.sl]
       refine wpAnyH_take (i := 11) (oi := ⟨some 227, _, _, _, _, _⟩) (v := ?_) rfl (by kernel_rfl) (by kernel_rfl) (by kernel_rfl) (fun _ _ _ h => h) (Or.inl ⟨by rfl, ?_⟩) hS82 ?_
       rotate_left 1
       ·(intro w hSw; obtain ⟨hSw1, hSw2, hSw3⟩ := hSw; go_simp; try with_reducible rfl)
       simp only [Act.put, Pk.sl]
       refine wpAnyH_take (i := 12) (oi := ⟨some 228, _, _, _, _, _⟩) (v := ?_) rfl (by kernel_rfl) (by kernel_rfl) (by kernel_rfl) (fun _ _ _ h => h) (Or.inl ⟨by rfl, ?_⟩) hS82 ?_
       rotate_left 1
       ·(intro w hSw; obtain ⟨hSw1, hSw2, hSw3⟩ := hSw; go_simp; try with_reducible rfl)
       simp only [Act.put, Pk.sl]
       refine wpAnyH_take (i := 14) (oi := ⟨some 230, _, _, _, _, _⟩) (v := ?_) rfl (by kernel_rfl) (by kernel_rfl) (by kernel_rfl) (fun _ _ _ h => h) (Or.inl ⟨by rfl, ?_⟩) hS82 ?_
       rotate_left 1
       ·(intro w hSw; obtain ⟨hSw1, hSw2, hSw3⟩ := hSw; go_simp; try with_reducible rfl)
       simp only [Act.put, Pk.sl]
       refine wpAnyH_take (i := 15) (oi := ⟨some 231, _, _, _, _, _⟩) (v := ?_) rfl (by kernel_rfl) (by kernel_rfl) (by kernel_rfl) (fun _ _ _ h => h) (Or.inl ⟨by rfl, ?_⟩) hS82 ?_
       rotate_left 1
       ·(intro w hSw; obtain ⟨hSw1, hSw2, hSw3⟩ := hSw; go_simp; try with_reducible rfl)
       simp only [Act.put, Pk.sl]
       refine wpAnyH_take (i := 16) (oi := ⟨some 232, _, _, _, _, _⟩) (v := ?_) rfl (by kernel_rfl) (by kernel_rfl) (by kernel_rfl) (fun _ _ _ h => h) (Or.inl ⟨by rfl, ?_⟩) hS82 ?_
       rotate_left 1
       ·(intro w hSw; obtain ⟨hSw1, hSw2, hSw3⟩ := hSw; go_simp; try with_reducible rfl)
       simp only [Act.put, Pk.sl]
       refine wpAnyH_take (i := 17) (oi := ⟨some 233, _, _, _, _, _⟩) (v := ?_) rfl (by kernel_rfl) (by kernel_rfl) (by kernel_rfl) (fun _ _ _ h => h) (Or.inl ⟨by rfl, ?_⟩) hS82 ?_
       rotate_left 1
       ·(intro w hSw; obtain ⟨hSw1, hSw2, hSw3⟩ := hSw; go_simp; try with_reducible rfl)
       simp only [Act.put, Pk.sl]
       refine wpAnyH_ready (rs := [13]) (by kernel_rfl) (by simp) ?_
       refine AllReadyH.cons (o := ⟨some 229, _, _, _, _, _⟩) rfl (fun K hK => ?_) AllReadyH.nil
       go_simp
       refine (HT82.out.next (by have := HV.out.lim.f; have := HV.out.lim.T; omega) (by have := HV.out.vg.jg.few; have := HV.out.lim.n200; omega)).mono ?_
       rintro r w83 ⟨rfl, hb83⟩
       rw [Hnx.out]
       have hS83 : w83.cell? ⟨rv, 1, none⟩ = some (.pointer (some ⟨p2, 0, none⟩)) ∧ w83.cell? ⟨p2, 6, none⟩ = some (.slice A2 el c2) ∧ w83.cell? ⟨q2, 1, none⟩ = some (.slice B2 ll d2) := ⟨(hb83.cell (p := ⟨rv, 1, none⟩) (World.block_lt_of_cell? _ _ hS82.1)).trans hS82.1, (hb83.cell (p := ⟨p2, 6, none⟩) (World.block_lt_of_cell? _ _ hS82.2.1)).trans hS82.2.1, (hb83.cell (p := ⟨q2, 1, none⟩) (World.block_lt_of_cell? _ _ hS82.2.2)).trans hS82.2.2⟩
       have HT83 := hide (HT82.out.below hb83)
       clear hb83
       refine hK.out _ _ hS83 (fun hHeld => ?_)
       clear hK K
       clear hHeld
       refine wpAnyH_ready (rs := [18]) (by kernel_rfl) (by simp) ?_
       refine AllReadyH.cons (o := ⟨some 234, _, _, _, _, _⟩) rfl (fun K hK => ?_) AllReadyH.nil
       go_simp
       refine (HT83.out.rnext (by have := HV.out.lim.f; have := HV.out.lim.T; omega) (by have := HV.out.vg.jg.few; have := HV.out.lim.n200; omega)).mono ?_
       rintro r w84 ⟨rfl, hb84⟩
       rw [Hnx.out]
       have hS84 : w84.cell? ⟨rv, 1, none⟩ = some (.pointer (some ⟨p2, 0, none⟩)) ∧ w84.cell? ⟨p2, 6, none⟩ = some (.slice A2 el c2) ∧ w84.cell? ⟨q2, 1, none⟩ = some (.slice B2 ll d2) := ⟨(hb84.cell (p := ⟨rv, 1, none⟩) (World.block_lt_of_cell? _ _ hS83.1)).trans hS83.1, (hb84.cell (p := ⟨p2, 6, none⟩) (World.block_lt_of_cell? _ _ hS83.2.1)).trans hS83.2.1, (hb84.cell (p := ⟨q2, 1, none⟩) (World.block_lt_of_cell? _ _ hS83.2.2)).trans hS83.2.2⟩
       have HT84 := hide (HT83.out.below hb84)
       clear hb84
       refine hK.out _ _ hS84 (fun hHeld => ?_)
       clear hK K
       clear hHeld
       refine wpAnyH_take (i := 19) (oi := ⟨some 235, _, _, _, _, _⟩) (v := ?_) rfl (by kernel_rfl) (by kernel_rfl) (by kernel_rfl) (fun _ _ _ h => h) (Or.inl ⟨by rfl, ?_⟩) hS84 ?_
       rotate_left 1
       ·(intro w hSw; obtain ⟨hSw1, hSw2, hSw3⟩ := hSw; go_simp; try with_reducible rfl)
       simp only [Act.put, Pk.sl]
       refine wpAnyH_take (i := 20) (oi := ⟨some 236, _, _, _, _, _⟩) (v := ?_) rfl (by kernel_rfl) (by kernel_rfl) (by kernel_rfl) (fun _ _ _ h => h) (Or.inl ⟨by rfl, ?_⟩) hS84 ?_
       rotate_left 1
       ·(intro w hSw; obtain ⟨hSw1, hSw2, hSw3⟩ := hSw; go_simp; try with_reducible rfl)
       simp only [Act.put, Pk.sl]
       refine wpAnyH_take (i := 21) (oi := ⟨some 237, _, _, _, _, _⟩) (v := ?_) rfl (by kernel_rfl) (by kernel_rfl) (by kernel_rfl) (fun _ _ _ h => h) (Or.inl ⟨by rfl, ?_⟩) hS84 ?_
       rotate_left 1
       ·(intro w hSw; obtain ⟨hSw1, hSw2, hSw3⟩ := hSw; go_simp; try with_reducible rfl)
       simp only [Act.put, Pk.sl]
       refine wpAnyH_take (i := 22) (oi := ⟨some 238, _, _, _, _, _⟩) (v := ?_) rfl (by kernel_rfl) (by kernel_rfl) (by kernel_rfl) (fun _ _ _ h => h) (Or.inl ⟨by rfl, ?_⟩) hS84 ?_
       rotate_left 1
       ·(intro w hSw; obtain ⟨hSw1, hSw2, hSw3⟩ := hSw; go_simp; try with_reducible rfl)
       simp only [Act.put, Pk.sl]
       refine wpAnyH_take (i := 24) (oi := ⟨some 240, _, _, _, _, _⟩) (v := ?_) rfl (by kernel_rfl) (by kernel_rfl) (by kernel_rfl) (fun _ _ _ h => h) (Or.inl ⟨by rfl, ?_⟩) hS84 ?_
       rotate_left 1
       ·(intro w hSw; obtain ⟨hSw1, hSw2, hSw3⟩ := hSw; go_simp; try with_reducible rfl)
       simp only [Act.put, Pk.sl]
       refine wpAnyH_take (i := 25) (oi := ⟨some 241, _, _, _, _, _⟩) (v := ?_) rfl (by kernel_rfl) (by kernel_rfl) (by kernel_rfl) (fun _ _ _ h => h) (Or.inl ⟨by rfl, ?_⟩) hS84 ?_
       rotate_left 1
       ·(intro w hSw; obtain ⟨hSw1, hSw2, hSw3⟩ := hSw; go_simp; try with_reducible rfl)
       simp only [Act.put, Pk.sl]
       refine wpAnyH_take (i := 26) (oi := ⟨some 242, _, _, _, _, _⟩) (v := ?_) rfl (by kernel_rfl) (by kernel_rfl) (by kernel_rfl) (fun _ _ _ h => h) (Or.inl ⟨by rfl, ?_⟩) hS84 ?_
       rotate_left 1
       ·(intro w hSw; obtain ⟨hSw1, hSw2, hSw3⟩ := hSw; go_simp; try with_reducible rfl)
       simp only [Act.put, Pk.sl]
       refine wpAnyH_take (i := 27) (oi := ⟨some 243, _, _, _, _, _⟩) (v := ?_) rfl (by kernel_rfl) (by kernel_rfl) (by kernel_rfl) (fun _ _ _ h => h) (Or.inl ⟨by rfl, ?_⟩) hS84 ?_
       rotate_left 1
       ·(intro w hSw; obtain ⟨hSw1, hSw2, hSw3⟩ := hSw; go_simp; try with_reducible rfl)
       simp only [Act.put, Pk.sl]
       refine wpAnyH_take (i := 28) (oi := ⟨some 244, _, _, _, _, _⟩) (v := ?_) rfl (by kernel_rfl) (by kernel_rfl) (by kernel_rfl) (fun _ _ _ h => h) (Or.inl ⟨by rfl, ?_⟩) hS84 ?_
       rotate_left 1
       ·(intro w hSw; obtain ⟨hSw1, hSw2, hSw3⟩ := hSw; go_simp; try with_reducible rfl)
       simp only [Act.put, Pk.sl]
       refine wpAnyH_ready (rs := [23]) (by kernel_rfl) (by simp) ?_
       refine AllReadyH.cons (o := ⟨some 239, _, _, _, _, _⟩) rfl (fun K hK => ?_) AllReadyH.nil
       go_simp
       refine (HT84.out.loose).mono ?_
       rintro r w85 ⟨rfl, rfl⟩
       rw [Hll.out]
       refine hK.out _ _ hS84 (fun hHeld => ?_)
       clear hK K
       clear hHeld
       refine wpAnyH_take (i := 29) (oi := ⟨some 245, _, _, _, _, _⟩) (v := ?_) rfl (by kernel_rfl) (by kernel_rfl) (by kernel_rfl) (fun _ _ _ h => h) (Or.inl ⟨by rfl, ?_⟩) hS84 ?_
       rotate_left 1
       ·(intro w hSw; obtain ⟨hSw1, hSw2, hSw3⟩ := hSw; go_simp; try with_reducible rfl)
       simp only [Act.put, Pk.sl]
       refine wpAnyH_take (i := 30) (oi := ⟨some 246, _, _, _, _, _⟩) (v := ?_) rfl (by kernel_rfl) (by kernel_rfl) (by kernel_rfl) (fun _ _ _ h => h) (Or.inl ⟨by rfl, ?_⟩) hS84 ?_
       rotate_left 1
       ·(intro w hSw; obtain ⟨hSw1, hSw2, hSw3⟩ := hSw; go_simp; try with_reducible rfl)
       simp only [Act.put, Pk.sl]
       refine wpAnyH_done (by kernel_rfl) ?_ _
       clear hS80 hS81 hS82 hS83 hS84 HA80
       go_wp2
       go_roundw
       case rel => exact ⟨k + 1, v, p, rv, p2, _, _, _, _, _, _, _, _, Hlt.out, rfl, rfl, by go_num, by rw [show 1 + (k + 1) = 1 + k + 1 by omega]; exact HV, HT84⟩
       case measure => have := Hlt.out; simp [intOf]; omega
     ·skip
      as_aux_lemma =>
       have HV := hide (hi.out.more (Nat.le_succ _) HK80.out)
       have HC := hide (Read_range (w := wo) (v := v) nn hb)
       have HR := hide (fun W => rRead_range (w := W) (v := rv) nn hb)
       have HWN := hide (show (5 : Int) ≠ 0 by decide)
       clear hb
       go_wp2_with fail
       refine HC.out.mono ?_
       rintro r w6 ⟨pp, rfl, hf6, hb6⟩
       have HJ6 := hide (HP.out.below hb6)
       have HE6 := hide hf6
       have x1_w6 : w6.cell? ⟨gb, 1, none⟩ = some (.int .i64 nn) := cell_of HJ6.out.obj rfl
       clear hf6 hb6 HC HP o0 o1 o2 o3
       go_wp2_with fail
       refine (HR.out w6).mono ?_
       rintro r w7 ⟨rfl, rfl⟩
       go_wp2_with fail
       refine (place_flt (HJ6.out.ety HY.out) HE6.out (by first | exact HWN.out | decide)).mono ?_
       rintro r wt ⟨rfl, hbt⟩
       have HT := hide (HJ6.out.below hbt)
       clear hbt HJ6 HE6
       clear x1_w6
       have HT80 := hide HT.out.drew
       obtain ⟨A2, c2, B2, d2, k1, k6, ha, k1q⟩ := HT80.out.cells
       obtain ⟨el, hel⟩ : ∃ el, E.length = el := ⟨_, rfl⟩
       obtain ⟨ll, hll⟩ : ∃ ll, L.length = ll := ⟨_, rfl⟩
       obtain ⟨nx, hnx⟩ : ∃ nx, h.f + E.length = nx := ⟨_, rfl⟩
       have Hel := hide hel
       have Hll := hide (show ((L.length : Nat) : Int) = (ll : Int) by rw [hll])
       have Hnx := hide hnx
       rw [hel] at k6
       rw [hll] at k1q
       have HA80 := hide ha
       have hS80 := And.intro k1 (And.intro k6 k1q)
       clear k1 k6 ha k1q hel hll hnx HT
       go_wp2
       refine wp_region_held (S := (fun W => W.cell? ⟨rv, 1, none⟩ = some (.pointer (some ⟨p2, 0, none⟩)) ∧ W.cell? ⟨p2, 6, none⟩ = some (.slice A2 el c2) ∧ W.cell? ⟨q2, 1, none⟩ = some (.slice B2 ll d2))) (by kernel_rfl) ?_
       change wpAnyH _ _ _ _ _ _ _ _ (World.drew _)
       refine wpAnyH_take (i := 0) (oi := ⟨some 216, _, _, _, _, _⟩) (v := ?_) rfl (by kernel_rfl) (by kernel_rfl) (by kernel_rfl) (fun _ _ _ h => h) (Or.inl ⟨by rfl, ?_⟩) hS80 ?_
       rotate_left 1
       ·(intro w hSw; obtain ⟨hSw1, hSw2, hSw3⟩ := hSw; go_simp; try with_reducible rfl)
       simp only [Act.put, Pk.sl]
       refine wpAnyH_take (i := 2) (oi := ⟨some 218, _, _, _, _, _⟩) (v := ?_) rfl (by kernel_rfl) (by kernel_rfl) (by kernel_rfl) (fun _ _ _ h => h) (Or.inl ⟨by rfl, ?_⟩) hS80 ?_
       rotate_left 1
       ·(intro w hSw; obtain ⟨hSw1, hSw2, hSw3⟩ := hSw; go_simp; try with_reducible rfl)
       simp only [Act.put, Pk.sl]
       refine wpAnyH_take (i := 3) (oi := ⟨some 219, _, _, _, _, _⟩) (v := ?_) rfl (by kernel_rfl) (by kernel_rfl) (by kernel_rfl) (fun _ _ _ h => h) (Or.inl ⟨by rfl, ?_⟩) hS80 ?_
       rotate_left 1
       ·(intro w hSw; obtain ⟨hSw1, hSw2, hSw3⟩ := hSw; go_simp; try with_reducible rfl)
       simp only [Act.put, Pk.sl]
       refine wpAnyH_take (i := 4) (oi := ⟨some 220, _, _, _, _, _⟩) (v := ?_) rfl (by kernel_rfl) (by kernel_rfl) (by kernel_rfl) (fun _ _ _ h => h) (Or.inl ⟨by rfl, ?_⟩) hS80 ?_
       rotate_left 1
       ·(intro w hSw; obtain ⟨hSw1, hSw2, hSw3⟩ := hSw; go_simp; try with_reducible rfl)
       simp only [Act.put, Pk.sl]
       refine wpAnyH_take (i := 5) (oi := ⟨some 221, _, _, _, _, _⟩) (v := ?_) rfl (by kernel_rfl) (by kernel_rfl) (by kernel_rfl) (fun _ _ _ h => h) (Or.inl ⟨by rfl, ?_⟩) hS80 ?_
       rotate_left 1
       ·(intro w hSw; obtain ⟨hSw1, hSw2, hSw3⟩ := hSw; go_simp; try with_reducible rfl)
       simp only [Act.put, Pk.sl]
       refine wpAnyH_take (i := 6) (oi := ⟨some 222, _, _, _, _, _⟩) (v := ?_) rfl (by kernel_rfl) (by kernel_rfl) (by kernel_rfl) (fun _ _ _ h => h) (Or.inl ⟨by rfl, ?_⟩) hS80 ?_
       rotate_left 1
       ·(intro w hSw; obtain ⟨hSw1, hSw2, hSw3⟩ := hSw; go_simp; try with_reducible rfl)
       simp only [Act.put, Pk.sl]
       refine wpAnyH_take (i := 7) (oi := ⟨some 223, _, _, _, _, _⟩) (v := ?_) rfl (by kernel_rfl) (by kernel_rfl) (by kernel_rfl) (fun _ _ _ h => h) (Or.inl ⟨by rfl, ?_⟩) hS80 ?_
       rotate_left 1
       ·(intro w hSw; obtain ⟨hSw1, hSw2, hSw3⟩ := hSw; go_simp; try with_reducible rfl)
       simp only [Act.put, Pk.sl]
       refine wpAnyH_take (i := 8) (oi := ⟨some 224, _, _, _, _, _⟩) (v := ?_) rfl (by kernel_rfl) (by kernel_rfl) (by kernel_rfl) (fun _ _ _ h => h) (Or.inl ⟨by rfl, ?_⟩) hS80 ?_
       rotate_left 1
       ·(intro w hSw; obtain ⟨hSw1, hSw2, hSw3⟩ := hSw; go_simp; try with_reducible rfl)
       simp only [Act.put, Pk.sl]
       refine wpAnyH_ready (rs := [1]) (by kernel_rfl) (by simp) ?_
       refine AllReadyH.cons (o := ⟨some 217, _, _, _, _, _⟩) rfl (fun K hK => ?_) AllReadyH.nil
       go_simp
       refine (HT80.out.records (by have := HV.out.vg.jg.few; have := HV.out.lim.n200; omega)).mono ?_
       rintro r w81 ⟨A81, c81, rfl, ha81, hb81⟩
       rw [Hel.out]
       have hS81 : w81.cell? ⟨rv, 1, none⟩ = some (.pointer (some ⟨p2, 0, none⟩)) ∧ w81.cell? ⟨p2, 6, none⟩ = some (.slice A2 el c2) ∧ w81.cell? ⟨q2, 1, none⟩ = some (.slice B2 ll d2) := ⟨(hb81.cell (p := ⟨rv, 1, none⟩) (World.block_lt_of_cell? _ _ hS80.1)).trans hS80.1, (hb81.cell (p := ⟨p2, 6, none⟩) (World.block_lt_of_cell? _ _ hS80.2.1)).trans hS80.2.1, (hb81.cell (p := ⟨q2, 1, none⟩) (World.block_lt_of_cell? _ _ hS80.2.2)).trans hS80.2.2⟩
       have HT81 := hide (HT80.out.below hb81)
       have HA81 := hide ha81
       have HA2 := hide (HA80.out.below hb81)
       clear ha81 hb81
       refine hK.out _ _ hS81 (fun hHeld => ?_)
       clear hK K
       clear hHeld
       refine wpAnyH_ready (rs := [9]) (by kernel_rfl) (by simp) ?_
       refine AllReadyH.cons (o := ⟨some 225, _, _, _, _, _⟩) rfl (fun K hK => ?_) AllReadyH.nil
       go_simp
       refine (Same_two w81 _ el A81 A2 c81 c2 Hel.out (by have := Hel.out; have := HV.out.vg.jg.few; have := HV.out.lim.n200; omega) HA81.out HA2.out).mono ?_
       rintro r w82 ⟨rfl, hb82⟩
       have hS82 : w82.cell? ⟨rv, 1, none⟩ = some (.pointer (some ⟨p2, 0, none⟩)) ∧ w82.cell? ⟨p2, 6, none⟩ = some (.slice A2 el c2) ∧ w82.cell? ⟨q2, 1, none⟩ = some (.slice B2 ll d2) := ⟨(hb82.cell (p := ⟨rv, 1, none⟩) (World.block_lt_of_cell? _ _ hS81.1)).trans hS81.1, (hb82.cell (p := ⟨p2, 6, none⟩) (World.block_lt_of_cell? _ _ hS81.2.1)).trans hS81.2.1, (hb82.cell (p := ⟨q2, 1, none⟩) (World.block_lt_of_cell? _ _ hS81.2.2)).trans hS81.2.2⟩
       have HT82 := hide (HT81.out.below hb82)
       clear hb82 HA81 HA2
       refine hK.out _ _ hS82 (fun hHeld => ?_)
       clear hK K
       clear hHeld
       refine wpAnyH_take (i := 10) (oi := ⟨some 226, _, _, _, _, _⟩) (v := ?_) rfl (by kernel_rfl) (by kernel_rfl) (by kernel_rfl) (fun _ _ _ h => h) (Or.inl ⟨by rfl, ?_⟩) hS82 ?_
       rotate_left 1
       ·(intro w hSw; obtain ⟨hSw1, hSw2, hSw3⟩ := hSw; go_simp; try with_reducible rfl)
       simp only [Act.put, Pk.sl]
       refine wpAnyH_take (i := 11) (oi := ⟨some 227, _, _, _, _, _⟩) (v := ?_) rfl (by kernel_rfl) (by kernel_rfl) (by kernel_rfl) (fun _ _ _ h => h) (Or.inl ⟨by rfl, ?_⟩) hS82 ?_
       rotate_left 1
       ·(intro w hSw; obtain ⟨hSw1, hSw2, hSw3⟩ := hSw; go_simp; try with_reducible rfl)
       simp only [Act.put, Pk.sl]
       refine wpAnyH_take (i := 12) (oi := ⟨some 228, _, _, _, _, _⟩) (v := ?_) rfl (by kernel_rfl) (by kernel_rfl) (by kernel_rfl) (fun _ _ _ h => h) (Or.inl ⟨by rfl, ?_⟩) hS82 ?_
       rotate_left 1
       ·(intro w hSw; obtain ⟨hSw1, hSw2, hSw3⟩ := hSw; go_simp; try with_reducible rfl)
       simp only [Act.put, Pk.sl]
       refine wpAnyH_take (i := 14) (oi := ⟨some 230, _, _, _, _, _⟩) (v := ?_) rfl (by kernel_rfl) (by kernel_rfl) (by kernel_rfl) (fun _ _ _ h => h) (Or.inl ⟨by rfl, ?_⟩) hS82 ?_
       rotate_left 1
       ·(intro w hSw; obtain ⟨hSw1, hSw2, hSw3⟩ := hSw; go_simp; try with_reducible rfl)
       simp only [Act.put, Pk.sl]
       refine wpAnyH_take (i := 15) (oi := ⟨some 231, _, _, _, _, _⟩) (v := ?_) rfl (by kernel_rfl) (by kernel_rfl) (by kernel_rfl) (fun _ _ _ h => h) (Or.inl ⟨by rfl, ?_⟩) hS82 ?_
       rotate_left 1
       ·(intro w hSw; obtain ⟨hSw1, hSw2, hSw3⟩ := hSw; go_simp; try with_reducible rfl)
       simp only [Act.put, Pk.sl]
       refine wpAnyH_take (i := 16) (oi := ⟨some 232, _, _, _, _, _⟩) (v := ?_) rfl (by kernel_rfl) (by kernel_rfl) (by kernel_rfl) (fun _ _ _ h => h) (Or.inl ⟨by rfl, ?_⟩) hS82 ?_
       rotate_left 1
       ·(intro w hSw; obtain ⟨hSw1, hSw2, hSw3⟩ := hSw; go_simp; try with_reducible rfl)
       simp only [Act.put, Pk.sl]
       refine wpAnyH_take (i := 17) (oi := ⟨some 233, _, _, _, _, _⟩) (v := ?_) rfl (by kernel_rfl) (by kernel_rfl) (by kernel_rfl) (fun _ _ _ h => h) (Or.inl ⟨by rfl, ?_⟩) hS82 ?_
       rotate_left 1
       ·(intro w hSw; obtain ⟨hSw1, hSw2, hSw3⟩ := hSw; go_simp; try with_reducible rfl)
       simp only [Act.put, Pk.sl]
       refine wpAnyH_ready (rs := [13]) (by kernel_rfl) (by simp) ?_
       refine AllReadyH.cons (o := ⟨some 229, _, _, _, _, _⟩) rfl (fun K hK => ?_) AllReadyH.nil
       go_simp
       refine (HT82.out.next (by have := HV.out.lim.f; have := HV.out.lim.T; omega) (by have := HV.out.vg.jg.few; have := HV.out.lim.n200; omega)).mono ?_
       rintro r w83 ⟨rfl, hb83⟩
       rw [Hnx.out]
       have hS83 : w83.cell? ⟨rv, 1, none⟩ = some (.pointer (some ⟨p2, 0, none⟩)) ∧ w83.cell? ⟨p2, 6, none⟩ = some (.slice A2 el c2) ∧ w83.cell? ⟨q2, 1, none⟩ = some (.slice B2 ll d2) := ⟨(hb83.cell (p := ⟨rv, 1, none⟩) (World.block_lt_of_cell? _ _ hS82.1)).trans hS82.1, (hb83.cell (p := ⟨p2, 6, none⟩) (World.block_lt_of_cell? _ _ hS82.2.1)).trans hS82.2.1, (hb83.cell (p := ⟨q2, 1, none⟩) (World.block_lt_of_cell? _ _ hS82.2.2)).trans hS82.2.2⟩
       have HT83 := hide (HT82.out.below hb83)
       clear hb83
       refine hK.out _ _ hS83 (fun hHeld => ?_)
       clear hK K
       clear hHeld
       refine wpAnyH_ready (rs := [18]) (by kernel_rfl) (by simp) ?_
       refine AllReadyH.cons (o := ⟨some 234, _, _, _, _, _⟩) rfl (fun K hK => ?_) AllReadyH.nil
       go_simp
       refine (HT83.out.rnext (by have := HV.out.lim.f; have := HV.out.lim.T; omega) (by have := HV.out.vg.jg.few; have := HV.out.lim.n200; omega)).mono ?_
       rintro r w84 ⟨rfl, hb84⟩
       rw [Hnx.out]
       have hS84 : w84.cell? ⟨rv, 1, none⟩ = some (.pointer (some ⟨p2, 0, none⟩)) ∧ w84.cell? ⟨p2, 6, none⟩ = some (.slice A2 el c2) ∧ w84.cell? ⟨q2, 1, none⟩ = some (.slice B2 ll d2) := ⟨(hb84.cell (p := ⟨rv, 1, none⟩) (World.block_lt_of_cell? _ _ hS83.1)).trans hS83.1, (hb84.cell (p := ⟨p2, 6, none⟩) (World.block_lt_of_cell? _ _ hS83.2.1)).trans hS83.2.1, (hb84.cell (p := ⟨q2, 1, none⟩) (World.block_lt_of_cell? _ _ hS83.2.2)).trans hS83.2.2⟩
       have HT84 := hide (HT83.out.below hb84)
       clear hb84
       refine hK.out _ _ hS84 (fun hHeld => ?_)
       clear hK K
       clear hHeld
       refine wpAnyH_take (i := 19) (oi := ⟨some 235, _, _, _, _, _⟩) (v := ?_) rfl (by kernel_rfl) (by kernel_rfl) (by kernel_rfl) (fun _ _ _ h => h) (Or.inl ⟨by rfl, ?_⟩) hS84 ?_
       rotate_left 1
       ·(intro w hSw; obtain ⟨hSw1, hSw2, hSw3⟩ := hSw; go_simp; try with_reducible rfl)
       simp only [Act.put, Pk.sl]
       refine wpAnyH_take (i := 20) (oi := ⟨some 236, _, _, _, _, _⟩) (v := ?_) rfl (by kernel_rfl) (by kernel_rfl) (by kernel_rfl) (fun _ _ _ h => h) (Or.inl ⟨by rfl, ?_⟩) hS84 ?_
       rotate_left 1
       ·(intro w hSw; obtain ⟨hSw1, hSw2, hSw3⟩ := hSw; go_simp; try with_reducible rfl)
       simp only [Act.put, Pk.sl]
       refine wpAnyH_take (i := 21) (oi := ⟨some 237, _, _, _, _, _⟩) (v := ?_) rfl (by kernel_rfl) (by kernel_rfl) (by kernel_rfl) (fun _ _ _ h => h) (Or.inl ⟨by rfl, ?_⟩) hS84 ?_
       rotate_left 1
       ·(intro w hSw; obtain ⟨hSw1, hSw2, hSw3⟩ := hSw; go_simp; try with_reducible rfl)
       simp only [Act.put, Pk.sl]
       refine wpAnyH_take (i := 22) (oi := ⟨some 238, _, _, _, _, _⟩) (v := ?_) rfl (by kernel_rfl) (by kernel_rfl) (by kernel_rfl) (fun _ _ _ h => h) (Or.inl ⟨by rfl, ?_⟩) hS84 ?_
       rotate_left 1
       ·(intro w hSw; obtain ⟨hSw1, hSw2, hSw3⟩ := hSw; go_simp; try with_reducible rfl)
       simp only [Act.put, Pk.sl]
       refine wpAnyH_take (i := 24) (oi := ⟨some 240, _, _, _, _, _⟩) (v := ?_) rfl (by kernel_rfl) (by kernel_rfl) (by kernel_rfl) (fun _ _ _ h => h) (Or.inl ⟨by rfl, ?_⟩) hS84 ?_
       rotate_left 1
       ·(intro w hSw; obtain ⟨hSw1, hSw2, hSw3⟩ := hSw; go_simp; try with_reducible rfl)
       simp only [Act.put, Pk.sl]
       refine wpAnyH_take (i := 25) (oi := ⟨some 241, _, _, _, _, _⟩) (v := ?_) rfl (by kernel_rfl) (by kernel_rfl) (by kernel_rfl) (fun _ _ _ h => h) (Or.inl ⟨by rfl, ?_⟩) hS84 ?_
       rotate_left 1
       ·(intro w hSw; obtain ⟨hSw1, hSw2, hSw3⟩ := hSw; go_simp; try with_reducible rfl)
       simp only [Act.put, Pk.sl]
       refine wpAnyH_take (i := 26) (oi := ⟨some 242, _, _, _, _, _⟩) (v := ?_) rfl (by kernel_rfl) (by kernel_rfl) (by kernel_rfl) (fun _ _ _ h => h) (Or.inl ⟨by rfl, ?_⟩) hS84 ?_
       rotate_left 1
       ·(intro w hSw; obtain ⟨hSw1, hSw2, hSw3⟩ := hSw; go_simp; try with_reducible rfl)
       simp only [Act.put, Pk.sl]
       refine wpAnyH_take (i := 27) (oi := ⟨some 243, _, _, _, _, _⟩) (v := ?_) rfl (by kernel_rfl) (by kernel_rfl) (by kernel_rfl) (fun _ _ _ h => h) (Or.inl ⟨by rfl, ?_⟩) hS84 ?_
       rotate_left 1
       ·(intro w hSw; obtain ⟨hSw1, hSw2, hSw3⟩ := hSw; go_simp; try with_reducible rfl)
       simp only [Act.put, Pk.sl]
       refine wpAnyH_take (i := 28) (oi := ⟨some 244, _, _, _, _, _⟩) (v := ?_) rfl (by kernel_rfl) (by kernel_rfl) (by kernel_rfl) (fun _ _ _ h => h) (Or.inl ⟨by rfl, ?_⟩) hS84 ?_
       rotate_left 1
       ·(intro w hSw; obtain ⟨hSw1, hSw2, hSw3⟩ := hSw; go_simp; try with_reducible rfl)
       simp only [Act.put, Pk.sl]
       refine wpAnyH_ready (rs := [23]) (by kernel_rfl) (by simp) ?_
       refine AllReadyH.cons (o := ⟨some 239, _, _, _, _, _⟩) rfl (fun K hK => ?_) AllReadyH.nil
       go_simp
       refine (HT84.out.loose).mono ?_
       rintro r w85 ⟨rfl, rfl⟩
       rw [Hll.out]
       refine hK.out _ _ hS84 (fun hHeld => ?_)
       clear hK K
       clear hHeld
       refine wpAnyH_take (i := 29) (oi := ⟨some 245, _, _, _, _, _⟩) (v := ?_) rfl (by kernel_rfl) (by kernel_rfl) (by kernel_rfl) (fun _ _ _ h => h) (Or.inl ⟨by rfl, ?_⟩) hS84 ?_
       rotate_left 1
       ·(intro w hSw; obtain ⟨hSw1, hSw2, hSw3⟩ := hSw; go_simp; try with_reducible rfl)
       simp only [Act.put, Pk.sl]
       refine wpAnyH_take (i := 30) (oi := ⟨some 246, _, _, _, _, _⟩) (v := ?_) rfl (by kernel_rfl) (by kernel_rfl) (by kernel_rfl) (fun _ _ _ h => h) (Or.inl ⟨by rfl, ?_⟩) hS84 ?_
       rotate_left 1
       ·(intro w hSw; obtain ⟨hSw1, hSw2, hSw3⟩ := hSw; go_simp; try with_reducible rfl)
       simp only [Act.put, Pk.sl]
       refine wpAnyH_done (by kernel_rfl) ?_ _
       clear hS80 hS81 hS82 hS83 hS84 HA80
       go_wp2
       go_roundw
       case rel => exact ⟨k + 1, v, p, rv, p2, _, _, _, _, _, _, _, _, Hlt.out, rfl, rfl, by go_num, by rw [show 1 + (k + 1) = 1 + k + 1 by omega]; exact HV, HT84⟩
       case measure => have := Hlt.out; simp [intOf]; omega
    by_cases k4 : kd = 4
    ·subst k4
     clear k1 k2 k3
     as_aux_lemma =>
      have HV := hide (hi.out.flush.more (Nat.le_succ _) HK80.out)
      go_wp2_with fail
      refine (HP.out.flush hi.out).mono ?_
      rintro r w6 ⟨rfl, hj6⟩
      have HJ6 := hide hj6
      clear hj6 HP o0 o1 o2 o3
      go_wp2_with fail
      refine (HJ6.out.rflush (by have := hi.out.short; omega)).mono ?_
      rintro r wt ⟨rfl, hj7⟩
      have HT := hide hj7
      clear hj7 HJ6
      have HT80 := hide HT.out.drew
      obtain ⟨A2, c2, B2, d2, k1, k6, ha, k1q⟩ := HT80.out.cells
      obtain ⟨el, hel⟩ : ∃ el, E.length = el := ⟨_, rfl⟩
      obtain ⟨ll, hll⟩ : ∃ ll, ([] : List Wr).length = ll := ⟨_, rfl⟩
      obtain ⟨nx, hnx⟩ : ∃ nx, h.f + E.length = nx := ⟨_, rfl⟩
      have Hel := hide hel
      have Hll := hide (show ((([] : List Wr).length : Nat) : Int) = (ll : Int) by rw [hll])
      have Hnx := hide hnx
      rw [hel] at k6
      rw [hll] at k1q
      have HA80 := hide ha
      have hS80 := And.intro k1 (And.intro k6 k1q)
      clear k1 k6 ha k1q hel hll hnx HT
      go_wp2
      refine wp_region_held (S := (fun W => W.cell? ⟨rv, 1, none⟩ = some (.pointer (some ⟨p2, 0, none⟩)) ∧ W.cell? ⟨p2, 6, none⟩ = some (.slice A2 el c2) ∧ W.cell? ⟨q2, 1, none⟩ = some (.slice B2 ll d2))) (by kernel_rfl) ?_
      change wpAnyH _ _ _ _ _ _ _ _ (World.drew _)
      refine wpAnyH_take (i := 0) (oi := ⟨some 216, _, _, _, _, _⟩) (v := ?_) rfl (by kernel_rfl) (by kernel_rfl) (by kernel_rfl) (fun _ _ _ h => h) (Or.inl ⟨by rfl, ?_⟩) hS80 ?_
      rotate_left 1
      ·(intro w hSw; obtain ⟨hSw1, hSw2, hSw3⟩ := hSw; go_simp; try with_reducible rfl)
      simp only [Act.put, Pk.sl]
      refine wpAnyH_take (i := 2) (oi := ⟨some 218, _, _, _, _, _⟩) (v := ?_) rfl (by kernel_rfl) (by kernel_rfl) (by kernel_rfl) (fun _ _ _ h => h) (Or.inl ⟨by rfl, ?_⟩) hS80 ?_
      rotate_left 1
      ·(intro w hSw; obtain ⟨hSw1, hSw2, hSw3⟩ := hSw; go_simp; try with_reducible rfl)
      simp only [Act.put, Pk.sl]
      refine wpAnyH_take (i := 3) (oi := ⟨some 219, _, _, _, _, _⟩) (v := ?_) rfl (by kernel_rfl) (by kernel_rfl) (by kernel_rfl) (fun _ _ _ h => h) (Or.inl ⟨by rfl, ?_⟩) hS80 ?_
      rotate_left 1
      ·(intro w hSw; obtain ⟨hSw1, hSw2, hSw3⟩ := hSw; go_simp; try with_reducible rfl)
      simp only [Act.put, Pk.sl]
      refine wpAnyH_take (i := 4) (oi := ⟨some 220, _, _, _, _, _⟩) (v := ?_) rfl (by kernel_rfl) (by kernel_rfl) (by kernel_rfl) (fun _ _ _ h => h) (Or.inl ⟨by rfl, ?_⟩) hS80 ?_
      rotate_left 1
      ·(intro w hSw; obtain ⟨hSw1, hSw2, hSw3⟩ := hSw; go_simp; try with_reducible rfl)
      simp only [Act.put, Pk.sl]
      refine wpAnyH_take (i := 5) (oi := ⟨some 221, _, _, _, _, _⟩) (v := ?_) rfl (by kernel_rfl) (by kernel_rfl) (by kernel_rfl) (fun _ _ _ h => h) (Or.inl ⟨by rfl, ?_⟩) hS80 ?_
      rotate_left 1
      ·(intro w hSw; obtain ⟨hSw1, hSw2, hSw3⟩ := hSw; go_simp; try with_reducible rfl)
      simp only [Act.put, Pk.sl]
      refine wpAnyH_take (i := 6) (oi := ⟨some 222, _, _, _, _, _⟩) (v := ?_) rfl (by kernel_rfl) (by kernel_rfl) (by kernel_rfl) (fun _ _ _ h => h) (Or.inl ⟨by rfl, ?_⟩) hS80 ?_
      rotate_left 1
      ·(intro w hSw; obtain ⟨hSw1, hSw2, hSw3⟩ := hSw; go_simp; try with_reducible rfl)
      simp only [Act.put, Pk.sl]
      refine wpAnyH_take (i := 7) (oi := ⟨some 223, _, _, _, _, _⟩) (v := ?_) rfl (by kernel_rfl) (by kernel_rfl) (by kernel_rfl) (fun _ _ _ h => h) (Or.inl ⟨by rfl, ?_⟩) hS80 ?_
      rotate_left 1
      ·(intro w hSw; obtain ⟨hSw1, hSw2, hSw3⟩ := hSw; go_simp; try with_reducible rfl)
      simp only [Act.put, Pk.sl]
      refine wpAnyH_take (i := 8) (oi := ⟨some 224, _, _, _, _, _⟩) (v := ?_) rfl (by kernel_rfl) (by kernel_rfl) (by kernel_rfl) (fun _ _ _ h => h) (Or.inl ⟨by rfl, ?_⟩) hS80 ?_
      rotate_left 1
      ·(intro w hSw; obtain ⟨hSw1, hSw2, hSw3⟩ := hSw; go_simp; try with_reducible rfl)
      simp only [Act.put, Pk.sl]
      refine wpAnyH_ready (rs := [1]) (by kernel_rfl) (by simp) ?_
      refine AllReadyH.cons (o := ⟨some 217, _, _, _, _, _⟩) rfl (fun K hK => ?_) AllReadyH.nil
      go_simp
      refine (HT80.out.records (by have := HV.out.vg.jg.few; have := HV.out.lim.n200; omega)).mono ?_
      rintro r w81 ⟨A81, c81, rfl, ha81, hb81⟩
      rw [Hel.out]
      have hS81 : w81.cell? ⟨rv, 1, none⟩ = some (.pointer (some ⟨p2, 0, none⟩)) ∧ w81.cell? ⟨p2, 6, none⟩ = some (.slice A2 el c2) ∧ w81.cell? ⟨q2, 1, none⟩ = some (.slice B2 ll d2) := ⟨(hb81.cell (p := ⟨rv, 1, none⟩) (World.block_lt_of_cell? _ _ hS80.1)).trans hS80.1, (hb81.cell (p := ⟨p2, 6, none⟩) (World.block_lt_of_cell? _ _ hS80.2.1)).trans hS80.2.1, (hb81.cell (p := ⟨q2, 1, none⟩) (World.block_lt_of_cell? _ _ hS80.2.2)).trans hS80.2.2⟩
      have HT81 := hide (HT80.out.below hb81)
      have HA81 := hide ha81
      have HA2 := hide (HA80.out.below hb81)
      clear ha81 hb81
      refine hK.out _ _ hS81 (fun hHeld => ?_)
      clear hK K
      clear hHeld
      refine wpAnyH_ready (rs := [9]) (by kernel_rfl) (by simp) ?_
      refine AllReadyH.cons (o := ⟨some 225, _, _, _, _, _⟩) rfl (fun K hK => ?_) AllReadyH.nil
      go_simp
      refine (Same_two w81 _ el A81 A2 c81 c2 Hel.out (by have := Hel.out; have := HV.out.vg.jg.few; have := HV.out.lim.n200; omega) HA81.out HA2.out).mono ?_
      rintro r w82 ⟨rfl, hb82⟩
      have hS82 : w82.cell? ⟨rv, 1, none⟩ = some (.pointer (some ⟨p2, 0, none⟩)) ∧ w82.cell? ⟨p2, 6, none⟩ = some (.slice A2 el c2) ∧ w82.cell? ⟨q2, 1, none⟩ = some (.slice B2 ll d2) := ⟨(hb82.cell (p := ⟨rv, 1, none⟩) (World.block_lt_of_cell? _ _ hS81.1)).trans hS81.1, (hb82.cell (p := ⟨p2, 6, none⟩) (World.block_lt_of_cell? _ _ hS81.2.1)).trans hS81.2.1, (hb82.cell (p := ⟨q2, 1, none⟩) (World.block_lt_of_cell? _ _ hS81.2.2)).trans hS81.2.2⟩
      have HT82 := hide (HT81.out.below hb82)
      clear hb82 HA81 HA2
      refine hK.out _ _ hS82 (fun hHeld => ?_)
      clear hK K
      clear hHeld
      refine wpAnyH_take (i := 10) (oi := ⟨some 226, _, _, _, _, _⟩) (v := ?_) rfl (by kernel_rfl) (by kernel_rfl) (by kernel_rfl) (fun _ _ _ h => h) (Or.inl ⟨by rfl, ?_⟩) hS82 ?_
      rotate_left 1
      ·(intro w hSw; obtain ⟨hSw1, hSw2, hSw3⟩ := hSw; go_simp; try with_reducible rfl)
      simp only [Act.put, Pk.sl]
      refine wpAnyH_take (i := 11) (oi := ⟨some 227, _, _, _, _, _⟩) (v := ?_) rfl (by kernel_rfl) (by kernel_rfl) (by kernel_rfl) (fun _ _ _ h => h) (Or.inl ⟨by rfl, ?_⟩) hS82 ?_
      rotate_left 1
      ·(intro w hSw; obtain ⟨hSw1, hSw2, hSw3⟩ := hSw; go_simp; try with_reducible rfl)
      simp only [Act.put, Pk.sl]
      refine wpAnyH_take (i := 12) (oi := ⟨some 228, _, _, _, _, _⟩) (v := ?_) rfl (by kernel_rfl) (by kernel_rfl) (by kernel_rfl) (fun _ _ _ h => h) (Or.inl ⟨by rfl, ?_⟩) hS82 ?_
      rotate_left 1
      ·(intro w hSw; obtain ⟨hSw1, hSw2, hSw3⟩ := hSw; go_simp; try with_reducible rfl)
      simp only [Act.put, Pk.sl]
      refine wpAnyH_take (i := 14) (oi := ⟨some 230, _, _, _, _, _⟩) (v := ?_) rfl (by kernel_rfl) (by kernel_rfl) (by kernel_rfl) (fun _ _ _ h => h) (Or.inl ⟨by rfl, ?_⟩) hS82 ?_
      rotate_left 1
      ·(intro w hSw; obtain ⟨hSw1, hSw2, hSw3⟩ := hSw; go_simp; try with_reducible rfl)
      simp only [Act.put, Pk.sl]
      refine wpAnyH_take (i := 15) (oi := ⟨some 231, _, _, _, _, _⟩) (v := ?_) rfl (by kernel_rfl) (by kernel_rfl) (by kernel_rfl) (fun _ _ _ h => h) (Or.inl ⟨by rfl, ?_⟩) hS82 ?_
      rotate_left 1
      ·(intro w hSw; obtain ⟨hSw1, hSw2, hSw3⟩ := hSw; go_simp; try with_reducible rfl)
      simp only [Act.put, Pk.sl]
      refine wpAnyH_take (i := 16) (oi := ⟨some 232, _, _, _, _, _⟩) (v := ?_) rfl (by kernel_rfl) (by kernel_rfl) (by kernel_rfl) (fun _ _ _ h => h) (Or.inl ⟨by rfl, ?_⟩) hS82 ?_
      rotate_left 1
      ·(intro w hSw; obtain ⟨hSw1, hSw2, hSw3⟩ := hSw; go_simp; try with_reducible rfl)
      simp only [Act.put, Pk.sl]
      refine wpAnyH_take (i := 17) (oi := ⟨some 233, _, _, _, _, _⟩) (v := ?_) rfl (by kernel_rfl) (by kernel_rfl) (by kernel_rfl) (fun _ _ _ h => h) (Or.inl ⟨by rfl, ?_⟩) hS82 ?_
      rotate_left 1
      ·(intro w hSw; obtain ⟨hSw1, hSw2, hSw3⟩ := hSw; go_simp; try with_reducible rfl)
      simp only [Act.put, Pk.sl]
      refine wpAnyH_ready (rs := [13]) (by kernel_rfl) (by simp) ?_
      refine AllReadyH.cons (o := ⟨some 229, _, _, _, _, _⟩) rfl (fun K hK => ?_) AllReadyH.nil
      go_simp
      refine (HT82.out.next (by have := HV.out.lim.f; have := HV.out.lim.T; omega) (by have := HV.out.vg.jg.few; have := HV.out.lim.n200; omega)).mono ?_
      rintro r w83 ⟨rfl, hb83⟩
      rw [Hnx.out]
      have hS83 : w83.cell? ⟨rv, 1, none⟩ = some (.pointer (some ⟨p2, 0, none⟩)) ∧ w83.cell? ⟨p2, 6, none⟩ = some (.slice A2 el c2) ∧ w83.cell? ⟨q2, 1, none⟩ = some (.slice B2 ll d2) := ⟨(hb83.cell (p := ⟨rv, 1, none⟩) (World.block_lt_of_cell? _ _ hS82.1)).trans hS82.1, (hb83.cell (p := ⟨p2, 6, none⟩) (World.block_lt_of_cell? _ _ hS82.2.1)).trans hS82.2.1, (hb83.cell (p := ⟨q2, 1, none⟩) (World.block_lt_of_cell? _ _ hS82.2.2)).trans hS82.2.2⟩
      have HT83 := hide (HT82.out.below hb83)
      clear hb83
      refine hK.out _ _ hS83 (fun hHeld => ?_)
      clear hK K
      clear hHeld
      refine wpAnyH_ready (rs := [18]) (by kernel_rfl) (by simp) ?_
      refine AllReadyH.cons (o := ⟨some 234, _, _, _, _, _⟩) rfl (fun K hK => ?_) AllReadyH.nil
      go_simp
      refine (HT83.out.rnext (by have := HV.out.lim.f; have := HV.out.lim.T; omega) (by have := HV.out.vg.jg.few; have := HV.out.lim.n200; omega)).mono ?_
      rintro r w84 ⟨rfl, hb84⟩
      rw [Hnx.out]
      have hS84 : w84.cell? ⟨rv, 1, none⟩ = some (.pointer (some ⟨p2, 0, none⟩)) ∧ w84.cell? ⟨p2, 6, none⟩ = some (.slice A2 el c2) ∧ w84.cell? ⟨q2, 1, none⟩ = some (.slice B2 ll d2) := ⟨(hb84.cell (p := ⟨rv, 1, none⟩) (World.block_lt_of_cell? _ _ hS83.1)).trans hS83.1, (hb84.cell (p := ⟨p2, 6, none⟩) (World.block_lt_of_cell? _ _ hS83.2.1)).trans hS83.2.1, (hb84.cell (p := ⟨q2, 1, none⟩) (World.block_lt_of_cell? _ _ hS83.2.2)).trans hS83.2.2⟩
      have HT84 := hide (HT83.out.below hb84)
      clear hb84
      refine hK.out _ _ hS84 (fun hHeld => ?_)
      clear hK K
      clear hHeld
      refine wpAnyH_take (i := 19) (oi := ⟨some 235, _, _, _, _, _⟩) (v := ?_) rfl (by kernel_rfl) (by kernel_rfl) (by kernel_rfl) (fun _ _ _ h => h) (Or.inl ⟨by rfl, ?_⟩) hS84 ?_
      rotate_left 1
      ·(intro w hSw; obtain ⟨hSw1, hSw2, hSw3⟩ := hSw; go_simp; try with_reducible rfl)
      simp only [Act.put, Pk.sl]
      refine wpAnyH_take (i := 20) (oi := ⟨some 236, _, _, _, _, _⟩) (v := ?_) rfl (by kernel_rfl) (by kernel_rfl) (by kernel_rfl) (fun _ _ _ h => h) (Or.inl ⟨by rfl, ?_⟩) hS84 ?_
      rotate_left 1
      ·(intro w hSw; obtain ⟨hSw1, hSw2, hSw3⟩ := hSw; go_simp; try with_reducible rfl)
      simp only [Act.put, Pk.sl]
      refine wpAnyH_take (i := 21) (oi := ⟨some 237, _, _, _, _, _⟩) (v := ?_) rfl (by kernel_rfl) (by kernel_rfl) (by kernel_rfl) (fun _ _ _ h => h) (Or.inl ⟨by rfl, ?_⟩) hS84 ?_
      rotate_left 1
      ·(intro w hSw; obtain ⟨hSw1, hSw2, hSw3⟩ := hSw; go_simp; try with_reducible rfl)
      simp only [Act.put, Pk.sl]
      refine wpAnyH_take (i := 22) (oi := ⟨some 238, _, _, _, _, _⟩) (v := ?_) rfl (by kernel_rfl) (by kernel_rfl) (by kernel_rfl) (fun _ _ _ h => h) (Or.inl ⟨by rfl, ?_⟩) hS84 ?_
      rotate_left 1
      ·(intro w hSw; obtain ⟨hSw1, hSw2, hSw3⟩ := hSw; go_simp; try with_reducible rfl)
      simp only [Act.put, Pk.sl]
      refine wpAnyH_take (i := 24) (oi := ⟨some 240, _, _, _, _, _⟩) (v := ?_) rfl (by kernel_rfl) (by kernel_rfl) (by kernel_rfl) (fun _ _ _ h => h) (Or.inl ⟨by rfl, ?_⟩) hS84 ?_
      rotate_left 1
      ·(intro w hSw; obtain ⟨hSw1, hSw2, hSw3⟩ := hSw; go_simp; try with_reducible rfl)
      simp only [Act.put, Pk.sl]
      refine wpAnyH_take (i := 25) (oi := ⟨some 241, _, _, _, _, _⟩) (v := ?_) rfl (by kernel_rfl) (by kernel_rfl) (by kernel_rfl) (fun _ _ _ h => h) (Or.inl ⟨by rfl, ?_⟩) hS84 ?_
      rotate_left 1
      ·(intro w hSw; obtain ⟨hSw1, hSw2, hSw3⟩ := hSw; go_simp; try with_reducible rfl)
      simp only [Act.put, Pk.sl]
      refine wpAnyH_take (i := 26) (oi := ⟨some 242, _, _, _, _, _⟩) (v := ?_) rfl (by kernel_rfl) (by kernel_rfl) (by kernel_rfl) (fun _ _ _ h => h) (Or.inl ⟨by rfl, ?_⟩) hS84 ?_
      rotate_left 1
      ·(intro w hSw; obtain ⟨hSw1, hSw2, hSw3⟩ := hSw; go_simp; try with_reducible rfl)
      simp only [Act.put, Pk.sl]
      refine wpAnyH_take (i := 27) (oi := ⟨some 243, _, _, _, _, _⟩) (v := ?_) rfl (by kernel_rfl) (by kernel_rfl) (by kernel_rfl) (fun _ _ _ h => h) (Or.inl ⟨by rfl, ?_⟩) hS84 ?_
      rotate_left 1
      ·(intro w hSw; obtain ⟨hSw1, hSw2, hSw3⟩ := hSw; go_simp; try with_reducible rfl)
      simp only [Act.put, Pk.sl]
      refine wpAnyH_take (i := 28) (oi := ⟨some 244, _, _, _, _, _⟩) (v := ?_) rfl (by kernel_rfl) (by kernel_rfl) (by kernel_rfl) (fun _ _ _ h => h) (Or.inl ⟨by rfl, ?_⟩) hS84 ?_
      rotate_left 1
      ·(intro w hSw; obtain ⟨hSw1, hSw2, hSw3⟩ := hSw; go_simp; try with_reducible rfl)
      simp only [Act.put, Pk.sl]
      refine wpAnyH_ready (rs := [23]) (by kernel_rfl) (by simp) ?_
      refine AllReadyH.cons (o := ⟨some 239, _, _, _, _, _⟩) rfl (fun K hK => ?_) AllReadyH.nil
      go_simp
      refine (HT84.out.loose).mono ?_
      rintro r w85 ⟨rfl, rfl⟩
      rw [Hll.out]
      refine hK.out _ _ hS84 (fun hHeld => ?_)
      clear hK K
      clear hHeld
      refine wpAnyH_take (i := 29) (oi := ⟨some 245, _, _, _, _, _⟩) (v := ?_) rfl (by kernel_rfl) (by kernel_rfl) (by kernel_rfl) (fun _ _ _ h => h) (Or.inl ⟨by rfl, ?_⟩) hS84 ?_
      rotate_left 1
      ·(intro w hSw; obtain ⟨hSw1, hSw2, hSw3⟩ := hSw; go_simp; try with_reducible rfl)
      simp only [Act.put, Pk.sl]
      refine wpAnyH_take (i := 30) (oi := ⟨some 246, _, _, _, _, _⟩) (v := ?_) rfl (by kernel_rfl) (by kernel_rfl) (by kernel_rfl) (fun _ _ _ h => h) (Or.inl ⟨by rfl, ?_⟩) hS84 ?_
      rotate_left 1
      ·(intro w hSw; obtain ⟨hSw1, hSw2, hSw3⟩ := hSw; go_simp; try with_reducible rfl)
      simp only [Act.put, Pk.sl]
      refine wpAnyH_done (by kernel_rfl) ?_ _
      clear hS80 hS81 hS82 hS83 hS84 HA80
      go_wp2
      go_roundw
      case rel => exact ⟨k + 1, v, p, rv, p2, _, _, _, _, _, _, _, _, Hlt.out, rfl, rfl, by go_num, by rw [show 1 + (k + 1) = 1 + k + 1 by omega]; exact HV, HT84⟩
      case measure => have := Hlt.out; simp [intOf]; omega
    by_cases k5 : kd = 5
    ·subst k5
     clear k1 k2 k3 k4
     by_cases hu : 0 ≤ nn ∧ nn < ((h.f + E.length : Nat) : Int)
     ·skip
      as_aux_lemma =>
       go_wp2
       refine wp_region_held (S := (fun W => W.cell? ⟨gb, 1, none⟩ = some (.int .i64 nn))) (by kernel_rfl) ?_
       change wpAnyH _ _ _ _ _ _ _ _ (World.drew _)
       refine wpAnyH_take (i := 0) (oi := ⟨some 176, _, _, _, _, _⟩) (v := ?_) rfl (by kernel_rfl) (by kernel_rfl) (by kernel_rfl) (fun _ _ _ h => h) (Or.inl ⟨by rfl, ?_⟩) o1 ?_
       rotate_left 1
       ·(intro w hSw; obtain hSw1 := hSw; go_simp; try with_reducible rfl)
       simp only [Act.put, Pk.sl]
       refine wpAnyH_take (i := 1) (oi := ⟨some 177, _, _, _, _, _⟩) (v := ?_) rfl (by kernel_rfl) (by kernel_rfl) (by kernel_rfl) (fun _ _ _ h => h) (Or.inl ⟨by rfl, ?_⟩) o1 ?_
       rotate_left 1
       ·(intro w hSw; obtain hSw1 := hSw; go_simp; try with_reducible rfl)
       simp only [Act.put, Pk.sl]
       refine wpAnyH_take (i := 2) (oi := ⟨some 178, _, _, _, _, _⟩) (v := ?_) rfl (by kernel_rfl) (by kernel_rfl) (by kernel_rfl) (fun _ _ _ h => h) (Or.inl ⟨by rfl, ?_⟩) o1 ?_
       rotate_left 1
       ·(intro w hSw; obtain hSw1 := hSw; go_simp; try with_reducible rfl)
       simp only [Act.put, Pk.sl]
       refine wpAnyH_take (i := 4) (oi := ⟨some 180, _, _, _, _, _⟩) (v := ?_) rfl (by kernel_rfl) (by kernel_rfl) (by kernel_rfl) (fun _ _ _ h => h) (Or.inl ⟨by rfl, ?_⟩) o1 ?_
       rotate_left 1
       ·(intro w hSw; obtain hSw1 := hSw; go_simp; try with_reducible rfl)
       simp only [Act.put, Pk.sl]
       refine wpAnyH_take (i := 5) (oi := ⟨some 181, _, _, _, _, _⟩) (v := ?_) rfl (by kernel_rfl) (by kernel_rfl) (by kernel_rfl) (fun _ _ _ h => h) (Or.inl ⟨by rfl, ?_⟩) o1 ?_
       rotate_left 1
       ·(intro w hSw; obtain hSw1 := hSw; go_simp; try with_reducible rfl)
       simp only [Act.put, Pk.sl]
       refine wpAnyH_take (i := 6) (oi := ⟨some 182, _, _, _, _, _⟩) (v := ?_) rfl (by kernel_rfl) (by kernel_rfl) (by kernel_rfl) (fun _ _ _ h => h) (Or.inl ⟨by rfl, ?_⟩) o1 ?_
       rotate_left 1
       ·(intro w hSw; obtain hSw1 := hSw; go_simp; try with_reducible rfl)
       simp only [Act.put, Pk.sl]
       refine wpAnyH_take (i := 7) (oi := ⟨some 183, _, _, _, _, _⟩) (v := ?_) rfl (by kernel_rfl) (by kernel_rfl) (by kernel_rfl) (fun _ _ _ h => h) (Or.inl ⟨by rfl, ?_⟩) o1 ?_
       rotate_left 1
       ·(intro w hSw; obtain hSw1 := hSw; go_simp; try with_reducible rfl)
       simp only [Act.put, Pk.sl]
       refine wpAnyH_take (i := 8) (oi := ⟨some 184, _, _, _, _, _⟩) (v := ?_) rfl (by kernel_rfl) (by kernel_rfl) (by kernel_rfl) (fun _ _ _ h => h) (Or.inl ⟨by rfl, ?_⟩) o1 ?_
       rotate_left 1
       ·(intro w hSw; obtain hSw1 := hSw; go_simp; try with_reducible rfl)
       simp only [Act.put, Pk.sl]
       refine wpAnyH_ready (rs := [3]) (by kernel_rfl) (by simp) ?_
       refine AllReadyH.cons (o := ⟨some 179, _, _, _, _, _⟩) rfl (fun K hK => ?_) AllReadyH.nil
       go_simp
       refine (HP.out.drew.check hi.out HT.out hu.1 hu.2).mono ?_
       rintro r w6 ⟨rfl, hj6⟩
       have HJ6 := hide hj6
       have hS6 : w6.cell? ⟨gb, 1, none⟩ = some (.int .i64 nn) := cell_of HJ6.out.obj rfl
       clear hj6
       refine hK.out _ _ hS6 (fun hHeld => ?_)
       clear hK K
       clear hHeld
       refine wpAnyH_ready (rs := [9]) (by kernel_rfl) (by simp) ?_
       refine AllReadyH.cons (o := ⟨some 185, _, _, _, _, _⟩) rfl (fun K hK => ?_) AllReadyH.nil
       go_simp
       refine (HJ6.out.rcheck hi.out hu.1 hu.2).mono ?_
       rintro r w7 ⟨rfl, hj7⟩
       have HJ7 := hide hj7
       have hS7 : w7.cell? ⟨gb, 1, none⟩ = some (.int .i64 nn) := cell_of HJ7.out.obj rfl
       clear hj7 HJ6
       refine hK.out _ _ hS7 (fun hHeld => ?_)
       clear hK K
       clear hHeld
       refine wpAnyH_ready (rs := [10]) (by kernel_rfl) (by simp) ?_
       refine AllReadyH.cons (o := ⟨some 186, _, _, _, _, _⟩) rfl (fun K hK => ?_) AllReadyH.nil
       go_simp
       refine (place_none (HJ7.out.ety HY.out) nn).mono ?_
       rintro r wt ⟨rfl, hbt⟩
       have HT2 := hide (HJ7.out.below hbt)
       have hSt : wt.cell? ⟨gb, 1, none⟩ = some (.int .i64 nn) := cell_of HT2.out.obj rfl
       clear hbt HJ7
       refine hK.out _ _ hSt (fun hHeld => ?_)
       clear hK K
       clear hHeld
       refine wpAnyH_take (i := 11) (oi := ⟨some 187, _, _, _, _, _⟩) (v := ?_) rfl (by kernel_rfl) (by kernel_rfl) (by kernel_rfl) (fun _ _ _ h => h) (Or.inl ⟨by rfl, ?_⟩) hSt ?_
       rotate_left 1
       ·(intro w hSw; obtain hSw1 := hSw; go_simp; try with_reducible rfl)
       simp only [Act.put, Pk.sl]
       refine wpAnyH_done (by kernel_rfl) ?_ _
       clear hSt
       have HV := hide (hi.out.check HK80.out hu.2)
       clear hu
       have HT := HT2
       clear HT2
       have HT80 := hide HT.out.drew
       obtain ⟨A2, c2, B2, d2, k1, k6, ha, k1q⟩ := HT80.out.cells
       obtain ⟨el, hel⟩ : ∃ el, (E.drop (upk h nn)).length = el := ⟨_, rfl⟩
       obtain ⟨ll, hll⟩ : ∃ ll, ([] : List Wr).length = ll := ⟨_, rfl⟩
       obtain ⟨nx, hnx⟩ : ∃ nx, (trh h E (upk h nn)).f + (E.drop (upk h nn)).length = nx := ⟨_, rfl⟩
       have Hel := hide hel
       have Hll := hide (show ((([] : List Wr).length : Nat) : Int) = (ll : Int) by rw [hll])
       have Hnx := hide hnx
       rw [hel] at k6
       rw [hll] at k1q
       have HA80 := hide ha
       have hS80 := And.intro k1 (And.intro k6 k1q)
       clear k1 k6 ha k1q hel hll hnx HT
       go_wp2
       refine wp_region_held (S := (fun W => W.cell? ⟨rv, 1, none⟩ = some (.pointer (some ⟨p2, 0, none⟩)) ∧ W.cell? ⟨p2, 6, none⟩ = some (.slice A2 el c2) ∧ W.cell? ⟨q2, 1, none⟩ = some (.slice B2 ll d2))) (by kernel_rfl) ?_
       change wpAnyH _ _ _ _ _ _ _ _ (World.drew _)
       refine wpAnyH_take (i := 0) (oi := ⟨some 216, _, _, _, _, _⟩) (v := ?_) rfl (by kernel_rfl) (by kernel_rfl) (by kernel_rfl) (fun _ _ _ h => h) (Or.inl ⟨by rfl, ?_⟩) hS80 ?_
       rotate_left 1
       ·(intro w hSw; obtain ⟨hSw1, hSw2, hSw3⟩ := hSw; go_simp; try with_reducible rfl)
       simp only [Act.put, Pk.sl]
       refine wpAnyH_take (i := 2) (oi := ⟨some 218, _, _, _, _, _⟩) (v := ?_) rfl (by kernel_rfl) (by kernel_rfl) (by kernel_rfl) (fun _ _ _ h => h) (Or.inl ⟨by rfl, ?_⟩) hS80 ?_
       rotate_left 1
       ·(intro w hSw; obtain ⟨hSw1, hSw2, hSw3⟩ := hSw; go_simp; try with_reducible rfl)
       simp only [Act.put, Pk.sl]
       refine wpAnyH_take (i := 3) (oi := ⟨some 219, _, _, _, _, _⟩) (v := ?_) rfl (by kernel_rfl) (by kernel_rfl) (by kernel_rfl) (fun _ _ _ h => h) (Or.inl ⟨by rfl, ?_⟩) hS80 ?_
       rotate_left 1
       ·(intro w hSw; obtain ⟨hSw1, hSw2, hSw3⟩ := hSw; go_simp; try with_reducible rfl)
       simp only [Act.put, Pk.sl]
       refine wpAnyH_take (i := 4) (oi := ⟨some 220, _, _, _, _, _⟩) (v := ?_) rfl (by kernel_rfl) (by kernel_rfl) (by kernel_rfl) (fun _ _ _ h => h) (Or.inl ⟨by rfl, ?_⟩) hS80 ?_
       rotate_left 1
       ·(intro w hSw; obtain ⟨hSw1, hSw2, hSw3⟩ := hSw; go_simp; try with_reducible rfl)
       simp only [Act.put, Pk.sl]
       refine wpAnyH_take (i := 5) (oi := ⟨some 221, _, _, _, _, _⟩) (v := ?_) rfl (by kernel_rfl) (by kernel_rfl) (by kernel_rfl) (fun _ _ _ h => h) (Or.inl ⟨by rfl, ?_⟩) hS80 ?_
       rotate_left 1
       ·(intro w hSw; obtain ⟨hSw1, hSw2, hSw3⟩ := hSw; go_simp; try with_reducible rfl)
       simp only [Act.put, Pk.sl]
       refine wpAnyH_take (i := 6) (oi := ⟨some 222, _, _, _, _, _⟩) (v := ?_) rfl (by kernel_rfl) (by kernel_rfl) (by kernel_rfl) (fun _ _ _ h => h) (Or.inl ⟨by rfl, ?_⟩) hS80 ?_
       rotate_left 1
       ·(intro w hSw; obtain ⟨hSw1, hSw2, hSw3⟩ := hSw; go_simp; try with_reducible rfl)
       simp only [Act.put, Pk.sl]
       refine wpAnyH_take (i := 7) (oi := ⟨some 223, _, _, _, _, _⟩) (v := ?_) rfl (by kernel_rfl) (by kernel_rfl) (by kernel_rfl) (fun _ _ _ h => h) (Or.inl ⟨by rfl, ?_⟩) hS80 ?_
       rotate_left 1
       ·(intro w hSw; obtain ⟨hSw1, hSw2, hSw3⟩ := hSw; go_simp; try with_reducible rfl)
       simp only [Act.put, Pk.sl]
       refine wpAnyH_take (i := 8) (oi := ⟨some 224, _, _, _, _, _⟩) (v := ?_) rfl (by kernel_rfl) (by kernel_rfl) (by kernel_rfl) (fun _ _ _ h => h) (Or.inl ⟨by rfl, ?_⟩) hS80 ?_
       rotate_left 1
       ·(intro w hSw; obtain ⟨hSw1, hSw2, hSw3⟩ := hSw; go_simp; try with_reducible rfl)
       simp only [Act.put, Pk.sl]
       refine wpAnyH_ready (rs := [1]) (by kernel_rfl) (by simp) ?_
       refine AllReadyH.cons (o := ⟨some 217, _, _, _, _, _⟩) rfl (fun K hK => ?_) AllReadyH.nil
       go_simp
       refine (HT80.out.records (by have := HV.out.vg.jg.few; have := HV.out.lim.n200; omega)).mono ?_
       rintro r w81 ⟨A81, c81, rfl, ha81, hb81⟩
       rw [Hel.out]
       have hS81 : w81.cell? ⟨rv, 1, none⟩ = some (.pointer (some ⟨p2, 0, none⟩)) ∧ w81.cell? ⟨p2, 6, none⟩ = some (.slice A2 el c2) ∧ w81.cell? ⟨q2, 1, none⟩ = some (.slice B2 ll d2) := ⟨(hb81.cell (p := ⟨rv, 1, none⟩) (World.block_lt_of_cell? _ _ hS80.1)).trans hS80.1, (hb81.cell (p := ⟨p2, 6, none⟩) (World.block_lt_of_cell? _ _ hS80.2.1)).trans hS80.2.1, (hb81.cell (p := ⟨q2, 1, none⟩) (World.block_lt_of_cell? _ _ hS80.2.2)).trans hS80.2.2⟩
       have HT81 := hide (HT80.out.below hb81)
       have HA81 := hide ha81
       have HA2 := hide (HA80.out.below hb81)
       clear ha81 hb81
       refine hK.out _ _ hS81 (fun hHeld => ?_)
       clear hK K
       clear hHeld
       refine wpAnyH_ready (rs := [9]) (by kernel_rfl) (by simp) ?_
       refine AllReadyH.cons (o := ⟨some 225, _, _, _, _, _⟩) rfl (fun K hK => ?_) AllReadyH.nil
       go_simp
       refine (Same_two w81 _ el A81 A2 c81 c2 Hel.out (by have := Hel.out; have := HV.out.vg.jg.few; have := HV.out.lim.n200; omega) HA81.out HA2.out).mono ?_
       rintro r w82 ⟨rfl, hb82⟩
       have hS82 : w82.cell? ⟨rv, 1, none⟩ = some (.pointer (some ⟨p2, 0, none⟩)) ∧ w82.cell? ⟨p2, 6, none⟩ = some (.slice A2 el c2) ∧ w82.cell? ⟨q2, 1, none⟩ = some (.slice B2 ll d2) := ⟨(hb82.cell (p := ⟨rv, 1, none⟩) (World.block_lt_of_cell? _ _ hS81.1)).trans hS81.1, (hb82.cell (p := ⟨p2, 6, none⟩) (World.block_lt_of_cell? _ _ hS81.2.1)).trans hS81.2.1, (hb82.cell (p := ⟨q2, 1, none⟩) (World.block_lt_of_cell? _ _ hS81.2.2)).trans hS81.2.2⟩
       have HT82 := hide (HT81.out.below hb82)
       clear hb82 HA81 HA2
       refine hK.out _ _ hS82 (fun hHeld => ?_)
       clear hK K
       clear hHeld
       refine wpAnyH_take (i := 10) (oi := ⟨some 226, _, _, _, _, _⟩) (v := ?_) rfl (by kernel_rfl) (by kernel_rfl) (by kernel_rfl) (fun _ _ _ h => h) (Or.inl ⟨by rfl, ?_⟩) hS82 ?_
       rotate_left 1
       ·(intro w hSw; obtain ⟨hSw1, hSw2, hSw3⟩ := hSw; go_simp; try with_reducible rfl)
       simp only [Act.put, Pk.sl]
       refine wpAnyH_take (i := 11) (oi := ⟨some 227, _, _, _, _, _⟩) (v := ?_) rfl (by kernel_rfl) (by kernel_rfl) (by kernel_rfl) (fun _ _ _ h => h) (Or.inl ⟨by rfl, ?_⟩) hS82 ?_
       rotate_left 1
       ·(intro w hSw; obtain ⟨hSw1, hSw2, hSw3⟩ := hSw; go_simp; try with_reducible rfl)
       simp only [Act.put, Pk.sl]
       refine wpAnyH_take (i := 12) (oi := ⟨some 228, _, _, _, _, _⟩) (v := ?_) rfl (by kernel_rfl) (by kernel_rfl) (by kernel_rfl) (fun _ _ _ h => h) (Or.inl ⟨by rfl, ?_⟩) hS82 ?_
       rotate_left 1
       ·(intro w hSw; obtain ⟨hSw1, hSw2, hSw3⟩ := hSw; go_simp; try with_reducible rfl)
       simp only [Act.put, Pk.sl]
       refine wpAnyH_take (i := 14) (oi := ⟨some 230, _, _, _, _, _⟩) (v := ?_) rfl (by kernel_rfl) (by kernel_rfl) (by kernel_rfl) (fun _ _ _ h => h) (Or.inl ⟨by rfl, ?_⟩) hS82 ?_
       rotate_left 1
       ·(intro w hSw; obtain ⟨hSw1, hSw2, hSw3⟩ := hSw; go_simp; try with_reducible rfl)
       simp only [Act.put, Pk.sl]
       refine wpAnyH_take (i := 15) (oi := ⟨some 231, _, _, _, _, _⟩) (v := ?_) rfl (by kernel_rfl) (by kernel_rfl) (by kernel_rfl) (fun _ _ _ h => h) (Or.inl ⟨by rfl, ?_⟩) hS82 ?_
       rotate_left 1
       ·(intro w hSw; obtain ⟨hSw1, hSw2, hSw3⟩ := hSw; go_simp; try with_reducible rfl)
       simp only [Act.put, Pk.sl]
       refine wpAnyH_take (i := 16) (oi := ⟨some 232, _, _, _, _, _⟩) (v := ?_) rfl (by kernel_rfl) (by kernel_rfl) (by kernel_rfl) (fun _ _ _ h => h) (Or.inl ⟨by rfl, ?_⟩) hS82 ?_
       rotate_left 1
       ·(intro w hSw; obtain ⟨hSw1, hSw2, hSw3⟩ := hSw; go_simp; try with_reducible rfl)
       simp only [Act.put, Pk.sl]
       refine wpAnyH_take (i := 17) (oi := ⟨some 233, _, _, _, _, _⟩) (v := ?_) rfl (by kernel_rfl) (by kernel_rfl) (by kernel_rfl) (fun _ _ _ h => h) (Or.inl ⟨by rfl, ?_⟩) hS82 ?_
       rotate_left 1
       ·(intro w hSw; obtain ⟨hSw1, hSw2, hSw3⟩ := hSw; go_simp; try with_reducible rfl)
       simp only [Act.put, Pk.sl]
       refine wpAnyH_ready (rs := [13]) (by kernel_rfl) (by simp) ?_
       refine AllReadyH.cons (o := ⟨some 229, _, _, _, _, _⟩) rfl (fun K hK => ?_) AllReadyH.nil
       go_simp
       refine (HT82.out.next (by have := HV.out.lim.f; have := HV.out.lim.T; omega) (by have := HV.out.vg.jg.few; have := HV.out.lim.n200; omega)).mono ?_
       rintro r w83 ⟨rfl, hb83⟩
       rw [Hnx.out]
       have hS83 : w83.cell? ⟨rv, 1, none⟩ = some (.pointer (some ⟨p2, 0, none⟩)) ∧ w83.cell? ⟨p2, 6, none⟩ = some (.slice A2 el c2) ∧ w83.cell? ⟨q2, 1, none⟩ = some (.slice B2 ll d2) := ⟨(hb83.cell (p := ⟨rv, 1, none⟩) (World.block_lt_of_cell? _ _ hS82.1)).trans hS82.1, (hb83.cell (p := ⟨p2, 6, none⟩) (World.block_lt_of_cell? _ _ hS82.2.1)).trans hS82.2.1, (hb83.cell (p := ⟨q2, 1, none⟩) (World.block_lt_of_cell? _ _ hS82.2.2)).trans hS82.2.2⟩
       have HT83 := hide (HT82.out.below hb83)
       clear hb83
       refine hK.out _ _ hS83 (fun hHeld => ?_)
       clear hK K
       clear hHeld
       refine wpAnyH_ready (rs := [18]) (by kernel_rfl) (by simp) ?_
       refine AllReadyH.cons (o := ⟨some 234, _, _, _, _, _⟩) rfl (fun K hK => ?_) AllReadyH.nil
       go_simp
       refine (HT83.out.rnext (by have := HV.out.lim.f; have := HV.out.lim.T; omega) (by have := HV.out.vg.jg.few; have := HV.out.lim.n200; omega)).mono ?_
       rintro r w84 ⟨rfl, hb84⟩
       rw [Hnx.out]
       have hS84 : w84.cell? ⟨rv, 1, none⟩ = some (.pointer (some ⟨p2, 0, none⟩)) ∧ w84.cell? ⟨p2, 6, none⟩ = some (.slice A2 el c2) ∧ w84.cell? ⟨q2, 1, none⟩ = some (.slice B2 ll d2) := ⟨(hb84.cell (p := ⟨rv, 1, none⟩) (World.block_lt_of_cell? _ _ hS83.1)).trans hS83.1, (hb84.cell (p := ⟨p2, 6, none⟩) (World.block_lt_of_cell? _ _ hS83.2.1)).trans hS83.2.1, (hb84.cell (p := ⟨q2, 1, none⟩) (World.block_lt_of_cell? _ _ hS83.2.2)).trans hS83.2.2⟩
       have HT84 := hide (HT83.out.below hb84)
       clear hb84
       refine hK.out _ _ hS84 (fun hHeld => ?_)
       clear hK K
       clear hHeld
       refine wpAnyH_take (i := 19) (oi := ⟨some 235, _, _, _, _, _⟩) (v := ?_) rfl (by kernel_rfl) (by kernel_rfl) (by kernel_rfl) (fun _ _ _ h => h) (Or.inl ⟨by rfl, ?_⟩) hS84 ?_
       rotate_left 1
       ·(intro w hSw; obtain ⟨hSw1, hSw2, hSw3⟩ := hSw; go_simp; try with_reducible rfl)
       simp only [Act.put, Pk.sl]
       refine wpAnyH_take (i := 20) (oi := ⟨some 236, _, _, _, _, _⟩) (v := ?_) rfl (by kernel_rfl) (by kernel_rfl) (by kernel_rfl) (fun _ _ _ h => h) (Or.inl ⟨by rfl, ?_⟩) hS84 ?_
       rotate_left 1
       ·(intro w hSw; obtain ⟨hSw1, hSw2, hSw3⟩ := hSw; go_simp; try with_reducible rfl)
       simp only [Act.put, Pk.sl]
       refine wpAnyH_take (i := 21) (oi := ⟨some 237, _, _, _, _, _⟩) (v := ?_) rfl (by kernel_rfl) (by kernel_rfl) (by kernel_rfl) (fun _ _ _ h => h) (Or.inl ⟨by rfl, ?_⟩) hS84 ?_
       rotate_left 1
       ·(intro w hSw; obtain ⟨hSw1, hSw2, hSw3⟩ := hSw; go_simp; try with_reducible rfl)
       simp only [Act.put, Pk.sl]
       refine wpAnyH_take (i := 22) (oi := ⟨some 238, _, _, _, _, _⟩) (v := ?_) rfl (by kernel_rfl) (by kernel_rfl) (by kernel_rfl) (fun _ _ _ h => h) (Or.inl ⟨by rfl, ?_⟩) hS84 ?_
       rotate_left 1
       ·(intro w hSw; obtain ⟨hSw1, hSw2, hSw3⟩ := hSw; go_simp; try with_reducible rfl)
       simp only [Act.put, Pk.sl]
       refine wpAnyH_take (i := 24) (oi := ⟨some 240, _, _, _, _, _⟩) (v := ?_) rfl (by kernel_rfl) (by kernel_rfl) (by kernel_rfl) (fun _ _ _ h => h) (Or.inl ⟨by rfl, ?_⟩) hS84 ?_
       rotate_left 1
       ·(intro w hSw; obtain ⟨hSw1, hSw2, hSw3⟩ := hSw; go_simp; try with_reducible rfl)
       simp only [Act.put, Pk.sl]
       refine wpAnyH_take (i := 25) (oi := ⟨some 241, _, _, _, _, _⟩) (v := ?_) rfl (by kernel_rfl) (by kernel_rfl) (by kernel_rfl) (fun _ _ _ h => h) (Or.inl ⟨by rfl, ?_⟩) hS84 ?_
       rotate_left 1
       ·(intro w hSw; obtain ⟨hSw1, hSw2, hSw3⟩ := hSw; go_simp; try with_reducible rfl)
       simp only [Act.put, Pk.sl]
       refine wpAnyH_take (i := 26) (oi := ⟨some 242, _, _, _, _, _⟩) (v := ?_) rfl (by kernel_rfl) (by kernel_rfl) (by kernel_rfl) (fun _ _ _ h => h) (Or.inl ⟨by rfl, ?_⟩) hS84 ?_
       rotate_left 1
       ·(intro w hSw; obtain ⟨hSw1, hSw2, hSw3⟩ := hSw; go_simp; try with_reducible rfl)
       simp only [Act.put, Pk.sl]
       refine wpAnyH_take (i := 27) (oi := ⟨some 243, _, _, _, _, _⟩) (v := ?_) rfl (by kernel_rfl) (by kernel_rfl) (by kernel_rfl) (fun _ _ _ h => h) (Or.inl ⟨by rfl, ?_⟩) hS84 ?_
       rotate_left 1
       ·(intro w hSw; obtain ⟨hSw1, hSw2, hSw3⟩ := hSw; go_simp; try with_reducible rfl)
       simp only [Act.put, Pk.sl]
       refine wpAnyH_take (i := 28) (oi := ⟨some 244, _, _, _, _, _⟩) (v := ?_) rfl (by kernel_rfl) (by kernel_rfl) (by kernel_rfl) (fun _ _ _ h => h) (Or.inl ⟨by rfl, ?_⟩) hS84 ?_
       rotate_left 1
       ·(intro w hSw; obtain ⟨hSw1, hSw2, hSw3⟩ := hSw; go_simp; try with_reducible rfl)
       simp only [Act.put, Pk.sl]
       refine wpAnyH_ready (rs := [23]) (by kernel_rfl) (by simp) ?_
       refine AllReadyH.cons (o := ⟨some 239, _, _, _, _, _⟩) rfl (fun K hK => ?_) AllReadyH.nil
       go_simp
       refine (HT84.out.loose).mono ?_
       rintro r w85 ⟨rfl, rfl⟩
       rw [Hll.out]
       refine hK.out _ _ hS84 (fun hHeld => ?_)
       clear hK K
       clear hHeld
       refine wpAnyH_take (i := 29) (oi := ⟨some 245, _, _, _, _, _⟩) (v := ?_) rfl (by kernel_rfl) (by kernel_rfl) (by kernel_rfl) (fun _ _ _ h => h) (Or.inl ⟨by rfl, ?_⟩) hS84 ?_
       rotate_left 1
       ·(intro w hSw; obtain ⟨hSw1, hSw2, hSw3⟩ := hSw; go_simp; try with_reducible rfl)
       simp only [Act.put, Pk.sl]
       refine wpAnyH_take (i := 30) (oi := ⟨some 246, _, _, _, _, _⟩) (v := ?_) rfl (by kernel_rfl) (by kernel_rfl) (by kernel_rfl) (fun _ _ _ h => h) (Or.inl ⟨by rfl, ?_⟩) hS84 ?_
       rotate_left 1
       ·(intro w hSw; obtain ⟨hSw1, hSw2, hSw3⟩ := hSw; go_simp; try with_reducible rfl)
       simp only [Act.put, Pk.sl]
       refine wpAnyH_done (by kernel_rfl) ?_ _
       clear hS80 hS81 hS82 hS83 hS84 HA80
       go_wp2
       go_roundw
       case rel => exact ⟨k + 1, v, p, rv, p2, _, _, _, _, _, _, _, _, Hlt.out, rfl, rfl, by go_num, by rw [show 1 + (k + 1) = 1 + k + 1 by omega]; exact HV, HT84⟩
       case measure => have := Hlt.out; simp [intOf]; omega
     ·skip
      as_aux_lemma =>
       have HV := hide (hi.out.more (Nat.le_succ _) HK80.out)
       have HUN := hide (show nn < 0 ∨ ((h.f + E.length : Nat) : Int) ≤ nn by omega)
       obtain ⟨R, hvs⟩ := HP.out.drew.vs hi.out
       have HC := hide (hvs.checkpoint_no HUN.out)
       clear hu hvs
       go_wp2
       refine wp_region_held (S := (fun W => W.cell? ⟨gb, 1, none⟩ = some (.int .i64 nn))) (by kernel_rfl) ?_
       change wpAnyH _ _ _ _ _ _ _ _ (World.drew _)
       refine wpAnyH_take (i := 0) (oi := ⟨some 176, _, _, _, _, _⟩) (v := ?_) rfl (by kernel_rfl) (by kernel_rfl) (by kernel_rfl) (fun _ _ _ h => h) (Or.inl ⟨by rfl, ?_⟩) o1 ?_
       rotate_left 1
       ·(intro w hSw; obtain hSw1 := hSw; go_simp; try with_reducible rfl)
       simp only [Act.put, Pk.sl]
       refine wpAnyH_take (i := 1) (oi := ⟨some 177, _, _, _, _, _⟩) (v := ?_) rfl (by kernel_rfl) (by kernel_rfl) (by kernel_rfl) (fun _ _ _ h => h) (Or.inl ⟨by rfl, ?_⟩) o1 ?_
       rotate_left 1
       ·(intro w hSw; obtain hSw1 := hSw; go_simp; try with_reducible rfl)
       simp only [Act.put, Pk.sl]
       refine wpAnyH_take (i := 2) (oi := ⟨some 178, _, _, _, _, _⟩) (v := ?_) rfl (by kernel_rfl) (by kernel_rfl) (by kernel_rfl) (fun _ _ _ h => h) (Or.inl ⟨by rfl, ?_⟩) o1 ?_
       rotate_left 1
       ·(intro w hSw; obtain hSw1 := hSw; go_simp; try with_reducible rfl)
       simp only [Act.put, Pk.sl]
       refine wpAnyH_take (i := 4) (oi := ⟨some 180, _, _, _, _, _⟩) (v := ?_) rfl (by kernel_rfl) (by kernel_rfl) (by kernel_rfl) (fun _ _ _ h => h) (Or.inl ⟨by rfl, ?_⟩) o1 ?_
       rotate_left 1
       ·(intro w hSw; obtain hSw1 := hSw; go_simp; try with_reducible rfl)
       simp only [Act.put, Pk.sl]
       refine wpAnyH_take (i := 5) (oi := ⟨some 181, _, _, _, _, _⟩) (v := ?_) rfl (by kernel_rfl) (by kernel_rfl) (by kernel_rfl) (fun _ _ _ h => h) (Or.inl ⟨by rfl, ?_⟩) o1 ?_
       rotate_left 1
       ·(intro w hSw; obtain hSw1 := hSw; go_simp; try with_reducible rfl)
       simp only [Act.put, Pk.sl]
       refine wpAnyH_take (i := 6) (oi := ⟨some 182, _, _, _, _, _⟩) (v := ?_) rfl (by kernel_rfl) (by kernel_rfl) (by kernel_rfl) (fun _ _ _ h => h) (Or.inl ⟨by rfl, ?_⟩) o1 ?_
       rotate_left 1
       ·(intro w hSw; obtain hSw1 := hSw; go_simp; try with_reducible rfl)
       simp only [Act.put, Pk.sl]
       refine wpAnyH_take (i := 7) (oi := ⟨some 183, _, _, _, _, _⟩) (v := ?_) rfl (by kernel_rfl) (by kernel_rfl) (by kernel_rfl) (fun _ _ _ h => h) (Or.inl ⟨by rfl, ?_⟩) o1 ?_
       rotate_left 1
       ·(intro w hSw; obtain hSw1 := hSw; go_simp; try with_reducible rfl)
       simp only [Act.put, Pk.sl]
       refine wpAnyH_take (i := 8) (oi := ⟨some 184, _, _, _, _, _⟩) (v := ?_) rfl (by kernel_rfl) (by kernel_rfl) (by kernel_rfl) (fun _ _ _ h => h) (Or.inl ⟨by rfl, ?_⟩) o1 ?_
       rotate_left 1
       ·(intro w hSw; obtain hSw1 := hSw; go_simp; try with_reducible rfl)
       simp only [Act.put, Pk.sl]
       refine wpAnyH_ready (rs := [3]) (by kernel_rfl) (by simp) ?_
       refine AllReadyH.cons (o := ⟨some 179, _, _, _, _, _⟩) rfl (fun K hK => ?_) AllReadyH.nil
       go_simp
       refine (HC.out).mono ?_
       rintro r w6 ⟨pp, rfl, hf6, hb6⟩
       have hb6d := drew_below hb6
       have HJ6 := hide (HP.out.below hb6d)
       have HE6 := hide hf6
       have hS6 : w6.cell? ⟨gb, 1, none⟩ = some (.int .i64 nn) := cell_of HJ6.out.obj rfl
       clear hf6 hb6 hb6d
       refine hK.out _ _ hS6 (fun hHeld => ?_)
       clear hK K
       clear hHeld
       refine wpAnyH_ready (rs := [9]) (by kernel_rfl) (by simp) ?_
       refine AllReadyH.cons (o := ⟨some 185, _, _, _, _, _⟩) rfl (fun K hK => ?_) AllReadyH.nil
       go_simp
       refine (HJ6.out.rcheck_no hi.out (by have := HUN.out; exact this)).mono ?_
       rintro r w7 ⟨rfl, hb7⟩
       have HJ7 := hide (HJ6.out.below hb7)
       have HE7 := hide (HE6.out.below hb7)
       have hS7 : w7.cell? ⟨gb, 1, none⟩ = some (.int .i64 nn) := cell_of HJ7.out.obj rfl
       clear hb7 HJ6 HE6
       refine hK.out _ _ hS7 (fun hHeld => ?_)
       clear hK K
       clear hHeld
       refine wpAnyH_ready (rs := [10]) (by kernel_rfl) (by simp) ?_
       refine AllReadyH.cons (o := ⟨some 186, _, _, _, _, _⟩) rfl (fun K hK => ?_) AllReadyH.nil
       go_simp
       refine (place_flt (HJ7.out.ety HY.out) HE7.out (by decide)).mono ?_
       rintro r wt ⟨rfl, hbt⟩
       have HT2 := hide (HJ7.out.below hbt)
       have hSt : wt.cell? ⟨gb, 1, none⟩ = some (.int .i64 nn) := cell_of HT2.out.obj rfl
       clear hbt HJ7 HE7
       refine hK.out _ _ hSt (fun hHeld => ?_)
       clear hK K
       clear hHeld
       refine wpAnyH_take (i := 11) (oi := ⟨some 187, _, _, _, _, _⟩) (v := ?_) rfl (by kernel_rfl) (by kernel_rfl) (by kernel_rfl) (fun _ _ _ h => h) (Or.inl ⟨by rfl, ?_⟩) hSt ?_
       rotate_left 1
       ·(intro w hSw; obtain hSw1 := hSw; go_simp; try with_reducible rfl)
       simp only [Act.put, Pk.sl]
       refine wpAnyH_done (by kernel_rfl) ?_ _
       clear hSt
       have HT := HT2
       clear HT2
       have HT80 := hide HT.out.drew
       obtain ⟨A2, c2, B2, d2, k1, k6, ha, k1q⟩ := HT80.out.cells
       obtain ⟨el, hel⟩ : ∃ el, E.length = el := ⟨_, rfl⟩
       obtain ⟨ll, hll⟩ : ∃ ll, L.length = ll := ⟨_, rfl⟩
       obtain ⟨nx, hnx⟩ : ∃ nx, h.f + E.length = nx := ⟨_, rfl⟩
       have Hel := hide hel
       have Hll := hide (show ((L.length : Nat) : Int) = (ll : Int) by rw [hll])
       have Hnx := hide hnx
       rw [hel] at k6
       rw [hll] at k1q
       have HA80 := hide ha
       have hS80 := And.intro k1 (And.intro k6 k1q)
       clear k1 k6 ha k1q hel hll hnx HT
       go_wp2
       refine wp_region_held (S := (fun W => W.cell? ⟨rv, 1, none⟩ = some (.pointer (some ⟨p2, 0, none⟩)) ∧ W.cell? ⟨p2, 6, none⟩ = some (.slice A2 el c2) ∧ W.cell? ⟨q2, 1, none⟩ = some (.slice B2 ll d2))) (by kernel_rfl) ?_
       change wpAnyH _ _ _ _ _ _ _ _ (World.drew _)
       refine wpAnyH_take (i := 0) (oi := ⟨some 216, _, _, _, _, _⟩) (v := ?_) rfl (by kernel_rfl) (by kernel_rfl) (by kernel_rfl) (fun _ _ _ h => h) (Or.inl ⟨by rfl, ?_⟩) hS80 ?_
       rotate_left 1
       ·(intro w hSw; obtain ⟨hSw1, hSw2, hSw3⟩ := hSw; go_simp; try with_reducible rfl)
       simp only [Act.put, Pk.sl]
       refine wpAnyH_take (i := 2) (oi := ⟨some 218, _, _, _, _, _⟩) (v := ?_) rfl (by kernel_rfl) (by kernel_rfl) (by kernel_rfl) (fun _ _ _ h => h) (Or.inl ⟨by rfl, ?_⟩) hS80 ?_
       rotate_left 1
       ·(intro w hSw; obtain ⟨hSw1, hSw2, hSw3⟩ := hSw; go_simp; try with_reducible rfl)
       simp only [Act.put, Pk.sl]
       refine wpAnyH_take (i := 3) (oi := ⟨some 219, _, _, _, _, _⟩) (v := ?_) rfl (by kernel_rfl) (by kernel_rfl) (by kernel_rfl) (fun _ _ _ h => h) (Or.inl ⟨by rfl, ?_⟩) hS80 ?_
       rotate_left 1
       ·(intro w hSw; obtain ⟨hSw1, hSw2, hSw3⟩ := hSw; go_simp; try with_reducible rfl)
       simp only [Act.put, Pk.sl]
       refine wpAnyH_take (i := 4) (oi := ⟨some 220, _, _, _, _, _⟩) (v := ?_) rfl (by kernel_rfl) (by kernel_rfl) (by kernel_rfl) (fun _ _ _ h => h) (Or.inl ⟨by rfl, ?_⟩) hS80 ?_
       rotate_left 1
       ·(intro w hSw; obtain ⟨hSw1, hSw2, hSw3⟩ := hSw; go_simp; try with_reducible rfl)
       simp only [Act.put, Pk.sl]
       refine wpAnyH_take (i := 5) (oi := ⟨some 221, _, _, _, _, _⟩) (v := ?_) rfl (by kernel_rfl) (by kernel_rfl) (by kernel_rfl) (fun _ _ _ h => h) (Or.inl ⟨by rfl, ?_⟩) hS80 ?_
       rotate_left 1
       ·(intro w hSw; obtain ⟨hSw1, hSw2, hSw3⟩ := hSw; go_simp; try with_reducible rfl)
       simp only [Act.put, Pk.sl]
       refine wpAnyH_take (i := 6) (oi := ⟨some 222, _, _, _, _, _⟩) (v := ?_) rfl (by kernel_rfl) (by kernel_rfl) (by kernel_rfl) (fun _ _ _ h => h) (Or.inl ⟨by rfl, ?_⟩) hS80 ?_
       rotate_left 1
       ·(intro w hSw; obtain ⟨hSw1, hSw2, hSw3⟩ := hSw; go_simp; try with_reducible rfl)
       simp only [Act.put, Pk.sl]
       refine wpAnyH_take (i := 7) (oi := ⟨some 223, _, _, _, _, _⟩) (v := ?_) rfl (by kernel_rfl) (by kernel_rfl) (by kernel_rfl) (fun _ _ _ h => h) (Or.inl ⟨by rfl, ?_⟩) hS80 ?_
       rotate_left 1
       ·(intro w hSw; obtain ⟨hSw1, hSw2, hSw3⟩ := hSw; go_simp; try with_reducible rfl)
       simp only [Act.put, Pk.sl]
       refine wpAnyH_take (i := 8) (oi := ⟨some 224, _, _, _, _, _⟩) (v := ?_) rfl (by kernel_rfl) (by kernel_rfl) (by kernel_rfl) (fun _ _ _ h => h) (Or.inl ⟨by rfl, ?_⟩) hS80 ?_
       rotate_left 1
       ·(intro w hSw; obtain ⟨hSw1, hSw2, hSw3⟩ := hSw; go_simp; try with_reducible rfl)
       simp only [Act.put, Pk.sl]
       refine wpAnyH_ready (rs := [1]) (by kernel_rfl) (by simp) ?_
       refine AllReadyH.cons (o := ⟨some 217, _, _, _, _, _⟩) rfl (fun K hK => ?_) AllReadyH.nil
       go_simp
       refine (HT80.out.records (by have := HV.out.vg.jg.few; have := HV.out.lim.n200; omega)).mono ?_
       rintro r w81 ⟨A81, c81, rfl, ha81, hb81⟩
       rw [Hel.out]
       have hS81 : w81.cell? ⟨rv, 1, none⟩ = some (.pointer (some ⟨p2, 0, none⟩)) ∧ w81.cell? ⟨p2, 6, none⟩ = some (.slice A2 el c2) ∧ w81.cell? ⟨q2, 1, none⟩ = some (.slice B2 ll d2) := ⟨(hb81.cell (p := ⟨rv, 1, none⟩) (World.block_lt_of_cell? _ _ hS80.1)).trans hS80.1, (hb81.cell (p := ⟨p2, 6, none⟩) (World.block_lt_of_cell? _ _ hS80.2.1)).trans hS80.2.1, (hb81.cell (p := ⟨q2, 1, none⟩) (World.block_lt_of_cell? _ _ hS80.2.2)).trans hS80.2.2⟩
       have HT81 := hide (HT80.out.below hb81)
       have HA81 := hide ha81
       have HA2 := hide (HA80.out.below hb81)
       clear ha81 hb81
       refine hK.out _ _ hS81 (fun hHeld => ?_)
       clear hK K
       clear hHeld
       refine wpAnyH_ready (rs := [9]) (by kernel_rfl) (by simp) ?_
       refine AllReadyH.cons (o := ⟨some 225, _, _, _, _, _⟩) rfl (fun K hK => ?_) AllReadyH.nil
       go_simp
       refine (Same_two w81 _ el A81 A2 c81 c2 Hel.out (by have := Hel.out; have := HV.out.vg.jg.few; have := HV.out.lim.n200; omega) HA81.out HA2.out).mono ?_
       rintro r w82 ⟨rfl, hb82⟩
       have hS82 : w82.cell? ⟨rv, 1, none⟩ = some (.pointer (some ⟨p2, 0, none⟩)) ∧ w82.cell? ⟨p2, 6, none⟩ = some (.slice A2 el c2) ∧ w82.cell? ⟨q2, 1, none⟩ = some (.slice B2 ll d2) := ⟨(hb82.cell (p := ⟨rv, 1, none⟩) (World.block_lt_of_cell? _ _ hS81.1)).trans hS81.1, (hb82.cell (p := ⟨p2, 6, none⟩) (World.block_lt_of_cell? _ _ hS81.2.1)).trans hS81.2.1, (hb82.cell (p := ⟨q2, 1, none⟩) (World.block_lt_of_cell? _ _ hS81.2.2)).trans hS81.2.2⟩
       have HT82 := hide (HT81.out.below hb82)
       clear hb82 HA81 HA2
       refine hK.out _ _ hS82 (fun hHeld => ?_)
       clear hK K
       clear hHeld
       refine wpAnyH_take (i := 10) (oi := ⟨some 226, _, _, _, _, _⟩) (v := ?_) rfl (by kernel_rfl) (by kernel_rfl) (by kernel_rfl) (fun _ _ _ h => h) (Or.inl ⟨by rfl, ?_⟩) hS82 ?_
       rotate_left 1
       ·(intro w hSw; obtain ⟨hSw1, hSw2, hSw3⟩ := hSw; go_simp; try with_reducible rfl)
       simp only [Act.put, Pk.sl]
       refine wpAnyH_take (i := 11) (oi := ⟨some 227, _, _, _, _, _⟩) (v := ?_) rfl (by kernel_rfl) (by kernel_rfl) (by kernel_rfl) (fun _ _ _ h => h) (Or.inl ⟨by rfl, ?_⟩) hS82 ?_
       rotate_left 1
       ·(intro w hSw; obtain ⟨hSw1, hSw2, hSw3⟩ := hSw; go_simp; try with_reducible rfl)
       simp only [Act.put, Pk.sl]
       refine wpAnyH_take (i := 12) (oi := ⟨some 228, _, _, _, _, _⟩) (v := ?_) rfl (by kernel_rfl) (by kernel_rfl) (by kernel_rfl) (fun _ _ _ h => h) (Or.inl ⟨by rfl, ?_⟩) hS82 ?_
       rotate_left 1
       ·(intro w hSw; obtain ⟨hSw1, hSw2, hSw3⟩ := hSw; go_simp; try with_reducible rfl)
       simp only [Act.put, Pk.sl]
       refine wpAnyH_take (i := 14) (oi := ⟨some 230, _, _, _, _, _⟩) (v := ?_) rfl (by kernel_rfl) (by kernel_rfl) (by kernel_rfl) (fun _ _ _ h => h) (Or.inl ⟨by rfl, ?_⟩) hS82 ?_
       rotate_left 1
       ·(intro w hSw; obtain ⟨hSw1, hSw2, hSw3⟩ := hSw; go_simp; try with_reducible rfl)
       simp only [Act.put, Pk.sl]
       refine wpAnyH_take (i := 15) (oi := ⟨some 231, _, _, _, _, _⟩) (v := ?_) rfl (by kernel_rfl) (by kernel_rfl) (by kernel_rfl) (fun _ _ _ h => h) (Or.inl ⟨by rfl, ?_⟩) hS82 ?_
       rotate_left 1
       ·(intro w hSw; obtain ⟨hSw1, hSw2, hSw3⟩ := hSw; go_simp; try with_reducible rfl)
       simp only [Act.put, Pk.sl]
       refine wpAnyH_take (i := 16) (oi := ⟨some 232, _, _, _, _, _⟩) (v := ?_) rfl (by kernel_rfl) (by kernel_rfl) (by kernel_rfl) (fun _ _ _ h => h) (Or.inl ⟨by rfl, ?_⟩) hS82 ?_
       rotate_left 1
       ·(intro w hSw; obtain ⟨hSw1, hSw2, hSw3⟩ := hSw; go_simp; try with_reducible rfl)
       simp only [Act.put, Pk.sl]
       refine wpAnyH_take (i := 17) (oi := ⟨some 233, _, _, _, _, _⟩) (v := ?_) rfl (by kernel_rfl) (by kernel_rfl) (by kernel_rfl) (fun _ _ _ h => h) (Or.inl ⟨by rfl, ?_⟩) hS82 ?_
       rotate_left 1
       ·(intro w hSw; obtain ⟨hSw1, hSw2, hSw3⟩ := hSw; go_simp; try with_reducible rfl)
       simp only [Act.put, Pk.sl]
       refine wpAnyH_ready (rs := [13]) (by kernel_rfl) (by simp) ?_
       refine AllReadyH.cons (o := ⟨some 229, _, _, _, _, _⟩) rfl (fun K hK => ?_) AllReadyH.nil
       go_simp
       refine (HT82.out.next (by have := HV.out.lim.f; have := HV.out.lim.T; omega) (by have := HV.out.vg.jg.few; have := HV.out.lim.n200; omega)).mono ?_
       rintro r w83 ⟨rfl, hb83⟩
       rw [Hnx.out]
       have hS83 : w83.cell? ⟨rv, 1, none⟩ = some (.pointer (some ⟨p2, 0, none⟩)) ∧ w83.cell? ⟨p2, 6, none⟩ = some (.slice A2 el c2) ∧ w83.cell? ⟨q2, 1, none⟩ = some (.slice B2 ll d2) := ⟨(hb83.cell (p := ⟨rv, 1, none⟩) (World.block_lt_of_cell? _ _ hS82.1)).trans hS82.1, (hb83.cell (p := ⟨p2, 6, none⟩) (World.block_lt_of_cell? _ _ hS82.2.1)).trans hS82.2.1, (hb83.cell (p := ⟨q2, 1, none⟩) (World.block_lt_of_cell? _ _ hS82.2.2)).trans hS82.2.2⟩
       have HT83 := hide (HT82.out.below hb83)
       clear hb83
       refine hK.out _ _ hS83 (fun hHeld => ?_)
       clear hK K
       clear hHeld
       refine wpAnyH_ready (rs := [18]) (by kernel_rfl) (by simp) ?_
       refine AllReadyH.cons (o := ⟨some 234, _, _, _, _, _⟩) rfl (fun K hK => ?_) AllReadyH.nil
       go_simp
       refine (HT83.out.rnext (by have := HV.out.lim.f; have := HV.out.lim.T; omega) (by have := HV.out.vg.jg.few; have := HV.out.lim.n200; omega)).mono ?_
       rintro r w84 ⟨rfl, hb84⟩
       rw [Hnx.out]
       have hS84 : w84.cell? ⟨rv, 1, none⟩ = some (.pointer (some ⟨p2, 0, none⟩)) ∧ w84.cell? ⟨p2, 6, none⟩ = some (.slice A2 el c2) ∧ w84.cell? ⟨q2, 1, none⟩ = some (.slice B2 ll d2) := ⟨(hb84.cell (p := ⟨rv, 1, none⟩) (World.block_lt_of_cell? _ _ hS83.1)).trans hS83.1, (hb84.cell (p := ⟨p2, 6, none⟩) (World.block_lt_of_cell? _ _ hS83.2.1)).trans hS83.2.1, (hb84.cell (p := ⟨q2, 1, none⟩) (World.block_lt_of_cell? _ _ hS83.2.2)).trans hS83.2.2⟩
       have HT84 := hide (HT83.out.below hb84)
       clear hb84
       refine hK.out _ _ hS84 (fun hHeld => ?_)
       clear hK K
       clear hHeld
       refine wpAnyH_take (i := 19) (oi := ⟨some 235, _, _, _, _, _⟩) (v := ?_) rfl (by kernel_rfl) (by kernel_rfl) (by kernel_rfl) (fun _ _ _ h => h) (Or.inl ⟨by rfl, ?_⟩) hS84 ?_
       rotate_left 1
       ·(intro w hSw; obtain ⟨hSw1, hSw2, hSw3⟩ := hSw; go_simp; try with_reducible rfl)
       simp only [Act.put, Pk.sl]
       refine wpAnyH_take (i := 20) (oi := ⟨some 236, _, _, _, _, _⟩) (v := ?_) rfl (by kernel_rfl) (by kernel_rfl) (by kernel_rfl) (fun _ _ _ h => h) (Or.inl ⟨by rfl, ?_⟩) hS84 ?_
       rotate_left 1
       ·(intro w hSw; obtain ⟨hSw1, hSw2, hSw3⟩ := hSw; go_simp; try with_reducible rfl)
       simp only [Act.put, Pk.sl]
       refine wpAnyH_take (i := 21) (oi := ⟨some 237, _, _, _, _, _⟩) (v := ?_) rfl (by kernel_rfl) (by kernel_rfl) (by kernel_rfl) (fun _ _ _ h => h) (Or.inl ⟨by rfl, ?_⟩) hS84 ?_
       rotate_left 1
       ·(intro w hSw; obtain ⟨hSw1, hSw2, hSw3⟩ := hSw; go_simp; try with_reducible rfl)
       simp only [Act.put, Pk.sl]
       refine wpAnyH_take (i := 22) (oi := ⟨some 238, _, _, _, _, _⟩) (v := ?_) rfl (by kernel_rfl) (by kernel_rfl) (by kernel_rfl) (fun _ _ _ h => h) (Or.inl ⟨by rfl, ?_⟩) hS84 ?_
       rotate_left 1
       ·(intro w hSw; obtain ⟨hSw1, hSw2, hSw3⟩ := hSw; go_simp; try with_reducible rfl)
       simp only [Act.put, Pk.sl]
       refine wpAnyH_take (i := 24) (oi := ⟨some 240, _, _, _, _, _⟩) (v := ?_) rfl (by kernel_rfl) (by kernel_rfl) (by kernel_rfl) (fun _ _ _ h => h) (Or.inl ⟨by rfl, ?_⟩) hS84 ?_
       rotate_left 1
       ·(intro w hSw; obtain ⟨hSw1, hSw2, hSw3⟩ := hSw; go_simp; try with_reducible rfl)
       simp only [Act.put, Pk.sl]
       refine wpAnyH_take (i := 25) (oi := ⟨some 241, _, _, _, _, _⟩) (v := ?_) rfl (by kernel_rfl) (by kernel_rfl) (by kernel_rfl) (fun _ _ _ h => h) (Or.inl ⟨by rfl, ?_⟩) hS84 ?_
       rotate_left 1
       ·(intro w hSw; obtain ⟨hSw1, hSw2, hSw3⟩ := hSw; go_simp; try with_reducible rfl)
       simp only [Act.put, Pk.sl]
       refine wpAnyH_take (i := 26) (oi := ⟨some 242, _, _, _, _, _⟩) (v := ?_) rfl (by kernel_rfl) (by kernel_rfl) (by kernel_rfl) (fun _ _ _ h => h) (Or.inl ⟨by rfl, ?_⟩) hS84 ?_
       rotate_left 1
       ·(intro w hSw; obtain ⟨hSw1, hSw2, hSw3⟩ := hSw; go_simp; try with_reducible rfl)
       simp only [Act.put, Pk.sl]
       refine wpAnyH_take (i := 27) (oi := ⟨some 243, _, _, _, _, _⟩) (v := ?_) rfl (by kernel_rfl) (by kernel_rfl) (by kernel_rfl) (fun _ _ _ h => h) (Or.inl ⟨by rfl, ?_⟩) hS84 ?_
       rotate_left 1
       ·(intro w hSw; obtain ⟨hSw1, hSw2, hSw3⟩ := hSw; go_simp; try with_reducible rfl)
       simp only [Act.put, Pk.sl]
       refine wpAnyH_take (i := 28) (oi := ⟨some 244, _, _, _, _, _⟩) (v := ?_) rfl (by kernel_rfl) (by kernel_rfl) (by kernel_rfl) (fun _ _ _ h => h) (Or.inl ⟨by rfl, ?_⟩) hS84 ?_
       rotate_left 1
       ·(intro w hSw; obtain ⟨hSw1, hSw2, hSw3⟩ := hSw; go_simp; try with_reducible rfl)
       simp only [Act.put, Pk.sl]
       refine wpAnyH_ready (rs := [23]) (by kernel_rfl) (by simp) ?_
       refine AllReadyH.cons (o := ⟨some 239, _, _, _, _, _⟩) rfl (fun K hK => ?_) AllReadyH.nil
       go_simp
       refine (HT84.out.loose).mono ?_
       rintro r w85 ⟨rfl, rfl⟩
       rw [Hll.out]
       refine hK.out _ _ hS84 (fun hHeld => ?_)
       clear hK K
       clear hHeld
       refine wpAnyH_take (i := 29) (oi := ⟨some 245, _, _, _, _, _⟩) (v := ?_) rfl (by kernel_rfl) (by kernel_rfl) (by kernel_rfl) (fun _ _ _ h => h) (Or.inl ⟨by rfl, ?_⟩) hS84 ?_
       rotate_left 1
       ·(intro w hSw; obtain ⟨hSw1, hSw2, hSw3⟩ := hSw; go_simp; try with_reducible rfl)
       simp only [Act.put, Pk.sl]
       refine wpAnyH_take (i := 30) (oi := ⟨some 246, _, _, _, _, _⟩) (v := ?_) rfl (by kernel_rfl) (by kernel_rfl) (by kernel_rfl) (fun _ _ _ h => h) (Or.inl ⟨by rfl, ?_⟩) hS84 ?_
       rotate_left 1
       ·(intro w hSw; obtain ⟨hSw1, hSw2, hSw3⟩ := hSw; go_simp; try with_reducible rfl)
       simp only [Act.put, Pk.sl]
       refine wpAnyH_done (by kernel_rfl) ?_ _
       clear hS80 hS81 hS82 hS83 hS84 HA80
       go_wp2
       go_roundw
       case rel => exact ⟨k + 1, v, p, rv, p2, _, _, _, _, _, _, _, _, Hlt.out, rfl, rfl, by go_num, by rw [show 1 + (k + 1) = 1 + k + 1 by omega]; exact HV, HT84⟩
       case measure => have := Hlt.out; simp [intOf]; omega
    by_cases k6 : kd = 6
    ·subst k6
     clear k1 k2 k3 k4 k5
     as_aux_lemma =>
      have hkp : kp < 18446744073709551616 := HFX.out.2.2.2
      obtain ⟨i, hcur, hld, hlen, hv⟩ := hi.out.crash HK80.out kp
      have HV := hide hv
      have HCL := hide (And.intro hcur (And.intro hld hlen))
      have HKP := hide hkp
      clear hv hcur hld hlen hkp
      go_wp2_with fail
      refine (HP.out.crash kp HKP.out (by have := hi.out.short; omega)).mono ?_
      rintro r w6 ⟨rfl, hj6⟩
      have HJ6 := hide hj6
      have x3_w6 : w6.cell? ⟨gb, 3, none⟩ = some (.int .u64 kp) := cell_of HJ6.out.obj rfl
      clear hj6 HP o0 o1 o2 o3
      go_wp2_with fail
      refine (HJ6.out.rcrash kp HKP.out (by have := hi.out.short; omega)).mono ?_
      rintro r w7 ⟨rfl, hj7⟩
      have HJ7 := hide hj7
      clear hj7 HJ6 x3_w6
      go_wp2_with fail
      refine (HJ7.out.open HT.out HNN.out.1 (by have := HNN.out.2; omega) (by have := HCL.out.2.2; omega) HCL.out.1 HCL.out.2.1 HV.out.told).mono ?_
      rintro r w8 ⟨v8, p8, rfl, hj8⟩
      have HJ8 := hide hj8
      clear hj8
      go_wp2_with fail
      refine (HJ8.out.ropen HNN.out.1 (by have := HNN.out.2; omega) (by have := HCL.out.2.2; omega) (by have := HCL.out.2.2; have := HNN.out.2; omega) HJ7.out.full HCL.out.1 HCL.out.2.1 HV.out.told).mono ?_
      rintro r wt ⟨rv8, p28, rfl, hj9⟩
      have HT := hide hj9
      clear hj9 HJ8 HJ7
      have HT80 := hide HT.out.drew
      obtain ⟨A2, c2, B2, d2, k1, k6, ha, k1q⟩ := HT80.out.cells
      obtain ⟨el, hel⟩ : ∃ el, (E.take i).length = el := ⟨_, rfl⟩
      obtain ⟨ll, hll⟩ : ∃ ll, ([] : List Wr).length = ll := ⟨_, rfl⟩
      obtain ⟨nx, hnx⟩ : ∃ nx, (oph h).f + (E.take i).length = nx := ⟨_, rfl⟩
      have Hel := hide hel
      have Hll := hide (show ((([] : List Wr).length : Nat) : Int) = (ll : Int) by rw [hll])
      have Hnx := hide hnx
      rw [hel] at k6
      rw [hll] at k1q
      have HA80 := hide ha
      have hS80 := And.intro k1 (And.intro k6 k1q)
      clear k1 k6 ha k1q hel hll hnx HT
      go_wp2
      refine wp_region_held (S := (fun W => W.cell? ⟨rv8, 1, none⟩ = some (.pointer (some ⟨p28, 0, none⟩)) ∧ W.cell? ⟨p28, 6, none⟩ = some (.slice A2 el c2) ∧ W.cell? ⟨q2, 1, none⟩ = some (.slice B2 ll d2))) (by kernel_rfl) ?_
      change wpAnyH _ _ _ _ _ _ _ _ (World.drew _)
      refine wpAnyH_take (i := 0) (oi := ⟨some 216, _, _, _, _, _⟩) (v := ?_) rfl (by kernel_rfl) (by kernel_rfl) (by kernel_rfl) (fun _ _ _ h => h) (Or.inl ⟨by rfl, ?_⟩) hS80 ?_
      rotate_left 1
      ·(intro w hSw; obtain ⟨hSw1, hSw2, hSw3⟩ := hSw; go_simp; try with_reducible rfl)
      simp only [Act.put, Pk.sl]
      refine wpAnyH_take (i := 2) (oi := ⟨some 218, _, _, _, _, _⟩) (v := ?_) rfl (by kernel_rfl) (by kernel_rfl) (by kernel_rfl) (fun _ _ _ h => h) (Or.inl ⟨by rfl, ?_⟩) hS80 ?_
      rotate_left 1
      ·(intro w hSw; obtain ⟨hSw1, hSw2, hSw3⟩ := hSw; go_simp; try with_reducible rfl)
      simp only [Act.put, Pk.sl]
      refine wpAnyH_take (i := 3) (oi := ⟨some 219, _, _, _, _, _⟩) (v := ?_) rfl (by kernel_rfl) (by kernel_rfl) (by kernel_rfl) (fun _ _ _ h => h) (Or.inl ⟨by rfl, ?_⟩) hS80 ?_
      rotate_left 1
      ·(intro w hSw; obtain ⟨hSw1, hSw2, hSw3⟩ := hSw; go_simp; try with_reducible rfl)
      simp only [Act.put, Pk.sl]
      refine wpAnyH_take (i := 4) (oi := ⟨some 220, _, _, _, _, _⟩) (v := ?_) rfl (by kernel_rfl) (by kernel_rfl) (by kernel_rfl) (fun _ _ _ h => h) (Or.inl ⟨by rfl, ?_⟩) hS80 ?_
      rotate_left 1
      ·(intro w hSw; obtain ⟨hSw1, hSw2, hSw3⟩ := hSw; go_simp; try with_reducible rfl)
      simp only [Act.put, Pk.sl]
      refine wpAnyH_take (i := 5) (oi := ⟨some 221, _, _, _, _, _⟩) (v := ?_) rfl (by kernel_rfl) (by kernel_rfl) (by kernel_rfl) (fun _ _ _ h => h) (Or.inl ⟨by rfl, ?_⟩) hS80 ?_
      rotate_left 1
      ·(intro w hSw; obtain ⟨hSw1, hSw2, hSw3⟩ := hSw; go_simp; try with_reducible rfl)
      simp only [Act.put, Pk.sl]
      refine wpAnyH_take (i := 6) (oi := ⟨some 222, _, _, _, _, _⟩) (v := ?_) rfl (by kernel_rfl) (by kernel_rfl) (by kernel_rfl) (fun _ _ _ h => h) (Or.inl ⟨by rfl, ?_⟩) hS80 ?_
      rotate_left 1
      ·(intro w hSw; obtain ⟨hSw1, hSw2, hSw3⟩ := hSw; go_simp; try with_reducible rfl)
      simp only [Act.put, Pk.sl]
      refine wpAnyH_take (i := 7) (oi := ⟨some 223, _, _, _, _, _⟩) (v := ?_) rfl (by kernel_rfl) (by kernel_rfl) (by kernel_rfl) (fun _ _ _ h => h) (Or.inl ⟨by rfl, ?_⟩) hS80 ?_
      rotate_left 1
      ·(intro w hSw; obtain ⟨hSw1, hSw2, hSw3⟩ := hSw; go_simp; try with_reducible rfl)
      simp only [Act.put, Pk.sl]
      refine wpAnyH_take (i := 8) (oi := ⟨some 224, _, _, _, _, _⟩) (v := ?_) rfl (by kernel_rfl) (by kernel_rfl) (by kernel_rfl) (fun _ _ _ h => h) (Or.inl ⟨by rfl, ?_⟩) hS80 ?_
      rotate_left 1
      ·(intro w hSw; obtain ⟨hSw1, hSw2, hSw3⟩ := hSw; go_simp; try with_reducible rfl)
      simp only [Act.put, Pk.sl]
      refine wpAnyH_ready (rs := [1]) (by kernel_rfl) (by simp) ?_
      refine AllReadyH.cons (o := ⟨some 217, _, _, _, _, _⟩) rfl (fun K hK => ?_) AllReadyH.nil
      go_simp
      refine (HT80.out.records (by have := HV.out.vg.jg.few; have := HV.out.lim.n200; omega)).mono ?_
      rintro r w81 ⟨A81, c81, rfl, ha81, hb81⟩
      rw [Hel.out]
      have hS81 : w81.cell? ⟨rv8, 1, none⟩ = some (.pointer (some ⟨p28, 0, none⟩)) ∧ w81.cell? ⟨p28, 6, none⟩ = some (.slice A2 el c2) ∧ w81.cell? ⟨q2, 1, none⟩ = some (.slice B2 ll d2) := ⟨(hb81.cell (p := ⟨rv8, 1, none⟩) (World.block_lt_of_cell? _ _ hS80.1)).trans hS80.1, (hb81.cell (p := ⟨p28, 6, none⟩) (World.block_lt_of_cell? _ _ hS80.2.1)).trans hS80.2.1, (hb81.cell (p := ⟨q2, 1, none⟩) (World.block_lt_of_cell? _ _ hS80.2.2)).trans hS80.2.2⟩
      have HT81 := hide (HT80.out.below hb81)
      have HA81 := hide ha81
      have HA2 := hide (HA80.out.below hb81)
      clear ha81 hb81
      refine hK.out _ _ hS81 (fun hHeld => ?_)
      clear hK K
      clear hHeld
      refine wpAnyH_ready (rs := [9]) (by kernel_rfl) (by simp) ?_
      refine AllReadyH.cons (o := ⟨some 225, _, _, _, _, _⟩) rfl (fun K hK => ?_) AllReadyH.nil
      go_simp
      refine (Same_two w81 _ el A81 A2 c81 c2 Hel.out (by have := Hel.out; have := HV.out.vg.jg.few; have := HV.out.lim.n200; omega) HA81.out HA2.out).mono ?_
      rintro r w82 ⟨rfl, hb82⟩
      have hS82 : w82.cell? ⟨rv8, 1, none⟩ = some (.pointer (some ⟨p28, 0, none⟩)) ∧ w82.cell? ⟨p28, 6, none⟩ = some (.slice A2 el c2) ∧ w82.cell? ⟨q2, 1, none⟩ = some (.slice B2 ll d2) := ⟨(hb82.cell (p := ⟨rv8, 1, none⟩) (World.block_lt_of_cell? _ _ hS81.1)).trans hS81.1, (hb82.cell (p := ⟨p28, 6, none⟩) (World.block_lt_of_cell? _ _ hS81.2.1)).trans hS81.2.1, (hb82.cell (p := ⟨q2, 1, none⟩) (World.block_lt_of_cell? _ _ hS81.2.2)).trans hS81.2.2⟩
      have HT82 := hide (HT81.out.below hb82)
      clear hb82 HA81 HA2
      refine hK.out _ _ hS82 (fun hHeld => ?_)
      clear hK K
      clear hHeld
      refine wpAnyH_take (i := 10) (oi := ⟨some 226, _, _, _, _, _⟩) (v := ?_) rfl (by kernel_rfl) (by kernel_rfl) (by kernel_rfl) (fun _ _ _ h => h) (Or.inl ⟨by rfl, ?_⟩) hS82 ?_
      rotate_left 1
      ·(intro w hSw; obtain ⟨hSw1, hSw2, hSw3⟩ := hSw; go_simp; try with_reducible rfl)
      simp only [Act.put, Pk.sl]
      refine wpAnyH_take (i := 11) (oi := ⟨some 227, _, _, _, _, _⟩) (v := ?_) rfl (by kernel_rfl) (by kernel_rfl) (by kernel_rfl) (fun _ _ _ h => h) (Or.inl ⟨by rfl, ?_⟩) hS82 ?_
      rotate_left 1
      ·(intro w hSw; obtain ⟨hSw1, hSw2, hSw3⟩ := hSw; go_simp; try with_reducible rfl)
      simp only [Act.put, Pk.sl]
      refine wpAnyH_take (i := 12) (oi := ⟨some 228, _, _, _, _, _⟩) (v := ?_) rfl (by kernel_rfl) (by kernel_rfl) (by kernel_rfl) (fun _ _ _ h => h) (Or.inl ⟨by rfl, ?_⟩) hS82 ?_
      rotate_left 1
      ·(intro w hSw; obtain ⟨hSw1, hSw2, hSw3⟩ := hSw; go_simp; try with_reducible rfl)
      simp only [Act.put, Pk.sl]
      refine wpAnyH_take (i := 14) (oi := ⟨some 230, _, _, _, _, _⟩) (v := ?_) rfl (by kernel_rfl) (by kernel_rfl) (by kernel_rfl) (fun _ _ _ h => h) (Or.inl ⟨by rfl, ?_⟩) hS82 ?_
      rotate_left 1
      ·(intro w hSw; obtain ⟨hSw1, hSw2, hSw3⟩ := hSw; go_simp; try with_reducible rfl)
      simp only [Act.put, Pk.sl]
      refine wpAnyH_take (i := 15) (oi := ⟨some 231, _, _, _, _, _⟩) (v := ?_) rfl (by kernel_rfl) (by kernel_rfl) (by kernel_rfl) (fun _ _ _ h => h) (Or.inl ⟨by rfl, ?_⟩) hS82 ?_
      rotate_left 1
      ·(intro w hSw; obtain ⟨hSw1, hSw2, hSw3⟩ := hSw; go_simp; try with_reducible rfl)
      simp only [Act.put, Pk.sl]
      refine wpAnyH_take (i := 16) (oi := ⟨some 232, _, _, _, _, _⟩) (v := ?_) rfl (by kernel_rfl) (by kernel_rfl) (by kernel_rfl) (fun _ _ _ h => h) (Or.inl ⟨by rfl, ?_⟩) hS82 ?_
      rotate_left 1
      ·(intro w hSw; obtain ⟨hSw1, hSw2, hSw3⟩ := hSw; go_simp; try with_reducible rfl)
      simp only [Act.put, Pk.sl]
      refine wpAnyH_take (i := 17) (oi := ⟨some 233, _, _, _, _, _⟩) (v := ?_) rfl (by kernel_rfl) (by kernel_rfl) (by kernel_rfl) (fun _ _ _ h => h) (Or.inl ⟨by rfl, ?_⟩) hS82 ?_
      rotate_left 1
      ·(intro w hSw; obtain ⟨hSw1, hSw2, hSw3⟩ := hSw; go_simp; try with_reducible rfl)
      simp only [Act.put, Pk.sl]
      refine wpAnyH_ready (rs := [13]) (by kernel_rfl) (by simp) ?_
      refine AllReadyH.cons (o := ⟨some 229, _, _, _, _, _⟩) rfl (fun K hK => ?_) AllReadyH.nil
      go_simp
      refine (HT82.out.next (by have := HV.out.lim.f; have := HV.out.lim.T; omega) (by have := HV.out.vg.jg.few; have := HV.out.lim.n200; omega)).mono ?_
      rintro r w83 ⟨rfl, hb83⟩
      rw [Hnx.out]
      have hS83 : w83.cell? ⟨rv8, 1, none⟩ = some (.pointer (some ⟨p28, 0, none⟩)) ∧ w83.cell? ⟨p28, 6, none⟩ = some (.slice A2 el c2) ∧ w83.cell? ⟨q2, 1, none⟩ = some (.slice B2 ll d2) := ⟨(hb83.cell (p := ⟨rv8, 1, none⟩) (World.block_lt_of_cell? _ _ hS82.1)).trans hS82.1, (hb83.cell (p := ⟨p28, 6, none⟩) (World.block_lt_of_cell? _ _ hS82.2.1)).trans hS82.2.1, (hb83.cell (p := ⟨q2, 1, none⟩) (World.block_lt_of_cell? _ _ hS82.2.2)).trans hS82.2.2⟩
      have HT83 := hide (HT82.out.below hb83)
      clear hb83
      refine hK.out _ _ hS83 (fun hHeld => ?_)
      clear hK K
      clear hHeld
      refine wpAnyH_ready (rs := [18]) (by kernel_rfl) (by simp) ?_
      refine AllReadyH.cons (o := ⟨some 234, _, _, _, _, _⟩) rfl (fun K hK => ?_) AllReadyH.nil
      go_simp
      refine (HT83.out.rnext (by have := HV.out.lim.f; have := HV.out.lim.T; omega) (by have := HV.out.vg.jg.few; have := HV.out.lim.n200; omega)).mono ?_
      rintro r w84 ⟨rfl, hb84⟩
      rw [Hnx.out]
      have hS84 : w84.cell? ⟨rv8, 1, none⟩ = some (.pointer (some ⟨p28, 0, none⟩)) ∧ w84.cell? ⟨p28, 6, none⟩ = some (.slice A2 el c2) ∧ w84.cell? ⟨q2, 1, none⟩ = some (.slice B2 ll d2) := ⟨(hb84.cell (p := ⟨rv8, 1, none⟩) (World.block_lt_of_cell? _ _ hS83.1)).trans hS83.1, (hb84.cell (p := ⟨p28, 6, none⟩) (World.block_lt_of_cell? _ _ hS83.2.1)).trans hS83.2.1, (hb84.cell (p := ⟨q2, 1, none⟩) (World.block_lt_of_cell? _ _ hS83.2.2)).trans hS83.2.2⟩
      have HT84 := hide (HT83.out.below hb84)
      clear hb84
      refine hK.out _ _ hS84 (fun hHeld => ?_)
      clear hK K
      clear hHeld
      refine wpAnyH_take (i := 19) (oi := ⟨some 235, _, _, _, _, _⟩) (v := ?_) rfl (by kernel_rfl) (by kernel_rfl) (by kernel_rfl) (fun _ _ _ h => h) (Or.inl ⟨by rfl, ?_⟩) hS84 ?_
      rotate_left 1
      ·(intro w hSw; obtain ⟨hSw1, hSw2, hSw3⟩ := hSw; go_simp; try with_reducible rfl)
      simp only [Act.put, Pk.sl]
      refine wpAnyH_take (i := 20) (oi := ⟨some 236, _, _, _, _, _⟩) (v := ?_) rfl (by kernel_rfl) (by kernel_rfl) (by kernel_rfl) (fun _ _ _ h => h) (Or.inl ⟨by rfl, ?_⟩) hS84 ?_
      rotate_left 1
      ·(intro w hSw; obtain ⟨hSw1, hSw2, hSw3⟩ := hSw; go_simp; try with_reducible rfl)
      simp only [Act.put, Pk.sl]
      refine wpAnyH_take (i := 21) (oi := ⟨some 237, _, _, _, _, _⟩) (v := ?_) rfl (by kernel_rfl) (by kernel_rfl) (by kernel_rfl) (fun _ _ _ h => h) (Or.inl ⟨by rfl, ?_⟩) hS84 ?_
      rotate_left 1
      ·(intro w hSw; obtain ⟨hSw1, hSw2, hSw3⟩ := hSw; go_simp; try with_reducible rfl)
      simp only [Act.put, Pk.sl]
      refine wpAnyH_take (i := 22) (oi := ⟨some 238, _, _, _, _, _⟩) (v := ?_) rfl (by kernel_rfl) (by kernel_rfl) (by kernel_rfl) (fun _ _ _ h => h) (Or.inl ⟨by rfl, ?_⟩) hS84 ?_
      rotate_left 1
      ·(intro w hSw; obtain ⟨hSw1, hSw2, hSw3⟩ := hSw; go_simp; try with_reducible rfl)
      simp only [Act.put, Pk.sl]
      refine wpAnyH_take (i := 24) (oi := ⟨some 240, _, _, _, _, _⟩) (v := ?_) rfl (by kernel_rfl) (by kernel_rfl) (by kernel_rfl) (fun _ _ _ h => h) (Or.inl ⟨by rfl, ?_⟩) hS84 ?_
      rotate_left 1
      ·(intro w hSw; obtain ⟨hSw1, hSw2, hSw3⟩ := hSw; go_simp; try with_reducible rfl)
      simp only [Act.put, Pk.sl]
      refine wpAnyH_take (i := 25) (oi := ⟨some 241, _, _, _, _, _⟩) (v := ?_) rfl (by kernel_rfl) (by kernel_rfl) (by kernel_rfl) (fun _ _ _ h => h) (Or.inl ⟨by rfl, ?_⟩) hS84 ?_
      rotate_left 1
      ·(intro w hSw; obtain ⟨hSw1, hSw2, hSw3⟩ := hSw; go_simp; try with_reducible rfl)
      simp only [Act.put, Pk.sl]
      refine wpAnyH_take (i := 26) (oi := ⟨some 242, _, _, _, _, _⟩) (v := ?_) rfl (by kernel_rfl) (by kernel_rfl) (by kernel_rfl) (fun _ _ _ h => h) (Or.inl ⟨by rfl, ?_⟩) hS84 ?_
      rotate_left 1
      ·(intro w hSw; obtain ⟨hSw1, hSw2, hSw3⟩ := hSw; go_simp; try with_reducible rfl)
      simp only [Act.put, Pk.sl]
      refine wpAnyH_take (i := 27) (oi := ⟨some 243, _, _, _, _, _⟩) (v := ?_) rfl (by kernel_rfl) (by kernel_rfl) (by kernel_rfl) (fun _ _ _ h => h) (Or.inl ⟨by rfl, ?_⟩) hS84 ?_
      rotate_left 1
      ·(intro w hSw; obtain ⟨hSw1, hSw2, hSw3⟩ := hSw; go_simp; try with_reducible rfl)
      simp only [Act.put, Pk.sl]
      refine wpAnyH_take (i := 28) (oi := ⟨some 244, _, _, _, _, _⟩) (v := ?_) rfl (by kernel_rfl) (by kernel_rfl) (by kernel_rfl) (fun _ _ _ h => h) (Or.inl ⟨by rfl, ?_⟩) hS84 ?_
      rotate_left 1
      ·(intro w hSw; obtain ⟨hSw1, hSw2, hSw3⟩ := hSw; go_simp; try with_reducible rfl)
      simp only [Act.put, Pk.sl]
      refine wpAnyH_ready (rs := [23]) (by kernel_rfl) (by simp) ?_
      refine AllReadyH.cons (o := ⟨some 239, _, _, _, _, _⟩) rfl (fun K hK => ?_) AllReadyH.nil
      go_simp
      refine (HT84.out.loose).mono ?_
      rintro r w85 ⟨rfl, rfl⟩
      rw [Hll.out]
      refine hK.out _ _ hS84 (fun hHeld => ?_)
      clear hK K
      clear hHeld
      refine wpAnyH_take (i := 29) (oi := ⟨some 245, _, _, _, _, _⟩) (v := ?_) rfl (by kernel_rfl) (by kernel_rfl) (by kernel_rfl) (fun _ _ _ h => h) (Or.inl ⟨by rfl, ?_⟩) hS84 ?_
      rotate_left 1
      ·(intro w hSw; obtain ⟨hSw1, hSw2, hSw3⟩ := hSw; go_simp; try with_reducible rfl)
      simp only [Act.put, Pk.sl]
      refine wpAnyH_take (i := 30) (oi := ⟨some 246, _, _, _, _, _⟩) (v := ?_) rfl (by kernel_rfl) (by kernel_rfl) (by kernel_rfl) (fun _ _ _ h => h) (Or.inl ⟨by rfl, ?_⟩) hS84 ?_
      rotate_left 1
      ·(intro w hSw; obtain ⟨hSw1, hSw2, hSw3⟩ := hSw; go_simp; try with_reducible rfl)
      simp only [Act.put, Pk.sl]
      refine wpAnyH_done (by kernel_rfl) ?_ _
      clear hS80 hS81 hS82 hS83 hS84 HA80
      go_wp2
      go_roundw
      case rel => exact ⟨k + 1, v8, p8, rv8, p28, _, _, _, _, _, _, _, _, Hlt.out, rfl, rfl, by go_num, by rw [show 1 + (k + 1) = 1 + k + 1 by omega]; exact HV, HT84⟩
      case measure => have := Hlt.out; simp [intOf]; omega
    as_aux_lemma =>
     have HV := hide (hi.out.more (Nat.le_succ _) HK80.out)
     obtain ⟨wt, hwt⟩ : ∃ W, wo = W := ⟨_, rfl⟩
     have HT := HP
     clear HP o1 o2 o3 hwt
     have HT80 := hide HT.out.drew
     obtain ⟨A2, c2, B2, d2, k1, k6, ha, k1q⟩ := HT80.out.cells
     obtain ⟨el, hel⟩ : ∃ el, E.length = el := ⟨_, rfl⟩
     obtain ⟨ll, hll⟩ : ∃ ll, L.length = ll := ⟨_, rfl⟩
     obtain ⟨nx, hnx⟩ : ∃ nx, h.f + E.length = nx := ⟨_, rfl⟩
     have Hel := hide hel
     have Hll := hide (show ((L.length : Nat) : Int) = (ll : Int) by rw [hll])
     have Hnx := hide hnx
     rw [hel] at k6
     rw [hll] at k1q
     have HA80 := hide ha
     have hS80 := And.intro k1 (And.intro k6 k1q)
     clear k1 k6 ha k1q hel hll hnx HT
     go_wp2
     refine wp_region_held (S := (fun W => W.cell? ⟨rv, 1, none⟩ = some (.pointer (some ⟨p2, 0, none⟩)) ∧ W.cell? ⟨p2, 6, none⟩ = some (.slice A2 el c2) ∧ W.cell? ⟨q2, 1, none⟩ = some (.slice B2 ll d2))) (by kernel_rfl) ?_
     change wpAnyH _ _ _ _ _ _ _ _ (World.drew _)
     refine wpAnyH_take (i := 0) (oi := ⟨some 216, _, _, _, _, _⟩) (v := ?_) rfl (by kernel_rfl) (by kernel_rfl) (by kernel_rfl) (fun _ _ _ h => h) (Or.inl ⟨by rfl, ?_⟩) hS80 ?_
     rotate_left 1
     ·(intro w hSw; obtain ⟨hSw1, hSw2, hSw3⟩ := hSw; go_simp; try with_reducible rfl)
     simp only [Act.put, Pk.sl]
     refine wpAnyH_take (i := 2) (oi := ⟨some 218, _, _, _, _, _⟩) (v := ?_) rfl (by kernel_rfl) (by kernel_rfl) (by kernel_rfl) (fun _ _ _ h => h) (Or.inl ⟨by rfl, ?_⟩) hS80 ?_
     rotate_left 1
     ·(intro w hSw; obtain ⟨hSw1, hSw2, hSw3⟩ := hSw; go_simp; try with_reducible rfl)
     simp only [Act.put, Pk.sl]
     refine wpAnyH_take (i := 3) (oi := ⟨some 219, _, _, _, _, _⟩) (v := ?_) rfl (by kernel_rfl) (by kernel_rfl) (by kernel_rfl) (fun _ _ _ h => h) (Or.inl ⟨by rfl, ?_⟩) hS80 ?_
     rotate_left 1
     ·(intro w hSw; obtain ⟨hSw1, hSw2, hSw3⟩ := hSw; go_simp; try with_reducible rfl)
     simp only [Act.put, Pk.sl]
     refine wpAnyH_take (i := 4) (oi := ⟨some 220, _, _, _, _, _⟩) (v := ?_) rfl (by kernel_rfl) (by kernel_rfl) (by kernel_rfl) (fun _ _ _ h => h) (Or.inl ⟨by rfl, ?_⟩) hS80 ?_
     rotate_left 1
     ·(intro w hSw; obtain ⟨hSw1, hSw2, hSw3⟩ := hSw; go_simp; try with_reducible rfl)
     simp only [Act.put, Pk.sl]
     refine wpAnyH_take (i := 5) (oi := ⟨some 221, _, _, _, _, _⟩) (v := ?_) rfl (by kernel_rfl) (by kernel_rfl) (by kernel_rfl) (fun _ _ _ h => h) (Or.inl ⟨by rfl, ?_⟩) hS80 ?_
     rotate_left 1
     ·(intro w hSw; obtain ⟨hSw1, hSw2, hSw3⟩ := hSw; go_simp; try with_reducible rfl)
     simp only [Act.put, Pk.sl]
     refine wpAnyH_take (i := 6) (oi := ⟨some 222, _, _, _, _, _⟩) (v := ?_) rfl (by kernel_rfl) (by kernel_rfl) (by kernel_rfl) (fun _ _ _ h => h) (Or.inl ⟨by rfl, ?_⟩) hS80 ?_
     rotate_left 1
     ·(intro w hSw; obtain ⟨hSw1, hSw2, hSw3⟩ := hSw; go_simp; try with_reducible rfl)
     simp only [Act.put, Pk.sl]
     refine wpAnyH_take (i := 7) (oi := ⟨some 223, _, _, _, _, _⟩) (v := ?_) rfl (by kernel_rfl) (by kernel_rfl) (by kernel_rfl) (fun _ _ _ h => h) (Or.inl ⟨by rfl, ?_⟩) hS80 ?_
     rotate_left 1
     ·(intro w hSw; obtain ⟨hSw1, hSw2, hSw3⟩ := hSw; go_simp; try with_reducible rfl)
     simp only [Act.put, Pk.sl]
     refine wpAnyH_take (i := 8) (oi := ⟨some 224, _, _, _, _, _⟩) (v := ?_) rfl (by kernel_rfl) (by kernel_rfl) (by kernel_rfl) (fun _ _ _ h => h) (Or.inl ⟨by rfl, ?_⟩) hS80 ?_
     rotate_left 1
     ·(intro w hSw; obtain ⟨hSw1, hSw2, hSw3⟩ := hSw; go_simp; try with_reducible rfl)
     simp only [Act.put, Pk.sl]
     refine wpAnyH_ready (rs := [1]) (by kernel_rfl) (by simp) ?_
     refine AllReadyH.cons (o := ⟨some 217, _, _, _, _, _⟩) rfl (fun K hK => ?_) AllReadyH.nil
     go_simp
     refine (HT80.out.records (by have := HV.out.vg.jg.few; have := HV.out.lim.n200; omega)).mono ?_
     rintro r w81 ⟨A81, c81, rfl, ha81, hb81⟩
     rw [Hel.out]
     have hS81 : w81.cell? ⟨rv, 1, none⟩ = some (.pointer (some ⟨p2, 0, none⟩)) ∧ w81.cell? ⟨p2, 6, none⟩ = some (.slice A2 el c2) ∧ w81.cell? ⟨q2, 1, none⟩ = some (.slice B2 ll d2) := ⟨(hb81.cell (p := ⟨rv, 1, none⟩) (World.block_lt_of_cell? _ _ hS80.1)).trans hS80.1, (hb81.cell (p := ⟨p2, 6, none⟩) (World.block_lt_of_cell? _ _ hS80.2.1)).trans hS80.2.1, (hb81.cell (p := ⟨q2, 1, none⟩) (World.block_lt_of_cell? _ _ hS80.2.2)).trans hS80.2.2⟩
     have HT81 := hide (HT80.out.below hb81)
     have HA81 := hide ha81
     have HA2 := hide (HA80.out.below hb81)
     clear ha81 hb81
     refine hK.out _ _ hS81 (fun hHeld => ?_)
     clear hK K
     clear hHeld
     refine wpAnyH_ready (rs := [9]) (by kernel_rfl) (by simp) ?_
     refine AllReadyH.cons (o := ⟨some 225, _, _, _, _, _⟩) rfl (fun K hK => ?_) AllReadyH.nil
     go_simp
     refine (Same_two w81 _ el A81 A2 c81 c2 Hel.out (by have := Hel.out; have := HV.out.vg.jg.few; have := HV.out.lim.n200; omega) HA81.out HA2.out).mono ?_
     rintro r w82 ⟨rfl, hb82⟩
     have hS82 : w82.cell? ⟨rv, 1, none⟩ = some (.pointer (some ⟨p2, 0, none⟩)) ∧ w82.cell? ⟨p2, 6, none⟩ = some (.slice A2 el c2) ∧ w82.cell? ⟨q2, 1, none⟩ = some (.slice B2 ll d2) := ⟨(hb82.cell (p := ⟨rv, 1, none⟩) (World.block_lt_of_cell? _ _ hS81.1)).trans hS81.1, (hb82.cell (p := ⟨p2, 6, none⟩) (World.block_lt_of_cell? _ _ hS81.2.1)).trans hS81.2.1, (hb82.cell (p := ⟨q2, 1, none⟩) (World.block_lt_of_cell? _ _ hS81.2.2)).trans hS81.2.2⟩
     have HT82 := hide (HT81.out.below hb82)
     clear hb82 HA81 HA2
     refine hK.out _ _ hS82 (fun hHeld => ?_)
     clear hK K
     clear hHeld
     refine wpAnyH_take (i := 10) (oi := ⟨some 226, _, _, _, _, _⟩) (v := ?_) rfl (by kernel_rfl) (by kernel_rfl) (by kernel_rfl) (fun _ _ _ h => h) (Or.inl ⟨by rfl, ?_⟩) hS82 ?_
     rotate_left 1
     ·(intro w hSw; obtain ⟨hSw1, hSw2, hSw3⟩ := hSw; go_simp; try with_reducible rfl)
     simp only [Act.put, Pk.sl]
     refine wpAnyH_take (i := 11) (oi := ⟨some 227, _, _, _, _, _⟩) (v := ?_) rfl (by kernel_rfl) (by kernel_rfl) (by kernel_rfl) (fun _ _ _ h => h) (Or.inl ⟨by rfl, ?_⟩) hS82 ?_
     rotate_left 1
     ·(intro w hSw; obtain ⟨hSw1, hSw2, hSw3⟩ := hSw; go_simp; try with_reducible rfl)
     simp only [Act.put, Pk.sl]
     refine wpAnyH_take (i := 12) (oi := ⟨some 228, _, _, _, _, _⟩) (v := ?_) rfl (by kernel_rfl) (by kernel_rfl) (by kernel_rfl) (fun _ _ _ h => h) (Or.inl ⟨by rfl, ?_⟩) hS82 ?_
     rotate_left 1
     ·(intro w hSw; obtain ⟨hSw1, hSw2, hSw3⟩ := hSw; go_simp; try with_reducible rfl)
     simp only [Act.put, Pk.sl]
     refine wpAnyH_take (i := 14) (oi := ⟨some 230, _, _, _, _, _⟩) (v := ?_) rfl (by kernel_rfl) (by kernel_rfl) (by kernel_rfl) (fun _ _ _ h => h) (Or.inl ⟨by rfl, ?_⟩) hS82 ?_
     rotate_left 1
     ·(intro w hSw; obtain ⟨hSw1, hSw2, hSw3⟩ := hSw; go_simp; try with_reducible rfl)
     simp only [Act.put, Pk.sl]
     refine wpAnyH_take (i := 15) (oi := ⟨some 231, _, _, _, _, _⟩) (v := ?_) rfl (by kernel_rfl) (by kernel_rfl) (by kernel_rfl) (fun _ _ _ h => h) (Or.inl ⟨by rfl, ?_⟩) hS82 ?_
     rotate_left 1
     ·(intro w hSw; obtain ⟨hSw1, hSw2, hSw3⟩ := hSw; go_simp; try with_reducible rfl)
     simp only [Act.put, Pk.sl]
     refine wpAnyH_take (i := 16) (oi := ⟨some 232, _, _, _, _, _⟩) (v := ?_) rfl (by kernel_rfl) (by kernel_rfl) (by kernel_rfl) (fun _ _ _ h => h) (Or.inl ⟨by rfl, ?_⟩) hS82 ?_
     rotate_left 1
     ·(intro w hSw; obtain ⟨hSw1, hSw2, hSw3⟩ := hSw; go_simp; try with_reducible rfl)
     simp only [Act.put, Pk.sl]
     refine wpAnyH_take (i := 17) (oi := ⟨some 233, _, _, _, _, _⟩) (v := ?_) rfl (by kernel_rfl) (by kernel_rfl) (by kernel_rfl) (fun _ _ _ h => h) (Or.inl ⟨by rfl, ?_⟩) hS82 ?_
     rotate_left 1
     ·(intro w hSw; obtain ⟨hSw1, hSw2, hSw3⟩ := hSw; go_simp; try with_reducible rfl)
     simp only [Act.put, Pk.sl]
     refine wpAnyH_ready (rs := [13]) (by kernel_rfl) (by simp) ?_
     refine AllReadyH.cons (o := ⟨some 229, _, _, _, _, _⟩) rfl (fun K hK => ?_) AllReadyH.nil
     go_simp
     refine (HT82.out.next (by have := HV.out.lim.f; have := HV.out.lim.T; omega) (by have := HV.out.vg.jg.few; have := HV.out.lim.n200; omega)).mono ?_
     rintro r w83 ⟨rfl, hb83⟩
     rw [Hnx.out]
     have hS83 : w83.cell? ⟨rv, 1, none⟩ = some (.pointer (some ⟨p2, 0, none⟩)) ∧ w83.cell? ⟨p2, 6, none⟩ = some (.slice A2 el c2) ∧ w83.cell? ⟨q2, 1, none⟩ = some (.slice B2 ll d2) := ⟨(hb83.cell (p := ⟨rv, 1, none⟩) (World.block_lt_of_cell? _ _ hS82.1)).trans hS82.1, (hb83.cell (p := ⟨p2, 6, none⟩) (World.block_lt_of_cell? _ _ hS82.2.1)).trans hS82.2.1, (hb83.cell (p := ⟨q2, 1, none⟩) (World.block_lt_of_cell? _ _ hS82.2.2)).trans hS82.2.2⟩
     have HT83 := hide (HT82.out.below hb83)
     clear hb83
     refine hK.out _ _ hS83 (fun hHeld => ?_)
     clear hK K
     clear hHeld
     refine wpAnyH_ready (rs := [18]) (by kernel_rfl) (by simp) ?_
     refine AllReadyH.cons (o := ⟨some 234, _, _, _, _, _⟩) rfl (fun K hK => ?_) AllReadyH.nil
     go_simp
     refine (HT83.out.rnext (by have := HV.out.lim.f; have := HV.out.lim.T; omega) (by have := HV.out.vg.jg.few; have := HV.out.lim.n200; omega)).mono ?_
     rintro r w84 ⟨rfl, hb84⟩
     rw [Hnx.out]
     have hS84 : w84.cell? ⟨rv, 1, none⟩ = some (.pointer (some ⟨p2, 0, none⟩)) ∧ w84.cell? ⟨p2, 6, none⟩ = some (.slice A2 el c2) ∧ w84.cell? ⟨q2, 1, none⟩ = some (.slice B2 ll d2) := ⟨(hb84.cell (p := ⟨rv, 1, none⟩) (World.block_lt_of_cell? _ _ hS83.1)).trans hS83.1, (hb84.cell (p := ⟨p2, 6, none⟩) (World.block_lt_of_cell? _ _ hS83.2.1)).trans hS83.2.1, (hb84.cell (p := ⟨q2, 1, none⟩) (World.block_lt_of_cell? _ _ hS83.2.2)).trans hS83.2.2⟩
     have HT84 := hide (HT83.out.below hb84)
     clear hb84
     refine hK.out _ _ hS84 (fun hHeld => ?_)
     clear hK K
     clear hHeld
     refine wpAnyH_take (i := 19) (oi := ⟨some 235, _, _, _, _, _⟩) (v := ?_) rfl (by kernel_rfl) (by kernel_rfl) (by kernel_rfl) (fun _ _ _ h => h) (Or.inl ⟨by rfl, ?_⟩) hS84 ?_
     rotate_left 1
     ·(intro w hSw; obtain ⟨hSw1, hSw2, hSw3⟩ := hSw; go_simp; try with_reducible rfl)
     simp only [Act.put, Pk.sl]
     refine wpAnyH_take (i := 20) (oi := ⟨some 236, _, _, _, _, _⟩) (v := ?_) rfl (by kernel_rfl) (by kernel_rfl) (by kernel_rfl) (fun _ _ _ h => h) (Or.inl ⟨by rfl, ?_⟩) hS84 ?_
     rotate_left 1
     ·(intro w hSw; obtain ⟨hSw1, hSw2, hSw3⟩ := hSw; go_simp; try with_reducible rfl)
     simp only [Act.put, Pk.sl]
     refine wpAnyH_take (i := 21) (oi := ⟨some 237, _, _, _, _, _⟩) (v := ?_) rfl (by kernel_rfl) (by kernel_rfl) (by kernel_rfl) (fun _ _ _ h => h) (Or.inl ⟨by rfl, ?_⟩) hS84 ?_
     rotate_left 1
     ·(intro w hSw; obtain ⟨hSw1, hSw2, hSw3⟩ := hSw; go_simp; try with_reducible rfl)
     simp only [Act.put, Pk.sl]
     refine wpAnyH_take (i := 22) (oi := ⟨some 238, _, _, _, _, _⟩) (v := ?_) rfl (by kernel_rfl) (by kernel_rfl) (by kernel_rfl) (fun _ _ _ h => h) (Or.inl ⟨by rfl, ?_⟩) hS84 ?_
     rotate_left 1
     ·(intro w hSw; obtain ⟨hSw1, hSw2, hSw3⟩ := hSw; go_simp; try with_reducible rfl)
     simp only [Act.put, Pk.sl]
     refine wpAnyH_take (i := 24) (oi := ⟨some 240, _, _, _, _, _⟩) (v := ?_) rfl (by kernel_rfl) (by kernel_rfl) (by kernel_rfl) (fun _ _ _ h => h) (Or.inl ⟨by rfl, ?_⟩) hS84 ?_
     rotate_left 1
     ·(intro w hSw; obtain ⟨hSw1, hSw2, hSw3⟩ := hSw; go_simp; try with_reducible rfl)
     simp only [Act.put, Pk.sl]
     refine wpAnyH_take (i := 25) (oi := ⟨some 241, _, _, _, _, _⟩) (v := ?_) rfl (by kernel_rfl) (by kernel_rfl) (by kernel_rfl) (fun _ _ _ h => h) (Or.inl ⟨by rfl, ?_⟩) hS84 ?_
     rotate_left 1
     ·(intro w hSw; obtain ⟨hSw1, hSw2, hSw3⟩ := hSw; go_simp; try with_reducible rfl)
     simp only [Act.put, Pk.sl]
     refine wpAnyH_take (i := 26) (oi := ⟨some 242, _, _, _, _, _⟩) (v := ?_) rfl (by kernel_rfl) (by kernel_rfl) (by kernel_rfl) (fun _ _ _ h => h) (Or.inl ⟨by rfl, ?_⟩) hS84 ?_
     rotate_left 1
     ·(intro w hSw; obtain ⟨hSw1, hSw2, hSw3⟩ := hSw; go_simp; try with_reducible rfl)
     simp only [Act.put, Pk.sl]
     refine wpAnyH_take (i := 27) (oi := ⟨some 243, _, _, _, _, _⟩) (v := ?_) rfl (by kernel_rfl) (by kernel_rfl) (by kernel_rfl) (fun _ _ _ h => h) (Or.inl ⟨by rfl, ?_⟩) hS84 ?_
     rotate_left 1
     ·(intro w hSw; obtain ⟨hSw1, hSw2, hSw3⟩ := hSw; go_simp; try with_reducible rfl)
     simp only [Act.put, Pk.sl]
     refine wpAnyH_take (i := 28) (oi := ⟨some 244, _, _, _, _, _⟩) (v := ?_) rfl (by kernel_rfl) (by kernel_rfl) (by kernel_rfl) (fun _ _ _ h => h) (Or.inl ⟨by rfl, ?_⟩) hS84 ?_
     rotate_left 1
     ·(intro w hSw; obtain ⟨hSw1, hSw2, hSw3⟩ := hSw; go_simp; try with_reducible rfl)
     simp only [Act.put, Pk.sl]
     refine wpAnyH_ready (rs := [23]) (by kernel_rfl) (by simp) ?_
     refine AllReadyH.cons (o := ⟨some 239, _, _, _, _, _⟩) rfl (fun K hK => ?_) AllReadyH.nil
     go_simp
     refine (HT84.out.loose).mono ?_
     rintro r w85 ⟨rfl, rfl⟩
     rw [Hll.out]
     refine hK.out _ _ hS84 (fun hHeld => ?_)
     clear hK K
     clear hHeld
     refine wpAnyH_take (i := 29) (oi := ⟨some 245, _, _, _, _, _⟩) (v := ?_) rfl (by kernel_rfl) (by kernel_rfl) (by kernel_rfl) (fun _ _ _ h => h) (Or.inl ⟨by rfl, ?_⟩) hS84 ?_
     rotate_left 1
     ·(intro w hSw; obtain ⟨hSw1, hSw2, hSw3⟩ := hSw; go_simp; try with_reducible rfl)
     simp only [Act.put, Pk.sl]
     refine wpAnyH_take (i := 30) (oi := ⟨some 246, _, _, _, _, _⟩) (v := ?_) rfl (by kernel_rfl) (by kernel_rfl) (by kernel_rfl) (fun _ _ _ h => h) (Or.inl ⟨by rfl, ?_⟩) hS84 ?_
     rotate_left 1
     ·(intro w hSw; obtain ⟨hSw1, hSw2, hSw3⟩ := hSw; go_simp; try with_reducible rfl)
     simp only [Act.put, Pk.sl]
     refine wpAnyH_done (by kernel_rfl) ?_ _
     clear hS80 hS81 hS82 hS83 hS84 HA80
     go_wp2
     go_roundw
     case rel => exact ⟨k + 1, v, p, rv, p2, _, _, _, _, _, _, _, _, Hlt.out, rfl, rfl, by go_num, by rw [show 1 + (k + 1) = 1 + k + 1 by omega]; exact HV, HT84⟩
     case measure => have := Hlt.out; simp [intOf]; omega
   ·obtain rfl : k = m := by omega
    clear hge
    as_aux_lemma =>
     go_wp2
     go_loopw [248] (fun jx wq => ∃ i : Nat, i ≤ 8 ∧ jx = .int .i64 i ∧ Hid (TV w v p q rv p2 q2 n S L h E H S L h E H bo ob wq)) (fun jx _ => 8 - (intOf jx).toNat)
     case atStart => exact ⟨0, by omega, rfl, hj⟩
     case round =>
      obtain ⟨i, hi8, rfl, hq⟩ := hrel
      rcases Nat.lt_or_ge i 8 with hlt8 | hge8
      ·have hii : (i : Int) < 8 := by omega
       obtain ⟨R, hvs⟩ := hq.out.vs hi.out
       have HC := hide (hvs.read hlt8)
       have HR : Hid (∀ W, TV w v p q rv p2 q2 n S L h E H S L h E H bo ob W → _) := hide fun W j => j.rread8 hi.out hlt8
       obtain ⟨y, hy⟩ : ∃ y, blk H E i = y := ⟨_, rfl⟩
       rw [hy] at HC HR
       clear hvs hy
       go_wp2_with fail
       refine HC.out.mono ?_
       rintro r w6 ⟨rfl, hb6⟩
       have HJ6 := hide (hq.out.below hb6)
       clear hb6 HC hq
       go_wp2_with fail
       refine (HR.out w6 HJ6.out).mono ?_
       rintro r w7 ⟨rfl, hb7⟩
       have HJ7 := hide (HJ6.out.below hb7)
       clear hb7 HR HJ6
       go_wp2
       go_roundw
       case rel => exact ⟨i + 1, by omega, by go_num, HJ7⟩
       case measure => simp [intOf]; omega
      ·obtain rfl : i = 8 := by omega
       clear hge8
       obtain ⟨sl, hsl⟩ : ∃ sl, S.length = sl := ⟨_, rfl⟩
       have HSL := hide hsl
       have HLN := hide hq.out.lens
       rw [hsl] at HLN
       clear hsl
       go_wp2_with fail
       refine HLN.out.mono ?_
       rintro r w' ⟨rfl, rfl⟩
       clear HLN
       go_wp2
       go_loopw [269] (fun jx wz => ∃ i : Nat, i ≤ sl ∧ jx = .int .i64 i ∧ Hid (TV w v p q rv p2 q2 n S L h E H S L h E H bo ob wz)) (fun jx _ => sl - (intOf jx).toNat)
       case atStart => exact ⟨0, by omega, rfl, hq⟩
       case round =>
        obtain ⟨i, his, rfl, hz⟩ := hrel
        have hslb : sl ≤ 1000 := by have := hi.out.size; have := hi.out.lim.n200; have := HSL.out; omega
        rcases Nat.lt_or_ge i sl with hlts | hges
        ·have hii : (i : Int) < (sl : Int) := by omega
         have hiS : i < S.length := by rw [HSL.out]; exact hlts
         obtain ⟨s, hs⟩ : ∃ s, (all S L)[i]? = some s := ⟨_, List.getElem?_eq_getElem (by rw [all_length]; exact hiS)⟩
         have HC := hide (hz.out.read hiS (by have := hi.out.short; omega))
         have HS64 := hide (hz.out.full s (List.mem_of_getElem? hs))
         rw [getD_of hs] at HC
         have HR : Hid (∀ W, TV w v p q rv p2 q2 n S L h E H S L h E H bo ob W → _) := hide fun W j => j.rread hs hiS (by have := hi.out.short; omega)
         obtain ⟨y, hy⟩ : ∃ y, str s = y := ⟨_, rfl⟩
         rw [hy] at HR
         have HYY := hide hy
         clear hs hiS hy
         go_wp2_with fail
         refine HC.out.mono ?_
         rintro r w6 ⟨g, rfl, hg6, hby6, hb6⟩
         have HJ6 := hide (hz.out.below hb6)
         have hrun := Sm.run_str w6 _ _ s 64 64 HS64.out hby6
         rw [HYY.out] at hrun
         clear hb6 HC hz hg6 hby6
         go_wp2_with fail
         refine (HR.out w6 HJ6.out).mono ?_
         rintro r w7 ⟨rfl, rfl⟩
         clear HR
         go_wp2
         go_roundw
         case rel => exact ⟨i + 1, by omega, by go_num, HJ6⟩
         case measure => simp [intOf]; omega
        ·obtain rfl : i = sl := by omega
         go_wp2
         go_ret
         exact ⟨rfl, hz.out.bel⟩
 ·obtain rfl : bv = false := by
   cases bv with
   | false => rfl
   | true => exact absurd (hbv.1 rfl) hfew
  have HA := hide (awake_any w1 (HT.out.below HB1.out HT.out.pos))
  clear hfew hbv HW HS HN HN2 Hp
  go_wp2_with fail
  refine HA.out.mono ?_
  rintro e w2 ⟨rfl, hb2⟩
  have HB2 := hide (HB1.out.trans (hb2.mono HB1.out.size))
  clear hb2 HA
  go_wp2
  go_ret
  exact ⟨rfl, HB2.out⟩
theorem Plays_any (ring : Nat) (A : Option Addr) (m c : Nat) (l : List Oq) (w : World) (ht : Tab w) (hty : Ety w) (hring : ring < 256) (hl : l.length = m) (hp : Ops w w.heap.size A l) (hf : OFits l) :
 Calls Tryz.prog 3 #[.int .u8 (ring : Int), .slice A m c] w fun r w' => r = .returned (.bool true) ∧ Below w.heap.size w w' := Plays_few ring A m c l w hl hp hf ht hty hring
end Go.Proofs.YtapiogcoipeinaaGreatDoor.Vo
