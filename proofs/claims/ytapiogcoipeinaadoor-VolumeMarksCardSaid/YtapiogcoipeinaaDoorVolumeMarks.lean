/-
  Proved: the statement VolumeMarks: for every script it returns true, and its arguments read as before. Condition: the package variable halves reads as the program's own text lays it (the card ties it).
-/
import Derived.Test.YtapiogcoipeinaaDoorVoB
import Derived.Deep.RegionHeld3
import Derived.Test.YtapiogcoipeinaaDoorTie
import Derived.Test.YtapiogcoipeinaaDoorCards
import Derived.Test.YtapiogcoipeinaaDoorVoL
import Derived.SevenTiedAt

/-
  VolumeMarks: markers change no block; and each write is the block's contents at once, and no other block's. Condition: the table of half bytes holds what the program's own text lays.
-/
namespace Go.Proofs.YtapiogcoipeinaaDoor.Vo
open Go.RowKit
open Pk Sm Fa Rc Dk Jn

set_option maxRecDepth 100000 in
set_option maxHeartbeats 8000000 in
theorem Marks_few (A : Option Addr) (m c : Nat) (l : List Oq) (w : World) (hl : l.length = m) (hp : Ops w w.heap.size A l) (hf : OFits l) (ht : Tab w) :
    Calls Tryd.prog 4 #[.slice A m c] w fun r w' => r = .returned (.bool true) ∧ Below w.heap.size w w' := by
  have HT := hide ht
  have HA := hide (awake_any w ht)
  have HW := hide (fun W (hb : Below w.heap.size w W) => few_any A m c l W hl ((hp.below hb).more1 hb.size) hf)
  have HN := hide (fun W => New_any 110 110 W (by decide))
  have HS := hide (fun W => Sectors_any 100 (by omega) (by omega) W)
  have Hl := hide hl
  have Hp := hide hp
  have Hf := hide hf
  clear hl hp hf ht
  go_enter Tryd.func4, Tryd.ntmps4
  go_wp2_with fail
  refine HA.out.mono ?_
  rintro e w1 ⟨rfl, hb1⟩
  have HB1 := hide hb1
  clear hb1 HA
  go_wp2_with fail
  refine (HW.out w1 HB1.out).mono ?_
  rintro e w2 ⟨⟨bv, rfl, hbv⟩, rfl⟩
  by_cases hfew : Few l
  · obtain rfl : bv = true := hbv.2 hfew
    have HF := hide hfew
    clear hfew hbv HW
    go_wp2_with fail
    refine (HS.out _).mono ?_
    rintro e w2 ⟨rfl, rfl⟩
    go_wp2_with fail
    refine (HN.out w1).mono ?_
    rintro e w2 ⟨q, D0, rfl, hd, hD, hb2⟩
    have HO := hide (VS.start (w0 := w) (R := fun _ => False) (n := 100) hd HT.out (fun k hk => Nat.le_trans HB1.out.size (hD k hk)) (HB1.out.trans (hb2.mono HB1.out.size)) (fun k hk => hk.elim) (by omega) (by omega) (by omega))
    clear hd hD hb2 HN
    go_wp2_with fail
    refine HO.out.mono ?_
    rintro e w3 ⟨v, p, rfl, hj, _⟩
    have HJ3 := hide hj
    clear hj HO HB1
    have hm80 : m ≤ 80 := by have := HF.out.1; rw [Hl.out] at this; exact this
    go_wp2
    go_loopw [29] (fun jx wr => ∃ (k : Nat) (h : Hd) (E : List Ent) (H : Nat → Hm) (D : Nat), k ≤ m ∧ jx = .int .i64 k ∧ Hid (VS w (fun _ => False) v p q 100 h E H D (k + 1) wr)) (fun jx _ => m - (intOf jx).toNat)
    case atStart => exact ⟨0, _, _, _, _, Nat.zero_le _, rfl, HJ3⟩
    case round =>
      obtain ⟨k, h, E, H, D, hk, rfl, hj⟩ := hrel
      rcases Nat.lt_or_ge k m with hlt | hge
      · have hki : (k : Int) < (m : Int) := by omega
        obtain ⟨x, hx⟩ : ∃ x, l[k]? = some x := ⟨_, List.getElem?_eq_getElem (by rw [Hl.out]; exact hlt)⟩
        obtain ⟨b, o, rfl, hbB, hat⟩ := Hp.out.at4 hx
        have HBB := hide hbB
        have HAT := hide hat
        have hblt : b < wr.heap.size := Nat.lt_of_lt_of_le hbB hj.out.bel.size
        have hmem : x ∈ l := List.mem_of_getElem? hx
        have HFX := hide (Hf.out x hmem)
        have HSX := hide (HF.out.2 x hmem)
        obtain ⟨kd, nn, ss, kp⟩ := x
        have HK80 := hide (show k < 80 by omega)
        clear hx hmem hbB hat
        have HBL := hide (blocks_any hj.out)
        go_wp2_with fail
        refine HBL.out.mono ?_
        rintro e w4 ⟨g, gc, rfl, hg, hbk, hb4⟩
        have HJ4 := hide (hj.out.hold (R' := fun i => i = g) hb4 fun i e => by subst e; exact ⟨hg, hbk.lt⟩)
        have HBK := hide hbk
        have HGE := hide (Nat.le_trans hj.out.bel.size hg)
        have hgc := hbk.cap
        have HAT4 := hide (HAT.out.below HBB.out HJ4.out.bel)
        obtain ⟨a0, a1, a2, a3⟩ := HAT4.out
        simp only at a0 a1 a2 a3
        clear hb4 hbk hj HBL hg
        by_cases k1 : kd = 1
        · subst k1
          by_cases hw : wrong 100 E nn ss = 0
          · skip
            as_aux_lemma =>
              obtain ⟨h0, h8, hd16, hE⟩ := wrong_zero HJ4.out.few.1 hw
              obtain ⟨nb, rfl⟩ : ∃ nb : Nat, nn = (nb : Int) := ⟨nn.toNat, by omega⟩
              have HNB := hide (show nb < 8 by omega)
              have h0i : (0 : Int) ≤ (nb : Int) := by omega
              have h8i : (nb : Int) < 8 := h8
              have HVG := hide HJ4.out
              have HJD := hide (HJ4.out.below (Below.refl _ _).drew).1
              have HATD := hide (HAT.out.below HBB.out HJD.out.bel)
              have hSD := And.intro HATD.out.2.1 HATD.out.2.2.1
              have HWR := hide (HJD.out.write HT.out (by have := HK80.out; omega) hE h0 h8 hd16)
              obtain ⟨z, hz⟩ : ∃ z, h.f + E.length = z := ⟨_, rfl⟩
              have HZ := hide hz
              rw [hz] at HWR
              clear hw h0 hE hz hd16 HAT4 HJ4
              go_wp2
              refine wp_region_held (S := (fun W => W.cell? ⟨b, o + k * 4 + 1, none⟩ = some (.int .i64 (nb : Int)) ∧ W.cell? ⟨b, o + k * 4 + 2, none⟩ = some (.string ss))) (by kernel_rfl) ?_
              change wpAnyH _ _ _ _ _ _ _ _ (World.drew _)
              refine wpAnyH_take (i := 0) (oi := ⟨some 42, _, _, _, _, _⟩) (v := ?_) rfl (by kernel_rfl) (by kernel_rfl) (by kernel_rfl) (fun _ _ _ h => h) (Or.inl ⟨by rfl, ?_⟩) hSD ?_
              rotate_left 1
              · (intro w hSw; obtain ⟨hSw1, hSw2⟩ := hSw; go_simp; try with_reducible rfl)
              simp only [Act.put, List.setIfInBounds_toArray, List.set_cons_zero, List.set_cons_succ]
              refine wpAnyH_take (i := 1) (oi := ⟨some 43, _, _, _, _, _⟩) (v := ?_) rfl (by kernel_rfl) (by kernel_rfl) (by kernel_rfl) (fun _ _ _ h => h) (Or.inl ⟨by rfl, ?_⟩) hSD ?_
              rotate_left 1
              · (intro w hSw; obtain ⟨hSw1, hSw2⟩ := hSw; go_simp; try with_reducible rfl)
              simp only [Act.put, List.setIfInBounds_toArray, List.set_cons_zero, List.set_cons_succ]
              refine wpAnyH_take (i := 2) (oi := ⟨some 44, _, _, _, _, _⟩) (v := ?_) rfl (by kernel_rfl) (by kernel_rfl) (by kernel_rfl) (fun _ _ _ h => h) (Or.inl ⟨by rfl, ?_⟩) hSD ?_
              rotate_left 1
              · (intro w hSw; obtain ⟨hSw1, hSw2⟩ := hSw; go_simp; try with_reducible rfl)
              simp only [Act.put, List.setIfInBounds_toArray, List.set_cons_zero, List.set_cons_succ]
              refine wpAnyH_take (i := 3) (oi := ⟨some 45, _, _, _, _, _⟩) (v := ?_) rfl (by kernel_rfl) (by kernel_rfl) (by kernel_rfl) (fun _ _ _ h => h) (Or.inl ⟨by rfl, ?_⟩) hSD ?_
              rotate_left 1
              · (intro w hSw; obtain ⟨hSw1, hSw2⟩ := hSw; go_simp; try with_reducible rfl)
              simp only [Act.put, List.setIfInBounds_toArray, List.set_cons_zero, List.set_cons_succ]
              refine wpAnyH_take (i := 4) (oi := ⟨some 46, _, _, _, _, _⟩) (v := ?_) rfl (by kernel_rfl) (by kernel_rfl) (by kernel_rfl) (fun _ _ _ h => h) (Or.inl ⟨by rfl, ?_⟩) hSD ?_
              rotate_left 1
              · (intro w hSw; obtain ⟨hSw1, hSw2⟩ := hSw; go_simp; try with_reducible rfl)
              simp only [Act.put, List.setIfInBounds_toArray, List.set_cons_zero, List.set_cons_succ]
              refine wpAnyH_take (i := 5) (oi := ⟨some 47, _, _, _, _, _⟩) (v := ?_) rfl (by kernel_rfl) (by kernel_rfl) (by kernel_rfl) (fun _ _ _ h => h) (Or.inl ⟨by rfl, ?_⟩) hSD ?_
              rotate_left 1
              · (intro w hSw; obtain ⟨hSw1, hSw2⟩ := hSw; go_simp; try with_reducible rfl)
              simp only [Act.put, List.setIfInBounds_toArray, List.set_cons_zero, List.set_cons_succ]
              refine wpAnyH_take (i := 6) (oi := ⟨some 48, _, _, _, _, _⟩) (v := ?_) rfl (by kernel_rfl) (by kernel_rfl) (by kernel_rfl) (fun _ _ _ h => h) (Or.inl ⟨by rfl, ?_⟩) hSD ?_
              rotate_left 1
              · (intro w hSw; obtain ⟨hSw1, hSw2⟩ := hSw; go_simp; try with_reducible rfl)
              simp only [Act.put, List.setIfInBounds_toArray, List.set_cons_zero, List.set_cons_succ]
              refine wpAnyH_take (i := 7) (oi := ⟨some 49, _, _, _, _, _⟩) (v := ?_) rfl (by kernel_rfl) (by kernel_rfl) (by kernel_rfl) (fun _ _ _ h => h) (Or.inl ⟨by rfl, ?_⟩) hSD ?_
              rotate_left 1
              · (intro w hSw; obtain ⟨hSw1, hSw2⟩ := hSw; go_simp; try with_reducible rfl)
              simp only [Act.put, List.setIfInBounds_toArray, List.set_cons_zero, List.set_cons_succ]
              refine wpAnyH_take (i := 8) (oi := ⟨some 50, _, _, _, _, _⟩) (v := ?_) rfl (by kernel_rfl) (by kernel_rfl) (by kernel_rfl) (fun _ _ _ h => h) (Or.inl ⟨by rfl, ?_⟩) hSD ?_
              rotate_left 1
              · (intro w hSw; obtain ⟨hSw1, hSw2⟩ := hSw; go_simp; try with_reducible rfl)
              simp only [Act.put, List.setIfInBounds_toArray, List.set_cons_zero, List.set_cons_succ]
              refine wpAnyH_take (i := 9) (oi := ⟨some 51, _, _, _, _, _⟩) (v := ?_) rfl (by kernel_rfl) (by kernel_rfl) (by kernel_rfl) (fun _ _ _ h => h) (Or.inl ⟨by rfl, ?_⟩) hSD ?_
              rotate_left 1
              · (intro w hSw; obtain ⟨hSw1, hSw2⟩ := hSw; go_simp; try with_reducible rfl)
              simp only [Act.put, List.setIfInBounds_toArray, List.set_cons_zero, List.set_cons_succ]
              refine wpAnyH_take (i := 10) (oi := ⟨some 52, _, _, _, _, _⟩) (v := ?_) rfl (by kernel_rfl) (by kernel_rfl) (by kernel_rfl) (fun _ _ _ h => h) (Or.inl ⟨by rfl, ?_⟩) hSD ?_
              rotate_left 1
              · (intro w hSw; obtain ⟨hSw1, hSw2⟩ := hSw; go_simp; try with_reducible rfl)
              simp only [Act.put, List.setIfInBounds_toArray, List.set_cons_zero, List.set_cons_succ]
              refine wpAnyH_ready (rs := [11]) (by kernel_rfl) (by simp) ?_
              refine AllReadyH.cons (o := ⟨some 53, _, _, _, _, _⟩) rfl (fun K hK => ?_) AllReadyH.nil
              go_simp
              refine (HWR.out).mono ?_
              rintro r w5 ⟨rfl, hj5⟩
              have HJ5 := hide hj5.1
              have HK5 := hide (HBK.out.same (hj5.2 g (Or.inr rfl)))
              have hS5 := And.intro (HAT.out.below HBB.out HJ5.out.bel).2.1 (HAT.out.below HBB.out HJ5.out.bel).2.2.1
              clear hj5
              refine hK.out _ _ hS5 (fun hHeld => ?_)
              clear hK K
              clear hHeld
              refine wpAnyH_take (i := 12) (oi := ⟨some 41, _, _, _, _, _⟩) (v := ?_) rfl (by kernel_rfl) (by kernel_rfl) (by kernel_rfl) (fun _ _ _ h => h) (Or.inl ⟨by rfl, ?_⟩) hS5 ?_
              rotate_left 1
              · (intro w hSw; obtain ⟨hSw1, hSw2⟩ := hSw; go_simp; try with_reducible rfl)
              simp only [Act.put, List.setIfInBounds_toArray, List.set_cons_zero, List.set_cons_succ]
              refine wpAnyH_take (i := 13) (oi := ⟨some 54, _, _, _, _, _⟩) (v := ?_) rfl (by kernel_rfl) (by kernel_rfl) (by kernel_rfl) (fun _ _ _ h => h) (Or.inl ⟨by rfl, ?_⟩) hS5 ?_
              rotate_left 1
              · (intro w hSw; obtain ⟨hSw1, hSw2⟩ := hSw; go_simp; try with_reducible rfl)
              simp only [Act.put, List.setIfInBounds_toArray, List.set_cons_zero, List.set_cons_succ]
              refine wpAnyH_take (i := 14) (oi := ⟨some 55, _, _, _, _, _⟩) (v := ?_) rfl (by kernel_rfl) (by kernel_rfl) (by kernel_rfl) (fun _ _ _ h => h) (Or.inl ⟨by rfl, ?_⟩) hS5 ?_
              rotate_left 1
              · (intro w hSw; obtain ⟨hSw1, hSw2⟩ := hSw; go_simp; try with_reducible rfl)
              simp only [Act.put, List.setIfInBounds_toArray, List.set_cons_zero, List.set_cons_succ]
              refine wpAnyH_take (i := 15) (oi := ⟨some 7, _, _, _, _, _⟩) (v := ?_) rfl (by kernel_rfl) (by kernel_rfl) (by kernel_rfl) (fun _ _ _ h => h) (Or.inl ⟨by rfl, ?_⟩) hS5 ?_
              rotate_left 1
              · (intro w hSw; obtain ⟨hSw1, hSw2⟩ := hSw; go_simp; try with_reducible rfl)
              simp only [Act.put, List.setIfInBounds_toArray, List.set_cons_zero, List.set_cons_succ]
              refine wpAnyH_take (i := 16) (oi := ⟨some 8, _, _, _, _, _⟩) (v := ?_) rfl (by kernel_rfl) (by kernel_rfl) (by kernel_rfl) (fun _ _ _ h => h) (Or.inl ⟨by rfl, ?_⟩) hS5 ?_
              rotate_left 1
              · (intro w hSw; obtain ⟨hSw1, hSw2⟩ := hSw; go_simp; try with_reducible rfl)
              simp only [Act.put, List.setIfInBounds_toArray, List.set_cons_zero, List.set_cons_succ]
              refine wpAnyH_done (by kernel_rfl) ?_ _
              clear hS5
              go_wp2_with fail
              refine (HJ5.out.next).mono ?_
              rintro r w6 ⟨rfl, hb6⟩
              have HJ6 := hide (HJ5.out.below hb6).1
              have HK6 := hide (HK5.out.below hb6)
              obtain ⟨d0, d1, d2, d3⟩ := (HAT.out.below HBB.out HJ6.out.bel)
              simp only at d0 d1 d2 d3
              have hgl := HK6.out.lt
              have hbl := Nat.lt_of_lt_of_le HBB.out HJ6.out.bel.size
              obtain ⟨y, hy⟩ : ∃ y, h.f + (E ++ [(⟨h.g, z, 1, (nb : Int), ss, 0⟩ : Ent)]).length = y := ⟨_, rfl⟩
              have hyz : y = z + 1 := by have := HZ.out; rw [← hy]; simp only [List.length_append, List.length_singleton]; omega
              have hyb : (y : Int) - 1 = (z : Int) := by omega
              have hyl : y ≤ 2000 := by have := HJ6.out.lim.f; have := HJ6.out.lim.T; omega
              have fz := HK6.out.free nb
              obtain ⟨old, hold⟩ : ∃ s, (blks H E)[nb]? = some s := ⟨_, blks_get H E HNB.out⟩
              have hco := HK6.out.cell hold
              rw [hy]
              clear hb6 HJ5 HK5 hold hy hyz
              go_wp2
              go_region
              have HKs := hide (HK6.out.set nb ss)
              have HJ7 := hide ((HJ6.out.put_row (i := nb) (s := ss) (Or.inr rfl) HGE.out).below (Below.refl _ _).drew).1
              have HK7 := hide HKs.out.drewn
              have HEQ := hide (show blks H (E ++ [⟨h.g, z, 1, (nb : Int), ss, 0⟩]) = (blks H E).set nb ss from blks_write HVG.out HNB.out rfl rfl HZ.out.symm)
              obtain ⟨w7, hW7⟩ : ∃ W, (w6.setCell ⟨g, nb, none⟩ (.string ss)).drew = W := ⟨_, rfl⟩
              rw [hW7] at HJ7 HK7 ⊢
              clear hW7 HKs HJ6 HK6 hco
              have HBL2 := hide (blocks_any HJ7.out)
              go_wp2_with fail
              refine HBL2.out.mono ?_
              rintro e w8 ⟨g2, c2, rfl, hg2, hbk2, hb8⟩
              have HJ8 := hide (HJ7.out.below hb8).1
              have HA8 := hide (alike_any hbk2 (HK7.out.below hb8) true (iff_of_true rfl (by first | exact HEQ.out | rfl)))
              clear hb8 hbk2 HBL2 HJ7 HK7
              go_wp2_with fail
              refine HA8.out.mono ?_
              rintro e w9 ⟨rfl, hb9⟩
              have HJ9 := hide ((HJ8.out.below hb9).1.mono (fun _ h => Or.inl h))
              clear hb9 HJ8 HA8
              go_wp2
              go_roundw
              case rel => exact ⟨k + 1, _, _, _, _, by omega, by go_num, HJ9⟩
              case measure => simp [intOf]; omega

          · skip
            as_aux_lemma =>
              have HJD := hide (HJ4.out.below (Below.refl _ _).drew).1
              have HATD := hide (HAT.out.below HBB.out HJD.out.bel)
              have hSD := And.intro HATD.out.2.1 HATD.out.2.2.1
              have HWR := hide (HJD.out.write_no hw)
              clear hw
              go_wp2
              refine wp_region_held (S := (fun W => W.cell? ⟨b, o + k * 4 + 1, none⟩ = some (.int .i64 nn) ∧ W.cell? ⟨b, o + k * 4 + 2, none⟩ = some (.string ss))) (by kernel_rfl) ?_
              change wpAnyH _ _ _ _ _ _ _ _ (World.drew _)
              refine wpAnyH_take (i := 0) (oi := ⟨some 42, _, _, _, _, _⟩) (v := ?_) rfl (by kernel_rfl) (by kernel_rfl) (by kernel_rfl) (fun _ _ _ h => h) (Or.inl ⟨by rfl, ?_⟩) hSD ?_
              rotate_left 1
              · (intro w hSw; obtain ⟨hSw1, hSw2⟩ := hSw; go_simp; try with_reducible rfl)
              simp only [Act.put, List.setIfInBounds_toArray, List.set_cons_zero, List.set_cons_succ]
              refine wpAnyH_take (i := 1) (oi := ⟨some 43, _, _, _, _, _⟩) (v := ?_) rfl (by kernel_rfl) (by kernel_rfl) (by kernel_rfl) (fun _ _ _ h => h) (Or.inl ⟨by rfl, ?_⟩) hSD ?_
              rotate_left 1
              · (intro w hSw; obtain ⟨hSw1, hSw2⟩ := hSw; go_simp; try with_reducible rfl)
              simp only [Act.put, List.setIfInBounds_toArray, List.set_cons_zero, List.set_cons_succ]
              refine wpAnyH_take (i := 2) (oi := ⟨some 44, _, _, _, _, _⟩) (v := ?_) rfl (by kernel_rfl) (by kernel_rfl) (by kernel_rfl) (fun _ _ _ h => h) (Or.inl ⟨by rfl, ?_⟩) hSD ?_
              rotate_left 1
              · (intro w hSw; obtain ⟨hSw1, hSw2⟩ := hSw; go_simp; try with_reducible rfl)
              simp only [Act.put, List.setIfInBounds_toArray, List.set_cons_zero, List.set_cons_succ]
              refine wpAnyH_take (i := 3) (oi := ⟨some 45, _, _, _, _, _⟩) (v := ?_) rfl (by kernel_rfl) (by kernel_rfl) (by kernel_rfl) (fun _ _ _ h => h) (Or.inl ⟨by rfl, ?_⟩) hSD ?_
              rotate_left 1
              · (intro w hSw; obtain ⟨hSw1, hSw2⟩ := hSw; go_simp; try with_reducible rfl)
              simp only [Act.put, List.setIfInBounds_toArray, List.set_cons_zero, List.set_cons_succ]
              refine wpAnyH_take (i := 4) (oi := ⟨some 46, _, _, _, _, _⟩) (v := ?_) rfl (by kernel_rfl) (by kernel_rfl) (by kernel_rfl) (fun _ _ _ h => h) (Or.inl ⟨by rfl, ?_⟩) hSD ?_
              rotate_left 1
              · (intro w hSw; obtain ⟨hSw1, hSw2⟩ := hSw; go_simp; try with_reducible rfl)
              simp only [Act.put, List.setIfInBounds_toArray, List.set_cons_zero, List.set_cons_succ]
              refine wpAnyH_take (i := 5) (oi := ⟨some 47, _, _, _, _, _⟩) (v := ?_) rfl (by kernel_rfl) (by kernel_rfl) (by kernel_rfl) (fun _ _ _ h => h) (Or.inl ⟨by rfl, ?_⟩) hSD ?_
              rotate_left 1
              · (intro w hSw; obtain ⟨hSw1, hSw2⟩ := hSw; go_simp; try with_reducible rfl)
              simp only [Act.put, List.setIfInBounds_toArray, List.set_cons_zero, List.set_cons_succ]
              refine wpAnyH_take (i := 6) (oi := ⟨some 48, _, _, _, _, _⟩) (v := ?_) rfl (by kernel_rfl) (by kernel_rfl) (by kernel_rfl) (fun _ _ _ h => h) (Or.inl ⟨by rfl, ?_⟩) hSD ?_
              rotate_left 1
              · (intro w hSw; obtain ⟨hSw1, hSw2⟩ := hSw; go_simp; try with_reducible rfl)
              simp only [Act.put, List.setIfInBounds_toArray, List.set_cons_zero, List.set_cons_succ]
              refine wpAnyH_take (i := 7) (oi := ⟨some 49, _, _, _, _, _⟩) (v := ?_) rfl (by kernel_rfl) (by kernel_rfl) (by kernel_rfl) (fun _ _ _ h => h) (Or.inl ⟨by rfl, ?_⟩) hSD ?_
              rotate_left 1
              · (intro w hSw; obtain ⟨hSw1, hSw2⟩ := hSw; go_simp; try with_reducible rfl)
              simp only [Act.put, List.setIfInBounds_toArray, List.set_cons_zero, List.set_cons_succ]
              refine wpAnyH_take (i := 8) (oi := ⟨some 50, _, _, _, _, _⟩) (v := ?_) rfl (by kernel_rfl) (by kernel_rfl) (by kernel_rfl) (fun _ _ _ h => h) (Or.inl ⟨by rfl, ?_⟩) hSD ?_
              rotate_left 1
              · (intro w hSw; obtain ⟨hSw1, hSw2⟩ := hSw; go_simp; try with_reducible rfl)
              simp only [Act.put, List.setIfInBounds_toArray, List.set_cons_zero, List.set_cons_succ]
              refine wpAnyH_take (i := 9) (oi := ⟨some 51, _, _, _, _, _⟩) (v := ?_) rfl (by kernel_rfl) (by kernel_rfl) (by kernel_rfl) (fun _ _ _ h => h) (Or.inl ⟨by rfl, ?_⟩) hSD ?_
              rotate_left 1
              · (intro w hSw; obtain ⟨hSw1, hSw2⟩ := hSw; go_simp; try with_reducible rfl)
              simp only [Act.put, List.setIfInBounds_toArray, List.set_cons_zero, List.set_cons_succ]
              refine wpAnyH_take (i := 10) (oi := ⟨some 52, _, _, _, _, _⟩) (v := ?_) rfl (by kernel_rfl) (by kernel_rfl) (by kernel_rfl) (fun _ _ _ h => h) (Or.inl ⟨by rfl, ?_⟩) hSD ?_
              rotate_left 1
              · (intro w hSw; obtain ⟨hSw1, hSw2⟩ := hSw; go_simp; try with_reducible rfl)
              simp only [Act.put, List.setIfInBounds_toArray, List.set_cons_zero, List.set_cons_succ]
              refine wpAnyH_ready (rs := [11]) (by kernel_rfl) (by simp) ?_
              refine AllReadyH.cons (o := ⟨some 53, _, _, _, _, _⟩) rfl (fun K hK => ?_) AllReadyH.nil
              go_simp
              refine (HWR.out).mono ?_
              rintro r w5 ⟨pp, rfl, hf5, hb5⟩
              have HJ5 := hide ((HJ4.out.below (drew_below hb5)).1.more (Nat.le_succ _) (by have := HK80.out; omega))
              have HK5 := hide (HBK.out.below (drew_below hb5))
              have hS5 := And.intro (HAT.out.below HBB.out HJ5.out.bel).2.1 (HAT.out.below HBB.out HJ5.out.bel).2.2.1
              clear hb5 hf5 HJ4
              refine hK.out _ _ hS5 (fun hHeld => ?_)
              clear hK K
              clear hHeld
              refine wpAnyH_take (i := 12) (oi := ⟨some 41, _, _, _, _, _⟩) (v := ?_) rfl (by kernel_rfl) (by kernel_rfl) (by kernel_rfl) (fun _ _ _ h => h) (Or.inl ⟨by rfl, ?_⟩) hS5 ?_
              rotate_left 1
              · (intro w hSw; obtain ⟨hSw1, hSw2⟩ := hSw; go_simp; try with_reducible rfl)
              simp only [Act.put, List.setIfInBounds_toArray, List.set_cons_zero, List.set_cons_succ]
              refine wpAnyH_take (i := 13) (oi := ⟨some 54, _, _, _, _, _⟩) (v := ?_) rfl (by kernel_rfl) (by kernel_rfl) (by kernel_rfl) (fun _ _ _ h => h) (Or.inl ⟨by rfl, ?_⟩) hS5 ?_
              rotate_left 1
              · (intro w hSw; obtain ⟨hSw1, hSw2⟩ := hSw; go_simp; try with_reducible rfl)
              simp only [Act.put, List.setIfInBounds_toArray, List.set_cons_zero, List.set_cons_succ]
              refine wpAnyH_take (i := 14) (oi := ⟨some 55, _, _, _, _, _⟩) (v := ?_) rfl (by kernel_rfl) (by kernel_rfl) (by kernel_rfl) (fun _ _ _ h => h) (Or.inl ⟨by rfl, ?_⟩) hS5 ?_
              rotate_left 1
              · (intro w hSw; obtain ⟨hSw1, hSw2⟩ := hSw; go_simp; try with_reducible rfl)
              simp only [Act.put, List.setIfInBounds_toArray, List.set_cons_zero, List.set_cons_succ]
              refine wpAnyH_take (i := 15) (oi := ⟨some 7, _, _, _, _, _⟩) (v := ?_) rfl (by kernel_rfl) (by kernel_rfl) (by kernel_rfl) (fun _ _ _ h => h) (Or.inl ⟨by rfl, ?_⟩) hS5 ?_
              rotate_left 1
              · (intro w hSw; obtain ⟨hSw1, hSw2⟩ := hSw; go_simp; try with_reducible rfl)
              simp only [Act.put, List.setIfInBounds_toArray, List.set_cons_zero, List.set_cons_succ]
              refine wpAnyH_take (i := 16) (oi := ⟨some 8, _, _, _, _, _⟩) (v := ?_) rfl (by kernel_rfl) (by kernel_rfl) (by kernel_rfl) (fun _ _ _ h => h) (Or.inl ⟨by rfl, ?_⟩) hS5 ?_
              rotate_left 1
              · (intro w hSw; obtain ⟨hSw1, hSw2⟩ := hSw; go_simp; try with_reducible rfl)
              simp only [Act.put, List.setIfInBounds_toArray, List.set_cons_zero, List.set_cons_succ]
              refine wpAnyH_done (by kernel_rfl) ?_ _
              clear hS5
              have HEQ := hide (show blks H E = blks H E from rfl)
              obtain ⟨HJ7, HK7⟩ : Hid (VS w (fun i => False ∨ i = g) v p q 100 h E H D (k + 1 + 1) w5) ∧ Hid (Bks w5 g gc (blks H E)) := ⟨HJ5, HK5⟩
              clear HJ5 HK5
              have HBL2 := hide (blocks_any HJ7.out)
              go_wp2_with fail
              refine HBL2.out.mono ?_
              rintro e w8 ⟨g2, c2, rfl, hg2, hbk2, hb8⟩
              have HJ8 := hide (HJ7.out.below hb8).1
              have HA8 := hide (alike_any hbk2 (HK7.out.below hb8) true (iff_of_true rfl (by first | exact HEQ.out | rfl)))
              clear hb8 hbk2 HBL2 HJ7 HK7
              go_wp2_with fail
              refine HA8.out.mono ?_
              rintro e w9 ⟨rfl, hb9⟩
              have HJ9 := hide ((HJ8.out.below hb9).1.mono (fun _ h => Or.inl h))
              clear hb9 HJ8 HA8
              go_wp2
              go_roundw
              case rel => exact ⟨k + 1, _, _, _, _, by omega, by go_num, HJ9⟩
              case measure => simp [intOf]; omega

        by_cases k2 : kd = 2
        · subst k2
          clear k1
          by_cases hm : E.length < 100 ∧ 1 ≤ nn ∧ nn ≤ 1152921504606846975
          · skip
            as_aux_lemma =>
              have hE := hm.1
              have HPZ := hide HJ4.out.pos
              have HM := hide (HJ4.out.mark HT.out (by have := HK80.out; omega) hm.1 hm.2.1 hm.2.2)
              obtain ⟨z, hz⟩ : ∃ z, h.f + E.length = z := ⟨_, rfl⟩
              rw [hz] at HM
              have hzp : (0 : Int) < (z : Int) := by have := HPZ.out; omega
              have hzp2 : 0 < z := by omega
              clear hm hE hz
              clear HAT4
              go_wp2_with fail
              refine (HM.out).mono ?_
              rintro r w7 ⟨rfl, hj7, hk7⟩
              have HJ7 := hide hj7
              have HK7 := hide (HBK.out.same (hk7 g (Or.inr rfl)))
              have HEQ := hide (show blks H (E ++ [⟨h.g, z, 2, 0, ⟨#[]⟩, nn⟩]) = blks H E from blks_ext fun b _ => blk_mark (by show (2 : Int) ≠ 1; decide) b)
              clear hj7 hk7 HJ4
              have HBL2 := hide (blocks_any HJ7.out)
              go_wp2_with fail
              refine HBL2.out.mono ?_
              rintro e w8 ⟨g2, c2, rfl, hg2, hbk2, hb8⟩
              have HJ8 := hide (HJ7.out.below hb8).1
              have HA8 := hide (alike_any hbk2 (HK7.out.below hb8) true (iff_of_true rfl (by first | exact HEQ.out | rfl)))
              clear hb8 hbk2 HBL2 HJ7 HK7
              go_wp2_with fail
              refine HA8.out.mono ?_
              rintro e w9 ⟨rfl, hb9⟩
              have HJ9 := hide ((HJ8.out.below hb9).1.mono (fun _ h => Or.inl h))
              clear hb9 HJ8 HA8
              go_wp2
              go_roundw
              case rel => exact ⟨k + 1, _, _, _, _, by omega, by go_num, HJ9⟩
              case measure => simp [intOf]; omega
          · skip
            as_aux_lemma =>
              have HM := hide (HJ4.out.mark_no (m := nn) (by
                have := HJ4.out.few.1
                by_cases hE : E.length = 100
                · exact Or.inl hE
                · exact Or.inr fun h => hm ⟨by omega, h.1, h.2⟩))
              clear hm
              clear HAT4
              go_wp2_with fail
              refine (HM.out).mono ?_
              rintro r w7 ⟨pp, rfl, hf7, hb7⟩
              have HJ7 := hide ((HJ4.out.below hb7).1.more (Nat.le_succ _) (by have := HK80.out; omega))
              have HK7 := hide (HBK.out.below hb7)
              have HEQ := hide (show blks H E = blks H E from rfl)
              clear hb7 HJ4
              clear hf7
              have HBL2 := hide (blocks_any HJ7.out)
              go_wp2_with fail
              refine HBL2.out.mono ?_
              rintro e w8 ⟨g2, c2, rfl, hg2, hbk2, hb8⟩
              have HJ8 := hide (HJ7.out.below hb8).1
              have HA8 := hide (alike_any hbk2 (HK7.out.below hb8) true (iff_of_true rfl (by first | exact HEQ.out | rfl)))
              clear hb8 hbk2 HBL2 HJ7 HK7
              go_wp2_with fail
              refine HA8.out.mono ?_
              rintro e w9 ⟨rfl, hb9⟩
              have HJ9 := hide ((HJ8.out.below hb9).1.mono (fun _ h => Or.inl h))
              clear hb9 HJ8 HA8
              go_wp2
              go_roundw
              case rel => exact ⟨k + 1, _, _, _, _, by omega, by go_num, HJ9⟩
              case measure => simp [intOf]; omega
        by_cases k4 : kd = 4
        · subst k4
          clear k1 k2
          as_aux_lemma =>
            clear HAT4
            go_wp2_with fail
            refine (HJ4.out.flush).mono ?_
            rintro r w7 ⟨rfl, hj7, hk7⟩
            have HJ7 := hide (hj7.more (Nat.le_succ _) (by have := HK80.out; omega))
            have HK7 := hide (HBK.out.same (hk7 g (Or.inr rfl)))
            have HEQ := hide (show blks H E = blks H E from rfl)
            clear hj7 hk7 HJ4
            have HBL2 := hide (blocks_any HJ7.out)
            go_wp2_with fail
            refine HBL2.out.mono ?_
            rintro e w8 ⟨g2, c2, rfl, hg2, hbk2, hb8⟩
            have HJ8 := hide (HJ7.out.below hb8).1
            have HA8 := hide (alike_any hbk2 (HK7.out.below hb8) true (iff_of_true rfl (by first | exact HEQ.out | rfl)))
            clear hb8 hbk2 HBL2 HJ7 HK7
            go_wp2_with fail
            refine HA8.out.mono ?_
            rintro e w9 ⟨rfl, hb9⟩
            have HJ9 := hide ((HJ8.out.below hb9).1.mono (fun _ h => Or.inl h))
            clear hb9 HJ8 HA8
            go_wp2
            go_roundw
            case rel => exact ⟨k + 1, _, _, _, _, by omega, by go_num, HJ9⟩
            case measure => simp [intOf]; omega
        by_cases k5 : kd = 5
        · subst k5
          clear k1 k2 k4
          by_cases hu : 0 ≤ nn ∧ nn < ((h.f + E.length : Nat) : Int)
          · skip
            as_aux_lemma =>
              have HCK := hide (HJ4.out.checkpoint HT.out (by have := HK80.out; omega) hu.1 hu.2)
              clear hu
              clear HAT4
              go_wp2_with fail
              refine (HCK.out).mono ?_
              rintro r w7 ⟨rfl, hj7, hk7⟩
              have HJ7 := hide hj7
              have HK7 := hide (HBK.out.same (hk7 g (Or.inr rfl)))
              have HEQ := hide (show blks (hms H E 8) (E.drop (upk h nn)) = blks H E from blks_ext fun b hb => blk_home hb _)
              clear hj7 hk7 HJ4
              have HBL2 := hide (blocks_any HJ7.out)
              go_wp2_with fail
              refine HBL2.out.mono ?_
              rintro e w8 ⟨g2, c2, rfl, hg2, hbk2, hb8⟩
              have HJ8 := hide (HJ7.out.below hb8).1
              have HA8 := hide (alike_any hbk2 (HK7.out.below hb8) true (iff_of_true rfl (by first | exact HEQ.out | rfl)))
              clear hb8 hbk2 HBL2 HJ7 HK7
              go_wp2_with fail
              refine HA8.out.mono ?_
              rintro e w9 ⟨rfl, hb9⟩
              have HJ9 := hide ((HJ8.out.below hb9).1.mono (fun _ h => Or.inl h))
              clear hb9 HJ8 HA8
              go_wp2
              go_roundw
              case rel => exact ⟨k + 1, _, _, _, _, by omega, by go_num, HJ9⟩
              case measure => simp [intOf]; omega
          · skip
            as_aux_lemma =>
              have HCK := hide (HJ4.out.checkpoint_no (u := nn) (by omega))
              clear hu
              clear HAT4
              go_wp2_with fail
              refine (HCK.out).mono ?_
              rintro r w7 ⟨pp, rfl, hf7, hb7⟩
              have HJ7 := hide ((HJ4.out.below hb7).1.more (Nat.le_succ _) (by have := HK80.out; omega))
              have HK7 := hide (HBK.out.below hb7)
              have HEQ := hide (show blks H E = blks H E from rfl)
              clear hb7 HJ4
              clear hf7
              have HBL2 := hide (blocks_any HJ7.out)
              go_wp2_with fail
              refine HBL2.out.mono ?_
              rintro e w8 ⟨g2, c2, rfl, hg2, hbk2, hb8⟩
              have HJ8 := hide (HJ7.out.below hb8).1
              have HA8 := hide (alike_any hbk2 (HK7.out.below hb8) true (iff_of_true rfl (by first | exact HEQ.out | rfl)))
              clear hb8 hbk2 HBL2 HJ7 HK7
              go_wp2_with fail
              refine HA8.out.mono ?_
              rintro e w9 ⟨rfl, hb9⟩
              have HJ9 := hide ((HJ8.out.below hb9).1.mono (fun _ h => Or.inl h))
              clear hb9 HJ8 HA8
              go_wp2
              go_roundw
              case rel => exact ⟨k + 1, _, _, _, _, by omega, by go_num, HJ9⟩
              case measure => simp [intOf]; omega
        as_aux_lemma =>
          have HJ7 := hide (HJ4.out.more (Nat.le_succ _) (by have := HK80.out; omega))
          have HK7 := HBK
          have HEQ := hide (show blks H E = blks H E from rfl)
          clear HAT4 HJ4
          have HBL2 := hide (blocks_any HJ7.out)
          go_wp2_with fail
          refine HBL2.out.mono ?_
          rintro e w8 ⟨g2, c2, rfl, hg2, hbk2, hb8⟩
          have HJ8 := hide (HJ7.out.below hb8).1
          have HA8 := hide (alike_any hbk2 (HK7.out.below hb8) true (iff_of_true rfl (by first | exact HEQ.out | rfl)))
          clear hb8 hbk2 HBL2 HJ7 HK7
          go_wp2_with fail
          refine HA8.out.mono ?_
          rintro e w9 ⟨rfl, hb9⟩
          have HJ9 := hide ((HJ8.out.below hb9).1.mono (fun _ h => Or.inl h))
          clear hb9 HJ8 HA8
          go_wp2
          go_roundw
          case rel => exact ⟨k + 1, _, _, _, _, by omega, by go_num, HJ9⟩
          case measure => simp [intOf]; omega
      · obtain rfl : k = m := by omega
        have HB := hide hj.out.bel
        clear hj hge
        go_wp2
        go_ret
        exact ⟨rfl, HB.out⟩
  · obtain rfl : bv = false := by
      cases bv with
      | false => rfl
      | true => exact absurd (hbv.1 rfl) hfew
    have HA := hide (awake_any w1 (HT.out.below HB1.out HT.out.pos))
    clear hfew hbv HW HS HN Hp
    go_wp2_with fail
    refine HA.out.mono ?_
    rintro e w2 ⟨rfl, hb2⟩
    have HB2 := hide (HB1.out.trans (hb2.mono HB1.out.size))
    clear hb2 HA
    go_wp2
    go_ret
    exact ⟨rfl, HB2.out⟩

theorem Marks_any (A : Option Addr) (m c : Nat) (l : List Oq) (w : World) (ht : Tab w) (hl : l.length = m) (hp : Ops w w.heap.size A l) (hf : OFits l) :
    Calls Tryd.prog 4 #[.slice A m c] w fun r w' => r = .returned (.bool true) ∧ Below w.heap.size w w' := Marks_few A m c l w hl hp hf ht

end Go.Proofs.YtapiogcoipeinaaDoor.Vo

namespace Go.Proofs.YtapiogcoipeinaaDoor.volumeMarks
open Go.ChangeShapes Go.WideShapes Go.ChangeAt Go.RowKit
open Go.ChangeMaps (open_string shut_string)
open Go.Deep
open Rc Vo

theorem laidOut : laidOutB Tryd.prog = true := by kernel_rfl

set_option maxRecDepth 100000 in
theorem lifted (os : Os) (started : os.Started) (H : Type) (enc : TypeId × Value → H) :
    ReturnsInHanded {} Tryd.checked os 4 .any (fun w args => (Rows.volumeMarksSpec.pre enc Tryd.prog Tryd.f4 [] false w args ∧ laidMetH Tryd.prog laidH w) ∧ sizedMet enc Tryd.prog Tryd.f4 (OpenSpec.ofChange Rows.volumeMarksSpec) false w args)
      (Rows.volumeMarksSpec.post enc Tryd.prog Tryd.f4 false true false false) := by
  refine returnsInHanded_of_change_and (C := Tryd.checked) (X := fun w _ => laidMetH Tryd.prog laidH w) (fun _ _ _ hh h => h.of_heap hh) own started (by kernel_rfl) Tryd.func4
    (ChangeSpec.witness_shaped (enc := enc) (C := Tryd.checked) (os := os) (X := fun w _ => laidMetH Tryd.prog laidH w) false (World.doorLaid Tryd.prog 14 os) #[.slice none 0 0] 8 rfl (World.shaped_of_RefB (by kernel_rfl) (by kernel_rfl)) (by kernel_rfl) (by kernel_rfl) (by kernel_rfl) (Vo.door_metH os _)) ?_
  intro W base args ds gs before hval0 hW _ _ hL _
  have hval : ∀ (j : Nat) t v, Tryd.f4.params[j]? = some t → args[j]? = some v → Value.okWide Tryd.prog W .any base t v := hval0
  have hW' := hW
  obtain ⟨p, q, hA0, hV, rfl, hfz, hnd⟩ := hW
  have hA : DataW.TrodAll enc Tryd.prog W 0 (fun _ => true) true Tryd.f4.params.toList args.toList ds p := hA0
  rw [Tryd.params4] at hA hval
  obtain ⟨v0, vs0, d0, ds0, p0, q0, hargs, rfl, rfl, h0, r0⟩ := trodAll_cons hA
  obtain ⟨rfl, rfl, rfl⟩ := trodAll_nil r0
  obtain rfl : args = #[v0] := by cases args; simp_all
  obtain ⟨rfl, rfl⟩ := trodVars_none hV
  obtain ⟨A0, n0, c0, rfl⟩ := okWide_slice Tryd.underlying22 (hval 0 22 v0 rfl rfl)
  have k0 := h0
  have lt0 : ∀ x ∈ p0, x.block < W.heap.size := by obtain ⟨m, hm⟩ := k0; exact DataW.trod_lt m _ _ _ hm
  obtain ⟨l0, hln0, hft0, hpl0⟩ := open_ops h0
  clear hA0 hval0
  refine (Marks_any A0 n0 c0 l0 W (met_of_laidH hL) hln0 hpl0 hft0).mono fun e W' ⟨he, bel⟩ => ?_
  subst he
  exact ⟨_, rfl, _, _, _, [], _, [], hW', trodAll_mk1 (shut_bool Tryd.underlying4 _), (trodAll_cons_mk (Below.trod laidOut (by kernel_rfl) (of_decide_eq_true (by kernel_rfl)) k0 bel lt0) trodAll_mk0), rfl, bel.frame _, fun h => by cases h⟩

theorem row : Rows.VolumeMarksSaid :=
  OpenClaim.holds_of_wide 4 Tryd.f4 rfl rfl rfl rfl rfl rfl rfl ⟨rfl, rfl, rfl, rfl, rfl⟩ rfl rfl rfl rfl rfl (by kernel_rfl) Tryd.func4 (by kernel_rfl)
    (of_decide_eq_true (by kernel_rfl)) (by unfold Func.isWrapper; first | (rw [if_pos (by decide +kernel)]; kernel_rfl) | (rw [if_neg (by decide +kernel)]; exact ⟨rfl, rfl⟩))
    (fun os started H enc _ => lifted os started H enc)

theorem proved : Rows.VolumeMarksCardSaid :=
  Claim7.holds_tied_plain_at .later [] [.data] true Rows.volumeMarksCard.stood.harness true
    row (fun _ h => by cases h) (by kernel_rfl) (fun _ h => by cases h) volumeMarks_row_tie rfl ⟨rfl, rfl⟩ (by kernel_rfl) rfl
    (fun f fn hf hfn => by
      obtain rfl : f = 4 := Option.some.inj ((show Tryd.prog.funcNamed "isobar/isobarlaw11.VolumeMarks" = some 4 by kernel_rfl).symm.trans hf) |>.symm
      obtain rfl : fn = Tryd.f4 := (Option.some.inj (Tryd.func4.symm.trans hfn)).symm
      exact ⟨by kernel_rfl, fun j t ht => by
        rw [Tryd.params4] at ht
        have hm : t ∈ [22] := by simpa using Array.mem_of_getElem? ht
        have hall : ([22].all fun u => !Tryd.prog.wantsStandIn u) = true := by kernel_rfl
        exact (show Tryd.prog.wantsStandIn t = false by simpa using List.all_eq_true.1 hall t hm)⟩)
    (by kernel_rfl)
#print axioms proved
end Go.Proofs.YtapiogcoipeinaaDoor.volumeMarks
