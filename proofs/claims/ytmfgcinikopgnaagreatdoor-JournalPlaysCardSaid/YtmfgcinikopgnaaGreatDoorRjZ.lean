/-
  JournalPlays at every number of sectors, every ring and every script: it returns true, and changes nothing that was there. Conditions: the table of half bytes, and the library's variable errors.errorType, hold what the program's own text lays.
-/
import Derived.BigQuiet
import Derived.Deep.RegionHeld3
import Derived.Test.YtmfgcinikopgnaaGreatDoorRjD

namespace Go.Proofs.YtmfgcinikopgnaaGreatDoor.Jn
open Go.RowKit
open Pk hiding str str_data str_size str_of run_str head_str str_append
open Sm hiding run_str
open Fa Rc Dk

theorem rem20 (t : Nat) : (t : Int).tmod 20 = ((t % 20 : Nat) : Int) := by
  rw [Int.tmod_eq_emod_of_nonneg (by omega)]
  rfl
def opob (q : Oq) : List Value := [.int .i64 q.kind, .int .i64 q.n, .int .i64 q.s, .int .i64 q.k, .int .i64 q.b, .string q.d, .int .i64 q.m, .int .u64 (q.keep : Int)]
theorem op_size : (Tryz.prog.info? 45).map (·.size) = some 8 := by kernel_rfl
theorem op_zero : (Tryz.prog.info? 45).map (·.zero) = some (some (.agg (opob ⟨0, 0, 0, 0, 0, ⟨#[]⟩, 0, 0⟩).toArray)) := by kernel_rfl
theorem op_len (q : Oq) : (Tryz.prog.info? 45).map (·.size) = some (opob q).length := op_size
theorem op_len2 (q : Oq) : (Tryz.prog.info? 45).map (·.size) = some (opob q).toArray.size := op_size
theorem op_same (q : Oq) : (opob ⟨0, 0, 0, 0, 0, ⟨#[]⟩, 0, 0⟩).toArray.size = (opob q).toArray.size := rfl
theorem opob_one (q : Oq) : ∀ u ∈ opob q, u.oneCell' = true := by
  intro u hu
  simp [opob] at hu
  rcases hu with rfl | rfl | rfl | rfl | rfl | rfl | rfl | rfl <;> rfl
theorem cell_kept {w w' : World} {a : Addr} {v : Value} (hb : Below w.heap.size w w') (h : w.cell? a = some v) : w'.cell? a = some v := (hb.cell (World.block_lt_of_cell? w a h)).trans h
theorem oat_range {W : World} {b o : Nat} {q : Oq} (h : OAt W b o q) : W.rangeAt b o (opob q) := by
  obtain ⟨e0, e1, ⟨e2, e3, e4, e5, e6⟩, e7⟩ := h
  intro j u hu
  match j, hu with
  | 0, hu => simp [opob] at hu; subst hu; exact e0
  | 1, hu => simp [opob] at hu; subst hu; exact e1
  | 2, hu => simp [opob] at hu; subst hu; exact e2
  | 3, hu => simp [opob] at hu; subst hu; exact e3
  | 4, hu => simp [opob] at hu; subst hu; exact e4
  | 5, hu => simp [opob] at hu; subst hu; exact e5
  | 6, hu => simp [opob] at hu; subst hu; exact e6
  | 7, hu => simp [opob] at hu; subst hu; exact e7
  | j + 8, hu => simp [opob] at hu

section
variable {w0 w w' : World} {q q2 p n N bo : Nat} {ob : Obj} {D D2 : Nat → Prop}
/-- The program's journal on a new disk, the document's new disk beside it. -/
def Mid (w0 : World) (p q q2 n N bo : Nat) (ob : Obj) (w : World) : Prop :=
  ∃ D2, RDsk w D2 q2 (List.replicate N zero) [] ∧ (∀ k, D2 k → w0.heap.size ≤ k) ∧ JW w0 (fun k => D2 k ∨ k = bo) p q n (all (List.replicate N zer) [(1 % 2, hsec ⟨1, 1, 1, 0⟩)]) [] ⟨1, 1, 1, 0⟩ [] w ∧ w.heap[bo]? = some ob ∧ ¬ D2 bo
theorem Mid.of (hd : Dsk w D q (List.replicate N zero) []) (hr : RDsk w D2 q2 (List.replicate N zero) []) (ht : Tab w0) (h2 : ∀ k, D k → w0.heap.size ≤ k) (h22 : ∀ k, D2 k → w0.heap.size ≤ k) (hdis : ∀ k, D2 k → ¬ D k) (h3 : Below w0.heap.size w0 w) (ho : w.heap[bo]? = some ob) (hbo : bo < w0.heap.size) (h1n : 1 ≤ n) (h20 : n ≤ 20) (h2n : 2 + n ≤ N) :
    Calls Tryz.prog 8 #[.pointer (some ⟨q, 0, none⟩), .int .i64 (n : Int)] w fun e w' => ∃ p', e = .returned (.tuple #[.pointer (some ⟨p', 0, none⟩), .nilIface]) ∧ Mid w0 p' q q2 n N bo ob w' := by
  have hno : ¬ D2 bo := fun hD => by have := h22 bo hD; omega
  have hnd : ¬ D bo := fun hD => by have := h2 bo hD; omega
  refine (JW.start (R := fun k => D2 k ∨ k = bo) (n := n) hd ht h2 h3 (fun k hk => ?_) h1n (by omega) h2n).mono ?_
  · rcases hk with hk | hk
    · exact ⟨hr.lt k hk, hdis k hk⟩
    · subst hk; exact ⟨heap_lt ho, hnd⟩
  · rintro e w' ⟨p', rfl, hj, hk⟩
    exact ⟨p', rfl, D2, rdsk_same hr (fun k hk2 => hk k (Or.inl hk2)), h22, hj, (hk bo (Or.inr rfl)).trans ho, hno⟩
theorem Mid.ropen (m : Mid w0 p q q2 n N bo ob w) (h1n : 1 ≤ n) (h20 : n ≤ 20) (h2n : 2 + n ≤ N) (hN : N ≤ 20) :
    Calls Tryz.prog 9 #[.pointer (some ⟨q2, 0, none⟩), .int .i64 (n : Int)] w fun e w' => ∃ p2, e = .returned (.tuple #[.pointer (some ⟨p2, 0, none⟩), .int .i64 0]) ∧
      TJ w0 p q p2 q2 n (all (List.replicate N zer) [(1 % 2, hsec ⟨1, 1, 1, 0⟩)]) [] ⟨1, 1, 1, 0⟩ [] (all (List.replicate N zer) [(1 % 2, hsec ⟨1, 1, 1, 0⟩)]) [] ⟨1, 1, 1, 0⟩ [] bo ob w' := by
  obtain ⟨D2, hr, hg, hj, ho, hno⟩ := m
  have hc : cur (List.replicate N zero) = some ⟨0, 1, 0, 0⟩ := cur_fresh (by omega)
  refine (ROpen_good w D2 q2 (List.replicate N zero) n ⟨0, 1, 0, 0⟩ hr h1n (by omega) (by simpa using h2n) (by simp; omega) (fun s hs => by rw [(List.mem_replicate.1 hs).2]; rfl) hc).mono ?_
  rintro e w' ⟨p2, rfl, hp⟩
  have hl : load (List.replicate N zero) n 0 n 1 0 = [] := load_fresh h1n h2n
  rw [hl] at hp
  exact ⟨p2, rfl, TJ.stepR hg hj ho hno (fun _ h => h) hp⟩
end

theorem TJ.fullAll {w0 w : World} {p q p2 q2 n bo : Nat} {ob : Obj} {S S2 : List Sec} {L L2 : List Wr} {h h2 : Hd} {E E2 : List Ent} (j : TJ w0 p q p2 q2 n S L h E S2 L2 h2 E2 bo ob w) : Full (all S L) := by
  obtain ⟨Gr, hr, hg, ⟨G, ⟨D, J, X, k1, _⟩, _⟩, ho, hno⟩ := j
  exact k1.full.all k1.fits

set_option maxRecDepth 100000 in
set_option maxHeartbeats 20000000 in
theorem Plays_good (sectors ring : Nat) (A : Option Addr) (n c : Nat) (l : List Oq) (w : World) (ht : Tab w) (hty : Ety w) (hsec : sectors < 256) (hring : ring < 256) (hl : l.length = n) (hp : Ops w w.heap.size A l) (hf : OFits l) (hfew : Few l) (hgood : 1 ≤ ring % 20 ∧ 2 + ring % 20 ≤ sectors % 20) :
    Calls Tryz.prog 3 #[.int .u8 (sectors : Int), .int .u8 (ring : Int), .slice A n c] w fun e w' => e = .returned (.bool true) ∧ Below w.heap.size w w' := by
  obtain ⟨N, hN⟩ : ∃ N, sectors % 20 = N := ⟨_, rfl⟩
  obtain ⟨rg, hrg⟩ : ∃ rg, ring % 20 = rg := ⟨_, rfl⟩
  have hremS := rem20 sectors
  have hremR := rem20 ring
  rw [hN] at hremS hgood
  rw [hrg] at hremR hgood
  have hseci : (sectors : Int) < 256 := by omega
  have hringi : (ring : Int) < 256 := by omega
  have hNi : (N : Int) < 20 := by omega
  have hrgi : (rg : Int) < 20 := by omega
  have HNW := fun w => hide (New_any (N : Int) N w (by omega))
  have HRN := fun w => hide (RNew_any N w (by omega))
  have HT := hide ht
  have HE := hide hty
  have HG := hide hgood
  have HN20 := hide (show N ≤ 20 by omega)
  have HR20 := hide (show rg ≤ 20 by omega)
  have Hl := hide hl
  have Hp := hide hp
  have Hf := hide hf
  have Hfew := hide hfew
  have Hn := hide (show n ≤ 80 by rw [← hl]; exact hfew.1)
  clear ht hty hl hp hf hfew hgood hN hrg hsec hring
  go_enter Tryz.func3, Tryz.ntmps3
  go_wp2_with fail
  refine (awake_any w HT.out).mono ?_
  rintro e w1 ⟨rfl, hb1⟩
  have HB1 := hide hb1
  have HT1 := hide (HT.out.below hb1 HT.out.pos)
  have HE1 := hide (HE.out.below hb1 HE.out.lt)
  clear hb1
  go_wp2_with fail
  refine (few_any A n c l w1 Hl.out ((Hp.out.below HB1.out).more1 HB1.out.size) Hf.out).mono ?_
  rintro e w' ⟨⟨b, rfl, hb⟩, rfl⟩
  obtain rfl : b = true := hb.2 Hfew.out
  clear hb
  have HRO := hide ((Hp.out.below HB1.out).more1 HB1.out.size)
  go_wp2_with fail
  refine (HNW w1).out.mono ?_
  rintro e w2 ⟨q, D, rfl, hd, hD, hb2⟩
  have Hd2 := hide hd
  have HD2 := hide hD
  have HB2 := hide hb2
  clear hd hD hb2 HNW
  go_wp2_with fail
  refine (HRN w2).out.mono ?_
  rintro e w3 ⟨q2, D2, rfl, hr, hDr, hb3⟩
  obtain ⟨ob0, hob⟩ : ∃ ob0, w3.heap[1]? = some ob0 := by
    have hlt : 1 < w3.heap.size := Nat.lt_of_lt_of_le HT1.out.pos (Nat.le_trans HB2.out.size hb3.size)
    exact ⟨_, Array.getElem?_eq_getElem hlt⟩
  have HO := hide (Mid.of (n := rg) (Hd2.out.below hb3) hr HT1.out HD2.out (fun k hk => Nat.le_trans HB2.out.size (hDr k hk)) (fun k hk hk2 => by have := Hd2.out.lt k hk2; have := hDr k hk; omega) (HB2.out.trans (hb3.mono HB2.out.size)) hob HT1.out.pos HG.out.1 HR20.out HG.out.2)
  clear hr hDr hb3 hob Hd2 HD2 HB2 HRN
  go_wp2_with fail
  refine HO.out.mono ?_
  rintro e w4 ⟨p, rfl, hm⟩
  have HM := hide (hm.ropen HG.out.1 HR20.out HG.out.2 HN20.out)
  clear hm HO
  go_wp2_with fail
  refine HM.out.mono ?_
  rintro e w5 ⟨p2, rfl, hj⟩
  have HJ5 := hide hj
  clear hj HM
  go_wp2_with fail
  refine (First_jnil w5 (HJ5.out.ety HE1.out)).mono ?_
  rintro r w6 ⟨rfl, hb6⟩
  have HJ6 := hide (HJ5.out.below hb6)
  clear hb6 HJ5
  go_wp2_with fail
  refine (Code_jnil w6 (HJ6.out.ety HE1.out)).mono ?_
  rintro r w7 ⟨rfl, hb7⟩
  have HJ7 := hide (HJ6.out.below hb7)
  clear hb7 HJ6
  have HV7 := hide (Inv.start (N := N) (n := rg) HG.out.1 HR20.out HG.out.2)
  rw [load_fresh HG.out.1 HG.out.2] at HV7
  go_wp2
  go_loopw [9, 11, 96] (fun jv rv iv wr => ∃ (k p p2 : Nat) (S : List Sec) (L : List Wr) (h : Hd) (E : List Ent) (D bo : Nat) (obj : Obj), k ≤ n ∧ iv = .int .i64 k ∧ jv = .pointer (some ⟨p, 0, none⟩) ∧ rv = .pointer (some ⟨p2, 0, none⟩) ∧ Hid (Inv N rg (1 + k) S L h E D) ∧ Hid (TJ w1 p q p2 q2 rg S L h E S L h E bo obj wr)) (fun _ _ iv _ => n - (intOf iv).toNat)
  case atStart => exact ⟨0, p, p2, _, _, _, _, _, _, _, Nat.zero_le _, rfl, rfl, rfl, HV7, HJ7⟩
  case round =>
    clear HV7 HJ7
    obtain ⟨k, p, p2, S, L, h, E, D, bo, obj, hk, rfl, rfl, rfl, HV0, HTJ⟩ := hrel
    have hn80 : n ≤ 80 := Hn.out
    rcases Nat.lt_or_ge k n with hlt | hge
    · have Hlt := hide hlt
      have hki : (k : Int) < (n : Int) := by omega
      have hn80i : (n : Int) ≤ 80 := by omega
      have HTT := hide (show 1 + k + 1 ≤ 1000 by omega)
      obtain ⟨o, hok⟩ : ∃ o, l[k]? = some o := ⟨_, List.getElem?_eq_getElem (by rw [Hl.out]; exact hlt)⟩
      obtain ⟨b, off, rfl, hat⟩ := (HRO.out.below HTJ.out.bel).at_ hok
      have hfit := Hf.out o (List.mem_of_getElem? hok)
      have HRg := hide (oat_range hat)
      have HDz := hide (show o.d.size ≤ 9223372036854775807 from hfit.2.2.1.2.2.2.1)
      have Hon := hide (show Int64 o.n from hfit.2.1)
      have Hkeep := hide (show o.keep < 18446744073709551616 from hfit.2.2.2)
      clear hok hfit hlt hn80 hk hat
      go_wp2_with (first | with_reducible refine wpList_load_mid rfl 45 (.tmp 101) rfl b (off + k * 8) rfl (opob o) _ HRg.out Tryz.underlying45 rfl (op_len o) ?_ | refine wpList_alloc_told rfl 45 rfl _ op_zero ?_)
      intro w1a Hw1
      have HB1a : Hid (Below wr.heap.size wr w1a) := by rw [Hw1.out]; exact (Below.refl _ _).alloc (Nat.le_refl _) _
      have HG1a : Hid (w1a.heap[wr.heap.size]? = some (.cells (opob ⟨0, 0, 0, 0, 0, ⟨#[]⟩, 0, 0⟩).toArray 45 (0, 0))) := by rw [Hw1.out]; exact heap_alloc_new wr _
      clear Hw1
      go_wp2_with (with_reducible refine wpList_store_row_told rfl 45 (.tmp 16) (.tmp 102) rfl wr.heap.size (opob o).toArray rfl rfl 45 _ HG1a.out (op_len2 o) (op_same o) (all_oneCell_toArray (opob_one o)) ?_)
      intro w2 Hw2
      obtain ⟨kind, on, os, okk, ob, od, om, keep⟩ := o
      have HT2 : Hid (TJ w1 p q p2 q2 rg S L h E S L h E wr.heap.size (.cells #[.int .i64 kind, .int .i64 on, .int .i64 os, .int .i64 okk, .int .i64 ob, .string od, .int .i64 om, .int .u64 (keep : Int)] 45) w2) :=
        HTJ.out.with (by rw [Hw2.out]; exact below_setRow HB1a.out (Nat.le_refl _) _) (Nat.le_refl _) (by rw [Hw2.out]; exact setRow_heap _ _ _ _ _ _ HG1a.out)
      obtain ⟨bx, hbx⟩ : ∃ bx, bx = wr.heap.size := ⟨_, rfl⟩
      rw [← hbx] at HT2 ⊢
      clear Hw2 HB1a HG1a HTJ HRg hbx
      have x0_w2 : w2.cell? ⟨bx, 0, none⟩ = some (.int .i64 kind) := by simp [World.cell?, HT2.out.obj]
      have x1_w2 : w2.cell? ⟨bx, 1, none⟩ = some (.int .i64 on) := by simp [World.cell?, HT2.out.obj]
      have x2_w2 : w2.cell? ⟨bx, 2, none⟩ = some (.int .i64 os) := by simp [World.cell?, HT2.out.obj]
      have x3_w2 : w2.cell? ⟨bx, 3, none⟩ = some (.int .i64 okk) := by simp [World.cell?, HT2.out.obj]
      have x4_w2 : w2.cell? ⟨bx, 4, none⟩ = some (.int .i64 ob) := by simp [World.cell?, HT2.out.obj]
      have x5_w2 : w2.cell? ⟨bx, 5, none⟩ = some (.string od) := by simp [World.cell?, HT2.out.obj]
      have x6_w2 : w2.cell? ⟨bx, 6, none⟩ = some (.int .i64 om) := by simp [World.cell?, HT2.out.obj]
      have x7_w2 : w2.cell? ⟨bx, 7, none⟩ = some (.int .u64 (keep : Int)) := by simp [World.cell?, HT2.out.obj]
      by_cases k1 : kind = 1
      · subst k1
        by_cases hc : E.length < rg ∧ EOk ⟨h.g, h.f + E.length, okk, ob, od, om⟩
        · have Hroom := hide hc.1
          have Hok := hide hc.2
          clear hc
          as_aux_lemma =>
            go_wp2_with fail
            refine (HT2.out.next (by have := HV0.out.lim.f; have := HV0.out.lim.T; omega) (by have := HV0.out.few; have := HV0.out.lim.n16; omega)).mono ?_
            rintro r w3 ⟨rfl, hb3⟩
            have HT3 := hide (HT2.out.below hb3)
            obtain ⟨nx0, hnx0⟩ : ∃ nx0, h.f + E.length = nx0 := ⟨_, rfl⟩
            have Hnx0 := hide hnx0
            rw [hnx0]
            clear hb3 HT2 hnx0
            clear x0_w2 x1_w2 x2_w2 x3_w2 x4_w2 x5_w2 x6_w2 x7_w2
            have x0_w3 : w3.cell? ⟨bx, 0, none⟩ = some (.int .i64 1) := by simp [World.cell?, HT3.out.obj]
            have x1_w3 : w3.cell? ⟨bx, 1, none⟩ = some (.int .i64 on) := by simp [World.cell?, HT3.out.obj]
            have x2_w3 : w3.cell? ⟨bx, 2, none⟩ = some (.int .i64 os) := by simp [World.cell?, HT3.out.obj]
            have x3_w3 : w3.cell? ⟨bx, 3, none⟩ = some (.int .i64 okk) := by simp [World.cell?, HT3.out.obj]
            have x4_w3 : w3.cell? ⟨bx, 4, none⟩ = some (.int .i64 ob) := by simp [World.cell?, HT3.out.obj]
            have x5_w3 : w3.cell? ⟨bx, 5, none⟩ = some (.string od) := by simp [World.cell?, HT3.out.obj]
            have x6_w3 : w3.cell? ⟨bx, 6, none⟩ = some (.int .i64 om) := by simp [World.cell?, HT3.out.obj]
            have x7_w3 : w3.cell? ⟨bx, 7, none⟩ = some (.int .u64 (keep : Int)) := by simp [World.cell?, HT3.out.obj]
            go_wp2_with fail
            refine (HT3.out.append HT1.out (by have := HV0.out.lim.f; have := HV0.out.lim.T; omega) (by have := HV0.out.lim.n16; omega) Hroom.out Hok.out HV0.out.ring (by have := HV0.out.short; omega)).mono ?_
            rintro r w4 ⟨rfl, hj4⟩
            have HT4 := hide hj4
            rw [Hnx0.out]
            clear hj4 HT3
            clear x0_w3 x1_w3 x2_w3 x3_w3 x4_w3 x5_w3 x6_w3 x7_w3
            have x0_w4 : w4.cell? ⟨bx, 0, none⟩ = some (.int .i64 1) := by simp [World.cell?, HT4.out.obj]
            have x1_w4 : w4.cell? ⟨bx, 1, none⟩ = some (.int .i64 on) := by simp [World.cell?, HT4.out.obj]
            have x2_w4 : w4.cell? ⟨bx, 2, none⟩ = some (.int .i64 os) := by simp [World.cell?, HT4.out.obj]
            have x3_w4 : w4.cell? ⟨bx, 3, none⟩ = some (.int .i64 okk) := by simp [World.cell?, HT4.out.obj]
            have x4_w4 : w4.cell? ⟨bx, 4, none⟩ = some (.int .i64 ob) := by simp [World.cell?, HT4.out.obj]
            have x5_w4 : w4.cell? ⟨bx, 5, none⟩ = some (.string od) := by simp [World.cell?, HT4.out.obj]
            have x6_w4 : w4.cell? ⟨bx, 6, none⟩ = some (.int .i64 om) := by simp [World.cell?, HT4.out.obj]
            have x7_w4 : w4.cell? ⟨bx, 7, none⟩ = some (.int .u64 (keep : Int)) := by simp [World.cell?, HT4.out.obj]
            go_wp2_with fail
            refine (HT4.out.rappend (by have := HV0.out.lim.f; have := HV0.out.lim.T; omega) (by have := HV0.out.lim.n16; omega) Hroom.out Hok.out HV0.out.ring (by have := HV0.out.short; omega)).mono ?_
            rintro r w5 ⟨rfl, hj5⟩
            have HT5 := hide hj5
            rw [Hnx0.out]
            clear hj5 HT4
            clear x0_w4 x1_w4 x2_w4 x3_w4 x4_w4 x5_w4 x6_w4 x7_w4
            go_wp2_with fail
            refine (First_jnil w5 (HT5.out.ety HE1.out)).mono ?_
            rintro r w6 ⟨rfl, hb6⟩
            have HT6 := hide (HT5.out.below hb6)
            clear hb6 HT5
            go_wp2_with fail
            refine (Code_jnil w6 (HT6.out.ety HE1.out)).mono ?_
            rintro r w7 ⟨rfl, hb7⟩
            have HT7 := hide (HT6.out.below hb7)
            clear hb7 HT6
            have HV1 := hide (HV0.out.append HTT.out Hroom.out Hok.out)
            clear HV0 Hnx0
            obtain ⟨L1, hL1⟩ : ∃ X, X = L ++ [(2 + (h.f + E.length) % rg, esec ⟨h.g, h.f + E.length, okk, ob, od, om⟩)] := ⟨_, rfl⟩
            obtain ⟨E1, hE1⟩ : ∃ X, X = E ++ [⟨h.g, h.f + E.length, okk, ob, od, om⟩] := ⟨_, rfl⟩
            rw [← hL1, ← hE1] at HV1 HT7
            clear hL1 hE1 Hok Hroom
            have HT80 := hide (HT7.out.below (Below.refl w7.heap.size w7).drew)
            obtain ⟨el, hel⟩ : ∃ el, E1.length = el := ⟨_, rfl⟩
            have Hel := hide hel
            obtain ⟨ll, hll⟩ : ∃ ll, L1.length = ll := ⟨_, rfl⟩
            have Hll := hide (show ((L1.length : Nat) : Int) = (ll : Int) by rw [hll])
            obtain ⟨nx, hnx⟩ : ∃ nx, h.f + E1.length = nx := ⟨_, rfl⟩
            have Hnx := hide hnx
            obtain ⟨rm, hrm0⟩ : ∃ rm, rg - el = rm := ⟨_, rfl⟩
            have hele : el ≤ rg := by rw [← hel]; exact HV1.out.few
            have hrmi : (rg : Int) - (el : Int) = (rm : Int) := by omega
            have hrg20 := HV1.out.lim.n16
            have hwrm : IntKind.i64.wrap (rm : Int) = (rm : Int) := by rw [IntKind.wrap_i64]; omega
            have Hrm := hide (show (rg : Int) - (E1.length : Int) = (rm : Int) by rw [hel]; exact hrmi)
            obtain ⟨A2, c2, B2, d2, k6, ha, k1, k1q⟩ := HT7.out.cells
            rw [hel] at k6
            rw [hll] at k1q
            have HA80 := hide (show ARow w7.drew A2 E1 from ha)
            have hS80 : w7.drew.cell? ⟨p2, 6, none⟩ = some (.slice A2 el c2) ∧ w7.drew.cell? ⟨p2, 1, none⟩ = some (.int .i64 (rg : Int)) ∧ w7.drew.cell? ⟨q2, 1, none⟩ = some (.slice B2 ll d2) := ⟨k6, k1, k1q⟩
            clear hel hll hnx k6 ha k1 k1q hrm0 hele hrg20 HT7
            go_wp2_with fail
            refine wp_region_held (S := (fun W => W.cell? ⟨p2, 6, none⟩ = some (.slice A2 el c2) ∧ W.cell? ⟨p2, 1, none⟩ = some (.int .i64 (rg : Int)) ∧ W.cell? ⟨q2, 1, none⟩ = some (.slice B2 ll d2))) (by kernel_rfl) ?_
            change wpAnyH _ _ _ _ _ _ _ _ (World.drew _)
            refine wpAnyH_take (i := 0) (oi := ⟨some 216, _, _, _, _, _⟩) (v := ?_) rfl (by kernel_rfl) (by kernel_rfl) (by kernel_rfl) (fun _ _ _ h => h) (Or.inl ⟨by rfl, ?_⟩) hS80 ?_
            rotate_left 1
            · (intro w hSw; obtain ⟨hSw1, hSw2, hSw3⟩ := hSw; go_simp; try with_reducible rfl)
            simp only [Act.put, List.setIfInBounds_toArray, List.set_cons_zero, List.set_cons_succ]
            refine wpAnyH_take (i := 2) (oi := ⟨some 218, _, _, _, _, _⟩) (v := ?_) rfl (by kernel_rfl) (by kernel_rfl) (by kernel_rfl) (fun _ _ _ h => h) (Or.inl ⟨by rfl, ?_⟩) hS80 ?_
            rotate_left 1
            · (intro w hSw; obtain ⟨hSw1, hSw2, hSw3⟩ := hSw; go_simp; try with_reducible rfl)
            simp only [Act.put, List.setIfInBounds_toArray, List.set_cons_zero, List.set_cons_succ]
            refine wpAnyH_take (i := 3) (oi := ⟨some 219, _, _, _, _, _⟩) (v := ?_) rfl (by kernel_rfl) (by kernel_rfl) (by kernel_rfl) (fun _ _ _ h => h) (Or.inl ⟨by rfl, ?_⟩) hS80 ?_
            rotate_left 1
            · (intro w hSw; obtain ⟨hSw1, hSw2, hSw3⟩ := hSw; go_simp; try with_reducible rfl)
            simp only [Act.put, List.setIfInBounds_toArray, List.set_cons_zero, List.set_cons_succ]
            refine wpAnyH_take (i := 4) (oi := ⟨some 220, _, _, _, _, _⟩) (v := ?_) rfl (by kernel_rfl) (by kernel_rfl) (by kernel_rfl) (fun _ _ _ h => h) (Or.inl ⟨by rfl, ?_⟩) hS80 ?_
            rotate_left 1
            · (intro w hSw; obtain ⟨hSw1, hSw2, hSw3⟩ := hSw; go_simp; try with_reducible rfl)
            simp only [Act.put, List.setIfInBounds_toArray, List.set_cons_zero, List.set_cons_succ]
            refine wpAnyH_take (i := 5) (oi := ⟨some 221, _, _, _, _, _⟩) (v := ?_) rfl (by kernel_rfl) (by kernel_rfl) (by kernel_rfl) (fun _ _ _ h => h) (Or.inl ⟨by rfl, ?_⟩) hS80 ?_
            rotate_left 1
            · (intro w hSw; obtain ⟨hSw1, hSw2, hSw3⟩ := hSw; go_simp; try with_reducible rfl)
            simp only [Act.put, List.setIfInBounds_toArray, List.set_cons_zero, List.set_cons_succ]
            refine wpAnyH_ready (rs := [1]) (by kernel_rfl) (by simp) ?_
            refine AllReadyH.cons (o := ⟨some 217, _, _, _, _, _⟩) rfl (fun K hK => ?_) AllReadyH.nil
            go_simp
            refine (HT80.out.records (by have := Hel.out; have := HV1.out.few; have := HV1.out.lim.n16; omega)).mono ?_
            rintro r w81 ⟨A81, c81, rfl, ha81, hb81⟩
            rw [Hel.out]
            have hS81 : w81.cell? ⟨p2, 6, none⟩ = some (.slice A2 el c2) ∧ w81.cell? ⟨p2, 1, none⟩ = some (.int .i64 (rg : Int)) ∧ w81.cell? ⟨q2, 1, none⟩ = some (.slice B2 ll d2) := ⟨cell_kept hb81 hS80.1, cell_kept hb81 hS80.2.1, cell_kept hb81 hS80.2.2⟩
            have HT81 := hide (HT80.out.below hb81)
            have HA81 := hide ha81
            have HA2 := hide ((HA80.out).below hb81)
            clear hb81 ha81
            refine hK.out _ _ hS81 (fun hHeld => ?_)
            clear hK K
            clear hHeld
            refine wpAnyH_ready (rs := [6]) (by kernel_rfl) (by simp) ?_
            refine AllReadyH.cons (o := ⟨some 222, _, _, _, _, _⟩) rfl (fun K hK => ?_) AllReadyH.nil
            go_simp
            refine (Same_two w81 E1 el A81 A2 c81 c2 Hel.out (by have := Hel.out; have := HV1.out.few; have := HV1.out.lim.n16; omega) HA81.out HA2.out).mono ?_
            rintro r w82 ⟨rfl, hb82⟩
            have hS82 : w82.cell? ⟨p2, 6, none⟩ = some (.slice A2 el c2) ∧ w82.cell? ⟨p2, 1, none⟩ = some (.int .i64 (rg : Int)) ∧ w82.cell? ⟨q2, 1, none⟩ = some (.slice B2 ll d2) := ⟨cell_kept hb82 hS81.1, cell_kept hb82 hS81.2.1, cell_kept hb82 hS81.2.2⟩
            have HT82 := hide (HT81.out.below hb82)
            clear hb82 HA81 HA2
            refine hK.out _ _ hS82 (fun hHeld => ?_)
            clear hK K
            clear hHeld
            refine wpAnyH_take (i := 7) (oi := ⟨some 223, _, _, _, _, _⟩) (v := ?_) rfl (by kernel_rfl) (by kernel_rfl) (by kernel_rfl) (fun _ _ _ h => h) (Or.inl ⟨by rfl, ?_⟩) hS82 ?_
            rotate_left 1
            · (intro w hSw; obtain ⟨hSw1, hSw2, hSw3⟩ := hSw; go_simp; try with_reducible rfl)
            simp only [Act.put, List.setIfInBounds_toArray, List.set_cons_zero, List.set_cons_succ]
            refine wpAnyH_take (i := 8) (oi := ⟨some 224, _, _, _, _, _⟩) (v := ?_) rfl (by kernel_rfl) (by kernel_rfl) (by kernel_rfl) (fun _ _ _ h => h) (Or.inl ⟨by rfl, ?_⟩) hS82 ?_
            rotate_left 1
            · (intro w hSw; obtain ⟨hSw1, hSw2, hSw3⟩ := hSw; go_simp; try with_reducible rfl)
            simp only [Act.put, List.setIfInBounds_toArray, List.set_cons_zero, List.set_cons_succ]
            refine wpAnyH_take (i := 9) (oi := ⟨some 225, _, _, _, _, _⟩) (v := ?_) rfl (by kernel_rfl) (by kernel_rfl) (by kernel_rfl) (fun _ _ _ h => h) (Or.inl ⟨by rfl, ?_⟩) hS82 ?_
            rotate_left 1
            · (intro w hSw; obtain ⟨hSw1, hSw2, hSw3⟩ := hSw; go_simp; try with_reducible rfl)
            simp only [Act.put, List.setIfInBounds_toArray, List.set_cons_zero, List.set_cons_succ]
            refine wpAnyH_take (i := 11) (oi := ⟨some 227, _, _, _, _, _⟩) (v := ?_) rfl (by kernel_rfl) (by kernel_rfl) (by kernel_rfl) (fun _ _ _ h => h) (Or.inl ⟨by rfl, ?_⟩) hS82 ?_
            rotate_left 1
            · (intro w hSw; obtain ⟨hSw1, hSw2, hSw3⟩ := hSw; go_simp; try with_reducible rfl)
            simp only [Act.put, List.setIfInBounds_toArray, List.set_cons_zero, List.set_cons_succ]
            refine wpAnyH_ready (rs := [10]) (by kernel_rfl) (by simp) ?_
            refine AllReadyH.cons (o := ⟨some 226, _, _, _, _, _⟩) rfl (fun K hK => ?_) AllReadyH.nil
            go_simp
            refine (HT82.out.next (by have := HV1.out.lim.f; have := HV1.out.lim.T; omega) (by have := HV1.out.few; have := HV1.out.lim.n16; omega)).mono ?_
            rintro r w83 ⟨rfl, hb83⟩
            rw [Hnx.out]
            have hS83 : w83.cell? ⟨p2, 6, none⟩ = some (.slice A2 el c2) ∧ w83.cell? ⟨p2, 1, none⟩ = some (.int .i64 (rg : Int)) ∧ w83.cell? ⟨q2, 1, none⟩ = some (.slice B2 ll d2) := ⟨cell_kept hb83 hS82.1, cell_kept hb83 hS82.2.1, cell_kept hb83 hS82.2.2⟩
            have HT83 := hide (HT82.out.below hb83)
            clear hb83
            refine hK.out _ _ hS83 (fun hHeld => ?_)
            clear hK K
            clear hHeld
            refine wpAnyH_ready (rs := [12]) (by kernel_rfl) (by simp) ?_
            refine AllReadyH.cons (o := ⟨some 228, _, _, _, _, _⟩) rfl (fun K hK => ?_) AllReadyH.nil
            go_simp
            refine (HT83.out.rnext (by have := HV1.out.lim.f; have := HV1.out.lim.T; omega) (by have := HV1.out.few; have := HV1.out.lim.n16; omega)).mono ?_
            rintro r w84 ⟨rfl, hb84⟩
            rw [Hnx.out]
            have hS84 : w84.cell? ⟨p2, 6, none⟩ = some (.slice A2 el c2) ∧ w84.cell? ⟨p2, 1, none⟩ = some (.int .i64 (rg : Int)) ∧ w84.cell? ⟨q2, 1, none⟩ = some (.slice B2 ll d2) := ⟨cell_kept hb84 hS83.1, cell_kept hb84 hS83.2.1, cell_kept hb84 hS83.2.2⟩
            have HT84 := hide (HT83.out.below hb84)
            clear hb84
            refine hK.out _ _ hS84 (fun hHeld => ?_)
            clear hK K
            clear hHeld
            refine wpAnyH_take (i := 13) (oi := ⟨some 229, _, _, _, _, _⟩) (v := ?_) rfl (by kernel_rfl) (by kernel_rfl) (by kernel_rfl) (fun _ _ _ h => h) (Or.inl ⟨by rfl, ?_⟩) hS84 ?_
            rotate_left 1
            · (intro w hSw; obtain ⟨hSw1, hSw2, hSw3⟩ := hSw; go_simp; try with_reducible rfl)
            simp only [Act.put, List.setIfInBounds_toArray, List.set_cons_zero, List.set_cons_succ]
            refine wpAnyH_take (i := 14) (oi := ⟨some 230, _, _, _, _, _⟩) (v := ?_) rfl (by kernel_rfl) (by kernel_rfl) (by kernel_rfl) (fun _ _ _ h => h) (Or.inl ⟨by rfl, ?_⟩) hS84 ?_
            rotate_left 1
            · (intro w hSw; obtain ⟨hSw1, hSw2, hSw3⟩ := hSw; go_simp; try with_reducible rfl)
            simp only [Act.put, List.setIfInBounds_toArray, List.set_cons_zero, List.set_cons_succ]
            refine wpAnyH_take (i := 15) (oi := ⟨some 231, _, _, _, _, _⟩) (v := ?_) rfl (by kernel_rfl) (by kernel_rfl) (by kernel_rfl) (fun _ _ _ h => h) (Or.inl ⟨by rfl, ?_⟩) hS84 ?_
            rotate_left 1
            · (intro w hSw; obtain ⟨hSw1, hSw2, hSw3⟩ := hSw; go_simp; try with_reducible rfl)
            simp only [Act.put, List.setIfInBounds_toArray, List.set_cons_zero, List.set_cons_succ]
            refine wpAnyH_take (i := 16) (oi := ⟨some 232, _, _, _, _, _⟩) (v := ?_) rfl (by kernel_rfl) (by kernel_rfl) (by kernel_rfl) (fun _ _ _ h => h) (Or.inl ⟨by rfl, ?_⟩) hS84 ?_
            rotate_left 1
            · (intro w hSw; obtain ⟨hSw1, hSw2, hSw3⟩ := hSw; go_simp; try with_reducible rfl)
            simp only [Act.put, List.setIfInBounds_toArray, List.set_cons_zero, List.set_cons_succ]
            refine wpAnyH_take (i := 18) (oi := ⟨some 234, _, _, _, _, _⟩) (v := ?_) rfl (by kernel_rfl) (by kernel_rfl) (by kernel_rfl) (fun _ _ _ h => h) (Or.inl ⟨by rfl, ?_⟩) hS84 ?_
            rotate_left 1
            · (intro w hSw; obtain ⟨hSw1, hSw2, hSw3⟩ := hSw; go_simp; try with_reducible rfl)
            simp only [Act.put, List.setIfInBounds_toArray, List.set_cons_zero, List.set_cons_succ]
            refine wpAnyH_take (i := 19) (oi := ⟨some 235, _, _, _, _, _⟩) (v := ?_) rfl (by kernel_rfl) (by kernel_rfl) (by kernel_rfl) (fun _ _ _ h => h) (Or.inl ⟨by rfl, ?_⟩) hS84 ?_
            rotate_left 1
            · (intro w hSw; obtain ⟨hSw1, hSw2, hSw3⟩ := hSw; go_simp; try with_reducible rfl)
            simp only [Act.put, List.setIfInBounds_toArray, List.set_cons_zero, List.set_cons_succ]
            refine wpAnyH_take (i := 20) (oi := ⟨some 236, _, _, _, _, _⟩) (v := ?_) rfl (by kernel_rfl) (by kernel_rfl) (by kernel_rfl) (fun _ _ _ h => h) (Or.inl ⟨by rfl, ?_⟩) hS84 ?_
            rotate_left 1
            · (intro w hSw; obtain ⟨hSw1, hSw2, hSw3⟩ := hSw; go_simp; try with_reducible rfl)
            simp only [Act.put, List.setIfInBounds_toArray, List.set_cons_zero, List.set_cons_succ]
            refine wpAnyH_take (i := 21) (oi := ⟨some 237, _, _, _, _, _⟩) (v := ?_) rfl (by kernel_rfl) (by kernel_rfl) (by kernel_rfl) (fun _ _ _ h => h) (Or.inl ⟨by rfl, ?_⟩) hS84 ?_
            rotate_left 1
            · (intro w hSw; obtain ⟨hSw1, hSw2, hSw3⟩ := hSw; go_simp; try with_reducible rfl)
            simp only [Act.put, List.setIfInBounds_toArray, List.set_cons_zero, List.set_cons_succ]
            refine wpAnyH_take (i := 22) (oi := ⟨some 238, _, _, _, _, _⟩) (v := ?_) rfl (by kernel_rfl) (by kernel_rfl) (by kernel_rfl) (fun _ _ _ h => h) (Or.inl ⟨by rfl, ?_⟩) hS84 ?_
            rotate_left 1
            · (intro w hSw; obtain ⟨hSw1, hSw2, hSw3⟩ := hSw; go_simp; try with_reducible rfl)
            simp only [Act.put, List.setIfInBounds_toArray, List.set_cons_zero, List.set_cons_succ]
            refine wpAnyH_take (i := 23) (oi := ⟨some 239, _, _, _, _, _⟩) (v := ?_) rfl (by kernel_rfl) (by kernel_rfl) (by kernel_rfl) (fun _ _ _ h => h) (Or.inl ⟨by rfl, ?_⟩) hS84 ?_
            rotate_left 1
            · (intro w hSw; obtain ⟨hSw1, hSw2, hSw3⟩ := hSw; go_simp; try with_reducible rfl)
            simp only [Act.put, List.setIfInBounds_toArray, List.set_cons_zero, List.set_cons_succ]
            refine wpAnyH_take (i := 24) (oi := ⟨some 240, _, _, _, _, _⟩) (v := ?_) rfl (by kernel_rfl) (by kernel_rfl) (by kernel_rfl) (fun _ _ _ h => h) (Or.inl ⟨by rfl, ?_⟩) hS84 ?_
            rotate_left 1
            · (intro w hSw; obtain ⟨hSw1, hSw2, hSw3⟩ := hSw; go_simp; try with_reducible rfl)
            simp only [Act.put, List.setIfInBounds_toArray, List.set_cons_zero, List.set_cons_succ]
            refine wpAnyH_take (i := 25) (oi := ⟨some 241, _, _, _, _, _⟩) (v := ?_) rfl (by kernel_rfl) (by kernel_rfl) (by kernel_rfl) (fun _ _ _ h => h) (Or.inl ⟨by rfl, ?_⟩) hS84 ?_
            rotate_left 1
            · (intro w hSw; obtain ⟨hSw1, hSw2, hSw3⟩ := hSw; go_simp; try with_reducible rfl)
            simp only [Act.put, List.setIfInBounds_toArray, List.set_cons_zero, List.set_cons_succ]
            refine wpAnyH_take (i := 26) (oi := ⟨some 242, _, _, _, _, _⟩) (v := ?_) rfl (by kernel_rfl) (by kernel_rfl) (by kernel_rfl) (fun _ _ _ h => h) (Or.inl ⟨by rfl, ?_⟩) hS84 ?_
            rotate_left 1
            · (intro w hSw; obtain ⟨hSw1, hSw2, hSw3⟩ := hSw; go_simp; try with_reducible rfl)
            simp only [Act.put, List.setIfInBounds_toArray, List.set_cons_zero, List.set_cons_succ]
            refine wpAnyH_take (i := 27) (oi := ⟨some 243, _, _, _, _, _⟩) (v := ?_) rfl (by kernel_rfl) (by kernel_rfl) (by kernel_rfl) (fun _ _ _ h => h) (Or.inl ⟨by rfl, ?_⟩) hS84 ?_
            rotate_left 1
            · (intro w hSw; obtain ⟨hSw1, hSw2, hSw3⟩ := hSw; go_simp; try with_reducible rfl)
            simp only [Act.put, List.setIfInBounds_toArray, List.set_cons_zero, List.set_cons_succ]
            refine wpAnyH_ready (rs := [17]) (by kernel_rfl) (by simp) ?_
            refine AllReadyH.cons (o := ⟨some 233, _, _, _, _, _⟩) rfl (fun K hK => ?_) AllReadyH.nil
            go_simp
            refine (HT84.out.room (by have := HV1.out.lim.n16; omega) HV1.out.few).mono ?_
            rintro r w85 ⟨rfl, hb85⟩
            rw [Hrm.out]
            have hS85 : w85.cell? ⟨p2, 6, none⟩ = some (.slice A2 el c2) ∧ w85.cell? ⟨p2, 1, none⟩ = some (.int .i64 (rg : Int)) ∧ w85.cell? ⟨q2, 1, none⟩ = some (.slice B2 ll d2) := ⟨cell_kept hb85 hS84.1, cell_kept hb85 hS84.2.1, cell_kept hb85 hS84.2.2⟩
            have HT85 := hide (HT84.out.below hb85)
            clear hb85
            refine hK.out _ _ hS85 (fun hHeld => ?_)
            clear hK K
            clear hHeld
            refine wpAnyH_take (i := 28) (oi := ⟨some 244, _, _, _, _, _⟩) (v := ?_) rfl (by kernel_rfl) (by kernel_rfl) (by kernel_rfl) (fun _ _ _ h => h) (Or.inl ⟨by rfl, ?_⟩) hS85 ?_
            rotate_left 1
            · (intro w hSw; obtain ⟨hSw1, hSw2, hSw3⟩ := hSw; go_simp; try with_reducible rfl)
            simp only [Act.put, List.setIfInBounds_toArray, List.set_cons_zero, List.set_cons_succ]
            refine wpAnyH_take (i := 29) (oi := ⟨some 245, _, _, _, _, _⟩) (v := ?_) rfl (by kernel_rfl) (by kernel_rfl) (by kernel_rfl) (fun _ _ _ h => h) (Or.inl ⟨by rfl, ?_⟩) hS85 ?_
            rotate_left 1
            · (intro w hSw; obtain ⟨hSw1, hSw2, hSw3⟩ := hSw; go_simp; try with_reducible rfl)
            simp only [Act.put, List.setIfInBounds_toArray, List.set_cons_zero, List.set_cons_succ]
            refine wpAnyH_take (i := 30) (oi := ⟨some 246, _, _, _, _, _⟩) (v := ?_) rfl (by kernel_rfl) (by kernel_rfl) (by kernel_rfl) (fun _ _ _ h => h) (Or.inl ⟨by rfl, ?_⟩) hS85 ?_
            rotate_left 1
            · (intro w hSw; obtain ⟨hSw1, hSw2, hSw3⟩ := hSw; go_simp; try with_reducible rfl)
            simp only [Act.put, List.setIfInBounds_toArray, List.set_cons_zero, List.set_cons_succ]
            refine wpAnyH_take (i := 31) (oi := ⟨some 247, _, _, _, _, _⟩) (v := ?_) rfl (by kernel_rfl) (by kernel_rfl) (by kernel_rfl) (fun _ _ _ h => h) (Or.inl ⟨by rfl, ?_⟩) hS85 ?_
            rotate_left 1
            · (intro w hSw; obtain ⟨hSw1, hSw2, hSw3⟩ := hSw; go_simp; try with_reducible rfl)
            simp only [Act.put, List.setIfInBounds_toArray, List.set_cons_zero, List.set_cons_succ]
            refine wpAnyH_take (i := 33) (oi := ⟨some 249, _, _, _, _, _⟩) (v := ?_) rfl (by kernel_rfl) (by kernel_rfl) (by kernel_rfl) (fun _ _ _ h => h) (Or.inl ⟨by rfl, ?_⟩) hS85 ?_
            rotate_left 1
            · (intro w hSw; obtain ⟨hSw1, hSw2, hSw3⟩ := hSw; go_simp; try with_reducible rfl)
            simp only [Act.put, List.setIfInBounds_toArray, List.set_cons_zero, List.set_cons_succ]
            refine wpAnyH_take (i := 34) (oi := ⟨some 250, _, _, _, _, _⟩) (v := ?_) rfl (by kernel_rfl) (by kernel_rfl) (by kernel_rfl) (fun _ _ _ h => h) (Or.inl ⟨by rfl, ?_⟩) hS85 ?_
            rotate_left 1
            · (intro w hSw; obtain ⟨hSw1, hSw2, hSw3⟩ := hSw; go_simp; try with_reducible rfl)
            simp only [Act.put, List.setIfInBounds_toArray, List.set_cons_zero, List.set_cons_succ]
            refine wpAnyH_take (i := 35) (oi := ⟨some 251, _, _, _, _, _⟩) (v := ?_) rfl (by kernel_rfl) (by kernel_rfl) (by kernel_rfl) (fun _ _ _ h => h) (Or.inl ⟨by rfl, ?_⟩) hS85 ?_
            rotate_left 1
            · (intro w hSw; obtain ⟨hSw1, hSw2, hSw3⟩ := hSw; go_simp; try with_reducible rfl)
            simp only [Act.put, List.setIfInBounds_toArray, List.set_cons_zero, List.set_cons_succ]
            refine wpAnyH_take (i := 36) (oi := ⟨some 252, _, _, _, _, _⟩) (v := ?_) rfl (by kernel_rfl) (by kernel_rfl) (by kernel_rfl) (fun _ _ _ h => h) (Or.inl ⟨by rfl, ?_⟩) hS85 ?_
            rotate_left 1
            · (intro w hSw; obtain ⟨hSw1, hSw2, hSw3⟩ := hSw; go_simp; try with_reducible rfl)
            simp only [Act.put, List.setIfInBounds_toArray, List.set_cons_zero, List.set_cons_succ]
            refine wpAnyH_take (i := 37) (oi := ⟨some 253, _, _, _, _, _⟩) (v := ?_) rfl (by kernel_rfl) (by kernel_rfl) (by kernel_rfl) (fun _ _ _ h => h) (Or.inl ⟨by rfl, ?_⟩) hS85 ?_
            rotate_left 1
            · (intro w hSw; obtain ⟨hSw1, hSw2, hSw3⟩ := hSw; go_simp; try with_reducible rfl)
            simp only [Act.put, List.setIfInBounds_toArray, List.set_cons_zero, List.set_cons_succ]
            refine wpAnyH_ready (rs := [32]) (by kernel_rfl) (by simp) ?_
            refine AllReadyH.cons (o := ⟨some 248, _, _, _, _, _⟩) rfl (fun K hK => ?_) AllReadyH.nil
            go_simp
            refine (HT85.out.loose).mono ?_
            rintro r w86 ⟨rfl, rfl⟩
            rw [Hll.out]
            refine hK.out _ _ hS85 (fun hHeld => ?_)
            clear hK K
            clear hHeld
            refine wpAnyH_take (i := 38) (oi := ⟨some 254, _, _, _, _, _⟩) (v := ?_) rfl (by kernel_rfl) (by kernel_rfl) (by kernel_rfl) (fun _ _ _ h => h) (Or.inl ⟨by rfl, ?_⟩) hS85 ?_
            rotate_left 1
            · (intro w hSw; obtain ⟨hSw1, hSw2, hSw3⟩ := hSw; go_simp; try with_reducible rfl)
            simp only [Act.put, List.setIfInBounds_toArray, List.set_cons_zero, List.set_cons_succ]
            refine wpAnyH_take (i := 39) (oi := ⟨some 255, _, _, _, _, _⟩) (v := ?_) rfl (by kernel_rfl) (by kernel_rfl) (by kernel_rfl) (fun _ _ _ h => h) (Or.inl ⟨by rfl, ?_⟩) hS85 ?_
            rotate_left 1
            · (intro w hSw; obtain ⟨hSw1, hSw2, hSw3⟩ := hSw; go_simp; try with_reducible rfl)
            simp only [Act.put, List.setIfInBounds_toArray, List.set_cons_zero, List.set_cons_succ]
            refine wpAnyH_done (by kernel_rfl) ?_ _
            clear hS80 hS81 hS82 hS83 hS84 hS85 HA80
            go_wp2
            go_roundw
            case rel => exact ⟨k + 1, p, p2, S, L1, h, E1, D, _, _, Hlt.out, by go_num, rfl, rfl, by rw [show 1 + (k + 1) = 1 + k + 1 by omega]; exact HV1, HT85⟩
            case measure => have := Hlt.out; simp [intOf]; omega
        · have Hno : Hid (E.length = rg ∨ ¬ EOk ⟨h.g, h.f + E.length, okk, ob, od, om⟩) := by
            have := HV0.out.few
            by_cases hE : E.length = rg
            · exact Or.inl hE
            · exact Or.inr fun h2 => hc ⟨by omega, h2⟩
          clear hc
          as_aux_lemma =>
            go_wp2_with fail
            refine (HT2.out.next (by have := HV0.out.lim.f; have := HV0.out.lim.T; omega) (by have := HV0.out.few; have := HV0.out.lim.n16; omega)).mono ?_
            rintro r w3 ⟨rfl, hb3⟩
            have HT3 := hide (HT2.out.below hb3)
            obtain ⟨nx0, hnx0⟩ : ∃ nx0, h.f + E.length = nx0 := ⟨_, rfl⟩
            have Hnx0 := hide hnx0
            rw [hnx0]
            clear hb3 HT2 hnx0
            clear x0_w2 x1_w2 x2_w2 x3_w2 x4_w2 x5_w2 x6_w2 x7_w2
            have x0_w3 : w3.cell? ⟨bx, 0, none⟩ = some (.int .i64 1) := by simp [World.cell?, HT3.out.obj]
            have x1_w3 : w3.cell? ⟨bx, 1, none⟩ = some (.int .i64 on) := by simp [World.cell?, HT3.out.obj]
            have x2_w3 : w3.cell? ⟨bx, 2, none⟩ = some (.int .i64 os) := by simp [World.cell?, HT3.out.obj]
            have x3_w3 : w3.cell? ⟨bx, 3, none⟩ = some (.int .i64 okk) := by simp [World.cell?, HT3.out.obj]
            have x4_w3 : w3.cell? ⟨bx, 4, none⟩ = some (.int .i64 ob) := by simp [World.cell?, HT3.out.obj]
            have x5_w3 : w3.cell? ⟨bx, 5, none⟩ = some (.string od) := by simp [World.cell?, HT3.out.obj]
            have x6_w3 : w3.cell? ⟨bx, 6, none⟩ = some (.int .i64 om) := by simp [World.cell?, HT3.out.obj]
            have x7_w3 : w3.cell? ⟨bx, 7, none⟩ = some (.int .u64 (keep : Int)) := by simp [World.cell?, HT3.out.obj]
            go_wp2_with fail
            obtain ⟨y, hy⟩ : ∃ y : Int, (if E.length = rg then 6 else 1) = y := ⟨_, rfl⟩
            have hy0 : (y != 0) = true := by rw [← hy]; split <;> rfl
            have Hy := hide hy
            clear hy
            refine (HT3.out.refused (by have := HV0.out.lim.f; have := HV0.out.lim.T; omega) (by have := HV0.out.lim.n16; omega) HV0.out.few HDz.out Hno.out).mono ?_
            rintro r w4 ⟨pp, rfl, hfl, hb4⟩
            rw [Hnx0.out, Hy.out] at hfl
            have HT4 := hide (HT3.out.below hb4)
            have HF4 := hide hfl
            clear hb4 hfl HT3
            clear x0_w3 x1_w3 x2_w3 x3_w3 x4_w3 x5_w3 x6_w3 x7_w3
            have x0_w4 : w4.cell? ⟨bx, 0, none⟩ = some (.int .i64 1) := by simp [World.cell?, HT4.out.obj]
            have x1_w4 : w4.cell? ⟨bx, 1, none⟩ = some (.int .i64 on) := by simp [World.cell?, HT4.out.obj]
            have x2_w4 : w4.cell? ⟨bx, 2, none⟩ = some (.int .i64 os) := by simp [World.cell?, HT4.out.obj]
            have x3_w4 : w4.cell? ⟨bx, 3, none⟩ = some (.int .i64 okk) := by simp [World.cell?, HT4.out.obj]
            have x4_w4 : w4.cell? ⟨bx, 4, none⟩ = some (.int .i64 ob) := by simp [World.cell?, HT4.out.obj]
            have x5_w4 : w4.cell? ⟨bx, 5, none⟩ = some (.string od) := by simp [World.cell?, HT4.out.obj]
            have x6_w4 : w4.cell? ⟨bx, 6, none⟩ = some (.int .i64 om) := by simp [World.cell?, HT4.out.obj]
            have x7_w4 : w4.cell? ⟨bx, 7, none⟩ = some (.int .u64 (keep : Int)) := by simp [World.cell?, HT4.out.obj]
            go_wp2_with fail
            refine (HT4.out.rrefused (by have := HV0.out.lim.f; have := HV0.out.lim.T; omega) (by have := HV0.out.lim.n16; omega) HV0.out.few Hno.out).mono ?_
            rintro r w5 ⟨rfl, hb5⟩
            rw [Hy.out]
            have HT5 := hide (HT4.out.below hb5)
            have HF5 := hide (HF4.out.below (Nat.le_refl _) hb5)
            clear hb5 HT4 HF4
            clear x0_w4 x1_w4 x2_w4 x3_w4 x4_w4 x5_w4 x6_w4 x7_w4
            go_wp2_with fail
            refine (First_jn _ (nx0 : Int) y w5 (HT5.out.ety HE1.out) HF5.out).mono ?_
            rintro r w6 ⟨rfl, hb6⟩
            have HT6 := hide (HT5.out.below hb6)
            have HF6 := hide (HF5.out.below (Nat.le_refl _) hb6)
            clear hb6 HT5 HF5
            go_wp2_with fail
            refine (Code_jn _ (nx0 : Int) y w6 (HT6.out.ety HE1.out) HF6.out).mono ?_
            rintro r w7 ⟨rfl, hb7⟩
            have HT7 := hide (HT6.out.below hb7)
            clear hb7 HT6 HF6
            have HV1 := hide (HV0.out.more (Nat.le_succ _) HTT.out)
            clear HV0 Hno Hnx0 Hy
            have HT80 := hide (HT7.out.below (Below.refl w7.heap.size w7).drew)
            obtain ⟨el, hel⟩ : ∃ el, E.length = el := ⟨_, rfl⟩
            have Hel := hide hel
            obtain ⟨ll, hll⟩ : ∃ ll, L.length = ll := ⟨_, rfl⟩
            have Hll := hide (show ((L.length : Nat) : Int) = (ll : Int) by rw [hll])
            obtain ⟨nx, hnx⟩ : ∃ nx, h.f + E.length = nx := ⟨_, rfl⟩
            have Hnx := hide hnx
            obtain ⟨rm, hrm0⟩ : ∃ rm, rg - el = rm := ⟨_, rfl⟩
            have hele : el ≤ rg := by rw [← hel]; exact HV1.out.few
            have hrmi : (rg : Int) - (el : Int) = (rm : Int) := by omega
            have hrg20 := HV1.out.lim.n16
            have hwrm : IntKind.i64.wrap (rm : Int) = (rm : Int) := by rw [IntKind.wrap_i64]; omega
            have Hrm := hide (show (rg : Int) - (E.length : Int) = (rm : Int) by rw [hel]; exact hrmi)
            obtain ⟨A2, c2, B2, d2, k6, ha, k1, k1q⟩ := HT7.out.cells
            rw [hel] at k6
            rw [hll] at k1q
            have HA80 := hide (show ARow w7.drew A2 E from ha)
            have hS80 : w7.drew.cell? ⟨p2, 6, none⟩ = some (.slice A2 el c2) ∧ w7.drew.cell? ⟨p2, 1, none⟩ = some (.int .i64 (rg : Int)) ∧ w7.drew.cell? ⟨q2, 1, none⟩ = some (.slice B2 ll d2) := ⟨k6, k1, k1q⟩
            clear hel hll hnx k6 ha k1 k1q hrm0 hele hrg20 HT7
            go_wp2_with fail
            refine wp_region_held (S := (fun W => W.cell? ⟨p2, 6, none⟩ = some (.slice A2 el c2) ∧ W.cell? ⟨p2, 1, none⟩ = some (.int .i64 (rg : Int)) ∧ W.cell? ⟨q2, 1, none⟩ = some (.slice B2 ll d2))) (by kernel_rfl) ?_
            change wpAnyH _ _ _ _ _ _ _ _ (World.drew _)
            refine wpAnyH_take (i := 0) (oi := ⟨some 216, _, _, _, _, _⟩) (v := ?_) rfl (by kernel_rfl) (by kernel_rfl) (by kernel_rfl) (fun _ _ _ h => h) (Or.inl ⟨by rfl, ?_⟩) hS80 ?_
            rotate_left 1
            · (intro w hSw; obtain ⟨hSw1, hSw2, hSw3⟩ := hSw; go_simp; try with_reducible rfl)
            simp only [Act.put, List.setIfInBounds_toArray, List.set_cons_zero, List.set_cons_succ]
            refine wpAnyH_take (i := 2) (oi := ⟨some 218, _, _, _, _, _⟩) (v := ?_) rfl (by kernel_rfl) (by kernel_rfl) (by kernel_rfl) (fun _ _ _ h => h) (Or.inl ⟨by rfl, ?_⟩) hS80 ?_
            rotate_left 1
            · (intro w hSw; obtain ⟨hSw1, hSw2, hSw3⟩ := hSw; go_simp; try with_reducible rfl)
            simp only [Act.put, List.setIfInBounds_toArray, List.set_cons_zero, List.set_cons_succ]
            refine wpAnyH_take (i := 3) (oi := ⟨some 219, _, _, _, _, _⟩) (v := ?_) rfl (by kernel_rfl) (by kernel_rfl) (by kernel_rfl) (fun _ _ _ h => h) (Or.inl ⟨by rfl, ?_⟩) hS80 ?_
            rotate_left 1
            · (intro w hSw; obtain ⟨hSw1, hSw2, hSw3⟩ := hSw; go_simp; try with_reducible rfl)
            simp only [Act.put, List.setIfInBounds_toArray, List.set_cons_zero, List.set_cons_succ]
            refine wpAnyH_take (i := 4) (oi := ⟨some 220, _, _, _, _, _⟩) (v := ?_) rfl (by kernel_rfl) (by kernel_rfl) (by kernel_rfl) (fun _ _ _ h => h) (Or.inl ⟨by rfl, ?_⟩) hS80 ?_
            rotate_left 1
            · (intro w hSw; obtain ⟨hSw1, hSw2, hSw3⟩ := hSw; go_simp; try with_reducible rfl)
            simp only [Act.put, List.setIfInBounds_toArray, List.set_cons_zero, List.set_cons_succ]
            refine wpAnyH_take (i := 5) (oi := ⟨some 221, _, _, _, _, _⟩) (v := ?_) rfl (by kernel_rfl) (by kernel_rfl) (by kernel_rfl) (fun _ _ _ h => h) (Or.inl ⟨by rfl, ?_⟩) hS80 ?_
            rotate_left 1
            · (intro w hSw; obtain ⟨hSw1, hSw2, hSw3⟩ := hSw; go_simp; try with_reducible rfl)
            simp only [Act.put, List.setIfInBounds_toArray, List.set_cons_zero, List.set_cons_succ]
            refine wpAnyH_ready (rs := [1]) (by kernel_rfl) (by simp) ?_
            refine AllReadyH.cons (o := ⟨some 217, _, _, _, _, _⟩) rfl (fun K hK => ?_) AllReadyH.nil
            go_simp
            refine (HT80.out.records (by have := Hel.out; have := HV1.out.few; have := HV1.out.lim.n16; omega)).mono ?_
            rintro r w81 ⟨A81, c81, rfl, ha81, hb81⟩
            rw [Hel.out]
            have hS81 : w81.cell? ⟨p2, 6, none⟩ = some (.slice A2 el c2) ∧ w81.cell? ⟨p2, 1, none⟩ = some (.int .i64 (rg : Int)) ∧ w81.cell? ⟨q2, 1, none⟩ = some (.slice B2 ll d2) := ⟨cell_kept hb81 hS80.1, cell_kept hb81 hS80.2.1, cell_kept hb81 hS80.2.2⟩
            have HT81 := hide (HT80.out.below hb81)
            have HA81 := hide ha81
            have HA2 := hide ((HA80.out).below hb81)
            clear hb81 ha81
            refine hK.out _ _ hS81 (fun hHeld => ?_)
            clear hK K
            clear hHeld
            refine wpAnyH_ready (rs := [6]) (by kernel_rfl) (by simp) ?_
            refine AllReadyH.cons (o := ⟨some 222, _, _, _, _, _⟩) rfl (fun K hK => ?_) AllReadyH.nil
            go_simp
            refine (Same_two w81 E el A81 A2 c81 c2 Hel.out (by have := Hel.out; have := HV1.out.few; have := HV1.out.lim.n16; omega) HA81.out HA2.out).mono ?_
            rintro r w82 ⟨rfl, hb82⟩
            have hS82 : w82.cell? ⟨p2, 6, none⟩ = some (.slice A2 el c2) ∧ w82.cell? ⟨p2, 1, none⟩ = some (.int .i64 (rg : Int)) ∧ w82.cell? ⟨q2, 1, none⟩ = some (.slice B2 ll d2) := ⟨cell_kept hb82 hS81.1, cell_kept hb82 hS81.2.1, cell_kept hb82 hS81.2.2⟩
            have HT82 := hide (HT81.out.below hb82)
            clear hb82 HA81 HA2
            refine hK.out _ _ hS82 (fun hHeld => ?_)
            clear hK K
            clear hHeld
            refine wpAnyH_take (i := 7) (oi := ⟨some 223, _, _, _, _, _⟩) (v := ?_) rfl (by kernel_rfl) (by kernel_rfl) (by kernel_rfl) (fun _ _ _ h => h) (Or.inl ⟨by rfl, ?_⟩) hS82 ?_
            rotate_left 1
            · (intro w hSw; obtain ⟨hSw1, hSw2, hSw3⟩ := hSw; go_simp; try with_reducible rfl)
            simp only [Act.put, List.setIfInBounds_toArray, List.set_cons_zero, List.set_cons_succ]
            refine wpAnyH_take (i := 8) (oi := ⟨some 224, _, _, _, _, _⟩) (v := ?_) rfl (by kernel_rfl) (by kernel_rfl) (by kernel_rfl) (fun _ _ _ h => h) (Or.inl ⟨by rfl, ?_⟩) hS82 ?_
            rotate_left 1
            · (intro w hSw; obtain ⟨hSw1, hSw2, hSw3⟩ := hSw; go_simp; try with_reducible rfl)
            simp only [Act.put, List.setIfInBounds_toArray, List.set_cons_zero, List.set_cons_succ]
            refine wpAnyH_take (i := 9) (oi := ⟨some 225, _, _, _, _, _⟩) (v := ?_) rfl (by kernel_rfl) (by kernel_rfl) (by kernel_rfl) (fun _ _ _ h => h) (Or.inl ⟨by rfl, ?_⟩) hS82 ?_
            rotate_left 1
            · (intro w hSw; obtain ⟨hSw1, hSw2, hSw3⟩ := hSw; go_simp; try with_reducible rfl)
            simp only [Act.put, List.setIfInBounds_toArray, List.set_cons_zero, List.set_cons_succ]
            refine wpAnyH_take (i := 11) (oi := ⟨some 227, _, _, _, _, _⟩) (v := ?_) rfl (by kernel_rfl) (by kernel_rfl) (by kernel_rfl) (fun _ _ _ h => h) (Or.inl ⟨by rfl, ?_⟩) hS82 ?_
            rotate_left 1
            · (intro w hSw; obtain ⟨hSw1, hSw2, hSw3⟩ := hSw; go_simp; try with_reducible rfl)
            simp only [Act.put, List.setIfInBounds_toArray, List.set_cons_zero, List.set_cons_succ]
            refine wpAnyH_ready (rs := [10]) (by kernel_rfl) (by simp) ?_
            refine AllReadyH.cons (o := ⟨some 226, _, _, _, _, _⟩) rfl (fun K hK => ?_) AllReadyH.nil
            go_simp
            refine (HT82.out.next (by have := HV1.out.lim.f; have := HV1.out.lim.T; omega) (by have := HV1.out.few; have := HV1.out.lim.n16; omega)).mono ?_
            rintro r w83 ⟨rfl, hb83⟩
            rw [Hnx.out]
            have hS83 : w83.cell? ⟨p2, 6, none⟩ = some (.slice A2 el c2) ∧ w83.cell? ⟨p2, 1, none⟩ = some (.int .i64 (rg : Int)) ∧ w83.cell? ⟨q2, 1, none⟩ = some (.slice B2 ll d2) := ⟨cell_kept hb83 hS82.1, cell_kept hb83 hS82.2.1, cell_kept hb83 hS82.2.2⟩
            have HT83 := hide (HT82.out.below hb83)
            clear hb83
            refine hK.out _ _ hS83 (fun hHeld => ?_)
            clear hK K
            clear hHeld
            refine wpAnyH_ready (rs := [12]) (by kernel_rfl) (by simp) ?_
            refine AllReadyH.cons (o := ⟨some 228, _, _, _, _, _⟩) rfl (fun K hK => ?_) AllReadyH.nil
            go_simp
            refine (HT83.out.rnext (by have := HV1.out.lim.f; have := HV1.out.lim.T; omega) (by have := HV1.out.few; have := HV1.out.lim.n16; omega)).mono ?_
            rintro r w84 ⟨rfl, hb84⟩
            rw [Hnx.out]
            have hS84 : w84.cell? ⟨p2, 6, none⟩ = some (.slice A2 el c2) ∧ w84.cell? ⟨p2, 1, none⟩ = some (.int .i64 (rg : Int)) ∧ w84.cell? ⟨q2, 1, none⟩ = some (.slice B2 ll d2) := ⟨cell_kept hb84 hS83.1, cell_kept hb84 hS83.2.1, cell_kept hb84 hS83.2.2⟩
            have HT84 := hide (HT83.out.below hb84)
            clear hb84
            refine hK.out _ _ hS84 (fun hHeld => ?_)
            clear hK K
            clear hHeld
            refine wpAnyH_take (i := 13) (oi := ⟨some 229, _, _, _, _, _⟩) (v := ?_) rfl (by kernel_rfl) (by kernel_rfl) (by kernel_rfl) (fun _ _ _ h => h) (Or.inl ⟨by rfl, ?_⟩) hS84 ?_
            rotate_left 1
            · (intro w hSw; obtain ⟨hSw1, hSw2, hSw3⟩ := hSw; go_simp; try with_reducible rfl)
            simp only [Act.put, List.setIfInBounds_toArray, List.set_cons_zero, List.set_cons_succ]
            refine wpAnyH_take (i := 14) (oi := ⟨some 230, _, _, _, _, _⟩) (v := ?_) rfl (by kernel_rfl) (by kernel_rfl) (by kernel_rfl) (fun _ _ _ h => h) (Or.inl ⟨by rfl, ?_⟩) hS84 ?_
            rotate_left 1
            · (intro w hSw; obtain ⟨hSw1, hSw2, hSw3⟩ := hSw; go_simp; try with_reducible rfl)
            simp only [Act.put, List.setIfInBounds_toArray, List.set_cons_zero, List.set_cons_succ]
            refine wpAnyH_take (i := 15) (oi := ⟨some 231, _, _, _, _, _⟩) (v := ?_) rfl (by kernel_rfl) (by kernel_rfl) (by kernel_rfl) (fun _ _ _ h => h) (Or.inl ⟨by rfl, ?_⟩) hS84 ?_
            rotate_left 1
            · (intro w hSw; obtain ⟨hSw1, hSw2, hSw3⟩ := hSw; go_simp; try with_reducible rfl)
            simp only [Act.put, List.setIfInBounds_toArray, List.set_cons_zero, List.set_cons_succ]
            refine wpAnyH_take (i := 16) (oi := ⟨some 232, _, _, _, _, _⟩) (v := ?_) rfl (by kernel_rfl) (by kernel_rfl) (by kernel_rfl) (fun _ _ _ h => h) (Or.inl ⟨by rfl, ?_⟩) hS84 ?_
            rotate_left 1
            · (intro w hSw; obtain ⟨hSw1, hSw2, hSw3⟩ := hSw; go_simp; try with_reducible rfl)
            simp only [Act.put, List.setIfInBounds_toArray, List.set_cons_zero, List.set_cons_succ]
            refine wpAnyH_take (i := 18) (oi := ⟨some 234, _, _, _, _, _⟩) (v := ?_) rfl (by kernel_rfl) (by kernel_rfl) (by kernel_rfl) (fun _ _ _ h => h) (Or.inl ⟨by rfl, ?_⟩) hS84 ?_
            rotate_left 1
            · (intro w hSw; obtain ⟨hSw1, hSw2, hSw3⟩ := hSw; go_simp; try with_reducible rfl)
            simp only [Act.put, List.setIfInBounds_toArray, List.set_cons_zero, List.set_cons_succ]
            refine wpAnyH_take (i := 19) (oi := ⟨some 235, _, _, _, _, _⟩) (v := ?_) rfl (by kernel_rfl) (by kernel_rfl) (by kernel_rfl) (fun _ _ _ h => h) (Or.inl ⟨by rfl, ?_⟩) hS84 ?_
            rotate_left 1
            · (intro w hSw; obtain ⟨hSw1, hSw2, hSw3⟩ := hSw; go_simp; try with_reducible rfl)
            simp only [Act.put, List.setIfInBounds_toArray, List.set_cons_zero, List.set_cons_succ]
            refine wpAnyH_take (i := 20) (oi := ⟨some 236, _, _, _, _, _⟩) (v := ?_) rfl (by kernel_rfl) (by kernel_rfl) (by kernel_rfl) (fun _ _ _ h => h) (Or.inl ⟨by rfl, ?_⟩) hS84 ?_
            rotate_left 1
            · (intro w hSw; obtain ⟨hSw1, hSw2, hSw3⟩ := hSw; go_simp; try with_reducible rfl)
            simp only [Act.put, List.setIfInBounds_toArray, List.set_cons_zero, List.set_cons_succ]
            refine wpAnyH_take (i := 21) (oi := ⟨some 237, _, _, _, _, _⟩) (v := ?_) rfl (by kernel_rfl) (by kernel_rfl) (by kernel_rfl) (fun _ _ _ h => h) (Or.inl ⟨by rfl, ?_⟩) hS84 ?_
            rotate_left 1
            · (intro w hSw; obtain ⟨hSw1, hSw2, hSw3⟩ := hSw; go_simp; try with_reducible rfl)
            simp only [Act.put, List.setIfInBounds_toArray, List.set_cons_zero, List.set_cons_succ]
            refine wpAnyH_take (i := 22) (oi := ⟨some 238, _, _, _, _, _⟩) (v := ?_) rfl (by kernel_rfl) (by kernel_rfl) (by kernel_rfl) (fun _ _ _ h => h) (Or.inl ⟨by rfl, ?_⟩) hS84 ?_
            rotate_left 1
            · (intro w hSw; obtain ⟨hSw1, hSw2, hSw3⟩ := hSw; go_simp; try with_reducible rfl)
            simp only [Act.put, List.setIfInBounds_toArray, List.set_cons_zero, List.set_cons_succ]
            refine wpAnyH_take (i := 23) (oi := ⟨some 239, _, _, _, _, _⟩) (v := ?_) rfl (by kernel_rfl) (by kernel_rfl) (by kernel_rfl) (fun _ _ _ h => h) (Or.inl ⟨by rfl, ?_⟩) hS84 ?_
            rotate_left 1
            · (intro w hSw; obtain ⟨hSw1, hSw2, hSw3⟩ := hSw; go_simp; try with_reducible rfl)
            simp only [Act.put, List.setIfInBounds_toArray, List.set_cons_zero, List.set_cons_succ]
            refine wpAnyH_take (i := 24) (oi := ⟨some 240, _, _, _, _, _⟩) (v := ?_) rfl (by kernel_rfl) (by kernel_rfl) (by kernel_rfl) (fun _ _ _ h => h) (Or.inl ⟨by rfl, ?_⟩) hS84 ?_
            rotate_left 1
            · (intro w hSw; obtain ⟨hSw1, hSw2, hSw3⟩ := hSw; go_simp; try with_reducible rfl)
            simp only [Act.put, List.setIfInBounds_toArray, List.set_cons_zero, List.set_cons_succ]
            refine wpAnyH_take (i := 25) (oi := ⟨some 241, _, _, _, _, _⟩) (v := ?_) rfl (by kernel_rfl) (by kernel_rfl) (by kernel_rfl) (fun _ _ _ h => h) (Or.inl ⟨by rfl, ?_⟩) hS84 ?_
            rotate_left 1
            · (intro w hSw; obtain ⟨hSw1, hSw2, hSw3⟩ := hSw; go_simp; try with_reducible rfl)
            simp only [Act.put, List.setIfInBounds_toArray, List.set_cons_zero, List.set_cons_succ]
            refine wpAnyH_take (i := 26) (oi := ⟨some 242, _, _, _, _, _⟩) (v := ?_) rfl (by kernel_rfl) (by kernel_rfl) (by kernel_rfl) (fun _ _ _ h => h) (Or.inl ⟨by rfl, ?_⟩) hS84 ?_
            rotate_left 1
            · (intro w hSw; obtain ⟨hSw1, hSw2, hSw3⟩ := hSw; go_simp; try with_reducible rfl)
            simp only [Act.put, List.setIfInBounds_toArray, List.set_cons_zero, List.set_cons_succ]
            refine wpAnyH_take (i := 27) (oi := ⟨some 243, _, _, _, _, _⟩) (v := ?_) rfl (by kernel_rfl) (by kernel_rfl) (by kernel_rfl) (fun _ _ _ h => h) (Or.inl ⟨by rfl, ?_⟩) hS84 ?_
            rotate_left 1
            · (intro w hSw; obtain ⟨hSw1, hSw2, hSw3⟩ := hSw; go_simp; try with_reducible rfl)
            simp only [Act.put, List.setIfInBounds_toArray, List.set_cons_zero, List.set_cons_succ]
            refine wpAnyH_ready (rs := [17]) (by kernel_rfl) (by simp) ?_
            refine AllReadyH.cons (o := ⟨some 233, _, _, _, _, _⟩) rfl (fun K hK => ?_) AllReadyH.nil
            go_simp
            refine (HT84.out.room (by have := HV1.out.lim.n16; omega) HV1.out.few).mono ?_
            rintro r w85 ⟨rfl, hb85⟩
            rw [Hrm.out]
            have hS85 : w85.cell? ⟨p2, 6, none⟩ = some (.slice A2 el c2) ∧ w85.cell? ⟨p2, 1, none⟩ = some (.int .i64 (rg : Int)) ∧ w85.cell? ⟨q2, 1, none⟩ = some (.slice B2 ll d2) := ⟨cell_kept hb85 hS84.1, cell_kept hb85 hS84.2.1, cell_kept hb85 hS84.2.2⟩
            have HT85 := hide (HT84.out.below hb85)
            clear hb85
            refine hK.out _ _ hS85 (fun hHeld => ?_)
            clear hK K
            clear hHeld
            refine wpAnyH_take (i := 28) (oi := ⟨some 244, _, _, _, _, _⟩) (v := ?_) rfl (by kernel_rfl) (by kernel_rfl) (by kernel_rfl) (fun _ _ _ h => h) (Or.inl ⟨by rfl, ?_⟩) hS85 ?_
            rotate_left 1
            · (intro w hSw; obtain ⟨hSw1, hSw2, hSw3⟩ := hSw; go_simp; try with_reducible rfl)
            simp only [Act.put, List.setIfInBounds_toArray, List.set_cons_zero, List.set_cons_succ]
            refine wpAnyH_take (i := 29) (oi := ⟨some 245, _, _, _, _, _⟩) (v := ?_) rfl (by kernel_rfl) (by kernel_rfl) (by kernel_rfl) (fun _ _ _ h => h) (Or.inl ⟨by rfl, ?_⟩) hS85 ?_
            rotate_left 1
            · (intro w hSw; obtain ⟨hSw1, hSw2, hSw3⟩ := hSw; go_simp; try with_reducible rfl)
            simp only [Act.put, List.setIfInBounds_toArray, List.set_cons_zero, List.set_cons_succ]
            refine wpAnyH_take (i := 30) (oi := ⟨some 246, _, _, _, _, _⟩) (v := ?_) rfl (by kernel_rfl) (by kernel_rfl) (by kernel_rfl) (fun _ _ _ h => h) (Or.inl ⟨by rfl, ?_⟩) hS85 ?_
            rotate_left 1
            · (intro w hSw; obtain ⟨hSw1, hSw2, hSw3⟩ := hSw; go_simp; try with_reducible rfl)
            simp only [Act.put, List.setIfInBounds_toArray, List.set_cons_zero, List.set_cons_succ]
            refine wpAnyH_take (i := 31) (oi := ⟨some 247, _, _, _, _, _⟩) (v := ?_) rfl (by kernel_rfl) (by kernel_rfl) (by kernel_rfl) (fun _ _ _ h => h) (Or.inl ⟨by rfl, ?_⟩) hS85 ?_
            rotate_left 1
            · (intro w hSw; obtain ⟨hSw1, hSw2, hSw3⟩ := hSw; go_simp; try with_reducible rfl)
            simp only [Act.put, List.setIfInBounds_toArray, List.set_cons_zero, List.set_cons_succ]
            refine wpAnyH_take (i := 33) (oi := ⟨some 249, _, _, _, _, _⟩) (v := ?_) rfl (by kernel_rfl) (by kernel_rfl) (by kernel_rfl) (fun _ _ _ h => h) (Or.inl ⟨by rfl, ?_⟩) hS85 ?_
            rotate_left 1
            · (intro w hSw; obtain ⟨hSw1, hSw2, hSw3⟩ := hSw; go_simp; try with_reducible rfl)
            simp only [Act.put, List.setIfInBounds_toArray, List.set_cons_zero, List.set_cons_succ]
            refine wpAnyH_take (i := 34) (oi := ⟨some 250, _, _, _, _, _⟩) (v := ?_) rfl (by kernel_rfl) (by kernel_rfl) (by kernel_rfl) (fun _ _ _ h => h) (Or.inl ⟨by rfl, ?_⟩) hS85 ?_
            rotate_left 1
            · (intro w hSw; obtain ⟨hSw1, hSw2, hSw3⟩ := hSw; go_simp; try with_reducible rfl)
            simp only [Act.put, List.setIfInBounds_toArray, List.set_cons_zero, List.set_cons_succ]
            refine wpAnyH_take (i := 35) (oi := ⟨some 251, _, _, _, _, _⟩) (v := ?_) rfl (by kernel_rfl) (by kernel_rfl) (by kernel_rfl) (fun _ _ _ h => h) (Or.inl ⟨by rfl, ?_⟩) hS85 ?_
            rotate_left 1
            · (intro w hSw; obtain ⟨hSw1, hSw2, hSw3⟩ := hSw; go_simp; try with_reducible rfl)
            simp only [Act.put, List.setIfInBounds_toArray, List.set_cons_zero, List.set_cons_succ]
            refine wpAnyH_take (i := 36) (oi := ⟨some 252, _, _, _, _, _⟩) (v := ?_) rfl (by kernel_rfl) (by kernel_rfl) (by kernel_rfl) (fun _ _ _ h => h) (Or.inl ⟨by rfl, ?_⟩) hS85 ?_
            rotate_left 1
            · (intro w hSw; obtain ⟨hSw1, hSw2, hSw3⟩ := hSw; go_simp; try with_reducible rfl)
            simp only [Act.put, List.setIfInBounds_toArray, List.set_cons_zero, List.set_cons_succ]
            refine wpAnyH_take (i := 37) (oi := ⟨some 253, _, _, _, _, _⟩) (v := ?_) rfl (by kernel_rfl) (by kernel_rfl) (by kernel_rfl) (fun _ _ _ h => h) (Or.inl ⟨by rfl, ?_⟩) hS85 ?_
            rotate_left 1
            · (intro w hSw; obtain ⟨hSw1, hSw2, hSw3⟩ := hSw; go_simp; try with_reducible rfl)
            simp only [Act.put, List.setIfInBounds_toArray, List.set_cons_zero, List.set_cons_succ]
            refine wpAnyH_ready (rs := [32]) (by kernel_rfl) (by simp) ?_
            refine AllReadyH.cons (o := ⟨some 248, _, _, _, _, _⟩) rfl (fun K hK => ?_) AllReadyH.nil
            go_simp
            refine (HT85.out.loose).mono ?_
            rintro r w86 ⟨rfl, rfl⟩
            rw [Hll.out]
            refine hK.out _ _ hS85 (fun hHeld => ?_)
            clear hK K
            clear hHeld
            refine wpAnyH_take (i := 38) (oi := ⟨some 254, _, _, _, _, _⟩) (v := ?_) rfl (by kernel_rfl) (by kernel_rfl) (by kernel_rfl) (fun _ _ _ h => h) (Or.inl ⟨by rfl, ?_⟩) hS85 ?_
            rotate_left 1
            · (intro w hSw; obtain ⟨hSw1, hSw2, hSw3⟩ := hSw; go_simp; try with_reducible rfl)
            simp only [Act.put, List.setIfInBounds_toArray, List.set_cons_zero, List.set_cons_succ]
            refine wpAnyH_take (i := 39) (oi := ⟨some 255, _, _, _, _, _⟩) (v := ?_) rfl (by kernel_rfl) (by kernel_rfl) (by kernel_rfl) (fun _ _ _ h => h) (Or.inl ⟨by rfl, ?_⟩) hS85 ?_
            rotate_left 1
            · (intro w hSw; obtain ⟨hSw1, hSw2, hSw3⟩ := hSw; go_simp; try with_reducible rfl)
            simp only [Act.put, List.setIfInBounds_toArray, List.set_cons_zero, List.set_cons_succ]
            refine wpAnyH_done (by kernel_rfl) ?_ _
            clear hS80 hS81 hS82 hS83 hS84 hS85 HA80
            go_wp2
            go_roundw
            case rel => exact ⟨k + 1, p, p2, S, L, h, E, D, _, _, Hlt.out, by go_num, rfl, rfl, by rw [show 1 + (k + 1) = 1 + k + 1 by omega]; exact HV1, HT85⟩
            case measure => have := Hlt.out; simp [intOf]; omega
      · have q1 : (kind == 1) = false := by simpa using k1
        by_cases k2 : kind = 2
        · subst k2
          clear q1 k1
          as_aux_lemma =>
            go_wp2_with fail
            refine (HT2.out.flush (by have := HV0.out.short; omega)).mono ?_
            rintro r w3 ⟨rfl, hj3⟩
            have HT3 := hide hj3
            clear hj3 HT2
            clear x0_w2 x1_w2 x2_w2 x3_w2 x4_w2 x5_w2 x6_w2 x7_w2
            go_wp2_with fail
            refine (HT3.out.rflush (by have := HV0.out.short; omega)).mono ?_
            rintro r w4 ⟨rfl, hj4⟩
            have HT4 := hide hj4
            clear hj4 HT3
            have HV1 := hide (HV0.out.flush.more (Nat.le_succ _) HTT.out)
            clear HV0
            obtain ⟨S1, hS1⟩ : ∃ X, X = all S L := ⟨_, rfl⟩
            obtain ⟨L1, hL1⟩ : ∃ X : List Wr, X = [] := ⟨_, rfl⟩
            rw [← hS1, ← hL1] at HV1 HT4
            clear hS1 hL1
            have HT80 := hide (HT4.out.below (Below.refl w4.heap.size w4).drew)
            obtain ⟨el, hel⟩ : ∃ el, E.length = el := ⟨_, rfl⟩
            have Hel := hide hel
            obtain ⟨ll, hll⟩ : ∃ ll, L1.length = ll := ⟨_, rfl⟩
            have Hll := hide (show ((L1.length : Nat) : Int) = (ll : Int) by rw [hll])
            obtain ⟨nx, hnx⟩ : ∃ nx, h.f + E.length = nx := ⟨_, rfl⟩
            have Hnx := hide hnx
            obtain ⟨rm, hrm0⟩ : ∃ rm, rg - el = rm := ⟨_, rfl⟩
            have hele : el ≤ rg := by rw [← hel]; exact HV1.out.few
            have hrmi : (rg : Int) - (el : Int) = (rm : Int) := by omega
            have hrg20 := HV1.out.lim.n16
            have hwrm : IntKind.i64.wrap (rm : Int) = (rm : Int) := by rw [IntKind.wrap_i64]; omega
            have Hrm := hide (show (rg : Int) - (E.length : Int) = (rm : Int) by rw [hel]; exact hrmi)
            obtain ⟨A2, c2, B2, d2, k6, ha, k1, k1q⟩ := HT4.out.cells
            rw [hel] at k6
            rw [hll] at k1q
            have HA80 := hide (show ARow w4.drew A2 E from ha)
            have hS80 : w4.drew.cell? ⟨p2, 6, none⟩ = some (.slice A2 el c2) ∧ w4.drew.cell? ⟨p2, 1, none⟩ = some (.int .i64 (rg : Int)) ∧ w4.drew.cell? ⟨q2, 1, none⟩ = some (.slice B2 ll d2) := ⟨k6, k1, k1q⟩
            clear hel hll hnx k6 ha k1 k1q hrm0 hele hrg20 HT4
            go_wp2_with fail
            refine wp_region_held (S := (fun W => W.cell? ⟨p2, 6, none⟩ = some (.slice A2 el c2) ∧ W.cell? ⟨p2, 1, none⟩ = some (.int .i64 (rg : Int)) ∧ W.cell? ⟨q2, 1, none⟩ = some (.slice B2 ll d2))) (by kernel_rfl) ?_
            change wpAnyH _ _ _ _ _ _ _ _ (World.drew _)
            refine wpAnyH_take (i := 0) (oi := ⟨some 216, _, _, _, _, _⟩) (v := ?_) rfl (by kernel_rfl) (by kernel_rfl) (by kernel_rfl) (fun _ _ _ h => h) (Or.inl ⟨by rfl, ?_⟩) hS80 ?_
            rotate_left 1
            · (intro w hSw; obtain ⟨hSw1, hSw2, hSw3⟩ := hSw; go_simp; try with_reducible rfl)
            simp only [Act.put, List.setIfInBounds_toArray, List.set_cons_zero, List.set_cons_succ]
            refine wpAnyH_take (i := 2) (oi := ⟨some 218, _, _, _, _, _⟩) (v := ?_) rfl (by kernel_rfl) (by kernel_rfl) (by kernel_rfl) (fun _ _ _ h => h) (Or.inl ⟨by rfl, ?_⟩) hS80 ?_
            rotate_left 1
            · (intro w hSw; obtain ⟨hSw1, hSw2, hSw3⟩ := hSw; go_simp; try with_reducible rfl)
            simp only [Act.put, List.setIfInBounds_toArray, List.set_cons_zero, List.set_cons_succ]
            refine wpAnyH_take (i := 3) (oi := ⟨some 219, _, _, _, _, _⟩) (v := ?_) rfl (by kernel_rfl) (by kernel_rfl) (by kernel_rfl) (fun _ _ _ h => h) (Or.inl ⟨by rfl, ?_⟩) hS80 ?_
            rotate_left 1
            · (intro w hSw; obtain ⟨hSw1, hSw2, hSw3⟩ := hSw; go_simp; try with_reducible rfl)
            simp only [Act.put, List.setIfInBounds_toArray, List.set_cons_zero, List.set_cons_succ]
            refine wpAnyH_take (i := 4) (oi := ⟨some 220, _, _, _, _, _⟩) (v := ?_) rfl (by kernel_rfl) (by kernel_rfl) (by kernel_rfl) (fun _ _ _ h => h) (Or.inl ⟨by rfl, ?_⟩) hS80 ?_
            rotate_left 1
            · (intro w hSw; obtain ⟨hSw1, hSw2, hSw3⟩ := hSw; go_simp; try with_reducible rfl)
            simp only [Act.put, List.setIfInBounds_toArray, List.set_cons_zero, List.set_cons_succ]
            refine wpAnyH_take (i := 5) (oi := ⟨some 221, _, _, _, _, _⟩) (v := ?_) rfl (by kernel_rfl) (by kernel_rfl) (by kernel_rfl) (fun _ _ _ h => h) (Or.inl ⟨by rfl, ?_⟩) hS80 ?_
            rotate_left 1
            · (intro w hSw; obtain ⟨hSw1, hSw2, hSw3⟩ := hSw; go_simp; try with_reducible rfl)
            simp only [Act.put, List.setIfInBounds_toArray, List.set_cons_zero, List.set_cons_succ]
            refine wpAnyH_ready (rs := [1]) (by kernel_rfl) (by simp) ?_
            refine AllReadyH.cons (o := ⟨some 217, _, _, _, _, _⟩) rfl (fun K hK => ?_) AllReadyH.nil
            go_simp
            refine (HT80.out.records (by have := Hel.out; have := HV1.out.few; have := HV1.out.lim.n16; omega)).mono ?_
            rintro r w81 ⟨A81, c81, rfl, ha81, hb81⟩
            rw [Hel.out]
            have hS81 : w81.cell? ⟨p2, 6, none⟩ = some (.slice A2 el c2) ∧ w81.cell? ⟨p2, 1, none⟩ = some (.int .i64 (rg : Int)) ∧ w81.cell? ⟨q2, 1, none⟩ = some (.slice B2 ll d2) := ⟨cell_kept hb81 hS80.1, cell_kept hb81 hS80.2.1, cell_kept hb81 hS80.2.2⟩
            have HT81 := hide (HT80.out.below hb81)
            have HA81 := hide ha81
            have HA2 := hide ((HA80.out).below hb81)
            clear hb81 ha81
            refine hK.out _ _ hS81 (fun hHeld => ?_)
            clear hK K
            clear hHeld
            refine wpAnyH_ready (rs := [6]) (by kernel_rfl) (by simp) ?_
            refine AllReadyH.cons (o := ⟨some 222, _, _, _, _, _⟩) rfl (fun K hK => ?_) AllReadyH.nil
            go_simp
            refine (Same_two w81 E el A81 A2 c81 c2 Hel.out (by have := Hel.out; have := HV1.out.few; have := HV1.out.lim.n16; omega) HA81.out HA2.out).mono ?_
            rintro r w82 ⟨rfl, hb82⟩
            have hS82 : w82.cell? ⟨p2, 6, none⟩ = some (.slice A2 el c2) ∧ w82.cell? ⟨p2, 1, none⟩ = some (.int .i64 (rg : Int)) ∧ w82.cell? ⟨q2, 1, none⟩ = some (.slice B2 ll d2) := ⟨cell_kept hb82 hS81.1, cell_kept hb82 hS81.2.1, cell_kept hb82 hS81.2.2⟩
            have HT82 := hide (HT81.out.below hb82)
            clear hb82 HA81 HA2
            refine hK.out _ _ hS82 (fun hHeld => ?_)
            clear hK K
            clear hHeld
            refine wpAnyH_take (i := 7) (oi := ⟨some 223, _, _, _, _, _⟩) (v := ?_) rfl (by kernel_rfl) (by kernel_rfl) (by kernel_rfl) (fun _ _ _ h => h) (Or.inl ⟨by rfl, ?_⟩) hS82 ?_
            rotate_left 1
            · (intro w hSw; obtain ⟨hSw1, hSw2, hSw3⟩ := hSw; go_simp; try with_reducible rfl)
            simp only [Act.put, List.setIfInBounds_toArray, List.set_cons_zero, List.set_cons_succ]
            refine wpAnyH_take (i := 8) (oi := ⟨some 224, _, _, _, _, _⟩) (v := ?_) rfl (by kernel_rfl) (by kernel_rfl) (by kernel_rfl) (fun _ _ _ h => h) (Or.inl ⟨by rfl, ?_⟩) hS82 ?_
            rotate_left 1
            · (intro w hSw; obtain ⟨hSw1, hSw2, hSw3⟩ := hSw; go_simp; try with_reducible rfl)
            simp only [Act.put, List.setIfInBounds_toArray, List.set_cons_zero, List.set_cons_succ]
            refine wpAnyH_take (i := 9) (oi := ⟨some 225, _, _, _, _, _⟩) (v := ?_) rfl (by kernel_rfl) (by kernel_rfl) (by kernel_rfl) (fun _ _ _ h => h) (Or.inl ⟨by rfl, ?_⟩) hS82 ?_
            rotate_left 1
            · (intro w hSw; obtain ⟨hSw1, hSw2, hSw3⟩ := hSw; go_simp; try with_reducible rfl)
            simp only [Act.put, List.setIfInBounds_toArray, List.set_cons_zero, List.set_cons_succ]
            refine wpAnyH_take (i := 11) (oi := ⟨some 227, _, _, _, _, _⟩) (v := ?_) rfl (by kernel_rfl) (by kernel_rfl) (by kernel_rfl) (fun _ _ _ h => h) (Or.inl ⟨by rfl, ?_⟩) hS82 ?_
            rotate_left 1
            · (intro w hSw; obtain ⟨hSw1, hSw2, hSw3⟩ := hSw; go_simp; try with_reducible rfl)
            simp only [Act.put, List.setIfInBounds_toArray, List.set_cons_zero, List.set_cons_succ]
            refine wpAnyH_ready (rs := [10]) (by kernel_rfl) (by simp) ?_
            refine AllReadyH.cons (o := ⟨some 226, _, _, _, _, _⟩) rfl (fun K hK => ?_) AllReadyH.nil
            go_simp
            refine (HT82.out.next (by have := HV1.out.lim.f; have := HV1.out.lim.T; omega) (by have := HV1.out.few; have := HV1.out.lim.n16; omega)).mono ?_
            rintro r w83 ⟨rfl, hb83⟩
            rw [Hnx.out]
            have hS83 : w83.cell? ⟨p2, 6, none⟩ = some (.slice A2 el c2) ∧ w83.cell? ⟨p2, 1, none⟩ = some (.int .i64 (rg : Int)) ∧ w83.cell? ⟨q2, 1, none⟩ = some (.slice B2 ll d2) := ⟨cell_kept hb83 hS82.1, cell_kept hb83 hS82.2.1, cell_kept hb83 hS82.2.2⟩
            have HT83 := hide (HT82.out.below hb83)
            clear hb83
            refine hK.out _ _ hS83 (fun hHeld => ?_)
            clear hK K
            clear hHeld
            refine wpAnyH_ready (rs := [12]) (by kernel_rfl) (by simp) ?_
            refine AllReadyH.cons (o := ⟨some 228, _, _, _, _, _⟩) rfl (fun K hK => ?_) AllReadyH.nil
            go_simp
            refine (HT83.out.rnext (by have := HV1.out.lim.f; have := HV1.out.lim.T; omega) (by have := HV1.out.few; have := HV1.out.lim.n16; omega)).mono ?_
            rintro r w84 ⟨rfl, hb84⟩
            rw [Hnx.out]
            have hS84 : w84.cell? ⟨p2, 6, none⟩ = some (.slice A2 el c2) ∧ w84.cell? ⟨p2, 1, none⟩ = some (.int .i64 (rg : Int)) ∧ w84.cell? ⟨q2, 1, none⟩ = some (.slice B2 ll d2) := ⟨cell_kept hb84 hS83.1, cell_kept hb84 hS83.2.1, cell_kept hb84 hS83.2.2⟩
            have HT84 := hide (HT83.out.below hb84)
            clear hb84
            refine hK.out _ _ hS84 (fun hHeld => ?_)
            clear hK K
            clear hHeld
            refine wpAnyH_take (i := 13) (oi := ⟨some 229, _, _, _, _, _⟩) (v := ?_) rfl (by kernel_rfl) (by kernel_rfl) (by kernel_rfl) (fun _ _ _ h => h) (Or.inl ⟨by rfl, ?_⟩) hS84 ?_
            rotate_left 1
            · (intro w hSw; obtain ⟨hSw1, hSw2, hSw3⟩ := hSw; go_simp; try with_reducible rfl)
            simp only [Act.put, List.setIfInBounds_toArray, List.set_cons_zero, List.set_cons_succ]
            refine wpAnyH_take (i := 14) (oi := ⟨some 230, _, _, _, _, _⟩) (v := ?_) rfl (by kernel_rfl) (by kernel_rfl) (by kernel_rfl) (fun _ _ _ h => h) (Or.inl ⟨by rfl, ?_⟩) hS84 ?_
            rotate_left 1
            · (intro w hSw; obtain ⟨hSw1, hSw2, hSw3⟩ := hSw; go_simp; try with_reducible rfl)
            simp only [Act.put, List.setIfInBounds_toArray, List.set_cons_zero, List.set_cons_succ]
            refine wpAnyH_take (i := 15) (oi := ⟨some 231, _, _, _, _, _⟩) (v := ?_) rfl (by kernel_rfl) (by kernel_rfl) (by kernel_rfl) (fun _ _ _ h => h) (Or.inl ⟨by rfl, ?_⟩) hS84 ?_
            rotate_left 1
            · (intro w hSw; obtain ⟨hSw1, hSw2, hSw3⟩ := hSw; go_simp; try with_reducible rfl)
            simp only [Act.put, List.setIfInBounds_toArray, List.set_cons_zero, List.set_cons_succ]
            refine wpAnyH_take (i := 16) (oi := ⟨some 232, _, _, _, _, _⟩) (v := ?_) rfl (by kernel_rfl) (by kernel_rfl) (by kernel_rfl) (fun _ _ _ h => h) (Or.inl ⟨by rfl, ?_⟩) hS84 ?_
            rotate_left 1
            · (intro w hSw; obtain ⟨hSw1, hSw2, hSw3⟩ := hSw; go_simp; try with_reducible rfl)
            simp only [Act.put, List.setIfInBounds_toArray, List.set_cons_zero, List.set_cons_succ]
            refine wpAnyH_take (i := 18) (oi := ⟨some 234, _, _, _, _, _⟩) (v := ?_) rfl (by kernel_rfl) (by kernel_rfl) (by kernel_rfl) (fun _ _ _ h => h) (Or.inl ⟨by rfl, ?_⟩) hS84 ?_
            rotate_left 1
            · (intro w hSw; obtain ⟨hSw1, hSw2, hSw3⟩ := hSw; go_simp; try with_reducible rfl)
            simp only [Act.put, List.setIfInBounds_toArray, List.set_cons_zero, List.set_cons_succ]
            refine wpAnyH_take (i := 19) (oi := ⟨some 235, _, _, _, _, _⟩) (v := ?_) rfl (by kernel_rfl) (by kernel_rfl) (by kernel_rfl) (fun _ _ _ h => h) (Or.inl ⟨by rfl, ?_⟩) hS84 ?_
            rotate_left 1
            · (intro w hSw; obtain ⟨hSw1, hSw2, hSw3⟩ := hSw; go_simp; try with_reducible rfl)
            simp only [Act.put, List.setIfInBounds_toArray, List.set_cons_zero, List.set_cons_succ]
            refine wpAnyH_take (i := 20) (oi := ⟨some 236, _, _, _, _, _⟩) (v := ?_) rfl (by kernel_rfl) (by kernel_rfl) (by kernel_rfl) (fun _ _ _ h => h) (Or.inl ⟨by rfl, ?_⟩) hS84 ?_
            rotate_left 1
            · (intro w hSw; obtain ⟨hSw1, hSw2, hSw3⟩ := hSw; go_simp; try with_reducible rfl)
            simp only [Act.put, List.setIfInBounds_toArray, List.set_cons_zero, List.set_cons_succ]
            refine wpAnyH_take (i := 21) (oi := ⟨some 237, _, _, _, _, _⟩) (v := ?_) rfl (by kernel_rfl) (by kernel_rfl) (by kernel_rfl) (fun _ _ _ h => h) (Or.inl ⟨by rfl, ?_⟩) hS84 ?_
            rotate_left 1
            · (intro w hSw; obtain ⟨hSw1, hSw2, hSw3⟩ := hSw; go_simp; try with_reducible rfl)
            simp only [Act.put, List.setIfInBounds_toArray, List.set_cons_zero, List.set_cons_succ]
            refine wpAnyH_take (i := 22) (oi := ⟨some 238, _, _, _, _, _⟩) (v := ?_) rfl (by kernel_rfl) (by kernel_rfl) (by kernel_rfl) (fun _ _ _ h => h) (Or.inl ⟨by rfl, ?_⟩) hS84 ?_
            rotate_left 1
            · (intro w hSw; obtain ⟨hSw1, hSw2, hSw3⟩ := hSw; go_simp; try with_reducible rfl)
            simp only [Act.put, List.setIfInBounds_toArray, List.set_cons_zero, List.set_cons_succ]
            refine wpAnyH_take (i := 23) (oi := ⟨some 239, _, _, _, _, _⟩) (v := ?_) rfl (by kernel_rfl) (by kernel_rfl) (by kernel_rfl) (fun _ _ _ h => h) (Or.inl ⟨by rfl, ?_⟩) hS84 ?_
            rotate_left 1
            · (intro w hSw; obtain ⟨hSw1, hSw2, hSw3⟩ := hSw; go_simp; try with_reducible rfl)
            simp only [Act.put, List.setIfInBounds_toArray, List.set_cons_zero, List.set_cons_succ]
            refine wpAnyH_take (i := 24) (oi := ⟨some 240, _, _, _, _, _⟩) (v := ?_) rfl (by kernel_rfl) (by kernel_rfl) (by kernel_rfl) (fun _ _ _ h => h) (Or.inl ⟨by rfl, ?_⟩) hS84 ?_
            rotate_left 1
            · (intro w hSw; obtain ⟨hSw1, hSw2, hSw3⟩ := hSw; go_simp; try with_reducible rfl)
            simp only [Act.put, List.setIfInBounds_toArray, List.set_cons_zero, List.set_cons_succ]
            refine wpAnyH_take (i := 25) (oi := ⟨some 241, _, _, _, _, _⟩) (v := ?_) rfl (by kernel_rfl) (by kernel_rfl) (by kernel_rfl) (fun _ _ _ h => h) (Or.inl ⟨by rfl, ?_⟩) hS84 ?_
            rotate_left 1
            · (intro w hSw; obtain ⟨hSw1, hSw2, hSw3⟩ := hSw; go_simp; try with_reducible rfl)
            simp only [Act.put, List.setIfInBounds_toArray, List.set_cons_zero, List.set_cons_succ]
            refine wpAnyH_take (i := 26) (oi := ⟨some 242, _, _, _, _, _⟩) (v := ?_) rfl (by kernel_rfl) (by kernel_rfl) (by kernel_rfl) (fun _ _ _ h => h) (Or.inl ⟨by rfl, ?_⟩) hS84 ?_
            rotate_left 1
            · (intro w hSw; obtain ⟨hSw1, hSw2, hSw3⟩ := hSw; go_simp; try with_reducible rfl)
            simp only [Act.put, List.setIfInBounds_toArray, List.set_cons_zero, List.set_cons_succ]
            refine wpAnyH_take (i := 27) (oi := ⟨some 243, _, _, _, _, _⟩) (v := ?_) rfl (by kernel_rfl) (by kernel_rfl) (by kernel_rfl) (fun _ _ _ h => h) (Or.inl ⟨by rfl, ?_⟩) hS84 ?_
            rotate_left 1
            · (intro w hSw; obtain ⟨hSw1, hSw2, hSw3⟩ := hSw; go_simp; try with_reducible rfl)
            simp only [Act.put, List.setIfInBounds_toArray, List.set_cons_zero, List.set_cons_succ]
            refine wpAnyH_ready (rs := [17]) (by kernel_rfl) (by simp) ?_
            refine AllReadyH.cons (o := ⟨some 233, _, _, _, _, _⟩) rfl (fun K hK => ?_) AllReadyH.nil
            go_simp
            refine (HT84.out.room (by have := HV1.out.lim.n16; omega) HV1.out.few).mono ?_
            rintro r w85 ⟨rfl, hb85⟩
            rw [Hrm.out]
            have hS85 : w85.cell? ⟨p2, 6, none⟩ = some (.slice A2 el c2) ∧ w85.cell? ⟨p2, 1, none⟩ = some (.int .i64 (rg : Int)) ∧ w85.cell? ⟨q2, 1, none⟩ = some (.slice B2 ll d2) := ⟨cell_kept hb85 hS84.1, cell_kept hb85 hS84.2.1, cell_kept hb85 hS84.2.2⟩
            have HT85 := hide (HT84.out.below hb85)
            clear hb85
            refine hK.out _ _ hS85 (fun hHeld => ?_)
            clear hK K
            clear hHeld
            refine wpAnyH_take (i := 28) (oi := ⟨some 244, _, _, _, _, _⟩) (v := ?_) rfl (by kernel_rfl) (by kernel_rfl) (by kernel_rfl) (fun _ _ _ h => h) (Or.inl ⟨by rfl, ?_⟩) hS85 ?_
            rotate_left 1
            · (intro w hSw; obtain ⟨hSw1, hSw2, hSw3⟩ := hSw; go_simp; try with_reducible rfl)
            simp only [Act.put, List.setIfInBounds_toArray, List.set_cons_zero, List.set_cons_succ]
            refine wpAnyH_take (i := 29) (oi := ⟨some 245, _, _, _, _, _⟩) (v := ?_) rfl (by kernel_rfl) (by kernel_rfl) (by kernel_rfl) (fun _ _ _ h => h) (Or.inl ⟨by rfl, ?_⟩) hS85 ?_
            rotate_left 1
            · (intro w hSw; obtain ⟨hSw1, hSw2, hSw3⟩ := hSw; go_simp; try with_reducible rfl)
            simp only [Act.put, List.setIfInBounds_toArray, List.set_cons_zero, List.set_cons_succ]
            refine wpAnyH_take (i := 30) (oi := ⟨some 246, _, _, _, _, _⟩) (v := ?_) rfl (by kernel_rfl) (by kernel_rfl) (by kernel_rfl) (fun _ _ _ h => h) (Or.inl ⟨by rfl, ?_⟩) hS85 ?_
            rotate_left 1
            · (intro w hSw; obtain ⟨hSw1, hSw2, hSw3⟩ := hSw; go_simp; try with_reducible rfl)
            simp only [Act.put, List.setIfInBounds_toArray, List.set_cons_zero, List.set_cons_succ]
            refine wpAnyH_take (i := 31) (oi := ⟨some 247, _, _, _, _, _⟩) (v := ?_) rfl (by kernel_rfl) (by kernel_rfl) (by kernel_rfl) (fun _ _ _ h => h) (Or.inl ⟨by rfl, ?_⟩) hS85 ?_
            rotate_left 1
            · (intro w hSw; obtain ⟨hSw1, hSw2, hSw3⟩ := hSw; go_simp; try with_reducible rfl)
            simp only [Act.put, List.setIfInBounds_toArray, List.set_cons_zero, List.set_cons_succ]
            refine wpAnyH_take (i := 33) (oi := ⟨some 249, _, _, _, _, _⟩) (v := ?_) rfl (by kernel_rfl) (by kernel_rfl) (by kernel_rfl) (fun _ _ _ h => h) (Or.inl ⟨by rfl, ?_⟩) hS85 ?_
            rotate_left 1
            · (intro w hSw; obtain ⟨hSw1, hSw2, hSw3⟩ := hSw; go_simp; try with_reducible rfl)
            simp only [Act.put, List.setIfInBounds_toArray, List.set_cons_zero, List.set_cons_succ]
            refine wpAnyH_take (i := 34) (oi := ⟨some 250, _, _, _, _, _⟩) (v := ?_) rfl (by kernel_rfl) (by kernel_rfl) (by kernel_rfl) (fun _ _ _ h => h) (Or.inl ⟨by rfl, ?_⟩) hS85 ?_
            rotate_left 1
            · (intro w hSw; obtain ⟨hSw1, hSw2, hSw3⟩ := hSw; go_simp; try with_reducible rfl)
            simp only [Act.put, List.setIfInBounds_toArray, List.set_cons_zero, List.set_cons_succ]
            refine wpAnyH_take (i := 35) (oi := ⟨some 251, _, _, _, _, _⟩) (v := ?_) rfl (by kernel_rfl) (by kernel_rfl) (by kernel_rfl) (fun _ _ _ h => h) (Or.inl ⟨by rfl, ?_⟩) hS85 ?_
            rotate_left 1
            · (intro w hSw; obtain ⟨hSw1, hSw2, hSw3⟩ := hSw; go_simp; try with_reducible rfl)
            simp only [Act.put, List.setIfInBounds_toArray, List.set_cons_zero, List.set_cons_succ]
            refine wpAnyH_take (i := 36) (oi := ⟨some 252, _, _, _, _, _⟩) (v := ?_) rfl (by kernel_rfl) (by kernel_rfl) (by kernel_rfl) (fun _ _ _ h => h) (Or.inl ⟨by rfl, ?_⟩) hS85 ?_
            rotate_left 1
            · (intro w hSw; obtain ⟨hSw1, hSw2, hSw3⟩ := hSw; go_simp; try with_reducible rfl)
            simp only [Act.put, List.setIfInBounds_toArray, List.set_cons_zero, List.set_cons_succ]
            refine wpAnyH_take (i := 37) (oi := ⟨some 253, _, _, _, _, _⟩) (v := ?_) rfl (by kernel_rfl) (by kernel_rfl) (by kernel_rfl) (fun _ _ _ h => h) (Or.inl ⟨by rfl, ?_⟩) hS85 ?_
            rotate_left 1
            · (intro w hSw; obtain ⟨hSw1, hSw2, hSw3⟩ := hSw; go_simp; try with_reducible rfl)
            simp only [Act.put, List.setIfInBounds_toArray, List.set_cons_zero, List.set_cons_succ]
            refine wpAnyH_ready (rs := [32]) (by kernel_rfl) (by simp) ?_
            refine AllReadyH.cons (o := ⟨some 248, _, _, _, _, _⟩) rfl (fun K hK => ?_) AllReadyH.nil
            go_simp
            refine (HT85.out.loose).mono ?_
            rintro r w86 ⟨rfl, rfl⟩
            rw [Hll.out]
            refine hK.out _ _ hS85 (fun hHeld => ?_)
            clear hK K
            clear hHeld
            refine wpAnyH_take (i := 38) (oi := ⟨some 254, _, _, _, _, _⟩) (v := ?_) rfl (by kernel_rfl) (by kernel_rfl) (by kernel_rfl) (fun _ _ _ h => h) (Or.inl ⟨by rfl, ?_⟩) hS85 ?_
            rotate_left 1
            · (intro w hSw; obtain ⟨hSw1, hSw2, hSw3⟩ := hSw; go_simp; try with_reducible rfl)
            simp only [Act.put, List.setIfInBounds_toArray, List.set_cons_zero, List.set_cons_succ]
            refine wpAnyH_take (i := 39) (oi := ⟨some 255, _, _, _, _, _⟩) (v := ?_) rfl (by kernel_rfl) (by kernel_rfl) (by kernel_rfl) (fun _ _ _ h => h) (Or.inl ⟨by rfl, ?_⟩) hS85 ?_
            rotate_left 1
            · (intro w hSw; obtain ⟨hSw1, hSw2, hSw3⟩ := hSw; go_simp; try with_reducible rfl)
            simp only [Act.put, List.setIfInBounds_toArray, List.set_cons_zero, List.set_cons_succ]
            refine wpAnyH_done (by kernel_rfl) ?_ _
            clear hS80 hS81 hS82 hS83 hS84 hS85 HA80
            go_wp2
            go_roundw
            case rel => exact ⟨k + 1, p, p2, S1, L1, h, E, E.length, _, _, Hlt.out, by go_num, rfl, rfl, by rw [show 1 + (k + 1) = 1 + k + 1 by omega]; exact HV1, HT85⟩
            case measure => have := Hlt.out; simp [intOf]; omega
        · have q2' : (kind == 2) = false := by simpa using k2
          by_cases k3 : kind = 3
          · subst k3
            clear q1 k1 q2' k2
            by_cases hbad : on < 0 ∨ (E.length : Int) < on
            · have Hbad := hide hbad
              clear hbad
              as_aux_lemma =>
                go_wp2_with fail
                refine (HT2.out.trim_bad on Hbad.out).mono ?_
                rintro r w3 ⟨pp, rfl, hfl, hb3⟩
                have HT3 := hide (HT2.out.below hb3)
                have HF3 := hide hfl
                clear hb3 hfl HT2
                clear x0_w2 x1_w2 x2_w2 x3_w2 x4_w2 x5_w2 x6_w2 x7_w2
                go_wp2_with fail
                refine (First_jn _ on 1 w3 (HT3.out.ety HE1.out) HF3.out).mono ?_
                rintro r w4 ⟨rfl, hb4⟩
                have HT4 := hide (HT3.out.below hb4)
                have HF4 := hide (HF3.out.below (Nat.le_refl _) hb4)
                clear hb4 HT3 HF3
                have HT4d := hide (HT4.out.below (Below.refl w4.heap.size w4).drew)
                have HF4d := hide (HF4.out.below (Nat.le_refl _) (Below.refl w4.heap.size w4).drew)
                have hS0 : w4.drew.cell? ⟨bx, 1, none⟩ = some (.int .i64 on) := by simp [World.cell?, HT4d.out.obj]
                clear HT4 HF4
                go_wp2_with fail
                refine wp_region_held (S := (fun W => W.cell? ⟨bx, 1, none⟩ = some (.int .i64 on))) (by kernel_rfl) ?_
                change wpAnyH _ _ _ _ _ _ _ _ (World.drew _)
                refine wpAnyH_take (i := 0) (oi := ⟨some 168, _, _, _, _, _⟩) (v := ?_) rfl (by kernel_rfl) (by kernel_rfl) (by kernel_rfl) (fun _ _ _ h => h) (Or.inl ⟨by rfl, ?_⟩) hS0 ?_
                rotate_left 1
                · (intro w hSw; obtain hSw1 := hSw; go_simp; try with_reducible rfl)
                simp only [Act.put, List.setIfInBounds_toArray, List.set_cons_zero, List.set_cons_succ]
                refine wpAnyH_take (i := 2) (oi := ⟨some 170, _, _, _, _, _⟩) (v := ?_) rfl (by kernel_rfl) (by kernel_rfl) (by kernel_rfl) (fun _ _ _ h => h) (Or.inl ⟨by rfl, ?_⟩) hS0 ?_
                rotate_left 1
                · (intro w hSw; obtain hSw1 := hSw; go_simp; try with_reducible rfl)
                simp only [Act.put, List.setIfInBounds_toArray, List.set_cons_zero, List.set_cons_succ]
                refine wpAnyH_take (i := 3) (oi := ⟨some 171, _, _, _, _, _⟩) (v := ?_) rfl (by kernel_rfl) (by kernel_rfl) (by kernel_rfl) (fun _ _ _ h => h) (Or.inl ⟨by rfl, ?_⟩) hS0 ?_
                rotate_left 1
                · (intro w hSw; obtain hSw1 := hSw; go_simp; try with_reducible rfl)
                simp only [Act.put, List.setIfInBounds_toArray, List.set_cons_zero, List.set_cons_succ]
                refine wpAnyH_take (i := 4) (oi := ⟨some 172, _, _, _, _, _⟩) (v := ?_) rfl (by kernel_rfl) (by kernel_rfl) (by kernel_rfl) (fun _ _ _ h => h) (Or.inl ⟨by rfl, ?_⟩) hS0 ?_
                rotate_left 1
                · (intro w hSw; obtain hSw1 := hSw; go_simp; try with_reducible rfl)
                simp only [Act.put, List.setIfInBounds_toArray, List.set_cons_zero, List.set_cons_succ]
                refine wpAnyH_ready (rs := [1]) (by kernel_rfl) (by simp) ?_
                refine AllReadyH.cons (o := ⟨some 169, _, _, _, _, _⟩) rfl (fun K hK => ?_) AllReadyH.nil
                go_simp
                refine (Code_jn _ on 1 w4.drew (HT4d.out.ety HE1.out) HF4d.out).mono ?_
                rintro r w5 ⟨rfl, hb5⟩
                have HT5 := hide (HT4d.out.below hb5)
                have hS1 : w5.cell? ⟨bx, 1, none⟩ = some (.int .i64 on) := by simp [World.cell?, HT5.out.obj]
                clear hb5 HT4d HF4d
                refine hK.out _ _ hS1 (fun hHeld => ?_)
                clear hK K
                clear hHeld
                refine wpAnyH_ready (rs := [5]) (by kernel_rfl) (by simp) ?_
                refine AllReadyH.cons (o := ⟨some 173, _, _, _, _, _⟩) rfl (fun K hK => ?_) AllReadyH.nil
                go_simp
                refine (HT5.out.rtrim_bad on Hbad.out).mono ?_
                rintro r w' ⟨rfl, rfl⟩
                have hS2 := hS1
                refine hK.out _ _ hS2 (fun hHeld => ?_)
                clear hK K
                clear hHeld
                refine wpAnyH_take (i := 6) (oi := ⟨some 174, _, _, _, _, _⟩) (v := ?_) rfl (by kernel_rfl) (by kernel_rfl) (by kernel_rfl) (fun _ _ _ h => h) (Or.inl ⟨by rfl, ?_⟩) hS2 ?_
                rotate_left 1
                · (intro w hSw; obtain hSw1 := hSw; go_simp; try with_reducible rfl)
                simp only [Act.put, List.setIfInBounds_toArray, List.set_cons_zero, List.set_cons_succ]
                refine wpAnyH_take (i := 7) (oi := ⟨some 175, _, _, _, _, _⟩) (v := ?_) rfl (by kernel_rfl) (by kernel_rfl) (by kernel_rfl) (fun _ _ _ h => h) (Or.inl ⟨by rfl, ?_⟩) hS2 ?_
                rotate_left 1
                · (intro w hSw; obtain hSw1 := hSw; go_simp; try with_reducible rfl)
                simp only [Act.put, List.setIfInBounds_toArray, List.set_cons_zero, List.set_cons_succ]
                refine wpAnyH_take (i := 8) (oi := ⟨some 176, _, _, _, _, _⟩) (v := ?_) rfl (by kernel_rfl) (by kernel_rfl) (by kernel_rfl) (fun _ _ _ h => h) (Or.inl ⟨by rfl, ?_⟩) hS2 ?_
                rotate_left 1
                · (intro w hSw; obtain hSw1 := hSw; go_simp; try with_reducible rfl)
                simp only [Act.put, List.setIfInBounds_toArray, List.set_cons_zero, List.set_cons_succ]
                refine wpAnyH_take (i := 9) (oi := ⟨some 177, _, _, _, _, _⟩) (v := ?_) rfl (by kernel_rfl) (by kernel_rfl) (by kernel_rfl) (fun _ _ _ h => h) (Or.inl ⟨by rfl, ?_⟩) hS2 ?_
                rotate_left 1
                · (intro w hSw; obtain hSw1 := hSw; go_simp; try with_reducible rfl)
                simp only [Act.put, List.setIfInBounds_toArray, List.set_cons_zero, List.set_cons_succ]
                refine wpAnyH_take (i := 10) (oi := ⟨some 178, _, _, _, _, _⟩) (v := ?_) rfl (by kernel_rfl) (by kernel_rfl) (by kernel_rfl) (fun _ _ _ h => h) (Or.inl ⟨by rfl, ?_⟩) hS2 ?_
                rotate_left 1
                · (intro w hSw; obtain hSw1 := hSw; go_simp; try with_reducible rfl)
                simp only [Act.put, List.setIfInBounds_toArray, List.set_cons_zero, List.set_cons_succ]
                refine wpAnyH_take (i := 11) (oi := ⟨some 179, _, _, _, _, _⟩) (v := ?_) rfl (by kernel_rfl) (by kernel_rfl) (by kernel_rfl) (fun _ _ _ h => h) (Or.inl ⟨by rfl, ?_⟩) hS2 ?_
                rotate_left 1
                · (intro w hSw; obtain hSw1 := hSw; go_simp; try with_reducible rfl)
                simp only [Act.put, List.setIfInBounds_toArray, List.set_cons_zero, List.set_cons_succ]
                refine wpAnyH_take (i := 12) (oi := ⟨some 180, _, _, _, _, _⟩) (v := ?_) rfl (by kernel_rfl) (by kernel_rfl) (by kernel_rfl) (fun _ _ _ h => h) (Or.inl ⟨by rfl, ?_⟩) hS2 ?_
                rotate_left 1
                · (intro w hSw; obtain hSw1 := hSw; go_simp; try with_reducible rfl)
                simp only [Act.put, List.setIfInBounds_toArray, List.set_cons_zero, List.set_cons_succ]
                refine wpAnyH_take (i := 13) (oi := ⟨some 181, _, _, _, _, _⟩) (v := ?_) rfl (by kernel_rfl) (by kernel_rfl) (by kernel_rfl) (fun _ _ _ h => h) (Or.inl ⟨by rfl, ?_⟩) hS2 ?_
                rotate_left 1
                · (intro w hSw; obtain hSw1 := hSw; go_simp; try with_reducible rfl)
                simp only [Act.put, List.setIfInBounds_toArray, List.set_cons_zero, List.set_cons_succ]
                refine wpAnyH_take (i := 14) (oi := ⟨some 182, _, _, _, _, _⟩) (v := ?_) rfl (by kernel_rfl) (by kernel_rfl) (by kernel_rfl) (fun _ _ _ h => h) (Or.inl ⟨by rfl, ?_⟩) hS2 ?_
                rotate_left 1
                · (intro w hSw; obtain hSw1 := hSw; go_simp; try with_reducible rfl)
                simp only [Act.put, List.setIfInBounds_toArray, List.set_cons_zero, List.set_cons_succ]
                refine wpAnyH_take (i := 15) (oi := ⟨some 183, _, _, _, _, _⟩) (v := ?_) rfl (by kernel_rfl) (by kernel_rfl) (by kernel_rfl) (fun _ _ _ h => h) (Or.inl ⟨by rfl, ?_⟩) hS2 ?_
                rotate_left 1
                · (intro w hSw; obtain hSw1 := hSw; go_simp; try with_reducible rfl)
                simp only [Act.put, List.setIfInBounds_toArray, List.set_cons_zero, List.set_cons_succ]
                refine wpAnyH_done (by kernel_rfl) ?_ _
                clear hS0 hS1 hS2
                have HV1 := hide (HV0.out.more (Nat.le_succ _) HTT.out)
                clear HV0 Hbad
                have HT80 := hide (HT5.out.below (Below.refl w5.heap.size w5).drew)
                obtain ⟨el, hel⟩ : ∃ el, E.length = el := ⟨_, rfl⟩
                have Hel := hide hel
                obtain ⟨ll, hll⟩ : ∃ ll, L.length = ll := ⟨_, rfl⟩
                have Hll := hide (show ((L.length : Nat) : Int) = (ll : Int) by rw [hll])
                obtain ⟨nx, hnx⟩ : ∃ nx, h.f + E.length = nx := ⟨_, rfl⟩
                have Hnx := hide hnx
                obtain ⟨rm, hrm0⟩ : ∃ rm, rg - el = rm := ⟨_, rfl⟩
                have hele : el ≤ rg := by rw [← hel]; exact HV1.out.few
                have hrmi : (rg : Int) - (el : Int) = (rm : Int) := by omega
                have hrg20 := HV1.out.lim.n16
                have hwrm : IntKind.i64.wrap (rm : Int) = (rm : Int) := by rw [IntKind.wrap_i64]; omega
                have Hrm := hide (show (rg : Int) - (E.length : Int) = (rm : Int) by rw [hel]; exact hrmi)
                obtain ⟨A2, c2, B2, d2, k6, ha, k1, k1q⟩ := HT5.out.cells
                rw [hel] at k6
                rw [hll] at k1q
                have HA80 := hide (show ARow w5.drew A2 E from ha)
                have hS80 : w5.drew.cell? ⟨p2, 6, none⟩ = some (.slice A2 el c2) ∧ w5.drew.cell? ⟨p2, 1, none⟩ = some (.int .i64 (rg : Int)) ∧ w5.drew.cell? ⟨q2, 1, none⟩ = some (.slice B2 ll d2) := ⟨k6, k1, k1q⟩
                clear hel hll hnx k6 ha k1 k1q hrm0 hele hrg20 HT5
                go_wp2_with fail
                refine wp_region_held (S := (fun W => W.cell? ⟨p2, 6, none⟩ = some (.slice A2 el c2) ∧ W.cell? ⟨p2, 1, none⟩ = some (.int .i64 (rg : Int)) ∧ W.cell? ⟨q2, 1, none⟩ = some (.slice B2 ll d2))) (by kernel_rfl) ?_
                change wpAnyH _ _ _ _ _ _ _ _ (World.drew _)
                refine wpAnyH_take (i := 0) (oi := ⟨some 216, _, _, _, _, _⟩) (v := ?_) rfl (by kernel_rfl) (by kernel_rfl) (by kernel_rfl) (fun _ _ _ h => h) (Or.inl ⟨by rfl, ?_⟩) hS80 ?_
                rotate_left 1
                · (intro w hSw; obtain ⟨hSw1, hSw2, hSw3⟩ := hSw; go_simp; try with_reducible rfl)
                simp only [Act.put, List.setIfInBounds_toArray, List.set_cons_zero, List.set_cons_succ]
                refine wpAnyH_take (i := 2) (oi := ⟨some 218, _, _, _, _, _⟩) (v := ?_) rfl (by kernel_rfl) (by kernel_rfl) (by kernel_rfl) (fun _ _ _ h => h) (Or.inl ⟨by rfl, ?_⟩) hS80 ?_
                rotate_left 1
                · (intro w hSw; obtain ⟨hSw1, hSw2, hSw3⟩ := hSw; go_simp; try with_reducible rfl)
                simp only [Act.put, List.setIfInBounds_toArray, List.set_cons_zero, List.set_cons_succ]
                refine wpAnyH_take (i := 3) (oi := ⟨some 219, _, _, _, _, _⟩) (v := ?_) rfl (by kernel_rfl) (by kernel_rfl) (by kernel_rfl) (fun _ _ _ h => h) (Or.inl ⟨by rfl, ?_⟩) hS80 ?_
                rotate_left 1
                · (intro w hSw; obtain ⟨hSw1, hSw2, hSw3⟩ := hSw; go_simp; try with_reducible rfl)
                simp only [Act.put, List.setIfInBounds_toArray, List.set_cons_zero, List.set_cons_succ]
                refine wpAnyH_take (i := 4) (oi := ⟨some 220, _, _, _, _, _⟩) (v := ?_) rfl (by kernel_rfl) (by kernel_rfl) (by kernel_rfl) (fun _ _ _ h => h) (Or.inl ⟨by rfl, ?_⟩) hS80 ?_
                rotate_left 1
                · (intro w hSw; obtain ⟨hSw1, hSw2, hSw3⟩ := hSw; go_simp; try with_reducible rfl)
                simp only [Act.put, List.setIfInBounds_toArray, List.set_cons_zero, List.set_cons_succ]
                refine wpAnyH_take (i := 5) (oi := ⟨some 221, _, _, _, _, _⟩) (v := ?_) rfl (by kernel_rfl) (by kernel_rfl) (by kernel_rfl) (fun _ _ _ h => h) (Or.inl ⟨by rfl, ?_⟩) hS80 ?_
                rotate_left 1
                · (intro w hSw; obtain ⟨hSw1, hSw2, hSw3⟩ := hSw; go_simp; try with_reducible rfl)
                simp only [Act.put, List.setIfInBounds_toArray, List.set_cons_zero, List.set_cons_succ]
                refine wpAnyH_ready (rs := [1]) (by kernel_rfl) (by simp) ?_
                refine AllReadyH.cons (o := ⟨some 217, _, _, _, _, _⟩) rfl (fun K hK => ?_) AllReadyH.nil
                go_simp
                refine (HT80.out.records (by have := Hel.out; have := HV1.out.few; have := HV1.out.lim.n16; omega)).mono ?_
                rintro r w81 ⟨A81, c81, rfl, ha81, hb81⟩
                rw [Hel.out]
                have hS81 : w81.cell? ⟨p2, 6, none⟩ = some (.slice A2 el c2) ∧ w81.cell? ⟨p2, 1, none⟩ = some (.int .i64 (rg : Int)) ∧ w81.cell? ⟨q2, 1, none⟩ = some (.slice B2 ll d2) := ⟨cell_kept hb81 hS80.1, cell_kept hb81 hS80.2.1, cell_kept hb81 hS80.2.2⟩
                have HT81 := hide (HT80.out.below hb81)
                have HA81 := hide ha81
                have HA2 := hide ((HA80.out).below hb81)
                clear hb81 ha81
                refine hK.out _ _ hS81 (fun hHeld => ?_)
                clear hK K
                clear hHeld
                refine wpAnyH_ready (rs := [6]) (by kernel_rfl) (by simp) ?_
                refine AllReadyH.cons (o := ⟨some 222, _, _, _, _, _⟩) rfl (fun K hK => ?_) AllReadyH.nil
                go_simp
                refine (Same_two w81 E el A81 A2 c81 c2 Hel.out (by have := Hel.out; have := HV1.out.few; have := HV1.out.lim.n16; omega) HA81.out HA2.out).mono ?_
                rintro r w82 ⟨rfl, hb82⟩
                have hS82 : w82.cell? ⟨p2, 6, none⟩ = some (.slice A2 el c2) ∧ w82.cell? ⟨p2, 1, none⟩ = some (.int .i64 (rg : Int)) ∧ w82.cell? ⟨q2, 1, none⟩ = some (.slice B2 ll d2) := ⟨cell_kept hb82 hS81.1, cell_kept hb82 hS81.2.1, cell_kept hb82 hS81.2.2⟩
                have HT82 := hide (HT81.out.below hb82)
                clear hb82 HA81 HA2
                refine hK.out _ _ hS82 (fun hHeld => ?_)
                clear hK K
                clear hHeld
                refine wpAnyH_take (i := 7) (oi := ⟨some 223, _, _, _, _, _⟩) (v := ?_) rfl (by kernel_rfl) (by kernel_rfl) (by kernel_rfl) (fun _ _ _ h => h) (Or.inl ⟨by rfl, ?_⟩) hS82 ?_
                rotate_left 1
                · (intro w hSw; obtain ⟨hSw1, hSw2, hSw3⟩ := hSw; go_simp; try with_reducible rfl)
                simp only [Act.put, List.setIfInBounds_toArray, List.set_cons_zero, List.set_cons_succ]
                refine wpAnyH_take (i := 8) (oi := ⟨some 224, _, _, _, _, _⟩) (v := ?_) rfl (by kernel_rfl) (by kernel_rfl) (by kernel_rfl) (fun _ _ _ h => h) (Or.inl ⟨by rfl, ?_⟩) hS82 ?_
                rotate_left 1
                · (intro w hSw; obtain ⟨hSw1, hSw2, hSw3⟩ := hSw; go_simp; try with_reducible rfl)
                simp only [Act.put, List.setIfInBounds_toArray, List.set_cons_zero, List.set_cons_succ]
                refine wpAnyH_take (i := 9) (oi := ⟨some 225, _, _, _, _, _⟩) (v := ?_) rfl (by kernel_rfl) (by kernel_rfl) (by kernel_rfl) (fun _ _ _ h => h) (Or.inl ⟨by rfl, ?_⟩) hS82 ?_
                rotate_left 1
                · (intro w hSw; obtain ⟨hSw1, hSw2, hSw3⟩ := hSw; go_simp; try with_reducible rfl)
                simp only [Act.put, List.setIfInBounds_toArray, List.set_cons_zero, List.set_cons_succ]
                refine wpAnyH_take (i := 11) (oi := ⟨some 227, _, _, _, _, _⟩) (v := ?_) rfl (by kernel_rfl) (by kernel_rfl) (by kernel_rfl) (fun _ _ _ h => h) (Or.inl ⟨by rfl, ?_⟩) hS82 ?_
                rotate_left 1
                · (intro w hSw; obtain ⟨hSw1, hSw2, hSw3⟩ := hSw; go_simp; try with_reducible rfl)
                simp only [Act.put, List.setIfInBounds_toArray, List.set_cons_zero, List.set_cons_succ]
                refine wpAnyH_ready (rs := [10]) (by kernel_rfl) (by simp) ?_
                refine AllReadyH.cons (o := ⟨some 226, _, _, _, _, _⟩) rfl (fun K hK => ?_) AllReadyH.nil
                go_simp
                refine (HT82.out.next (by have := HV1.out.lim.f; have := HV1.out.lim.T; omega) (by have := HV1.out.few; have := HV1.out.lim.n16; omega)).mono ?_
                rintro r w83 ⟨rfl, hb83⟩
                rw [Hnx.out]
                have hS83 : w83.cell? ⟨p2, 6, none⟩ = some (.slice A2 el c2) ∧ w83.cell? ⟨p2, 1, none⟩ = some (.int .i64 (rg : Int)) ∧ w83.cell? ⟨q2, 1, none⟩ = some (.slice B2 ll d2) := ⟨cell_kept hb83 hS82.1, cell_kept hb83 hS82.2.1, cell_kept hb83 hS82.2.2⟩
                have HT83 := hide (HT82.out.below hb83)
                clear hb83
                refine hK.out _ _ hS83 (fun hHeld => ?_)
                clear hK K
                clear hHeld
                refine wpAnyH_ready (rs := [12]) (by kernel_rfl) (by simp) ?_
                refine AllReadyH.cons (o := ⟨some 228, _, _, _, _, _⟩) rfl (fun K hK => ?_) AllReadyH.nil
                go_simp
                refine (HT83.out.rnext (by have := HV1.out.lim.f; have := HV1.out.lim.T; omega) (by have := HV1.out.few; have := HV1.out.lim.n16; omega)).mono ?_
                rintro r w84 ⟨rfl, hb84⟩
                rw [Hnx.out]
                have hS84 : w84.cell? ⟨p2, 6, none⟩ = some (.slice A2 el c2) ∧ w84.cell? ⟨p2, 1, none⟩ = some (.int .i64 (rg : Int)) ∧ w84.cell? ⟨q2, 1, none⟩ = some (.slice B2 ll d2) := ⟨cell_kept hb84 hS83.1, cell_kept hb84 hS83.2.1, cell_kept hb84 hS83.2.2⟩
                have HT84 := hide (HT83.out.below hb84)
                clear hb84
                refine hK.out _ _ hS84 (fun hHeld => ?_)
                clear hK K
                clear hHeld
                refine wpAnyH_take (i := 13) (oi := ⟨some 229, _, _, _, _, _⟩) (v := ?_) rfl (by kernel_rfl) (by kernel_rfl) (by kernel_rfl) (fun _ _ _ h => h) (Or.inl ⟨by rfl, ?_⟩) hS84 ?_
                rotate_left 1
                · (intro w hSw; obtain ⟨hSw1, hSw2, hSw3⟩ := hSw; go_simp; try with_reducible rfl)
                simp only [Act.put, List.setIfInBounds_toArray, List.set_cons_zero, List.set_cons_succ]
                refine wpAnyH_take (i := 14) (oi := ⟨some 230, _, _, _, _, _⟩) (v := ?_) rfl (by kernel_rfl) (by kernel_rfl) (by kernel_rfl) (fun _ _ _ h => h) (Or.inl ⟨by rfl, ?_⟩) hS84 ?_
                rotate_left 1
                · (intro w hSw; obtain ⟨hSw1, hSw2, hSw3⟩ := hSw; go_simp; try with_reducible rfl)
                simp only [Act.put, List.setIfInBounds_toArray, List.set_cons_zero, List.set_cons_succ]
                refine wpAnyH_take (i := 15) (oi := ⟨some 231, _, _, _, _, _⟩) (v := ?_) rfl (by kernel_rfl) (by kernel_rfl) (by kernel_rfl) (fun _ _ _ h => h) (Or.inl ⟨by rfl, ?_⟩) hS84 ?_
                rotate_left 1
                · (intro w hSw; obtain ⟨hSw1, hSw2, hSw3⟩ := hSw; go_simp; try with_reducible rfl)
                simp only [Act.put, List.setIfInBounds_toArray, List.set_cons_zero, List.set_cons_succ]
                refine wpAnyH_take (i := 16) (oi := ⟨some 232, _, _, _, _, _⟩) (v := ?_) rfl (by kernel_rfl) (by kernel_rfl) (by kernel_rfl) (fun _ _ _ h => h) (Or.inl ⟨by rfl, ?_⟩) hS84 ?_
                rotate_left 1
                · (intro w hSw; obtain ⟨hSw1, hSw2, hSw3⟩ := hSw; go_simp; try with_reducible rfl)
                simp only [Act.put, List.setIfInBounds_toArray, List.set_cons_zero, List.set_cons_succ]
                refine wpAnyH_take (i := 18) (oi := ⟨some 234, _, _, _, _, _⟩) (v := ?_) rfl (by kernel_rfl) (by kernel_rfl) (by kernel_rfl) (fun _ _ _ h => h) (Or.inl ⟨by rfl, ?_⟩) hS84 ?_
                rotate_left 1
                · (intro w hSw; obtain ⟨hSw1, hSw2, hSw3⟩ := hSw; go_simp; try with_reducible rfl)
                simp only [Act.put, List.setIfInBounds_toArray, List.set_cons_zero, List.set_cons_succ]
                refine wpAnyH_take (i := 19) (oi := ⟨some 235, _, _, _, _, _⟩) (v := ?_) rfl (by kernel_rfl) (by kernel_rfl) (by kernel_rfl) (fun _ _ _ h => h) (Or.inl ⟨by rfl, ?_⟩) hS84 ?_
                rotate_left 1
                · (intro w hSw; obtain ⟨hSw1, hSw2, hSw3⟩ := hSw; go_simp; try with_reducible rfl)
                simp only [Act.put, List.setIfInBounds_toArray, List.set_cons_zero, List.set_cons_succ]
                refine wpAnyH_take (i := 20) (oi := ⟨some 236, _, _, _, _, _⟩) (v := ?_) rfl (by kernel_rfl) (by kernel_rfl) (by kernel_rfl) (fun _ _ _ h => h) (Or.inl ⟨by rfl, ?_⟩) hS84 ?_
                rotate_left 1
                · (intro w hSw; obtain ⟨hSw1, hSw2, hSw3⟩ := hSw; go_simp; try with_reducible rfl)
                simp only [Act.put, List.setIfInBounds_toArray, List.set_cons_zero, List.set_cons_succ]
                refine wpAnyH_take (i := 21) (oi := ⟨some 237, _, _, _, _, _⟩) (v := ?_) rfl (by kernel_rfl) (by kernel_rfl) (by kernel_rfl) (fun _ _ _ h => h) (Or.inl ⟨by rfl, ?_⟩) hS84 ?_
                rotate_left 1
                · (intro w hSw; obtain ⟨hSw1, hSw2, hSw3⟩ := hSw; go_simp; try with_reducible rfl)
                simp only [Act.put, List.setIfInBounds_toArray, List.set_cons_zero, List.set_cons_succ]
                refine wpAnyH_take (i := 22) (oi := ⟨some 238, _, _, _, _, _⟩) (v := ?_) rfl (by kernel_rfl) (by kernel_rfl) (by kernel_rfl) (fun _ _ _ h => h) (Or.inl ⟨by rfl, ?_⟩) hS84 ?_
                rotate_left 1
                · (intro w hSw; obtain ⟨hSw1, hSw2, hSw3⟩ := hSw; go_simp; try with_reducible rfl)
                simp only [Act.put, List.setIfInBounds_toArray, List.set_cons_zero, List.set_cons_succ]
                refine wpAnyH_take (i := 23) (oi := ⟨some 239, _, _, _, _, _⟩) (v := ?_) rfl (by kernel_rfl) (by kernel_rfl) (by kernel_rfl) (fun _ _ _ h => h) (Or.inl ⟨by rfl, ?_⟩) hS84 ?_
                rotate_left 1
                · (intro w hSw; obtain ⟨hSw1, hSw2, hSw3⟩ := hSw; go_simp; try with_reducible rfl)
                simp only [Act.put, List.setIfInBounds_toArray, List.set_cons_zero, List.set_cons_succ]
                refine wpAnyH_take (i := 24) (oi := ⟨some 240, _, _, _, _, _⟩) (v := ?_) rfl (by kernel_rfl) (by kernel_rfl) (by kernel_rfl) (fun _ _ _ h => h) (Or.inl ⟨by rfl, ?_⟩) hS84 ?_
                rotate_left 1
                · (intro w hSw; obtain ⟨hSw1, hSw2, hSw3⟩ := hSw; go_simp; try with_reducible rfl)
                simp only [Act.put, List.setIfInBounds_toArray, List.set_cons_zero, List.set_cons_succ]
                refine wpAnyH_take (i := 25) (oi := ⟨some 241, _, _, _, _, _⟩) (v := ?_) rfl (by kernel_rfl) (by kernel_rfl) (by kernel_rfl) (fun _ _ _ h => h) (Or.inl ⟨by rfl, ?_⟩) hS84 ?_
                rotate_left 1
                · (intro w hSw; obtain ⟨hSw1, hSw2, hSw3⟩ := hSw; go_simp; try with_reducible rfl)
                simp only [Act.put, List.setIfInBounds_toArray, List.set_cons_zero, List.set_cons_succ]
                refine wpAnyH_take (i := 26) (oi := ⟨some 242, _, _, _, _, _⟩) (v := ?_) rfl (by kernel_rfl) (by kernel_rfl) (by kernel_rfl) (fun _ _ _ h => h) (Or.inl ⟨by rfl, ?_⟩) hS84 ?_
                rotate_left 1
                · (intro w hSw; obtain ⟨hSw1, hSw2, hSw3⟩ := hSw; go_simp; try with_reducible rfl)
                simp only [Act.put, List.setIfInBounds_toArray, List.set_cons_zero, List.set_cons_succ]
                refine wpAnyH_take (i := 27) (oi := ⟨some 243, _, _, _, _, _⟩) (v := ?_) rfl (by kernel_rfl) (by kernel_rfl) (by kernel_rfl) (fun _ _ _ h => h) (Or.inl ⟨by rfl, ?_⟩) hS84 ?_
                rotate_left 1
                · (intro w hSw; obtain ⟨hSw1, hSw2, hSw3⟩ := hSw; go_simp; try with_reducible rfl)
                simp only [Act.put, List.setIfInBounds_toArray, List.set_cons_zero, List.set_cons_succ]
                refine wpAnyH_ready (rs := [17]) (by kernel_rfl) (by simp) ?_
                refine AllReadyH.cons (o := ⟨some 233, _, _, _, _, _⟩) rfl (fun K hK => ?_) AllReadyH.nil
                go_simp
                refine (HT84.out.room (by have := HV1.out.lim.n16; omega) HV1.out.few).mono ?_
                rintro r w85 ⟨rfl, hb85⟩
                rw [Hrm.out]
                have hS85 : w85.cell? ⟨p2, 6, none⟩ = some (.slice A2 el c2) ∧ w85.cell? ⟨p2, 1, none⟩ = some (.int .i64 (rg : Int)) ∧ w85.cell? ⟨q2, 1, none⟩ = some (.slice B2 ll d2) := ⟨cell_kept hb85 hS84.1, cell_kept hb85 hS84.2.1, cell_kept hb85 hS84.2.2⟩
                have HT85 := hide (HT84.out.below hb85)
                clear hb85
                refine hK.out _ _ hS85 (fun hHeld => ?_)
                clear hK K
                clear hHeld
                refine wpAnyH_take (i := 28) (oi := ⟨some 244, _, _, _, _, _⟩) (v := ?_) rfl (by kernel_rfl) (by kernel_rfl) (by kernel_rfl) (fun _ _ _ h => h) (Or.inl ⟨by rfl, ?_⟩) hS85 ?_
                rotate_left 1
                · (intro w hSw; obtain ⟨hSw1, hSw2, hSw3⟩ := hSw; go_simp; try with_reducible rfl)
                simp only [Act.put, List.setIfInBounds_toArray, List.set_cons_zero, List.set_cons_succ]
                refine wpAnyH_take (i := 29) (oi := ⟨some 245, _, _, _, _, _⟩) (v := ?_) rfl (by kernel_rfl) (by kernel_rfl) (by kernel_rfl) (fun _ _ _ h => h) (Or.inl ⟨by rfl, ?_⟩) hS85 ?_
                rotate_left 1
                · (intro w hSw; obtain ⟨hSw1, hSw2, hSw3⟩ := hSw; go_simp; try with_reducible rfl)
                simp only [Act.put, List.setIfInBounds_toArray, List.set_cons_zero, List.set_cons_succ]
                refine wpAnyH_take (i := 30) (oi := ⟨some 246, _, _, _, _, _⟩) (v := ?_) rfl (by kernel_rfl) (by kernel_rfl) (by kernel_rfl) (fun _ _ _ h => h) (Or.inl ⟨by rfl, ?_⟩) hS85 ?_
                rotate_left 1
                · (intro w hSw; obtain ⟨hSw1, hSw2, hSw3⟩ := hSw; go_simp; try with_reducible rfl)
                simp only [Act.put, List.setIfInBounds_toArray, List.set_cons_zero, List.set_cons_succ]
                refine wpAnyH_take (i := 31) (oi := ⟨some 247, _, _, _, _, _⟩) (v := ?_) rfl (by kernel_rfl) (by kernel_rfl) (by kernel_rfl) (fun _ _ _ h => h) (Or.inl ⟨by rfl, ?_⟩) hS85 ?_
                rotate_left 1
                · (intro w hSw; obtain ⟨hSw1, hSw2, hSw3⟩ := hSw; go_simp; try with_reducible rfl)
                simp only [Act.put, List.setIfInBounds_toArray, List.set_cons_zero, List.set_cons_succ]
                refine wpAnyH_take (i := 33) (oi := ⟨some 249, _, _, _, _, _⟩) (v := ?_) rfl (by kernel_rfl) (by kernel_rfl) (by kernel_rfl) (fun _ _ _ h => h) (Or.inl ⟨by rfl, ?_⟩) hS85 ?_
                rotate_left 1
                · (intro w hSw; obtain ⟨hSw1, hSw2, hSw3⟩ := hSw; go_simp; try with_reducible rfl)
                simp only [Act.put, List.setIfInBounds_toArray, List.set_cons_zero, List.set_cons_succ]
                refine wpAnyH_take (i := 34) (oi := ⟨some 250, _, _, _, _, _⟩) (v := ?_) rfl (by kernel_rfl) (by kernel_rfl) (by kernel_rfl) (fun _ _ _ h => h) (Or.inl ⟨by rfl, ?_⟩) hS85 ?_
                rotate_left 1
                · (intro w hSw; obtain ⟨hSw1, hSw2, hSw3⟩ := hSw; go_simp; try with_reducible rfl)
                simp only [Act.put, List.setIfInBounds_toArray, List.set_cons_zero, List.set_cons_succ]
                refine wpAnyH_take (i := 35) (oi := ⟨some 251, _, _, _, _, _⟩) (v := ?_) rfl (by kernel_rfl) (by kernel_rfl) (by kernel_rfl) (fun _ _ _ h => h) (Or.inl ⟨by rfl, ?_⟩) hS85 ?_
                rotate_left 1
                · (intro w hSw; obtain ⟨hSw1, hSw2, hSw3⟩ := hSw; go_simp; try with_reducible rfl)
                simp only [Act.put, List.setIfInBounds_toArray, List.set_cons_zero, List.set_cons_succ]
                refine wpAnyH_take (i := 36) (oi := ⟨some 252, _, _, _, _, _⟩) (v := ?_) rfl (by kernel_rfl) (by kernel_rfl) (by kernel_rfl) (fun _ _ _ h => h) (Or.inl ⟨by rfl, ?_⟩) hS85 ?_
                rotate_left 1
                · (intro w hSw; obtain ⟨hSw1, hSw2, hSw3⟩ := hSw; go_simp; try with_reducible rfl)
                simp only [Act.put, List.setIfInBounds_toArray, List.set_cons_zero, List.set_cons_succ]
                refine wpAnyH_take (i := 37) (oi := ⟨some 253, _, _, _, _, _⟩) (v := ?_) rfl (by kernel_rfl) (by kernel_rfl) (by kernel_rfl) (fun _ _ _ h => h) (Or.inl ⟨by rfl, ?_⟩) hS85 ?_
                rotate_left 1
                · (intro w hSw; obtain ⟨hSw1, hSw2, hSw3⟩ := hSw; go_simp; try with_reducible rfl)
                simp only [Act.put, List.setIfInBounds_toArray, List.set_cons_zero, List.set_cons_succ]
                refine wpAnyH_ready (rs := [32]) (by kernel_rfl) (by simp) ?_
                refine AllReadyH.cons (o := ⟨some 248, _, _, _, _, _⟩) rfl (fun K hK => ?_) AllReadyH.nil
                go_simp
                refine (HT85.out.loose).mono ?_
                rintro r w86 ⟨rfl, rfl⟩
                rw [Hll.out]
                refine hK.out _ _ hS85 (fun hHeld => ?_)
                clear hK K
                clear hHeld
                refine wpAnyH_take (i := 38) (oi := ⟨some 254, _, _, _, _, _⟩) (v := ?_) rfl (by kernel_rfl) (by kernel_rfl) (by kernel_rfl) (fun _ _ _ h => h) (Or.inl ⟨by rfl, ?_⟩) hS85 ?_
                rotate_left 1
                · (intro w hSw; obtain ⟨hSw1, hSw2, hSw3⟩ := hSw; go_simp; try with_reducible rfl)
                simp only [Act.put, List.setIfInBounds_toArray, List.set_cons_zero, List.set_cons_succ]
                refine wpAnyH_take (i := 39) (oi := ⟨some 255, _, _, _, _, _⟩) (v := ?_) rfl (by kernel_rfl) (by kernel_rfl) (by kernel_rfl) (fun _ _ _ h => h) (Or.inl ⟨by rfl, ?_⟩) hS85 ?_
                rotate_left 1
                · (intro w hSw; obtain ⟨hSw1, hSw2, hSw3⟩ := hSw; go_simp; try with_reducible rfl)
                simp only [Act.put, List.setIfInBounds_toArray, List.set_cons_zero, List.set_cons_succ]
                refine wpAnyH_done (by kernel_rfl) ?_ _
                clear hS80 hS81 hS82 hS83 hS84 hS85 HA80
                go_wp2
                go_roundw
                case rel => exact ⟨k + 1, p, p2, S, L, h, E, D, _, _, Hlt.out, by go_num, rfl, rfl, by rw [show 1 + (k + 1) = 1 + k + 1 by omega]; exact HV1, HT85⟩
                case measure => have := Hlt.out; simp [intOf]; omega
            · obtain ⟨kn, rfl⟩ : ∃ kn : Nat, on = (kn : Int) := ⟨on.toNat, by omega⟩
              by_cases h0 : kn = 0
              · subst h0
                clear hbad
                rw [show ((0 : Nat) : Int) = 0 from rfl] at HT2 x1_w2
                as_aux_lemma =>
                  go_wp2_with fail
                  refine (HT2.out.trim_zero).mono ?_
                  rintro r w' ⟨rfl, rfl⟩
                  clear x0_w2 x1_w2 x2_w2 x3_w2 x4_w2 x5_w2 x6_w2 x7_w2
                  go_wp2_with fail
                  refine (First_jnil w2 (HT2.out.ety HE1.out)).mono ?_
                  rintro r w4 ⟨rfl, hb4⟩
                  have HT4 := hide (HT2.out.below hb4)
                  clear hb4 HT2
                  have HT4d := hide (HT4.out.below (Below.refl w4.heap.size w4).drew)
                  have hS0 : w4.drew.cell? ⟨bx, 1, none⟩ = some (.int .i64 0) := by simp [World.cell?, HT4d.out.obj]
                  clear HT4
                  go_wp2_with fail
                  refine wp_region_held (S := (fun W => W.cell? ⟨bx, 1, none⟩ = some (.int .i64 0))) (by kernel_rfl) ?_
                  change wpAnyH _ _ _ _ _ _ _ _ (World.drew _)
                  refine wpAnyH_take (i := 0) (oi := ⟨some 168, _, _, _, _, _⟩) (v := ?_) rfl (by kernel_rfl) (by kernel_rfl) (by kernel_rfl) (fun _ _ _ h => h) (Or.inl ⟨by rfl, ?_⟩) hS0 ?_
                  rotate_left 1
                  · (intro w hSw; obtain hSw1 := hSw; go_simp; try with_reducible rfl)
                  simp only [Act.put, List.setIfInBounds_toArray, List.set_cons_zero, List.set_cons_succ]
                  refine wpAnyH_take (i := 2) (oi := ⟨some 170, _, _, _, _, _⟩) (v := ?_) rfl (by kernel_rfl) (by kernel_rfl) (by kernel_rfl) (fun _ _ _ h => h) (Or.inl ⟨by rfl, ?_⟩) hS0 ?_
                  rotate_left 1
                  · (intro w hSw; obtain hSw1 := hSw; go_simp; try with_reducible rfl)
                  simp only [Act.put, List.setIfInBounds_toArray, List.set_cons_zero, List.set_cons_succ]
                  refine wpAnyH_take (i := 3) (oi := ⟨some 171, _, _, _, _, _⟩) (v := ?_) rfl (by kernel_rfl) (by kernel_rfl) (by kernel_rfl) (fun _ _ _ h => h) (Or.inl ⟨by rfl, ?_⟩) hS0 ?_
                  rotate_left 1
                  · (intro w hSw; obtain hSw1 := hSw; go_simp; try with_reducible rfl)
                  simp only [Act.put, List.setIfInBounds_toArray, List.set_cons_zero, List.set_cons_succ]
                  refine wpAnyH_take (i := 4) (oi := ⟨some 172, _, _, _, _, _⟩) (v := ?_) rfl (by kernel_rfl) (by kernel_rfl) (by kernel_rfl) (fun _ _ _ h => h) (Or.inl ⟨by rfl, ?_⟩) hS0 ?_
                  rotate_left 1
                  · (intro w hSw; obtain hSw1 := hSw; go_simp; try with_reducible rfl)
                  simp only [Act.put, List.setIfInBounds_toArray, List.set_cons_zero, List.set_cons_succ]
                  refine wpAnyH_ready (rs := [1]) (by kernel_rfl) (by simp) ?_
                  refine AllReadyH.cons (o := ⟨some 169, _, _, _, _, _⟩) rfl (fun K hK => ?_) AllReadyH.nil
                  go_simp
                  refine (Code_jnil w4.drew (HT4d.out.ety HE1.out)).mono ?_
                  rintro r w5 ⟨rfl, hb5⟩
                  have HT5 := hide (HT4d.out.below hb5)
                  have hS1 : w5.cell? ⟨bx, 1, none⟩ = some (.int .i64 0) := by simp [World.cell?, HT5.out.obj]
                  clear hb5 HT4d
                  refine hK.out _ _ hS1 (fun hHeld => ?_)
                  clear hK K
                  clear hHeld
                  refine wpAnyH_ready (rs := [5]) (by kernel_rfl) (by simp) ?_
                  refine AllReadyH.cons (o := ⟨some 173, _, _, _, _, _⟩) rfl (fun K hK => ?_) AllReadyH.nil
                  go_simp
                  refine (HT5.out.rtrim_zero).mono ?_
                  rintro r w' ⟨rfl, rfl⟩
                  have hS2 := hS1
                  refine hK.out _ _ hS2 (fun hHeld => ?_)
                  clear hK K
                  clear hHeld
                  refine wpAnyH_take (i := 6) (oi := ⟨some 174, _, _, _, _, _⟩) (v := ?_) rfl (by kernel_rfl) (by kernel_rfl) (by kernel_rfl) (fun _ _ _ h => h) (Or.inl ⟨by rfl, ?_⟩) hS2 ?_
                  rotate_left 1
                  · (intro w hSw; obtain hSw1 := hSw; go_simp; try with_reducible rfl)
                  simp only [Act.put, List.setIfInBounds_toArray, List.set_cons_zero, List.set_cons_succ]
                  refine wpAnyH_take (i := 7) (oi := ⟨some 175, _, _, _, _, _⟩) (v := ?_) rfl (by kernel_rfl) (by kernel_rfl) (by kernel_rfl) (fun _ _ _ h => h) (Or.inl ⟨by rfl, ?_⟩) hS2 ?_
                  rotate_left 1
                  · (intro w hSw; obtain hSw1 := hSw; go_simp; try with_reducible rfl)
                  simp only [Act.put, List.setIfInBounds_toArray, List.set_cons_zero, List.set_cons_succ]
                  refine wpAnyH_take (i := 8) (oi := ⟨some 176, _, _, _, _, _⟩) (v := ?_) rfl (by kernel_rfl) (by kernel_rfl) (by kernel_rfl) (fun _ _ _ h => h) (Or.inl ⟨by rfl, ?_⟩) hS2 ?_
                  rotate_left 1
                  · (intro w hSw; obtain hSw1 := hSw; go_simp; try with_reducible rfl)
                  simp only [Act.put, List.setIfInBounds_toArray, List.set_cons_zero, List.set_cons_succ]
                  refine wpAnyH_take (i := 9) (oi := ⟨some 177, _, _, _, _, _⟩) (v := ?_) rfl (by kernel_rfl) (by kernel_rfl) (by kernel_rfl) (fun _ _ _ h => h) (Or.inl ⟨by rfl, ?_⟩) hS2 ?_
                  rotate_left 1
                  · (intro w hSw; obtain hSw1 := hSw; go_simp; try with_reducible rfl)
                  simp only [Act.put, List.setIfInBounds_toArray, List.set_cons_zero, List.set_cons_succ]
                  refine wpAnyH_take (i := 10) (oi := ⟨some 178, _, _, _, _, _⟩) (v := undef) rfl (by kernel_rfl) (by kernel_rfl) (by kernel_rfl) (fun _ _ _ h => h) (Or.inr ⟨by rfl, rfl⟩) hS2 ?_
                  simp only [Act.put, List.setIfInBounds_toArray, List.set_cons_zero, List.set_cons_succ]
                  refine wpAnyH_take (i := 11) (oi := ⟨some 179, _, _, _, _, _⟩) (v := undef) rfl (by kernel_rfl) (by kernel_rfl) (by kernel_rfl) (fun _ _ _ h => h) (Or.inr ⟨by rfl, rfl⟩) hS2 ?_
                  simp only [Act.put, List.setIfInBounds_toArray, List.set_cons_zero, List.set_cons_succ]
                  refine wpAnyH_take (i := 12) (oi := ⟨some 180, _, _, _, _, _⟩) (v := undef) rfl (by kernel_rfl) (by kernel_rfl) (by kernel_rfl) (fun _ _ _ h => h) (Or.inr ⟨by rfl, rfl⟩) hS2 ?_
                  simp only [Act.put, List.setIfInBounds_toArray, List.set_cons_zero, List.set_cons_succ]
                  refine wpAnyH_take (i := 13) (oi := ⟨some 181, _, _, _, _, _⟩) (v := undef) rfl (by kernel_rfl) (by kernel_rfl) (by kernel_rfl) (fun _ _ _ h => h) (Or.inr ⟨by rfl, rfl⟩) hS2 ?_
                  simp only [Act.put, List.setIfInBounds_toArray, List.set_cons_zero, List.set_cons_succ]
                  refine wpAnyH_take (i := 14) (oi := ⟨some 182, _, _, _, _, _⟩) (v := ?_) rfl (by kernel_rfl) (by kernel_rfl) (by kernel_rfl) (fun _ _ _ h => h) (Or.inl ⟨by rfl, ?_⟩) hS2 ?_
                  rotate_left 1
                  · (intro w hSw; obtain hSw1 := hSw; go_simp; try with_reducible rfl)
                  simp only [Act.put, List.setIfInBounds_toArray, List.set_cons_zero, List.set_cons_succ]
                  refine wpAnyH_take (i := 15) (oi := ⟨some 183, _, _, _, _, _⟩) (v := ?_) rfl (by kernel_rfl) (by kernel_rfl) (by kernel_rfl) (fun _ _ _ h => h) (Or.inl ⟨by rfl, ?_⟩) hS2 ?_
                  rotate_left 1
                  · (intro w hSw; obtain hSw1 := hSw; go_simp; try with_reducible rfl)
                  simp only [Act.put, List.setIfInBounds_toArray, List.set_cons_zero, List.set_cons_succ]
                  refine wpAnyH_done (by kernel_rfl) ?_ _
                  clear hS0 hS1 hS2
                  have HV1 := hide (HV0.out.more (Nat.le_succ _) HTT.out)
                  clear HV0
                  have HT80 := hide (HT5.out.below (Below.refl w5.heap.size w5).drew)
                  obtain ⟨el, hel⟩ : ∃ el, E.length = el := ⟨_, rfl⟩
                  have Hel := hide hel
                  obtain ⟨ll, hll⟩ : ∃ ll, L.length = ll := ⟨_, rfl⟩
                  have Hll := hide (show ((L.length : Nat) : Int) = (ll : Int) by rw [hll])
                  obtain ⟨nx, hnx⟩ : ∃ nx, h.f + E.length = nx := ⟨_, rfl⟩
                  have Hnx := hide hnx
                  obtain ⟨rm, hrm0⟩ : ∃ rm, rg - el = rm := ⟨_, rfl⟩
                  have hele : el ≤ rg := by rw [← hel]; exact HV1.out.few
                  have hrmi : (rg : Int) - (el : Int) = (rm : Int) := by omega
                  have hrg20 := HV1.out.lim.n16
                  have hwrm : IntKind.i64.wrap (rm : Int) = (rm : Int) := by rw [IntKind.wrap_i64]; omega
                  have Hrm := hide (show (rg : Int) - (E.length : Int) = (rm : Int) by rw [hel]; exact hrmi)
                  obtain ⟨A2, c2, B2, d2, k6, ha, k1, k1q⟩ := HT5.out.cells
                  rw [hel] at k6
                  rw [hll] at k1q
                  have HA80 := hide (show ARow w5.drew A2 E from ha)
                  have hS80 : w5.drew.cell? ⟨p2, 6, none⟩ = some (.slice A2 el c2) ∧ w5.drew.cell? ⟨p2, 1, none⟩ = some (.int .i64 (rg : Int)) ∧ w5.drew.cell? ⟨q2, 1, none⟩ = some (.slice B2 ll d2) := ⟨k6, k1, k1q⟩
                  clear hel hll hnx k6 ha k1 k1q hrm0 hele hrg20 HT5
                  go_wp2_with fail
                  refine wp_region_held (S := (fun W => W.cell? ⟨p2, 6, none⟩ = some (.slice A2 el c2) ∧ W.cell? ⟨p2, 1, none⟩ = some (.int .i64 (rg : Int)) ∧ W.cell? ⟨q2, 1, none⟩ = some (.slice B2 ll d2))) (by kernel_rfl) ?_
                  change wpAnyH _ _ _ _ _ _ _ _ (World.drew _)
                  refine wpAnyH_take (i := 0) (oi := ⟨some 216, _, _, _, _, _⟩) (v := ?_) rfl (by kernel_rfl) (by kernel_rfl) (by kernel_rfl) (fun _ _ _ h => h) (Or.inl ⟨by rfl, ?_⟩) hS80 ?_
                  rotate_left 1
                  · (intro w hSw; obtain ⟨hSw1, hSw2, hSw3⟩ := hSw; go_simp; try with_reducible rfl)
                  simp only [Act.put, List.setIfInBounds_toArray, List.set_cons_zero, List.set_cons_succ]
                  refine wpAnyH_take (i := 2) (oi := ⟨some 218, _, _, _, _, _⟩) (v := ?_) rfl (by kernel_rfl) (by kernel_rfl) (by kernel_rfl) (fun _ _ _ h => h) (Or.inl ⟨by rfl, ?_⟩) hS80 ?_
                  rotate_left 1
                  · (intro w hSw; obtain ⟨hSw1, hSw2, hSw3⟩ := hSw; go_simp; try with_reducible rfl)
                  simp only [Act.put, List.setIfInBounds_toArray, List.set_cons_zero, List.set_cons_succ]
                  refine wpAnyH_take (i := 3) (oi := ⟨some 219, _, _, _, _, _⟩) (v := ?_) rfl (by kernel_rfl) (by kernel_rfl) (by kernel_rfl) (fun _ _ _ h => h) (Or.inl ⟨by rfl, ?_⟩) hS80 ?_
                  rotate_left 1
                  · (intro w hSw; obtain ⟨hSw1, hSw2, hSw3⟩ := hSw; go_simp; try with_reducible rfl)
                  simp only [Act.put, List.setIfInBounds_toArray, List.set_cons_zero, List.set_cons_succ]
                  refine wpAnyH_take (i := 4) (oi := ⟨some 220, _, _, _, _, _⟩) (v := ?_) rfl (by kernel_rfl) (by kernel_rfl) (by kernel_rfl) (fun _ _ _ h => h) (Or.inl ⟨by rfl, ?_⟩) hS80 ?_
                  rotate_left 1
                  · (intro w hSw; obtain ⟨hSw1, hSw2, hSw3⟩ := hSw; go_simp; try with_reducible rfl)
                  simp only [Act.put, List.setIfInBounds_toArray, List.set_cons_zero, List.set_cons_succ]
                  refine wpAnyH_take (i := 5) (oi := ⟨some 221, _, _, _, _, _⟩) (v := ?_) rfl (by kernel_rfl) (by kernel_rfl) (by kernel_rfl) (fun _ _ _ h => h) (Or.inl ⟨by rfl, ?_⟩) hS80 ?_
                  rotate_left 1
                  · (intro w hSw; obtain ⟨hSw1, hSw2, hSw3⟩ := hSw; go_simp; try with_reducible rfl)
                  simp only [Act.put, List.setIfInBounds_toArray, List.set_cons_zero, List.set_cons_succ]
                  refine wpAnyH_ready (rs := [1]) (by kernel_rfl) (by simp) ?_
                  refine AllReadyH.cons (o := ⟨some 217, _, _, _, _, _⟩) rfl (fun K hK => ?_) AllReadyH.nil
                  go_simp
                  refine (HT80.out.records (by have := Hel.out; have := HV1.out.few; have := HV1.out.lim.n16; omega)).mono ?_
                  rintro r w81 ⟨A81, c81, rfl, ha81, hb81⟩
                  rw [Hel.out]
                  have hS81 : w81.cell? ⟨p2, 6, none⟩ = some (.slice A2 el c2) ∧ w81.cell? ⟨p2, 1, none⟩ = some (.int .i64 (rg : Int)) ∧ w81.cell? ⟨q2, 1, none⟩ = some (.slice B2 ll d2) := ⟨cell_kept hb81 hS80.1, cell_kept hb81 hS80.2.1, cell_kept hb81 hS80.2.2⟩
                  have HT81 := hide (HT80.out.below hb81)
                  have HA81 := hide ha81
                  have HA2 := hide ((HA80.out).below hb81)
                  clear hb81 ha81
                  refine hK.out _ _ hS81 (fun hHeld => ?_)
                  clear hK K
                  clear hHeld
                  refine wpAnyH_ready (rs := [6]) (by kernel_rfl) (by simp) ?_
                  refine AllReadyH.cons (o := ⟨some 222, _, _, _, _, _⟩) rfl (fun K hK => ?_) AllReadyH.nil
                  go_simp
                  refine (Same_two w81 E el A81 A2 c81 c2 Hel.out (by have := Hel.out; have := HV1.out.few; have := HV1.out.lim.n16; omega) HA81.out HA2.out).mono ?_
                  rintro r w82 ⟨rfl, hb82⟩
                  have hS82 : w82.cell? ⟨p2, 6, none⟩ = some (.slice A2 el c2) ∧ w82.cell? ⟨p2, 1, none⟩ = some (.int .i64 (rg : Int)) ∧ w82.cell? ⟨q2, 1, none⟩ = some (.slice B2 ll d2) := ⟨cell_kept hb82 hS81.1, cell_kept hb82 hS81.2.1, cell_kept hb82 hS81.2.2⟩
                  have HT82 := hide (HT81.out.below hb82)
                  clear hb82 HA81 HA2
                  refine hK.out _ _ hS82 (fun hHeld => ?_)
                  clear hK K
                  clear hHeld
                  refine wpAnyH_take (i := 7) (oi := ⟨some 223, _, _, _, _, _⟩) (v := ?_) rfl (by kernel_rfl) (by kernel_rfl) (by kernel_rfl) (fun _ _ _ h => h) (Or.inl ⟨by rfl, ?_⟩) hS82 ?_
                  rotate_left 1
                  · (intro w hSw; obtain ⟨hSw1, hSw2, hSw3⟩ := hSw; go_simp; try with_reducible rfl)
                  simp only [Act.put, List.setIfInBounds_toArray, List.set_cons_zero, List.set_cons_succ]
                  refine wpAnyH_take (i := 8) (oi := ⟨some 224, _, _, _, _, _⟩) (v := ?_) rfl (by kernel_rfl) (by kernel_rfl) (by kernel_rfl) (fun _ _ _ h => h) (Or.inl ⟨by rfl, ?_⟩) hS82 ?_
                  rotate_left 1
                  · (intro w hSw; obtain ⟨hSw1, hSw2, hSw3⟩ := hSw; go_simp; try with_reducible rfl)
                  simp only [Act.put, List.setIfInBounds_toArray, List.set_cons_zero, List.set_cons_succ]
                  refine wpAnyH_take (i := 9) (oi := ⟨some 225, _, _, _, _, _⟩) (v := ?_) rfl (by kernel_rfl) (by kernel_rfl) (by kernel_rfl) (fun _ _ _ h => h) (Or.inl ⟨by rfl, ?_⟩) hS82 ?_
                  rotate_left 1
                  · (intro w hSw; obtain ⟨hSw1, hSw2, hSw3⟩ := hSw; go_simp; try with_reducible rfl)
                  simp only [Act.put, List.setIfInBounds_toArray, List.set_cons_zero, List.set_cons_succ]
                  refine wpAnyH_take (i := 11) (oi := ⟨some 227, _, _, _, _, _⟩) (v := ?_) rfl (by kernel_rfl) (by kernel_rfl) (by kernel_rfl) (fun _ _ _ h => h) (Or.inl ⟨by rfl, ?_⟩) hS82 ?_
                  rotate_left 1
                  · (intro w hSw; obtain ⟨hSw1, hSw2, hSw3⟩ := hSw; go_simp; try with_reducible rfl)
                  simp only [Act.put, List.setIfInBounds_toArray, List.set_cons_zero, List.set_cons_succ]
                  refine wpAnyH_ready (rs := [10]) (by kernel_rfl) (by simp) ?_
                  refine AllReadyH.cons (o := ⟨some 226, _, _, _, _, _⟩) rfl (fun K hK => ?_) AllReadyH.nil
                  go_simp
                  refine (HT82.out.next (by have := HV1.out.lim.f; have := HV1.out.lim.T; omega) (by have := HV1.out.few; have := HV1.out.lim.n16; omega)).mono ?_
                  rintro r w83 ⟨rfl, hb83⟩
                  rw [Hnx.out]
                  have hS83 : w83.cell? ⟨p2, 6, none⟩ = some (.slice A2 el c2) ∧ w83.cell? ⟨p2, 1, none⟩ = some (.int .i64 (rg : Int)) ∧ w83.cell? ⟨q2, 1, none⟩ = some (.slice B2 ll d2) := ⟨cell_kept hb83 hS82.1, cell_kept hb83 hS82.2.1, cell_kept hb83 hS82.2.2⟩
                  have HT83 := hide (HT82.out.below hb83)
                  clear hb83
                  refine hK.out _ _ hS83 (fun hHeld => ?_)
                  clear hK K
                  clear hHeld
                  refine wpAnyH_ready (rs := [12]) (by kernel_rfl) (by simp) ?_
                  refine AllReadyH.cons (o := ⟨some 228, _, _, _, _, _⟩) rfl (fun K hK => ?_) AllReadyH.nil
                  go_simp
                  refine (HT83.out.rnext (by have := HV1.out.lim.f; have := HV1.out.lim.T; omega) (by have := HV1.out.few; have := HV1.out.lim.n16; omega)).mono ?_
                  rintro r w84 ⟨rfl, hb84⟩
                  rw [Hnx.out]
                  have hS84 : w84.cell? ⟨p2, 6, none⟩ = some (.slice A2 el c2) ∧ w84.cell? ⟨p2, 1, none⟩ = some (.int .i64 (rg : Int)) ∧ w84.cell? ⟨q2, 1, none⟩ = some (.slice B2 ll d2) := ⟨cell_kept hb84 hS83.1, cell_kept hb84 hS83.2.1, cell_kept hb84 hS83.2.2⟩
                  have HT84 := hide (HT83.out.below hb84)
                  clear hb84
                  refine hK.out _ _ hS84 (fun hHeld => ?_)
                  clear hK K
                  clear hHeld
                  refine wpAnyH_take (i := 13) (oi := ⟨some 229, _, _, _, _, _⟩) (v := ?_) rfl (by kernel_rfl) (by kernel_rfl) (by kernel_rfl) (fun _ _ _ h => h) (Or.inl ⟨by rfl, ?_⟩) hS84 ?_
                  rotate_left 1
                  · (intro w hSw; obtain ⟨hSw1, hSw2, hSw3⟩ := hSw; go_simp; try with_reducible rfl)
                  simp only [Act.put, List.setIfInBounds_toArray, List.set_cons_zero, List.set_cons_succ]
                  refine wpAnyH_take (i := 14) (oi := ⟨some 230, _, _, _, _, _⟩) (v := ?_) rfl (by kernel_rfl) (by kernel_rfl) (by kernel_rfl) (fun _ _ _ h => h) (Or.inl ⟨by rfl, ?_⟩) hS84 ?_
                  rotate_left 1
                  · (intro w hSw; obtain ⟨hSw1, hSw2, hSw3⟩ := hSw; go_simp; try with_reducible rfl)
                  simp only [Act.put, List.setIfInBounds_toArray, List.set_cons_zero, List.set_cons_succ]
                  refine wpAnyH_take (i := 15) (oi := ⟨some 231, _, _, _, _, _⟩) (v := ?_) rfl (by kernel_rfl) (by kernel_rfl) (by kernel_rfl) (fun _ _ _ h => h) (Or.inl ⟨by rfl, ?_⟩) hS84 ?_
                  rotate_left 1
                  · (intro w hSw; obtain ⟨hSw1, hSw2, hSw3⟩ := hSw; go_simp; try with_reducible rfl)
                  simp only [Act.put, List.setIfInBounds_toArray, List.set_cons_zero, List.set_cons_succ]
                  refine wpAnyH_take (i := 16) (oi := ⟨some 232, _, _, _, _, _⟩) (v := ?_) rfl (by kernel_rfl) (by kernel_rfl) (by kernel_rfl) (fun _ _ _ h => h) (Or.inl ⟨by rfl, ?_⟩) hS84 ?_
                  rotate_left 1
                  · (intro w hSw; obtain ⟨hSw1, hSw2, hSw3⟩ := hSw; go_simp; try with_reducible rfl)
                  simp only [Act.put, List.setIfInBounds_toArray, List.set_cons_zero, List.set_cons_succ]
                  refine wpAnyH_take (i := 18) (oi := ⟨some 234, _, _, _, _, _⟩) (v := ?_) rfl (by kernel_rfl) (by kernel_rfl) (by kernel_rfl) (fun _ _ _ h => h) (Or.inl ⟨by rfl, ?_⟩) hS84 ?_
                  rotate_left 1
                  · (intro w hSw; obtain ⟨hSw1, hSw2, hSw3⟩ := hSw; go_simp; try with_reducible rfl)
                  simp only [Act.put, List.setIfInBounds_toArray, List.set_cons_zero, List.set_cons_succ]
                  refine wpAnyH_take (i := 19) (oi := ⟨some 235, _, _, _, _, _⟩) (v := ?_) rfl (by kernel_rfl) (by kernel_rfl) (by kernel_rfl) (fun _ _ _ h => h) (Or.inl ⟨by rfl, ?_⟩) hS84 ?_
                  rotate_left 1
                  · (intro w hSw; obtain ⟨hSw1, hSw2, hSw3⟩ := hSw; go_simp; try with_reducible rfl)
                  simp only [Act.put, List.setIfInBounds_toArray, List.set_cons_zero, List.set_cons_succ]
                  refine wpAnyH_take (i := 20) (oi := ⟨some 236, _, _, _, _, _⟩) (v := ?_) rfl (by kernel_rfl) (by kernel_rfl) (by kernel_rfl) (fun _ _ _ h => h) (Or.inl ⟨by rfl, ?_⟩) hS84 ?_
                  rotate_left 1
                  · (intro w hSw; obtain ⟨hSw1, hSw2, hSw3⟩ := hSw; go_simp; try with_reducible rfl)
                  simp only [Act.put, List.setIfInBounds_toArray, List.set_cons_zero, List.set_cons_succ]
                  refine wpAnyH_take (i := 21) (oi := ⟨some 237, _, _, _, _, _⟩) (v := ?_) rfl (by kernel_rfl) (by kernel_rfl) (by kernel_rfl) (fun _ _ _ h => h) (Or.inl ⟨by rfl, ?_⟩) hS84 ?_
                  rotate_left 1
                  · (intro w hSw; obtain ⟨hSw1, hSw2, hSw3⟩ := hSw; go_simp; try with_reducible rfl)
                  simp only [Act.put, List.setIfInBounds_toArray, List.set_cons_zero, List.set_cons_succ]
                  refine wpAnyH_take (i := 22) (oi := ⟨some 238, _, _, _, _, _⟩) (v := ?_) rfl (by kernel_rfl) (by kernel_rfl) (by kernel_rfl) (fun _ _ _ h => h) (Or.inl ⟨by rfl, ?_⟩) hS84 ?_
                  rotate_left 1
                  · (intro w hSw; obtain ⟨hSw1, hSw2, hSw3⟩ := hSw; go_simp; try with_reducible rfl)
                  simp only [Act.put, List.setIfInBounds_toArray, List.set_cons_zero, List.set_cons_succ]
                  refine wpAnyH_take (i := 23) (oi := ⟨some 239, _, _, _, _, _⟩) (v := ?_) rfl (by kernel_rfl) (by kernel_rfl) (by kernel_rfl) (fun _ _ _ h => h) (Or.inl ⟨by rfl, ?_⟩) hS84 ?_
                  rotate_left 1
                  · (intro w hSw; obtain ⟨hSw1, hSw2, hSw3⟩ := hSw; go_simp; try with_reducible rfl)
                  simp only [Act.put, List.setIfInBounds_toArray, List.set_cons_zero, List.set_cons_succ]
                  refine wpAnyH_take (i := 24) (oi := ⟨some 240, _, _, _, _, _⟩) (v := ?_) rfl (by kernel_rfl) (by kernel_rfl) (by kernel_rfl) (fun _ _ _ h => h) (Or.inl ⟨by rfl, ?_⟩) hS84 ?_
                  rotate_left 1
                  · (intro w hSw; obtain ⟨hSw1, hSw2, hSw3⟩ := hSw; go_simp; try with_reducible rfl)
                  simp only [Act.put, List.setIfInBounds_toArray, List.set_cons_zero, List.set_cons_succ]
                  refine wpAnyH_take (i := 25) (oi := ⟨some 241, _, _, _, _, _⟩) (v := ?_) rfl (by kernel_rfl) (by kernel_rfl) (by kernel_rfl) (fun _ _ _ h => h) (Or.inl ⟨by rfl, ?_⟩) hS84 ?_
                  rotate_left 1
                  · (intro w hSw; obtain ⟨hSw1, hSw2, hSw3⟩ := hSw; go_simp; try with_reducible rfl)
                  simp only [Act.put, List.setIfInBounds_toArray, List.set_cons_zero, List.set_cons_succ]
                  refine wpAnyH_take (i := 26) (oi := ⟨some 242, _, _, _, _, _⟩) (v := ?_) rfl (by kernel_rfl) (by kernel_rfl) (by kernel_rfl) (fun _ _ _ h => h) (Or.inl ⟨by rfl, ?_⟩) hS84 ?_
                  rotate_left 1
                  · (intro w hSw; obtain ⟨hSw1, hSw2, hSw3⟩ := hSw; go_simp; try with_reducible rfl)
                  simp only [Act.put, List.setIfInBounds_toArray, List.set_cons_zero, List.set_cons_succ]
                  refine wpAnyH_take (i := 27) (oi := ⟨some 243, _, _, _, _, _⟩) (v := ?_) rfl (by kernel_rfl) (by kernel_rfl) (by kernel_rfl) (fun _ _ _ h => h) (Or.inl ⟨by rfl, ?_⟩) hS84 ?_
                  rotate_left 1
                  · (intro w hSw; obtain ⟨hSw1, hSw2, hSw3⟩ := hSw; go_simp; try with_reducible rfl)
                  simp only [Act.put, List.setIfInBounds_toArray, List.set_cons_zero, List.set_cons_succ]
                  refine wpAnyH_ready (rs := [17]) (by kernel_rfl) (by simp) ?_
                  refine AllReadyH.cons (o := ⟨some 233, _, _, _, _, _⟩) rfl (fun K hK => ?_) AllReadyH.nil
                  go_simp
                  refine (HT84.out.room (by have := HV1.out.lim.n16; omega) HV1.out.few).mono ?_
                  rintro r w85 ⟨rfl, hb85⟩
                  rw [Hrm.out]
                  have hS85 : w85.cell? ⟨p2, 6, none⟩ = some (.slice A2 el c2) ∧ w85.cell? ⟨p2, 1, none⟩ = some (.int .i64 (rg : Int)) ∧ w85.cell? ⟨q2, 1, none⟩ = some (.slice B2 ll d2) := ⟨cell_kept hb85 hS84.1, cell_kept hb85 hS84.2.1, cell_kept hb85 hS84.2.2⟩
                  have HT85 := hide (HT84.out.below hb85)
                  clear hb85
                  refine hK.out _ _ hS85 (fun hHeld => ?_)
                  clear hK K
                  clear hHeld
                  refine wpAnyH_take (i := 28) (oi := ⟨some 244, _, _, _, _, _⟩) (v := ?_) rfl (by kernel_rfl) (by kernel_rfl) (by kernel_rfl) (fun _ _ _ h => h) (Or.inl ⟨by rfl, ?_⟩) hS85 ?_
                  rotate_left 1
                  · (intro w hSw; obtain ⟨hSw1, hSw2, hSw3⟩ := hSw; go_simp; try with_reducible rfl)
                  simp only [Act.put, List.setIfInBounds_toArray, List.set_cons_zero, List.set_cons_succ]
                  refine wpAnyH_take (i := 29) (oi := ⟨some 245, _, _, _, _, _⟩) (v := ?_) rfl (by kernel_rfl) (by kernel_rfl) (by kernel_rfl) (fun _ _ _ h => h) (Or.inl ⟨by rfl, ?_⟩) hS85 ?_
                  rotate_left 1
                  · (intro w hSw; obtain ⟨hSw1, hSw2, hSw3⟩ := hSw; go_simp; try with_reducible rfl)
                  simp only [Act.put, List.setIfInBounds_toArray, List.set_cons_zero, List.set_cons_succ]
                  refine wpAnyH_take (i := 30) (oi := ⟨some 246, _, _, _, _, _⟩) (v := ?_) rfl (by kernel_rfl) (by kernel_rfl) (by kernel_rfl) (fun _ _ _ h => h) (Or.inl ⟨by rfl, ?_⟩) hS85 ?_
                  rotate_left 1
                  · (intro w hSw; obtain ⟨hSw1, hSw2, hSw3⟩ := hSw; go_simp; try with_reducible rfl)
                  simp only [Act.put, List.setIfInBounds_toArray, List.set_cons_zero, List.set_cons_succ]
                  refine wpAnyH_take (i := 31) (oi := ⟨some 247, _, _, _, _, _⟩) (v := ?_) rfl (by kernel_rfl) (by kernel_rfl) (by kernel_rfl) (fun _ _ _ h => h) (Or.inl ⟨by rfl, ?_⟩) hS85 ?_
                  rotate_left 1
                  · (intro w hSw; obtain ⟨hSw1, hSw2, hSw3⟩ := hSw; go_simp; try with_reducible rfl)
                  simp only [Act.put, List.setIfInBounds_toArray, List.set_cons_zero, List.set_cons_succ]
                  refine wpAnyH_take (i := 33) (oi := ⟨some 249, _, _, _, _, _⟩) (v := ?_) rfl (by kernel_rfl) (by kernel_rfl) (by kernel_rfl) (fun _ _ _ h => h) (Or.inl ⟨by rfl, ?_⟩) hS85 ?_
                  rotate_left 1
                  · (intro w hSw; obtain ⟨hSw1, hSw2, hSw3⟩ := hSw; go_simp; try with_reducible rfl)
                  simp only [Act.put, List.setIfInBounds_toArray, List.set_cons_zero, List.set_cons_succ]
                  refine wpAnyH_take (i := 34) (oi := ⟨some 250, _, _, _, _, _⟩) (v := ?_) rfl (by kernel_rfl) (by kernel_rfl) (by kernel_rfl) (fun _ _ _ h => h) (Or.inl ⟨by rfl, ?_⟩) hS85 ?_
                  rotate_left 1
                  · (intro w hSw; obtain ⟨hSw1, hSw2, hSw3⟩ := hSw; go_simp; try with_reducible rfl)
                  simp only [Act.put, List.setIfInBounds_toArray, List.set_cons_zero, List.set_cons_succ]
                  refine wpAnyH_take (i := 35) (oi := ⟨some 251, _, _, _, _, _⟩) (v := ?_) rfl (by kernel_rfl) (by kernel_rfl) (by kernel_rfl) (fun _ _ _ h => h) (Or.inl ⟨by rfl, ?_⟩) hS85 ?_
                  rotate_left 1
                  · (intro w hSw; obtain ⟨hSw1, hSw2, hSw3⟩ := hSw; go_simp; try with_reducible rfl)
                  simp only [Act.put, List.setIfInBounds_toArray, List.set_cons_zero, List.set_cons_succ]
                  refine wpAnyH_take (i := 36) (oi := ⟨some 252, _, _, _, _, _⟩) (v := ?_) rfl (by kernel_rfl) (by kernel_rfl) (by kernel_rfl) (fun _ _ _ h => h) (Or.inl ⟨by rfl, ?_⟩) hS85 ?_
                  rotate_left 1
                  · (intro w hSw; obtain ⟨hSw1, hSw2, hSw3⟩ := hSw; go_simp; try with_reducible rfl)
                  simp only [Act.put, List.setIfInBounds_toArray, List.set_cons_zero, List.set_cons_succ]
                  refine wpAnyH_take (i := 37) (oi := ⟨some 253, _, _, _, _, _⟩) (v := ?_) rfl (by kernel_rfl) (by kernel_rfl) (by kernel_rfl) (fun _ _ _ h => h) (Or.inl ⟨by rfl, ?_⟩) hS85 ?_
                  rotate_left 1
                  · (intro w hSw; obtain ⟨hSw1, hSw2, hSw3⟩ := hSw; go_simp; try with_reducible rfl)
                  simp only [Act.put, List.setIfInBounds_toArray, List.set_cons_zero, List.set_cons_succ]
                  refine wpAnyH_ready (rs := [32]) (by kernel_rfl) (by simp) ?_
                  refine AllReadyH.cons (o := ⟨some 248, _, _, _, _, _⟩) rfl (fun K hK => ?_) AllReadyH.nil
                  go_simp
                  refine (HT85.out.loose).mono ?_
                  rintro r w86 ⟨rfl, rfl⟩
                  rw [Hll.out]
                  refine hK.out _ _ hS85 (fun hHeld => ?_)
                  clear hK K
                  clear hHeld
                  refine wpAnyH_take (i := 38) (oi := ⟨some 254, _, _, _, _, _⟩) (v := ?_) rfl (by kernel_rfl) (by kernel_rfl) (by kernel_rfl) (fun _ _ _ h => h) (Or.inl ⟨by rfl, ?_⟩) hS85 ?_
                  rotate_left 1
                  · (intro w hSw; obtain ⟨hSw1, hSw2, hSw3⟩ := hSw; go_simp; try with_reducible rfl)
                  simp only [Act.put, List.setIfInBounds_toArray, List.set_cons_zero, List.set_cons_succ]
                  refine wpAnyH_take (i := 39) (oi := ⟨some 255, _, _, _, _, _⟩) (v := ?_) rfl (by kernel_rfl) (by kernel_rfl) (by kernel_rfl) (fun _ _ _ h => h) (Or.inl ⟨by rfl, ?_⟩) hS85 ?_
                  rotate_left 1
                  · (intro w hSw; obtain ⟨hSw1, hSw2, hSw3⟩ := hSw; go_simp; try with_reducible rfl)
                  simp only [Act.put, List.setIfInBounds_toArray, List.set_cons_zero, List.set_cons_succ]
                  refine wpAnyH_done (by kernel_rfl) ?_ _
                  clear hS80 hS81 hS82 hS83 hS84 hS85 HA80
                  go_wp2
                  go_roundw
                  case rel => exact ⟨k + 1, p, p2, S, L, h, E, D, _, _, Hlt.out, by go_num, rfl, rfl, by rw [show 1 + (k + 1) = 1 + k + 1 by omega]; exact HV1, HT85⟩
                  case measure => have := Hlt.out; simp [intOf]; omega
              · have Hk1 := hide (show 1 ≤ kn by omega)
                have Hkm := hide (show kn ≤ E.length by omega)
                clear hbad h0
                as_aux_lemma =>
                  go_wp2_with fail
                  refine (HT2.out.trim HT1.out kn Hk1.out Hkm.out (by have := HV0.out.few; have := HV0.out.lim.n16; omega) (by have := HV0.out.lim.t; have := HV0.out.lim.T; omega) (by have := HV0.out.lim.f; have := HV0.out.lim.T; omega) (by have := HV0.out.ring; omega) (by have := HV0.out.short; omega)).mono ?_
                  rintro r w3 ⟨rfl, hj3⟩
                  have HT3 := hide hj3
                  clear hj3 HT2
                  clear x0_w2 x1_w2 x2_w2 x3_w2 x4_w2 x5_w2 x6_w2 x7_w2
                  go_wp2_with fail
                  refine (First_jnil w3 (HT3.out.ety HE1.out)).mono ?_
                  rintro r w4 ⟨rfl, hb4⟩
                  have HT4 := hide (HT3.out.below hb4)
                  clear hb4 HT3
                  have HT4d := hide (HT4.out.below (Below.refl w4.heap.size w4).drew)
                  have hS0 : w4.drew.cell? ⟨bx, 1, none⟩ = some (.int .i64 (kn : Int)) := by simp [World.cell?, HT4d.out.obj]
                  clear HT4
                  go_wp2_with fail
                  refine wp_region_held (S := (fun W => W.cell? ⟨bx, 1, none⟩ = some (.int .i64 (kn : Int)))) (by kernel_rfl) ?_
                  change wpAnyH _ _ _ _ _ _ _ _ (World.drew _)
                  refine wpAnyH_take (i := 0) (oi := ⟨some 168, _, _, _, _, _⟩) (v := ?_) rfl (by kernel_rfl) (by kernel_rfl) (by kernel_rfl) (fun _ _ _ h => h) (Or.inl ⟨by rfl, ?_⟩) hS0 ?_
                  rotate_left 1
                  · (intro w hSw; obtain hSw1 := hSw; go_simp; try with_reducible rfl)
                  simp only [Act.put, List.setIfInBounds_toArray, List.set_cons_zero, List.set_cons_succ]
                  refine wpAnyH_take (i := 2) (oi := ⟨some 170, _, _, _, _, _⟩) (v := ?_) rfl (by kernel_rfl) (by kernel_rfl) (by kernel_rfl) (fun _ _ _ h => h) (Or.inl ⟨by rfl, ?_⟩) hS0 ?_
                  rotate_left 1
                  · (intro w hSw; obtain hSw1 := hSw; go_simp; try with_reducible rfl)
                  simp only [Act.put, List.setIfInBounds_toArray, List.set_cons_zero, List.set_cons_succ]
                  refine wpAnyH_take (i := 3) (oi := ⟨some 171, _, _, _, _, _⟩) (v := ?_) rfl (by kernel_rfl) (by kernel_rfl) (by kernel_rfl) (fun _ _ _ h => h) (Or.inl ⟨by rfl, ?_⟩) hS0 ?_
                  rotate_left 1
                  · (intro w hSw; obtain hSw1 := hSw; go_simp; try with_reducible rfl)
                  simp only [Act.put, List.setIfInBounds_toArray, List.set_cons_zero, List.set_cons_succ]
                  refine wpAnyH_take (i := 4) (oi := ⟨some 172, _, _, _, _, _⟩) (v := ?_) rfl (by kernel_rfl) (by kernel_rfl) (by kernel_rfl) (fun _ _ _ h => h) (Or.inl ⟨by rfl, ?_⟩) hS0 ?_
                  rotate_left 1
                  · (intro w hSw; obtain hSw1 := hSw; go_simp; try with_reducible rfl)
                  simp only [Act.put, List.setIfInBounds_toArray, List.set_cons_zero, List.set_cons_succ]
                  refine wpAnyH_ready (rs := [1]) (by kernel_rfl) (by simp) ?_
                  refine AllReadyH.cons (o := ⟨some 169, _, _, _, _, _⟩) rfl (fun K hK => ?_) AllReadyH.nil
                  go_simp
                  refine (Code_jnil w4.drew (HT4d.out.ety HE1.out)).mono ?_
                  rintro r w5 ⟨rfl, hb5⟩
                  have HT5 := hide (HT4d.out.below hb5)
                  have hS1 : w5.cell? ⟨bx, 1, none⟩ = some (.int .i64 (kn : Int)) := by simp [World.cell?, HT5.out.obj]
                  clear hb5 HT4d
                  refine hK.out _ _ hS1 (fun hHeld => ?_)
                  clear hK K
                  clear hHeld
                  refine wpAnyH_ready (rs := [5]) (by kernel_rfl) (by simp) ?_
                  refine AllReadyH.cons (o := ⟨some 173, _, _, _, _, _⟩) rfl (fun K hK => ?_) AllReadyH.nil
                  go_simp
                  refine (HT5.out.rtrim kn Hk1.out Hkm.out (by have := HV0.out.few; have := HV0.out.lim.n16; omega) (by have := HV0.out.lim.t; have := HV0.out.lim.T; omega) (by have := HV0.out.lim.f; have := HV0.out.lim.T; omega) (by have := HV0.out.ring; omega) (by have := HV0.out.short; omega)).mono ?_
                  rintro r w6 ⟨rfl, hj6⟩
                  have HT6 := hide hj6
                  clear hj6 HT5
                  have hS2 : w6.cell? ⟨bx, 1, none⟩ = some (.int .i64 (kn : Int)) := by simp [World.cell?, HT6.out.obj]
                  refine hK.out _ _ hS2 (fun hHeld => ?_)
                  clear hK K
                  clear hHeld
                  refine wpAnyH_take (i := 6) (oi := ⟨some 174, _, _, _, _, _⟩) (v := ?_) rfl (by kernel_rfl) (by kernel_rfl) (by kernel_rfl) (fun _ _ _ h => h) (Or.inl ⟨by rfl, ?_⟩) hS2 ?_
                  rotate_left 1
                  · (intro w hSw; obtain hSw1 := hSw; go_simp; try with_reducible rfl)
                  simp only [Act.put, List.setIfInBounds_toArray, List.set_cons_zero, List.set_cons_succ]
                  refine wpAnyH_take (i := 7) (oi := ⟨some 175, _, _, _, _, _⟩) (v := ?_) rfl (by kernel_rfl) (by kernel_rfl) (by kernel_rfl) (fun _ _ _ h => h) (Or.inl ⟨by rfl, ?_⟩) hS2 ?_
                  rotate_left 1
                  · (intro w hSw; obtain hSw1 := hSw; go_simp; try with_reducible rfl)
                  simp only [Act.put, List.setIfInBounds_toArray, List.set_cons_zero, List.set_cons_succ]
                  refine wpAnyH_take (i := 8) (oi := ⟨some 176, _, _, _, _, _⟩) (v := ?_) rfl (by kernel_rfl) (by kernel_rfl) (by kernel_rfl) (fun _ _ _ h => h) (Or.inl ⟨by rfl, ?_⟩) hS2 ?_
                  rotate_left 1
                  · (intro w hSw; obtain hSw1 := hSw; go_simp; try with_reducible rfl)
                  simp only [Act.put, List.setIfInBounds_toArray, List.set_cons_zero, List.set_cons_succ]
                  refine wpAnyH_take (i := 9) (oi := ⟨some 177, _, _, _, _, _⟩) (v := ?_) rfl (by kernel_rfl) (by kernel_rfl) (by kernel_rfl) (fun _ _ _ h => h) (Or.inl ⟨by rfl, ?_⟩) hS2 ?_
                  rotate_left 1
                  · (intro w hSw; obtain hSw1 := hSw; go_simp; try with_reducible rfl)
                  simp only [Act.put, List.setIfInBounds_toArray, List.set_cons_zero, List.set_cons_succ]
                  refine wpAnyH_take (i := 10) (oi := ⟨some 178, _, _, _, _, _⟩) (v := undef) rfl (by kernel_rfl) (by kernel_rfl) (by kernel_rfl) (fun _ _ _ h => h) (Or.inr ⟨by rfl, rfl⟩) hS2 ?_
                  simp only [Act.put, List.setIfInBounds_toArray, List.set_cons_zero, List.set_cons_succ]
                  refine wpAnyH_take (i := 11) (oi := ⟨some 179, _, _, _, _, _⟩) (v := undef) rfl (by kernel_rfl) (by kernel_rfl) (by kernel_rfl) (fun _ _ _ h => h) (Or.inr ⟨by rfl, rfl⟩) hS2 ?_
                  simp only [Act.put, List.setIfInBounds_toArray, List.set_cons_zero, List.set_cons_succ]
                  refine wpAnyH_take (i := 12) (oi := ⟨some 180, _, _, _, _, _⟩) (v := undef) rfl (by kernel_rfl) (by kernel_rfl) (by kernel_rfl) (fun _ _ _ h => h) (Or.inr ⟨by rfl, rfl⟩) hS2 ?_
                  simp only [Act.put, List.setIfInBounds_toArray, List.set_cons_zero, List.set_cons_succ]
                  refine wpAnyH_take (i := 13) (oi := ⟨some 181, _, _, _, _, _⟩) (v := undef) rfl (by kernel_rfl) (by kernel_rfl) (by kernel_rfl) (fun _ _ _ h => h) (Or.inr ⟨by rfl, rfl⟩) hS2 ?_
                  simp only [Act.put, List.setIfInBounds_toArray, List.set_cons_zero, List.set_cons_succ]
                  refine wpAnyH_take (i := 14) (oi := ⟨some 182, _, _, _, _, _⟩) (v := ?_) rfl (by kernel_rfl) (by kernel_rfl) (by kernel_rfl) (fun _ _ _ h => h) (Or.inl ⟨by rfl, ?_⟩) hS2 ?_
                  rotate_left 1
                  · (intro w hSw; obtain hSw1 := hSw; go_simp; try with_reducible rfl)
                  simp only [Act.put, List.setIfInBounds_toArray, List.set_cons_zero, List.set_cons_succ]
                  refine wpAnyH_take (i := 15) (oi := ⟨some 183, _, _, _, _, _⟩) (v := ?_) rfl (by kernel_rfl) (by kernel_rfl) (by kernel_rfl) (fun _ _ _ h => h) (Or.inl ⟨by rfl, ?_⟩) hS2 ?_
                  rotate_left 1
                  · (intro w hSw; obtain hSw1 := hSw; go_simp; try with_reducible rfl)
                  simp only [Act.put, List.setIfInBounds_toArray, List.set_cons_zero, List.set_cons_succ]
                  refine wpAnyH_done (by kernel_rfl) ?_ _
                  clear hS0 hS1 hS2
                  have HV1 := hide (HV0.out.trim HTT.out kn Hkm.out)
                  clear HV0
                  obtain ⟨S1, hS1⟩ : ∃ X, X = all (all S L) [((h.t + 1) % 2, hsec ⟨h.t + 1, h.f + kn, h.g, lst h.l (E.take kn)⟩)] := ⟨_, rfl⟩
                  obtain ⟨L1, hL1⟩ : ∃ X : List Wr, X = [] := ⟨_, rfl⟩
                  obtain ⟨h1, hh1⟩ : ∃ X : Hd, X = ⟨h.t + 1, h.f + kn, h.g, lst h.l (E.take kn)⟩ := ⟨_, rfl⟩
                  obtain ⟨E1, hE1⟩ : ∃ X, X = E.drop kn := ⟨_, rfl⟩
                  obtain ⟨D1, hD1⟩ : ∃ X, X = E.length - kn := ⟨_, rfl⟩
                  rw [← hS1, ← hL1, ← hh1, ← hE1, ← hD1] at HV1
                  rw [← hS1, ← hL1, ← hh1, ← hE1] at HT6
                  clear hS1 hL1 hh1 hE1 hD1 Hkm
                  have HT80 := hide (HT6.out.below (Below.refl w6.heap.size w6).drew)
                  obtain ⟨el, hel⟩ : ∃ el, E1.length = el := ⟨_, rfl⟩
                  have Hel := hide hel
                  obtain ⟨ll, hll⟩ : ∃ ll, L1.length = ll := ⟨_, rfl⟩
                  have Hll := hide (show ((L1.length : Nat) : Int) = (ll : Int) by rw [hll])
                  obtain ⟨nx, hnx⟩ : ∃ nx, h1.f + E1.length = nx := ⟨_, rfl⟩
                  have Hnx := hide hnx
                  obtain ⟨rm, hrm0⟩ : ∃ rm, rg - el = rm := ⟨_, rfl⟩
                  have hele : el ≤ rg := by rw [← hel]; exact HV1.out.few
                  have hrmi : (rg : Int) - (el : Int) = (rm : Int) := by omega
                  have hrg20 := HV1.out.lim.n16
                  have hwrm : IntKind.i64.wrap (rm : Int) = (rm : Int) := by rw [IntKind.wrap_i64]; omega
                  have Hrm := hide (show (rg : Int) - (E1.length : Int) = (rm : Int) by rw [hel]; exact hrmi)
                  obtain ⟨A2, c2, B2, d2, k6, ha, k1, k1q⟩ := HT6.out.cells
                  rw [hel] at k6
                  rw [hll] at k1q
                  have HA80 := hide (show ARow w6.drew A2 E1 from ha)
                  have hS80 : w6.drew.cell? ⟨p2, 6, none⟩ = some (.slice A2 el c2) ∧ w6.drew.cell? ⟨p2, 1, none⟩ = some (.int .i64 (rg : Int)) ∧ w6.drew.cell? ⟨q2, 1, none⟩ = some (.slice B2 ll d2) := ⟨k6, k1, k1q⟩
                  clear hel hll hnx k6 ha k1 k1q hrm0 hele hrg20 HT6
                  go_wp2_with fail
                  refine wp_region_held (S := (fun W => W.cell? ⟨p2, 6, none⟩ = some (.slice A2 el c2) ∧ W.cell? ⟨p2, 1, none⟩ = some (.int .i64 (rg : Int)) ∧ W.cell? ⟨q2, 1, none⟩ = some (.slice B2 ll d2))) (by kernel_rfl) ?_
                  change wpAnyH _ _ _ _ _ _ _ _ (World.drew _)
                  refine wpAnyH_take (i := 0) (oi := ⟨some 216, _, _, _, _, _⟩) (v := ?_) rfl (by kernel_rfl) (by kernel_rfl) (by kernel_rfl) (fun _ _ _ h => h) (Or.inl ⟨by rfl, ?_⟩) hS80 ?_
                  rotate_left 1
                  · (intro w hSw; obtain ⟨hSw1, hSw2, hSw3⟩ := hSw; go_simp; try with_reducible rfl)
                  simp only [Act.put, List.setIfInBounds_toArray, List.set_cons_zero, List.set_cons_succ]
                  refine wpAnyH_take (i := 2) (oi := ⟨some 218, _, _, _, _, _⟩) (v := ?_) rfl (by kernel_rfl) (by kernel_rfl) (by kernel_rfl) (fun _ _ _ h => h) (Or.inl ⟨by rfl, ?_⟩) hS80 ?_
                  rotate_left 1
                  · (intro w hSw; obtain ⟨hSw1, hSw2, hSw3⟩ := hSw; go_simp; try with_reducible rfl)
                  simp only [Act.put, List.setIfInBounds_toArray, List.set_cons_zero, List.set_cons_succ]
                  refine wpAnyH_take (i := 3) (oi := ⟨some 219, _, _, _, _, _⟩) (v := ?_) rfl (by kernel_rfl) (by kernel_rfl) (by kernel_rfl) (fun _ _ _ h => h) (Or.inl ⟨by rfl, ?_⟩) hS80 ?_
                  rotate_left 1
                  · (intro w hSw; obtain ⟨hSw1, hSw2, hSw3⟩ := hSw; go_simp; try with_reducible rfl)
                  simp only [Act.put, List.setIfInBounds_toArray, List.set_cons_zero, List.set_cons_succ]
                  refine wpAnyH_take (i := 4) (oi := ⟨some 220, _, _, _, _, _⟩) (v := ?_) rfl (by kernel_rfl) (by kernel_rfl) (by kernel_rfl) (fun _ _ _ h => h) (Or.inl ⟨by rfl, ?_⟩) hS80 ?_
                  rotate_left 1
                  · (intro w hSw; obtain ⟨hSw1, hSw2, hSw3⟩ := hSw; go_simp; try with_reducible rfl)
                  simp only [Act.put, List.setIfInBounds_toArray, List.set_cons_zero, List.set_cons_succ]
                  refine wpAnyH_take (i := 5) (oi := ⟨some 221, _, _, _, _, _⟩) (v := ?_) rfl (by kernel_rfl) (by kernel_rfl) (by kernel_rfl) (fun _ _ _ h => h) (Or.inl ⟨by rfl, ?_⟩) hS80 ?_
                  rotate_left 1
                  · (intro w hSw; obtain ⟨hSw1, hSw2, hSw3⟩ := hSw; go_simp; try with_reducible rfl)
                  simp only [Act.put, List.setIfInBounds_toArray, List.set_cons_zero, List.set_cons_succ]
                  refine wpAnyH_ready (rs := [1]) (by kernel_rfl) (by simp) ?_
                  refine AllReadyH.cons (o := ⟨some 217, _, _, _, _, _⟩) rfl (fun K hK => ?_) AllReadyH.nil
                  go_simp
                  refine (HT80.out.records (by have := Hel.out; have := HV1.out.few; have := HV1.out.lim.n16; omega)).mono ?_
                  rintro r w81 ⟨A81, c81, rfl, ha81, hb81⟩
                  rw [Hel.out]
                  have hS81 : w81.cell? ⟨p2, 6, none⟩ = some (.slice A2 el c2) ∧ w81.cell? ⟨p2, 1, none⟩ = some (.int .i64 (rg : Int)) ∧ w81.cell? ⟨q2, 1, none⟩ = some (.slice B2 ll d2) := ⟨cell_kept hb81 hS80.1, cell_kept hb81 hS80.2.1, cell_kept hb81 hS80.2.2⟩
                  have HT81 := hide (HT80.out.below hb81)
                  have HA81 := hide ha81
                  have HA2 := hide ((HA80.out).below hb81)
                  clear hb81 ha81
                  refine hK.out _ _ hS81 (fun hHeld => ?_)
                  clear hK K
                  clear hHeld
                  refine wpAnyH_ready (rs := [6]) (by kernel_rfl) (by simp) ?_
                  refine AllReadyH.cons (o := ⟨some 222, _, _, _, _, _⟩) rfl (fun K hK => ?_) AllReadyH.nil
                  go_simp
                  refine (Same_two w81 E1 el A81 A2 c81 c2 Hel.out (by have := Hel.out; have := HV1.out.few; have := HV1.out.lim.n16; omega) HA81.out HA2.out).mono ?_
                  rintro r w82 ⟨rfl, hb82⟩
                  have hS82 : w82.cell? ⟨p2, 6, none⟩ = some (.slice A2 el c2) ∧ w82.cell? ⟨p2, 1, none⟩ = some (.int .i64 (rg : Int)) ∧ w82.cell? ⟨q2, 1, none⟩ = some (.slice B2 ll d2) := ⟨cell_kept hb82 hS81.1, cell_kept hb82 hS81.2.1, cell_kept hb82 hS81.2.2⟩
                  have HT82 := hide (HT81.out.below hb82)
                  clear hb82 HA81 HA2
                  refine hK.out _ _ hS82 (fun hHeld => ?_)
                  clear hK K
                  clear hHeld
                  refine wpAnyH_take (i := 7) (oi := ⟨some 223, _, _, _, _, _⟩) (v := ?_) rfl (by kernel_rfl) (by kernel_rfl) (by kernel_rfl) (fun _ _ _ h => h) (Or.inl ⟨by rfl, ?_⟩) hS82 ?_
                  rotate_left 1
                  · (intro w hSw; obtain ⟨hSw1, hSw2, hSw3⟩ := hSw; go_simp; try with_reducible rfl)
                  simp only [Act.put, List.setIfInBounds_toArray, List.set_cons_zero, List.set_cons_succ]
                  refine wpAnyH_take (i := 8) (oi := ⟨some 224, _, _, _, _, _⟩) (v := ?_) rfl (by kernel_rfl) (by kernel_rfl) (by kernel_rfl) (fun _ _ _ h => h) (Or.inl ⟨by rfl, ?_⟩) hS82 ?_
                  rotate_left 1
                  · (intro w hSw; obtain ⟨hSw1, hSw2, hSw3⟩ := hSw; go_simp; try with_reducible rfl)
                  simp only [Act.put, List.setIfInBounds_toArray, List.set_cons_zero, List.set_cons_succ]
                  refine wpAnyH_take (i := 9) (oi := ⟨some 225, _, _, _, _, _⟩) (v := ?_) rfl (by kernel_rfl) (by kernel_rfl) (by kernel_rfl) (fun _ _ _ h => h) (Or.inl ⟨by rfl, ?_⟩) hS82 ?_
                  rotate_left 1
                  · (intro w hSw; obtain ⟨hSw1, hSw2, hSw3⟩ := hSw; go_simp; try with_reducible rfl)
                  simp only [Act.put, List.setIfInBounds_toArray, List.set_cons_zero, List.set_cons_succ]
                  refine wpAnyH_take (i := 11) (oi := ⟨some 227, _, _, _, _, _⟩) (v := ?_) rfl (by kernel_rfl) (by kernel_rfl) (by kernel_rfl) (fun _ _ _ h => h) (Or.inl ⟨by rfl, ?_⟩) hS82 ?_
                  rotate_left 1
                  · (intro w hSw; obtain ⟨hSw1, hSw2, hSw3⟩ := hSw; go_simp; try with_reducible rfl)
                  simp only [Act.put, List.setIfInBounds_toArray, List.set_cons_zero, List.set_cons_succ]
                  refine wpAnyH_ready (rs := [10]) (by kernel_rfl) (by simp) ?_
                  refine AllReadyH.cons (o := ⟨some 226, _, _, _, _, _⟩) rfl (fun K hK => ?_) AllReadyH.nil
                  go_simp
                  refine (HT82.out.next (by have := HV1.out.lim.f; have := HV1.out.lim.T; omega) (by have := HV1.out.few; have := HV1.out.lim.n16; omega)).mono ?_
                  rintro r w83 ⟨rfl, hb83⟩
                  rw [Hnx.out]
                  have hS83 : w83.cell? ⟨p2, 6, none⟩ = some (.slice A2 el c2) ∧ w83.cell? ⟨p2, 1, none⟩ = some (.int .i64 (rg : Int)) ∧ w83.cell? ⟨q2, 1, none⟩ = some (.slice B2 ll d2) := ⟨cell_kept hb83 hS82.1, cell_kept hb83 hS82.2.1, cell_kept hb83 hS82.2.2⟩
                  have HT83 := hide (HT82.out.below hb83)
                  clear hb83
                  refine hK.out _ _ hS83 (fun hHeld => ?_)
                  clear hK K
                  clear hHeld
                  refine wpAnyH_ready (rs := [12]) (by kernel_rfl) (by simp) ?_
                  refine AllReadyH.cons (o := ⟨some 228, _, _, _, _, _⟩) rfl (fun K hK => ?_) AllReadyH.nil
                  go_simp
                  refine (HT83.out.rnext (by have := HV1.out.lim.f; have := HV1.out.lim.T; omega) (by have := HV1.out.few; have := HV1.out.lim.n16; omega)).mono ?_
                  rintro r w84 ⟨rfl, hb84⟩
                  rw [Hnx.out]
                  have hS84 : w84.cell? ⟨p2, 6, none⟩ = some (.slice A2 el c2) ∧ w84.cell? ⟨p2, 1, none⟩ = some (.int .i64 (rg : Int)) ∧ w84.cell? ⟨q2, 1, none⟩ = some (.slice B2 ll d2) := ⟨cell_kept hb84 hS83.1, cell_kept hb84 hS83.2.1, cell_kept hb84 hS83.2.2⟩
                  have HT84 := hide (HT83.out.below hb84)
                  clear hb84
                  refine hK.out _ _ hS84 (fun hHeld => ?_)
                  clear hK K
                  clear hHeld
                  refine wpAnyH_take (i := 13) (oi := ⟨some 229, _, _, _, _, _⟩) (v := ?_) rfl (by kernel_rfl) (by kernel_rfl) (by kernel_rfl) (fun _ _ _ h => h) (Or.inl ⟨by rfl, ?_⟩) hS84 ?_
                  rotate_left 1
                  · (intro w hSw; obtain ⟨hSw1, hSw2, hSw3⟩ := hSw; go_simp; try with_reducible rfl)
                  simp only [Act.put, List.setIfInBounds_toArray, List.set_cons_zero, List.set_cons_succ]
                  refine wpAnyH_take (i := 14) (oi := ⟨some 230, _, _, _, _, _⟩) (v := ?_) rfl (by kernel_rfl) (by kernel_rfl) (by kernel_rfl) (fun _ _ _ h => h) (Or.inl ⟨by rfl, ?_⟩) hS84 ?_
                  rotate_left 1
                  · (intro w hSw; obtain ⟨hSw1, hSw2, hSw3⟩ := hSw; go_simp; try with_reducible rfl)
                  simp only [Act.put, List.setIfInBounds_toArray, List.set_cons_zero, List.set_cons_succ]
                  refine wpAnyH_take (i := 15) (oi := ⟨some 231, _, _, _, _, _⟩) (v := ?_) rfl (by kernel_rfl) (by kernel_rfl) (by kernel_rfl) (fun _ _ _ h => h) (Or.inl ⟨by rfl, ?_⟩) hS84 ?_
                  rotate_left 1
                  · (intro w hSw; obtain ⟨hSw1, hSw2, hSw3⟩ := hSw; go_simp; try with_reducible rfl)
                  simp only [Act.put, List.setIfInBounds_toArray, List.set_cons_zero, List.set_cons_succ]
                  refine wpAnyH_take (i := 16) (oi := ⟨some 232, _, _, _, _, _⟩) (v := ?_) rfl (by kernel_rfl) (by kernel_rfl) (by kernel_rfl) (fun _ _ _ h => h) (Or.inl ⟨by rfl, ?_⟩) hS84 ?_
                  rotate_left 1
                  · (intro w hSw; obtain ⟨hSw1, hSw2, hSw3⟩ := hSw; go_simp; try with_reducible rfl)
                  simp only [Act.put, List.setIfInBounds_toArray, List.set_cons_zero, List.set_cons_succ]
                  refine wpAnyH_take (i := 18) (oi := ⟨some 234, _, _, _, _, _⟩) (v := ?_) rfl (by kernel_rfl) (by kernel_rfl) (by kernel_rfl) (fun _ _ _ h => h) (Or.inl ⟨by rfl, ?_⟩) hS84 ?_
                  rotate_left 1
                  · (intro w hSw; obtain ⟨hSw1, hSw2, hSw3⟩ := hSw; go_simp; try with_reducible rfl)
                  simp only [Act.put, List.setIfInBounds_toArray, List.set_cons_zero, List.set_cons_succ]
                  refine wpAnyH_take (i := 19) (oi := ⟨some 235, _, _, _, _, _⟩) (v := ?_) rfl (by kernel_rfl) (by kernel_rfl) (by kernel_rfl) (fun _ _ _ h => h) (Or.inl ⟨by rfl, ?_⟩) hS84 ?_
                  rotate_left 1
                  · (intro w hSw; obtain ⟨hSw1, hSw2, hSw3⟩ := hSw; go_simp; try with_reducible rfl)
                  simp only [Act.put, List.setIfInBounds_toArray, List.set_cons_zero, List.set_cons_succ]
                  refine wpAnyH_take (i := 20) (oi := ⟨some 236, _, _, _, _, _⟩) (v := ?_) rfl (by kernel_rfl) (by kernel_rfl) (by kernel_rfl) (fun _ _ _ h => h) (Or.inl ⟨by rfl, ?_⟩) hS84 ?_
                  rotate_left 1
                  · (intro w hSw; obtain ⟨hSw1, hSw2, hSw3⟩ := hSw; go_simp; try with_reducible rfl)
                  simp only [Act.put, List.setIfInBounds_toArray, List.set_cons_zero, List.set_cons_succ]
                  refine wpAnyH_take (i := 21) (oi := ⟨some 237, _, _, _, _, _⟩) (v := ?_) rfl (by kernel_rfl) (by kernel_rfl) (by kernel_rfl) (fun _ _ _ h => h) (Or.inl ⟨by rfl, ?_⟩) hS84 ?_
                  rotate_left 1
                  · (intro w hSw; obtain ⟨hSw1, hSw2, hSw3⟩ := hSw; go_simp; try with_reducible rfl)
                  simp only [Act.put, List.setIfInBounds_toArray, List.set_cons_zero, List.set_cons_succ]
                  refine wpAnyH_take (i := 22) (oi := ⟨some 238, _, _, _, _, _⟩) (v := ?_) rfl (by kernel_rfl) (by kernel_rfl) (by kernel_rfl) (fun _ _ _ h => h) (Or.inl ⟨by rfl, ?_⟩) hS84 ?_
                  rotate_left 1
                  · (intro w hSw; obtain ⟨hSw1, hSw2, hSw3⟩ := hSw; go_simp; try with_reducible rfl)
                  simp only [Act.put, List.setIfInBounds_toArray, List.set_cons_zero, List.set_cons_succ]
                  refine wpAnyH_take (i := 23) (oi := ⟨some 239, _, _, _, _, _⟩) (v := ?_) rfl (by kernel_rfl) (by kernel_rfl) (by kernel_rfl) (fun _ _ _ h => h) (Or.inl ⟨by rfl, ?_⟩) hS84 ?_
                  rotate_left 1
                  · (intro w hSw; obtain ⟨hSw1, hSw2, hSw3⟩ := hSw; go_simp; try with_reducible rfl)
                  simp only [Act.put, List.setIfInBounds_toArray, List.set_cons_zero, List.set_cons_succ]
                  refine wpAnyH_take (i := 24) (oi := ⟨some 240, _, _, _, _, _⟩) (v := ?_) rfl (by kernel_rfl) (by kernel_rfl) (by kernel_rfl) (fun _ _ _ h => h) (Or.inl ⟨by rfl, ?_⟩) hS84 ?_
                  rotate_left 1
                  · (intro w hSw; obtain ⟨hSw1, hSw2, hSw3⟩ := hSw; go_simp; try with_reducible rfl)
                  simp only [Act.put, List.setIfInBounds_toArray, List.set_cons_zero, List.set_cons_succ]
                  refine wpAnyH_take (i := 25) (oi := ⟨some 241, _, _, _, _, _⟩) (v := ?_) rfl (by kernel_rfl) (by kernel_rfl) (by kernel_rfl) (fun _ _ _ h => h) (Or.inl ⟨by rfl, ?_⟩) hS84 ?_
                  rotate_left 1
                  · (intro w hSw; obtain ⟨hSw1, hSw2, hSw3⟩ := hSw; go_simp; try with_reducible rfl)
                  simp only [Act.put, List.setIfInBounds_toArray, List.set_cons_zero, List.set_cons_succ]
                  refine wpAnyH_take (i := 26) (oi := ⟨some 242, _, _, _, _, _⟩) (v := ?_) rfl (by kernel_rfl) (by kernel_rfl) (by kernel_rfl) (fun _ _ _ h => h) (Or.inl ⟨by rfl, ?_⟩) hS84 ?_
                  rotate_left 1
                  · (intro w hSw; obtain ⟨hSw1, hSw2, hSw3⟩ := hSw; go_simp; try with_reducible rfl)
                  simp only [Act.put, List.setIfInBounds_toArray, List.set_cons_zero, List.set_cons_succ]
                  refine wpAnyH_take (i := 27) (oi := ⟨some 243, _, _, _, _, _⟩) (v := ?_) rfl (by kernel_rfl) (by kernel_rfl) (by kernel_rfl) (fun _ _ _ h => h) (Or.inl ⟨by rfl, ?_⟩) hS84 ?_
                  rotate_left 1
                  · (intro w hSw; obtain ⟨hSw1, hSw2, hSw3⟩ := hSw; go_simp; try with_reducible rfl)
                  simp only [Act.put, List.setIfInBounds_toArray, List.set_cons_zero, List.set_cons_succ]
                  refine wpAnyH_ready (rs := [17]) (by kernel_rfl) (by simp) ?_
                  refine AllReadyH.cons (o := ⟨some 233, _, _, _, _, _⟩) rfl (fun K hK => ?_) AllReadyH.nil
                  go_simp
                  refine (HT84.out.room (by have := HV1.out.lim.n16; omega) HV1.out.few).mono ?_
                  rintro r w85 ⟨rfl, hb85⟩
                  rw [Hrm.out]
                  have hS85 : w85.cell? ⟨p2, 6, none⟩ = some (.slice A2 el c2) ∧ w85.cell? ⟨p2, 1, none⟩ = some (.int .i64 (rg : Int)) ∧ w85.cell? ⟨q2, 1, none⟩ = some (.slice B2 ll d2) := ⟨cell_kept hb85 hS84.1, cell_kept hb85 hS84.2.1, cell_kept hb85 hS84.2.2⟩
                  have HT85 := hide (HT84.out.below hb85)
                  clear hb85
                  refine hK.out _ _ hS85 (fun hHeld => ?_)
                  clear hK K
                  clear hHeld
                  refine wpAnyH_take (i := 28) (oi := ⟨some 244, _, _, _, _, _⟩) (v := ?_) rfl (by kernel_rfl) (by kernel_rfl) (by kernel_rfl) (fun _ _ _ h => h) (Or.inl ⟨by rfl, ?_⟩) hS85 ?_
                  rotate_left 1
                  · (intro w hSw; obtain ⟨hSw1, hSw2, hSw3⟩ := hSw; go_simp; try with_reducible rfl)
                  simp only [Act.put, List.setIfInBounds_toArray, List.set_cons_zero, List.set_cons_succ]
                  refine wpAnyH_take (i := 29) (oi := ⟨some 245, _, _, _, _, _⟩) (v := ?_) rfl (by kernel_rfl) (by kernel_rfl) (by kernel_rfl) (fun _ _ _ h => h) (Or.inl ⟨by rfl, ?_⟩) hS85 ?_
                  rotate_left 1
                  · (intro w hSw; obtain ⟨hSw1, hSw2, hSw3⟩ := hSw; go_simp; try with_reducible rfl)
                  simp only [Act.put, List.setIfInBounds_toArray, List.set_cons_zero, List.set_cons_succ]
                  refine wpAnyH_take (i := 30) (oi := ⟨some 246, _, _, _, _, _⟩) (v := ?_) rfl (by kernel_rfl) (by kernel_rfl) (by kernel_rfl) (fun _ _ _ h => h) (Or.inl ⟨by rfl, ?_⟩) hS85 ?_
                  rotate_left 1
                  · (intro w hSw; obtain ⟨hSw1, hSw2, hSw3⟩ := hSw; go_simp; try with_reducible rfl)
                  simp only [Act.put, List.setIfInBounds_toArray, List.set_cons_zero, List.set_cons_succ]
                  refine wpAnyH_take (i := 31) (oi := ⟨some 247, _, _, _, _, _⟩) (v := ?_) rfl (by kernel_rfl) (by kernel_rfl) (by kernel_rfl) (fun _ _ _ h => h) (Or.inl ⟨by rfl, ?_⟩) hS85 ?_
                  rotate_left 1
                  · (intro w hSw; obtain ⟨hSw1, hSw2, hSw3⟩ := hSw; go_simp; try with_reducible rfl)
                  simp only [Act.put, List.setIfInBounds_toArray, List.set_cons_zero, List.set_cons_succ]
                  refine wpAnyH_take (i := 33) (oi := ⟨some 249, _, _, _, _, _⟩) (v := ?_) rfl (by kernel_rfl) (by kernel_rfl) (by kernel_rfl) (fun _ _ _ h => h) (Or.inl ⟨by rfl, ?_⟩) hS85 ?_
                  rotate_left 1
                  · (intro w hSw; obtain ⟨hSw1, hSw2, hSw3⟩ := hSw; go_simp; try with_reducible rfl)
                  simp only [Act.put, List.setIfInBounds_toArray, List.set_cons_zero, List.set_cons_succ]
                  refine wpAnyH_take (i := 34) (oi := ⟨some 250, _, _, _, _, _⟩) (v := ?_) rfl (by kernel_rfl) (by kernel_rfl) (by kernel_rfl) (fun _ _ _ h => h) (Or.inl ⟨by rfl, ?_⟩) hS85 ?_
                  rotate_left 1
                  · (intro w hSw; obtain ⟨hSw1, hSw2, hSw3⟩ := hSw; go_simp; try with_reducible rfl)
                  simp only [Act.put, List.setIfInBounds_toArray, List.set_cons_zero, List.set_cons_succ]
                  refine wpAnyH_take (i := 35) (oi := ⟨some 251, _, _, _, _, _⟩) (v := ?_) rfl (by kernel_rfl) (by kernel_rfl) (by kernel_rfl) (fun _ _ _ h => h) (Or.inl ⟨by rfl, ?_⟩) hS85 ?_
                  rotate_left 1
                  · (intro w hSw; obtain ⟨hSw1, hSw2, hSw3⟩ := hSw; go_simp; try with_reducible rfl)
                  simp only [Act.put, List.setIfInBounds_toArray, List.set_cons_zero, List.set_cons_succ]
                  refine wpAnyH_take (i := 36) (oi := ⟨some 252, _, _, _, _, _⟩) (v := ?_) rfl (by kernel_rfl) (by kernel_rfl) (by kernel_rfl) (fun _ _ _ h => h) (Or.inl ⟨by rfl, ?_⟩) hS85 ?_
                  rotate_left 1
                  · (intro w hSw; obtain ⟨hSw1, hSw2, hSw3⟩ := hSw; go_simp; try with_reducible rfl)
                  simp only [Act.put, List.setIfInBounds_toArray, List.set_cons_zero, List.set_cons_succ]
                  refine wpAnyH_take (i := 37) (oi := ⟨some 253, _, _, _, _, _⟩) (v := ?_) rfl (by kernel_rfl) (by kernel_rfl) (by kernel_rfl) (fun _ _ _ h => h) (Or.inl ⟨by rfl, ?_⟩) hS85 ?_
                  rotate_left 1
                  · (intro w hSw; obtain ⟨hSw1, hSw2, hSw3⟩ := hSw; go_simp; try with_reducible rfl)
                  simp only [Act.put, List.setIfInBounds_toArray, List.set_cons_zero, List.set_cons_succ]
                  refine wpAnyH_ready (rs := [32]) (by kernel_rfl) (by simp) ?_
                  refine AllReadyH.cons (o := ⟨some 248, _, _, _, _, _⟩) rfl (fun K hK => ?_) AllReadyH.nil
                  go_simp
                  refine (HT85.out.loose).mono ?_
                  rintro r w86 ⟨rfl, rfl⟩
                  rw [Hll.out]
                  refine hK.out _ _ hS85 (fun hHeld => ?_)
                  clear hK K
                  clear hHeld
                  refine wpAnyH_take (i := 38) (oi := ⟨some 254, _, _, _, _, _⟩) (v := ?_) rfl (by kernel_rfl) (by kernel_rfl) (by kernel_rfl) (fun _ _ _ h => h) (Or.inl ⟨by rfl, ?_⟩) hS85 ?_
                  rotate_left 1
                  · (intro w hSw; obtain ⟨hSw1, hSw2, hSw3⟩ := hSw; go_simp; try with_reducible rfl)
                  simp only [Act.put, List.setIfInBounds_toArray, List.set_cons_zero, List.set_cons_succ]
                  refine wpAnyH_take (i := 39) (oi := ⟨some 255, _, _, _, _, _⟩) (v := ?_) rfl (by kernel_rfl) (by kernel_rfl) (by kernel_rfl) (fun _ _ _ h => h) (Or.inl ⟨by rfl, ?_⟩) hS85 ?_
                  rotate_left 1
                  · (intro w hSw; obtain ⟨hSw1, hSw2, hSw3⟩ := hSw; go_simp; try with_reducible rfl)
                  simp only [Act.put, List.setIfInBounds_toArray, List.set_cons_zero, List.set_cons_succ]
                  refine wpAnyH_done (by kernel_rfl) ?_ _
                  clear hS80 hS81 hS82 hS83 hS84 hS85 HA80
                  go_wp2
                  go_roundw
                  case rel => exact ⟨k + 1, p, p2, S1, L1, h1, E1, D1, _, _, Hlt.out, by go_num, rfl, rfl, by rw [show 1 + (k + 1) = 1 + k + 1 by omega]; exact HV1, HT85⟩
                  case measure => have := Hlt.out; simp [intOf]; omega
          · have q3 : (kind == 3) = false := by simpa using k3
            by_cases k4 : kind = 4
            · subst k4
              clear q1 k1 q2' k2 q3 k3
              as_aux_lemma =>
                go_wp2_with fail
                refine (HT2.out.crash keep Hkeep.out (by have := HV0.out.short; omega)).mono ?_
                rintro r w3 ⟨rfl, hj3⟩
                have HT3 := hide hj3
                clear hj3 HT2
                clear x0_w2 x1_w2 x2_w2 x3_w2 x4_w2 x5_w2 x6_w2 x7_w2
                have x0_w3 : w3.cell? ⟨bx, 0, none⟩ = some (.int .i64 4) := by simp [World.cell?, HT3.out.obj]
                have x1_w3 : w3.cell? ⟨bx, 1, none⟩ = some (.int .i64 on) := by simp [World.cell?, HT3.out.obj]
                have x2_w3 : w3.cell? ⟨bx, 2, none⟩ = some (.int .i64 os) := by simp [World.cell?, HT3.out.obj]
                have x3_w3 : w3.cell? ⟨bx, 3, none⟩ = some (.int .i64 okk) := by simp [World.cell?, HT3.out.obj]
                have x4_w3 : w3.cell? ⟨bx, 4, none⟩ = some (.int .i64 ob) := by simp [World.cell?, HT3.out.obj]
                have x5_w3 : w3.cell? ⟨bx, 5, none⟩ = some (.string od) := by simp [World.cell?, HT3.out.obj]
                have x6_w3 : w3.cell? ⟨bx, 6, none⟩ = some (.int .i64 om) := by simp [World.cell?, HT3.out.obj]
                have x7_w3 : w3.cell? ⟨bx, 7, none⟩ = some (.int .u64 (keep : Int)) := by simp [World.cell?, HT3.out.obj]
                go_wp2_with fail
                refine (HT3.out.rcrash keep Hkeep.out (by have := HV0.out.short; omega)).mono ?_
                rintro r w4 ⟨rfl, hj4⟩
                have HT4 := hide hj4
                clear hj4 HT3
                clear x0_w3 x1_w3 x2_w3 x3_w3 x4_w3 x5_w3 x6_w3 x7_w3
                obtain ⟨hcur, hlenN, D1, hv1⟩ := HV0.out.crash HTT.out keep
                have HV1 := hide hv1
                have Hcur := hide hcur
                have HlN := hide hlenN
                have H1n := hide HV0.out.lim.n1
                have H20 := hide HV0.out.lim.n16
                have HrN := hide (show 2 + rg ≤ N by rw [← HV0.out.size]; exact HV0.out.ring)
                clear hcur hlenN hv1 HV0
                obtain ⟨SC, hSC⟩ : ∃ X, X = Dk.crash keep 0 L S := ⟨_, rfl⟩
                rw [← hSC] at HT4 HV1 Hcur HlN
                clear hSC
                go_wp2_with fail
                refine (HT4.out.open HT1.out H1n.out (by have := H20.out; omega) (by rw [HlN.out]; exact HrN.out) Hcur.out).mono ?_
                rintro r w5 ⟨p5, rfl, hj5⟩
                have HT5 := hide hj5
                have HFu := hide HT4.out.full
                clear hj5 HT4
                go_wp2_with fail
                refine (HT5.out.ropen H1n.out (by have := H20.out; omega) (by rw [HlN.out]; exact HrN.out) (by have := HN20.out; have := HlN.out; omega) HFu.out Hcur.out).mono ?_
                rintro r w6 ⟨p6, rfl, hj6⟩
                have HT6 := hide hj6
                clear hj6 HT5 HFu
                obtain ⟨S1, hS1⟩ : ∃ X, X = all SC [((h.t + 1) % 2, hsec ⟨h.t + 1, h.f, h.g + 1, h.l⟩)] := ⟨_, rfl⟩
                obtain ⟨L1, hL1⟩ : ∃ X : List Wr, X = [] := ⟨_, rfl⟩
                obtain ⟨E1, hE1⟩ : ∃ X, X = load SC rg h.g rg h.f h.l := ⟨_, rfl⟩
                obtain ⟨h1, hh1⟩ : ∃ X : Hd, X = ⟨h.t + 1, h.f, h.g + 1, h.l⟩ := ⟨_, rfl⟩
                rw [← hS1, ← hL1, ← hE1, ← hh1] at HV1 HT6
                clear hS1 hL1 hE1 hh1 Hcur HlN
                have HT80 := hide (HT6.out.below (Below.refl w6.heap.size w6).drew)
                obtain ⟨el, hel⟩ : ∃ el, E1.length = el := ⟨_, rfl⟩
                have Hel := hide hel
                obtain ⟨ll, hll⟩ : ∃ ll, L1.length = ll := ⟨_, rfl⟩
                have Hll := hide (show ((L1.length : Nat) : Int) = (ll : Int) by rw [hll])
                obtain ⟨nx, hnx⟩ : ∃ nx, h1.f + E1.length = nx := ⟨_, rfl⟩
                have Hnx := hide hnx
                obtain ⟨rm, hrm0⟩ : ∃ rm, rg - el = rm := ⟨_, rfl⟩
                have hele : el ≤ rg := by rw [← hel]; exact HV1.out.few
                have hrmi : (rg : Int) - (el : Int) = (rm : Int) := by omega
                have hrg20 := HV1.out.lim.n16
                have hwrm : IntKind.i64.wrap (rm : Int) = (rm : Int) := by rw [IntKind.wrap_i64]; omega
                have Hrm := hide (show (rg : Int) - (E1.length : Int) = (rm : Int) by rw [hel]; exact hrmi)
                obtain ⟨A2, c2, B2, d2, k6, ha, k1, k1q⟩ := HT6.out.cells
                rw [hel] at k6
                rw [hll] at k1q
                have HA80 := hide (show ARow w6.drew A2 E1 from ha)
                have hS80 : w6.drew.cell? ⟨p6, 6, none⟩ = some (.slice A2 el c2) ∧ w6.drew.cell? ⟨p6, 1, none⟩ = some (.int .i64 (rg : Int)) ∧ w6.drew.cell? ⟨q2, 1, none⟩ = some (.slice B2 ll d2) := ⟨k6, k1, k1q⟩
                clear hel hll hnx k6 ha k1 k1q hrm0 hele hrg20 HT6
                go_wp2_with fail
                refine wp_region_held (S := (fun W => W.cell? ⟨p6, 6, none⟩ = some (.slice A2 el c2) ∧ W.cell? ⟨p6, 1, none⟩ = some (.int .i64 (rg : Int)) ∧ W.cell? ⟨q2, 1, none⟩ = some (.slice B2 ll d2))) (by kernel_rfl) ?_
                change wpAnyH _ _ _ _ _ _ _ _ (World.drew _)
                refine wpAnyH_take (i := 0) (oi := ⟨some 216, _, _, _, _, _⟩) (v := ?_) rfl (by kernel_rfl) (by kernel_rfl) (by kernel_rfl) (fun _ _ _ h => h) (Or.inl ⟨by rfl, ?_⟩) hS80 ?_
                rotate_left 1
                · (intro w hSw; obtain ⟨hSw1, hSw2, hSw3⟩ := hSw; go_simp; try with_reducible rfl)
                simp only [Act.put, List.setIfInBounds_toArray, List.set_cons_zero, List.set_cons_succ]
                refine wpAnyH_take (i := 2) (oi := ⟨some 218, _, _, _, _, _⟩) (v := ?_) rfl (by kernel_rfl) (by kernel_rfl) (by kernel_rfl) (fun _ _ _ h => h) (Or.inl ⟨by rfl, ?_⟩) hS80 ?_
                rotate_left 1
                · (intro w hSw; obtain ⟨hSw1, hSw2, hSw3⟩ := hSw; go_simp; try with_reducible rfl)
                simp only [Act.put, List.setIfInBounds_toArray, List.set_cons_zero, List.set_cons_succ]
                refine wpAnyH_take (i := 3) (oi := ⟨some 219, _, _, _, _, _⟩) (v := ?_) rfl (by kernel_rfl) (by kernel_rfl) (by kernel_rfl) (fun _ _ _ h => h) (Or.inl ⟨by rfl, ?_⟩) hS80 ?_
                rotate_left 1
                · (intro w hSw; obtain ⟨hSw1, hSw2, hSw3⟩ := hSw; go_simp; try with_reducible rfl)
                simp only [Act.put, List.setIfInBounds_toArray, List.set_cons_zero, List.set_cons_succ]
                refine wpAnyH_take (i := 4) (oi := ⟨some 220, _, _, _, _, _⟩) (v := ?_) rfl (by kernel_rfl) (by kernel_rfl) (by kernel_rfl) (fun _ _ _ h => h) (Or.inl ⟨by rfl, ?_⟩) hS80 ?_
                rotate_left 1
                · (intro w hSw; obtain ⟨hSw1, hSw2, hSw3⟩ := hSw; go_simp; try with_reducible rfl)
                simp only [Act.put, List.setIfInBounds_toArray, List.set_cons_zero, List.set_cons_succ]
                refine wpAnyH_take (i := 5) (oi := ⟨some 221, _, _, _, _, _⟩) (v := ?_) rfl (by kernel_rfl) (by kernel_rfl) (by kernel_rfl) (fun _ _ _ h => h) (Or.inl ⟨by rfl, ?_⟩) hS80 ?_
                rotate_left 1
                · (intro w hSw; obtain ⟨hSw1, hSw2, hSw3⟩ := hSw; go_simp; try with_reducible rfl)
                simp only [Act.put, List.setIfInBounds_toArray, List.set_cons_zero, List.set_cons_succ]
                refine wpAnyH_ready (rs := [1]) (by kernel_rfl) (by simp) ?_
                refine AllReadyH.cons (o := ⟨some 217, _, _, _, _, _⟩) rfl (fun K hK => ?_) AllReadyH.nil
                go_simp
                refine (HT80.out.records (by have := Hel.out; have := HV1.out.few; have := HV1.out.lim.n16; omega)).mono ?_
                rintro r w81 ⟨A81, c81, rfl, ha81, hb81⟩
                rw [Hel.out]
                have hS81 : w81.cell? ⟨p6, 6, none⟩ = some (.slice A2 el c2) ∧ w81.cell? ⟨p6, 1, none⟩ = some (.int .i64 (rg : Int)) ∧ w81.cell? ⟨q2, 1, none⟩ = some (.slice B2 ll d2) := ⟨cell_kept hb81 hS80.1, cell_kept hb81 hS80.2.1, cell_kept hb81 hS80.2.2⟩
                have HT81 := hide (HT80.out.below hb81)
                have HA81 := hide ha81
                have HA2 := hide ((HA80.out).below hb81)
                clear hb81 ha81
                refine hK.out _ _ hS81 (fun hHeld => ?_)
                clear hK K
                clear hHeld
                refine wpAnyH_ready (rs := [6]) (by kernel_rfl) (by simp) ?_
                refine AllReadyH.cons (o := ⟨some 222, _, _, _, _, _⟩) rfl (fun K hK => ?_) AllReadyH.nil
                go_simp
                refine (Same_two w81 E1 el A81 A2 c81 c2 Hel.out (by have := Hel.out; have := HV1.out.few; have := HV1.out.lim.n16; omega) HA81.out HA2.out).mono ?_
                rintro r w82 ⟨rfl, hb82⟩
                have hS82 : w82.cell? ⟨p6, 6, none⟩ = some (.slice A2 el c2) ∧ w82.cell? ⟨p6, 1, none⟩ = some (.int .i64 (rg : Int)) ∧ w82.cell? ⟨q2, 1, none⟩ = some (.slice B2 ll d2) := ⟨cell_kept hb82 hS81.1, cell_kept hb82 hS81.2.1, cell_kept hb82 hS81.2.2⟩
                have HT82 := hide (HT81.out.below hb82)
                clear hb82 HA81 HA2
                refine hK.out _ _ hS82 (fun hHeld => ?_)
                clear hK K
                clear hHeld
                refine wpAnyH_take (i := 7) (oi := ⟨some 223, _, _, _, _, _⟩) (v := ?_) rfl (by kernel_rfl) (by kernel_rfl) (by kernel_rfl) (fun _ _ _ h => h) (Or.inl ⟨by rfl, ?_⟩) hS82 ?_
                rotate_left 1
                · (intro w hSw; obtain ⟨hSw1, hSw2, hSw3⟩ := hSw; go_simp; try with_reducible rfl)
                simp only [Act.put, List.setIfInBounds_toArray, List.set_cons_zero, List.set_cons_succ]
                refine wpAnyH_take (i := 8) (oi := ⟨some 224, _, _, _, _, _⟩) (v := ?_) rfl (by kernel_rfl) (by kernel_rfl) (by kernel_rfl) (fun _ _ _ h => h) (Or.inl ⟨by rfl, ?_⟩) hS82 ?_
                rotate_left 1
                · (intro w hSw; obtain ⟨hSw1, hSw2, hSw3⟩ := hSw; go_simp; try with_reducible rfl)
                simp only [Act.put, List.setIfInBounds_toArray, List.set_cons_zero, List.set_cons_succ]
                refine wpAnyH_take (i := 9) (oi := ⟨some 225, _, _, _, _, _⟩) (v := ?_) rfl (by kernel_rfl) (by kernel_rfl) (by kernel_rfl) (fun _ _ _ h => h) (Or.inl ⟨by rfl, ?_⟩) hS82 ?_
                rotate_left 1
                · (intro w hSw; obtain ⟨hSw1, hSw2, hSw3⟩ := hSw; go_simp; try with_reducible rfl)
                simp only [Act.put, List.setIfInBounds_toArray, List.set_cons_zero, List.set_cons_succ]
                refine wpAnyH_take (i := 11) (oi := ⟨some 227, _, _, _, _, _⟩) (v := ?_) rfl (by kernel_rfl) (by kernel_rfl) (by kernel_rfl) (fun _ _ _ h => h) (Or.inl ⟨by rfl, ?_⟩) hS82 ?_
                rotate_left 1
                · (intro w hSw; obtain ⟨hSw1, hSw2, hSw3⟩ := hSw; go_simp; try with_reducible rfl)
                simp only [Act.put, List.setIfInBounds_toArray, List.set_cons_zero, List.set_cons_succ]
                refine wpAnyH_ready (rs := [10]) (by kernel_rfl) (by simp) ?_
                refine AllReadyH.cons (o := ⟨some 226, _, _, _, _, _⟩) rfl (fun K hK => ?_) AllReadyH.nil
                go_simp
                refine (HT82.out.next (by have := HV1.out.lim.f; have := HV1.out.lim.T; omega) (by have := HV1.out.few; have := HV1.out.lim.n16; omega)).mono ?_
                rintro r w83 ⟨rfl, hb83⟩
                rw [Hnx.out]
                have hS83 : w83.cell? ⟨p6, 6, none⟩ = some (.slice A2 el c2) ∧ w83.cell? ⟨p6, 1, none⟩ = some (.int .i64 (rg : Int)) ∧ w83.cell? ⟨q2, 1, none⟩ = some (.slice B2 ll d2) := ⟨cell_kept hb83 hS82.1, cell_kept hb83 hS82.2.1, cell_kept hb83 hS82.2.2⟩
                have HT83 := hide (HT82.out.below hb83)
                clear hb83
                refine hK.out _ _ hS83 (fun hHeld => ?_)
                clear hK K
                clear hHeld
                refine wpAnyH_ready (rs := [12]) (by kernel_rfl) (by simp) ?_
                refine AllReadyH.cons (o := ⟨some 228, _, _, _, _, _⟩) rfl (fun K hK => ?_) AllReadyH.nil
                go_simp
                refine (HT83.out.rnext (by have := HV1.out.lim.f; have := HV1.out.lim.T; omega) (by have := HV1.out.few; have := HV1.out.lim.n16; omega)).mono ?_
                rintro r w84 ⟨rfl, hb84⟩
                rw [Hnx.out]
                have hS84 : w84.cell? ⟨p6, 6, none⟩ = some (.slice A2 el c2) ∧ w84.cell? ⟨p6, 1, none⟩ = some (.int .i64 (rg : Int)) ∧ w84.cell? ⟨q2, 1, none⟩ = some (.slice B2 ll d2) := ⟨cell_kept hb84 hS83.1, cell_kept hb84 hS83.2.1, cell_kept hb84 hS83.2.2⟩
                have HT84 := hide (HT83.out.below hb84)
                clear hb84
                refine hK.out _ _ hS84 (fun hHeld => ?_)
                clear hK K
                clear hHeld
                refine wpAnyH_take (i := 13) (oi := ⟨some 229, _, _, _, _, _⟩) (v := ?_) rfl (by kernel_rfl) (by kernel_rfl) (by kernel_rfl) (fun _ _ _ h => h) (Or.inl ⟨by rfl, ?_⟩) hS84 ?_
                rotate_left 1
                · (intro w hSw; obtain ⟨hSw1, hSw2, hSw3⟩ := hSw; go_simp; try with_reducible rfl)
                simp only [Act.put, List.setIfInBounds_toArray, List.set_cons_zero, List.set_cons_succ]
                refine wpAnyH_take (i := 14) (oi := ⟨some 230, _, _, _, _, _⟩) (v := ?_) rfl (by kernel_rfl) (by kernel_rfl) (by kernel_rfl) (fun _ _ _ h => h) (Or.inl ⟨by rfl, ?_⟩) hS84 ?_
                rotate_left 1
                · (intro w hSw; obtain ⟨hSw1, hSw2, hSw3⟩ := hSw; go_simp; try with_reducible rfl)
                simp only [Act.put, List.setIfInBounds_toArray, List.set_cons_zero, List.set_cons_succ]
                refine wpAnyH_take (i := 15) (oi := ⟨some 231, _, _, _, _, _⟩) (v := ?_) rfl (by kernel_rfl) (by kernel_rfl) (by kernel_rfl) (fun _ _ _ h => h) (Or.inl ⟨by rfl, ?_⟩) hS84 ?_
                rotate_left 1
                · (intro w hSw; obtain ⟨hSw1, hSw2, hSw3⟩ := hSw; go_simp; try with_reducible rfl)
                simp only [Act.put, List.setIfInBounds_toArray, List.set_cons_zero, List.set_cons_succ]
                refine wpAnyH_take (i := 16) (oi := ⟨some 232, _, _, _, _, _⟩) (v := ?_) rfl (by kernel_rfl) (by kernel_rfl) (by kernel_rfl) (fun _ _ _ h => h) (Or.inl ⟨by rfl, ?_⟩) hS84 ?_
                rotate_left 1
                · (intro w hSw; obtain ⟨hSw1, hSw2, hSw3⟩ := hSw; go_simp; try with_reducible rfl)
                simp only [Act.put, List.setIfInBounds_toArray, List.set_cons_zero, List.set_cons_succ]
                refine wpAnyH_take (i := 18) (oi := ⟨some 234, _, _, _, _, _⟩) (v := ?_) rfl (by kernel_rfl) (by kernel_rfl) (by kernel_rfl) (fun _ _ _ h => h) (Or.inl ⟨by rfl, ?_⟩) hS84 ?_
                rotate_left 1
                · (intro w hSw; obtain ⟨hSw1, hSw2, hSw3⟩ := hSw; go_simp; try with_reducible rfl)
                simp only [Act.put, List.setIfInBounds_toArray, List.set_cons_zero, List.set_cons_succ]
                refine wpAnyH_take (i := 19) (oi := ⟨some 235, _, _, _, _, _⟩) (v := ?_) rfl (by kernel_rfl) (by kernel_rfl) (by kernel_rfl) (fun _ _ _ h => h) (Or.inl ⟨by rfl, ?_⟩) hS84 ?_
                rotate_left 1
                · (intro w hSw; obtain ⟨hSw1, hSw2, hSw3⟩ := hSw; go_simp; try with_reducible rfl)
                simp only [Act.put, List.setIfInBounds_toArray, List.set_cons_zero, List.set_cons_succ]
                refine wpAnyH_take (i := 20) (oi := ⟨some 236, _, _, _, _, _⟩) (v := ?_) rfl (by kernel_rfl) (by kernel_rfl) (by kernel_rfl) (fun _ _ _ h => h) (Or.inl ⟨by rfl, ?_⟩) hS84 ?_
                rotate_left 1
                · (intro w hSw; obtain ⟨hSw1, hSw2, hSw3⟩ := hSw; go_simp; try with_reducible rfl)
                simp only [Act.put, List.setIfInBounds_toArray, List.set_cons_zero, List.set_cons_succ]
                refine wpAnyH_take (i := 21) (oi := ⟨some 237, _, _, _, _, _⟩) (v := ?_) rfl (by kernel_rfl) (by kernel_rfl) (by kernel_rfl) (fun _ _ _ h => h) (Or.inl ⟨by rfl, ?_⟩) hS84 ?_
                rotate_left 1
                · (intro w hSw; obtain ⟨hSw1, hSw2, hSw3⟩ := hSw; go_simp; try with_reducible rfl)
                simp only [Act.put, List.setIfInBounds_toArray, List.set_cons_zero, List.set_cons_succ]
                refine wpAnyH_take (i := 22) (oi := ⟨some 238, _, _, _, _, _⟩) (v := ?_) rfl (by kernel_rfl) (by kernel_rfl) (by kernel_rfl) (fun _ _ _ h => h) (Or.inl ⟨by rfl, ?_⟩) hS84 ?_
                rotate_left 1
                · (intro w hSw; obtain ⟨hSw1, hSw2, hSw3⟩ := hSw; go_simp; try with_reducible rfl)
                simp only [Act.put, List.setIfInBounds_toArray, List.set_cons_zero, List.set_cons_succ]
                refine wpAnyH_take (i := 23) (oi := ⟨some 239, _, _, _, _, _⟩) (v := ?_) rfl (by kernel_rfl) (by kernel_rfl) (by kernel_rfl) (fun _ _ _ h => h) (Or.inl ⟨by rfl, ?_⟩) hS84 ?_
                rotate_left 1
                · (intro w hSw; obtain ⟨hSw1, hSw2, hSw3⟩ := hSw; go_simp; try with_reducible rfl)
                simp only [Act.put, List.setIfInBounds_toArray, List.set_cons_zero, List.set_cons_succ]
                refine wpAnyH_take (i := 24) (oi := ⟨some 240, _, _, _, _, _⟩) (v := ?_) rfl (by kernel_rfl) (by kernel_rfl) (by kernel_rfl) (fun _ _ _ h => h) (Or.inl ⟨by rfl, ?_⟩) hS84 ?_
                rotate_left 1
                · (intro w hSw; obtain ⟨hSw1, hSw2, hSw3⟩ := hSw; go_simp; try with_reducible rfl)
                simp only [Act.put, List.setIfInBounds_toArray, List.set_cons_zero, List.set_cons_succ]
                refine wpAnyH_take (i := 25) (oi := ⟨some 241, _, _, _, _, _⟩) (v := ?_) rfl (by kernel_rfl) (by kernel_rfl) (by kernel_rfl) (fun _ _ _ h => h) (Or.inl ⟨by rfl, ?_⟩) hS84 ?_
                rotate_left 1
                · (intro w hSw; obtain ⟨hSw1, hSw2, hSw3⟩ := hSw; go_simp; try with_reducible rfl)
                simp only [Act.put, List.setIfInBounds_toArray, List.set_cons_zero, List.set_cons_succ]
                refine wpAnyH_take (i := 26) (oi := ⟨some 242, _, _, _, _, _⟩) (v := ?_) rfl (by kernel_rfl) (by kernel_rfl) (by kernel_rfl) (fun _ _ _ h => h) (Or.inl ⟨by rfl, ?_⟩) hS84 ?_
                rotate_left 1
                · (intro w hSw; obtain ⟨hSw1, hSw2, hSw3⟩ := hSw; go_simp; try with_reducible rfl)
                simp only [Act.put, List.setIfInBounds_toArray, List.set_cons_zero, List.set_cons_succ]
                refine wpAnyH_take (i := 27) (oi := ⟨some 243, _, _, _, _, _⟩) (v := ?_) rfl (by kernel_rfl) (by kernel_rfl) (by kernel_rfl) (fun _ _ _ h => h) (Or.inl ⟨by rfl, ?_⟩) hS84 ?_
                rotate_left 1
                · (intro w hSw; obtain ⟨hSw1, hSw2, hSw3⟩ := hSw; go_simp; try with_reducible rfl)
                simp only [Act.put, List.setIfInBounds_toArray, List.set_cons_zero, List.set_cons_succ]
                refine wpAnyH_ready (rs := [17]) (by kernel_rfl) (by simp) ?_
                refine AllReadyH.cons (o := ⟨some 233, _, _, _, _, _⟩) rfl (fun K hK => ?_) AllReadyH.nil
                go_simp
                refine (HT84.out.room (by have := HV1.out.lim.n16; omega) HV1.out.few).mono ?_
                rintro r w85 ⟨rfl, hb85⟩
                rw [Hrm.out]
                have hS85 : w85.cell? ⟨p6, 6, none⟩ = some (.slice A2 el c2) ∧ w85.cell? ⟨p6, 1, none⟩ = some (.int .i64 (rg : Int)) ∧ w85.cell? ⟨q2, 1, none⟩ = some (.slice B2 ll d2) := ⟨cell_kept hb85 hS84.1, cell_kept hb85 hS84.2.1, cell_kept hb85 hS84.2.2⟩
                have HT85 := hide (HT84.out.below hb85)
                clear hb85
                refine hK.out _ _ hS85 (fun hHeld => ?_)
                clear hK K
                clear hHeld
                refine wpAnyH_take (i := 28) (oi := ⟨some 244, _, _, _, _, _⟩) (v := ?_) rfl (by kernel_rfl) (by kernel_rfl) (by kernel_rfl) (fun _ _ _ h => h) (Or.inl ⟨by rfl, ?_⟩) hS85 ?_
                rotate_left 1
                · (intro w hSw; obtain ⟨hSw1, hSw2, hSw3⟩ := hSw; go_simp; try with_reducible rfl)
                simp only [Act.put, List.setIfInBounds_toArray, List.set_cons_zero, List.set_cons_succ]
                refine wpAnyH_take (i := 29) (oi := ⟨some 245, _, _, _, _, _⟩) (v := ?_) rfl (by kernel_rfl) (by kernel_rfl) (by kernel_rfl) (fun _ _ _ h => h) (Or.inl ⟨by rfl, ?_⟩) hS85 ?_
                rotate_left 1
                · (intro w hSw; obtain ⟨hSw1, hSw2, hSw3⟩ := hSw; go_simp; try with_reducible rfl)
                simp only [Act.put, List.setIfInBounds_toArray, List.set_cons_zero, List.set_cons_succ]
                refine wpAnyH_take (i := 30) (oi := ⟨some 246, _, _, _, _, _⟩) (v := ?_) rfl (by kernel_rfl) (by kernel_rfl) (by kernel_rfl) (fun _ _ _ h => h) (Or.inl ⟨by rfl, ?_⟩) hS85 ?_
                rotate_left 1
                · (intro w hSw; obtain ⟨hSw1, hSw2, hSw3⟩ := hSw; go_simp; try with_reducible rfl)
                simp only [Act.put, List.setIfInBounds_toArray, List.set_cons_zero, List.set_cons_succ]
                refine wpAnyH_take (i := 31) (oi := ⟨some 247, _, _, _, _, _⟩) (v := ?_) rfl (by kernel_rfl) (by kernel_rfl) (by kernel_rfl) (fun _ _ _ h => h) (Or.inl ⟨by rfl, ?_⟩) hS85 ?_
                rotate_left 1
                · (intro w hSw; obtain ⟨hSw1, hSw2, hSw3⟩ := hSw; go_simp; try with_reducible rfl)
                simp only [Act.put, List.setIfInBounds_toArray, List.set_cons_zero, List.set_cons_succ]
                refine wpAnyH_take (i := 33) (oi := ⟨some 249, _, _, _, _, _⟩) (v := ?_) rfl (by kernel_rfl) (by kernel_rfl) (by kernel_rfl) (fun _ _ _ h => h) (Or.inl ⟨by rfl, ?_⟩) hS85 ?_
                rotate_left 1
                · (intro w hSw; obtain ⟨hSw1, hSw2, hSw3⟩ := hSw; go_simp; try with_reducible rfl)
                simp only [Act.put, List.setIfInBounds_toArray, List.set_cons_zero, List.set_cons_succ]
                refine wpAnyH_take (i := 34) (oi := ⟨some 250, _, _, _, _, _⟩) (v := ?_) rfl (by kernel_rfl) (by kernel_rfl) (by kernel_rfl) (fun _ _ _ h => h) (Or.inl ⟨by rfl, ?_⟩) hS85 ?_
                rotate_left 1
                · (intro w hSw; obtain ⟨hSw1, hSw2, hSw3⟩ := hSw; go_simp; try with_reducible rfl)
                simp only [Act.put, List.setIfInBounds_toArray, List.set_cons_zero, List.set_cons_succ]
                refine wpAnyH_take (i := 35) (oi := ⟨some 251, _, _, _, _, _⟩) (v := ?_) rfl (by kernel_rfl) (by kernel_rfl) (by kernel_rfl) (fun _ _ _ h => h) (Or.inl ⟨by rfl, ?_⟩) hS85 ?_
                rotate_left 1
                · (intro w hSw; obtain ⟨hSw1, hSw2, hSw3⟩ := hSw; go_simp; try with_reducible rfl)
                simp only [Act.put, List.setIfInBounds_toArray, List.set_cons_zero, List.set_cons_succ]
                refine wpAnyH_take (i := 36) (oi := ⟨some 252, _, _, _, _, _⟩) (v := ?_) rfl (by kernel_rfl) (by kernel_rfl) (by kernel_rfl) (fun _ _ _ h => h) (Or.inl ⟨by rfl, ?_⟩) hS85 ?_
                rotate_left 1
                · (intro w hSw; obtain ⟨hSw1, hSw2, hSw3⟩ := hSw; go_simp; try with_reducible rfl)
                simp only [Act.put, List.setIfInBounds_toArray, List.set_cons_zero, List.set_cons_succ]
                refine wpAnyH_take (i := 37) (oi := ⟨some 253, _, _, _, _, _⟩) (v := ?_) rfl (by kernel_rfl) (by kernel_rfl) (by kernel_rfl) (fun _ _ _ h => h) (Or.inl ⟨by rfl, ?_⟩) hS85 ?_
                rotate_left 1
                · (intro w hSw; obtain ⟨hSw1, hSw2, hSw3⟩ := hSw; go_simp; try with_reducible rfl)
                simp only [Act.put, List.setIfInBounds_toArray, List.set_cons_zero, List.set_cons_succ]
                refine wpAnyH_ready (rs := [32]) (by kernel_rfl) (by simp) ?_
                refine AllReadyH.cons (o := ⟨some 248, _, _, _, _, _⟩) rfl (fun K hK => ?_) AllReadyH.nil
                go_simp
                refine (HT85.out.loose).mono ?_
                rintro r w86 ⟨rfl, rfl⟩
                rw [Hll.out]
                refine hK.out _ _ hS85 (fun hHeld => ?_)
                clear hK K
                clear hHeld
                refine wpAnyH_take (i := 38) (oi := ⟨some 254, _, _, _, _, _⟩) (v := ?_) rfl (by kernel_rfl) (by kernel_rfl) (by kernel_rfl) (fun _ _ _ h => h) (Or.inl ⟨by rfl, ?_⟩) hS85 ?_
                rotate_left 1
                · (intro w hSw; obtain ⟨hSw1, hSw2, hSw3⟩ := hSw; go_simp; try with_reducible rfl)
                simp only [Act.put, List.setIfInBounds_toArray, List.set_cons_zero, List.set_cons_succ]
                refine wpAnyH_take (i := 39) (oi := ⟨some 255, _, _, _, _, _⟩) (v := ?_) rfl (by kernel_rfl) (by kernel_rfl) (by kernel_rfl) (fun _ _ _ h => h) (Or.inl ⟨by rfl, ?_⟩) hS85 ?_
                rotate_left 1
                · (intro w hSw; obtain ⟨hSw1, hSw2, hSw3⟩ := hSw; go_simp; try with_reducible rfl)
                simp only [Act.put, List.setIfInBounds_toArray, List.set_cons_zero, List.set_cons_succ]
                refine wpAnyH_done (by kernel_rfl) ?_ _
                clear hS80 hS81 hS82 hS83 hS84 hS85 HA80
                go_wp2
                go_roundw
                case rel => exact ⟨k + 1, p5, p6, S1, L1, h1, E1, D1, _, _, Hlt.out, by go_num, rfl, rfl, by rw [show 1 + (k + 1) = 1 + k + 1 by omega]; exact HV1, HT85⟩
                case measure => have := Hlt.out; simp [intOf]; omega
            · have q4 : (kind == 4) = false := by simpa using k4
              as_aux_lemma =>
                have HV1 := hide (HV0.out.more (Nat.le_succ _) HTT.out)
                clear HV0
                clear x1_w2 x2_w2 x3_w2 x4_w2 x5_w2 x6_w2 x7_w2
                have HT80 := hide (HT2.out.below (Below.refl w2.heap.size w2).drew)
                obtain ⟨el, hel⟩ : ∃ el, E.length = el := ⟨_, rfl⟩
                have Hel := hide hel
                obtain ⟨ll, hll⟩ : ∃ ll, L.length = ll := ⟨_, rfl⟩
                have Hll := hide (show ((L.length : Nat) : Int) = (ll : Int) by rw [hll])
                obtain ⟨nx, hnx⟩ : ∃ nx, h.f + E.length = nx := ⟨_, rfl⟩
                have Hnx := hide hnx
                obtain ⟨rm, hrm0⟩ : ∃ rm, rg - el = rm := ⟨_, rfl⟩
                have hele : el ≤ rg := by rw [← hel]; exact HV1.out.few
                have hrmi : (rg : Int) - (el : Int) = (rm : Int) := by omega
                have hrg20 := HV1.out.lim.n16
                have hwrm : IntKind.i64.wrap (rm : Int) = (rm : Int) := by rw [IntKind.wrap_i64]; omega
                have Hrm := hide (show (rg : Int) - (E.length : Int) = (rm : Int) by rw [hel]; exact hrmi)
                obtain ⟨A2, c2, B2, d2, k6, ha, k1, k1q⟩ := HT2.out.cells
                rw [hel] at k6
                rw [hll] at k1q
                have HA80 := hide (show ARow w2.drew A2 E from ha)
                have hS80 : w2.drew.cell? ⟨p2, 6, none⟩ = some (.slice A2 el c2) ∧ w2.drew.cell? ⟨p2, 1, none⟩ = some (.int .i64 (rg : Int)) ∧ w2.drew.cell? ⟨q2, 1, none⟩ = some (.slice B2 ll d2) := ⟨k6, k1, k1q⟩
                clear hel hll hnx k6 ha k1 k1q hrm0 hele hrg20 HT2
                go_wp2_with fail
                refine wp_region_held (S := (fun W => W.cell? ⟨p2, 6, none⟩ = some (.slice A2 el c2) ∧ W.cell? ⟨p2, 1, none⟩ = some (.int .i64 (rg : Int)) ∧ W.cell? ⟨q2, 1, none⟩ = some (.slice B2 ll d2))) (by kernel_rfl) ?_
                change wpAnyH _ _ _ _ _ _ _ _ (World.drew _)
                refine wpAnyH_take (i := 0) (oi := ⟨some 216, _, _, _, _, _⟩) (v := ?_) rfl (by kernel_rfl) (by kernel_rfl) (by kernel_rfl) (fun _ _ _ h => h) (Or.inl ⟨by rfl, ?_⟩) hS80 ?_
                rotate_left 1
                · (intro w hSw; obtain ⟨hSw1, hSw2, hSw3⟩ := hSw; go_simp; try with_reducible rfl)
                simp only [Act.put, List.setIfInBounds_toArray, List.set_cons_zero, List.set_cons_succ]
                refine wpAnyH_take (i := 2) (oi := ⟨some 218, _, _, _, _, _⟩) (v := ?_) rfl (by kernel_rfl) (by kernel_rfl) (by kernel_rfl) (fun _ _ _ h => h) (Or.inl ⟨by rfl, ?_⟩) hS80 ?_
                rotate_left 1
                · (intro w hSw; obtain ⟨hSw1, hSw2, hSw3⟩ := hSw; go_simp; try with_reducible rfl)
                simp only [Act.put, List.setIfInBounds_toArray, List.set_cons_zero, List.set_cons_succ]
                refine wpAnyH_take (i := 3) (oi := ⟨some 219, _, _, _, _, _⟩) (v := ?_) rfl (by kernel_rfl) (by kernel_rfl) (by kernel_rfl) (fun _ _ _ h => h) (Or.inl ⟨by rfl, ?_⟩) hS80 ?_
                rotate_left 1
                · (intro w hSw; obtain ⟨hSw1, hSw2, hSw3⟩ := hSw; go_simp; try with_reducible rfl)
                simp only [Act.put, List.setIfInBounds_toArray, List.set_cons_zero, List.set_cons_succ]
                refine wpAnyH_take (i := 4) (oi := ⟨some 220, _, _, _, _, _⟩) (v := ?_) rfl (by kernel_rfl) (by kernel_rfl) (by kernel_rfl) (fun _ _ _ h => h) (Or.inl ⟨by rfl, ?_⟩) hS80 ?_
                rotate_left 1
                · (intro w hSw; obtain ⟨hSw1, hSw2, hSw3⟩ := hSw; go_simp; try with_reducible rfl)
                simp only [Act.put, List.setIfInBounds_toArray, List.set_cons_zero, List.set_cons_succ]
                refine wpAnyH_take (i := 5) (oi := ⟨some 221, _, _, _, _, _⟩) (v := ?_) rfl (by kernel_rfl) (by kernel_rfl) (by kernel_rfl) (fun _ _ _ h => h) (Or.inl ⟨by rfl, ?_⟩) hS80 ?_
                rotate_left 1
                · (intro w hSw; obtain ⟨hSw1, hSw2, hSw3⟩ := hSw; go_simp; try with_reducible rfl)
                simp only [Act.put, List.setIfInBounds_toArray, List.set_cons_zero, List.set_cons_succ]
                refine wpAnyH_ready (rs := [1]) (by kernel_rfl) (by simp) ?_
                refine AllReadyH.cons (o := ⟨some 217, _, _, _, _, _⟩) rfl (fun K hK => ?_) AllReadyH.nil
                go_simp
                refine (HT80.out.records (by have := Hel.out; have := HV1.out.few; have := HV1.out.lim.n16; omega)).mono ?_
                rintro r w81 ⟨A81, c81, rfl, ha81, hb81⟩
                rw [Hel.out]
                have hS81 : w81.cell? ⟨p2, 6, none⟩ = some (.slice A2 el c2) ∧ w81.cell? ⟨p2, 1, none⟩ = some (.int .i64 (rg : Int)) ∧ w81.cell? ⟨q2, 1, none⟩ = some (.slice B2 ll d2) := ⟨cell_kept hb81 hS80.1, cell_kept hb81 hS80.2.1, cell_kept hb81 hS80.2.2⟩
                have HT81 := hide (HT80.out.below hb81)
                have HA81 := hide ha81
                have HA2 := hide ((HA80.out).below hb81)
                clear hb81 ha81
                refine hK.out _ _ hS81 (fun hHeld => ?_)
                clear hK K
                clear hHeld
                refine wpAnyH_ready (rs := [6]) (by kernel_rfl) (by simp) ?_
                refine AllReadyH.cons (o := ⟨some 222, _, _, _, _, _⟩) rfl (fun K hK => ?_) AllReadyH.nil
                go_simp
                refine (Same_two w81 E el A81 A2 c81 c2 Hel.out (by have := Hel.out; have := HV1.out.few; have := HV1.out.lim.n16; omega) HA81.out HA2.out).mono ?_
                rintro r w82 ⟨rfl, hb82⟩
                have hS82 : w82.cell? ⟨p2, 6, none⟩ = some (.slice A2 el c2) ∧ w82.cell? ⟨p2, 1, none⟩ = some (.int .i64 (rg : Int)) ∧ w82.cell? ⟨q2, 1, none⟩ = some (.slice B2 ll d2) := ⟨cell_kept hb82 hS81.1, cell_kept hb82 hS81.2.1, cell_kept hb82 hS81.2.2⟩
                have HT82 := hide (HT81.out.below hb82)
                clear hb82 HA81 HA2
                refine hK.out _ _ hS82 (fun hHeld => ?_)
                clear hK K
                clear hHeld
                refine wpAnyH_take (i := 7) (oi := ⟨some 223, _, _, _, _, _⟩) (v := ?_) rfl (by kernel_rfl) (by kernel_rfl) (by kernel_rfl) (fun _ _ _ h => h) (Or.inl ⟨by rfl, ?_⟩) hS82 ?_
                rotate_left 1
                · (intro w hSw; obtain ⟨hSw1, hSw2, hSw3⟩ := hSw; go_simp; try with_reducible rfl)
                simp only [Act.put, List.setIfInBounds_toArray, List.set_cons_zero, List.set_cons_succ]
                refine wpAnyH_take (i := 8) (oi := ⟨some 224, _, _, _, _, _⟩) (v := ?_) rfl (by kernel_rfl) (by kernel_rfl) (by kernel_rfl) (fun _ _ _ h => h) (Or.inl ⟨by rfl, ?_⟩) hS82 ?_
                rotate_left 1
                · (intro w hSw; obtain ⟨hSw1, hSw2, hSw3⟩ := hSw; go_simp; try with_reducible rfl)
                simp only [Act.put, List.setIfInBounds_toArray, List.set_cons_zero, List.set_cons_succ]
                refine wpAnyH_take (i := 9) (oi := ⟨some 225, _, _, _, _, _⟩) (v := ?_) rfl (by kernel_rfl) (by kernel_rfl) (by kernel_rfl) (fun _ _ _ h => h) (Or.inl ⟨by rfl, ?_⟩) hS82 ?_
                rotate_left 1
                · (intro w hSw; obtain ⟨hSw1, hSw2, hSw3⟩ := hSw; go_simp; try with_reducible rfl)
                simp only [Act.put, List.setIfInBounds_toArray, List.set_cons_zero, List.set_cons_succ]
                refine wpAnyH_take (i := 11) (oi := ⟨some 227, _, _, _, _, _⟩) (v := ?_) rfl (by kernel_rfl) (by kernel_rfl) (by kernel_rfl) (fun _ _ _ h => h) (Or.inl ⟨by rfl, ?_⟩) hS82 ?_
                rotate_left 1
                · (intro w hSw; obtain ⟨hSw1, hSw2, hSw3⟩ := hSw; go_simp; try with_reducible rfl)
                simp only [Act.put, List.setIfInBounds_toArray, List.set_cons_zero, List.set_cons_succ]
                refine wpAnyH_ready (rs := [10]) (by kernel_rfl) (by simp) ?_
                refine AllReadyH.cons (o := ⟨some 226, _, _, _, _, _⟩) rfl (fun K hK => ?_) AllReadyH.nil
                go_simp
                refine (HT82.out.next (by have := HV1.out.lim.f; have := HV1.out.lim.T; omega) (by have := HV1.out.few; have := HV1.out.lim.n16; omega)).mono ?_
                rintro r w83 ⟨rfl, hb83⟩
                rw [Hnx.out]
                have hS83 : w83.cell? ⟨p2, 6, none⟩ = some (.slice A2 el c2) ∧ w83.cell? ⟨p2, 1, none⟩ = some (.int .i64 (rg : Int)) ∧ w83.cell? ⟨q2, 1, none⟩ = some (.slice B2 ll d2) := ⟨cell_kept hb83 hS82.1, cell_kept hb83 hS82.2.1, cell_kept hb83 hS82.2.2⟩
                have HT83 := hide (HT82.out.below hb83)
                clear hb83
                refine hK.out _ _ hS83 (fun hHeld => ?_)
                clear hK K
                clear hHeld
                refine wpAnyH_ready (rs := [12]) (by kernel_rfl) (by simp) ?_
                refine AllReadyH.cons (o := ⟨some 228, _, _, _, _, _⟩) rfl (fun K hK => ?_) AllReadyH.nil
                go_simp
                refine (HT83.out.rnext (by have := HV1.out.lim.f; have := HV1.out.lim.T; omega) (by have := HV1.out.few; have := HV1.out.lim.n16; omega)).mono ?_
                rintro r w84 ⟨rfl, hb84⟩
                rw [Hnx.out]
                have hS84 : w84.cell? ⟨p2, 6, none⟩ = some (.slice A2 el c2) ∧ w84.cell? ⟨p2, 1, none⟩ = some (.int .i64 (rg : Int)) ∧ w84.cell? ⟨q2, 1, none⟩ = some (.slice B2 ll d2) := ⟨cell_kept hb84 hS83.1, cell_kept hb84 hS83.2.1, cell_kept hb84 hS83.2.2⟩
                have HT84 := hide (HT83.out.below hb84)
                clear hb84
                refine hK.out _ _ hS84 (fun hHeld => ?_)
                clear hK K
                clear hHeld
                refine wpAnyH_take (i := 13) (oi := ⟨some 229, _, _, _, _, _⟩) (v := ?_) rfl (by kernel_rfl) (by kernel_rfl) (by kernel_rfl) (fun _ _ _ h => h) (Or.inl ⟨by rfl, ?_⟩) hS84 ?_
                rotate_left 1
                · (intro w hSw; obtain ⟨hSw1, hSw2, hSw3⟩ := hSw; go_simp; try with_reducible rfl)
                simp only [Act.put, List.setIfInBounds_toArray, List.set_cons_zero, List.set_cons_succ]
                refine wpAnyH_take (i := 14) (oi := ⟨some 230, _, _, _, _, _⟩) (v := ?_) rfl (by kernel_rfl) (by kernel_rfl) (by kernel_rfl) (fun _ _ _ h => h) (Or.inl ⟨by rfl, ?_⟩) hS84 ?_
                rotate_left 1
                · (intro w hSw; obtain ⟨hSw1, hSw2, hSw3⟩ := hSw; go_simp; try with_reducible rfl)
                simp only [Act.put, List.setIfInBounds_toArray, List.set_cons_zero, List.set_cons_succ]
                refine wpAnyH_take (i := 15) (oi := ⟨some 231, _, _, _, _, _⟩) (v := ?_) rfl (by kernel_rfl) (by kernel_rfl) (by kernel_rfl) (fun _ _ _ h => h) (Or.inl ⟨by rfl, ?_⟩) hS84 ?_
                rotate_left 1
                · (intro w hSw; obtain ⟨hSw1, hSw2, hSw3⟩ := hSw; go_simp; try with_reducible rfl)
                simp only [Act.put, List.setIfInBounds_toArray, List.set_cons_zero, List.set_cons_succ]
                refine wpAnyH_take (i := 16) (oi := ⟨some 232, _, _, _, _, _⟩) (v := ?_) rfl (by kernel_rfl) (by kernel_rfl) (by kernel_rfl) (fun _ _ _ h => h) (Or.inl ⟨by rfl, ?_⟩) hS84 ?_
                rotate_left 1
                · (intro w hSw; obtain ⟨hSw1, hSw2, hSw3⟩ := hSw; go_simp; try with_reducible rfl)
                simp only [Act.put, List.setIfInBounds_toArray, List.set_cons_zero, List.set_cons_succ]
                refine wpAnyH_take (i := 18) (oi := ⟨some 234, _, _, _, _, _⟩) (v := ?_) rfl (by kernel_rfl) (by kernel_rfl) (by kernel_rfl) (fun _ _ _ h => h) (Or.inl ⟨by rfl, ?_⟩) hS84 ?_
                rotate_left 1
                · (intro w hSw; obtain ⟨hSw1, hSw2, hSw3⟩ := hSw; go_simp; try with_reducible rfl)
                simp only [Act.put, List.setIfInBounds_toArray, List.set_cons_zero, List.set_cons_succ]
                refine wpAnyH_take (i := 19) (oi := ⟨some 235, _, _, _, _, _⟩) (v := ?_) rfl (by kernel_rfl) (by kernel_rfl) (by kernel_rfl) (fun _ _ _ h => h) (Or.inl ⟨by rfl, ?_⟩) hS84 ?_
                rotate_left 1
                · (intro w hSw; obtain ⟨hSw1, hSw2, hSw3⟩ := hSw; go_simp; try with_reducible rfl)
                simp only [Act.put, List.setIfInBounds_toArray, List.set_cons_zero, List.set_cons_succ]
                refine wpAnyH_take (i := 20) (oi := ⟨some 236, _, _, _, _, _⟩) (v := ?_) rfl (by kernel_rfl) (by kernel_rfl) (by kernel_rfl) (fun _ _ _ h => h) (Or.inl ⟨by rfl, ?_⟩) hS84 ?_
                rotate_left 1
                · (intro w hSw; obtain ⟨hSw1, hSw2, hSw3⟩ := hSw; go_simp; try with_reducible rfl)
                simp only [Act.put, List.setIfInBounds_toArray, List.set_cons_zero, List.set_cons_succ]
                refine wpAnyH_take (i := 21) (oi := ⟨some 237, _, _, _, _, _⟩) (v := ?_) rfl (by kernel_rfl) (by kernel_rfl) (by kernel_rfl) (fun _ _ _ h => h) (Or.inl ⟨by rfl, ?_⟩) hS84 ?_
                rotate_left 1
                · (intro w hSw; obtain ⟨hSw1, hSw2, hSw3⟩ := hSw; go_simp; try with_reducible rfl)
                simp only [Act.put, List.setIfInBounds_toArray, List.set_cons_zero, List.set_cons_succ]
                refine wpAnyH_take (i := 22) (oi := ⟨some 238, _, _, _, _, _⟩) (v := ?_) rfl (by kernel_rfl) (by kernel_rfl) (by kernel_rfl) (fun _ _ _ h => h) (Or.inl ⟨by rfl, ?_⟩) hS84 ?_
                rotate_left 1
                · (intro w hSw; obtain ⟨hSw1, hSw2, hSw3⟩ := hSw; go_simp; try with_reducible rfl)
                simp only [Act.put, List.setIfInBounds_toArray, List.set_cons_zero, List.set_cons_succ]
                refine wpAnyH_take (i := 23) (oi := ⟨some 239, _, _, _, _, _⟩) (v := ?_) rfl (by kernel_rfl) (by kernel_rfl) (by kernel_rfl) (fun _ _ _ h => h) (Or.inl ⟨by rfl, ?_⟩) hS84 ?_
                rotate_left 1
                · (intro w hSw; obtain ⟨hSw1, hSw2, hSw3⟩ := hSw; go_simp; try with_reducible rfl)
                simp only [Act.put, List.setIfInBounds_toArray, List.set_cons_zero, List.set_cons_succ]
                refine wpAnyH_take (i := 24) (oi := ⟨some 240, _, _, _, _, _⟩) (v := ?_) rfl (by kernel_rfl) (by kernel_rfl) (by kernel_rfl) (fun _ _ _ h => h) (Or.inl ⟨by rfl, ?_⟩) hS84 ?_
                rotate_left 1
                · (intro w hSw; obtain ⟨hSw1, hSw2, hSw3⟩ := hSw; go_simp; try with_reducible rfl)
                simp only [Act.put, List.setIfInBounds_toArray, List.set_cons_zero, List.set_cons_succ]
                refine wpAnyH_take (i := 25) (oi := ⟨some 241, _, _, _, _, _⟩) (v := ?_) rfl (by kernel_rfl) (by kernel_rfl) (by kernel_rfl) (fun _ _ _ h => h) (Or.inl ⟨by rfl, ?_⟩) hS84 ?_
                rotate_left 1
                · (intro w hSw; obtain ⟨hSw1, hSw2, hSw3⟩ := hSw; go_simp; try with_reducible rfl)
                simp only [Act.put, List.setIfInBounds_toArray, List.set_cons_zero, List.set_cons_succ]
                refine wpAnyH_take (i := 26) (oi := ⟨some 242, _, _, _, _, _⟩) (v := ?_) rfl (by kernel_rfl) (by kernel_rfl) (by kernel_rfl) (fun _ _ _ h => h) (Or.inl ⟨by rfl, ?_⟩) hS84 ?_
                rotate_left 1
                · (intro w hSw; obtain ⟨hSw1, hSw2, hSw3⟩ := hSw; go_simp; try with_reducible rfl)
                simp only [Act.put, List.setIfInBounds_toArray, List.set_cons_zero, List.set_cons_succ]
                refine wpAnyH_take (i := 27) (oi := ⟨some 243, _, _, _, _, _⟩) (v := ?_) rfl (by kernel_rfl) (by kernel_rfl) (by kernel_rfl) (fun _ _ _ h => h) (Or.inl ⟨by rfl, ?_⟩) hS84 ?_
                rotate_left 1
                · (intro w hSw; obtain ⟨hSw1, hSw2, hSw3⟩ := hSw; go_simp; try with_reducible rfl)
                simp only [Act.put, List.setIfInBounds_toArray, List.set_cons_zero, List.set_cons_succ]
                refine wpAnyH_ready (rs := [17]) (by kernel_rfl) (by simp) ?_
                refine AllReadyH.cons (o := ⟨some 233, _, _, _, _, _⟩) rfl (fun K hK => ?_) AllReadyH.nil
                go_simp
                refine (HT84.out.room (by have := HV1.out.lim.n16; omega) HV1.out.few).mono ?_
                rintro r w85 ⟨rfl, hb85⟩
                rw [Hrm.out]
                have hS85 : w85.cell? ⟨p2, 6, none⟩ = some (.slice A2 el c2) ∧ w85.cell? ⟨p2, 1, none⟩ = some (.int .i64 (rg : Int)) ∧ w85.cell? ⟨q2, 1, none⟩ = some (.slice B2 ll d2) := ⟨cell_kept hb85 hS84.1, cell_kept hb85 hS84.2.1, cell_kept hb85 hS84.2.2⟩
                have HT85 := hide (HT84.out.below hb85)
                clear hb85
                refine hK.out _ _ hS85 (fun hHeld => ?_)
                clear hK K
                clear hHeld
                refine wpAnyH_take (i := 28) (oi := ⟨some 244, _, _, _, _, _⟩) (v := ?_) rfl (by kernel_rfl) (by kernel_rfl) (by kernel_rfl) (fun _ _ _ h => h) (Or.inl ⟨by rfl, ?_⟩) hS85 ?_
                rotate_left 1
                · (intro w hSw; obtain ⟨hSw1, hSw2, hSw3⟩ := hSw; go_simp; try with_reducible rfl)
                simp only [Act.put, List.setIfInBounds_toArray, List.set_cons_zero, List.set_cons_succ]
                refine wpAnyH_take (i := 29) (oi := ⟨some 245, _, _, _, _, _⟩) (v := ?_) rfl (by kernel_rfl) (by kernel_rfl) (by kernel_rfl) (fun _ _ _ h => h) (Or.inl ⟨by rfl, ?_⟩) hS85 ?_
                rotate_left 1
                · (intro w hSw; obtain ⟨hSw1, hSw2, hSw3⟩ := hSw; go_simp; try with_reducible rfl)
                simp only [Act.put, List.setIfInBounds_toArray, List.set_cons_zero, List.set_cons_succ]
                refine wpAnyH_take (i := 30) (oi := ⟨some 246, _, _, _, _, _⟩) (v := ?_) rfl (by kernel_rfl) (by kernel_rfl) (by kernel_rfl) (fun _ _ _ h => h) (Or.inl ⟨by rfl, ?_⟩) hS85 ?_
                rotate_left 1
                · (intro w hSw; obtain ⟨hSw1, hSw2, hSw3⟩ := hSw; go_simp; try with_reducible rfl)
                simp only [Act.put, List.setIfInBounds_toArray, List.set_cons_zero, List.set_cons_succ]
                refine wpAnyH_take (i := 31) (oi := ⟨some 247, _, _, _, _, _⟩) (v := ?_) rfl (by kernel_rfl) (by kernel_rfl) (by kernel_rfl) (fun _ _ _ h => h) (Or.inl ⟨by rfl, ?_⟩) hS85 ?_
                rotate_left 1
                · (intro w hSw; obtain ⟨hSw1, hSw2, hSw3⟩ := hSw; go_simp; try with_reducible rfl)
                simp only [Act.put, List.setIfInBounds_toArray, List.set_cons_zero, List.set_cons_succ]
                refine wpAnyH_take (i := 33) (oi := ⟨some 249, _, _, _, _, _⟩) (v := ?_) rfl (by kernel_rfl) (by kernel_rfl) (by kernel_rfl) (fun _ _ _ h => h) (Or.inl ⟨by rfl, ?_⟩) hS85 ?_
                rotate_left 1
                · (intro w hSw; obtain ⟨hSw1, hSw2, hSw3⟩ := hSw; go_simp; try with_reducible rfl)
                simp only [Act.put, List.setIfInBounds_toArray, List.set_cons_zero, List.set_cons_succ]
                refine wpAnyH_take (i := 34) (oi := ⟨some 250, _, _, _, _, _⟩) (v := ?_) rfl (by kernel_rfl) (by kernel_rfl) (by kernel_rfl) (fun _ _ _ h => h) (Or.inl ⟨by rfl, ?_⟩) hS85 ?_
                rotate_left 1
                · (intro w hSw; obtain ⟨hSw1, hSw2, hSw3⟩ := hSw; go_simp; try with_reducible rfl)
                simp only [Act.put, List.setIfInBounds_toArray, List.set_cons_zero, List.set_cons_succ]
                refine wpAnyH_take (i := 35) (oi := ⟨some 251, _, _, _, _, _⟩) (v := ?_) rfl (by kernel_rfl) (by kernel_rfl) (by kernel_rfl) (fun _ _ _ h => h) (Or.inl ⟨by rfl, ?_⟩) hS85 ?_
                rotate_left 1
                · (intro w hSw; obtain ⟨hSw1, hSw2, hSw3⟩ := hSw; go_simp; try with_reducible rfl)
                simp only [Act.put, List.setIfInBounds_toArray, List.set_cons_zero, List.set_cons_succ]
                refine wpAnyH_take (i := 36) (oi := ⟨some 252, _, _, _, _, _⟩) (v := ?_) rfl (by kernel_rfl) (by kernel_rfl) (by kernel_rfl) (fun _ _ _ h => h) (Or.inl ⟨by rfl, ?_⟩) hS85 ?_
                rotate_left 1
                · (intro w hSw; obtain ⟨hSw1, hSw2, hSw3⟩ := hSw; go_simp; try with_reducible rfl)
                simp only [Act.put, List.setIfInBounds_toArray, List.set_cons_zero, List.set_cons_succ]
                refine wpAnyH_take (i := 37) (oi := ⟨some 253, _, _, _, _, _⟩) (v := ?_) rfl (by kernel_rfl) (by kernel_rfl) (by kernel_rfl) (fun _ _ _ h => h) (Or.inl ⟨by rfl, ?_⟩) hS85 ?_
                rotate_left 1
                · (intro w hSw; obtain ⟨hSw1, hSw2, hSw3⟩ := hSw; go_simp; try with_reducible rfl)
                simp only [Act.put, List.setIfInBounds_toArray, List.set_cons_zero, List.set_cons_succ]
                refine wpAnyH_ready (rs := [32]) (by kernel_rfl) (by simp) ?_
                refine AllReadyH.cons (o := ⟨some 248, _, _, _, _, _⟩) rfl (fun K hK => ?_) AllReadyH.nil
                go_simp
                refine (HT85.out.loose).mono ?_
                rintro r w86 ⟨rfl, rfl⟩
                rw [Hll.out]
                refine hK.out _ _ hS85 (fun hHeld => ?_)
                clear hK K
                clear hHeld
                refine wpAnyH_take (i := 38) (oi := ⟨some 254, _, _, _, _, _⟩) (v := ?_) rfl (by kernel_rfl) (by kernel_rfl) (by kernel_rfl) (fun _ _ _ h => h) (Or.inl ⟨by rfl, ?_⟩) hS85 ?_
                rotate_left 1
                · (intro w hSw; obtain ⟨hSw1, hSw2, hSw3⟩ := hSw; go_simp; try with_reducible rfl)
                simp only [Act.put, List.setIfInBounds_toArray, List.set_cons_zero, List.set_cons_succ]
                refine wpAnyH_take (i := 39) (oi := ⟨some 255, _, _, _, _, _⟩) (v := ?_) rfl (by kernel_rfl) (by kernel_rfl) (by kernel_rfl) (fun _ _ _ h => h) (Or.inl ⟨by rfl, ?_⟩) hS85 ?_
                rotate_left 1
                · (intro w hSw; obtain ⟨hSw1, hSw2, hSw3⟩ := hSw; go_simp; try with_reducible rfl)
                simp only [Act.put, List.setIfInBounds_toArray, List.set_cons_zero, List.set_cons_succ]
                refine wpAnyH_done (by kernel_rfl) ?_ _
                clear hS80 hS81 hS82 hS83 hS84 hS85 HA80
                go_wp2
                go_roundw
                case rel => exact ⟨k + 1, p, p2, S, L, h, E, D, _, _, Hlt.out, by go_num, rfl, rfl, by rw [show 1 + (k + 1) = 1 + k + 1 by omega]; exact HV1, HT85⟩
                case measure => have := Hlt.out; simp [intOf]; omega
    · obtain rfl : k = n := by omega
      have HT9 := HTJ
      have HL9 := hide (show L.length ≤ 1000000 by have := HV0.out.short; omega)
      have HSN := hide HV0.out.size
      have HLn := hide HTJ.out.lens
      rw [HSN.out] at HLn
      clear HTJ hk hge HV0
      go_wp2_with fail
      refine HLn.out.mono ?_
      rintro r w' ⟨rfl, rfl⟩
      clear HLn
      go_wp2
      go_loopw [259] (fun j wr => ∃ i : Nat, i ≤ N ∧ j = .int .i64 i ∧ Hid (TJ w1 p q p2 q2 rg S L h E S L h E bo obj wr)) (fun j _ => N - (intOf j).toNat)
      case atStart => exact ⟨0, Nat.zero_le _, rfl, HT9⟩
      case round =>
        clear HT9
        obtain ⟨i, hi, rfl, HTJ⟩ := hrel
        rcases Nat.lt_or_ge i N with hlt | hge
        · have Hlt := hide hlt
          have hin : (i : Int) < (N : Int) := by omega
          have Hin := hide (show i < S.length by rw [HSN.out]; exact hlt)
          obtain ⟨s, hs⟩ : ∃ s, (all S L)[i]? = some s := ⟨_, List.getElem?_eq_getElem (by rw [all_length]; exact Hin.out)⟩
          have Hs := hide hs
          clear hs hlt hi
          go_wp2_with fail
          refine (HTJ.out.read Hs.out Hin.out HL9.out).mono ?_
          rintro r w3 ⟨g3, rfl, hg3, hc3, hb3⟩
          have HT3 := hide (HTJ.out.below hb3)
          have hrun := Sm.run_str w3 _ _ _ 64 64 (by
            have hF := HTJ.out.fullAll
            exact hF s (List.mem_of_getElem? Hs.out)) (Dk.byt_row hc3.out)
          clear hg3 hc3 hb3 HTJ
          go_wp2_with fail
          refine (HT3.out.rread Hs.out Hin.out HL9.out).mono ?_
          rintro r w3' ⟨rfl, rfl⟩
          go_wp2
          go_roundw
          case rel => exact ⟨i + 1, Hlt.out, by go_num, HT3⟩
          case measure => have := Hlt.out; simp [intOf]; omega
        · have hiN : ¬ ((i : Int) < (N : Int)) := by omega
          have HB9 := hide (HB1.out.trans (HTJ.out.bel.mono HB1.out.size))
          clear HTJ hi hge
          go_wp2
          go_ret
          exact ⟨rfl, HB9.out⟩

set_option maxRecDepth 100000 in
set_option maxHeartbeats 4000000 in
theorem Plays_bad (sectors ring : Nat) (A : Option Addr) (n c : Nat) (l : List Oq) (w : World) (ht : Tab w) (hty : Ety w) (hsec : sectors < 256) (hring : ring < 256) (hl : l.length = n) (hp : Ops w w.heap.size A l) (hf : OFits l) (hfew : Few l) (hbad : ring % 20 < 1 ∨ sectors % 20 < 2 + ring % 20) :
    Calls Tryz.prog 3 #[.int .u8 (sectors : Int), .int .u8 (ring : Int), .slice A n c] w fun e w' => e = .returned (.bool true) ∧ Below w.heap.size w w' := by
  obtain ⟨N, hN⟩ : ∃ N, sectors % 20 = N := ⟨_, rfl⟩
  obtain ⟨rg, hrg⟩ : ∃ rg, ring % 20 = rg := ⟨_, rfl⟩
  have hremS := rem20 sectors
  have hremR := rem20 ring
  rw [hN] at hremS hbad
  rw [hrg] at hremR hbad
  have hseci : (sectors : Int) < 256 := by omega
  have hringi : (ring : Int) < 256 := by omega
  have hNi : (N : Int) < 20 := by omega
  have hrgi : (rg : Int) < 20 := by omega
  have HNW := fun w => hide (New_any (N : Int) N w (by omega))
  have HRN := fun w => hide (RNew_any N w (by omega))
  have HT := hide ht
  have HE := hide hty
  have HBad := hide hbad
  have HN20 := hide (show N ≤ 20 by omega)
  have HR20 := hide (show rg ≤ 20 by omega)
  have Hl := hide hl
  have Hp := hide hp
  have Hf := hide hf
  have Hfew := hide hfew
  clear ht hty hl hp hf hfew hbad hN hrg hsec hring
  go_enter Tryz.func3, Tryz.ntmps3
  go_wp2_with fail
  refine (awake_any w HT.out).mono ?_
  rintro e w1 ⟨rfl, hb1⟩
  have HB1 := hide hb1
  have HE1 := hide (HE.out.below hb1 HE.out.lt)
  clear hb1
  go_wp2_with fail
  refine (few_any A n c l w1 Hl.out ((Hp.out.below HB1.out).more1 HB1.out.size) Hf.out).mono ?_
  rintro e w' ⟨⟨b, rfl, hb⟩, rfl⟩
  obtain rfl : b = true := hb.2 Hfew.out
  clear hb
  go_wp2_with fail
  refine (HNW w1).out.mono ?_
  rintro e w2 ⟨q, D, rfl, hd, hD, hb2⟩
  have Hd2 := hide hd
  have HB2 := hide hb2
  clear hd hD hb2 HNW
  go_wp2_with fail
  refine (HRN w2).out.mono ?_
  rintro e w3 ⟨q2, D2, rfl, hr, hDr, hb3⟩
  have HO := hide (Open_arg w3 D q (List.replicate N zero) [] (Hd2.out.below hb3) rg (by have := HR20.out; omega) (by rw [List.length_replicate]; exact HBad.out) (by have := HR20.out; omega))
  have HR3 := hide hr
  have HB3 := hide (HB2.out.trans (hb3.mono HB2.out.size))
  clear hr hDr hb3 Hd2 HB2 HRN
  go_wp2_with fail
  refine HO.out.mono ?_
  rintro e w4 ⟨pp, rfl, hfl, hb4⟩
  have HF4 := hide hfl
  have HB4 := hide (HB3.out.trans (hb4.mono HB3.out.size))
  have HRO := hide (ROpen_arg w4 D2 q2 (List.replicate N zero) (rg : Int) (HR3.out.below hb4) (by rw [List.length_replicate]; have := HN20.out; omega) (by rw [List.length_replicate]; have := HBad.out; omega))
  clear hfl hb4 HO HR3 HB3
  go_wp2_with fail
  refine HRO.out.mono ?_
  rintro e w' ⟨rfl, rfl⟩
  clear HRO
  go_wp2_with fail
  refine (First_jn _ (rg : Int) 1 w4 (HE1.out.below HB4.out HE1.out.lt) HF4.out).mono ?_
  rintro r w5 ⟨rfl, hb5⟩
  have HF5 := hide (HF4.out.below (Nat.le_refl _) hb5)
  have HB5 := hide (HB4.out.trans (hb5.mono HB4.out.size))
  clear hb5 HF4 HB4
  go_wp2_with fail
  refine (Code_jn _ (rg : Int) 1 w5 (HE1.out.below HB5.out HE1.out.lt) HF5.out).mono ?_
  rintro r w6 ⟨rfl, hb6⟩
  have HB6 := hide (HB1.out.trans ((HB5.out.trans (hb6.mono HB5.out.size)).mono HB1.out.size))
  clear hb6 HF5 HB5
  go_wp2
  go_ret
  exact ⟨rfl, HB6.out⟩

set_option maxRecDepth 100000 in
theorem Plays_any (sectors ring : Nat) (A : Option Addr) (n c : Nat) (l : List Oq) (w : World) (ht : Tab w) (hty : Ety w) (hsec : sectors < 256) (hring : ring < 256) (hl : l.length = n) (hp : Ops w w.heap.size A l) (hf : OFits l) :
    Calls Tryz.prog 3 #[.int .u8 (sectors : Int), .int .u8 (ring : Int), .slice A n c] w fun e w' => e = .returned (.bool true) ∧ Below w.heap.size w w' := by
  by_cases hfew : Few l
  · by_cases hg : 1 ≤ ring % 20 ∧ 2 + ring % 20 ≤ sectors % 20
    · exact Plays_good sectors ring A n c l w ht hty hsec hring hl hp hf hfew hg
    · exact Plays_bad sectors ring A n c l w ht hty hsec hring hl hp hf hfew (by omega)
  · have HT := hide ht
    have Hl := hide hl
    have Hp := hide hp
    have Hf := hide hf
    have Hfew := hide hfew
    clear ht hl hp hf hfew
    go_enter Tryz.func3, Tryz.ntmps3
    go_wp2_with fail
    refine (awake_any w HT.out).mono ?_
    rintro e w1 ⟨rfl, hb1⟩
    have HB1 := hide hb1
    clear hb1
    go_wp2_with fail
    refine (few_any A n c l w1 Hl.out (((Hp.out.below HB1.out)).more1 HB1.out.size) Hf.out).mono ?_
    rintro e w' ⟨⟨b, rfl, hb⟩, rfl⟩
    obtain rfl : b = false := by cases b; rfl; exact absurd (hb.1 rfl) Hfew.out
    clear hb
    go_wp2_with fail
    refine (awake_any w1 (HT.out.below HB1.out HT.out.pos)).mono ?_
    rintro e w2 ⟨rfl, hb2⟩
    have HB2 := hide (HB1.out.trans (hb2.mono HB1.out.size))
    clear hb2
    go_wp2
    go_ret
    exact ⟨rfl, HB2.out⟩

end Go.Proofs.YtmfgcinikopgnaaGreatDoor.Jn
