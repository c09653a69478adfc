/-
  Proved: isobarlaw14.ImageOpens at all sectors: of any sectors the image is what the document says, or there is its error; and nothing is written. Condition: the package variable halves and the library's variable errors.errorType read as the program's own text lays them (the card ties them).
-/
import Derived.Test.YtnmpckhlpkmojaaGreatDoorImS
import Derived.Test.YtnmpckhlpkmojaaGreatDoorImD
import Derived.Test.YtnmpckhlpkmojaaGreatDoorTie
import Derived.Test.YtnmpckhlpkmojaaGreatDoorCards
import Derived.Test.YtnmpckhlpkmojaaGreatDoorImF
import Derived.SevenTiedAt

/-
  ImageOpens: of any sectors the two Opens' answers, and what both images hold, are the same, and nothing is written. Conditions: the table of half bytes, and the library's variable errors.errorType, hold what the program's own text lays.
-/
namespace Go.Proofs.YtnmpckhlpkmojaaGreatDoor.Im
open Go.RowKit
open Pk hiding str str_data str_size str_of run_str head_str str_append
open Sm hiding run_str
open Fa Rc Dk Wn Lk
open Jn (NumN clampN zer zer_no)

section
variable {w0 w : World} {Ts : List Thg} {a b q rq : Nat} {S : List Sec} {L : List Wr}
theorem St.dnew {n : Nat} (h : St w0 Ts w) (hn : n ≤ 1000) :
    Calls Tryz.prog 7 #[.int .i64 n] w fun e w' => ∃ q, e = .returned (.pointer (some ⟨q, 0, none⟩)) ∧ St w0 (Ts ++ [dskT q (List.replicate n Dk.zero) []]) w' := by
  refine (New_any (n : Int) n w (by omega)).mono ?_
  rintro e w' ⟨q, G, rfl, hd, hG, hb⟩
  exact ⟨q, rfl, h.add hb (T := dskT q (List.replicate n Dk.zero) []) hd hG⟩
theorem St.wr_bad {i m c : Nat} {A : Option Addr} (h : St w0 Ts w) (ha : Ts[a]? = some (dskT q S L)) (hi : i < S.length) (hm : m ≠ 64) :
    Calls Tryz.prog 25 #[.pointer (some ⟨q, 0, none⟩), .int .i64 i, .slice A m c] w fun e w' => (∃ v, e = .returned v) ∧ St w0 Ts w' := by
  obtain ⟨G, hd⟩ := St.disk h ha
  refine (Write_bad _ i A m c S.length w (Len_any hd) (by omega) (by omega) (by omega)).mono ?_
  rintro e w' ⟨rfl, rfl⟩
  exact ⟨⟨_, rfl⟩, h.below (flt_below w i 1)⟩
theorem St.full (h : St w0 Ts w) (ha : Ts[a]? = some (dskT q S L)) : Full (all S L) := by
  obtain ⟨G, hd⟩ := St.disk h ha
  exact hd.full.all hd.fits
theorem rheld2 {rp t m : Nat} {x : Value} (h : St w0 Ts w) (hb : Ts[b]? = some (rimV rp q t m x)) : w.cell? ⟨rp, 2, none⟩ = some (.int .i64 (m : Int)) ∧ w.cell? ⟨rp, 3, none⟩ = some x := ⟨(St.rim h hb).2.2.1, (St.rim h hb).2.2.2⟩
/-- Both disks are opened: an error's number, or an image. -/
theorem open_two (h : St w0 Ts w) (ha : Ts[a]? = some (dskT q S L)) (hb : Ts[b]? = some (rdskT rq S L)) (hL : L.length ≤ 1000000) (ht : Tab w0) :
    (∃ k : Int, k ≠ 0 ∧ Calls Tryz.prog 9 #[.pointer (some ⟨q, 0, none⟩)] w (OpenErrS w0 Ts k) ∧ ∀ Us W, St w0 Us W → Us[b]? = some (rdskT rq S L) → Calls Tryz.prog 10 #[.pointer (some ⟨rq, 0, none⟩)] W (RBad w0 Us k)) ∨
    ∃ i : Img, Sz i im0 ∧ Calls Tryz.prog 9 #[.pointer (some ⟨q, 0, none⟩)] w (fun e w' => ∃ p, e = .returned (.tuple #[.pointer (some ⟨p, 0, none⟩), .nilIface]) ∧ St w0 (Ts ++ [imgT p q i im0 0]) w') ∧
      ∀ p W, St w0 (Ts ++ [imgT p q i im0 0]) W → Calls Tryz.prog 10 #[.pointer (some ⟨rq, 0, none⟩)] W (RGood w0 (Ts ++ [imgT p q i im0 0]) rq i) := by
  rcases Nat.lt_or_ge S.length 66 with h66 | h66
  · exact Or.inl ⟨1, by decide, (Open_few h ha h66).mono fun _e _w' he => OpenErr.told h he, fun Us W hW hb' => rOpen_few hW hb' h66⟩
  · have hF := St.full h ha
    cases ho : opn (all S L) with
    | none =>
      refine Or.inl ⟨4, by decide, Open_bad h ha h66 hL ht ho, fun Us W hW hb' => ?_⟩
      have := rOpen_any hW hb' h66 hL hF
      rw [ho] at this
      exact this
    | some i =>
      refine Or.inr ⟨i, ⟨(opn_data ho).1, rfl⟩, Open_good h ha h66 hL ht i ho, fun p W hW => ?_⟩
      have hb' : (Ts ++ [imgT p q i im0 0])[b]? = some (rdskT rq S L) := by rw [List.getElem?_append_left (List.getElem?_eq_some_iff.1 hb).1]; exact hb
      have := rOpen_any hW hb' h66 hL hF
      rw [ho] at this
      exact this
end
set_option maxRecDepth 100000 in
set_option maxHeartbeats 8000000 in
theorem Opens_few (A : Option Addr) (m c : Nat) (xs : List ByteArray) (more : Nat) (w : World) (ht : Tab w) (hty : Ety w) (hl : xs.length = m) (hm : m ≤ 70) (hp : Src w A (texts xs)) (hmo : more < 256) :
    Calls Tryz.prog 4 #[.slice A m c, .int .u8 more] w fun r w' => r = .returned (.bool true) ∧ Below w.heap.size w w' := by
  have HT := hide ht
  have HY := hide hty
  have HA := hide (awake_any w ht)
  have hmi : (m : Int) ≤ 70 := by omega
  have hmi' : ¬ (70 : Int) < (m : Int) := by omega
  have HM := hide hm
  have hwm : IntKind.i64.wrap (more : Int) = (more : Int) := IntWalk.i64_in _ (by omega)
  obtain ⟨r7, hr7⟩ : ∃ r7, more % 70 = r7 := ⟨_, rfl⟩
  have hrem : (more : Int).tmod 70 = (r7 : Int) := by rw [Int.tmod_eq_emod_of_nonneg (by omega), ← hr7]; rfl
  have hwr : IntKind.i64.wrap (r7 : Int) = (r7 : Int) := IntWalk.i64_in _ (by omega)
  obtain ⟨s7, hs7⟩ : ∃ s7, m + r7 = s7 := ⟨_, rfl⟩
  have hadd : (m : Int) + (r7 : Int) = (s7 : Int) := by omega
  have hws : IntKind.i64.wrap (s7 : Int) = (s7 : Int) := IntWalk.i64_in _ (by omega)
  obtain ⟨n, hn⟩ : ∃ n, min s7 70 = n := ⟨_, rfl⟩
  have hmin : min (s7 : Int) 70 = (n : Int) := by omega
  have HMN := hide (show m ≤ n by omega)
  have HN7 := hide (show n ≤ 70 by omega)
  have Hl := hide hl
  have Hp := hide hp
  clear hl hp ht hty hm hmo hr7 hs7 hn
  go_enter Tryz.func4, Tryz.ntmps4
  go_wp2_with fail
  refine HA.out.mono ?_
  rintro e w1 ⟨rfl, hb1⟩
  have HS1 := hide ((St.start w).below hb1)
  have HN := hide (St.dnew (n := n) HS1.out (by have := HN7.out; omega))
  clear hb1 HA
  go_wp2_with fail
  refine HN.out.mono ?_
  rintro e w2 ⟨q, rfl, hs2⟩
  have HS2 := hide hs2
  have HN2 := hide (St.rnew (n := n) HS2.out (by have := HN7.out; omega))
  clear hs2 HN hwm hrem hwr hadd hws hmin
  go_wp2_with fail
  refine HN2.out.mono ?_
  rintro e w3 ⟨rq, rfl, hs3⟩
  obtain ⟨S, hS⟩ : ∃ S, List.replicate n Dk.zero = S := ⟨_, rfl⟩
  have HSL := hide (show S.length = n by rw [← hS, List.length_replicate])
  have hs3' : St w [dskT q S [], rdskT rq S []] w3 := by rw [← hS]; exact hs3
  have HS3 := hide hs3'
  clear hs3 hs3' HN2 HS2 HS1 hS
  go_wp2
  go_loopw [34] (fun jx wr => ∃ (k : Nat) (L : List Wr), k ≤ m ∧ jx = .int .i64 k ∧ Hid (L.length ≤ k) ∧ Hid (St w [dskT q S L, rdskT rq S L] wr)) (fun jx _ => m - (intOf jx).toNat)
  case atStart => exact ⟨0, [], Nat.zero_le _, rfl, hide (Nat.le_refl _), HS3.out⟩
  case round =>
    clear HS3
    obtain ⟨k, L, hk, rfl, hL, hj⟩ := hrel
    rcases Nat.lt_or_ge k m with hlt | hge
    · have hki : (k : Int) < (m : Int) := by omega
      have Hlt := hide hlt
      obtain ⟨s, hs⟩ : ∃ s, xs[k]? = some s := ⟨_, List.getElem?_eq_getElem (by rw [Hl.out]; exact hlt)⟩
      have hsv : (texts xs)[k]? = some (.string s) := by rw [List.getElem?_map, hs]; rfl
      obtain ⟨g, o, rfl, hg, hc⟩ := Hp.out (by intro h0; rw [h0] at hsv; cases hsv)
      have HC : Hid (∀ W, Below w.heap.size w W → W.cell? ⟨g, o + k, none⟩ = some (.string s)) := hide fun W hb => (hb.cell (p := ⟨g, o + k, none⟩) hg).trans (hc k _ hsv)
      have hcell := HC.out wr hj.out.bel
      have HLL := hide (show L.length ≤ 70 by have := hL.out; have := HM.out; omega)
      have HKS := hide (show k < S.length by rw [HSL.out]; have := HMN.out; omega)
      clear hs hsv hlt hg hc
      by_cases hlong : (200 : Int) < (s.size : Int)
      · go_wp2
        go_ret
        exact ⟨rfl, hj.out.bel⟩
      obtain ⟨w3', c3, hc3, hc3', hrun, hbyt, hb3⟩ := to_bytes wr s (by unfold maxLen; omega)
      have HJ := hide (hj.out.below hb3)
      have Hbyt := hide hbyt
      have hcell3 := HC.out w3' HJ.out.bel
      clear hc3 hc3' hbyt hb3
      by_cases h64 : s.size = 64
      · have HW := hide (St.wr (c := c3) (a := 0) HJ.out rfl HKS.out Hbyt.out (by rw [size_eq]; exact h64) (by have := HLL.out; omega))
        have H64 := hide h64
        rw [← h64] at HW
        clear h64
        go_wp2_with fail
        refine HW.out.mono ?_
        rintro r w4 ⟨rfl, hj4⟩
        have HJ4 := hide (show St w [dskT q S (L ++ [(k, s.data.toList)]), rdskT rq S L] w4 from hj4)
        have HR := hide (St.rwr (a := 1) (s := s.data.toList) HJ4.out rfl HKS.out (by rw [size_eq]; exact H64.out) (by have := HLL.out; omega) s (Sm.str_of s))
        have hcell4 := HC.out w4 HJ4.out.bel
        clear hj4 hcell hcell3 HW hrun
        go_wp2_with fail
        refine HR.out.mono ?_
        rintro r w5 ⟨rfl, hj5⟩
        have HJ5 := hide (show St w [dskT q S (L ++ [(k, s.data.toList)]), rdskT rq S (L ++ [(k, s.data.toList)])] w5 from hj5)
        clear hj5 HR hcell4 HJ4
        go_wp2
        go_roundw
        case rel => exact ⟨k + 1, L ++ [(k, s.data.toList)], Hlt.out, by go_num, hide (by rw [List.length_append]; have := hL.out; simp; omega), HJ5.out⟩
        case measure => have := Hlt.out; simp [intOf]; omega
      · have HW := hide (St.wr_bad (c := c3) (A := some ⟨wr.heap.size, 0, none⟩) (a := 0) HJ.out rfl HKS.out h64)
        have H64 := hide h64
        clear h64
        go_wp2_with fail
        refine HW.out.mono ?_
        rintro r w4 ⟨⟨v, rfl⟩, hj4⟩
        have HJ4 := hide hj4
        have HR := hide (St.rwr_bad (a := 1) (z := s) HJ4.out rfl HKS.out H64.out)
        have hcell4 := HC.out w4 hj4.bel
        clear hj4 hcell hcell3 HW hrun
        go_wp2_with fail
        refine HR.out.mono ?_
        rintro r w5 ⟨rfl, rfl⟩
        clear HR hcell4
        go_wp2
        go_roundw
        case rel => exact ⟨k + 1, L, Hlt.out, by go_num, hide (by have := hL.out; omega), HJ4.out⟩
        case measure => have := Hlt.out; simp [intOf]; omega
    · have hki : ¬ ((k : Int) < (m : Int)) := by omega
      have HLL := hide (show L.length ≤ 70 by have := hL.out; have := HM.out; omega)
      have HS1000 := hide (show S.length ≤ 1000 by rw [HSL.out]; have := HN7.out; omega)
      clear hL
      rcases open_two (a := 0) (b := 1) hj.out rfl rfl (by have := HLL.out; omega) HT.out with ⟨e, he, ho1, ho2⟩ | ⟨i, hz, ho1, ho2⟩
      · have HO1 := hide ho1
        have HO2 := hide ho2
        have he3 : (e != 0) = true := by simp [he]
        have HE := hide he
        clear ho1 ho2 he hj
        go_wp2_with fail
        refine HO1.out.mono ?_
        rintro r w6 ⟨pp, rfl, hs6⟩
        have HS6 := hide (show St w [dskT q S L, rdskT rq S L, fltT pp 0 e] w6 from hs6)
        clear hs6 HO1
        go_wp2_with fail
        refine (HO2.out _ w6 HS6.out rfl).mono ?_
        rintro r w7 ⟨rfl, hs7⟩
        have HS7 := hide (show St w [dskT q S L, rdskT rq S L, fltT pp 0 e] w7 from hs7)
        have HP := hide (place_flt (HY.out.below HS7.out.bel HY.out.lt) (St.flt_at HS7.out (j := 2) rfl) HE.out)
        clear hs7 HS6 HO2
        go_wp2_with fail
        refine HP.out.mono ?_
        rintro r w8 ⟨rfl, hb8⟩
        have HS8 := hide (HS7.out.below hb8)
        have HAL := hide (alike_any (a := 0) (b := 1) HS8.out rfl rfl HS1000.out (by have := HLL.out; omega) (St.full (a := 0) HS8.out rfl))
        clear hb8 HP HS7
        go_wp2_with fail
        refine HAL.out.mono ?_
        rintro r w9 ⟨rfl, hs9⟩
        have HS9 := hide hs9
        clear hs9 HAL HS8
        go_wp2_with fail
        refine wp_region_held (S := (fun _ => True)) (by kernel_rfl) ?_
        change wpAnyH _ _ _ _ _ _ _ _ (World.drew _)
        refine wpAnyH_take (i := 0) (oi := ⟨some 86, _, _, _, _, _⟩) (v := ?_) rfl (by kernel_rfl) (by kernel_rfl) (by kernel_rfl) (fun _ _ _ h => h) (Or.inl ⟨by rfl, ?_⟩) trivial ?_
        rotate_left 1
        · (intro w hSw; obtain ⟨⟩ := hSw; go_simp; try with_reducible rfl)
        simp only [Act.put, List.setIfInBounds_toArray, List.set_cons_zero, List.set_cons_succ]
        refine wpAnyH_take (i := 1) (oi := ⟨some 87, _, _, _, _, _⟩) (v := ?_) rfl (by kernel_rfl) (by kernel_rfl) (by kernel_rfl) (fun _ _ _ h => h) (Or.inl ⟨by rfl, ?_⟩) trivial ?_
        rotate_left 1
        · (intro w hSw; obtain ⟨⟩ := hSw; go_simp; try with_reducible rfl)
        simp only [Act.put, List.setIfInBounds_toArray, List.set_cons_zero, List.set_cons_succ]
        refine wpAnyH_take (i := 2) (oi := ⟨some 88, _, _, _, _, _⟩) (v := ?_) rfl (by kernel_rfl) (by kernel_rfl) (by kernel_rfl) (fun _ _ _ h => h) (Or.inl ⟨by rfl, ?_⟩) trivial ?_
        rotate_left 1
        · (intro w hSw; obtain ⟨⟩ := hSw; go_simp; try with_reducible rfl)
        simp only [Act.put, List.setIfInBounds_toArray, List.set_cons_zero, List.set_cons_succ]
        refine wpAnyH_take (i := 3) (oi := ⟨some 89, _, _, _, _, _⟩) (v := undef) rfl (by kernel_rfl) (by kernel_rfl) (by kernel_rfl) (fun _ _ _ h => h) (Or.inr ⟨by rfl, rfl⟩) trivial ?_
        simp only [Act.put, List.setIfInBounds_toArray, List.set_cons_zero, List.set_cons_succ]
        refine wpAnyH_take (i := 4) (oi := ⟨some 90, _, _, _, _, _⟩) (v := undef) rfl (by kernel_rfl) (by kernel_rfl) (by kernel_rfl) (fun _ _ _ h => h) (Or.inr ⟨by rfl, rfl⟩) trivial ?_
        simp only [Act.put, List.setIfInBounds_toArray, List.set_cons_zero, List.set_cons_succ]
        refine wpAnyH_take (i := 5) (oi := ⟨some 91, _, _, _, _, _⟩) (v := undef) rfl (by kernel_rfl) (by kernel_rfl) (by kernel_rfl) (fun _ _ _ h => h) (Or.inr ⟨by rfl, rfl⟩) trivial ?_
        simp only [Act.put, List.setIfInBounds_toArray, List.set_cons_zero, List.set_cons_succ]
        refine wpAnyH_take (i := 6) (oi := ⟨some 92, _, _, _, _, _⟩) (v := undef) rfl (by kernel_rfl) (by kernel_rfl) (by kernel_rfl) (fun _ _ _ h => h) (Or.inr ⟨by rfl, rfl⟩) trivial ?_
        simp only [Act.put, List.setIfInBounds_toArray, List.set_cons_zero, List.set_cons_succ]
        refine wpAnyH_take (i := 7) (oi := ⟨some 93, _, _, _, _, _⟩) (v := undef) rfl (by kernel_rfl) (by kernel_rfl) (by kernel_rfl) (fun _ _ _ h => h) (Or.inr ⟨by rfl, rfl⟩) trivial ?_
        simp only [Act.put, List.setIfInBounds_toArray, List.set_cons_zero, List.set_cons_succ]
        refine wpAnyH_take (i := 8) (oi := ⟨some 94, _, _, _, _, _⟩) (v := undef) rfl (by kernel_rfl) (by kernel_rfl) (by kernel_rfl) (fun _ _ _ h => h) (Or.inr ⟨by rfl, rfl⟩) trivial ?_
        simp only [Act.put, List.setIfInBounds_toArray, List.set_cons_zero, List.set_cons_succ]
        refine wpAnyH_take (i := 9) (oi := ⟨some 95, _, _, _, _, _⟩) (v := undef) rfl (by kernel_rfl) (by kernel_rfl) (by kernel_rfl) (fun _ _ _ h => h) (Or.inr ⟨by rfl, rfl⟩) trivial ?_
        simp only [Act.put, List.setIfInBounds_toArray, List.set_cons_zero, List.set_cons_succ]
        refine wpAnyH_take (i := 10) (oi := ⟨some 96, _, _, _, _, _⟩) (v := undef) rfl (by kernel_rfl) (by kernel_rfl) (by kernel_rfl) (fun _ _ _ h => h) (Or.inr ⟨by rfl, rfl⟩) trivial ?_
        simp only [Act.put, List.setIfInBounds_toArray, List.set_cons_zero, List.set_cons_succ]
        refine wpAnyH_take (i := 11) (oi := ⟨some 97, _, _, _, _, _⟩) (v := undef) rfl (by kernel_rfl) (by kernel_rfl) (by kernel_rfl) (fun _ _ _ h => h) (Or.inr ⟨by rfl, rfl⟩) trivial ?_
        simp only [Act.put, List.setIfInBounds_toArray, List.set_cons_zero, List.set_cons_succ]
        refine wpAnyH_take (i := 12) (oi := ⟨some 98, _, _, _, _, _⟩) (v := undef) rfl (by kernel_rfl) (by kernel_rfl) (by kernel_rfl) (fun _ _ _ h => h) (Or.inr ⟨by rfl, rfl⟩) trivial ?_
        simp only [Act.put, List.setIfInBounds_toArray, List.set_cons_zero, List.set_cons_succ]
        refine wpAnyH_take (i := 13) (oi := ⟨some 99, _, _, _, _, _⟩) (v := undef) rfl (by kernel_rfl) (by kernel_rfl) (by kernel_rfl) (fun _ _ _ h => h) (Or.inr ⟨by rfl, rfl⟩) trivial ?_
        simp only [Act.put, List.setIfInBounds_toArray, List.set_cons_zero, List.set_cons_succ]
        refine wpAnyH_take (i := 14) (oi := ⟨some 100, _, _, _, _, _⟩) (v := undef) rfl (by kernel_rfl) (by kernel_rfl) (by kernel_rfl) (fun _ _ _ h => h) (Or.inr ⟨by rfl, rfl⟩) trivial ?_
        simp only [Act.put, List.setIfInBounds_toArray, List.set_cons_zero, List.set_cons_succ]
        refine wpAnyH_take (i := 15) (oi := ⟨some 101, _, _, _, _, _⟩) (v := undef) rfl (by kernel_rfl) (by kernel_rfl) (by kernel_rfl) (fun _ _ _ h => h) (Or.inr ⟨by rfl, rfl⟩) trivial ?_
        simp only [Act.put, List.setIfInBounds_toArray, List.set_cons_zero, List.set_cons_succ]
        refine wpAnyH_take (i := 16) (oi := ⟨some 102, _, _, _, _, _⟩) (v := undef) rfl (by kernel_rfl) (by kernel_rfl) (by kernel_rfl) (fun _ _ _ h => h) (Or.inr ⟨by rfl, rfl⟩) trivial ?_
        simp only [Act.put, List.setIfInBounds_toArray, List.set_cons_zero, List.set_cons_succ]
        refine wpAnyH_take (i := 17) (oi := ⟨some 103, _, _, _, _, _⟩) (v := undef) rfl (by kernel_rfl) (by kernel_rfl) (by kernel_rfl) (fun _ _ _ h => h) (Or.inr ⟨by rfl, rfl⟩) trivial ?_
        simp only [Act.put, List.setIfInBounds_toArray, List.set_cons_zero, List.set_cons_succ]
        refine wpAnyH_take (i := 18) (oi := ⟨some 104, _, _, _, _, _⟩) (v := undef) rfl (by kernel_rfl) (by kernel_rfl) (by kernel_rfl) (fun _ _ _ h => h) (Or.inr ⟨by rfl, rfl⟩) trivial ?_
        simp only [Act.put, List.setIfInBounds_toArray, List.set_cons_zero, List.set_cons_succ]
        refine wpAnyH_take (i := 19) (oi := ⟨some 105, _, _, _, _, _⟩) (v := undef) rfl (by kernel_rfl) (by kernel_rfl) (by kernel_rfl) (fun _ _ _ h => h) (Or.inr ⟨by rfl, rfl⟩) trivial ?_
        simp only [Act.put, List.setIfInBounds_toArray, List.set_cons_zero, List.set_cons_succ]
        refine wpAnyH_take (i := 20) (oi := ⟨some 106, _, _, _, _, _⟩) (v := ?_) rfl (by kernel_rfl) (by kernel_rfl) (by kernel_rfl) (fun _ _ _ h => h) (Or.inl ⟨by rfl, ?_⟩) trivial ?_
        rotate_left 1
        · (intro w hSw; obtain ⟨⟩ := hSw; go_simp; try with_reducible rfl)
        simp only [Act.put, List.setIfInBounds_toArray, List.set_cons_zero, List.set_cons_succ]
        refine wpAnyH_take (i := 21) (oi := ⟨some 4, _, _, _, _, _⟩) (v := ?_) rfl (by kernel_rfl) (by kernel_rfl) (by kernel_rfl) (fun _ _ _ h => h) (Or.inl ⟨by rfl, ?_⟩) trivial ?_
        rotate_left 1
        · (intro w hSw; obtain ⟨⟩ := hSw; go_simp; try with_reducible rfl)
        simp only [Act.put, List.setIfInBounds_toArray, List.set_cons_zero, List.set_cons_succ]
        refine wpAnyH_done (by kernel_rfl) ?_ _
        skip
        go_wp2
        go_ret
        exact ⟨rfl, HS9.out.drew.bel⟩
      · have HO1 := hide ho1
        have HO2 := hide ho2
        have HZ := hide hz
        clear ho1 ho2 hz hj
        go_wp2_with fail
        refine HO1.out.mono ?_
        rintro r w6 ⟨p, rfl, hs6⟩
        have HS6 := hide hs6
        clear hs6 HO1
        go_wp2_with fail
        refine (HO2.out p w6 HS6.out).mono ?_
        rintro r w7 ⟨rp, g, cc, rfl, hs7⟩
        have HS7 := hide (show St w [dskT q S L, rdskT rq S L, imgT p q i im0 0, rowS g cc i.B, rimT rp rq i.t i.m g cc] w7 from hs7)
        have HP := hide (place_none (HY.out.below HS7.out.bel HY.out.lt) 0)
        clear hs7 HS6 HO2
        go_wp2_with fail
        refine HP.out.mono ?_
        rintro r w8 ⟨rfl, hb8⟩
        have HS8 := hide (HS7.out.below hb8)
        have HAL := hide (alike_any (a := 0) (b := 1) HS8.out rfl rfl HS1000.out (by have := HLL.out; omega) (St.full (a := 0) HS8.out rfl))
        clear hb8 HP HS7
        go_wp2_with fail
        refine HAL.out.mono ?_
        rintro r w9 ⟨rfl, hs9⟩
        have HS9 := hide hs9
        have hr9 := rheld2 HS9.out.drew (b := 4) rfl
        clear hs9 HAL HS8
        go_wp2_with fail
        refine wp_region_held (S := (fun W => W.cell? ⟨rp, 2, none⟩ = some (.int .i64 (i.m : Int)) ∧ W.cell? ⟨rp, 3, none⟩ = some (rX g cc))) (by kernel_rfl) ?_
        change wpAnyH _ _ _ _ _ _ _ _ (World.drew _)
        refine wpAnyH_take (i := 0) (oi := ⟨some 86, _, _, _, _, _⟩) (v := ?_) rfl (by kernel_rfl) (by kernel_rfl) (by kernel_rfl) (fun _ _ _ h => h) (Or.inl ⟨by rfl, ?_⟩) hr9 ?_
        rotate_left 1
        · (intro w hSw; obtain ⟨hSw1, hSw2⟩ := hSw; go_simp; try with_reducible rfl)
        simp only [Act.put, List.setIfInBounds_toArray, List.set_cons_zero, List.set_cons_succ]
        refine wpAnyH_take (i := 1) (oi := ⟨some 87, _, _, _, _, _⟩) (v := ?_) rfl (by kernel_rfl) (by kernel_rfl) (by kernel_rfl) (fun _ _ _ h => h) (Or.inl ⟨by rfl, ?_⟩) hr9 ?_
        rotate_left 1
        · (intro w hSw; obtain ⟨hSw1, hSw2⟩ := hSw; go_simp; try with_reducible rfl)
        simp only [Act.put, List.setIfInBounds_toArray, List.set_cons_zero, List.set_cons_succ]
        refine wpAnyH_take (i := 2) (oi := ⟨some 88, _, _, _, _, _⟩) (v := ?_) rfl (by kernel_rfl) (by kernel_rfl) (by kernel_rfl) (fun _ _ _ h => h) (Or.inl ⟨by rfl, ?_⟩) hr9 ?_
        rotate_left 1
        · (intro w hSw; obtain ⟨hSw1, hSw2⟩ := hSw; go_simp; try with_reducible rfl)
        simp only [Act.put, List.setIfInBounds_toArray, List.set_cons_zero, List.set_cons_succ]
        refine wpAnyH_take (i := 3) (oi := ⟨some 89, _, _, _, _, _⟩) (v := ?_) rfl (by kernel_rfl) (by kernel_rfl) (by kernel_rfl) (fun _ _ _ h => h) (Or.inl ⟨by rfl, ?_⟩) hr9 ?_
        rotate_left 1
        · (intro w hSw; obtain ⟨hSw1, hSw2⟩ := hSw; go_simp; try with_reducible rfl)
        simp only [Act.put, List.setIfInBounds_toArray, List.set_cons_zero, List.set_cons_succ]
        refine wpAnyH_take (i := 5) (oi := ⟨some 91, _, _, _, _, _⟩) (v := ?_) rfl (by kernel_rfl) (by kernel_rfl) (by kernel_rfl) (fun _ _ _ h => h) (Or.inl ⟨by rfl, ?_⟩) hr9 ?_
        rotate_left 1
        · (intro w hSw; obtain ⟨hSw1, hSw2⟩ := hSw; go_simp; try with_reducible rfl)
        simp only [Act.put, List.setIfInBounds_toArray, List.set_cons_zero, List.set_cons_succ]
        refine wpAnyH_take (i := 6) (oi := ⟨some 92, _, _, _, _, _⟩) (v := ?_) rfl (by kernel_rfl) (by kernel_rfl) (by kernel_rfl) (fun _ _ _ h => h) (Or.inl ⟨by rfl, ?_⟩) hr9 ?_
        rotate_left 1
        · (intro w hSw; obtain ⟨hSw1, hSw2⟩ := hSw; go_simp; try with_reducible rfl)
        simp only [Act.put, List.setIfInBounds_toArray, List.set_cons_zero, List.set_cons_succ]
        refine wpAnyH_take (i := 7) (oi := ⟨some 93, _, _, _, _, _⟩) (v := ?_) rfl (by kernel_rfl) (by kernel_rfl) (by kernel_rfl) (fun _ _ _ h => h) (Or.inl ⟨by rfl, ?_⟩) hr9 ?_
        rotate_left 1
        · (intro w hSw; obtain ⟨hSw1, hSw2⟩ := hSw; go_simp; try with_reducible rfl)
        simp only [Act.put, List.setIfInBounds_toArray, List.set_cons_zero, List.set_cons_succ]
        refine wpAnyH_take (i := 8) (oi := ⟨some 94, _, _, _, _, _⟩) (v := ?_) rfl (by kernel_rfl) (by kernel_rfl) (by kernel_rfl) (fun _ _ _ h => h) (Or.inl ⟨by rfl, ?_⟩) hr9 ?_
        rotate_left 1
        · (intro w hSw; obtain ⟨hSw1, hSw2⟩ := hSw; go_simp; try with_reducible rfl)
        simp only [Act.put, List.setIfInBounds_toArray, List.set_cons_zero, List.set_cons_succ]
        refine wpAnyH_ready (rs := [4]) (by kernel_rfl) (by simp) ?_
        refine AllReadyH.cons (o := ⟨some 90, _, _, _, _, _⟩) rfl (fun K hK => ?_) AllReadyH.nil
        go_simp
        refine (Mark_any (St.ib HS9.out.drew (j := 2) rfl)).mono ?_
        rintro r w10 ⟨rfl, hw10⟩
        rw [← hw10]
        clear hw10
        refine hK.out _ _ hr9 (fun hHeld => ?_)
        clear hK K
        clear hHeld
        refine wpAnyH_take (i := 9) (oi := ⟨some 95, _, _, _, _, _⟩) (v := ?_) rfl (by kernel_rfl) (by kernel_rfl) (by kernel_rfl) (fun _ _ _ h => h) (Or.inl ⟨by rfl, ?_⟩) hr9 ?_
        rotate_left 1
        · (intro w hSw; obtain ⟨hSw1, hSw2⟩ := hSw; go_simp; try with_reducible rfl)
        simp only [Act.put, List.setIfInBounds_toArray, List.set_cons_zero, List.set_cons_succ]
        refine wpAnyH_take (i := 10) (oi := ⟨some 96, _, _, _, _, _⟩) (v := ?_) rfl (by kernel_rfl) (by kernel_rfl) (by kernel_rfl) (fun _ _ _ h => h) (Or.inl ⟨by rfl, ?_⟩) hr9 ?_
        rotate_left 1
        · (intro w hSw; obtain ⟨hSw1, hSw2⟩ := hSw; go_simp; try with_reducible rfl)
        simp only [Act.put, List.setIfInBounds_toArray, List.set_cons_zero, List.set_cons_succ]
        refine wpAnyH_take (i := 11) (oi := ⟨some 97, _, _, _, _, _⟩) (v := ?_) rfl (by kernel_rfl) (by kernel_rfl) (by kernel_rfl) (fun _ _ _ h => h) (Or.inl ⟨by rfl, ?_⟩) hr9 ?_
        rotate_left 1
        · (intro w hSw; obtain ⟨hSw1, hSw2⟩ := hSw; go_simp; try with_reducible rfl)
        simp only [Act.put, List.setIfInBounds_toArray, List.set_cons_zero, List.set_cons_succ]
        refine wpAnyH_take (i := 14) (oi := ⟨some 100, _, _, _, _, _⟩) (v := ?_) rfl (by kernel_rfl) (by kernel_rfl) (by kernel_rfl) (fun _ _ _ h => h) (Or.inl ⟨by rfl, ?_⟩) hr9 ?_
        rotate_left 1
        · (intro w hSw; obtain ⟨hSw1, hSw2⟩ := hSw; go_simp; try with_reducible rfl)
        simp only [Act.put, List.setIfInBounds_toArray, List.set_cons_zero, List.set_cons_succ]
        refine wpAnyH_take (i := 15) (oi := ⟨some 101, _, _, _, _, _⟩) (v := ?_) rfl (by kernel_rfl) (by kernel_rfl) (by kernel_rfl) (fun _ _ _ h => h) (Or.inl ⟨by rfl, ?_⟩) hr9 ?_
        rotate_left 1
        · (intro w hSw; obtain ⟨hSw1, hSw2⟩ := hSw; go_simp; try with_reducible rfl)
        simp only [Act.put, List.setIfInBounds_toArray, List.set_cons_zero, List.set_cons_succ]
        refine wpAnyH_take (i := 16) (oi := ⟨some 102, _, _, _, _, _⟩) (v := ?_) rfl (by kernel_rfl) (by kernel_rfl) (by kernel_rfl) (fun _ _ _ h => h) (Or.inl ⟨by rfl, ?_⟩) hr9 ?_
        rotate_left 1
        · (intro w hSw; obtain ⟨hSw1, hSw2⟩ := hSw; go_simp; try with_reducible rfl)
        simp only [Act.put, List.setIfInBounds_toArray, List.set_cons_zero, List.set_cons_succ]
        refine wpAnyH_take (i := 17) (oi := ⟨some 103, _, _, _, _, _⟩) (v := ?_) rfl (by kernel_rfl) (by kernel_rfl) (by kernel_rfl) (fun _ _ _ h => h) (Or.inl ⟨by rfl, ?_⟩) hr9 ?_
        rotate_left 1
        · (intro w hSw; obtain ⟨hSw1, hSw2⟩ := hSw; go_simp; try with_reducible rfl)
        simp only [Act.put, List.setIfInBounds_toArray, List.set_cons_zero, List.set_cons_succ]
        refine wpAnyH_ready (rs := [12]) (by kernel_rfl) (by simp) ?_
        refine AllReadyH.cons (o := ⟨some 98, _, _, _, _, _⟩) rfl (fun K hK => ?_) AllReadyH.nil
        go_simp
        refine (Blocks_any (St.ib HS9.out.drew (j := 2) rfl) HZ.out).mono ?_
        rintro r w11 ⟨rfl, hb11⟩
        have HS11 := hide (HS9.out.drew.below hb11)
        have hr11 := rheld2 HS11.out (b := 4) rfl
        clear hb11
        refine hK.out _ _ hr11 (fun hHeld => ?_)
        clear hK K
        clear hHeld
        refine wpAnyH_ready (rs := [13]) (by kernel_rfl) (by simp) ?_
        refine AllReadyH.cons (o := ⟨some 99, _, _, _, _, _⟩) rfl (fun K hK => ?_) AllReadyH.nil
        go_simp
        refine (St.flat HS11.out i.B HZ.out.i).mono ?_
        rintro r w12 ⟨A2, c2, rfl, hs12⟩
        have HS12 := hide (show St w [dskT q S L, rdskT rq S L, imgT p q i im0 0, rowS g cc i.B, rimT rp rq i.t i.m g cc, rowV A2 c2 i.B] w12 from hs12)
        have hr12 := rheld2 HS12.out (b := 4) rfl
        clear hs12
        refine hK.out _ _ hr12 (fun hHeld => ?_)
        clear hK K
        clear hHeld
        refine wpAnyH_ready (rs := [18]) (by kernel_rfl) (by simp) ?_
        refine AllReadyH.cons (o := ⟨some 104, _, _, _, _, _⟩) rfl (fun K hK => ?_) AllReadyH.nil
        go_simp
        refine (St.same HS12.out (i := 5) (j := 3) rfl rfl HZ.out.i).mono ?_
        rintro r w13 ⟨rfl, hs13⟩
        have HS13 := hide hs13
        have hr13 := rheld2 HS13.out (b := 4) rfl
        clear hs13
        refine hK.out _ _ hr13 (fun hHeld => ?_)
        clear hK K
        clear hHeld
        refine wpAnyH_take (i := 19) (oi := ⟨some 105, _, _, _, _, _⟩) (v := ?_) rfl (by kernel_rfl) (by kernel_rfl) (by kernel_rfl) (fun _ _ _ h => h) (Or.inl ⟨by rfl, ?_⟩) hr13 ?_
        rotate_left 1
        · (intro w hSw; obtain ⟨hSw1, hSw2⟩ := hSw; go_simp; try with_reducible rfl)
        simp only [Act.put, List.setIfInBounds_toArray, List.set_cons_zero, List.set_cons_succ]
        refine wpAnyH_take (i := 20) (oi := ⟨some 106, _, _, _, _, _⟩) (v := ?_) rfl (by kernel_rfl) (by kernel_rfl) (by kernel_rfl) (fun _ _ _ h => h) (Or.inl ⟨by rfl, ?_⟩) hr13 ?_
        rotate_left 1
        · (intro w hSw; obtain ⟨hSw1, hSw2⟩ := hSw; go_simp; try with_reducible rfl)
        simp only [Act.put, List.setIfInBounds_toArray, List.set_cons_zero, List.set_cons_succ]
        refine wpAnyH_take (i := 21) (oi := ⟨some 4, _, _, _, _, _⟩) (v := ?_) rfl (by kernel_rfl) (by kernel_rfl) (by kernel_rfl) (fun _ _ _ h => h) (Or.inl ⟨by rfl, ?_⟩) hr13 ?_
        rotate_left 1
        · (intro w hSw; obtain ⟨hSw1, hSw2⟩ := hSw; go_simp; try with_reducible rfl)
        simp only [Act.put, List.setIfInBounds_toArray, List.set_cons_zero, List.set_cons_succ]
        refine wpAnyH_done (by kernel_rfl) ?_ _
        skip
        go_wp2
        go_ret
        exact ⟨rfl, HS13.out.bel⟩
theorem Opens_many (A : Option Addr) (m c : Nat) (more : Nat) (w : World) (ht : Tab w) (_hty : Ety w) (hm : 70 < m) :
    Calls Tryz.prog 4 #[.slice A m c, .int .u8 more] w fun r w' => r = .returned (.bool true) ∧ Below w.heap.size w w' := by
  have HT := hide ht
  have HA := hide (awake_any w ht)
  have hmi : (70 : Int) < (m : Int) := by omega
  clear ht hm
  go_enter Tryz.func4, Tryz.ntmps4
  go_wp2_with fail
  refine HA.out.mono ?_
  rintro e w1 ⟨rfl, hb1⟩
  have HB1 := hide hb1
  have HA := hide (awake_any w1 (HT.out.below HB1.out HT.out.pos))
  clear hb1
  go_wp2_with fail
  refine HA.out.mono ?_
  rintro e w2 ⟨rfl, hb2⟩
  have HB2 := hide (HB1.out.trans (hb2.mono HB1.out.size))
  clear hb2 HA
  go_wp2
  go_ret
  exact ⟨rfl, HB2.out⟩
theorem Opens_any (A : Option Addr) (m c : Nat) (xs : List ByteArray) (more : Nat) (w : World) (ht : Tab w) (hty : Ety w) (hl : xs.length = m) (hp : Src w A (texts xs)) (hmo : more < 256) :
    Calls Tryz.prog 4 #[.slice A m c, .int .u8 more] w fun r w' => r = .returned (.bool true) ∧ Below w.heap.size w w' := by
  rcases Nat.lt_or_ge 70 m with h | h
  · exact Opens_many A m c more w ht hty h
  · exact Opens_few A m c xs more w ht hty hl h hp hmo

end Go.Proofs.YtnmpckhlpkmojaaGreatDoor.Im

namespace Go.Proofs.YtnmpckhlpkmojaaGreatDoor.imageOpens
open Go.ChangeShapes Go.WideShapes Go.ChangeAt Go.RowKit
open Go.ChangeMaps (open_string shut_string)
open Pk Sm Fa Rc Dk Wn Lk Im

set_option maxRecDepth 100000 in
theorem lifted (os : Os) (started : os.Started) (H : Type) (enc : TypeId × Value → H) :
    ReturnsInHanded {} Tryz.checked os 4 .any (fun w args => (Rows.imageOpensSpec.pre enc Tryz.prog Tryz.f4 [] false w args ∧ laidMetH Tryz.prog Im.laidB w) ∧ sizedMet enc Tryz.prog Tryz.f4 (OpenSpec.ofChange Rows.imageOpensSpec) false w args)
      (Rows.imageOpensSpec.post enc Tryz.prog Tryz.f4 false true false false) := by
  refine returnsInHanded_of_change_and (C := Tryz.checked) (X := fun w _ => laidMetH Tryz.prog Im.laidB w) (fun _ _ _ hh h => h.of_heap hh) Im.own started (by kernel_rfl) Tryz.func4
    (ChangeSpec.witness_shaped (enc := enc) (C := Tryz.checked) (os := os) (X := fun w _ => laidMetH Tryz.prog Im.laidB w) false (World.doorLaid Tryz.prog 21 os) #[.slice none 0 0, .int .u8 0] 8 rfl (World.shaped_of_RefB (by kernel_rfl) (by kernel_rfl)) (by kernel_rfl) (by kernel_rfl) (by kernel_rfl) (Im.door_metB os _)) ?_
  intro W base args ds gs before hval0 hW _ _ hL _
  have hval : ∀ (j : Nat) t v, Tryz.f4.params[j]? = some t → args[j]? = some v → Value.okWide Tryz.prog W .any base t v := hval0
  have hW' := hW
  obtain ⟨p, q, hA0, hV, rfl, hfz, hnd⟩ := hW
  have hA : DataW.TrodAll enc Tryz.prog W 0 (fun _ => true) true Tryz.f4.params.toList args.toList ds p := hA0
  rw [Tryz.params4] at hA hval
  obtain ⟨v0, vs0, d0, ds0, p0, q0, hargs, rfl, rfl, h0, r0⟩ := trodAll_cons hA
  obtain ⟨v1, vs1, d1, ds1, p1, q1, rfl, rfl, rfl, h1, r1⟩ := trodAll_cons r0
  obtain ⟨rfl, rfl, rfl⟩ := trodAll_nil r1
  obtain rfl : args = #[v0, v1] := by cases args; simp_all
  obtain ⟨rfl, rfl⟩ := trodVars_none hV
  obtain ⟨A0, n0, c0, rfl⟩ := okWide_slice Tryz.underlying37 (hval 0 37 v0 rfl rfl)
  have k0 := h0
  have lt0 : ∀ x ∈ p0, x.block < W.heap.size := by obtain ⟨m, hm⟩ := k0; exact DataW.trod_lt m _ _ _ hm
  obtain ⟨l0, hln0, hsr0⟩ := open_texts h0
  obtain ⟨a1, rfl, rfl, rfl, w1⟩ := open_int Tryz.underlying5 (hval 1 5 v1 rfl rfl) h1
  have bb1 := bounds_u8 w1
  obtain ⟨m1, rfl⟩ : ∃ m : Nat, a1 = (m : Int) := ⟨a1.toNat, by omega⟩
  have hb1 : m1 < 256 := by omega
  have met := Im.met_of_laidB hL
  clear hA0 hval0
  refine (Opens_any A0 n0 c0 l0 m1 W met.1 met.2 hln0 hsr0 hb1).mono fun e W' ⟨he, bel⟩ => ?_
  subst he
  exact ⟨_, rfl, _, _, _, [], _, [], hW', trodAll_mk1 (shut_bool Tryz.underlying4 _), (trodAll_cons_mk (Below.trod Im.laidOut (by kernel_rfl) (of_decide_eq_true (by kernel_rfl)) k0 bel lt0) (trodAll_cons_mk (shut_int Tryz.underlying5 w1) trodAll_mk0)), rfl, bel.frame _, fun h => by cases h⟩

theorem row : Rows.ImageOpensSaid :=
  OpenClaim.holds_of_wide 4 Tryz.f4 rfl rfl rfl rfl rfl rfl rfl ⟨rfl, rfl, rfl, rfl, rfl⟩ rfl rfl rfl rfl rfl (by kernel_rfl) Tryz.func4 (by kernel_rfl)
    (of_decide_eq_true (by kernel_rfl)) (by unfold Func.isWrapper; first | (rw [if_pos (by decide +kernel)]; kernel_rfl) | (rw [if_neg (by decide +kernel)]; exact ⟨rfl, rfl⟩))
    (fun os started H enc _ => lifted os started H enc)

theorem proved : Rows.ImageOpensCardSaid :=
  Claim7.holds_tied_plain_at .later [] [.handle, .data] true Rows.imageOpensCard.stood.harness true
    row (fun _ h => by cases h) (by kernel_rfl) (fun _ h => by cases h) imageOpens_row_tie rfl ⟨rfl, rfl⟩ (by kernel_rfl) rfl
    (fun f fn hf hfn => by
      obtain rfl : f = 4 := Option.some.inj ((show Tryz.prog.funcNamed "isobar/isobarlaw14.ImageOpens" = some 4 by kernel_rfl).symm.trans hf) |>.symm
      obtain rfl : fn = Tryz.f4 := (Option.some.inj (Tryz.func4.symm.trans hfn)).symm
      exact ⟨by kernel_rfl, fun j t ht => by
        rw [Tryz.params4] at ht
        have hm : t ∈ [37, 5] := by simpa using Array.mem_of_getElem? ht
        have hall : ([37, 5].all fun u => !Tryz.prog.wantsStandIn u) = true := by kernel_rfl
        exact (show Tryz.prog.wantsStandIn t = false by simpa using List.all_eq_true.1 hall t hm)⟩)
    (by kernel_rfl)
#print axioms proved
end Go.Proofs.YtnmpckhlpkmojaaGreatDoor.imageOpens
