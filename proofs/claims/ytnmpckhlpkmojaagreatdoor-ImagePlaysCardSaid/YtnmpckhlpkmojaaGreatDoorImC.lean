/-
  The contracts of the image's perform and Step: a step of the update is done on the disk. Nothing but the disk and the image's own struct is changed. Condition: the table of half bytes holds what the program's own text lays.
-/
import Derived.BigQuiet
import Derived.Deep.RegionHeld3
import Derived.Test.YtnmpckhlpkmojaaGreatDoorImB

/-
  The contract of the image's load: the blocks of the current area are read, if all its sectors are blocks of the head's turn; else it is told that one isn't. Nothing but the image's own struct is changed. Condition: the table of half bytes holds what the program's own text lays.
-/
namespace Go.Proofs.YtnmpckhlpkmojaaGreatDoor.Im
open Go.RowKit
open Pk Sm Fa Rc Dk Wn Lk
open Jn (NumN clampN zer zer_no)

theorem set_same {Ts : List Thg} {b : Nat} {T : Thg} (h : Ts[b]? = some T) : Ts.set b T = Ts := by
  apply List.ext_getElem?
  intro j
  by_cases hj : b = j
  · subst hj
    rw [List.getElem?_set_self (List.getElem?_eq_some_iff.1 h).1, h]
  · rw [List.getElem?_set_ne hj]
theorem set_twice {Ts : List Thg} {b : Nat} {T T' : Thg} : (Ts.set b T).set b T' = Ts.set b T' := List.set_set ..
/-- A disk among other things is read. -/
theorem St.rd {w0 w : World} {Ts : List Thg} {a i q : Nat} {S : List Sec} {L : List Wr} {s : Sec} (h : St w0 Ts w) (ha : Ts[a]? = some (dskT q S L)) (hs : (all S L)[i]? = some s) (hi : i < S.length) (hL : L.length ≤ 1000000) :
    Calls Tryz.prog 44 #[.pointer (some ⟨q, 0, none⟩), .int .i64 i] w fun e w' => ∃ g, e = .returned (.tuple #[.slice (some ⟨g, 0, none⟩) 64 64, .nilIface]) ∧ w.heap.size ≤ g ∧ Hid (w'.heap[g]? = some (.cells (cels s).toArray 5 (0, 0))) ∧ Below w.heap.size w w' := by
  obtain ⟨G, hp, _⟩ := St.opened h ha
  exact Read_any w G q i S L s hp hs hi hL
theorem St.disk {w0 w : World} {Ts : List Thg} {a q : Nat} {S : List Sec} {L : List Wr} (h : St w0 Ts w) (ha : Ts[a]? = some (dskT q S L)) : ∃ G, Dsk w G q S L := by
  obtain ⟨G, hp, _⟩ := St.opened h ha
  exact ⟨G, hp⟩
/-- The blocks that were read so far. -/
abbrev upto (B : List ByteArray) : List ByteArray := B ++ List.replicate (32 - B.length) ⟨#[]⟩
theorem upto_length {B : List ByteArray} (h : B.length ≤ 32) : (upto B).length = 32 := by simp; omega
theorem upto_snoc {B : List ByteArray} {k : Nat} (h : B.length = k) (hk : k < 32) (d : ByteArray) : (upto B).set k d = upto (B ++ [d]) := by
  subst h
  rw [upto, upto, List.set_append_right _ _ (Nat.le_refl _), Nat.sub_self, List.length_append, List.length_singleton, List.append_assoc]
  congr 1
  rw [show 32 - B.length = (32 - (B.length + 1)) + 1 by omega, List.replicate_succ]
  rfl
theorem lod_yes {D : List Sec} {t k : Nat} {B : List ByteArray} {d : ByteArray} (h : lod D t k = some B) (hd : unb t (D.getD (at2 t k) []) = some d) : lod D t (k + 1) = some (B ++ [d]) := by rw [lod, h, hd]
theorem lod_no {D : List Sec} {t k : Nat} {B : List ByteArray} (h : lod D t k = some B) (hd : unb t (D.getD (at2 t k) []) = none) : lod D t (k + 1) = none := by rw [lod, h, hd]
/-- What load leaves. -/
def LoadO (w0 : World) (Ts : List Thg) (b p q t m : Nat) (o : Option (List ByteArray)) (e : Ending) (w : World) : Prop :=
  match o with
  | some B => e = .returned (.bool true) ∧ St w0 (Ts.set b (imgT p q ⟨t, m, B⟩ im0 0)) w
  | none => e = .returned (.bool false) ∧ ∃ i', St w0 (Ts.set b (imgT p q i' im0 0)) w
section
variable {w0 w : World} {Ts : List Thg} {a b p q t m : Nat} {S : List Sec} {L : List Wr}
theorem load_zero (h : St w0 Ts w) (hb : Ts[b]? = some (imgT p q ⟨0, m, emp⟩ im0 0)) :
    Calls Tryz.prog 31 #[.pointer (some ⟨p, 0, none⟩)] w fun e w' => e = .returned (.bool true) ∧ w = w' := by
  have hib := St.ib h hb
  have hc := hib.turn
  have hc1 : w.cell? ⟨p, 1, none⟩ = some (.int .i64 0) := hc
  clear hib hc h
  go_enter Tryz.func31, Tryz.ntmps31
  go_wp2
  go_ret
  exact ⟨rfl, rfl⟩
set_option maxRecDepth 100000 in
set_option maxHeartbeats 4000000 in
theorem load_any (h : St w0 Ts w) (ha : Ts[a]? = some (dskT q S L)) (hb : Ts[b]? = some (imgT p q ⟨t, m, emp⟩ im0 0)) (hab : a ≠ b) (h66 : 66 ≤ S.length) (hL : L.length ≤ 1000000) (ht : Tab w0) (h1 : 1 ≤ t) (hN : NumN t) :
    Calls Tryz.prog 31 #[.pointer (some ⟨p, 0, none⟩)] w fun e w' => LoadO w0 Ts b p q t m (lod (all S L) t 32) e w' := by
  have hib := St.ib h hb
  have hc1 : w.cell? ⟨p, 1, none⟩ = some (.int .i64 (t : Int)) := hib.turn
  have htz : ((t : Int) == 0) = false := by simp; omega
  have hst : St w0 (Ts.set b (imgT p q ⟨t, m, upto []⟩ im0 0)) w := by
    rw [show upto [] = emp by rfl, set_same hb]
    exact h
  have HST := hide hst
  have HA := hide ha
  have HB0 := hide hb
  have HAB := hide hab
  have H66 := hide h66
  have HL := hide hL
  have HT := hide ht
  have HN := hide hN
  have HAL := hide (all_length L S)
  have HPL := hide (show b < Ts.length from (List.getElem?_eq_some_iff.1 hb).1)
  clear hib h ha hb hab h66 hL ht hN hst
  go_enter Tryz.func31, Tryz.ntmps31
  go_wp2
  go_loopw [19] (fun j wr => ∃ k : Nat, k ≤ 32 ∧ j = .int .i64 k ∧ Hid (∃ B, lod (all S L) t k = some B ∧ B.length = k ∧ St w0 (Ts.set b (imgT p q ⟨t, m, upto B⟩ im0 0)) wr)) (fun j _ => 32 - (intOf j).toNat)
  case atStart => exact ⟨0, by omega, rfl, [], rfl, rfl, HST.out⟩
  case round =>
    obtain ⟨k, hk, rfl, hB⟩ := hrel
    rcases Nat.lt_or_ge k 32 with hlt | hge
    · have hki : (k : Int) < 32 := by omega
      obtain ⟨B, hlod, hbl, hs⟩ := hB.out
      have hai : (Ts.set b (imgT p q ⟨t, m, upto B⟩ im0 0))[a]? = some (dskT q S L) := by
        rw [List.getElem?_set_ne (Ne.symm HAB.out)]
        exact HA.out
      have hbi : (Ts.set b (imgT p q ⟨t, m, upto B⟩ im0 0))[b]? = some (imgT p q ⟨t, m, upto B⟩ im0 0) := List.getElem?_set_self HPL.out
      have hiS : at2 t k < S.length := by have := H66.out; have := at2_lt t hlt; omega
      obtain ⟨s, hsec⟩ : ∃ s, (all S L)[at2 t k]? = some s := ⟨_, List.getElem?_eq_getElem (by rw [HAL.out]; exact hiS)⟩
      have hgd : (all S L).getD (at2 t k) [] = s := getD_of hsec
      obtain ⟨G, hD⟩ := St.disk hs hai
      have hls : s.length = 64 := (hD.full.all hD.fits) s (List.mem_of_getElem? hsec)
      have hib := St.ib hs hbi
      have hc0 := hib.drew.disk
      have HR := hide (St.rd hs.drew hai hsec hiS HL.out)
      have Hls := hide hls
      obtain ⟨o, ho⟩ : ∃ o, unb t s = o := ⟨_, rfl⟩
      have HY := hide (fun d hd => lod_yes (d := d) hlod (show unb t ((all S L).getD (at2 t k) []) = some d by rw [hgd]; exact hd))
      have HNO := hide (fun hd => lod_no hlod (show unb t ((all S L).getD (at2 t k) []) = none by rw [hgd]; exact hd))
      have HPP := hide (show p < wr.heap.size from hib.lt)
      have HPL' := HPL
      have HPLx := HPL
      have HS := hide hs
      have HBL := hide hbl
      have HAI := hide hai
      have HBI := hide hbi
      have HO := hide ho
      have Hlt := hide hlt
      clear hB hlod hbl hs hai hbi hsec hgd hD hls hib hiS ho
      go_wp2_with fail
      refine wp_region_held (S := (fun W => W.cell? ⟨p, 0, none⟩ = some (.pointer (some ⟨q, 0, none⟩)))) (by kernel_rfl) ?_
      change wpAnyH _ _ _ _ _ _ _ _ (World.drew _)
      refine wpAnyH_take (i := 0) (oi := ⟨some 23, _, _, _, _, _⟩) (v := ?_) rfl (by kernel_rfl) (by kernel_rfl) (by kernel_rfl) (fun _ _ _ h => h) (Or.inl ⟨by rfl, ?_⟩) hc0 ?_
      rotate_left 1
      · (intro w hSw; have hSw1 := hSw; go_simp; try with_reducible rfl)
      simp only [Act.put, List.setIfInBounds_toArray, List.set_cons_zero, List.set_cons_succ]
      refine wpAnyH_take (i := 1) (oi := ⟨some 24, _, _, _, _, _⟩) (v := ?_) rfl (by kernel_rfl) (by kernel_rfl) (by kernel_rfl) (fun _ _ _ h => h) (Or.inl ⟨by rfl, ?_⟩) hc0 ?_
      rotate_left 1
      · (intro w hSw; have hSw1 := hSw; go_simp; try with_reducible rfl)
      simp only [Act.put, List.setIfInBounds_toArray, List.set_cons_zero, List.set_cons_succ]
      refine wpAnyH_take (i := 2) (oi := ⟨some 25, _, _, _, _, _⟩) (v := ?_) rfl (by kernel_rfl) (by kernel_rfl) (by kernel_rfl) (fun _ _ _ h => h) (Or.inl ⟨by rfl, ?_⟩) hc0 ?_
      rotate_left 1
      · (intro w hSw; have hSw1 := hSw; go_simp; try with_reducible rfl)
      simp only [Act.put, List.setIfInBounds_toArray, List.set_cons_zero, List.set_cons_succ]
      refine wpAnyH_take (i := 3) (oi := ⟨some 26, _, _, _, _, _⟩) (v := ?_) rfl (by kernel_rfl) (by kernel_rfl) (by kernel_rfl) (fun _ _ _ h => h) (Or.inl ⟨by rfl, ?_⟩) hc0 ?_
      rotate_left 1
      · (intro w hSw; have hSw1 := hSw; go_simp; try with_reducible rfl)
      simp only [Act.put, List.setIfInBounds_toArray, List.set_cons_zero, List.set_cons_succ]
      refine wpAnyH_take (i := 4) (oi := ⟨some 27, _, _, _, _, _⟩) (v := ?_) rfl (by kernel_rfl) (by kernel_rfl) (by kernel_rfl) (fun _ _ _ h => h) (Or.inl ⟨by rfl, ?_⟩) hc0 ?_
      rotate_left 1
      · (intro w hSw; have hSw1 := hSw; go_simp; try with_reducible rfl)
      simp only [Act.put, List.setIfInBounds_toArray, List.set_cons_zero, List.set_cons_succ]
      refine wpAnyH_take (i := 5) (oi := ⟨some 28, _, _, _, _, _⟩) (v := ?_) rfl (by kernel_rfl) (by kernel_rfl) (by kernel_rfl) (fun _ _ _ h => h) (Or.inl ⟨by rfl, ?_⟩) hc0 ?_
      rotate_left 1
      · (intro w hSw; have hSw1 := hSw; go_simp; try with_reducible rfl)
      simp only [Act.put, List.setIfInBounds_toArray, List.set_cons_zero, List.set_cons_succ]
      refine wpAnyH_ready (rs := [6]) (by kernel_rfl) (by simp) ?_
      refine AllReadyH.cons (o := ⟨some 29, _, _, _, _, _⟩) rfl (fun K hK => ?_) AllReadyH.nil
      go_simp
      refine (sector_any t k (by omega) _).mono ?_
      rintro r w2 ⟨rfl, hw2⟩
      rw [← hw2]
      clear hw2
      refine hK.out _ _ hc0 (fun hHeld => ?_)
      clear hK K
      clear hHeld
      refine wpAnyH_ready (rs := [7]) (by kernel_rfl) (by simp) ?_
      refine AllReadyH.cons (o := ⟨some 30, _, _, _, _, _⟩) rfl (fun K hK => ?_) AllReadyH.nil
      go_simp
      refine HR.out.mono ?_
      rintro r w2 ⟨g, rfl, hgs, hg2, hb2⟩
      have hc2 : w2.cell? ⟨p, 0, none⟩ = some (.pointer (some ⟨q, 0, none⟩)) := (hb2.cell (p := ⟨p, 0, none⟩) HPP.out).trans hc0
      have HG2 := hg2
      have HB2 := hide hb2
      clear hb2 hg2 HR hgs
      refine hK.out _ _ hc2 (fun hHeld => ?_)
      clear hK K
      clear hHeld
      refine wpAnyH_take (i := 8) (oi := ⟨some 22, _, _, _, _, _⟩) (v := ?_) rfl (by kernel_rfl) (by kernel_rfl) (by kernel_rfl) (fun _ _ _ h => h) (Or.inl ⟨by rfl, ?_⟩) hc2 ?_
      rotate_left 1
      · (intro w hSw; have hSw1 := hSw; go_simp; try with_reducible rfl)
      simp only [Act.put, List.setIfInBounds_toArray, List.set_cons_zero, List.set_cons_succ]
      refine wpAnyH_take (i := 9) (oi := ⟨some 31, _, _, _, _, _⟩) (v := ?_) rfl (by kernel_rfl) (by kernel_rfl) (by kernel_rfl) (fun _ _ _ h => h) (Or.inl ⟨by rfl, ?_⟩) hc2 ?_
      rotate_left 1
      · (intro w hSw; have hSw1 := hSw; go_simp; try with_reducible rfl)
      simp only [Act.put, List.setIfInBounds_toArray, List.set_cons_zero, List.set_cons_succ]
      refine wpAnyH_take (i := 10) (oi := ⟨some 32, _, _, _, _, _⟩) (v := ?_) rfl (by kernel_rfl) (by kernel_rfl) (by kernel_rfl) (fun _ _ _ h => h) (Or.inl ⟨by rfl, ?_⟩) hc2 ?_
      rotate_left 1
      · (intro w hSw; have hSw1 := hSw; go_simp; try with_reducible rfl)
      simp only [Act.put, List.setIfInBounds_toArray, List.set_cons_zero, List.set_cons_succ]
      refine wpAnyH_take (i := 11) (oi := ⟨some 5, _, _, _, _, _⟩) (v := ?_) rfl (by kernel_rfl) (by kernel_rfl) (by kernel_rfl) (fun _ _ _ h => h) (Or.inl ⟨by rfl, ?_⟩) hc2 ?_
      rotate_left 1
      · (intro w hSw; have hSw1 := hSw; go_simp; try with_reducible rfl)
      simp only [Act.put, List.setIfInBounds_toArray, List.set_cons_zero, List.set_cons_succ]
      refine wpAnyH_take (i := 12) (oi := ⟨some 6, _, _, _, _, _⟩) (v := ?_) rfl (by kernel_rfl) (by kernel_rfl) (by kernel_rfl) (fun _ _ _ h => h) (Or.inl ⟨by rfl, ?_⟩) hc2 ?_
      rotate_left 1
      · (intro w hSw; have hSw1 := hSw; go_simp; try with_reducible rfl)
      simp only [Act.put, List.setIfInBounds_toArray, List.set_cons_zero, List.set_cons_succ]
      refine wpAnyH_done (by kernel_rfl) ?_ _
      skip
      have hS2 := HS.out.drew.below HB2.out
      have HS2 := hide hS2
      have hby := Dk.byt_row HG2.out
      have HDC := hide (decodeBlock_any t (some ⟨g, 0, none⟩) 64 s w2 Hls.out (Nat.le_refl _) hby (HT.out.below hS2.bel HT.out.pos) HN.out o HO.out)
      clear hby hS2 hc0 hc2 HG2 HB2 HS
      go_wp2_with fail
      refine HDC.out.mono ?_
      rintro e w3 ⟨hres, hb3⟩
      have HS3 := hide (HS2.out.below hb3)
      clear HDC HS2 hb3
      cases o with
      | none =>
        have hres' : e = .returned (.tuple #[bk2 0 ⟨#[]⟩, .bool false]) := hres
        subst hres'
        have HS4 := hide (HS3.out.below (mx_below w3 0 ⟨#[]⟩))
        clear hres HS3
        go_wp2
        go_ret
        have h0 : lod (all S L) t 32 = none := by
          have := lod_none (HNO.out HO.out) (32 - (k + 1))
          rwa [show k + 1 + (32 - (k + 1)) = 32 by have := Hlt.out; omega] at this
        unfold LoadO
        rw [h0]
        exact ⟨rfl, _, HS4.out⟩
      | some d =>
        have hres' : e = .returned (.tuple #[bk2 t d, .bool true]) := hres
        subst hres'
        have HJ := hide (Mx.new w3 t d)
        have HS4 := hide (HS3.out.below (mx_below w3 t d))
        have hj1 := HJ.out.c1
        clear hres HS3
        go_wp2_with fail
        obtain ⟨J, hJJ⟩ : ∃ J, J = w3.heap.size := ⟨_, rfl⟩
        rw [← hJJ] at HJ hj1 ⊢
        generalize w3.alloc _ = w4 at *
        refine (place_any k (by omega) _).mono ?_
        rintro r w5 ⟨rfl, hw5⟩
        rw [← hw5]
        clear hw5 hJJ
        obtain ⟨v, hv⟩ : ∃ v, k / 8 = v := ⟨_, rfl⟩
        obtain ⟨i, hi⟩ : ∃ i, k % 8 = i := ⟨_, rfl⟩
        have hv4 : (v : Int) < 4 := by omega
        have hi8 : (i : Int) < 8 := by omega
        have HK := hide (show v * 8 + i = k by omega)
        rw [hv, hi]
        clear hv hi
        have hib := St.ib HS4.out.drew HBI.out
        have hf := hib.free (3 + k)
        obtain ⟨sb, hsb⟩ : ∃ sb, (upto B)[k]? = some sb := ⟨_, List.getElem?_eq_getElem (by have := Hlt.out; rw [upto_length (by have := HBL.out; omega)]; exact this)⟩
        have hz : Sz ⟨t, m, upto B⟩ im0 := ⟨upto_length (by have := HBL.out; have := Hlt.out; omega), rfl⟩
        have hcb := hib.blk hz hsb
        have HZ := hide hz
        rw [show 3 + k = 3 + v * 8 + i by have := HK.out; omega] at hf hcb
        have hj1d := HJ.out.drew.c1
        have HJP := hide (show J ≠ p by
          intro e
          have h1 : w4.drew.heap[p]? = _ := hib
          have h2 : w4.drew.heap[J]? = _ := HJ.out.drew
          rw [e, h1] at h2
          simp at h2)
        clear hib hsb hz hj1
        go_wp2_with fail
        refine wp_region_held (S := (fun W => W.cell? ⟨J, 1, none⟩ = some (.string d))) (by kernel_rfl) ?_
        change wpAnyH _ _ _ _ _ _ _ _ (World.drew _)
        refine wpAnyH_take (i := 0) (oi := ⟨some 46, _, _, _, _, _⟩) (v := ?_) rfl (by kernel_rfl) (by kernel_rfl) (by kernel_rfl) (fun _ _ _ h => h) (Or.inl ⟨by rfl, ?_⟩) hj1d ?_
        rotate_left 1
        · (intro w hSw; have hSw1 := hSw; go_simp; try with_reducible rfl)
        simp only [Act.put, List.setIfInBounds_toArray, List.set_cons_zero, List.set_cons_succ]
        refine wpAnyH_take (i := 1) (oi := ⟨some 47, _, _, _, _, _⟩) (v := ?_) rfl (by kernel_rfl) (by kernel_rfl) (by kernel_rfl) (fun _ _ _ h => h) (Or.inl ⟨by rfl, ?_⟩) hj1d ?_
        rotate_left 1
        · (intro w hSw; have hSw1 := hSw; go_simp; try with_reducible rfl)
        simp only [Act.put, List.setIfInBounds_toArray, List.set_cons_zero, List.set_cons_succ]
        refine wpAnyH_take (i := 2) (oi := ⟨some 48, _, _, _, _, _⟩) (v := ?_) rfl (by kernel_rfl) (by kernel_rfl) (by kernel_rfl) (fun _ _ _ h => h) (Or.inl ⟨by rfl, ?_⟩) hj1d ?_
        rotate_left 1
        · (intro w hSw; have hSw1 := hSw; go_simp; try with_reducible rfl)
        simp only [Act.put, List.setIfInBounds_toArray, List.set_cons_zero, List.set_cons_succ]
        refine wpAnyH_take (i := 3) (oi := ⟨some 49, _, _, _, _, _⟩) (v := ?_) rfl (by kernel_rfl) (by kernel_rfl) (by kernel_rfl) (fun _ _ _ h => h) (Or.inl ⟨by rfl, ?_⟩) hj1d ?_
        rotate_left 1
        · (intro w hSw; have hSw1 := hSw; go_simp; try with_reducible rfl)
        simp only [Act.put, List.setIfInBounds_toArray, List.set_cons_zero, List.set_cons_succ]
        refine wpAnyH_take (i := 4) (oi := ⟨some 50, _, _, _, _, _⟩) (v := ?_) rfl (by kernel_rfl) (by kernel_rfl) (by kernel_rfl) (fun _ _ _ h => h) (Or.inl ⟨by rfl, ?_⟩) hj1d ?_
        rotate_left 1
        · (intro w hSw; have hSw1 := hSw; go_simp; try with_reducible rfl)
        simp only [Act.put, List.setIfInBounds_toArray, List.set_cons_zero, List.set_cons_succ]
        refine wpAnyH_take (i := 5) (oi := ⟨some 51, _, _, _, _, _⟩) (v := ?_) rfl (by kernel_rfl) (by kernel_rfl) (by kernel_rfl) (fun _ _ _ h => h) (Or.inl ⟨by rfl, ?_⟩) hj1d ?_
        rotate_left 1
        · (intro w hSw; have hSw1 := hSw; go_simp; try with_reducible rfl)
        simp only [Act.put, List.setIfInBounds_toArray, List.set_cons_zero, List.set_cons_succ]
        refine wpAnyH_take (i := 6) (oi := ⟨some 52, _, _, _, _, _⟩) (v := ?_) rfl (by kernel_rfl) (by kernel_rfl) (by kernel_rfl) (fun _ _ _ h => h) (Or.inl ⟨by rfl, ?_⟩) hj1d ?_
        rotate_left 1
        · (intro w hSw; have hSw1 := hSw; go_simp; try with_reducible rfl)
        simp only [Act.put, List.setIfInBounds_toArray, List.set_cons_zero, List.set_cons_succ]
        refine wpAnyH_take (i := 7) (oi := ⟨some 53, _, _, _, _, _⟩) (v := ?_) rfl (by kernel_rfl) (by kernel_rfl) (by kernel_rfl) (fun _ _ _ h => h) (Or.inl ⟨by rfl, ?_⟩) hj1d ?_
        rotate_left 1
        · (intro w hSw; have hSw1 := hSw; go_simp; try with_reducible rfl)
        simp only [Act.put, List.setIfInBounds_toArray, List.set_cons_zero, List.set_cons_succ]
        refine wpAnyH_take (i := 8) (oi := ⟨some 54, _, _, _, _, _⟩) (v := ?_) rfl (by kernel_rfl) (by kernel_rfl) (by kernel_rfl) (fun _ _ _ h => h) (Or.inl ⟨by rfl, ?_⟩) hj1d ?_
        rotate_left 1
        · (intro w hSw; have hSw1 := hSw; go_simp; try with_reducible rfl)
        simp only [Act.put, List.setIfInBounds_toArray, List.set_cons_zero, List.set_cons_succ]
        refine wpAnyH_take (i := 9) (oi := ⟨some 55, _, _, _, _, _⟩) (v := ?_) rfl (by kernel_rfl) (by kernel_rfl) (by kernel_rfl) (fun _ _ _ h => h) (Or.inl ⟨by rfl, ?_⟩) hj1d ?_
        rotate_left 1
        · (intro w hSw; have hSw1 := hSw; go_simp; try with_reducible rfl)
        simp only [Act.put, List.setIfInBounds_toArray, List.set_cons_zero, List.set_cons_succ]
        refine wpAnyH_ready (rs := [10]) (by kernel_rfl) (by simp) ?_
        refine AllReadyH.cons (o := ⟨none, _, _, _, _, _⟩) rfl (fun K hK => ?_) AllReadyH.nil
        go_simp
        have hj2 : (w4.drew.setCell ⟨p, 3 + v * 8 + i, none⟩ (.string d)).cell? ⟨J, 1, none⟩ = some (.string d) := by
          rw [← hj1d]
          simp only [World.cell?, heap_setCell_other _ ⟨p, 3 + v * 8 + i, none⟩ J _ HJP.out]
        refine hK.out _ _ hj2 (fun hHeld => ?_)
        clear hK K
        clear hHeld
        refine wpAnyH_done (by kernel_rfl) ?_ _
        skip
        have HST5 := hide ((St.blk HS4.out.drew HBI.out).2.2.2 (3 + k) (.string d))
        rw [ics_blk HZ.out Hlt.out, set_twice, upto_snoc HBL.out Hlt.out] at HST5
        have HLO := hide (HY.out d HO.out)
        clear HZ HS4 HBI HAI hcb hf hj1d
        rw [show 3 + v * 8 + i = 3 + k by have := HK.out; omega]
        generalize w4.drew.setCell _ _ = w6 at *
        go_wp2
        go_roundw
        case rel => exact ⟨k + 1, by have := Hlt.out; omega, by go_num, B ++ [d], HLO.out, by rw [List.length_append, HBL.out]; rfl, HST5.out⟩
        case measure => have := Hlt.out; simp [intOf]; omega
    · obtain rfl : k = 32 := by omega
      obtain ⟨B, hlod, hbl, hs⟩ := hB.out
      have HLO := hide hlod
      have HS := hide hs
      have HBL := hide hbl
      clear hB hlod hbl hs
      go_wp2
      go_ret
      unfold LoadO
      rw [HLO.out]
      have hu : upto B = B := by rw [upto, HBL.out]; simp
      have := HS.out
      rw [hu] at this
      exact ⟨rfl, this⟩
end

end Go.Proofs.YtnmpckhlpkmojaaGreatDoor.Im

/-
  The contract of the image's Open: of a disk's sectors the image that they are; or the fault image, 0, around ErrArg if there are fewer sectors, around ErrSum if they are none. Nothing that was there is changed. Condition: the table of half bytes holds what the program's own text lays.
-/
namespace Go.Proofs.YtnmpckhlpkmojaaGreatDoor.Im
open Go.RowKit
open Pk Sm Fa Rc Dk Wn Lk
open Jn (NumN clampN zer zer_no)

/-- A value laid into a new variable, the world behind it under a name of its own. -/
theorem wpList_box_told {P : Program} {ops : Array Oper} {rest : List Oper} {o : Oper} {a : Act} {w : World} {Q : Exit → Act → World → Prop} (hg : o.guard = none) (t : TypeId) (x : Operand) (ho : o.op = .box t x)
    (z : Array Value) (hz : a.eval x = .agg z)
    (h : ∀ w', Hid (w' = w.alloc (.cells z t)) → wpList P ops Q rest (a.put o.dst (.pointer (some ⟨w.heap.size, 0, none⟩))) w') : wpList P ops Q (o :: rest) a w := by
  refine wpList_plain hg fun K hK => ?_
  unfold Oper.wp execOp
  simp only [ho, hz, Sem.run_bind, Instr.box, newVar, newRow, run_newObj_alloc, Sem.run_pure, Result.andThen_ok, Value.cells]
  exact hK _ _ (h _ rfl)
/-- An error beside nil. -/
def OpenErr (w : World) (k : Int) (e : Ending) (w' : World) : Prop := ∃ pp, e = .returned (.tuple #[.pointer none, .iface 120 (.pointer (some ⟨pp, 0, none⟩))]) ∧ Flt w' pp 0 k ∧ w.heap.size ≤ pp ∧ Below w.heap.size w w'
/-- A fault among other things. -/
abbrev fltT (p : Nat) (r k : Int) : Thg := blkT p #[.string nam, .int .i64 r, .iface 71 (.int .i64 k)] 122
theorem St.flt {w0 w w' : World} {Us : List Thg} {pp : Nat} {r k : Int} (h : St w0 Us w) (hf : Flt w' pp r k) (hn : w.heap.size ≤ pp) (hb : Below w.heap.size w w') : St w0 (Us ++ [fltT pp r k]) w' :=
  h.add hb (T := fltT pp r k) (G := (· = pp)) ⟨hf, fun _ => Iff.rfl⟩ fun k hk => by rw [hk]; exact hn
theorem St.flt_at {w0 w : World} {Us : List Thg} {j pp : Nat} {r k : Int} (h : St w0 Us w) (hj : Us[j]? = some (fltT pp r k)) : Flt w pp r k := by
  obtain ⟨G, hp, _⟩ := St.opened h hj
  exact Blk.row hp
/-- The same, beside what is there. -/
def OpenErrS (w0 : World) (Ts : List Thg) (k : Int) (e : Ending) (w' : World) : Prop := ∃ pp, e = .returned (.tuple #[.pointer none, .iface 120 (.pointer (some ⟨pp, 0, none⟩))]) ∧ St w0 (Ts ++ [fltT pp 0 k]) w'
section
variable {w0 w : World} {Ts : List Thg} {a q : Nat} {S : List Sec} {L : List Wr}
theorem OpenErr.told {k : Int} {e : Ending} {w' : World} (h : St w0 Ts w) (he : OpenErr w k e w') : OpenErrS w0 Ts k e w' := by
  obtain ⟨pp, h1, h2, h3, h4⟩ := he
  exact ⟨pp, h1, St.flt h h2 h3 h4⟩
theorem St.len (h : St w0 Ts w) (ha : Ts[a]? = some (dskT q S L)) : Calls Tryz.prog 28 #[.pointer (some ⟨q, 0, none⟩)] w fun r w' => r = .returned (.int .i64 S.length) ∧ w = w' := by
  obtain ⟨G, hd⟩ := St.disk h ha
  exact Len_any hd
theorem St.cur (h : St w0 Ts w) (ha : Ts[a]? = some (dskT q S L)) (h2 : 2 ≤ S.length) (hL : L.length ≤ 1000000) (ht : Tab w0) :
    Calls Tryz.prog 30 #[.pointer (some ⟨q, 0, none⟩)] w fun e w' => NowO (Im.cur (all S L)) e ∧ Below w.heap.size w w' := by
  obtain ⟨G, hd⟩ := St.disk h ha
  exact current_any w G q S L hd h2 hL (ht.below h.bel ht.pos)
theorem St.blk_new' (h : St w0 Ts w) (cs : Array Value) (ty : TypeId) : St w0 (Ts ++ [blkT w.heap.size cs ty]) (w.alloc (.cells cs ty)) := St.blk_new h cs ty
theorem Open_few (h : St w0 Ts w) (ha : Ts[a]? = some (dskT q S L)) (hS : S.length < 66) :
    Calls Tryz.prog 9 #[.pointer (some ⟨q, 0, none⟩)] w fun e w' => OpenErr w 1 e w' := by
  have HN := hide (St.len h ha)
  have hSi : (S.length : Int) < 66 := by omega
  clear h ha hS
  go_enter Tryz.func9, Tryz.ntmps9
  go_wp2_with fail
  refine HN.out.mono ?_
  rintro r w2 ⟨rfl, rfl⟩
  clear HN
  go_wp2_with fail
  refine (Sectors_any _).mono ?_
  rintro r w2 ⟨rfl, rfl⟩
  go_wp2_with fail
  refine (failed_new 0 1 w rfl).mono ?_
  rintro r w2 ⟨pp, rfl, ⟨hf, hn⟩, hb⟩
  have HF := hide hf
  have HNP := hide hn
  have HB := hide hb
  clear hf hb hn
  go_wp2
  go_ret2
  exact ⟨pp, rfl, HF.out, HNP.out, HB.out⟩
set_option maxRecDepth 100000 in
set_option maxHeartbeats 2000000 in
theorem Open_nohead (h : St w0 Ts w) (ha : Ts[a]? = some (dskT q S L)) (hS : 66 ≤ S.length) (hL : L.length ≤ 1000000) (ht : Tab w0) (hc : Im.cur (all S L) = none) :
    Calls Tryz.prog 9 #[.pointer (some ⟨q, 0, none⟩)] w fun e w' => OpenErr w 4 e w' := by
  have HN := hide (St.len h ha)
  have hSi : ¬ (S.length : Int) < 66 := by omega
  have HC := hide (St.cur h ha (by omega) hL ht)
  have HH := hide h
  have HA := hide ha
  have HL := hide hL
  have HT := hide ht
  have HS6 := hide hS
  have HCU := hide hc
  clear hc
  clear h ha hS hL ht
  go_enter Tryz.func9, Tryz.ntmps9
  go_wp2_with fail
  refine HN.out.mono ?_
  rintro r w2 ⟨rfl, rfl⟩
  clear HN
  go_wp2_with fail
  refine (Sectors_any _).mono ?_
  rintro r w2 ⟨rfl, rfl⟩
  go_wp2_with fail
  refine HC.out.mono ?_
  rintro r w2 ⟨hr, hb2⟩
  rw [HCU.out] at hr
  have HS2 := hide (HH.out.below hb2)
  have HB2 := hide hb2
  clear HC hb2 HH
  obtain ⟨⟨t, m⟩, rfl⟩ := hr
  have HB3 := hide (HB2.out.trans ((hx_below w2 t m).mono HB2.out.size))
  clear HB2 HS2
  go_wp2_with fail
  refine (failed_new 0 4 (w2.alloc (.cells (hcs t m) 73)) rfl).mono ?_
  rintro r w5 ⟨pp, rfl, ⟨hf, hn⟩, hb⟩
  have HF := hide hf
  have HNP := hide (Nat.le_trans HB3.out.size hn)
  have HB := hide (HB3.out.trans (hb.mono HB3.out.size))
  clear hf hb hn
  go_wp2
  go_ret2
  exact ⟨pp, rfl, HF.out, HNP.out, HB.out⟩
set_option maxRecDepth 100000 in
set_option maxHeartbeats 2000000 in
theorem Open_zero (h : St w0 Ts w) (ha : Ts[a]? = some (dskT q S L)) (hS : 66 ≤ S.length) (hL : L.length ≤ 1000000) (ht : Tab w0) (m : Nat) (hc : Im.cur (all S L) = some ⟨0, m⟩) :
    Calls Tryz.prog 9 #[.pointer (some ⟨q, 0, none⟩)] w fun e w' => ∃ p, e = .returned (.tuple #[.pointer (some ⟨p, 0, none⟩), .nilIface]) ∧ St w0 (Ts ++ [imgT p q ⟨0, m, emp⟩ im0 0]) w' := by
  have HN := hide (St.len h ha)
  have hSi : ¬ (S.length : Int) < 66 := by omega
  have HC := hide (St.cur h ha (by omega) hL ht)
  have HH := hide h
  have HA := hide ha
  have HL := hide hL
  have HT := hide ht
  have HS6 := hide hS
  have HCU := hide hc
  clear hc
  clear h ha hS hL ht
  go_enter Tryz.func9, Tryz.ntmps9
  go_wp2_with fail
  refine HN.out.mono ?_
  rintro r w2 ⟨rfl, rfl⟩
  clear HN
  go_wp2_with fail
  refine (Sectors_any _).mono ?_
  rintro r w2 ⟨rfl, rfl⟩
  go_wp2_with fail
  refine HC.out.mono ?_
  rintro r w2 ⟨hr, hb2⟩
  rw [HCU.out] at hr
  have HS2 := hide (HH.out.below hb2)
  have HB2 := hide hb2
  clear HC hb2 HH
  have hr' : r = .returned (.tuple #[hd2 ⟨0, m⟩, .bool true]) := hr
  subst hr'
  have HJ := hide (Hx.new w2 0 m)
  have HS3 := hide (HS2.out.below (hx_below w2 0 m))
  have HB3 := hide (HB2.out.trans ((hx_below w2 0 m).mono HB2.out.size))
  have hj0 := HJ.out.c0
  have hj1 := HJ.out.c1
  clear hr HB2 HS2
  go_wp2_with (refine wpList_box_told rfl 79 (.tmp 23) rfl (ics q ⟨0, m, emp⟩ im0 0) (by kernel_rfl) ?_)
  intro w4 H4
  have HS4 := hide (show St w0 (Ts ++ [imgT (w2.alloc (.cells (hcs 0 m) 73)).heap.size q ⟨0, m, emp⟩ im0 0]) w4 by rw [H4.out]; exact St.blk_new HS3.out _ _)
  have HB4 := hide (show Below w.heap.size w w4 by rw [H4.out]; exact HB3.out.alloc HB3.out.size _)
  have hsz : (w2.alloc (.cells (hcs 0 m) 73)).heap.size = w2.heap.size + 1 := by simp
  obtain ⟨p, hp⟩ : ∃ p, p = w2.heap.size + 1 := ⟨_, rfl⟩
  rw [hsz, ← hp] at HS4
  clear H4 HS3 HB3 HJ hj0 hj1 hsz
  have hal : a < Ts.length := (List.getElem?_eq_some_iff.1 HA.out).1
  have ha' : (Ts ++ [imgT p q ⟨0, m, emp⟩ im0 0])[a]? = some (dskT q S L) := by rw [List.getElem?_append_left hal]; exact HA.out
  have hb' : (Ts ++ [imgT p q ⟨0, m, emp⟩ im0 0])[Ts.length]? = some (imgT p q ⟨0, m, emp⟩ im0 0) := by simp
  have HLD := hide (load_zero HS4.out hb')
  clear hal ha' hb'
  go_wp2_with fail
  rw [← hp]
  clear hp
  refine HLD.out.mono ?_
  rintro r w5 ⟨rfl, rfl⟩
  clear HLD
  go_wp2
  go_ret2
  exact ⟨p, rfl, HS4.out⟩
set_option maxRecDepth 100000 in
set_option maxHeartbeats 2000000 in
theorem Open_blocks (h : St w0 Ts w) (ha : Ts[a]? = some (dskT q S L)) (hS : 66 ≤ S.length) (hL : L.length ≤ 1000000) (ht : Tab w0) (t m : Nat) (B : List ByteArray) (hc : Im.cur (all S L) = some ⟨t, m⟩) (h1 : 1 ≤ t) (hl : lod (all S L) t 32 = some B) :
    Calls Tryz.prog 9 #[.pointer (some ⟨q, 0, none⟩)] w fun e w' => ∃ p, e = .returned (.tuple #[.pointer (some ⟨p, 0, none⟩), .nilIface]) ∧ St w0 (Ts ++ [imgT p q ⟨t, m, B⟩ im0 0]) w' := by
  have HN := hide (St.len h ha)
  have hSi : ¬ (S.length : Int) < 66 := by omega
  have HC := hide (St.cur h ha (by omega) hL ht)
  have HH := hide h
  have HA := hide ha
  have HL := hide hL
  have HT := hide ht
  have HS6 := hide hS
  have HCU := hide hc
  have HLO := hide hl
  have H1 := hide h1
  clear hc hl h1
  clear h ha hS hL ht
  go_enter Tryz.func9, Tryz.ntmps9
  go_wp2_with fail
  refine HN.out.mono ?_
  rintro r w2 ⟨rfl, rfl⟩
  clear HN
  go_wp2_with fail
  refine (Sectors_any _).mono ?_
  rintro r w2 ⟨rfl, rfl⟩
  go_wp2_with fail
  refine HC.out.mono ?_
  rintro r w2 ⟨hr, hb2⟩
  rw [HCU.out] at hr
  have HS2 := hide (HH.out.below hb2)
  have HB2 := hide hb2
  clear HC hb2 HH
  have hr' : r = .returned (.tuple #[hd2 ⟨t, m⟩, .bool true]) := hr
  subst hr'
  have HJ := hide (Hx.new w2 t m)
  have HS3 := hide (HS2.out.below (hx_below w2 t m))
  have HB3 := hide (HB2.out.trans ((hx_below w2 t m).mono HB2.out.size))
  have hj0 := HJ.out.c0
  have hj1 := HJ.out.c1
  clear hr HB2 HS2
  go_wp2_with (refine wpList_box_told rfl 79 (.tmp 23) rfl (ics q ⟨t, m, emp⟩ im0 0) (by kernel_rfl) ?_)
  intro w4 H4
  have HS4 := hide (show St w0 (Ts ++ [imgT (w2.alloc (.cells (hcs t m) 73)).heap.size q ⟨t, m, emp⟩ im0 0]) w4 by rw [H4.out]; exact St.blk_new HS3.out _ _)
  have HB4 := hide (show Below w.heap.size w w4 by rw [H4.out]; exact HB3.out.alloc HB3.out.size _)
  have hsz : (w2.alloc (.cells (hcs t m) 73)).heap.size = w2.heap.size + 1 := by simp
  obtain ⟨p, hp⟩ : ∃ p, p = w2.heap.size + 1 := ⟨_, rfl⟩
  rw [hsz, ← hp] at HS4
  clear H4 HS3 HB3 HJ hj0 hj1 hsz
  have hal : a < Ts.length := (List.getElem?_eq_some_iff.1 HA.out).1
  have ha' : (Ts ++ [imgT p q ⟨t, m, emp⟩ im0 0])[a]? = some (dskT q S L) := by rw [List.getElem?_append_left hal]; exact HA.out
  have hb' : (Ts ++ [imgT p q ⟨t, m, emp⟩ im0 0])[Ts.length]? = some (imgT p q ⟨t, m, emp⟩ im0 0) := by simp
  have hnum := nw_num (all S L) 2
  rw [cur_some HCU.out] at hnum
  have HLD := hide (load_any HS4.out ha' hb' (by omega) HS6.out HL.out HT.out H1.out hnum.1)
  rw [HLO.out] at HLD
  clear hal ha' hb' hnum
  go_wp2_with fail
  rw [← hp]
  clear hp
  refine HLD.out.mono ?_
  rintro r w5 ⟨rfl, hs5⟩
  have HS5 := hide (show St w0 (Ts ++ [imgT p q ⟨t, m, B⟩ im0 0]) w5 by
    have : (Ts ++ [imgT p q ⟨t, m, emp⟩ im0 0]).set Ts.length (imgT p q ⟨t, m, B⟩ im0 0) = Ts ++ [imgT p q ⟨t, m, B⟩ im0 0] := by simp
    rw [← this]
    exact hs5)
  clear HLD hs5
  go_wp2
  go_ret2
  exact ⟨p, rfl, HS5.out⟩
set_option maxRecDepth 100000 in
set_option maxHeartbeats 2000000 in
theorem Open_noblocks (h : St w0 Ts w) (ha : Ts[a]? = some (dskT q S L)) (hS : 66 ≤ S.length) (hL : L.length ≤ 1000000) (ht : Tab w0) (t m : Nat) (hc : Im.cur (all S L) = some ⟨t, m⟩) (h1 : 1 ≤ t) (hl : lod (all S L) t 32 = none) :
    Calls Tryz.prog 9 #[.pointer (some ⟨q, 0, none⟩)] w fun e w' => OpenErrS w0 Ts 4 e w' := by
  have HN := hide (St.len h ha)
  have hSi : ¬ (S.length : Int) < 66 := by omega
  have HC := hide (St.cur h ha (by omega) hL ht)
  have HH := hide h
  have HA := hide ha
  have HL := hide hL
  have HT := hide ht
  have HS6 := hide hS
  have HCU := hide hc
  have HLO := hide hl
  have H1 := hide h1
  clear hc hl h1
  clear h ha hS hL ht
  go_enter Tryz.func9, Tryz.ntmps9
  go_wp2_with fail
  refine HN.out.mono ?_
  rintro r w2 ⟨rfl, rfl⟩
  clear HN
  go_wp2_with fail
  refine (Sectors_any _).mono ?_
  rintro r w2 ⟨rfl, rfl⟩
  go_wp2_with fail
  refine HC.out.mono ?_
  rintro r w2 ⟨hr, hb2⟩
  rw [HCU.out] at hr
  have HS2 := hide (HH.out.below hb2)
  have HB2 := hide hb2
  clear HC hb2 HH
  have hr' : r = .returned (.tuple #[hd2 ⟨t, m⟩, .bool true]) := hr
  subst hr'
  have HJ := hide (Hx.new w2 t m)
  have HS3 := hide (HS2.out.below (hx_below w2 t m))
  have HB3 := hide (HB2.out.trans ((hx_below w2 t m).mono HB2.out.size))
  have hj0 := HJ.out.c0
  have hj1 := HJ.out.c1
  clear hr HB2 HS2
  go_wp2_with (refine wpList_box_told rfl 79 (.tmp 23) rfl (ics q ⟨t, m, emp⟩ im0 0) (by kernel_rfl) ?_)
  intro w4 H4
  have HS4 := hide (show St w0 (Ts ++ [imgT (w2.alloc (.cells (hcs t m) 73)).heap.size q ⟨t, m, emp⟩ im0 0]) w4 by rw [H4.out]; exact St.blk_new HS3.out _ _)
  have HB4 := hide (show Below w.heap.size w w4 by rw [H4.out]; exact HB3.out.alloc HB3.out.size _)
  have hsz : (w2.alloc (.cells (hcs t m) 73)).heap.size = w2.heap.size + 1 := by simp
  obtain ⟨p, hp⟩ : ∃ p, p = w2.heap.size + 1 := ⟨_, rfl⟩
  rw [hsz, ← hp] at HS4
  clear H4 HS3 HB3 HJ hj0 hj1 hsz
  have hal : a < Ts.length := (List.getElem?_eq_some_iff.1 HA.out).1
  have ha' : (Ts ++ [imgT p q ⟨t, m, emp⟩ im0 0])[a]? = some (dskT q S L) := by rw [List.getElem?_append_left hal]; exact HA.out
  have hb' : (Ts ++ [imgT p q ⟨t, m, emp⟩ im0 0])[Ts.length]? = some (imgT p q ⟨t, m, emp⟩ im0 0) := by simp
  have hnum := nw_num (all S L) 2
  rw [cur_some HCU.out] at hnum
  have HLD := hide (load_any HS4.out ha' hb' (by omega) HS6.out HL.out HT.out H1.out hnum.1)
  rw [HLO.out] at HLD
  clear hal ha' hb' hnum
  go_wp2_with fail
  rw [← hp]
  clear hp
  refine HLD.out.mono ?_
  rintro r w6 ⟨rfl, i6, hs6⟩
  rw [List.set_append_right _ _ (Nat.le_refl _)] at hs6
  have HS6' := hide (St.weaken hs6)
  clear HLD hs6
  go_wp2_with fail
  refine (failed_new 0 4 w6 rfl).mono ?_
  rintro r w5 ⟨pp, rfl, ⟨hf, hn⟩, hb⟩
  have HS7 := hide (St.flt HS6'.out hf hn hb)
  clear hf hb hn
  go_wp2
  go_ret2
  exact ⟨pp, rfl, HS7.out⟩
/-- Any disk. -/
theorem Open_good (h : St w0 Ts w) (ha : Ts[a]? = some (dskT q S L)) (hS : 66 ≤ S.length) (hL : L.length ≤ 1000000) (ht : Tab w0) (i : Img) (ho : opn (all S L) = some i) :
    Calls Tryz.prog 9 #[.pointer (some ⟨q, 0, none⟩)] w fun e w' => ∃ p, e = .returned (.tuple #[.pointer (some ⟨p, 0, none⟩), .nilIface]) ∧ St w0 (Ts ++ [imgT p q i im0 0]) w' := by
  obtain ⟨hc, hz, hl⟩ := opn_cur ho
  obtain ⟨t, m, B⟩ := i
  by_cases h0 : t = 0
  · subst h0
    obtain ⟨h1, h2⟩ := hz rfl
    simp only at h1 h2
    subst h1
    subst h2
    exact Open_zero h ha hS hL ht 0 hc
  · exact Open_blocks h ha hS hL ht t m B hc (by omega) (hl h0)
theorem Open_bad (h : St w0 Ts w) (ha : Ts[a]? = some (dskT q S L)) (hS : 66 ≤ S.length) (hL : L.length ≤ 1000000) (ht : Tab w0) (ho : opn (all S L) = none) :
    Calls Tryz.prog 9 #[.pointer (some ⟨q, 0, none⟩)] w fun e w' => OpenErrS w0 Ts 4 e w' := by
  cases hc : Im.cur (all S L) with
  | none => exact (Open_nohead h ha hS hL ht hc).mono fun _e _w' he => OpenErr.told h he
  | some x =>
    obtain ⟨t, m⟩ := x
    unfold opn at ho
    rw [hc] at ho
    dsimp only at ho
    by_cases h0 : t = 0
    · rw [if_pos h0] at ho
      cases ho
    · rw [if_neg h0] at ho
      cases hl : lod (all S L) t 32 with
      | none => exact Open_noblocks h ha hS hL ht t m hc (by omega) hl
      | some B => rw [hl] at ho; cases ho
end

end Go.Proofs.YtnmpckhlpkmojaaGreatDoor.Im

/-
  The contract of the image's shortened: the blocks, each with no more of its data than fits. Nothing that was there is changed.
-/
namespace Go.Proofs.YtnmpckhlpkmojaaGreatDoor.Im
open Go.RowKit
open Pk Sm Fa Rc Dk Wn Lk
open Jn (NumN clampN zer zer_no)

/-- No more of the data than fits. -/
def cut (d : ByteArray) : ByteArray := d.extract 0 (min d.size 16)
theorem cut_short {d : ByteArray} (h : d.size ≤ 16) : cut d = d := by
  unfold cut
  rw [Nat.min_eq_left h]
  exact ByteArray.extract_zero_size
theorem cut_size (d : ByteArray) : (cut d).size ≤ 16 := by
  unfold cut
  rw [ByteArray.size_extract]
  omega
theorem map_cut {B : List ByteArray} : (B = B.map cut) ↔ ∀ d ∈ B, d.size ≤ 16 := by
  constructor
  · intro h d hd
    rw [h] at hd
    obtain ⟨x, _, rfl⟩ := List.mem_map.1 hd
    exact cut_size x
  · intro h
    symm
    rw [List.map_congr_left (g := fun d => d) fun d hd => cut_short (h d hd), List.map_id']
/-- The first n of them cut. -/
def cutTo (B : List ByteArray) (n : Nat) : List ByteArray := (B.take n).map cut ++ B.drop n
theorem cutTo_length (B : List ByteArray) (n : Nat) : (cutTo B n).length = B.length := by
  unfold cutTo
  rw [List.length_append, List.length_map, ← List.length_append, List.take_append_drop]
theorem cutTo_zero (B : List ByteArray) : cutTo B 0 = B := by simp [cutTo]
theorem cutTo_all {B : List ByteArray} {n : Nat} (h : B.length ≤ n) : cutTo B n = B.map cut := by
  unfold cutTo
  rw [List.take_of_length_le h, List.drop_of_length_le h, List.append_nil]
theorem cutTo_get {B : List ByteArray} {n : Nat} {d : ByteArray} (h : B[n]? = some d) : (cutTo B n)[n]? = some d := by
  have hl := (List.getElem?_eq_some_iff.1 h).1
  unfold cutTo
  rw [List.getElem?_append_right (by simp; omega), List.length_map, List.length_take, Nat.min_eq_left (by omega), Nat.sub_self, List.getElem?_drop, Nat.add_zero, h]
theorem cutTo_succ {B : List ByteArray} {n : Nat} {d : ByteArray} (h : B[n]? = some d) : (cutTo B n).set n (cut d) = cutTo B (n + 1) := by
  have hl := (List.getElem?_eq_some_iff.1 h).1
  unfold cutTo
  rw [List.set_append_right _ _ (by simp; omega), List.length_map, List.length_take, Nat.min_eq_left (by omega), Nat.sub_self, List.take_add_one, h, List.map_append, List.append_assoc]
  congr 1
  rw [List.drop_eq_getElem_cons hl, List.set_cons_zero]
  rw [List.getElem?_eq_getElem hl] at h
  rfl
/-- Blocks in a variable. -/
def Lies (w : World) (g : Nat) (B : List ByteArray) : Prop := w.heap[g]? = some (.cells (strs B).toArray 43 (0, 0))
section
variable {w w' : World} {g : Nat} {B : List ByteArray}
theorem Lies.heap (h : Lies w g B) : w.heap[g]? = some (.cells (strs B).toArray 43 (0, 0)) := h
theorem Lies.lt (h : Lies w g B) : g < w.heap.size := (Array.getElem?_eq_some_iff.1 h).1
theorem Lies.cell (h : Lies w g B) {j : Nat} {d : ByteArray} (hj : B[j]? = some d) : w.cell? ⟨g, j, none⟩ = some (.string d) := by
  rw [cell_of_row w g j _ _ _ h, List.getElem?_toArray, List.getElem?_map, hj]
  rfl
theorem Lies.free (h : Lies w g B) (j : Nat) : w.frozen? ⟨g, j, none⟩ = false := blk_free h j
theorem Lies.drew (h : Lies w g B) : Lies w.drew g B := h
theorem Lies.below (h : Lies w g B) (hb : Below w.heap.size w w') : Lies w' g B := (hb.block g h.lt).trans h
theorem Lies.other (h : Lies w g B) (p : Addr) (v : Value) (hp : p.block ≠ g) : Lies (w.setCell p v) g B := (heap_setCell_other w p g v (Ne.symm hp)).trans h
theorem Lies.set (h : Lies w g B) (j : Nat) (d : ByteArray) : Lies (w.setCell ⟨g, j, none⟩ (.string d)) g (B.set j d) := by
  unfold Lies
  rw [heap_setCell_same w g j _ _ _ h, List.setIfInBounds_toArray]
  simp [strs, List.map_set]
theorem Lies.range (h : Lies w g B) : w.rangeAt g 0 (strs B) := fun j v hv => by
  rw [cell_of_row w g (0 + j) _ _ _ h]
  simpa using hv
theorem Lies.row (h : Lies w g B) (v : Nat) : w.rangeAt g (v * 8) (strs (rw8 B v)) := fun j u hu => by
  rw [cell_of_row w g (v * 8 + j) _ _ _ h, List.getElem?_toArray]
  simp only [strs, rw8, List.map_take, List.map_drop] at hu
  rw [List.getElem?_take] at hu
  split at hu
  · rw [List.getElem?_drop] at hu
    exact hu
  · cases hu
end
theorem rw8_cutTo {B : List ByteArray} (v : Nat) (hl : v * 8 ≤ B.length) : rw8 (cutTo B (v * 8)) v = rw8 B v := by
  unfold rw8 cutTo
  rw [List.drop_append, List.drop_of_length_le (by simp; omega), List.nil_append, List.length_map, List.length_take, Nat.min_eq_left hl, Nat.sub_self, List.drop_zero]
theorem rw8_at {B : List ByteArray} {v i : Nat} (hi : i < 8) : (rw8 B v)[i]? = B[v * 8 + i]? := by
  rw [rw8, List.getElem?_take, if_pos hi, List.getElem?_drop]
theorem run_index_row (X : List Value) (k : Nat) (d : ByteArray) (hk : k < 8) (hb : X[k]? = some (.string d)) (w : World) : (Instr.index 41 (.agg X.toArray) (.int .i64 k)).run Tryz.prog w = .ok (.string d) w := by
  have hg : (isAgg 9).run Tryz.prog w = .ok false w := by
    unfold isAgg
    rw [Sem.run_bind, run_underlying Tryz.underlying9 w]
    rfl
  obtain ⟨j, hj⟩ := Option.isSome_iff_exists.1 str_info
  have hz : (sizeOf 9).run Tryz.prog w = .ok 1 w := by
    have := run_sizeOf w hj
    rw [str_cells] at this
    exact this
  have hp : (part 9 X.toArray k).run Tryz.prog w = .ok (.string d) w := by
    simp only [part, Sem.run_bind, hg, Result.andThen_ok]
    simp [hb]
  simp [Instr.index, asIntOf, run_underlying Tryz.underlying41, hz, hp]
  intro h
  omega
set_option maxRecDepth 100000 in
set_option maxHeartbeats 4000000 in
theorem shortened_any (B : List ByteArray) (hB : B.length = 32) (hM : ∀ d ∈ B, d.size ≤ 1000) (w : World) :
    Calls Tryz.prog 40 #[bval B] w fun e w' => e = .returned (bval (B.map cut)) ∧ Below w.heap.size w w' := by
  have HB := hide hB
  have HM := hide hM
  clear hB hM
  unfold bval
  go_enter Tryz.func40, Tryz.ntmps40
  go_wp2_with (refine wpList_box_told rfl 43 (.tmp 0) rfl _ rfl ?_)
  intro w1 H1
  have L1 := hide (show Lies w1 w.heap.size B by rw [H1.out]; exact heap_alloc_new w _)
  have B1 := hide (show Below w.heap.size w w1 by rw [H1.out]; exact (Below.refl _ _).alloc (Nat.le_refl _) _)
  have hz1 : w.heap.size < w1.heap.size := L1.out.lt
  clear H1
  go_wp2_with (refine wpList_alloc_told rfl 43 rfl _ blks_zero ?_)
  intro w2 H2
  have L2 := hide (show Lies w2 w.heap.size B by rw [H2.out]; exact L1.out.below ((Below.refl _ _).alloc (Nat.le_refl _) _))
  have Z2 := hide (show Lies w2 w1.heap.size emp by rw [H2.out]; exact heap_alloc_new w1 _)
  have B2 := hide (show Below w.heap.size w w2 by rw [H2.out]; exact B1.out.alloc (by omega) _)
  have hne : w.heap.size ≠ w1.heap.size := by omega
  generalize w1.heap.size = z at *
  clear H2 L1 B1
  go_wp2
  go_loopw [6] (fun j wr => ∃ v : Nat, v ≤ 4 ∧ j = .int .i64 v ∧ Hid (Lies wr w.heap.size (cutTo B (v * 8))) ∧ Hid (Lies wr z emp) ∧ Hid (Below w.heap.size w wr)) (fun j _ => 4 - (intOf j).toNat)
  case atStart => exact ⟨0, by omega, rfl, by rw [Nat.zero_mul, cutTo_zero]; exact L2.out, Z2.out, B2.out⟩
  case round =>
    obtain ⟨v, hv, rfl, hl, hz, hb⟩ := hrel
    rcases Nat.lt_or_ge v 4 with hlt | hge
    · have hvi : (v : Int) < 4 := by omega
      have HV := hide hlt
      have HR := hide (show wr.rangeAt w.heap.size (v * 8) (strs (rw8 B v)) by
        have := hl.out.row v
        rwa [rw8_cutTo v (by rw [HB.out]; omega)] at this)
      have HRL := hide (show (strs (rw8 B v)).length = 8 by rw [List.length_map]; exact rw8_length HB.out hlt)
      obtain ⟨X, hX⟩ : ∃ X, X = strs (rw8 B v) := ⟨_, rfl⟩
      have HX := hide hX
      rw [← hX] at HR HRL
      clear hlt hv hX
      go_wp2_with (with_reducible refine wpList_load_mid rfl 41 (.tmp 10) rfl w.heap.size (v * 8) rfl X _ HR.out Tryz.underlying41 rfl (by rw [row_size, HRL.out]) ?_)
      go_loopw [12] (fun j wt => ∃ i : Nat, i ≤ 8 ∧ j = .int .i64 i ∧ Hid (Lies wt w.heap.size (cutTo B (v * 8 + i))) ∧ Hid (Lies wt z emp) ∧ Hid (Below w.heap.size w wt)) (fun j _ => 8 - (intOf j).toNat)
      case atStart => exact ⟨0, by omega, rfl, hl.out, hz.out, hb.out⟩
      case round =>
        clear hl hz hb
        obtain ⟨i, hi, rfl, hl, hz, hb⟩ := hrel
        rcases Nat.lt_or_ge i 8 with hlt | hge
        · have hii : (i : Int) < 8 := by omega
          have HI := hide hlt
          obtain ⟨d, hd⟩ : ∃ d, B[v * 8 + i]? = some d := ⟨_, List.getElem?_eq_getElem (by have := HV.out; rw [HB.out]; omega)⟩
          have hs := HM.out d (List.mem_of_getElem? hd)
          have hx : X[i]? = some (.string d) := by rw [HX.out, List.getElem?_map, rw8_at hlt, hd]; rfl
          have hix := fun W => run_index_row X i d hlt hx W
          have hc := hl.out.drew.cell (cutTo_get hd)
          have hf := hl.out.drew.free (v * 8 + i)
          have HD := hide hd
          have hm1 : (0 : Int) ≤ min (d.size : Int) 16 := by omega
          have hm2 : min (d.size : Int) 16 ≤ (d.size : Int) := by omega
          have hm3 : d.extract 0 (min (d.size : Int) 16).toNat = cut d := by rw [show (min (d.size : Int) 16).toNat = min d.size 16 by omega]; rfl
          have hv4 : (v : Int) < 4 := hvi
          clear hlt hi hd hx
          go_wp2_with fail
          refine wp_region_held (S := (fun W => True)) (by kernel_rfl) ?_
          change wpAnyH _ _ _ _ _ _ _ _ (World.drew _)
          refine wpAnyH_take (i := 0) (oi := ⟨some 16, _, _, _, _, _⟩) (v := ?_) rfl (by kernel_rfl) (by kernel_rfl) (by kernel_rfl) (fun _ _ _ h => h) (Or.inl ⟨by rfl, ?_⟩) trivial ?_
          rotate_left 1
          · (intro w hSw; have hSw1 := hSw; go_simp; try with_reducible rfl)
          simp only [Act.put, List.setIfInBounds_toArray, List.set_cons_zero, List.set_cons_succ]
          refine wpAnyH_take (i := 1) (oi := ⟨some 17, _, _, _, _, _⟩) (v := ?_) rfl (by kernel_rfl) (by kernel_rfl) (by kernel_rfl) (fun _ _ _ h => h) (Or.inl ⟨by rfl, ?_⟩) trivial ?_
          rotate_left 1
          · (intro w hSw; have hSw1 := hSw; go_simp; try with_reducible rfl)
          simp only [Act.put, List.setIfInBounds_toArray, List.set_cons_zero, List.set_cons_succ]
          refine wpAnyH_take (i := 2) (oi := ⟨some 18, _, _, _, _, _⟩) (v := ?_) rfl (by kernel_rfl) (by kernel_rfl) (by kernel_rfl) (fun _ _ _ h => h) (Or.inl ⟨by rfl, ?_⟩) trivial ?_
          rotate_left 1
          · (intro w hSw; have hSw1 := hSw; go_simp; try with_reducible rfl)
          simp only [Act.put, List.setIfInBounds_toArray, List.set_cons_zero, List.set_cons_succ]
          refine wpAnyH_take (i := 3) (oi := ⟨some 19, _, _, _, _, _⟩) (v := ?_) rfl (by kernel_rfl) (by kernel_rfl) (by kernel_rfl) (fun _ _ _ h => h) (Or.inl ⟨by rfl, ?_⟩) trivial ?_
          rotate_left 1
          · (intro w hSw; have hSw1 := hSw; go_simp; try with_reducible rfl)
          simp only [Act.put, List.setIfInBounds_toArray, List.set_cons_zero, List.set_cons_succ]
          refine wpAnyH_take (i := 4) (oi := ⟨some 20, _, _, _, _, _⟩) (v := ?_) rfl (by kernel_rfl) (by kernel_rfl) (by kernel_rfl) (fun _ _ _ h => h) (Or.inl ⟨by rfl, ?_⟩) trivial ?_
          rotate_left 1
          · (intro w hSw; have hSw1 := hSw; go_simp; try with_reducible rfl)
          simp only [Act.put, List.setIfInBounds_toArray, List.set_cons_zero, List.set_cons_succ]
          refine wpAnyH_take (i := 5) (oi := ⟨some 21, _, _, _, _, _⟩) (v := ?_) rfl (by kernel_rfl) (by kernel_rfl) (by kernel_rfl) (fun _ _ _ h => h) (Or.inl ⟨by rfl, ?_⟩) trivial ?_
          rotate_left 1
          · (intro w hSw; have hSw1 := hSw; go_simp; try with_reducible rfl)
          simp only [Act.put, List.setIfInBounds_toArray, List.set_cons_zero, List.set_cons_succ]
          refine wpAnyH_take (i := 6) (oi := ⟨some 22, _, _, _, _, _⟩) (v := ?_) rfl (by kernel_rfl) (by kernel_rfl) (by kernel_rfl) (fun _ _ _ h => h) (Or.inl ⟨by rfl, ?_⟩) trivial ?_
          rotate_left 1
          · (intro w hSw; have hSw1 := hSw; go_simp; try with_reducible rfl)
          simp only [Act.put, List.setIfInBounds_toArray, List.set_cons_zero, List.set_cons_succ]
          refine wpAnyH_take (i := 7) (oi := ⟨some 23, _, _, _, _, _⟩) (v := ?_) rfl (by kernel_rfl) (by kernel_rfl) (by kernel_rfl) (fun _ _ _ h => h) (Or.inl ⟨by rfl, ?_⟩) trivial ?_
          rotate_left 1
          · (intro w hSw; have hSw1 := hSw; go_simp; try with_reducible rfl)
          simp only [Act.put, List.setIfInBounds_toArray, List.set_cons_zero, List.set_cons_succ]
          refine wpAnyH_take (i := 8) (oi := ⟨some 24, _, _, _, _, _⟩) (v := ?_) rfl (by kernel_rfl) (by kernel_rfl) (by kernel_rfl) (fun _ _ _ h => h) (Or.inl ⟨by rfl, ?_⟩) trivial ?_
          rotate_left 1
          · (intro w hSw; have hSw1 := hSw; go_simp; try with_reducible rfl)
          simp only [Act.put, List.setIfInBounds_toArray, List.set_cons_zero, List.set_cons_succ]
          refine wpAnyH_ready (rs := [9]) (by kernel_rfl) (by simp) ?_
          refine AllReadyH.cons (o := ⟨none, _, _, _, _, _⟩) rfl (fun K hK => ?_) AllReadyH.nil
          go_simp
          refine hK.out _ _ trivial (fun hHeld => ?_)
          clear hK K
          clear hHeld
          refine wpAnyH_done (by kernel_rfl) ?_ _
          skip
          have HL5 := hide (show Lies (wr.setCell ⟨w.heap.size, v * 8 + i, none⟩ (.string (cut d))).drew w.heap.size (cutTo B (v * 8 + (i + 1))) by
            have := hl.out.set (v * 8 + i) (cut d)
            rw [cutTo_succ HD.out] at this
            exact this)
          have HZ5 := hide (hz.out.other ⟨w.heap.size, v * 8 + i, none⟩ (.string (cut d)) (by simpa using hne)).drew
          have HB5 := hide (hb.out.setCell (p := ⟨w.heap.size, v * 8 + i, none⟩) (Nat.le_refl _) (.string (cut d))).drew
          clear hc hf hix hm1 hm2 hm3 hl hz hb
          generalize (wr.setCell _ _).drew = w6 at *
          go_wp2
          go_roundw
          case rel => exact ⟨i + 1, by have := HI.out; omega, by go_num, HL5.out, HZ5.out, HB5.out⟩
          case measure => have := HI.out; simp [intOf]; omega
        · obtain rfl : i = 8 := by omega
          have HL5 := hide (show Lies wr w.heap.size (cutTo B ((v + 1) * 8)) by rw [show (v + 1) * 8 = v * 8 + 8 by omega]; exact hl.out)
          clear hl
          go_wp2
          go_roundw
          case rel => exact ⟨v + 1, by have := HV.out; omega, by go_num, HL5.out, hz.out, hb.out⟩
          case measure => have := HV.out; simp [intOf]; omega
    · obtain rfl : v = 4 := by omega
      obtain ⟨M, hM⟩ : ∃ M, M = B.map cut := ⟨_, rfl⟩
      have HMM := hide hM
      have hML : M.length = 32 := by rw [hM, List.length_map, HB.out]
      have HL5 := hide (show Lies wr w.heap.size M by
        rw [hM]
        have := hl.out
        rw [cutTo_all (by rw [HB.out]; omega)] at this
        exact this)
      have HR := hide HL5.out.range
      have HRL := hide (show (strs M).length = 32 by rw [List.length_map, hML])
      clear hl hge hv hM hML
      go_wp2_with (first | with_reducible refine wpList_load_mid rfl 43 (.tmp 1) rfl w.heap.size 0 rfl (strs M) _ HR.out Tryz.underlying43 rfl (by rw [blks_size, HRL.out]) ?_ | with_reducible refine wpList_store_row rfl 43 (.tmp 2) (.tmp 27) rfl z (strs M).toArray rfl rfl 43 _ hz.out.heap (by rw [blks_size, List.size_toArray, HRL.out]) (by rw [List.size_toArray, List.size_toArray, HRL.out]; simp) (all_oneCell_toArray (strs_one _)) ?_)
      refine bodyPost_ret (v := .agg (strs M).toArray) (results_cell_row rfl _ _ z 43 _ (0, 0) _ rfl (setRow_heap _ _ _ _ _ _ hz.out.heap) Tryz.underlying43 rfl (by rw [blks_size, List.size_toArray, HRL.out])) rfl ⟨by rw [HMM.out], below_setRow hb.out (by omega) _⟩

end Go.Proofs.YtnmpckhlpkmojaaGreatDoor.Im

/-
  The contract of the image's Begin: an update is begun; or the fault image, with the marker, around ErrState if one is in progress, ErrArg if a block or the marker is too great, ErrStale if the marker is not newer. Nothing but the image's own struct is changed.
-/
namespace Go.Proofs.YtnmpckhlpkmojaaGreatDoor.Im
open Go.RowKit
open Pk Sm Fa Rc Dk Wn Lk
open Jn (NumN clampN zer zer_no)

theorem yields_blks {ops : Array Oper} {C : World → Prop} {op : Oper} {a : Act} (hw : Region.wanted op (yielded ops a.tmps) = true) (x : Operand) (ho : op.op = .load 43 x)
    (b : Nat) (hx : a.eval x = .pointer (some ⟨b, 0, none⟩)) (T : List ByteArray) (hT : T.length = 32) (hS : ∀ w, C w → Lies w b T) : YieldsIf Tryz.prog ops C op (bval T) a :=
  yieldsIf_load_mid hw 43 x ho b 0 hx (strs T) _ (fun w h => (hS w h).range) Tryz.underlying43 rfl (by rw [blks_size, List.length_map, hT])
theorem as_map {B : List ByteArray} (h : B.length = 32) : ∃ f : Nat → ByteArray, B = (List.range 32).map f := by
  refine ⟨fun j => B.getD j ⟨#[]⟩, ?_⟩
  refine same_of h (by simp) fun j hj => ?_
  simp [List.getD_eq_getElem?_getD, hj]
theorem built_state (f : Nat → ByteArray) (t m : Int) : Tryz.prog.built 77 [(0, .agg #[.int .i64 t, .int .i64 m]), (1, .agg (strs ((List.range 32).map f)).toArray)] = some (.int .i64 t :: .int .i64 m :: strs ((List.range 32).map f)).toArray := by kernel_rfl
theorem run_state (B : List ByteArray) (hB : B.length = 32) (t m : Int) (w : World) : (Instr.build 77 #[(0, .agg #[.int .i64 t, .int .i64 m]), (1, .agg (strs B).toArray)]).run Tryz.prog w = .ok (.agg (.int .i64 t :: .int .i64 m :: strs B).toArray) w := by
  obtain ⟨f, rfl⟩ := as_map hB
  exact run_build w _ _ _ (built_state f t m)
theorem yields_state {ops : Array Oper} {C : World → Prop} {op : Oper} {a : Act} (hw : Region.wanted op (yielded ops a.tmps) = true) (x y : Operand) (ho : op.op = .build 77 #[(0, x), (1, y)])
    (t m : Int) (B : List ByteArray) (hB : B.length = 32) (hx : a.eval x = .agg #[.int .i64 t, .int .i64 m]) (hy : a.eval y = bval B) : YieldsIf Tryz.prog ops C op (.agg (.int .i64 t :: .int .i64 m :: strs B).toArray) a :=
  .inl ⟨hw, fun w _ => by
    have hr := run_state B hB t m w
    unfold execOp
    simp only [ho, List.map_toArray, List.map_cons, List.map_nil, hx, hy, Sem.run_bind, hr, Result.andThen_ok, Sem.run_pure]⟩
/-- A fault of the image's. -/
def ImErr (w : World) (r k : Int) (e : Ending) (w' : World) : Prop := ∃ pp, e = .returned (.iface 120 (.pointer (some ⟨pp, 0, none⟩))) ∧ Flt w' pp r k ∧ Below w.heap.size w w'
section
variable {w0 w : World} {Ts : List Thg} {b p q k : Nat} {i n : Img}
theorem St.img_row (h : St w0 Ts w) (hb : Ts[b]? = some (imgT p q i n k)) (i' n' : Img) (k' : Nat) : St w0 (Ts.set b (imgT p q i' n' k')) (w.setRow p (ics q i' n' k')) := by
  obtain ⟨G, hp, _, hs⟩ := St.opened h hb
  exact hs _ _ (Blk.row_set hp)
theorem Begin_nil (B : List ByteArray) (m : Int) (w : World) : Calls Tryz.prog 15 #[.pointer none, bval B, .int .i64 m] w fun e w' => ImErr w 0 11 e w' := by
  unfold bval
  have hb := (Below.refl w.heap.size w).alloc (Nat.le_refl _) (.cells (strs B).toArray 43)
  have HB1 := hide hb
  clear hb
  go_enter Tryz.func15, Tryz.ntmps15
  go_wp2_with (refine wpList_box_told rfl 43 (.tmp 1) rfl _ rfl ?_)
  intro w1 H1
  rw [← H1.out] at HB1
  clear H1
  go_wp2_with fail
  refine (failed_any 0 11 w1 rfl).mono ?_
  rintro r w2 ⟨pp, rfl, hf, hb⟩
  have HF := hide hf
  have HB := hide (HB1.out.trans (hb.mono HB1.out.size))
  clear hf hb HB1
  go_wp2
  go_ret
  exact ⟨pp, rfl, HF.out, HB.out⟩
set_option maxRecDepth 100000 in
set_option maxHeartbeats 2000000 in
theorem Begin_busy (h : St w0 Ts w) (hb : Ts[b]? = some (imgT p q i n k)) (hz : Sz i n) (B : List ByteArray) (hB : B.length = 32) (hM : ∀ d ∈ B, d.size ≤ 1000) (m : Int) (hn : 0 < n.t) :
    Calls Tryz.prog 15 #[.pointer (some ⟨p, 0, none⟩), bval B, .int .i64 m] w fun e w' => ImErr w m 9 e w' := by
  have hib := St.ib h hb
  have HIB0 := hide hib
  have HPW := hide (show p < w.heap.size from hib.lt)
  have HZ := hide hz
  have HS := hide h
  have HBI := hide hb
  have HB := hide hB
  have HM := hide hM
  have HN := hide hn
  clear hn
  clear h hb hz hB hM hib
  unfold bval
  go_enter Tryz.func15, Tryz.ntmps15
  go_wp2_with (refine wpList_box_told rfl 43 (.tmp 1) rfl _ rfl ?_)
  intro w1 H1
  have HB1 := hide (show Below w.heap.size w w1 by rw [H1.out]; exact (Below.refl _ _).alloc (Nat.le_refl _) _)
  have HL1 := hide (show Lies w1 w.heap.size B by rw [H1.out]; exact heap_alloc_new w _)
  have HS1 := hide (HS.out.below HB1.out)
  have HIB1 := hide (HIB0.out.below HB1.out)
  clear H1 HS HIB0
  go_wp2_with fail
  refine (Busy_any HIB1.out HZ.out true (decide_eq_true HN.out)).mono ?_
  rintro r w2 ⟨rfl, rfl⟩
  go_wp2_with fail
  refine (failed_any m 9 w1 rfl).mono ?_
  rintro r w5 ⟨pp, rfl, hf, hb⟩
  have HF := hide hf
  have HBB := hide (HB1.out.trans (hb.mono HB1.out.size))
  clear hf hb
  go_wp2
  go_ret
  exact ⟨pp, rfl, HF.out, HBB.out⟩
set_option maxRecDepth 100000 in
set_option maxHeartbeats 2000000 in
theorem Begin_long (h : St w0 Ts w) (hb : Ts[b]? = some (imgT p q i im0 k)) (hz : Sz i im0) (B : List ByteArray) (hB : B.length = 32) (hM : ∀ d ∈ B, d.size ≤ 1000) (m : Int) (hl : ¬ ∀ d ∈ B, d.size ≤ 16) :
    Calls Tryz.prog 15 #[.pointer (some ⟨p, 0, none⟩), bval B, .int .i64 m] w fun e w' => ImErr w m 1 e w' := by
  have hib := St.ib h hb
  have HIB0 := hide hib
  have HPW := hide (show p < w.heap.size from hib.lt)
  have HZ := hide hz
  have HS := hide h
  have HBI := hide hb
  have HB := hide hB
  have HM := hide hM
  have HL := hide hl
  clear hl
  clear h hb hz hB hM hib
  unfold bval
  go_enter Tryz.func15, Tryz.ntmps15
  go_wp2_with (refine wpList_box_told rfl 43 (.tmp 1) rfl _ rfl ?_)
  intro w1 H1
  have HB1 := hide (show Below w.heap.size w w1 by rw [H1.out]; exact (Below.refl _ _).alloc (Nat.le_refl _) _)
  have HL1 := hide (show Lies w1 w.heap.size B by rw [H1.out]; exact heap_alloc_new w _)
  have HS1 := hide (HS.out.below HB1.out)
  have HIB1 := hide (HIB0.out.below HB1.out)
  clear H1 HS HIB0
  go_wp2_with fail
  refine (Busy_any HIB1.out HZ.out false (decide_eq_false (Nat.lt_irrefl 0))).mono ?_
  rintro r w2 ⟨rfl, rfl⟩
  obtain ⟨M, hM⟩ : ∃ M, M = B.map cut := ⟨_, rfl⟩
  have HSH := hide (fun W => shortened_any B HB.out HM.out W)
  rw [← hM] at HSH
  have HMM := hide hM
  have hneq := fun W => blks_neq B M HB.out (by rw [hM, List.length_map]; exact HB.out) true (show (!decide (B = M)) = true by rw [Bool.not_eq_true', decide_eq_false_iff_not, hM]; intro e; exact HL.out (map_cut.1 e)) W
  have heqg := fun o x y W => blks_eqg o x y B M W
  have hl1 := HL1.out.drew
  clear hM
  go_wp2_with fail
  refine wp_region_held (S := (fun W => Lies W w.heap.size B)) (by kernel_rfl) ?_
  change wpAnyH _ _ _ _ _ _ _ _ (World.drew _)
  refine wpAnyH_take (i := 0) (oi := ⟨some 17, _, _, _, _, _⟩) (v := bval B) rfl (by kernel_rfl) (by kernel_rfl) (by kernel_rfl) (fun _ _ _ h => h) (yields_blks (by rfl) (.tmp 4) rfl w.heap.size rfl B HB.out (fun w hw => hw)) hl1 ?_
  simp only [Act.put, List.setIfInBounds_toArray, List.set_cons_zero, List.set_cons_succ]
  refine wpAnyH_take (i := 1) (oi := ⟨some 18, _, _, _, _, _⟩) (v := bval B) rfl (by kernel_rfl) (by kernel_rfl) (by kernel_rfl) (fun _ _ _ h => h) (yields_blks (by rfl) (.tmp 4) rfl w.heap.size rfl B HB.out (fun w hw => hw)) hl1 ?_
  simp only [Act.put, List.setIfInBounds_toArray, List.set_cons_zero, List.set_cons_succ]
  refine wpAnyH_ready (rs := [2]) (by kernel_rfl) (by simp) ?_
  refine AllReadyH.cons (o := ⟨some 19, _, _, _, _, _⟩) rfl (fun K hK => ?_) AllReadyH.nil
  go_simp
  refine (HSH.out _).mono ?_
  rintro r w2 ⟨rfl, hb2⟩
  have hl2 := hl1.below hb2
  have HS2 := hide (HS1.out.drew.below hb2)
  have HB2 := hide (HB1.out.drew.trans (hb2.mono HB1.out.drew.size))
  clear hb2 HSH
  refine hK.out _ _ hl2 (fun hHeld => ?_)
  clear hK K
  clear hHeld
  refine wpAnyH_take (i := 3) (oi := ⟨some 20, _, _, _, _, _⟩) (v := ?_) rfl (by kernel_rfl) (by kernel_rfl) (by kernel_rfl) (fun _ _ _ h => h) (Or.inl ⟨by rfl, ?_⟩) hl2 ?_
  rotate_left 1
  · (intro w hSw; clear hSw; go_simp; try with_reducible rfl)
  simp only [Act.put, List.setIfInBounds_toArray, List.set_cons_zero, List.set_cons_succ]
  refine wpAnyH_take (i := 4) (oi := ⟨some 16, _, _, _, _, _⟩) (v := ?_) rfl (by kernel_rfl) (by kernel_rfl) (by kernel_rfl) (fun _ _ _ h => h) (Or.inl ⟨by rfl, ?_⟩) hl2 ?_
  rotate_left 1
  · (intro w hSw; clear hSw; go_simp; try with_reducible rfl)
  simp only [Act.put, List.setIfInBounds_toArray, List.set_cons_zero, List.set_cons_succ]
  refine wpAnyH_done (by kernel_rfl) ?_ _
  skip
  clear hl1 hneq heqg HS1 HB1
  go_wp2_with fail
  refine (failed_any m 1 w2 rfl).mono ?_
  rintro r w5 ⟨pp, rfl, hf, hb⟩
  have HF := hide hf
  have HBB := hide (HB2.out.trans (hb.mono HB2.out.size))
  clear hf hb
  go_wp2
  go_ret
  exact ⟨pp, rfl, HF.out, HBB.out⟩
set_option maxRecDepth 100000 in
set_option maxHeartbeats 2000000 in
theorem Begin_great (h : St w0 Ts w) (hb : Ts[b]? = some (imgT p q i im0 k)) (hz : Sz i im0) (B : List ByteArray) (hB : B.length = 32) (hM : ∀ d ∈ B, d.size ≤ 1000) (m : Int) (hl : ∀ d ∈ B, d.size ≤ 16) (hm : 1152921504606846975 < m) :
    Calls Tryz.prog 15 #[.pointer (some ⟨p, 0, none⟩), bval B, .int .i64 m] w fun e w' => ImErr w m 1 e w' := by
  have hib := St.ib h hb
  have HIB0 := hide hib
  have HPW := hide (show p < w.heap.size from hib.lt)
  have HZ := hide hz
  have HS := hide h
  have HBI := hide hb
  have HB := hide hB
  have HM := hide hM
  have HL := hide hl
  clear hl
  clear h hb hz hB hM hib
  unfold bval
  go_enter Tryz.func15, Tryz.ntmps15
  go_wp2_with (refine wpList_box_told rfl 43 (.tmp 1) rfl _ rfl ?_)
  intro w1 H1
  have HB1 := hide (show Below w.heap.size w w1 by rw [H1.out]; exact (Below.refl _ _).alloc (Nat.le_refl _) _)
  have HL1 := hide (show Lies w1 w.heap.size B by rw [H1.out]; exact heap_alloc_new w _)
  have HS1 := hide (HS.out.below HB1.out)
  have HIB1 := hide (HIB0.out.below HB1.out)
  clear H1 HS HIB0
  go_wp2_with fail
  refine (Busy_any HIB1.out HZ.out false (decide_eq_false (Nat.lt_irrefl 0))).mono ?_
  rintro r w2 ⟨rfl, rfl⟩
  obtain ⟨M, hM⟩ : ∃ M, M = B.map cut := ⟨_, rfl⟩
  have HSH := hide (fun W => shortened_any B HB.out HM.out W)
  rw [← hM] at HSH
  have HMM := hide hM
  have hneq := fun W => blks_neq B M HB.out (by rw [hM, List.length_map]; exact HB.out) false (show (!decide (B = M)) = false by rw [Bool.not_eq_false', decide_eq_true_eq, hM]; exact map_cut.2 HL.out) W
  have heqg := fun o x y W => blks_eqg o x y B M W
  have hl1 := HL1.out.drew
  clear hM
  go_wp2_with fail
  refine wp_region_held (S := (fun W => Lies W w.heap.size B)) (by kernel_rfl) ?_
  change wpAnyH _ _ _ _ _ _ _ _ (World.drew _)
  refine wpAnyH_take (i := 0) (oi := ⟨some 17, _, _, _, _, _⟩) (v := bval B) rfl (by kernel_rfl) (by kernel_rfl) (by kernel_rfl) (fun _ _ _ h => h) (yields_blks (by rfl) (.tmp 4) rfl w.heap.size rfl B HB.out (fun w hw => hw)) hl1 ?_
  simp only [Act.put, List.setIfInBounds_toArray, List.set_cons_zero, List.set_cons_succ]
  refine wpAnyH_take (i := 1) (oi := ⟨some 18, _, _, _, _, _⟩) (v := bval B) rfl (by kernel_rfl) (by kernel_rfl) (by kernel_rfl) (fun _ _ _ h => h) (yields_blks (by rfl) (.tmp 4) rfl w.heap.size rfl B HB.out (fun w hw => hw)) hl1 ?_
  simp only [Act.put, List.setIfInBounds_toArray, List.set_cons_zero, List.set_cons_succ]
  refine wpAnyH_ready (rs := [2]) (by kernel_rfl) (by simp) ?_
  refine AllReadyH.cons (o := ⟨some 19, _, _, _, _, _⟩) rfl (fun K hK => ?_) AllReadyH.nil
  go_simp
  refine (HSH.out _).mono ?_
  rintro r w2 ⟨rfl, hb2⟩
  have hl2 := hl1.below hb2
  have HS2 := hide (HS1.out.drew.below hb2)
  have HB2 := hide (HB1.out.drew.trans (hb2.mono HB1.out.drew.size))
  clear hb2 HSH
  refine hK.out _ _ hl2 (fun hHeld => ?_)
  clear hK K
  clear hHeld
  refine wpAnyH_take (i := 3) (oi := ⟨some 20, _, _, _, _, _⟩) (v := ?_) rfl (by kernel_rfl) (by kernel_rfl) (by kernel_rfl) (fun _ _ _ h => h) (Or.inl ⟨by rfl, ?_⟩) hl2 ?_
  rotate_left 1
  · (intro w hSw; clear hSw; go_simp; try with_reducible rfl)
  simp only [Act.put, List.setIfInBounds_toArray, List.set_cons_zero, List.set_cons_succ]
  refine wpAnyH_take (i := 4) (oi := ⟨some 16, _, _, _, _, _⟩) (v := ?_) rfl (by kernel_rfl) (by kernel_rfl) (by kernel_rfl) (fun _ _ _ h => h) (Or.inl ⟨by rfl, ?_⟩) hl2 ?_
  rotate_left 1
  · (intro w hSw; clear hSw; go_simp; try with_reducible rfl)
  simp only [Act.put, List.setIfInBounds_toArray, List.set_cons_zero, List.set_cons_succ]
  refine wpAnyH_done (by kernel_rfl) ?_ _
  skip
  clear hl1 hneq heqg HS1 HB1
  go_wp2_with fail
  refine (failed_any m 1 w2 rfl).mono ?_
  rintro r w5 ⟨pp, rfl, hf, hb⟩
  have HF := hide hf
  have HBB := hide (HB2.out.trans (hb.mono HB2.out.size))
  clear hf hb
  go_wp2
  go_ret
  exact ⟨pp, rfl, HF.out, HBB.out⟩
set_option maxRecDepth 100000 in
set_option maxHeartbeats 2000000 in
theorem Begin_stale (h : St w0 Ts w) (hb : Ts[b]? = some (imgT p q i im0 k)) (hz : Sz i im0) (B : List ByteArray) (hB : B.length = 32) (hM : ∀ d ∈ B, d.size ≤ 1000) (m : Int) (hl : ∀ d ∈ B, d.size ≤ 16) (hm : ¬ 1152921504606846975 < m) (hs : m ≤ (i.m : Int)) :
    Calls Tryz.prog 15 #[.pointer (some ⟨p, 0, none⟩), bval B, .int .i64 m] w fun e w' => ImErr w m 10 e w' := by
  have hib := St.ib h hb
  have HIB0 := hide hib
  have HPW := hide (show p < w.heap.size from hib.lt)
  have HZ := hide hz
  have HS := hide h
  have HBI := hide hb
  have HB := hide hB
  have HM := hide hM
  have HL := hide hl
  clear hl
  clear h hb hz hB hM hib
  unfold bval
  go_enter Tryz.func15, Tryz.ntmps15
  go_wp2_with (refine wpList_box_told rfl 43 (.tmp 1) rfl _ rfl ?_)
  intro w1 H1
  have HB1 := hide (show Below w.heap.size w w1 by rw [H1.out]; exact (Below.refl _ _).alloc (Nat.le_refl _) _)
  have HL1 := hide (show Lies w1 w.heap.size B by rw [H1.out]; exact heap_alloc_new w _)
  have HS1 := hide (HS.out.below HB1.out)
  have HIB1 := hide (HIB0.out.below HB1.out)
  clear H1 HS HIB0
  go_wp2_with fail
  refine (Busy_any HIB1.out HZ.out false (decide_eq_false (Nat.lt_irrefl 0))).mono ?_
  rintro r w2 ⟨rfl, rfl⟩
  obtain ⟨M, hM⟩ : ∃ M, M = B.map cut := ⟨_, rfl⟩
  have HSH := hide (fun W => shortened_any B HB.out HM.out W)
  rw [← hM] at HSH
  have HMM := hide hM
  have hneq := fun W => blks_neq B M HB.out (by rw [hM, List.length_map]; exact HB.out) false (show (!decide (B = M)) = false by rw [Bool.not_eq_false', decide_eq_true_eq, hM]; exact map_cut.2 HL.out) W
  have heqg := fun o x y W => blks_eqg o x y B M W
  have hl1 := HL1.out.drew
  clear hM
  go_wp2_with fail
  refine wp_region_held (S := (fun W => Lies W w.heap.size B)) (by kernel_rfl) ?_
  change wpAnyH _ _ _ _ _ _ _ _ (World.drew _)
  refine wpAnyH_take (i := 0) (oi := ⟨some 17, _, _, _, _, _⟩) (v := bval B) rfl (by kernel_rfl) (by kernel_rfl) (by kernel_rfl) (fun _ _ _ h => h) (yields_blks (by rfl) (.tmp 4) rfl w.heap.size rfl B HB.out (fun w hw => hw)) hl1 ?_
  simp only [Act.put, List.setIfInBounds_toArray, List.set_cons_zero, List.set_cons_succ]
  refine wpAnyH_take (i := 1) (oi := ⟨some 18, _, _, _, _, _⟩) (v := bval B) rfl (by kernel_rfl) (by kernel_rfl) (by kernel_rfl) (fun _ _ _ h => h) (yields_blks (by rfl) (.tmp 4) rfl w.heap.size rfl B HB.out (fun w hw => hw)) hl1 ?_
  simp only [Act.put, List.setIfInBounds_toArray, List.set_cons_zero, List.set_cons_succ]
  refine wpAnyH_ready (rs := [2]) (by kernel_rfl) (by simp) ?_
  refine AllReadyH.cons (o := ⟨some 19, _, _, _, _, _⟩) rfl (fun K hK => ?_) AllReadyH.nil
  go_simp
  refine (HSH.out _).mono ?_
  rintro r w2 ⟨rfl, hb2⟩
  have hl2 := hl1.below hb2
  have HS2 := hide (HS1.out.drew.below hb2)
  have HB2 := hide (HB1.out.drew.trans (hb2.mono HB1.out.drew.size))
  clear hb2 HSH
  refine hK.out _ _ hl2 (fun hHeld => ?_)
  clear hK K
  clear hHeld
  refine wpAnyH_take (i := 3) (oi := ⟨some 20, _, _, _, _, _⟩) (v := ?_) rfl (by kernel_rfl) (by kernel_rfl) (by kernel_rfl) (fun _ _ _ h => h) (Or.inl ⟨by rfl, ?_⟩) hl2 ?_
  rotate_left 1
  · (intro w hSw; clear hSw; go_simp; try with_reducible rfl)
  simp only [Act.put, List.setIfInBounds_toArray, List.set_cons_zero, List.set_cons_succ]
  refine wpAnyH_take (i := 4) (oi := ⟨some 16, _, _, _, _, _⟩) (v := ?_) rfl (by kernel_rfl) (by kernel_rfl) (by kernel_rfl) (fun _ _ _ h => h) (Or.inl ⟨by rfl, ?_⟩) hl2 ?_
  rotate_left 1
  · (intro w hSw; clear hSw; go_simp; try with_reducible rfl)
  simp only [Act.put, List.setIfInBounds_toArray, List.set_cons_zero, List.set_cons_succ]
  refine wpAnyH_done (by kernel_rfl) ?_ _
  skip
  clear hl1 hneq heqg HS1 HB1
  have HIB2 := hide (St.ib HS2.out HBI.out)
  go_wp2_with fail
  refine (Mark_any HIB2.out).mono ?_
  rintro r w4 ⟨rfl, rfl⟩
  go_wp2_with fail
  refine (failed_any m 10 w2 rfl).mono ?_
  rintro r w5 ⟨pp, rfl, hf, hb⟩
  have HF := hide hf
  have HBB := hide (HB2.out.trans (hb.mono HB2.out.size))
  clear hf hb
  go_wp2
  go_ret
  exact ⟨pp, rfl, HF.out, HBB.out⟩
set_option maxRecDepth 100000 in
set_option maxHeartbeats 2000000 in
theorem Begin_ok (h : St w0 Ts w) (hb : Ts[b]? = some (imgT p q i im0 k)) (hz : Sz i im0) (B : List ByteArray) (hB : B.length = 32) (hM : ∀ d ∈ B, d.size ≤ 1000) (m : Int) (hl : ∀ d ∈ B, d.size ≤ 16) (mk : Nat) (hmk : m = (mk : Int)) (hm : mk ≤ 1152921504606846975) (hs : i.m < mk) (ht : i.t ≤ 1152921504606846975) :
    Calls Tryz.prog 15 #[.pointer (some ⟨p, 0, none⟩), bval B, .int .i64 m] w fun e w' => e = .returned .nilIface ∧ St w0 (Ts.set b (imgT p q i ⟨i.t + 1, mk, B⟩ k)) w' := by
  subst hmk
  have hm1 : ¬ (1152921504606846975 : Int) < (mk : Int) := by omega
  have hm2 : ¬ (mk : Int) ≤ (i.m : Int) := by omega
  obtain ⟨t1, ht1⟩ : ∃ t1, t1 = i.t + 1 := ⟨_, rfl⟩
  have htI : (i.t : Int) + 1 = (t1 : Int) := by omega
  rw [← ht1]
  clear hs hm ht1
  have hib := St.ib h hb
  have HIB0 := hide hib
  have HPW := hide (show p < w.heap.size from hib.lt)
  have HZ := hide hz
  have HS := hide h
  have HBI := hide hb
  have HB := hide hB
  have HM := hide hM
  have HL := hide hl
  clear hl
  clear h hb hz hB hM hib
  unfold bval
  go_enter Tryz.func15, Tryz.ntmps15
  go_wp2_with (refine wpList_box_told rfl 43 (.tmp 1) rfl _ rfl ?_)
  intro w1 H1
  have HB1 := hide (show Below w.heap.size w w1 by rw [H1.out]; exact (Below.refl _ _).alloc (Nat.le_refl _) _)
  have HL1 := hide (show Lies w1 w.heap.size B by rw [H1.out]; exact heap_alloc_new w _)
  have HS1 := hide (HS.out.below HB1.out)
  have HIB1 := hide (HIB0.out.below HB1.out)
  clear H1 HS HIB0
  go_wp2_with fail
  refine (Busy_any HIB1.out HZ.out false (decide_eq_false (Nat.lt_irrefl 0))).mono ?_
  rintro r w2 ⟨rfl, rfl⟩
  obtain ⟨M, hM⟩ : ∃ M, M = B.map cut := ⟨_, rfl⟩
  have HSH := hide (fun W => shortened_any B HB.out HM.out W)
  rw [← hM] at HSH
  have HMM := hide hM
  have hneq := fun W => blks_neq B M HB.out (by rw [hM, List.length_map]; exact HB.out) false (show (!decide (B = M)) = false by rw [Bool.not_eq_false', decide_eq_true_eq, hM]; exact map_cut.2 HL.out) W
  have heqg := fun o x y W => blks_eqg o x y B M W
  have hl1 := HL1.out.drew
  clear hM
  go_wp2_with fail
  refine wp_region_held (S := (fun W => Lies W w.heap.size B)) (by kernel_rfl) ?_
  change wpAnyH _ _ _ _ _ _ _ _ (World.drew _)
  refine wpAnyH_take (i := 0) (oi := ⟨some 17, _, _, _, _, _⟩) (v := bval B) rfl (by kernel_rfl) (by kernel_rfl) (by kernel_rfl) (fun _ _ _ h => h) (yields_blks (by rfl) (.tmp 4) rfl w.heap.size rfl B HB.out (fun w hw => hw)) hl1 ?_
  simp only [Act.put, List.setIfInBounds_toArray, List.set_cons_zero, List.set_cons_succ]
  refine wpAnyH_take (i := 1) (oi := ⟨some 18, _, _, _, _, _⟩) (v := bval B) rfl (by kernel_rfl) (by kernel_rfl) (by kernel_rfl) (fun _ _ _ h => h) (yields_blks (by rfl) (.tmp 4) rfl w.heap.size rfl B HB.out (fun w hw => hw)) hl1 ?_
  simp only [Act.put, List.setIfInBounds_toArray, List.set_cons_zero, List.set_cons_succ]
  refine wpAnyH_ready (rs := [2]) (by kernel_rfl) (by simp) ?_
  refine AllReadyH.cons (o := ⟨some 19, _, _, _, _, _⟩) rfl (fun K hK => ?_) AllReadyH.nil
  go_simp
  refine (HSH.out _).mono ?_
  rintro r w2 ⟨rfl, hb2⟩
  have hl2 := hl1.below hb2
  have HS2 := hide (HS1.out.drew.below hb2)
  have HB2 := hide (HB1.out.drew.trans (hb2.mono HB1.out.drew.size))
  clear hb2 HSH
  refine hK.out _ _ hl2 (fun hHeld => ?_)
  clear hK K
  clear hHeld
  refine wpAnyH_take (i := 3) (oi := ⟨some 20, _, _, _, _, _⟩) (v := ?_) rfl (by kernel_rfl) (by kernel_rfl) (by kernel_rfl) (fun _ _ _ h => h) (Or.inl ⟨by rfl, ?_⟩) hl2 ?_
  rotate_left 1
  · (intro w hSw; clear hSw; go_simp; try with_reducible rfl)
  simp only [Act.put, List.setIfInBounds_toArray, List.set_cons_zero, List.set_cons_succ]
  refine wpAnyH_take (i := 4) (oi := ⟨some 16, _, _, _, _, _⟩) (v := ?_) rfl (by kernel_rfl) (by kernel_rfl) (by kernel_rfl) (fun _ _ _ h => h) (Or.inl ⟨by rfl, ?_⟩) hl2 ?_
  rotate_left 1
  · (intro w hSw; clear hSw; go_simp; try with_reducible rfl)
  simp only [Act.put, List.setIfInBounds_toArray, List.set_cons_zero, List.set_cons_succ]
  refine wpAnyH_done (by kernel_rfl) ?_ _
  skip
  clear hl1 hneq heqg HS1 HB1
  have HIB2 := hide (St.ib HS2.out HBI.out)
  go_wp2_with fail
  refine (Mark_any HIB2.out).mono ?_
  rintro r w4 ⟨rfl, rfl⟩
  have hc1 := HIB2.out.drew.turn
  have hl3 := hl2.drew
  have HIB := hide HIB2.out.drew
  have hwr : IntKind.i64.wrap (t1 : Int) = (t1 : Int) := IntWalk.i64_in _ (by omega)
  have HSL := hide (show (scl ⟨t1, mk, B⟩).length = 34 from scl_length HB.out)
  have HROW := hide (icl_next_row (q := q) (k := k) (i := i) (n := im0) HZ.out ⟨t1, mk, B⟩ HB.out)
  have HS5 := hide (St.img_row HS2.out.drew HBI.out i ⟨t1, mk, B⟩ k)
  have hSB : (Ts.set b (imgT p q i ⟨t1, mk, B⟩ k))[b]? = some (imgT p q i ⟨t1, mk, B⟩ k) := List.getElem?_set_self (List.getElem?_eq_some_iff.1 HBI.out).1
  have HSHOW := hide (show (w2.drew.setRow p (ics q i ⟨t1, mk, B⟩ k)).cell? ⟨p, 1, none⟩ = some (.int .i64 (i.t : Int)) ∧ Lies (w2.drew.setRow p (ics q i ⟨t1, mk, B⟩ k)) w.heap.size B from ⟨(St.ib HS5.out hSB).turn, (setRow_other _ _ _ _ (by have := HPW.out; omega)).trans hl3⟩)
  clear HIB2 HS2 hl2 hSB
  go_wp2_with fail
  refine wp_region_held (S := (fun W => W.cell? ⟨p, 1, none⟩ = some (.int .i64 (i.t : Int)) ∧ Lies W w.heap.size B)) (by kernel_rfl) ?_
  change wpAnyH _ _ _ _ _ _ _ _ (World.drew _)
  refine wpAnyH_take (i := 0) (oi := ⟨some 32, _, _, _, _, _⟩) (v := ?_) rfl (by kernel_rfl) (by kernel_rfl) (by kernel_rfl) (fun _ _ _ h => h) (Or.inl ⟨by rfl, ?_⟩) ⟨hc1, hl3⟩ ?_
  rotate_left 1
  · (intro w hSw; obtain ⟨hSw1, hSw2⟩ := hSw; go_simp; try with_reducible rfl)
  simp only [Act.put, List.setIfInBounds_toArray, List.set_cons_zero, List.set_cons_succ]
  refine wpAnyH_take (i := 1) (oi := ⟨some 33, _, _, _, _, _⟩) (v := ?_) rfl (by kernel_rfl) (by kernel_rfl) (by kernel_rfl) (fun _ _ _ h => h) (Or.inl ⟨by rfl, ?_⟩) ⟨hc1, hl3⟩ ?_
  rotate_left 1
  · (intro w hSw; obtain ⟨hSw1, hSw2⟩ := hSw; go_simp; try with_reducible rfl)
  simp only [Act.put, List.setIfInBounds_toArray, List.set_cons_zero, List.set_cons_succ]
  refine wpAnyH_take (i := 2) (oi := ⟨some 34, _, _, _, _, _⟩) (v := ?_) rfl (by kernel_rfl) (by kernel_rfl) (by kernel_rfl) (fun _ _ _ h => h) (Or.inl ⟨by rfl, ?_⟩) ⟨hc1, hl3⟩ ?_
  rotate_left 1
  · (intro w hSw; obtain ⟨hSw1, hSw2⟩ := hSw; go_simp; try with_reducible rfl)
  simp only [Act.put, List.setIfInBounds_toArray, List.set_cons_zero, List.set_cons_succ]
  refine wpAnyH_take (i := 3) (oi := ⟨some 35, _, _, _, _, _⟩) (v := ?_) rfl (by kernel_rfl) (by kernel_rfl) (by kernel_rfl) (fun _ _ _ h => h) (Or.inl ⟨by rfl, ?_⟩) ⟨hc1, hl3⟩ ?_
  rotate_left 1
  · (intro w hSw; obtain ⟨hSw1, hSw2⟩ := hSw; go_simp; try with_reducible rfl)
  simp only [Act.put, List.setIfInBounds_toArray, List.set_cons_zero, List.set_cons_succ]
  refine wpAnyH_take (i := 4) (oi := ⟨some 36, _, _, _, _, _⟩) (v := ?_) rfl (by kernel_rfl) (by kernel_rfl) (by kernel_rfl) (fun _ _ _ h => h) (Or.inl ⟨by rfl, ?_⟩) ⟨hc1, hl3⟩ ?_
  rotate_left 1
  · (intro w hSw; obtain ⟨hSw1, hSw2⟩ := hSw; go_simp; try with_reducible rfl)
  simp only [Act.put, List.setIfInBounds_toArray, List.set_cons_zero, List.set_cons_succ]
  refine wpAnyH_take (i := 5) (oi := ⟨some 37, _, _, _, _, _⟩) (v := ?_) rfl (by kernel_rfl) (by kernel_rfl) (by kernel_rfl) (fun _ _ _ h => h) (Or.inl ⟨by rfl, ?_⟩) ⟨hc1, hl3⟩ ?_
  rotate_left 1
  · (intro w hSw; obtain ⟨hSw1, hSw2⟩ := hSw; go_simp; try with_reducible rfl)
  simp only [Act.put, List.setIfInBounds_toArray, List.set_cons_zero, List.set_cons_succ]
  refine wpAnyH_take (i := 6) (oi := ⟨some 38, _, _, _, _, _⟩) (v := ?_) rfl (by kernel_rfl) (by kernel_rfl) (by kernel_rfl) (fun _ _ _ h => h) (Or.inl ⟨by rfl, ?_⟩) ⟨hc1, hl3⟩ ?_
  rotate_left 1
  · (intro w hSw; obtain ⟨hSw1, hSw2⟩ := hSw; go_simp; try with_reducible rfl)
  simp only [Act.put, List.setIfInBounds_toArray, List.set_cons_zero, List.set_cons_succ]
  refine wpAnyH_take (i := 7) (oi := ⟨some 39, _, _, _, _, _⟩) (v := ?_) rfl (by kernel_rfl) (by kernel_rfl) (by kernel_rfl) (fun _ _ _ h => h) (Or.inl ⟨by rfl, ?_⟩) ⟨hc1, hl3⟩ ?_
  rotate_left 1
  · (intro w hSw; obtain ⟨hSw1, hSw2⟩ := hSw; go_simp; try with_reducible rfl)
  simp only [Act.put, List.setIfInBounds_toArray, List.set_cons_zero, List.set_cons_succ]
  refine wpAnyH_take (i := 8) (oi := ⟨some 40, _, _, _, _, _⟩) (v := ?_) rfl (by kernel_rfl) (by kernel_rfl) (by kernel_rfl) (fun _ _ _ h => h) (Or.inl ⟨by rfl, ?_⟩) ⟨hc1, hl3⟩ ?_
  rotate_left 1
  · (intro w hSw; obtain ⟨hSw1, hSw2⟩ := hSw; go_simp; try with_reducible rfl)
  simp only [Act.put, List.setIfInBounds_toArray, List.set_cons_zero, List.set_cons_succ]
  refine wpAnyH_take (i := 9) (oi := ⟨some 41, _, _, _, _, _⟩) (v := ?_) rfl (by kernel_rfl) (by kernel_rfl) (by kernel_rfl) (fun _ _ _ h => h) (Or.inl ⟨by rfl, ?_⟩) ⟨hc1, hl3⟩ ?_
  rotate_left 1
  · (intro w hSw; obtain ⟨hSw1, hSw2⟩ := hSw; go_simp; try with_reducible rfl)
  simp only [Act.put, List.setIfInBounds_toArray, List.set_cons_zero, List.set_cons_succ]
  refine wpAnyH_take (i := 10) (oi := ⟨some 42, _, _, _, _, _⟩) (v := bval B) rfl (by kernel_rfl) (by kernel_rfl) (by kernel_rfl) (fun _ _ _ h => h) (yields_blks (by rfl) (.tmp 4) rfl w.heap.size rfl B HB.out (fun w hw => hw.2)) ⟨hc1, hl3⟩ ?_
  simp only [Act.put, List.setIfInBounds_toArray, List.set_cons_zero, List.set_cons_succ]
  refine wpAnyH_take (i := 11) (oi := ⟨some 43, _, _, _, _, _⟩) (v := .agg (scl ⟨t1, mk, B⟩).toArray) rfl (by kernel_rfl) (by kernel_rfl) (by kernel_rfl) (fun _ _ _ h => h) (yields_state (by rfl) (.tmp 41) (.tmp 42) rfl (t1 : Int) (mk : Int) B HB.out rfl rfl) ⟨hc1, hl3⟩ ?_
  simp only [Act.put, List.setIfInBounds_toArray, List.set_cons_zero, List.set_cons_succ]
  refine wpAnyH_take (i := 12) (oi := ⟨some 44, _, _, _, _, _⟩) (v := ?_) rfl (by kernel_rfl) (by kernel_rfl) (by kernel_rfl) (fun _ _ _ h => h) (Or.inl ⟨by rfl, ?_⟩) ⟨hc1, hl3⟩ ?_
  rotate_left 1
  · (intro w hSw; obtain ⟨hSw1, hSw2⟩ := hSw; go_simp; try with_reducible rfl)
  simp only [Act.put, List.setIfInBounds_toArray, List.set_cons_zero, List.set_cons_succ]
  refine wpAnyH_take (i := 13) (oi := ⟨some 45, _, _, _, _, _⟩) (v := ?_) rfl (by kernel_rfl) (by kernel_rfl) (by kernel_rfl) (fun _ _ _ h => h) (Or.inl ⟨by rfl, ?_⟩) ⟨hc1, hl3⟩ ?_
  rotate_left 1
  · (intro w hSw; obtain ⟨hSw1, hSw2⟩ := hSw; go_simp; try with_reducible rfl)
  simp only [Act.put, List.setIfInBounds_toArray, List.set_cons_zero, List.set_cons_succ]
  refine wpAnyH_ready (rs := [14]) (by kernel_rfl) (by simp) ?_
  refine AllReadyH.cons (o := ⟨none, _, _, _, _, _⟩) rfl (fun K hK => ?_) AllReadyH.nil
  refine step_wp rfl (Dk.wp_store_at 77 (.tmp 45) (.tmp 43) rfl p 35 (scl ⟨t1, mk, B⟩) rfl rfl 79 (ics q i im0 k) HIB.out.heap (by rw [HSL.out]; kernel_rfl) (by rw [HSL.out, List.size_toArray, icl_length HZ.out]; omega) (scl_one _) ?_)
  rw [HROW.out]
  refine hK.out _ _ HSHOW.out (fun hHeld => ?_)
  clear hK K
  clear hHeld
  refine wpAnyH_done (by kernel_rfl) ?_ _
  skip
  generalize w2.drew.setRow _ _ = w6 at *
  clear HSHOW HIB HROW HSL hc1 hl3
  go_wp2
  go_ret
  exact ⟨rfl, HS5.out⟩
end

end Go.Proofs.YtnmpckhlpkmojaaGreatDoor.Im

namespace Go.Proofs.YtnmpckhlpkmojaaGreatDoor.Im
open Go.RowKit
open Pk Sm Fa Rc Dk Wn Lk
open Jn (NumN clampN zer zer_no)

section
variable {w0 w : World} {Ts Us : List Thg} {a b j p q k J t m : Nat} {i n : Img} {S : List Sec} {L : List Wr}
theorem St.left (h : St w0 (Ts ++ Us) w) : St w0 Ts w := by
  obtain ⟨C, h1, h2⟩ := h.ex
  exact ⟨⟨C, h1, fun i T hi => h2 i T (by rw [List.getElem?_append_left (List.getElem?_eq_some_iff.1 hi).1]; exact hi)⟩, h.bel⟩
theorem St.wr {i c : Nat} {A : Option Addr} {s : Sec} (h : St w0 Ts w) (ha : Ts[a]? = some (dskT q S L)) (hi : i < S.length) (hb : Byt w w.heap.size A s) (hs : s.length = 64) (hL : L.length ≤ 900000) :
    Calls Tryz.prog 25 #[.pointer (some ⟨q, 0, none⟩), .int .i64 i, .slice A 64 c] w fun e w' => e = .returned .nilIface ∧ St w0 (Ts.set a (dskT q S (L ++ [(i, s)]))) w' :=
  St.call h ha fun G hp _ => (Write_any w G q i c A S L s hp hi hb hs hL).mono fun _e _w' ⟨h1, h2⟩ => ⟨h1, h2⟩
theorem St.flush (h : St w0 Ts w) (ha : Ts[a]? = some (dskT q S L)) (hL : L.length ≤ 1000000) :
    Calls Tryz.prog 61 #[.pointer (some ⟨q, 0, none⟩)] w fun e w' => e = .returned (.tuple #[]) ∧ St w0 (Ts.set a (dskT q (all S L) [])) w' :=
  St.call h ha fun G hp _ => (Flush_any w G q S L hp hL).mono fun _e _w' ⟨h1, h2⟩ => ⟨h1, h2⟩
theorem St.crash {K : Nat} (h : St w0 Ts w) (ha : Ts[a]? = some (dskT q S L)) (hK : K < 18446744073709551616) (hL : L.length ≤ 1000000) :
    Calls Tryz.prog 19 #[.pointer (some ⟨q, 0, none⟩), .int .u64 K] w fun e w' => e = .returned (.tuple #[]) ∧ St w0 (Ts.set a (dskT q (Dk.crash K 0 L S) [])) w' :=
  St.call h ha fun G hp _ => (Crash_any w G q K S L hp hK hL).mono fun _e _w' ⟨h1, h2⟩ => ⟨h1, h2⟩
theorem Held.all (h : St w0 Ts w) (hb : Ts[b]? = some (imgT p q i n k)) (hj : Ts[j]? = some (blkT J (hcs t m) 73)) :
    w.cell? ⟨p, 0, none⟩ = some (.pointer (some ⟨q, 0, none⟩)) ∧ w.cell? ⟨J, 0, none⟩ = some (.int .i64 (t : Int)) ∧ w.cell? ⟨J, 1, none⟩ = some (.int .i64 (m : Int)) :=
  ⟨(St.ib h hb).disk, (St.blk h hj).1 0, (St.blk h hj).1 1⟩
set_option maxRecDepth 100000 in
set_option maxHeartbeats 2000000 in
theorem perform_flush (h : St w0 Ts w) (ha : Ts[a]? = some (dskT q S L)) (hb : Ts[b]? = some (imgT p q i n k)) (hab : a ≠ b) (hz : Sz i n) (hL : L.length ≤ 900000) (hT : Tab w0)  :
    Calls Tryz.prog 41 #[.pointer (some ⟨p, 0, none⟩), .int .i64 32] w fun e w' => e = .returned (.tuple #[]) ∧ St w0 (Ts.set a (dskT q (all S L) [])) w' := by
  have hib := St.ib h hb
  have hc0 := hib.disk
  have hc35 := hib.nturn hz
  have hc36 := hib.nmark hz
  obtain ⟨t, ht0⟩ : ∃ t, n.t = t := ⟨_, rfl⟩
  obtain ⟨m, hm0⟩ : ∃ m, n.m = m := ⟨_, rfl⟩
  rw [ht0] at hc35
  rw [hm0] at hc36
  have HS2 := hide (show St w0 (Ts ++ [blkT w.heap.size (hcs t m) 73]) (w.alloc (.cells (hcs t m) 73)) from St.blk_new h _ _)
  have hal : a < Ts.length := (List.getElem?_eq_some_iff.1 ha).1
  have hbl : b < Ts.length := (List.getElem?_eq_some_iff.1 hb).1
  have HAI := hide (show (Ts ++ [blkT w.heap.size (hcs t m) 73])[a]? = some (dskT q S L) by rw [List.getElem?_append_left hal]; exact ha)
  have HBI := hide (show (Ts ++ [blkT w.heap.size (hcs t m) 73])[b]? = some (imgT p q i n k) by rw [List.getElem?_append_left hbl]; exact hb)
  have HJI := hide (show (Ts ++ [blkT w.heap.size (hcs t m) 73])[Ts.length]? = some (blkT w.heap.size (hcs t m) 73) by simp)
  have HAL := hide hal
  have hcc := (Held.all HS2.out HBI.out HJI.out).1
  have HAB := hide hab
  have HZ := hide hz
  have HL := hide hL
  have HT := hide hT
  have HTM := hide (And.intro ht0 hm0)
  clear h ha hb hab hz hL hT hib ht0 hm0 hal hbl
  go_enter Tryz.func41, Tryz.ntmps41
  go_wp2_with fail
  have hS2 := Held.all HS2.out HBI.out HJI.out
  generalize w.alloc _ = w2 at *
  clear hc0 hc35 hc36
  refine (St.flush HS2.out HAI.out (by have := HL.out; omega)).mono ?_
  rintro r w3 ⟨rfl, hs3⟩
  have HS3 := hide hs3
  clear hs3 hcc hS2
  go_wp2
  go_end0
  refine ⟨rfl, ?_⟩
  have := HS3.out
  rw [List.set_append_left _ _ HAL.out] at this
  exact St.left this
set_option maxRecDepth 100000 in
set_option maxHeartbeats 2000000 in
theorem perform_last (h : St w0 Ts w) (ha : Ts[a]? = some (dskT q S L)) (hb : Ts[b]? = some (imgT p q i n k)) (hab : a ≠ b) (hz : Sz i n) (hL : L.length ≤ 900000) (hT : Tab w0)  :
    Calls Tryz.prog 41 #[.pointer (some ⟨p, 0, none⟩), .int .i64 34] w fun e w' => e = .returned (.tuple #[]) ∧ St w0 (Ts.set a (dskT q (all S L) [])) w' := by
  have hib := St.ib h hb
  have hc0 := hib.disk
  have hc35 := hib.nturn hz
  have hc36 := hib.nmark hz
  obtain ⟨t, ht0⟩ : ∃ t, n.t = t := ⟨_, rfl⟩
  obtain ⟨m, hm0⟩ : ∃ m, n.m = m := ⟨_, rfl⟩
  rw [ht0] at hc35
  rw [hm0] at hc36
  have HS2 := hide (show St w0 (Ts ++ [blkT w.heap.size (hcs t m) 73]) (w.alloc (.cells (hcs t m) 73)) from St.blk_new h _ _)
  have hal : a < Ts.length := (List.getElem?_eq_some_iff.1 ha).1
  have hbl : b < Ts.length := (List.getElem?_eq_some_iff.1 hb).1
  have HAI := hide (show (Ts ++ [blkT w.heap.size (hcs t m) 73])[a]? = some (dskT q S L) by rw [List.getElem?_append_left hal]; exact ha)
  have HBI := hide (show (Ts ++ [blkT w.heap.size (hcs t m) 73])[b]? = some (imgT p q i n k) by rw [List.getElem?_append_left hbl]; exact hb)
  have HJI := hide (show (Ts ++ [blkT w.heap.size (hcs t m) 73])[Ts.length]? = some (blkT w.heap.size (hcs t m) 73) by simp)
  have HAL := hide hal
  have hcc := (Held.all HS2.out HBI.out HJI.out).1
  have HAB := hide hab
  have HZ := hide hz
  have HL := hide hL
  have HT := hide hT
  have HTM := hide (And.intro ht0 hm0)
  clear h ha hb hab hz hL hT hib ht0 hm0 hal hbl
  go_enter Tryz.func41, Tryz.ntmps41
  go_wp2_with fail
  have hS2 := Held.all HS2.out HBI.out HJI.out
  generalize w.alloc _ = w2 at *
  clear hc0 hc35 hc36
  refine (St.flush HS2.out HAI.out (by have := HL.out; omega)).mono ?_
  rintro r w3 ⟨rfl, hs3⟩
  have HS3 := hide hs3
  clear hs3 hcc hS2
  go_wp2
  go_end0
  refine ⟨rfl, ?_⟩
  have := HS3.out
  rw [List.set_append_left _ _ HAL.out] at this
  exact St.left this
set_option maxRecDepth 100000 in
set_option maxHeartbeats 2000000 in
theorem perform_head (h : St w0 Ts w) (ha : Ts[a]? = some (dskT q S L)) (hb : Ts[b]? = some (imgT p q i n k)) (hab : a ≠ b) (hz : Sz i n) (hL : L.length ≤ 900000) (hT : Tab w0) (h66 : S.length = 66) :
    Calls Tryz.prog 41 #[.pointer (some ⟨p, 0, none⟩), .int .i64 33] w fun e w' => e = .returned (.tuple #[]) ∧ St w0 (Ts.set a (dskT q S (L ++ [(n.t % 2, hsec ⟨n.t, n.m⟩)]))) w' := by
  have hib := St.ib h hb
  have hc0 := hib.disk
  have hc35 := hib.nturn hz
  have hc36 := hib.nmark hz
  obtain ⟨t, ht0⟩ : ∃ t, n.t = t := ⟨_, rfl⟩
  obtain ⟨m, hm0⟩ : ∃ m, n.m = m := ⟨_, rfl⟩
  rw [ht0] at hc35
  rw [hm0] at hc36
  have HS2 := hide (show St w0 (Ts ++ [blkT w.heap.size (hcs t m) 73]) (w.alloc (.cells (hcs t m) 73)) from St.blk_new h _ _)
  have hal : a < Ts.length := (List.getElem?_eq_some_iff.1 ha).1
  have hbl : b < Ts.length := (List.getElem?_eq_some_iff.1 hb).1
  have HAI := hide (show (Ts ++ [blkT w.heap.size (hcs t m) 73])[a]? = some (dskT q S L) by rw [List.getElem?_append_left hal]; exact ha)
  have HBI := hide (show (Ts ++ [blkT w.heap.size (hcs t m) 73])[b]? = some (imgT p q i n k) by rw [List.getElem?_append_left hbl]; exact hb)
  have HJI := hide (show (Ts ++ [blkT w.heap.size (hcs t m) 73])[Ts.length]? = some (blkT w.heap.size (hcs t m) 73) by simp)
  have HAL := hide hal
  have hcc := (Held.all HS2.out HBI.out HJI.out).1
  have HAB := hide hab
  have HZ := hide hz
  have HL := hide hL
  have HT := hide hT
  have HTM := hide (And.intro ht0 hm0)
  have H66 := hide h66
  clear h66
  clear h ha hb hab hz hL hT hib ht0 hm0 hal hbl
  go_enter Tryz.func41, Tryz.ntmps41
  go_wp2_with fail
  have hS2 := Held.all HS2.out HBI.out HJI.out
  generalize w.alloc _ = w2 at *
  clear hc0 hc35 hc36
  obtain ⟨r0, hr0⟩ : ∃ r0, t % 2 = r0 := ⟨_, rfl⟩
  have HR0 := hide (show (⟨t, m⟩ : Hd).t % 2 = r0 from hr0)
  have HRL := hide (show r0 < 2 by omega)
  have HBI5 := hide (show ((Ts ++ [blkT w.heap.size (hcs t m) 73]).set a (dskT q S (L ++ [(r0, hsec ⟨t, m⟩)])))[b]? = some (imgT p q i n k) by rw [List.getElem?_set_ne HAB.out]; exact HBI.out)
  have HJI5 := hide (show ((Ts ++ [blkT w.heap.size (hcs t m) 73]).set a (dskT q S (L ++ [(r0, hsec ⟨t, m⟩)])))[Ts.length]? = some (blkT w.heap.size (hcs t m) 73) by rw [List.getElem?_set_ne (by have := HAL.out; omega)]; exact HJI.out)
  clear hr0 hcc
  refine wp_region_held (S := (fun W => W.cell? ⟨p, 0, none⟩ = some (.pointer (some ⟨q, 0, none⟩)) ∧ W.cell? ⟨w.heap.size, 0, none⟩ = some (.int .i64 (t : Int)) ∧ W.cell? ⟨w.heap.size, 1, none⟩ = some (.int .i64 (m : Int)))) (by kernel_rfl) ?_
  change wpAnyH _ _ _ _ _ _ _ _ (World.drew _)
  refine wpAnyH_take (i := 0) (oi := ⟨some 52, _, _, _, _, _⟩) (v := ?_) rfl (by kernel_rfl) (by kernel_rfl) (by kernel_rfl) (fun _ _ _ h => h) (Or.inl ⟨by rfl, ?_⟩) hS2 ?_
  rotate_left 1
  · (intro w hSw; obtain ⟨hSw1, hSw2, hSw3⟩ := hSw; go_simp; try with_reducible rfl)
  simp only [Act.put, List.setIfInBounds_toArray, List.set_cons_zero, List.set_cons_succ]
  refine wpAnyH_take (i := 1) (oi := ⟨some 53, _, _, _, _, _⟩) (v := ?_) rfl (by kernel_rfl) (by kernel_rfl) (by kernel_rfl) (fun _ _ _ h => h) (Or.inl ⟨by rfl, ?_⟩) hS2 ?_
  rotate_left 1
  · (intro w hSw; obtain ⟨hSw1, hSw2, hSw3⟩ := hSw; go_simp; try with_reducible rfl)
  simp only [Act.put, List.setIfInBounds_toArray, List.set_cons_zero, List.set_cons_succ]
  refine wpAnyH_take (i := 2) (oi := ⟨some 54, _, _, _, _, _⟩) (v := ?_) rfl (by kernel_rfl) (by kernel_rfl) (by kernel_rfl) (fun _ _ _ h => h) (Or.inl ⟨by rfl, ?_⟩) hS2 ?_
  rotate_left 1
  · (intro w hSw; obtain ⟨hSw1, hSw2, hSw3⟩ := hSw; go_simp; try with_reducible rfl)
  simp only [Act.put, List.setIfInBounds_toArray, List.set_cons_zero, List.set_cons_succ]
  refine wpAnyH_take (i := 3) (oi := ⟨some 55, _, _, _, _, _⟩) (v := ?_) rfl (by kernel_rfl) (by kernel_rfl) (by kernel_rfl) (fun _ _ _ h => h) (Or.inl ⟨by rfl, ?_⟩) hS2 ?_
  rotate_left 1
  · (intro w hSw; obtain ⟨hSw1, hSw2, hSw3⟩ := hSw; go_simp; try with_reducible rfl)
  simp only [Act.put, List.setIfInBounds_toArray, List.set_cons_zero, List.set_cons_succ]
  refine wpAnyH_take (i := 4) (oi := ⟨some 56, _, _, _, _, _⟩) (v := ?_) rfl (by kernel_rfl) (by kernel_rfl) (by kernel_rfl) (fun _ _ _ h => h) (Or.inl ⟨by rfl, ?_⟩) hS2 ?_
  rotate_left 1
  · (intro w hSw; obtain ⟨hSw1, hSw2, hSw3⟩ := hSw; go_simp; try with_reducible rfl)
  simp only [Act.put, List.setIfInBounds_toArray, List.set_cons_zero, List.set_cons_succ]
  refine wpAnyH_take (i := 6) (oi := ⟨some 58, _, _, _, _, _⟩) (v := ?_) rfl (by kernel_rfl) (by kernel_rfl) (by kernel_rfl) (fun _ _ _ h => h) (Or.inl ⟨by rfl, ?_⟩) hS2 ?_
  rotate_left 1
  · (intro w hSw; obtain ⟨hSw1, hSw2, hSw3⟩ := hSw; go_simp; try with_reducible rfl)
  simp only [Act.put, List.setIfInBounds_toArray, List.set_cons_zero, List.set_cons_succ]
  refine wpAnyH_ready (rs := [5]) (by kernel_rfl) (by simp) ?_
  refine AllReadyH.cons (o := ⟨some 57, _, _, _, _, _⟩) rfl (fun K hK => ?_) AllReadyH.nil
  go_simp
  refine (hsector_told ⟨t, m⟩ r0 HR0.out _).mono ?_
  rintro r w3 ⟨rfl, hb3⟩
  have HS3 := hide (HS2.out.drew.below hb3)
  have hS3 := Held.all HS3.out HBI.out HJI.out
  clear hb3
  refine hK.out _ _ hS3 (fun hHeld => ?_)
  clear hK K
  clear hHeld
  refine wpAnyH_ready (rs := [7]) (by kernel_rfl) (by simp) ?_
  refine AllReadyH.cons (o := ⟨some 59, _, _, _, _, _⟩) rfl (fun K hK => ?_) AllReadyH.nil
  go_simp
  refine (hencode_any t m w3 (HT.out.below HS3.out.bel HT.out.pos)).mono ?_
  rintro r w4 ⟨pb, ob, cb, rfl, _, _, hby4, hb4⟩
  have HS4 := hide (HS3.out.below hb4)
  have hS4 := Held.all HS4.out HBI.out HJI.out
  have HY4 := hide hby4
  clear hb4 hby4
  refine hK.out _ _ hS4 (fun hHeld => ?_)
  clear hK K
  clear hHeld
  refine wpAnyH_ready (rs := [8]) (by kernel_rfl) (by simp) ?_
  refine AllReadyH.cons (o := ⟨some 60, _, _, _, _, _⟩) rfl (fun K hK => ?_) AllReadyH.nil
  go_simp
  refine (St.wr HS4.out HAI.out (i := r0) (by have := HRL.out; have := H66.out; omega) HY4.out (hsec_length _) HL.out).mono ?_
  rintro r w5 ⟨rfl, hs5⟩
  have HS5 := hide hs5
  have hS5 := Held.all HS5.out HBI5.out HJI5.out
  clear hs5
  refine hK.out _ _ hS5 (fun hHeld => ?_)
  clear hK K
  clear hHeld
  refine wpAnyH_done (by kernel_rfl) ?_ _
  skip
  clear hS2 hS3 hS4 hS5
  go_wp2
  go_end0
  refine ⟨rfl, ?_⟩
  have := HS5.out
  rw [List.set_append_left _ _ HAL.out] at this
  rw [HTM.out.1, HTM.out.2, show t % 2 = r0 from HR0.out]
  exact St.left this
theorem Held.blk {v c l : Nat} {d : ByteArray} (h : St w0 Ts w) (hb : Ts[b]? = some (imgT p q i n k)) (hj : Ts[j]? = some (blkT J (hcs t m) 73)) (hz : Sz i n) (hd : n.B[l]? = some d) (hl : v * 8 + c = l) :
    w.cell? ⟨J, 0, none⟩ = some (.int .i64 (t : Int)) ∧ w.cell? ⟨p, 37 + v * 8 + c, none⟩ = some (.string d) := by
  refine ⟨(St.blk h hj).1 0, ?_⟩
  rw [show 37 + v * 8 + c = 37 + l by omega]
  exact (St.ib h hb).nblk hz hd
theorem Held.four {l X : Nat} {d : ByteArray} (h : St w0 Ts w) (hb : Ts[b]? = some (imgT p q i n k)) (hj : Ts[j]? = some (blkT J (hcs t m) 73)) (hx : Ts[l]? = some (blkT X (mcs t d) 112)) :
    w.cell? ⟨p, 0, none⟩ = some (.pointer (some ⟨q, 0, none⟩)) ∧ w.cell? ⟨J, 0, none⟩ = some (.int .i64 (t : Int)) ∧ w.cell? ⟨X, 0, none⟩ = some (.int .i64 (t : Int)) ∧ w.cell? ⟨X, 1, none⟩ = some (.string d) :=
  ⟨(St.ib h hb).disk, (St.blk h hj).1 0, (St.blk h hx).1 0, (St.blk h hx).1 1⟩
set_option maxRecDepth 100000 in
set_option maxHeartbeats 2000000 in
theorem perform_block (h : St w0 Ts w) (ha : Ts[a]? = some (dskT q S L)) (hb : Ts[b]? = some (imgT p q i n k)) (hab : a ≠ b) (hz : Sz i n) (hL : L.length ≤ 900000) (hT : Tab w0) (j : Nat) (hj : j < 32) (d : ByteArray) (hd : n.B[j]? = some d) (hds : d.size ≤ 16) (h66 : S.length = 66) :
    Calls Tryz.prog 41 #[.pointer (some ⟨p, 0, none⟩), .int .i64 (j : Int)] w fun e w' => e = .returned (.tuple #[]) ∧ St w0 (Ts.set a (dskT q S (L ++ [(at2 n.t j, bsec n.t d)]))) w' := by
  have hj32 : ((j : Int) == 32) = false := by simp; omega
  have hj33 : ((j : Int) == 33) = false := by simp; omega
  have hj34 : ((j : Int) == 34) = false := by simp; omega
  have hib := St.ib h hb
  have hc0 := hib.disk
  have hc35 := hib.nturn hz
  have hc36 := hib.nmark hz
  obtain ⟨t, ht0⟩ : ∃ t, n.t = t := ⟨_, rfl⟩
  obtain ⟨m, hm0⟩ : ∃ m, n.m = m := ⟨_, rfl⟩
  rw [ht0] at hc35
  rw [hm0] at hc36
  have HS2 := hide (show St w0 (Ts ++ [blkT w.heap.size (hcs t m) 73]) (w.alloc (.cells (hcs t m) 73)) from St.blk_new h _ _)
  have hal : a < Ts.length := (List.getElem?_eq_some_iff.1 ha).1
  have hbl : b < Ts.length := (List.getElem?_eq_some_iff.1 hb).1
  have HAI := hide (show (Ts ++ [blkT w.heap.size (hcs t m) 73])[a]? = some (dskT q S L) by rw [List.getElem?_append_left hal]; exact ha)
  have HBI := hide (show (Ts ++ [blkT w.heap.size (hcs t m) 73])[b]? = some (imgT p q i n k) by rw [List.getElem?_append_left hbl]; exact hb)
  have HJI := hide (show (Ts ++ [blkT w.heap.size (hcs t m) 73])[Ts.length]? = some (blkT w.heap.size (hcs t m) 73) by simp)
  have HAL := hide hal
  have hcc := (Held.all HS2.out HBI.out HJI.out).1
  have HAB := hide hab
  have HZ := hide hz
  have HL := hide hL
  have HT := hide hT
  have HTM := hide (And.intro ht0 hm0)
  have H66 := hide h66
  have HD := hide hd
  have HDS := hide hds
  have HJ32 := hide hj
  clear h66 hd hds hj
  clear h ha hb hab hz hL hT hib ht0 hm0 hal hbl
  go_enter Tryz.func41, Tryz.ntmps41
  go_wp2_with fail
  have hS2 := Held.all HS2.out HBI.out HJI.out
  generalize w.alloc _ = w2 at *
  clear hc0 hc35 hc36
  refine (place_any j (by have := HJ32.out; omega) _).mono ?_
  rintro r w3 ⟨rfl, hw3⟩
  rw [← hw3]
  clear hw3 hj32 hj33 hj34 hcc hS2
  obtain ⟨v, hv⟩ : ∃ v, j / 8 = v := ⟨_, rfl⟩
  obtain ⟨c, hc⟩ : ∃ c, j % 8 = c := ⟨_, rfl⟩
  have hv4 : (v : Int) < 4 := by have := HJ32.out; omega
  have hc8 : (c : Int) < 8 := by omega
  have HVC := hide (show v * 8 + c = j by omega)
  rw [hv, hc]
  clear hv hc
  have hS3s := Held.blk HS2.out.drew HBI.out HJI.out HZ.out HD.out HVC.out
  have HAI5 := hide (show ((Ts ++ [blkT w.heap.size (hcs t m) 73]) ++ [blkT w2.heap.size (mcs t d) 112])[a]? = some (dskT q S L) by rw [List.getElem?_append_left (List.getElem?_eq_some_iff.1 HAI.out).1]; exact HAI.out)
  have HBI5 := hide (show ((Ts ++ [blkT w.heap.size (hcs t m) 73]) ++ [blkT w2.heap.size (mcs t d) 112])[b]? = some (imgT p q i n k) by rw [List.getElem?_append_left (List.getElem?_eq_some_iff.1 HBI.out).1]; exact HBI.out)
  have HJI5 := hide (show ((Ts ++ [blkT w.heap.size (hcs t m) 73]) ++ [blkT w2.heap.size (mcs t d) 112])[Ts.length]? = some (blkT w.heap.size (hcs t m) 73) by rw [List.getElem?_append_left (List.getElem?_eq_some_iff.1 HJI.out).1]; exact HJI.out)
  have HXI := hide (show ((Ts ++ [blkT w.heap.size (hcs t m) 73]) ++ [blkT w2.heap.size (mcs t d) 112])[Ts.length + 1]? = some (blkT w2.heap.size (mcs t d) 112) by simp)
  go_wp2_with fail
  refine wp_region_held (S := (fun W => W.cell? ⟨w.heap.size, 0, none⟩ = some (.int .i64 (t : Int)) ∧ W.cell? ⟨p, 37 + v * 8 + c, none⟩ = some (.string d))) (by kernel_rfl) ?_
  change wpAnyH _ _ _ _ _ _ _ _ (World.drew _)
  refine wpAnyH_take (i := 0) (oi := ⟨some 19, _, _, _, _, _⟩) (v := ?_) rfl (by kernel_rfl) (by kernel_rfl) (by kernel_rfl) (fun _ _ _ h => h) (Or.inl ⟨by rfl, ?_⟩) hS3s ?_
  rotate_left 1
  · (intro w hSw; obtain ⟨hSw1, hSw2⟩ := hSw; go_simp; try with_reducible rfl)
  simp only [Act.put, List.setIfInBounds_toArray, List.set_cons_zero, List.set_cons_succ]
  refine wpAnyH_take (i := 1) (oi := ⟨some 20, _, _, _, _, _⟩) (v := ?_) rfl (by kernel_rfl) (by kernel_rfl) (by kernel_rfl) (fun _ _ _ h => h) (Or.inl ⟨by rfl, ?_⟩) hS3s ?_
  rotate_left 1
  · (intro w hSw; obtain ⟨hSw1, hSw2⟩ := hSw; go_simp; try with_reducible rfl)
  simp only [Act.put, List.setIfInBounds_toArray, List.set_cons_zero, List.set_cons_succ]
  refine wpAnyH_take (i := 2) (oi := ⟨some 21, _, _, _, _, _⟩) (v := ?_) rfl (by kernel_rfl) (by kernel_rfl) (by kernel_rfl) (fun _ _ _ h => h) (Or.inl ⟨by rfl, ?_⟩) hS3s ?_
  rotate_left 1
  · (intro w hSw; obtain ⟨hSw1, hSw2⟩ := hSw; go_simp; try with_reducible rfl)
  simp only [Act.put, List.setIfInBounds_toArray, List.set_cons_zero, List.set_cons_succ]
  refine wpAnyH_take (i := 3) (oi := ⟨some 22, _, _, _, _, _⟩) (v := ?_) rfl (by kernel_rfl) (by kernel_rfl) (by kernel_rfl) (fun _ _ _ h => h) (Or.inl ⟨by rfl, ?_⟩) hS3s ?_
  rotate_left 1
  · (intro w hSw; obtain ⟨hSw1, hSw2⟩ := hSw; go_simp; try with_reducible rfl)
  simp only [Act.put, List.setIfInBounds_toArray, List.set_cons_zero, List.set_cons_succ]
  refine wpAnyH_take (i := 4) (oi := ⟨some 23, _, _, _, _, _⟩) (v := ?_) rfl (by kernel_rfl) (by kernel_rfl) (by kernel_rfl) (fun _ _ _ h => h) (Or.inl ⟨by rfl, ?_⟩) hS3s ?_
  rotate_left 1
  · (intro w hSw; obtain ⟨hSw1, hSw2⟩ := hSw; go_simp; try with_reducible rfl)
  simp only [Act.put, List.setIfInBounds_toArray, List.set_cons_zero, List.set_cons_succ]
  refine wpAnyH_take (i := 5) (oi := ⟨some 24, _, _, _, _, _⟩) (v := ?_) rfl (by kernel_rfl) (by kernel_rfl) (by kernel_rfl) (fun _ _ _ h => h) (Or.inl ⟨by rfl, ?_⟩) hS3s ?_
  rotate_left 1
  · (intro w hSw; obtain ⟨hSw1, hSw2⟩ := hSw; go_simp; try with_reducible rfl)
  simp only [Act.put, List.setIfInBounds_toArray, List.set_cons_zero, List.set_cons_succ]
  refine wpAnyH_take (i := 6) (oi := ⟨some 25, _, _, _, _, _⟩) (v := ?_) rfl (by kernel_rfl) (by kernel_rfl) (by kernel_rfl) (fun _ _ _ h => h) (Or.inl ⟨by rfl, ?_⟩) hS3s ?_
  rotate_left 1
  · (intro w hSw; obtain ⟨hSw1, hSw2⟩ := hSw; go_simp; try with_reducible rfl)
  simp only [Act.put, List.setIfInBounds_toArray, List.set_cons_zero, List.set_cons_succ]
  refine wpAnyH_take (i := 7) (oi := ⟨some 26, _, _, _, _, _⟩) (v := ?_) rfl (by kernel_rfl) (by kernel_rfl) (by kernel_rfl) (fun _ _ _ h => h) (Or.inl ⟨by rfl, ?_⟩) hS3s ?_
  rotate_left 1
  · (intro w hSw; obtain ⟨hSw1, hSw2⟩ := hSw; go_simp; try with_reducible rfl)
  simp only [Act.put, List.setIfInBounds_toArray, List.set_cons_zero, List.set_cons_succ]
  refine wpAnyH_take (i := 8) (oi := ⟨some 27, _, _, _, _, _⟩) (v := ?_) rfl (by kernel_rfl) (by kernel_rfl) (by kernel_rfl) (fun _ _ _ h => h) (Or.inl ⟨by rfl, ?_⟩) hS3s ?_
  rotate_left 1
  · (intro w hSw; obtain ⟨hSw1, hSw2⟩ := hSw; go_simp; try with_reducible rfl)
  simp only [Act.put, List.setIfInBounds_toArray, List.set_cons_zero, List.set_cons_succ]
  refine wpAnyH_take (i := 9) (oi := ⟨some 28, _, _, _, _, _⟩) (v := ?_) rfl (by kernel_rfl) (by kernel_rfl) (by kernel_rfl) (fun _ _ _ h => h) (Or.inl ⟨by rfl, ?_⟩) hS3s ?_
  rotate_left 1
  · (intro w hSw; obtain ⟨hSw1, hSw2⟩ := hSw; go_simp; try with_reducible rfl)
  simp only [Act.put, List.setIfInBounds_toArray, List.set_cons_zero, List.set_cons_succ]
  refine wpAnyH_take (i := 10) (oi := ⟨some 29, _, _, _, _, _⟩) (v := ?_) rfl (by kernel_rfl) (by kernel_rfl) (by kernel_rfl) (fun _ _ _ h => h) (Or.inl ⟨by rfl, ?_⟩) hS3s ?_
  rotate_left 1
  · (intro w hSw; obtain ⟨hSw1, hSw2⟩ := hSw; go_simp; try with_reducible rfl)
  simp only [Act.put, List.setIfInBounds_toArray, List.set_cons_zero, List.set_cons_succ]
  refine wpAnyH_take (i := 11) (oi := ⟨some 30, _, _, _, _, _⟩) (v := ?_) rfl (by kernel_rfl) (by kernel_rfl) (by kernel_rfl) (fun _ _ _ h => h) (Or.inl ⟨by rfl, ?_⟩) hS3s ?_
  rotate_left 1
  · (intro w hSw; obtain ⟨hSw1, hSw2⟩ := hSw; go_simp; try with_reducible rfl)
  simp only [Act.put, List.setIfInBounds_toArray, List.set_cons_zero, List.set_cons_succ]
  refine wpAnyH_ready (rs := [12]) (by kernel_rfl) (by simp) ?_
  refine AllReadyH.cons (o := ⟨some 7, _, _, _, _, _⟩) rfl (fun K hK => ?_) AllReadyH.nil
  go_simp
  have hX := Mx.new w2.drew 0 ⟨#[]⟩
  have HS3 := hide (HS2.out.drew.below (mx_below w2.drew 0 ⟨#[]⟩))
  have hS3 := Held.blk HS3.out HBI.out HJI.out HZ.out HD.out HVC.out
  refine hK.out _ _ hS3 (fun hHeld => ?_)
  clear hK K
  clear hHeld
  refine wpAnyH_ready (rs := [13]) (by kernel_rfl) (by simp) ?_
  refine AllReadyH.cons (o := ⟨none, _, _, _, _, _⟩) rfl (fun K hK => ?_) AllReadyH.nil
  have hz0 := hX.c0
  have hz1 := hX.c1
  have hy0 := hX.free 0
  have hy1 := hX.free 1
  go_simp
  have HS5 := hide (St.drew (St.blk_new HS2.out (mcs t d) 112))
  have hS5 := Held.blk HS5.out HBI5.out HJI5.out HZ.out HD.out HVC.out
  refine hK.out _ _ hS5 (fun hHeld => ?_)
  clear hK K
  clear hHeld
  refine wpAnyH_done (by kernel_rfl) ?_ _
  skip
  clear hz0 hz1 hy0 hy1 hS3 hS5 hS3s HS3 hX
  obtain ⟨x, hx⟩ : ∃ x, w2.heap.size = x := ⟨_, rfl⟩
  rw [hx] at HS5 HAI5 HBI5 HJI5 HXI
  try rw [hx]
  generalize (w2.alloc _).drew = w5 at *
  have hS5d := Held.four HS5.out.drew HBI5.out HJI5.out HXI.out
  have HBI8 := hide (show (((Ts ++ [blkT w.heap.size (hcs t m) 73]) ++ [blkT x (mcs t d) 112]).set a (dskT q S (L ++ [(at2 t j, bsec t d)])))[b]? = some (imgT p q i n k) by rw [List.getElem?_set_ne HAB.out]; exact HBI5.out)
  have HJI8 := hide (show (((Ts ++ [blkT w.heap.size (hcs t m) 73]) ++ [blkT x (mcs t d) 112]).set a (dskT q S (L ++ [(at2 t j, bsec t d)])))[Ts.length]? = some (blkT w.heap.size (hcs t m) 73) by rw [List.getElem?_set_ne (by have := HAL.out; omega)]; exact HJI5.out)
  have HXI8 := hide (show (((Ts ++ [blkT w.heap.size (hcs t m) 73]) ++ [blkT x (mcs t d) 112]).set a (dskT q S (L ++ [(at2 t j, bsec t d)])))[Ts.length + 1]? = some (blkT x (mcs t d) 112) by rw [List.getElem?_set_ne (by have := HAL.out; omega)]; exact HXI.out)
  clear hx HAI HBI HJI HS2 hv4 hc8
  go_wp2_with fail
  refine wp_region_held (S := (fun W => W.cell? ⟨p, 0, none⟩ = some (.pointer (some ⟨q, 0, none⟩)) ∧ W.cell? ⟨w.heap.size, 0, none⟩ = some (.int .i64 (t : Int)) ∧ W.cell? ⟨x, 0, none⟩ = some (.int .i64 (t : Int)) ∧ W.cell? ⟨x, 1, none⟩ = some (.string d))) (by kernel_rfl) ?_
  change wpAnyH _ _ _ _ _ _ _ _ (World.drew _)
  refine wpAnyH_take (i := 0) (oi := ⟨some 31, _, _, _, _, _⟩) (v := ?_) rfl (by kernel_rfl) (by kernel_rfl) (by kernel_rfl) (fun _ _ _ h => h) (Or.inl ⟨by rfl, ?_⟩) hS5d ?_
  rotate_left 1
  · (intro w hSw; obtain ⟨hSw1, hSw2, hSw3, hSw4⟩ := hSw; go_simp; try with_reducible rfl)
  simp only [Act.put, List.setIfInBounds_toArray, List.set_cons_zero, List.set_cons_succ]
  refine wpAnyH_take (i := 1) (oi := ⟨some 32, _, _, _, _, _⟩) (v := ?_) rfl (by kernel_rfl) (by kernel_rfl) (by kernel_rfl) (fun _ _ _ h => h) (Or.inl ⟨by rfl, ?_⟩) hS5d ?_
  rotate_left 1
  · (intro w hSw; obtain ⟨hSw1, hSw2, hSw3, hSw4⟩ := hSw; go_simp; try with_reducible rfl)
  simp only [Act.put, List.setIfInBounds_toArray, List.set_cons_zero, List.set_cons_succ]
  refine wpAnyH_take (i := 2) (oi := ⟨some 33, _, _, _, _, _⟩) (v := ?_) rfl (by kernel_rfl) (by kernel_rfl) (by kernel_rfl) (fun _ _ _ h => h) (Or.inl ⟨by rfl, ?_⟩) hS5d ?_
  rotate_left 1
  · (intro w hSw; obtain ⟨hSw1, hSw2, hSw3, hSw4⟩ := hSw; go_simp; try with_reducible rfl)
  simp only [Act.put, List.setIfInBounds_toArray, List.set_cons_zero, List.set_cons_succ]
  refine wpAnyH_take (i := 3) (oi := ⟨some 34, _, _, _, _, _⟩) (v := ?_) rfl (by kernel_rfl) (by kernel_rfl) (by kernel_rfl) (fun _ _ _ h => h) (Or.inl ⟨by rfl, ?_⟩) hS5d ?_
  rotate_left 1
  · (intro w hSw; obtain ⟨hSw1, hSw2, hSw3, hSw4⟩ := hSw; go_simp; try with_reducible rfl)
  simp only [Act.put, List.setIfInBounds_toArray, List.set_cons_zero, List.set_cons_succ]
  refine wpAnyH_take (i := 4) (oi := ⟨some 35, _, _, _, _, _⟩) (v := ?_) rfl (by kernel_rfl) (by kernel_rfl) (by kernel_rfl) (fun _ _ _ h => h) (Or.inl ⟨by rfl, ?_⟩) hS5d ?_
  rotate_left 1
  · (intro w hSw; obtain ⟨hSw1, hSw2, hSw3, hSw4⟩ := hSw; go_simp; try with_reducible rfl)
  simp only [Act.put, List.setIfInBounds_toArray, List.set_cons_zero, List.set_cons_succ]
  refine wpAnyH_take (i := 5) (oi := ⟨some 36, _, _, _, _, _⟩) (v := ?_) rfl (by kernel_rfl) (by kernel_rfl) (by kernel_rfl) (fun _ _ _ h => h) (Or.inl ⟨by rfl, ?_⟩) hS5d ?_
  rotate_left 1
  · (intro w hSw; obtain ⟨hSw1, hSw2, hSw3, hSw4⟩ := hSw; go_simp; try with_reducible rfl)
  simp only [Act.put, List.setIfInBounds_toArray, List.set_cons_zero, List.set_cons_succ]
  refine wpAnyH_take (i := 6) (oi := ⟨some 37, _, _, _, _, _⟩) (v := ?_) rfl (by kernel_rfl) (by kernel_rfl) (by kernel_rfl) (fun _ _ _ h => h) (Or.inl ⟨by rfl, ?_⟩) hS5d ?_
  rotate_left 1
  · (intro w hSw; obtain ⟨hSw1, hSw2, hSw3, hSw4⟩ := hSw; go_simp; try with_reducible rfl)
  simp only [Act.put, List.setIfInBounds_toArray, List.set_cons_zero, List.set_cons_succ]
  refine wpAnyH_take (i := 8) (oi := ⟨some 39, _, _, _, _, _⟩) (v := ?_) rfl (by kernel_rfl) (by kernel_rfl) (by kernel_rfl) (fun _ _ _ h => h) (Or.inl ⟨by rfl, ?_⟩) hS5d ?_
  rotate_left 1
  · (intro w hSw; obtain ⟨hSw1, hSw2, hSw3, hSw4⟩ := hSw; go_simp; try with_reducible rfl)
  simp only [Act.put, List.setIfInBounds_toArray, List.set_cons_zero, List.set_cons_succ]
  refine wpAnyH_ready (rs := [7]) (by kernel_rfl) (by simp) ?_
  refine AllReadyH.cons (o := ⟨some 38, _, _, _, _, _⟩) rfl (fun K hK => ?_) AllReadyH.nil
  go_simp
  refine (sector_any t j (by have := HJ32.out; omega) _).mono ?_
  rintro r w6 ⟨rfl, hw6⟩
  rw [← hw6]
  clear hw6
  refine hK.out _ _ hS5d (fun hHeld => ?_)
  clear hK K
  clear hHeld
  refine wpAnyH_ready (rs := [9]) (by kernel_rfl) (by simp) ?_
  refine AllReadyH.cons (o := ⟨some 40, _, _, _, _, _⟩) rfl (fun K hK => ?_) AllReadyH.nil
  go_simp
  refine (bencode_any t d w5.drew (HT.out.below HS5.out.drew.bel HT.out.pos) HDS.out).mono ?_
  rintro r w7 ⟨pb, ob, cb, rfl, _, _, hby7, hb7⟩
  have HS7 := hide (HS5.out.drew.below hb7)
  have hS7 := Held.four HS7.out HBI5.out HJI5.out HXI.out
  have HY7 := hide hby7
  clear hb7 hby7
  refine hK.out _ _ hS7 (fun hHeld => ?_)
  clear hK K
  clear hHeld
  refine wpAnyH_ready (rs := [10]) (by kernel_rfl) (by simp) ?_
  refine AllReadyH.cons (o := ⟨some 41, _, _, _, _, _⟩) rfl (fun K hK => ?_) AllReadyH.nil
  go_simp
  refine (St.wr HS7.out HAI5.out (i := at2 t j) (by have := at2_lt t HJ32.out; have := H66.out; omega) HY7.out (bsec_length t HDS.out) HL.out).mono ?_
  rintro r w8 ⟨rfl, hs8⟩
  have HS8 := hide hs8
  have hS8 := Held.four HS8.out HBI8.out HJI8.out HXI8.out
  clear hs8
  refine hK.out _ _ hS8 (fun hHeld => ?_)
  clear hK K
  clear hHeld
  refine wpAnyH_done (by kernel_rfl) ?_ _
  skip
  clear hS5d hS7 hS8
  go_wp2
  go_end0
  refine ⟨rfl, ?_⟩
  have := HS8.out
  rw [List.append_assoc, List.set_append_left _ _ HAL.out] at this
  rw [HTM.out.1]
  exact St.left this
/-- What Step leaves. -/
abbrev stepped (Ts : List Thg) (a b p q : Nat) (i n : Img) (k : Nat) (S : List Sec) (L : List Wr) : List Thg := (Ts.set a (dskT q S L)).set b (imgT p q i n k)
theorem St.img_done (h : St w0 Ts w) (hb : Ts[b]? = some (imgT p q i n k)) (hz : Sz i n) (x : Nat) : St w0 (Ts.set b (imgT p q i n x)) (w.setCell ⟨p, 69, none⟩ (.int .i64 (x : Int))) := by
  have := (St.blk h hb).2.2.2 69 (.int .i64 (x : Int))
  rwa [ics_done hz] at this
/-- A store of cells in the midst of a block, the world behind it under a name of its own. -/
theorem wpList_row_told {P : Program} {ops : Array Oper} {rest : List Oper} {op : Oper} {a : Act} {w : World} {Q : Exit → Act → World → Prop} (hgd : op.guard = none) (ty : TypeId) (x y : Operand) (ho : op.op = .store ty x y)
    (g o : Nat) (cs : List Value) (hx : a.eval x = .pointer (some ⟨g, o, none⟩)) (hy : a.eval y = .agg cs.toArray) (t : TypeId) (cur : Array Value) (hg : w.heap[g]? = some (.cells cur t (0, 0)))
    (hi : (P.info? ty).map (·.size) = some cs.length) (hfit : o + cs.length ≤ cur.size) (h1 : ∀ v ∈ cs, v.oneCell' = true)
    (h : ∀ w', Hid (w' = w.setRow g (cur.toList.take o ++ (cs ++ cur.toList.drop (o + cs.length))).toArray) → wpList P ops Q rest (a.put op.dst undef) w') : wpList P ops Q (op :: rest) a w :=
  wpList_store_at hgd ty x y ho g o cs hx hy t cur hg hi hfit h1 (h _ rfl)
theorem Step_nil (w : World) : Calls Tryz.prog 17 #[.pointer none] w fun e w' => ∃ pp, e = .returned (.tuple #[.bool false, .iface 120 (.pointer (some ⟨pp, 0, none⟩))]) ∧ Flt w' pp 0 11 ∧ Below w.heap.size w w' := by
  go_enter Tryz.func17, Tryz.ntmps17
  go_wp2_with fail
  refine (failed_any 0 11 w rfl).mono ?_
  rintro r w2 ⟨pp, rfl, hf, hb⟩
  have HF := hide hf
  have HB := hide hb
  clear hf hb
  go_wp2
  go_ret2
  exact ⟨pp, rfl, HF.out, HB.out⟩
theorem Step_idle (h : St w0 Ts w) (hb : Ts[b]? = some (imgT p q i im0 k)) (hz : Sz i im0) : Calls Tryz.prog 17 #[.pointer (some ⟨p, 0, none⟩)] w fun e w' => ∃ pp, e = .returned (.tuple #[.bool false, .iface 120 (.pointer (some ⟨pp, 0, none⟩))]) ∧ (Flt w' pp 0 9 ∧ w.heap.size ≤ pp) ∧ Below w.heap.size w w' := by
  have HB0 := hide (Busy_any (St.ib h hb) hz false (decide_eq_false (Nat.lt_irrefl 0)))
  clear h hb hz
  go_enter Tryz.func17, Tryz.ntmps17
  go_wp2_with fail
  refine HB0.out.mono ?_
  rintro r w2 ⟨rfl, rfl⟩
  clear HB0
  go_wp2_with fail
  refine (failed_new 0 9 w rfl).mono ?_
  rintro r w2 ⟨pp, rfl, hf, hb⟩
  have HF := hide hf
  have HB := hide hb
  clear hf hb
  go_wp2
  go_ret2
  exact ⟨pp, rfl, HF.out, HB.out⟩
/-- A step that perform does. -/
def Does (w0 : World) (Ts : List Thg) (a _b p q k : Nat) (_i _n : Img) (_S : List Sec) (_L : List Wr) (S' : List Sec) (L' : List Wr) : Prop :=
  ∀ w, St w0 Ts w → Calls Tryz.prog 41 #[.pointer (some ⟨p, 0, none⟩), .int .i64 (k : Int)] w fun e w' => e = .returned (.tuple #[]) ∧ St w0 (Ts.set a (dskT q S' L')) w'
section
variable {S' : List Sec} {L' : List Wr}
set_option maxRecDepth 100000 in
set_option maxHeartbeats 2000000 in
theorem Step_more (h : St w0 Ts w) (hb : Ts[b]? = some (imgT p q i n k)) (hab : a ≠ b) (hz : Sz i n) (hn : 0 < n.t) (k1 : Nat) (hk : k < 34) (hk0 : k1 = k + 1) (hp : Does w0 Ts a b p q k i n S L S' L') :
    Calls Tryz.prog 17 #[.pointer (some ⟨p, 0, none⟩)] w fun e w' => e = .returned (.tuple #[.bool false, .nilIface]) ∧ St w0 (stepped Ts a b p q i n k1 S' L') w' := by
  have hib := St.ib h hb
  have HB0 := hide (Busy_any hib hz true (decide_eq_true hn))
  have hc := hib.done hz
  have hk1 : (k : Int) + 1 = (k1 : Int) := by omega
  have hk2 : (k1 : Int) < 35 := by omega
  have HH := hide h
  have HBI := hide hb
  have HAB := hide hab
  have HZ := hide hz
  have HP := hide hp
  clear h hb hab hz hp hib hn hk hk0
  go_enter Tryz.func17, Tryz.ntmps17
  go_wp2_with fail
  refine HB0.out.mono ?_
  rintro r w2 ⟨rfl, rfl⟩
  clear HB0
  go_wp2_with fail
  refine (HP.out w HH.out).mono ?_
  rintro r w3 ⟨rfl, hs3⟩
  have HBI3 := hide (show (Ts.set a (dskT q S' L'))[b]? = some (imgT p q i n k) by rw [List.getElem?_set_ne HAB.out]; exact HBI.out)
  have hib3 := St.ib hs3 HBI3.out
  have hc3 := hib3.done HZ.out
  have hf3 := hib3.free 69
  have HS4 := hide (St.img_done hs3 HBI3.out HZ.out k1)
  clear hs3 hib3 hc HH HP
  go_wp2
  go_ret2
  exact ⟨rfl, HS4.out⟩
set_option maxRecDepth 100000 in
set_option maxHeartbeats 2000000 in
theorem Step_last (h : St w0 Ts w) (hb : Ts[b]? = some (imgT p q i n 34)) (hab : a ≠ b) (hz : Sz i n) (hn : 0 < n.t) (hp : Does w0 Ts a b p q 34 i n S L S' L') :
    Calls Tryz.prog 17 #[.pointer (some ⟨p, 0, none⟩)] w fun e w' => e = .returned (.tuple #[.bool true, .nilIface]) ∧ St w0 (stepped Ts a b p q n im0 0 S' L') w' := by
  have hib := St.ib h hb
  have HB0 := hide (Busy_any hib hz true (decide_eq_true hn))
  have hc := hib.done hz
  have hc' : w.cell? ⟨p, 69, none⟩ = some (.int .i64 34) := hc
  have HH := hide h
  have HBI := hide hb
  have HAB := hide hab
  have HZ := hide hz
  have HP := hide hp
  clear h hb hab hz hp hib hn hc
  go_enter Tryz.func17, Tryz.ntmps17
  go_wp2_with fail
  refine HB0.out.mono ?_
  rintro r w2 ⟨rfl, rfl⟩
  clear HB0
  go_wp2_with fail
  refine (HP.out w HH.out).mono ?_
  rintro r w3 ⟨rfl, hs3⟩
  have HBI3 := hide (show (Ts.set a (dskT q S' L'))[b]? = some (imgT p q i n 34) by rw [List.getElem?_set_ne HAB.out]; exact HBI.out)
  have hib3 := St.ib hs3 HBI3.out
  have hc3 : w3.cell? ⟨p, 69, none⟩ = some (.int .i64 34) := hib3.done HZ.out
  have hf3 := hib3.free 69
  have HS4 := hide (show St w0 ((Ts.set a (dskT q S' L')).set b (imgT p q i n 35)) (w3.setCell ⟨p, 69, none⟩ (.int .i64 35)) from St.img_done hs3 HBI3.out HZ.out 35)
  have HBI4 := hide (show ((Ts.set a (dskT q S' L')).set b (imgT p q i n 35))[b]? = some (imgT p q i n 35) from List.getElem?_set_self (List.getElem?_eq_some_iff.1 HBI3.out).1)
  have HIB4 := hide (St.ib HS4.out HBI4.out)
  have HR4 := hide (HIB4.out.next HZ.out)
  have HSL := hide (show (scl n).length = 34 from scl_length HZ.out.n)
  clear hs3 hib3 hc' HH HP
  go_wp2_with (first | with_reducible refine wpList_load_mid rfl 77 (.tmp 36) rfl p 35 rfl (scl n) _ HR4.out Tryz.underlying77 rfl (by rw [HSL.out]; kernel_rfl) ?_ | refine wpList_row_told rfl 77 (.tmp 40) (.tmp 37) rfl p 1 (scl n) rfl rfl 79 (ics q i n 35) HIB4.out.heap (by rw [HSL.out]; kernel_rfl) (by rw [HSL.out, List.size_toArray, icl_length HZ.out]; omega) (scl_one _) ?_)
  intro w5 H5
  have HS5 := hide (show St w0 (((Ts.set a (dskT q S' L')).set b (imgT p q i n 35)).set b (imgT p q n n 35)) w5 by
    rw [H5.out, (icl_now_row (q := q) (k := 35) HZ.out n).resolve_right (fun h => h HZ.out.n)]
    exact St.img_row HS4.out HBI4.out n n 35)
  rw [List.set_set] at HS5
  have HBI5 := hide (show ((Ts.set a (dskT q S' L')).set b (imgT p q n n 35))[b]? = some (imgT p q n n 35) from List.getElem?_set_self (List.getElem?_eq_some_iff.1 HBI3.out).1)
  have HIB5 := hide (St.ib HS5.out HBI5.out)
  have HZ5 := hide (show Sz n n from ⟨HZ.out.n, HZ.out.n⟩)
  clear H5 HIB4 HR4 HS4 HBI4 hc3 hf3
  go_wp2_with (refine wpList_row_told rfl 77 (.tmp 42) (.tmp 38) rfl p 35 (scl im0) rfl (by kernel_rfl) 79 (ics q n n 35) HIB5.out.heap (by kernel_rfl) (by rw [List.size_toArray, icl_length HZ5.out, scl_length rfl]; omega) (scl_one _) ?_)
  intro w6 H6
  have HS6 := hide (show St w0 (((Ts.set a (dskT q S' L')).set b (imgT p q n n 35)).set b (imgT p q n im0 35)) w6 by
    rw [H6.out, icl_next_row (q := q) (k := 35) HZ5.out im0 rfl]
    exact St.img_row HS5.out HBI5.out n im0 35)
  rw [List.set_set] at HS6
  have HBI6 := hide (show ((Ts.set a (dskT q S' L')).set b (imgT p q n im0 35))[b]? = some (imgT p q n im0 35) from List.getElem?_set_self (List.getElem?_eq_some_iff.1 HBI3.out).1)
  have hz6 : Sz n im0 := ⟨HZ.out.n, rfl⟩
  have hib6 := St.ib HS6.out HBI6.out
  have hc6 : w6.cell? ⟨p, 69, none⟩ = some (.int .i64 35) := hib6.done hz6
  have hf6 := hib6.free 69
  have HS7 := hide (show St w0 ((Ts.set a (dskT q S' L')).set b (imgT p q n im0 0)) (w6.setCell ⟨p, 69, none⟩ (.int .i64 0)) by
    have := St.img_done HS6.out HBI6.out hz6 0
    rwa [List.set_set] at this)
  clear H6 HIB5 HS5 HBI5 hib6 hz6 HS6
  go_wp2
  go_ret2
  exact ⟨rfl, HS7.out⟩

end
end

end Go.Proofs.YtnmpckhlpkmojaaGreatDoor.Im
