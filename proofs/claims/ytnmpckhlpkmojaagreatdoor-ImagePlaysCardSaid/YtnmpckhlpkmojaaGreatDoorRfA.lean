/-
  The reference's contracts: Of, Seal, Open and Sector of package isobarref02. Nothing that was there is changed.
-/
import Derived.Lib.IndexBytes
import Derived.Test.YtnmpckhlpkmojaaGreatDoorPkLaw
import Derived.Test.YtnmpckhlpkmojaaGreatDoorSmJoin

/-
  The contracts of the reference reader (isobarref01): wrong, Number, Text and End; each tells what is returned and what the reader then has, in the same words as those of pack's reader; nothing but its own block is changed.
-/
namespace Go.Proofs.YtnmpckhlpkmojaaGreatDoor.Pk
open Go.RowKit

/-- The reference reader's block. -/
def Rr (w : World) (g : Nat) (s : ByteArray) (e : Nat) : Prop :=
  w.heap[g]? = some (.cells #[.string s, .int .i64 (e : Int)] 88 (0, 0))

theorem Rr.lt {w : World} {g : Nat} {s : ByteArray} {e : Nat} (h : Rr w g s e) : g < w.heap.size := (Array.getElem?_eq_some_iff.1 h).1

/-- A list's bytes as a string. -/
def str (l : List UInt8) : ByteArray := ⟨l.toArray⟩
theorem str_data (l : List UInt8) : (str l).data.toList = l := rfl
theorem str_size (l : List UInt8) : (str l).size = l.length := by simp [str, ByteArray.size]
theorem str_of (s : ByteArray) (l : List UInt8) (h : s.data.toList = l) : s = str l := by
  subst h
  rfl

theorem rr_set {w : World} {g e : Nat} {s s' : ByteArray} (h : Rr w g s e) : Rr (w.setCell ⟨g, 0, none⟩ (.string s')) g s' e ∧ w.grownBy (w.setCell ⟨g, 0, none⟩ (.string s')) (some g) :=
  ⟨heap_setCell_same w g 0 _ _ (.string s') h, ⟨rfl, rfl, rfl, by simp, fun j _ hj => heap_setCell_other _ ⟨g, 0, none⟩ j _ (fun e => hj (by rw [e]))⟩⟩

set_option maxHeartbeats 400000 in
theorem wrong_any (g e e' : Nat) (s : ByteArray) (w : World) (h : Rr w g s e) :
    Calls Tryz.prog 55 #[.pointer (some ⟨g, 0, none⟩), .int .i64 (e' : Int)] w fun r w' => r = .returned (.tuple #[]) ∧ Rr w' g ⟨#[]⟩ e' ∧ w.grownBy w' (some g) := by
  have hc0 := blk_cell0 h
  have hc1 := blk_cell1 h
  have hf0 := blk_free h 0
  have hf1 := blk_free h 1
  have R1 := heap_setCell_same w g 1 _ _ (.int .i64 (e' : Int)) h
  have R2 := heap_setCell_same (w.setCell ⟨g, 1, none⟩ (.int .i64 (e' : Int))) g 0 _ _ (.string ⟨#[]⟩) R1
  have R3 : w.grownBy ((w.setCell ⟨g, 1, none⟩ (.int .i64 (e' : Int))).setCell ⟨g, 0, none⟩ (.string ⟨#[]⟩)) (some g) :=
    ⟨rfl, rfl, rfl, by simp, fun k _ hk => by
      have hne : k ≠ g := fun e => hk (by rw [e])
      rw [heap_setCell_other _ ⟨g, 0, none⟩ k _ hne, heap_setCell_other _ ⟨g, 1, none⟩ k _ hne]⟩
  have H2 := hide R2
  have H3 := hide R3
  clear h R1 R2 R3
  go_enter Tryz.func55, Tryz.ntmps55
  go_wp2
  go_end0
  exact ⟨rfl, H2.out, H3.out⟩

theorem pow_small (k : Nat) (h : k ≤ 8) : 128 ^ k ≤ 72057594037927936 := by have := pow_le k h; rw [pow8] at this; exact this

theorem decF_bad8 (acc : Nat) (x : UInt8) (r : List UInt8) (h : 15 < x.toNat) : decF 8 acc (x :: r) = (0, 0, 1) := by
  rcases Nat.lt_or_ge x.toNat 128 with h1 | h1
  · refine way_big 8 acc x r ?_
    rw [Nat.mod_eq_of_lt h1, pow8]
    omega
  · exact way_nine acc x r h1

theorem sum_le (k acc d : Nat) (hk : k ≤ 8) (ha : acc < 128 ^ k) (h8 : k = 8 → d ≤ 15) : acc + d % 128 * 128 ^ k ≤ 1152921504606846975 := by
  rcases Nat.lt_or_ge k 8 with h | h
  · exact acc_le k acc _ (by omega) ha (by omega)
  · have e : k = 8 := by omega
    subst e
    have := h8 rfl
    rw [Nat.mod_eq_of_lt (by omega), pow8] at *
    omega

theorem num_step (acc d P : Nat) (h : acc + d % 128 * P ≤ 1152921504606846975) : wrap64 ((acc : Int) + wrap64 ((d : Int) % 128 * (P : Int))) = ((acc + d % 128 * P : Nat) : Int) := by
  have hmul : ((d : Int) % 128 * (P : Int)) = ((d % 128 * P : Nat) : Int) := by simp
  rw [hmul]
  generalize d % 128 * P = Z at *
  have e1 : wrap64 ((Z : Nat) : Int) = ((Z : Nat) : Int) := IntWalk.wrap64_in _ ⟨by omega, by omega⟩
  rw [e1]
  have e2 : (acc : Int) + (Z : Int) = ((acc + Z : Nat) : Int) := by omega
  rw [e2]
  exact IntWalk.wrap64_in _ ⟨by omega, by omega⟩

theorem cut_str (s : ByteArray) (k : Nat) : s.extract k s.size = str (s.data.toList.drop k) := str_of _ _ (Lib.extract_to_end s k)

/-- What the reference's Number comes to, told as the walk wants it. -/
theorem ref_ok (s : ByteArray) (n m : Nat) (h : dec s.data.toList = (n, m, 0)) : rnum s.data.toList 0 = (n, s.data.toList.drop m, 0) := rnum_ok _ n m h

set_option maxHeartbeats 1000000 in
set_option maxRecDepth 100000 in
theorem RNumber_zero (g : Nat) (s : ByteArray) (w : World) (h : Rr w g s 0) (hs : s.size ≤ 9223372036854775807) (n : Nat) (l1 : List UInt8) (e1 : Nat) (Hr : Hid (rnum s.data.toList 0 = (n, l1, e1))) :
    Calls Tryz.prog 35 #[.pointer (some ⟨g, 0, none⟩)] w fun r w' =>
      r = .returned (.int .i64 (n : Int)) ∧ Rr w' g (str l1) e1 ∧ w.grownBy w' (some g) := by
  have hc0 := blk_cell0 h
  have hc1 := blk_cell1 h
  have hf0 := blk_free h 0
  have hl : s.data.toList.length = s.size := Array.length_toList
  have Hl := hide hl
  clear hl
  go_enter Tryz.func35, Tryz.ntmps35
  go_wp2
  go_loop [3, 4, 5] (fun a u i => ∃ (k acc : Nat), k ≤ 8 ∧ k ≤ s.size ∧ i = .int .i64 k ∧ u = .int .i64 ((128 ^ k : Nat) : Int) ∧ a = .int .i64 acc ∧ Hid (acc < 128 ^ k) ∧ Hid (dec s.data.toList = decF k acc (s.data.toList.drop k))) (fun _ _ i => 9 - (intOf i).toNat)
  case atStart => exact ⟨0, 0, by omega, by omega, rfl, rfl, rfl, Nat.one_pos, rfl⟩
  case round =>
    obtain ⟨k, acc, hk8, hks, rfl, rfl, rfl, hacc, hd⟩ := hrel
    obtain ⟨P, hP⟩ : ∃ P : Nat, P = 128 ^ k := ⟨_, rfl⟩
    have hPs : P ≤ 72057594037927936 := by rw [hP]; exact pow_small k hk8
    rw [← hP]
    by_cases hlt : k < s.size
    · obtain ⟨x, hx, hsx⟩ : ∃ x : UInt8, s.data.toList[k]? = some x ∧ s[k]'hlt = x := ⟨s[k]'hlt, by rw [List.getElem?_eq_getElem (by rw [Hl.out]; exact hlt)]; rfl, rfl⟩
      obtain ⟨d, hd'⟩ : ∃ d : Nat, d = x.toNat := ⟨_, rfl⟩
      have hdl : d < 256 := by rw [hd']; exact x.toNat_lt
      have hw : wrap64 ((s[k]'hlt).toNat : Int) = (d : Int) := by rw [hsx, ← hd']; exact IntWalk.wrap64_in _ ⟨by omega, by omega⟩
      have hd2 := hd.out
      rw [drop_at _ k x hx] at hd2
      have Hd2 := hide hd2
      have Hd := hide hd'
      have HP := hide hP
      clear hd hd2 hd' hP hx hsx
      by_cases hb8 : k = 8 ∧ 15 < d
      · have hres : Hid ((n, l1, e1) = (0, [], 1)) := by
          obtain ⟨rfl, h15⟩ := hb8
          have := Hd2.out
          rw [decF_bad8 acc x _ (by rw [← Hd.out]; exact h15)] at this
          have := rnum_bad _ 0 0 1 this (by omega)
          rw [Hr.out] at this
          exact this
        obtain ⟨h8, h15⟩ := hb8
        have h8' : 8 ≤ k := by omega
        clear h8 Hd2 Hd HP Hr
        go_wp2_with fail
        refine (wrong_any g 0 1 s w h).mono ?_
        rintro r w2 ⟨rfl, hr2, hg2⟩
        obtain ⟨rfl, rfl, rfl⟩ : n = 0 ∧ l1 = [] ∧ e1 = 1 := by simpa using hres.out
        go_wp2
        go_ret
        exact ⟨rfl, hr2, hg2⟩
      · have hsum := sum_le k acc d hk8 hacc.out (by omega)
        obtain ⟨M, hM⟩ : ∃ M : Nat, M = acc + d % 128 * 128 ^ k := ⟨_, rfl⟩
        have hw2 := num_step acc d P (by rw [HP.out]; exact hsum)
        rw [HP.out, ← hM, ← HP.out] at hw2
        have HM : Hid (M = acc + x.toNat % 128 * 128 ^ k) := by rw [← Hd.out]; exact hM
        have hMs : M ≤ 1152921504606846975 := by rw [hM]; exact hsum
        clear hM hsum
        rcases Nat.lt_or_ge d 128 with hlo | hhi
        · by_cases hz : 0 < k ∧ d = 0
          · have hres : Hid ((n, l1, e1) = (0, [], 1)) := by
              have := Hd2.out
              rw [way_zero k acc x _ (by rw [← Hd.out]; exact hz.2) hz.1] at this
              have := rnum_bad _ 0 0 1 this (by omega)
              rw [Hr.out] at this
              exact this
            obtain ⟨hk0, hd0⟩ := hz
            have hd1 : d < 1 := by omega
            clear hd0 Hd2 Hd HP Hr HM
            go_wp2_with fail
            all_goals
              refine (wrong_any g 0 1 s w h).mono ?_
              rintro r w2 ⟨rfl, hr2, hg2⟩
              obtain ⟨rfl, rfl, rfl⟩ : n = 0 ∧ l1 = [] ∧ e1 = 1 := by simpa using hres.out
              go_wp2
              go_ret
              exact ⟨rfl, hr2, hg2⟩
          · have hres : Hid ((n, l1, e1) = (M, s.data.toList.drop (k + 1), 0)) := by
              have h1 := Hd2.out
              have hx := Hd.out
              have hm := HM.out
              rw [Nat.mod_eq_of_lt (by omega)] at hm
              rw [decF_last k acc x _ (by omega) (by omega) (by omega), ← hm] at h1
              have := rnum_ok _ _ _ h1
              rw [Hr.out] at this
              exact this
            have R := rr_set (s' := str (s.data.toList.drop (k + 1))) h
            have hcut := cut_str s (k + 1)
            have HR := hide R
            clear Hd2 Hd HP Hr HM R
            generalize hS : str (s.data.toList.drop (k + 1)) = S1 at *
            have HF : Hid (n = M ∧ str l1 = S1 ∧ e1 = 0) := by
              obtain ⟨h1, h2, h3⟩ : n = M ∧ l1 = s.data.toList.drop (k + 1) ∧ e1 = 0 := by simpa using hres.out
              exact ⟨h1, by rw [h2]; exact hS, h3⟩
            clear hS
            rcases Nat.lt_or_ge 0 d with h0 | h0
            · go_wp2
              all_goals
                go_ret
                obtain ⟨rfl, h2, rfl⟩ := HF.out
                rw [h2]
                first
                  | exact ⟨rfl, HR.out⟩
                  | (have hk9 : k = 8 := by omega
                     subst hk9
                     have e9 : s.extract 9 s.size = S1 := hcut
                     rw [e9]
                     exact ⟨rfl, HR.out⟩)
            · have hk0 : k < 1 := by omega
              clear hz
              go_wp2
              all_goals
                go_ret
                obtain ⟨rfl, h2, rfl⟩ := HF.out
                rw [h2]
                first
                  | exact ⟨rfl, HR.out⟩
                  | (have hk9 : k = 8 := by omega
                     subst hk9
                     have e9 : s.extract 9 s.size = S1 := hcut
                     rw [e9]
                     exact ⟨rfl, HR.out⟩)
        · have hk7 : k ≤ 7 := by omega
          have hP7 : P ≤ 562949953421312 := by
            rw [HP.out]
            have : 128 ^ k ≤ 128 ^ 7 := Nat.pow_le_pow_right (by omega) hk7
            exact this
          have hPn : P * 128 = 128 ^ (k + 1) := by rw [HP.out, Nat.pow_succ]
          have hPn' : (P : Int) * 128 = ((128 ^ (k + 1) : Nat) : Int) := by rw [← hPn]; simp
          have hres : Hid (dec s.data.toList = decF (k + 1) M (s.data.toList.drop (k + 1))) := by
            have h1 := Hd2.out
            have hx := Hd.out
            rw [decF_more k acc x _ (by rw [← HM.out]; exact hMs) (by omega) (by omega), ← HM.out] at h1
            exact h1
          have hma : Hid (M < 128 ^ (k + 1)) := by rw [HM.out]; exact acc_lt k acc _ hacc.out (by omega)
          have HPn := hide hPn'
          clear Hd2 Hd HP Hr HM hPn hPn'
          go_wp2
          go_round
          case rel => exact ⟨k + 1, M, by omega, by omega, by go_num, by rw [HPn.out], by rw [hw2], hma, hres⟩
          case measure => simp [intOf]; omega
    · have hres : Hid ((n, l1, e1) = (0, [], 2)) := by
        have h1 := hd.out
        rw [List.drop_eq_nil_of_le (by rw [Hl.out]; omega)] at h1
        have := rnum_bad _ 0 0 2 h1 (by omega)
        rw [Hr.out] at this
        exact this
      clear hd hP Hr
      go_wp2_with fail
      refine (wrong_any g 0 2 s w h).mono ?_
      rintro r w2 ⟨rfl, hr2, hg2⟩
      obtain ⟨rfl, rfl, rfl⟩ : n = 0 ∧ l1 = [] ∧ e1 = 2 := by simpa using hres.out
      go_wp2
      go_ret
      exact ⟨rfl, hr2, hg2⟩

set_option maxHeartbeats 400000 in
theorem RNumber_err (g e : Nat) (s : ByteArray) (w : World) (h : Rr w g s e) (he : 0 < e) :
    Calls Tryz.prog 35 #[.pointer (some ⟨g, 0, none⟩)] w fun r w' => r = .returned (.int .i64 0) ∧ w = w' := by
  have hc1 := blk_cell1 h
  clear h
  go_enter Tryz.func35, Tryz.ntmps35
  go_wp2
  go_ret
  exact ⟨rfl, rfl⟩

theorem RNumber_rd (g e : Nat) (l : List UInt8) (w : World) (h : Rr w g (str l) e) (hs : l.length ≤ 9223372036854775807) :
    Calls Tryz.prog 35 #[.pointer (some ⟨g, 0, none⟩)] w fun r w' =>
      r = .returned (.int .i64 ((rnum l e).1 : Int)) ∧ Rr w' g (str (rnum l e).2.1) (rnum l e).2.2 ∧ w.grownBy w' (some g) := by
  rcases Nat.eq_zero_or_pos e with he | he
  · subst he
    exact RNumber_zero g (str l) w h (by rw [str_size]; exact hs) _ _ _ rfl
  · rw [rnum_err l e (by omega)]
    refine (RNumber_err g e (str l) w h he).mono ?_
    rintro r w' ⟨rfl, rfl⟩
    exact ⟨rfl, h, only_refl w g⟩

end Go.Proofs.YtnmpckhlpkmojaaGreatDoor.Pk

/-
  The contract of the reference reader's Text, for every state of the reader.
-/
namespace Go.Proofs.YtnmpckhlpkmojaaGreatDoor.Pk
open Go.RowKit

theorem head_str (s : ByteArray) (k : Nat) : s.extract 0 k = str (s.data.toList.take k) := str_of _ _ (by rw [Lib.extract_data]; simp)

set_option maxHeartbeats 1000000 in
theorem RText_rd (g e : Nat) (most : Int) (l : List UInt8) (w : World) (h : Rr w g (str l) e) (hs : l.length ≤ 9223372036854775807) :
    Calls Tryz.prog 36 #[.pointer (some ⟨g, 0, none⟩), .int .i64 most] w fun r w' =>
      r = .returned (.string (str (rtext l e most).1)) ∧ Rr w' g (str (rtext l e most).2.1) (rtext l e most).2.2 ∧ w.grownBy w' (some g) := by
  obtain ⟨n, l1, e1, hr⟩ : ∃ n l1 e1, rnum l e = (n, l1, e1) := ⟨_, _, _, rfl⟩
  have hN := RNumber_rd g e l w h hs
  rw [hr] at hN
  have HN := hide hN
  have hl1 : l1.length ≤ l.length := by
    have h1 : l1 = (rnum l e).2.1 := by rw [hr]
    rw [h1]
    unfold rnum
    split
    · exact Nat.le_refl _
    · split
      · rw [List.length_drop]; omega
      · simp
  clear hN
  by_cases he : e1 = 0
  · subst he
    by_cases hm : most < (n : Int)
    · have e2 : rtext l e most = ([], [], 1) := by unfold rtext; rw [hr]; simp [hm]
      rw [e2]
      clear e2 hr
      go_enter Tryz.func36, Tryz.ntmps36
      go_wp2_with fail
      refine HN.out.mono ?_
      rintro r w1 ⟨rfl, hr1, hg1⟩
      have hc0 := blk_cell0 hr1
      have hc1 := blk_cell1 hr1
      go_wp2_with fail
      refine (wrong_any g 0 1 _ w1 hr1).mono ?_
      rintro r w2 ⟨rfl, hr2, hg2⟩
      go_wp2
      go_ret
      exact ⟨rfl, hr2, only_trans hg1 hg2⟩
    · have hm2 : (n : Int) ≤ most := by omega
      by_cases hn : l1.length < n
      · have e2 : rtext l e most = ([], [], 2) := by unfold rtext; rw [hr]; simp [hm, hn]
        rw [e2]
        have hsz : (str l1).size < n := by rw [str_size]; exact hn
        generalize str l1 = S1 at *
        clear e2 hr hm hn hl1
        go_enter Tryz.func36, Tryz.ntmps36
        go_wp2_with fail
        refine HN.out.mono ?_
        rintro r w1 ⟨rfl, hr1, hg1⟩
        have hc0 := blk_cell0 hr1
        have hc1 := blk_cell1 hr1
        go_wp2_with fail
        refine (wrong_any g 0 2 _ w1 hr1).mono ?_
        rintro r w2 ⟨rfl, hr2, hg2⟩
        go_wp2
        go_ret
        exact ⟨rfl, hr2, only_trans hg1 hg2⟩
      · have e2 : rtext l e most = (l1.take n, l1.drop n, 0) := by unfold rtext; rw [hr]; simp [hm, hn]
        rw [e2]
        have hsz : n ≤ (str l1).size := by rw [str_size]; omega
        have hsz2 : (str l1).size ≤ 9223372036854775807 := by rw [str_size]; omega
        have hc1 := head_str (str l1) n
        have hc2 := cut_str (str l1) n
        rw [str_data] at hc1 hc2
        generalize str l1 = S1 at *
        generalize str (l1.take n) = S2 at *
        generalize str (l1.drop n) = S3 at *
        clear e2 hr hm hn hl1
        go_enter Tryz.func36, Tryz.ntmps36
        go_wp2_with fail
        refine HN.out.mono ?_
        rintro r w1 ⟨rfl, hr1, hg1⟩
        have hd0 := blk_cell0 hr1
        have hd1 := blk_cell1 hr1
        have hf0 := blk_free hr1 0
        have R := rr_set (s' := S3) hr1
        have HR := hide (And.intro R.1 (only_trans hg1 R.2))
        clear R
        go_wp2
        go_ret
        exact ⟨rfl, HR.out⟩
  · have e2 : rtext l e most = ([], l1, e1) := by unfold rtext; rw [hr]; simp [he]
    rw [e2]
    have he1 : 0 < e1 := by omega
    clear e2 hr he
    go_enter Tryz.func36, Tryz.ntmps36
    go_wp2_with fail
    refine HN.out.mono ?_
    rintro r w1 ⟨rfl, hr1, hg1⟩
    have hc1 := blk_cell1 hr1
    go_wp2
    go_ret
    exact ⟨rfl, hr1, hg1⟩

end Go.Proofs.YtnmpckhlpkmojaaGreatDoor.Pk

/-
  The contracts of the reference's Number and Text (isobarref01): the result is the encoding as a string; nothing that was there is changed.
-/
namespace Go.Proofs.YtnmpckhlpkmojaaGreatDoor.Pk
open Go.RowKit

theorem str_append (l m : List UInt8) : str l ++ str m = str (l ++ m) := by
  apply str_of
  simp [str]

theorem blk_first (w : World) (v : Value) : (w.alloc (.cells #[v] 5)).cell? ⟨w.heap.size, 0 + 0, none⟩ = some v := by
  rw [cell_of_row _ w.heap.size 0 #[v] 5 (0, 0) (heap_alloc_new w _)]
  rfl

theorem str_one (w : World) (x : UInt8) (v : Int) (hv : v = (x.toNat : Int)) :
    (convert 60 9 (.slice (some ⟨w.heap.size, 0, none⟩) 1 1)).run Tryz.prog (w.alloc (.cells #[.int .u8 v] 5)) = .ok (.string (str [x])) (w.alloc (.cells #[.int .u8 v] 5)) := by
  subst hv
  refine run_str _ (w.heap.size + 1) (some ⟨w.heap.size, 0, none⟩) [x] 1 (fun _ => ⟨w.heap.size, 0, rfl, by omega, fun j u hu => ?_⟩)
  match j, hu with
  | 0, hu =>
    simp at hu
    subst hu
    exact blk_first w _

/-- What the loop keeps. -/
def Spun (goal : List UInt8) (w : World) (x s : Value) (wr : World) : Prop :=
  ∃ (k m : Nat) (done : List UInt8), x = .int .i64 (m : Int) ∧ m < lim k ∧ done.length + k = 8 ∧ done ++ encF k m = goal ∧ s = .string (str done) ∧ Below w.heap.size w wr

set_option maxRecDepth 100000 in
set_option maxHeartbeats 1000000 in
theorem RNum_any (n : Int) (w : World) :
    Calls Tryz.prog 57 #[.int .i64 n] w fun e w' => e = .returned (.string (str (enc (clamp n)))) ∧ Below w.heap.size w w' := by
  have e0 := clamp_eq n
  have hlt := clamp_lt n
  have Hgoal : Hid (enc (clamp n) = encF 8 (clamp n)) := rfl
  generalize hgoal : enc (clamp n) = goal at *
  clear hgoal
  generalize clamp n = N at *
  go_enter Tryz.func57, Tryz.ntmps57
  go_wp2
  go_loopw [0, 3] (Spun goal w) (fun x _ _ => (intOf x).toNat)
  case atStart => exact ⟨8, N, [], rfl, by rw [lim_eight]; exact hlt, rfl, Hgoal.out.symm, rfl, Below.refl _ _⟩
  case round =>
    obtain ⟨k, m, done, rfl, hm, hk, hg, rfl, hbel⟩ := hrel
    have hm63 : m < 1152921504606846976 := by
      have h8 : lim k ≤ lim 8 := Nat.mul_le_mul_left _ (Nat.pow_le_pow_right (by omega) (by omega))
      rw [lim_eight] at h8; omega
    have hd8 : (str done).size ≤ 8 := by rw [str_size]; omega
    by_cases hmm : 127 < m
    · obtain ⟨k, rfl⟩ : ∃ j, k = j + 1 := ⟨k - 1, by
        rcases Nat.eq_zero_or_pos k with h0 | h0
        · subst h0; simp [lim] at hm; omega
        · omega⟩
      rw [encF_ge k m (by omega)] at hg
      obtain ⟨x, hx⟩ : ∃ x : UInt8, x = UInt8.ofNat (m % 128 + 128) := ⟨_, rfl⟩
      have hxn : x.toNat = m % 128 + 128 := by rw [hx]; exact ofNat_toNat _ (by omega)
      rw [← hx] at hg
      have hg' : (done ++ [x]) ++ encF k (m / 128) = goal := by rw [← hg]; simp
      have hm' : m / 128 < lim k := by rw [lim_succ] at hm; omega
      have hcv := str_one wr x ((m : Int) % 128 + 128) (by omega)
      have hx1 : (str [x]).size = 1 := str_size [x]
      have hap := str_append done [x]
      have Hg := hide hg'
      have Hm := hide hm'
      have Hk := hide hk
      have hx1' : (str [x]).size ≤ 1 := by omega
      have hsz := hbel.size
      clear hm hk hg hx hxn hg' hm' hx1
      go_wp2
      go_roundw
      case rel => exact ⟨k, m / 128, done ++ [x], by go_num, Hm.out, by have := Hk.out; simp; omega, Hg.out, by first | rfl | rw [hap], hbel.alloc hsz _⟩
      case measure => simp [intOf]; omega
    · rw [encF_lt k m (by omega)] at hg
      obtain ⟨x, hx⟩ : ∃ x : UInt8, x = UInt8.ofNat m := ⟨_, rfl⟩
      have hxn : x.toNat = m := by rw [hx]; exact ofNat_toNat _ (by omega)
      rw [← hx] at hg
      have hcv := str_one wr x (m : Int) (by omega)
      have hap := str_append done [x]
      have hx1 : (str [x]).size = 1 := str_size [x]
      have hx1' : (str [x]).size ≤ 1 := by omega
      have Hg := hide hg
      have hsz := hbel.size
      clear hm hk hg hx hxn hx1
      go_wp2
      go_ret
      first
        | exact ⟨by rw [← Hg.out]; rfl, hbel.alloc hsz _⟩
        | exact ⟨by rw [← Hg.out, ← hap]; rfl, hbel.alloc hsz _⟩

set_option maxHeartbeats 1000000 in
theorem RTxt_any (s : ByteArray) (w : World) (hs : s.size ≤ 1000000) :
    Calls Tryz.prog 58 #[.string s] w fun e w' => e = .returned (.string (str (enc s.size ++ s.data.toList))) ∧ Below w.heap.size w w' := by
  have hN := RNum_any s.size w
  rw [clamp_size _ (by omega)] at hN
  have h9 := enc_le s.size
  have hap := str_append (enc s.size) s.data.toList
  rw [show str s.data.toList = s from rfl] at hap
  have hsz : (str (enc s.size)).size ≤ 9 := by rw [str_size]; exact h9
  generalize str (enc s.size ++ s.data.toList) = G at *
  generalize str (enc s.size) = E at *
  have HN := hide hN
  clear hN h9
  go_enter Tryz.func58, Tryz.ntmps58
  go_wp2_with fail
  refine HN.out.mono ?_
  rintro r w1 ⟨rfl, hb1⟩
  go_wp2
  go_ret
  exact ⟨rfl, hb1⟩

end Go.Proofs.YtnmpckhlpkmojaaGreatDoor.Pk

namespace Go.Proofs.YtnmpckhlpkmojaaGreatDoor.Sm
open Go.RowKit
open Pk

theorem step_zero (d : Nat) (h : d % 2 = 0) : step d = d / 2 := by unfold step; rw [h, Nat.zero_mul, Nat.xor_zero]
theorem step_one (d : Nat) (h : d % 2 = 1) : step d = d / 2 ^^^ 2197175160 := by unfold step; rw [h, Nat.one_mul]

set_option maxHeartbeats 2000000 in
theorem rOf_any (s : ByteArray) (w : World) (hs : s.size ≤ 1000000) (r : Nat) (hr : Hid (crc s.data.toList = r)) :
    Calls Tryz.prog 71 #[.string s] w fun e w' => e = .returned (.int .u32 (r : Int)) ∧ w = w' := by
  have Hl := hide (size_eq s)
  go_enter Tryz.func71, Tryz.ntmps71
  go_wp2
  go_loop [3, 4] (fun c i => ∃ (k d : Nat), k ≤ s.size ∧ i = .int .i64 k ∧ c = .int .u32 d ∧ d < 4294967296 ∧ Hid (crcF d (s.data.toList.drop k) ^^^ ones = r)) (fun _ i => s.size - (intOf i).toNat)
  case atStart => exact ⟨0, 4294967295, by omega, rfl, rfl, by omega, hr⟩
  case round =>
    clear hr
    obtain ⟨k, d, hk, rfl, rfl, hd, hres⟩ := hrel
    by_cases hlt : k < s.size
    · obtain ⟨x, hx, hsx⟩ : ∃ x : UInt8, s.data.toList[k]? = some x ∧ s[k]'hlt = x := ⟨s[k]'hlt, by rw [List.getElem?_eq_getElem (by rw [Hl.out]; exact hlt)]; rfl, rfl⟩
      obtain ⟨z, hz⟩ : ∃ z : Nat, z = x.toNat := ⟨_, rfl⟩
      have hz1 : z < 256 := by rw [hz]; exact x.toNat_lt
      have hw : ((s[k]'hlt).toNat : Int) = (z : Int) := by rw [hsx, hz]
      have hnext : Hid (crcF (steps 8 (d ^^^ z)) (s.data.toList.drop (k + 1)) ^^^ ones = r) := by
        have e := hres.out
        rw [drop_at _ k x hx] at e
        rw [hz]
        exact e
      have b1 := xor_lt d z hd (by omega)
      have e1 := u32_xor_nat d z hd (by omega)
      clear hres hx hz hsx
      generalize d ^^^ z = m1 at *
      go_wp2
      go_loop [3, 5] (fun c i => ∃ (j d' : Nat), j ≤ 8 ∧ i = .int .i64 j ∧ c = .int .u32 d' ∧ d' < 4294967296 ∧ Hid (steps (8 - j) d' = steps 8 m1)) (fun _ i => 8 - (intOf i).toNat)
      case atStart => exact ⟨0, m1, by omega, rfl, rfl, b1, rfl⟩
      case round =>
        clear b1 e1
        obtain ⟨j, d', hj, rfl, rfl, hd', hst⟩ := hrel
        by_cases hj8 : j < 8
        · have hst2 : Hid (steps (8 - (j + 1)) (step d') = steps 8 m1) := by
            have e := hst.out
            rw [show 8 - j = (8 - (j + 1)) + 1 by omega] at e
            exact e
          have hsl := step_lt d' hd'
          clear hst
          rcases Nat.mod_two_eq_zero_or_one d' with hm | hm
          · have f1 : ((d' : Int) % 2) = 0 := by omega
            have f2 : ((d' : Int) / 2) = ((d' / 2 : Nat) : Int) := by omega
            rw [step_zero d' hm] at hst2 hsl
            generalize d' / 2 = h2 at *
            clear hm
            go_wp2
            go_round
            case rel => exact ⟨j + 1, h2, by omega, by go_num, rfl, hsl, hst2⟩
            case measure => simp [intOf]; omega
          · have f1 : ((d' : Int) % 2) = 1 := by omega
            have f2 : ((d' : Int) / 2) = ((d' / 2 : Nat) : Int) := by omega
            have f3 : bits .xor .u32 ((d' / 2 : Nat) : Int) 2197175160 = ((d' / 2 ^^^ 2197175160 : Nat) : Int) := u32_xor_nat (d' / 2) 2197175160 (by omega) (by omega)
            rw [step_one d' hm] at hst2 hsl
            generalize d' / 2 ^^^ 2197175160 = h3 at *
            generalize d' / 2 = h2 at *
            clear hm
            go_wp2
            go_round
            case rel => exact ⟨j + 1, h3, by omega, by go_num, rfl, hsl, hst2⟩
            case measure => simp [intOf]; omega
        · have hst2 : d' = steps 8 m1 := by
            have e := hst.out
            rw [show 8 - j = 0 by omega] at e
            exact e
          have hfin : Hid (crcF d' (s.data.toList.drop (k + 1)) ^^^ ones = r) := by
            rw [hst2]
            exact hnext.out
          clear hst hst2 hnext
          go_wp2
          go_round
          case rel => exact ⟨k + 1, d', by omega, by go_num, rfl, hd', hfin⟩
          case measure => simp [intOf]; omega
    · have e1 : (4294967295 : Int) - (d : Int) = (r : Int) := by
        have e := hres.out
        rw [List.drop_eq_nil_of_le (by rw [Hl.out]; omega)] at e
        have e2 := ones_sub d hd
        have e3 : ones - d = r := by rw [e2]; exact e
        unfold ones at e3
        omega
      clear hres
      go_wp2
      go_ret
      exact ⟨rfl, rfl⟩

theorem four_cels (C : Nat) (h : C < 4294967296) : (#[Value.int .u8 ((C : Int) % 256), Value.int .u8 ((C : Int) / 256 % 256), Value.int .u8 ((C : Int) / 65536 % 256), Value.int .u8 ((C : Int) / 16777216)] : Array Value) = (cels (le4 C)).toArray := by
  unfold le4
  simp only [cels, List.map_cons, List.map_nil, cel]
  rw [ofNat_toNat _ (by omega), ofNat_toNat _ (by omega), ofNat_toNat _ (by omega), ofNat_toNat _ (by omega), show C / 16777216 % 256 = C / 16777216 by omega]
  simp
theorem str_add (s : ByteArray) (m : List UInt8) : s ++ str m = str (s.data.toList ++ m) := by
  apply ByteArray.ext
  apply Array.ext'
  simp [str]

set_option maxHeartbeats 1000000 in
theorem rSeal_any (s : ByteArray) (w : World) (hs : s.size ≤ 1000000) :
    Calls Tryz.prog 54 #[.string s] w fun e w' => e = .returned (.string (str (seal4 s.data.toList))) ∧ Below w.heap.size w w' := by
  obtain ⟨C, hC⟩ : ∃ C, crc s.data.toList = C := ⟨_, rfl⟩
  have HO := hide (rOf_any s w hs C hC)
  have hC32 : C < 4294967296 := by rw [← hC]; exact crc_lt _
  have hcv : (convert 60 9 (.slice (some ⟨w.heap.size, 0, none⟩) 4 4)).run Tryz.prog (w.alloc (.cells #[Value.int .u8 ((C : Int) % 256), Value.int .u8 ((C : Int) / 256 % 256), Value.int .u8 ((C : Int) / 65536 % 256), Value.int .u8 ((C : Int) / 16777216)] 5)) =
      .ok (.string (str (le4 C))) (w.alloc (.cells #[Value.int .u8 ((C : Int) % 256), Value.int .u8 ((C : Int) / 256 % 256), Value.int .u8 ((C : Int) / 65536 % 256), Value.int .u8 ((C : Int) / 16777216)] 5)) :=
    run_str _ _ _ (le4 C) 4 4 rfl (by rw [four_cels C hC32]; exact byt_row (heap_alloc_new _ _))
  have hadd := str_add s (le4 C)
  have hfin : Hid (s.data.toList ++ le4 C = seal4 s.data.toList) := by unfold seal4; rw [hC]; rfl
  have hsz4 : (str (le4 C)).size = 4 := by rw [str_size]; rfl
  generalize s.data.toList ++ le4 C = L at *
  clear hC
  go_enter Tryz.func54, Tryz.ntmps54
  go_wp2_with fail
  refine HO.out.mono ?_
  rintro r w' ⟨rfl, rfl⟩
  clear HO
  go_wp2
  go_ret
  rw [← hfin.out]
  exact ⟨rfl, (Below.refl _ _).alloc (Nat.le_refl _) _⟩

def szOf : Value → Nat | .string s => s.size | _ => 0
theorem zero_add (s : ByteArray) : s ++ { data := #[0] } = str (s.data.toList ++ [0]) := str_add s [0]
theorem pad_more (l : List UInt8) (h : l.length < 60) : pad (l ++ [0]) = pad l := by
  unfold pad
  rw [List.length_append, List.append_assoc]
  congr 1
  rw [show 60 - l.length = (60 - (l.length + 1)) + 1 by omega, List.replicate_succ]
  rfl
theorem pad_full (l : List UInt8) (h : l.length = 60) : pad l = l := by
  unfold pad
  rw [h]
  simp

set_option maxHeartbeats 1000000 in
theorem rSector_any (s : ByteArray) (w : World) (hs : s.size ≤ 60) :
    Calls Tryz.prog 56 #[.string s] w fun e w' => e = .returned (.tuple #[.string (str (seal4 (pad s.data.toList))), .bool true]) ∧ Below w.heap.size w w' := by
  go_enter Tryz.func56, Tryz.ntmps56
  go_wp2
  go_loop [0] (fun v => ∃ s' : ByteArray, v = .string s' ∧ s'.size ≤ 60 ∧ Hid (pad s'.data.toList = pad s.data.toList)) (fun v => 60 - szOf v)
  case atStart => exact ⟨s, rfl, hs, rfl⟩
  case round =>
    obtain ⟨s', rfl, hs', hp⟩ := hrel
    by_cases hlt : s'.size < 60
    · have hsz : (s' ++ { data := #[0] }).size = s'.size + 1 := by rw [zero_add, str_size, List.length_append, size_eq]; rfl
      have hp2 : Hid (pad (s' ++ { data := #[0] }).data.toList = pad s.data.toList) := by
        rw [zero_add, str_data, pad_more _ (by rw [size_eq]; exact hlt)]
        exact hp
      have Hsz := hide hsz
      clear hsz hp
      go_wp2
      go_round
      case rel => exact ⟨_, rfl, by rw [Hsz.out]; omega, hp2⟩
      case measure =>
        simp only [szOf]
        rw [Hsz.out]
        omega
    · have hfull := pad_full s'.data.toList (by rw [size_eq]; omega)
      have e := hp.out
      rw [hfull] at e
      have HS := hide (rSeal_any s' w (by omega))
      rw [e] at HS
      clear hp e hfull
      go_wp2_with fail
      refine HS.out.mono ?_
      rintro r w' ⟨rfl, hb⟩
      clear HS
      go_wp2
      go_ret2
      exact ⟨rfl, hb⟩

set_option maxHeartbeats 1000000 in
theorem rSector_long (s : ByteArray) (w : World) (hs : 60 < s.size) (hm : s.size ≤ 1000000) :
    Calls Tryz.prog 56 #[.string s] w fun e w' => e = .returned (.tuple #[.string (str []), .bool false]) ∧ Below w.heap.size w w' := by
  go_enter Tryz.func56, Tryz.ntmps56
  go_wp2
  go_ret2
  exact ⟨rfl, Below.refl _ _⟩

theorem head_str (s : ByteArray) (k : Nat) : s.extract 0 k = str (s.data.toList.take k) := by
  apply ByteArray.ext
  apply Array.ext'
  rw [Lib.extract_data]
  simp [str]

set_option maxHeartbeats 1000000 in
theorem rOpen_short (s : ByteArray) (w : World) (hs : s.size < 4) :
    Calls Tryz.prog 34 #[.string s] w fun e w' => e = .returned (.tuple #[.string (str []), .bool false]) ∧ Below w.heap.size w w' := by
  go_enter Tryz.func34, Tryz.ntmps34
  go_wp2
  go_ret2
  exact ⟨rfl, Below.refl _ _⟩

set_option maxHeartbeats 1000000 in
theorem rOpen_no (s : ByteArray) (w : World) (hs : s.size ≤ 1000000) (h4 : 4 ≤ s.size) (hno : seal4 (s.data.toList.take (s.size - 4)) ≠ s.data.toList) :
    Calls Tryz.prog 34 #[.string s] w fun e w' => e = .returned (.tuple #[.string (str []), .bool false]) ∧ Below w.heap.size w w' := by
  have hh := head_str s (s.size - 4)
  have HS := hide (rSeal_any (str (s.data.toList.take (s.size - 4))) w (by rw [str_size, List.length_take]; omega))
  rw [str_data] at HS
  have hne : ((str (seal4 (s.data.toList.take (s.size - 4)))).toList == s.toList) = false := by
    have e := str_same (seal4 (s.data.toList.take (s.size - 4))) s.data.toList
    rw [str_of] at e
    rw [e, decide_eq_false hno]
  generalize seal4 (s.data.toList.take (s.size - 4)) = S at *
  generalize s.data.toList.take (s.size - 4) = T at *
  clear hno
  go_enter Tryz.func34, Tryz.ntmps34
  go_wp2_with fail
  refine HS.out.mono ?_
  rintro r w' ⟨rfl, hb⟩
  clear HS
  go_wp2
  go_ret2
  exact ⟨rfl, hb⟩

set_option maxHeartbeats 1000000 in
theorem rOpen_yes (s : ByteArray) (w : World) (hs : s.size ≤ 1000000) (h4 : 4 ≤ s.size) (hyes : seal4 (s.data.toList.take (s.size - 4)) = s.data.toList) :
    Calls Tryz.prog 34 #[.string s] w fun e w' => e = .returned (.tuple #[.string (str (s.data.toList.take (s.size - 4))), .bool true]) ∧ Below w.heap.size w w' := by
  have hh := head_str s (s.size - 4)
  have HS := hide (rSeal_any (str (s.data.toList.take (s.size - 4))) w (by rw [str_size, List.length_take]; omega))
  rw [str_data] at HS
  have hne : ((str (seal4 (s.data.toList.take (s.size - 4)))).toList == s.toList) = true := by
    have e := str_same (seal4 (s.data.toList.take (s.size - 4))) s.data.toList
    rw [str_of] at e
    rw [e, decide_eq_true hyes]
  generalize seal4 (s.data.toList.take (s.size - 4)) = S at *
  generalize s.data.toList.take (s.size - 4) = T at *
  clear hyes
  go_enter Tryz.func34, Tryz.ntmps34
  go_wp2_with fail
  refine HS.out.mono ?_
  rintro r w' ⟨rfl, hb⟩
  clear HS
  go_wp2
  go_ret2
  rw [← hh]
  exact ⟨rfl, hb⟩

end Go.Proofs.YtnmpckhlpkmojaaGreatDoor.Sm
