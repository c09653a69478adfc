/-
  The contracts of the reference reader (isobarref01): wrong, Number, Text and End; each tells what is returned and what the reader then has, in the same words as those of pack's reader; nothing but its own block is changed.
-/
import Derived.Lib.IndexBytes
import Derived.Test.YthoflpjmdhabmaaDoorPkLaw
namespace Go.Proofs.YthoflpjmdhabmaaDoor.Pk
open Go.RowKit

/-- The reference reader's block. -/
def Rr (w : World) (g : Nat) (s : ByteArray) (e : Nat) : Prop :=
  w.heap[g]? = some (.cells #[.string s, .int .i64 (e : Int)] 81 (0, 0))

theorem Rr.lt {w : World} {g : Nat} {s : ByteArray} {e : Nat} (h : Rr w g s e) : g < w.heap.size := (Array.getElem?_eq_some_iff.1 h).1

/-- A list's bytes as a string. -/
def str (l : List UInt8) : ByteArray := ⟨l.toArray⟩
theorem str_data (l : List UInt8) : (str l).data.toList = l := rfl
theorem str_size (l : List UInt8) : (str l).size = l.length := by simp [str, ByteArray.size]
theorem str_of (s : ByteArray) (l : List UInt8) (h : s.data.toList = l) : s = str l := by
  subst h
  rfl

theorem rr_set {w : World} {g e : Nat} {s s' : ByteArray} (h : Rr w g s e) : Rr (w.setCell ⟨g, 0, none⟩ (.string s')) g s' e ∧ w.grownBy (w.setCell ⟨g, 0, none⟩ (.string s')) (some g) :=
  ⟨heap_setCell_same w g 0 _ _ (.string s') h, ⟨rfl, rfl, rfl, by simp, fun j _ hj => heap_setCell_other _ ⟨g, 0, none⟩ j _ (fun e => hj (by rw [e]))⟩⟩

set_option maxHeartbeats 400000 in
theorem wrong_any (g e e' : Nat) (s : ByteArray) (w : World) (h : Rr w g s e) :
    Calls Tryd.prog 56 #[.pointer (some ⟨g, 0, none⟩), .int .i64 (e' : Int)] w fun r w' => r = .returned (.tuple #[]) ∧ Rr w' g ⟨#[]⟩ e' ∧ w.grownBy w' (some g) := by
  have hc0 := blk_cell0 h
  have hc1 := blk_cell1 h
  have hf0 := blk_free h 0
  have hf1 := blk_free h 1
  have R1 := heap_setCell_same w g 1 _ _ (.int .i64 (e' : Int)) h
  have R2 := heap_setCell_same (w.setCell ⟨g, 1, none⟩ (.int .i64 (e' : Int))) g 0 _ _ (.string ⟨#[]⟩) R1
  have R3 : w.grownBy ((w.setCell ⟨g, 1, none⟩ (.int .i64 (e' : Int))).setCell ⟨g, 0, none⟩ (.string ⟨#[]⟩)) (some g) :=
    ⟨rfl, rfl, rfl, by simp, fun k _ hk => by
      have hne : k ≠ g := fun e => hk (by rw [e])
      rw [heap_setCell_other _ ⟨g, 0, none⟩ k _ hne, heap_setCell_other _ ⟨g, 1, none⟩ k _ hne]⟩
  have H2 := hide R2
  have H3 := hide R3
  clear h R1 R2 R3
  go_enter Tryd.func56, Tryd.ntmps56
  go_wp2
  go_end0
  exact ⟨rfl, H2.out, H3.out⟩

set_option maxHeartbeats 400000 in
theorem REnd_any (g e : Nat) (s : ByteArray) (w : World) (h : Rr w g s e) (hs : s.size ≤ 9223372036854775807) :
    Calls Tryd.prog 44 #[.pointer (some ⟨g, 0, none⟩)] w fun r w' => r = .returned (.int .i64 (rend s.data.toList e : Int)) ∧ w = w' := by
  have hc0 := blk_cell0 h
  have hc1 := blk_cell1 h
  have hl : s.data.toList.length = s.size := Array.length_toList
  clear h
  rcases Nat.eq_zero_or_pos e with he | he
  · subst he
    rcases Nat.eq_zero_or_pos s.size with h0 | h0
    · have hr : rend s.data.toList 0 = 0 := by unfold rend; rw [hl, h0]; rfl
      have h1 : s.size < 1 := by omega
      rw [hr]
      clear hr hl h0
      go_enter Tryd.func44, Tryd.ntmps44
      go_wp2
      go_ret
      exact ⟨rfl, rfl⟩
    · have hr : rend s.data.toList 0 = 3 := by unfold rend; rw [if_neg (by omega), if_neg (by omega)]
      rw [hr]
      clear hr hl
      go_enter Tryd.func44, Tryd.ntmps44
      go_wp2
      go_ret
      exact ⟨rfl, rfl⟩
  · have hr : rend s.data.toList e = e := by unfold rend; rw [if_pos (by omega)]
    rw [hr]
    clear hr hl
    go_enter Tryd.func44, Tryd.ntmps44
    go_wp2
    go_ret
    exact ⟨rfl, rfl⟩

theorem pow_small (k : Nat) (h : k ≤ 8) : 128 ^ k ≤ 72057594037927936 := by have := pow_le k h; rw [pow8] at this; exact this

theorem decF_bad8 (acc : Nat) (x : UInt8) (r : List UInt8) (h : 15 < x.toNat) : decF 8 acc (x :: r) = (0, 0, 1) := by
  rcases Nat.lt_or_ge x.toNat 128 with h1 | h1
  · refine way_big 8 acc x r ?_
    rw [Nat.mod_eq_of_lt h1, pow8]
    omega
  · exact way_nine acc x r h1

theorem sum_le (k acc d : Nat) (hk : k ≤ 8) (ha : acc < 128 ^ k) (h8 : k = 8 → d ≤ 15) : acc + d % 128 * 128 ^ k ≤ 1152921504606846975 := by
  rcases Nat.lt_or_ge k 8 with h | h
  · exact acc_le k acc _ (by omega) ha (by omega)
  · have e : k = 8 := by omega
    subst e
    have := h8 rfl
    rw [Nat.mod_eq_of_lt (by omega), pow8] at *
    omega

theorem num_step (acc d P : Nat) (h : acc + d % 128 * P ≤ 1152921504606846975) : wrap64 ((acc : Int) + wrap64 ((d : Int) % 128 * (P : Int))) = ((acc + d % 128 * P : Nat) : Int) := by
  have hmul : ((d : Int) % 128 * (P : Int)) = ((d % 128 * P : Nat) : Int) := by simp
  rw [hmul]
  generalize d % 128 * P = Z at *
  have e1 : wrap64 ((Z : Nat) : Int) = ((Z : Nat) : Int) := IntWalk.wrap64_in _ ⟨by omega, by omega⟩
  rw [e1]
  have e2 : (acc : Int) + (Z : Int) = ((acc + Z : Nat) : Int) := by omega
  rw [e2]
  exact IntWalk.wrap64_in _ ⟨by omega, by omega⟩

theorem cut_str (s : ByteArray) (k : Nat) : s.extract k s.size = str (s.data.toList.drop k) := str_of _ _ (Lib.extract_to_end s k)

/-- What the reference's Number comes to, told as the walk wants it. -/
theorem ref_ok (s : ByteArray) (n m : Nat) (h : dec s.data.toList = (n, m, 0)) : rnum s.data.toList 0 = (n, s.data.toList.drop m, 0) := rnum_ok _ n m h

set_option maxHeartbeats 1000000 in
set_option maxRecDepth 100000 in
theorem RNumber_zero (g : Nat) (s : ByteArray) (w : World) (h : Rr w g s 0) (hs : s.size ≤ 9223372036854775807) (n : Nat) (l1 : List UInt8) (e1 : Nat) (Hr : Hid (rnum s.data.toList 0 = (n, l1, e1))) :
    Calls Tryd.prog 43 #[.pointer (some ⟨g, 0, none⟩)] w fun r w' =>
      r = .returned (.int .i64 (n : Int)) ∧ Rr w' g (str l1) e1 ∧ w.grownBy w' (some g) := by
  have hc0 := blk_cell0 h
  have hc1 := blk_cell1 h
  have hf0 := blk_free h 0
  have hl : s.data.toList.length = s.size := Array.length_toList
  have Hl := hide hl
  clear hl
  go_enter Tryd.func43, Tryd.ntmps43
  go_wp2
  go_loop [3, 4, 5] (fun a u i => ∃ (k acc : Nat), k ≤ 8 ∧ k ≤ s.size ∧ i = .int .i64 k ∧ u = .int .i64 ((128 ^ k : Nat) : Int) ∧ a = .int .i64 acc ∧ Hid (acc < 128 ^ k) ∧ Hid (dec s.data.toList = decF k acc (s.data.toList.drop k))) (fun _ _ i => 9 - (intOf i).toNat)
  case atStart => exact ⟨0, 0, by omega, by omega, rfl, rfl, rfl, Nat.one_pos, rfl⟩
  case round =>
    obtain ⟨k, acc, hk8, hks, rfl, rfl, rfl, hacc, hd⟩ := hrel
    obtain ⟨P, hP⟩ : ∃ P : Nat, P = 128 ^ k := ⟨_, rfl⟩
    have hPs : P ≤ 72057594037927936 := by rw [hP]; exact pow_small k hk8
    rw [← hP]
    by_cases hlt : k < s.size
    · obtain ⟨x, hx, hsx⟩ : ∃ x : UInt8, s.data.toList[k]? = some x ∧ s[k]'hlt = x := ⟨s[k]'hlt, by rw [List.getElem?_eq_getElem (by rw [Hl.out]; exact hlt)]; rfl, rfl⟩
      obtain ⟨d, hd'⟩ : ∃ d : Nat, d = x.toNat := ⟨_, rfl⟩
      have hdl : d < 256 := by rw [hd']; exact x.toNat_lt
      have hw : wrap64 ((s[k]'hlt).toNat : Int) = (d : Int) := by rw [hsx, ← hd']; exact IntWalk.wrap64_in _ ⟨by omega, by omega⟩
      have hd2 := hd.out
      rw [drop_at _ k x hx] at hd2
      have Hd2 := hide hd2
      have Hd := hide hd'
      have HP := hide hP
      clear hd hd2 hd' hP hx hsx
      by_cases hb8 : k = 8 ∧ 15 < d
      · have hres : Hid ((n, l1, e1) = (0, [], 1)) := by
          obtain ⟨rfl, h15⟩ := hb8
          have := Hd2.out
          rw [decF_bad8 acc x _ (by rw [← Hd.out]; exact h15)] at this
          have := rnum_bad _ 0 0 1 this (by omega)
          rw [Hr.out] at this
          exact this
        obtain ⟨h8, h15⟩ := hb8
        have h8' : 8 ≤ k := by omega
        clear h8 Hd2 Hd HP Hr
        go_wp2_with fail
        refine (wrong_any g 0 1 s w h).mono ?_
        rintro r w2 ⟨rfl, hr2, hg2⟩
        obtain ⟨rfl, rfl, rfl⟩ : n = 0 ∧ l1 = [] ∧ e1 = 1 := by simpa using hres.out
        go_wp2
        go_ret
        exact ⟨rfl, hr2, hg2⟩
      · have hsum := sum_le k acc d hk8 hacc.out (by omega)
        obtain ⟨M, hM⟩ : ∃ M : Nat, M = acc + d % 128 * 128 ^ k := ⟨_, rfl⟩
        have hw2 := num_step acc d P (by rw [HP.out]; exact hsum)
        rw [HP.out, ← hM, ← HP.out] at hw2
        have HM : Hid (M = acc + x.toNat % 128 * 128 ^ k) := by rw [← Hd.out]; exact hM
        have hMs : M ≤ 1152921504606846975 := by rw [hM]; exact hsum
        clear hM hsum
        rcases Nat.lt_or_ge d 128 with hlo | hhi
        · by_cases hz : 0 < k ∧ d = 0
          · have hres : Hid ((n, l1, e1) = (0, [], 1)) := by
              have := Hd2.out
              rw [way_zero k acc x _ (by rw [← Hd.out]; exact hz.2) hz.1] at this
              have := rnum_bad _ 0 0 1 this (by omega)
              rw [Hr.out] at this
              exact this
            obtain ⟨hk0, hd0⟩ := hz
            have hd1 : d < 1 := by omega
            clear hd0 Hd2 Hd HP Hr HM
            go_wp2_with fail
            all_goals
              refine (wrong_any g 0 1 s w h).mono ?_
              rintro r w2 ⟨rfl, hr2, hg2⟩
              obtain ⟨rfl, rfl, rfl⟩ : n = 0 ∧ l1 = [] ∧ e1 = 1 := by simpa using hres.out
              go_wp2
              go_ret
              exact ⟨rfl, hr2, hg2⟩
          · have hres : Hid ((n, l1, e1) = (M, s.data.toList.drop (k + 1), 0)) := by
              have h1 := Hd2.out
              have hx := Hd.out
              have hm := HM.out
              rw [Nat.mod_eq_of_lt (by omega)] at hm
              rw [decF_last k acc x _ (by omega) (by omega) (by omega), ← hm] at h1
              have := rnum_ok _ _ _ h1
              rw [Hr.out] at this
              exact this
            have R := rr_set (s' := str (s.data.toList.drop (k + 1))) h
            have hcut := cut_str s (k + 1)
            have HR := hide R
            clear Hd2 Hd HP Hr HM R
            generalize hS : str (s.data.toList.drop (k + 1)) = S1 at *
            have HF : Hid (n = M ∧ str l1 = S1 ∧ e1 = 0) := by
              obtain ⟨h1, h2, h3⟩ : n = M ∧ l1 = s.data.toList.drop (k + 1) ∧ e1 = 0 := by simpa using hres.out
              exact ⟨h1, by rw [h2]; exact hS, h3⟩
            clear hS
            rcases Nat.lt_or_ge 0 d with h0 | h0
            · go_wp2
              all_goals
                go_ret
                obtain ⟨rfl, h2, rfl⟩ := HF.out
                rw [h2]
                first
                  | exact ⟨rfl, HR.out⟩
                  | (have hk9 : k = 8 := by omega
                     subst hk9
                     have e9 : s.extract 9 s.size = S1 := hcut
                     rw [e9]
                     exact ⟨rfl, HR.out⟩)
            · have hk0 : k < 1 := by omega
              clear hz
              go_wp2
              all_goals
                go_ret
                obtain ⟨rfl, h2, rfl⟩ := HF.out
                rw [h2]
                first
                  | exact ⟨rfl, HR.out⟩
                  | (have hk9 : k = 8 := by omega
                     subst hk9
                     have e9 : s.extract 9 s.size = S1 := hcut
                     rw [e9]
                     exact ⟨rfl, HR.out⟩)
        · have hk7 : k ≤ 7 := by omega
          have hP7 : P ≤ 562949953421312 := by
            rw [HP.out]
            have : 128 ^ k ≤ 128 ^ 7 := Nat.pow_le_pow_right (by omega) hk7
            exact this
          have hPn : P * 128 = 128 ^ (k + 1) := by rw [HP.out, Nat.pow_succ]
          have hPn' : (P : Int) * 128 = ((128 ^ (k + 1) : Nat) : Int) := by rw [← hPn]; simp
          have hres : Hid (dec s.data.toList = decF (k + 1) M (s.data.toList.drop (k + 1))) := by
            have h1 := Hd2.out
            have hx := Hd.out
            rw [decF_more k acc x _ (by rw [← HM.out]; exact hMs) (by omega) (by omega), ← HM.out] at h1
            exact h1
          have hma : Hid (M < 128 ^ (k + 1)) := by rw [HM.out]; exact acc_lt k acc _ hacc.out (by omega)
          have HPn := hide hPn'
          clear Hd2 Hd HP Hr HM hPn hPn'
          go_wp2
          go_round
          case rel => exact ⟨k + 1, M, by omega, by omega, by go_num, by rw [HPn.out], by rw [hw2], hma, hres⟩
          case measure => simp [intOf]; omega
    · have hres : Hid ((n, l1, e1) = (0, [], 2)) := by
        have h1 := hd.out
        rw [List.drop_eq_nil_of_le (by rw [Hl.out]; omega)] at h1
        have := rnum_bad _ 0 0 2 h1 (by omega)
        rw [Hr.out] at this
        exact this
      clear hd hP Hr
      go_wp2_with fail
      refine (wrong_any g 0 2 s w h).mono ?_
      rintro r w2 ⟨rfl, hr2, hg2⟩
      obtain ⟨rfl, rfl, rfl⟩ : n = 0 ∧ l1 = [] ∧ e1 = 2 := by simpa using hres.out
      go_wp2
      go_ret
      exact ⟨rfl, hr2, hg2⟩

set_option maxHeartbeats 400000 in
theorem RNumber_err (g e : Nat) (s : ByteArray) (w : World) (h : Rr w g s e) (he : 0 < e) :
    Calls Tryd.prog 43 #[.pointer (some ⟨g, 0, none⟩)] w fun r w' => r = .returned (.int .i64 0) ∧ w = w' := by
  have hc1 := blk_cell1 h
  clear h
  go_enter Tryd.func43, Tryd.ntmps43
  go_wp2
  go_ret
  exact ⟨rfl, rfl⟩

theorem RNumber_rd (g e : Nat) (l : List UInt8) (w : World) (h : Rr w g (str l) e) (hs : l.length ≤ 9223372036854775807) :
    Calls Tryd.prog 43 #[.pointer (some ⟨g, 0, none⟩)] w fun r w' =>
      r = .returned (.int .i64 ((rnum l e).1 : Int)) ∧ Rr w' g (str (rnum l e).2.1) (rnum l e).2.2 ∧ w.grownBy w' (some g) := by
  rcases Nat.eq_zero_or_pos e with he | he
  · subst he
    exact RNumber_zero g (str l) w h (by rw [str_size]; exact hs) _ _ _ rfl
  · rw [rnum_err l e (by omega)]
    refine (RNumber_err g e (str l) w h he).mono ?_
    rintro r w' ⟨rfl, rfl⟩
    exact ⟨rfl, h, only_refl w g⟩

theorem REnd_rd (g e : Nat) (l : List UInt8) (w : World) (h : Rr w g (str l) e) (hs : l.length ≤ 9223372036854775807) :
    Calls Tryd.prog 44 #[.pointer (some ⟨g, 0, none⟩)] w fun r w' => r = .returned (.int .i64 (rend l e : Int)) ∧ w = w' :=
  REnd_any g e (str l) w h (by rw [str_size]; exact hs)

end Go.Proofs.YthoflpjmdhabmaaDoor.Pk
