/-
  The contract of the reference reader's Text, for every state of the reader.
-/
import Derived.Test.YtkimhfcnkbakiaaDoorPkRef
namespace Go.Proofs.YtkimhfcnkbakiaaDoor.Pk
open Go.RowKit

theorem head_str (s : ByteArray) (k : Nat) : s.extract 0 k = str (s.data.toList.take k) := str_of _ _ (by rw [Lib.extract_data]; simp)

set_option maxHeartbeats 1000000 in
theorem RText_rd (g e : Nat) (most : Int) (l : List UInt8) (w : World) (h : Rr w g (str l) e) (hs : l.length ≤ 9223372036854775807) :
    Calls Tryd.prog 31 #[.pointer (some ⟨g, 0, none⟩), .int .i64 most] w fun r w' =>
      r = .returned (.string (str (rtext l e most).1)) ∧ Rr w' g (str (rtext l e most).2.1) (rtext l e most).2.2 ∧ w.grownBy w' (some g) := by
  obtain ⟨n, l1, e1, hr⟩ : ∃ n l1 e1, rnum l e = (n, l1, e1) := ⟨_, _, _, rfl⟩
  have hN := RNumber_rd g e l w h hs
  rw [hr] at hN
  have HN := hide hN
  have hl1 : l1.length ≤ l.length := by
    have h1 : l1 = (rnum l e).2.1 := by rw [hr]
    rw [h1]
    unfold rnum
    split
    · exact Nat.le_refl _
    · split
      · rw [List.length_drop]; omega
      · simp
  clear hN
  by_cases he : e1 = 0
  · subst he
    by_cases hm : most < (n : Int)
    · have e2 : rtext l e most = ([], [], 1) := by unfold rtext; rw [hr]; simp [hm]
      rw [e2]
      clear e2 hr
      go_enter Tryd.func31, Tryd.ntmps31
      go_wp2_with fail
      refine HN.out.mono ?_
      rintro r w1 ⟨rfl, hr1, hg1⟩
      have hc0 := blk_cell0 hr1
      have hc1 := blk_cell1 hr1
      go_wp2_with fail
      refine (wrong_any g 0 1 _ w1 hr1).mono ?_
      rintro r w2 ⟨rfl, hr2, hg2⟩
      go_wp2
      go_ret
      exact ⟨rfl, hr2, only_trans hg1 hg2⟩
    · have hm2 : (n : Int) ≤ most := by omega
      by_cases hn : l1.length < n
      · have e2 : rtext l e most = ([], [], 2) := by unfold rtext; rw [hr]; simp [hm, hn]
        rw [e2]
        have hsz : (str l1).size < n := by rw [str_size]; exact hn
        generalize str l1 = S1 at *
        clear e2 hr hm hn hl1
        go_enter Tryd.func31, Tryd.ntmps31
        go_wp2_with fail
        refine HN.out.mono ?_
        rintro r w1 ⟨rfl, hr1, hg1⟩
        have hc0 := blk_cell0 hr1
        have hc1 := blk_cell1 hr1
        go_wp2_with fail
        refine (wrong_any g 0 2 _ w1 hr1).mono ?_
        rintro r w2 ⟨rfl, hr2, hg2⟩
        go_wp2
        go_ret
        exact ⟨rfl, hr2, only_trans hg1 hg2⟩
      · have e2 : rtext l e most = (l1.take n, l1.drop n, 0) := by unfold rtext; rw [hr]; simp [hm, hn]
        rw [e2]
        have hsz : n ≤ (str l1).size := by rw [str_size]; omega
        have hsz2 : (str l1).size ≤ 9223372036854775807 := by rw [str_size]; omega
        have hc1 := head_str (str l1) n
        have hc2 := cut_str (str l1) n
        rw [str_data] at hc1 hc2
        generalize str l1 = S1 at *
        generalize str (l1.take n) = S2 at *
        generalize str (l1.drop n) = S3 at *
        clear e2 hr hm hn hl1
        go_enter Tryd.func31, Tryd.ntmps31
        go_wp2_with fail
        refine HN.out.mono ?_
        rintro r w1 ⟨rfl, hr1, hg1⟩
        have hd0 := blk_cell0 hr1
        have hd1 := blk_cell1 hr1
        have hf0 := blk_free hr1 0
        have R := rr_set (s' := S3) hr1
        have HR := hide (And.intro R.1 (only_trans hg1 R.2))
        clear R
        go_wp2
        go_ret
        exact ⟨rfl, HR.out⟩
  · have e2 : rtext l e most = ([], l1, e1) := by unfold rtext; rw [hr]; simp [he]
    rw [e2]
    have he1 : 0 < e1 := by omega
    clear e2 hr he
    go_enter Tryd.func31, Tryd.ntmps31
    go_wp2_with fail
    refine HN.out.mono ?_
    rintro r w1 ⟨rfl, hr1, hg1⟩
    have hc1 := blk_cell1 hr1
    go_wp2
    go_ret
    exact ⟨rfl, hr1, hg1⟩

end Go.Proofs.YtkimhfcnkbakiaaDoor.Pk
