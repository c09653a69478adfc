/-
  The contract of a reader's Text, for every state of the reader, and of all methods of a nil reader.
-/
import Derived.Test.YtnmpckhlpkmojaaGreatDoorPkMeth
namespace Go.Proofs.YtnmpckhlpkmojaaGreatDoor.Pk
open Go.RowKit

theorem nums_back (l : List UInt8) : strOfNums (l.map fun b => (b.toNat : Int)) = ⟨l.toArray⟩ := by
  unfold strOfNums
  congr 2
  rw [List.map_map]
  conv => rhs; rw [← List.map_id l]
  apply List.map_congr_left
  intro b _
  simp

/-- string(b) -/
theorem run_str (w : World) (B : Nat) (A : Option Addr) (l : List UInt8) (c : Nat) (hb : Byt w B A l) :
    (convert 60 9 (.slice A l.length c)).run Tryz.prog w = .ok (.string ⟨l.toArray⟩) w := by
  cases l with
  | nil =>
    cases A with
    | none => exact run_convert_bytes_nil w 60 5 Tryz.underlying60 Tryz.underlying5 0 c 9 Tryz.underlying9
    | some ad =>
      have h0 : (loadCells ad 0).run Tryz.prog w = .ok (([] : List Int).map (Value.int .u8)).toArray w := run_loadCells_list w ad [] (fun j v hj => by simp at hj)
      rw [List.length_nil, run_convert_bytes_string w _ _ 5 _ 0 c Tryz.underlying60 Tryz.underlying5 Tryz.underlying9, run_bytesToString w ad 0 c [] h0]
      rfl
  | cons x r =>
    obtain ⟨b, o, rfl, _, hc⟩ := hb (by simp)
    rw [← nums_back]
    refine run_convert_bytes_arg w 60 5 Tryz.underlying60 Tryz.underlying5 b o _ c _ (by simp) (fun i hi => ?_) 9 Tryz.underlying9
    rw [hc i _ (List.getElem?_eq_getElem hi)]
    rw [List.getD_eq_getElem?_getD, List.getElem?_map, List.getElem?_eq_getElem hi]
    rfl

/-- A reader whose rest is another one. -/
theorem rd_set {w : World} {g c c' n' : Nat} {A A' : Option Addr} {l l' : List UInt8} (h1 : w.heap[g]? = some (.cells #[.slice A l.length c, .int .i64 0] 140 (0, 0)))
    (hn : l'.length = n') (hl : n' ≤ c') (hc : c' ≤ maxLen) (hA : Byt w g A' l') :
    Rd (w.setCell ⟨g, 0, none⟩ (.slice A' n' c')) g l' 0 ∧ w.grownBy (w.setCell ⟨g, 0, none⟩ (.slice A' n' c')) (some g) := by
  subst hn
  have R1 := heap_setCell_same w g 0 _ _ (.slice A' l'.length c') h1
  have hg := (Array.getElem?_eq_some_iff.1 h1).1
  have R3 : w.grownBy (w.setCell ⟨g, 0, none⟩ (.slice A' l'.length c')) (some g) :=
    ⟨rfl, rfl, rfl, by simp, fun j _ hj => heap_setCell_other _ ⟨g, 0, none⟩ j _ (fun e => hj (by rw [e]))⟩
  exact ⟨⟨A', c', R1, hl, hc, hA.below (below_of_only R3 (Nat.le_refl _) hg)⟩, R3⟩

theorem only_trans {a b c : World} {g : Nat} (h : a.grownBy b (some g)) (k : b.grownBy c (some g)) : a.grownBy c (some g) := World.grownBy.trans h k

set_option maxRecDepth 100000 in
set_option maxHeartbeats 1000000 in
theorem Text_fit (g n : Nat) (most : Int) (l l1 : List UInt8) (e : Nat) (w : World) (h : Rd w g l e) (hr : rnum l e = (n, l1, 0)) (hm : (n : Int) ≤ most) (hn : n ≤ l1.length)
    (S : ByteArray) (D : List UInt8) (HS : Hid ((⟨(l1.take n).toArray⟩ : ByteArray) = S)) (HD : Hid (l1.drop n = D)) :
    Calls Tryz.prog 70 #[.pointer (some ⟨g, 0, none⟩), .int .i64 most] w fun r w' =>
      r = .returned (.string S) ∧ Rd w' g D 0 ∧ w.grownBy w' (some g) := by
  have hN := Number_rd g e l w h
  rw [hr] at hN
  have HN := hide hN
  clear hr hN
  go_enter Tryz.func70, Tryz.ntmps70
  go_wp2_with fail
  refine HN.out.mono ?_
  rintro r w1 ⟨rfl, hr1, hg1⟩
  clear HN h
  go_wp2_with fail
  refine (Err_any g 0 l1 w1 hr1).mono ?_
  rintro r w' ⟨rfl, rfl⟩
  have hr2 := hr1
  obtain ⟨A, c, h1, h2, h3, h4⟩ := hr2
  have hc2 : c ≤ 9223372036854775807 := h3
  have hc0 := blk_cell0 h1
  have hf0 := blk_free h1 0
  have hstr := run_str w1 g A (l1.take n) c (h4.take n)
  rw [List.length_take, Nat.min_eq_left hn, HS.out] at hstr
  have hDl : D.length = l1.length - n := by rw [← HD.out, List.length_drop]
  have HDl := hide hDl
  have H1 := hide h1
  clear hDl h1
  by_cases hne : l1 = []
  · subst hne
    have hn0 : n = 0 := by simpa using hn
    subst hn0
    have hD0 : D = [] := by rw [← HD.out]; rfl
    subst hD0
    go_wp2
    go_ret
    exact ⟨rfl, (rd_set (l' := []) H1.out rfl (by omega) (by unfold maxLen; omega) Byt.nil).1, only_trans hg1 (rd_set (l' := []) H1.out rfl (by omega) (by unfold maxLen; omega) Byt.nil).2⟩
  · obtain ⟨b, o, rfl, _, _⟩ := h4 hne
    by_cases hcn : c = n
    · have R := rd_set (l' := D) H1.out HDl.out (show l1.length - n ≤ c - n by omega) (by unfold maxLen; omega) (A' := some ⟨b, o, none⟩) (by have := h4.drop hn h2; rw [if_pos hcn, HD.out] at this; exact this)
      rw [show l1.length - n = 0 by omega, show c - n = 0 by omega] at R
      have HR := hide (And.intro R.1 (only_trans hg1 R.2))
      subst hcn
      clear R
      go_wp2
      go_ret
      exact ⟨rfl, HR.out⟩
    · have R := rd_set (l' := D) H1.out HDl.out (show l1.length - n ≤ c - n by omega) (by unfold maxLen; omega) (A' := some ⟨b, o + n, none⟩) (by have := h4.drop hn h2; rw [if_neg hcn, HD.out] at this; exact this)
      have HR := hide (And.intro R.1 (only_trans hg1 R.2))
      clear R
      go_wp2
      go_ret
      exact ⟨rfl, HR.out⟩

set_option maxHeartbeats 1000000 in
theorem Text_wrong (g n e1 : Nat) (most : Int) (l l1 : List UInt8) (e : Nat) (w : World) (h : Rd w g l e) (hr : rnum l e = (n, l1, e1)) (he : 0 < e1) :
    Calls Tryz.prog 70 #[.pointer (some ⟨g, 0, none⟩), .int .i64 most] w fun r w' =>
      r = .returned (.string ⟨#[]⟩) ∧ Rd w' g l1 e1 ∧ w.grownBy w' (some g) := by
  have hN := Number_rd g e l w h
  rw [hr] at hN
  have HN := hide hN
  clear hr hN
  go_enter Tryz.func70, Tryz.ntmps70
  go_wp2_with fail
  refine HN.out.mono ?_
  rintro r w1 ⟨rfl, hr1, hg1⟩
  clear HN h
  go_wp2_with fail
  refine (Err_any g e1 l1 w1 hr1).mono ?_
  rintro r w' ⟨rfl, rfl⟩
  go_wp2
  go_ret
  exact ⟨rfl, hr1, hg1⟩

set_option maxHeartbeats 1000000 in
theorem Text_long (g n : Nat) (most : Int) (l l1 : List UInt8) (e : Nat) (w : World) (h : Rd w g l e) (hr : rnum l e = (n, l1, 0)) (hm : most < (n : Int)) :
    Calls Tryz.prog 70 #[.pointer (some ⟨g, 0, none⟩), .int .i64 most] w fun r w' =>
      r = .returned (.string ⟨#[]⟩) ∧ Rd w' g [] 1 ∧ w.grownBy w' (some g) := by
  have hN := Number_rd g e l w h
  rw [hr] at hN
  have HN := hide hN
  clear hr hN
  go_enter Tryz.func70, Tryz.ntmps70
  go_wp2_with fail
  refine HN.out.mono ?_
  rintro r w1 ⟨rfl, hr1, hg1⟩
  clear HN h
  go_wp2_with fail
  refine (Err_any g 0 l1 w1 hr1).mono ?_
  rintro r w' ⟨rfl, rfl⟩
  go_wp2_with fail
  refine (fail_any g 0 1 l1 w1 hr1).mono ?_
  rintro r w2 ⟨rfl, hr2, hg2⟩
  go_wp2
  go_ret
  exact ⟨rfl, hr2, only_trans hg1 hg2⟩

set_option maxHeartbeats 1000000 in
theorem Text_short (g n : Nat) (most : Int) (l l1 : List UInt8) (e : Nat) (w : World) (h : Rd w g l e) (hr : rnum l e = (n, l1, 0)) (hm : (n : Int) ≤ most) (hn : l1.length < n) :
    Calls Tryz.prog 70 #[.pointer (some ⟨g, 0, none⟩), .int .i64 most] w fun r w' =>
      r = .returned (.string ⟨#[]⟩) ∧ Rd w' g [] 2 ∧ w.grownBy w' (some g) := by
  have hN := Number_rd g e l w h
  rw [hr] at hN
  have HN := hide hN
  clear hr hN
  go_enter Tryz.func70, Tryz.ntmps70
  go_wp2_with fail
  refine HN.out.mono ?_
  rintro r w1 ⟨rfl, hr1, hg1⟩
  clear HN h
  go_wp2_with fail
  refine (Err_any g 0 l1 w1 hr1).mono ?_
  rintro r w' ⟨rfl, rfl⟩
  have hr2 := hr1
  obtain ⟨A, c, h1, h2, h3, h4⟩ := hr2
  have hc0 := blk_cell0 h1
  clear h1 h4
  go_wp2_with fail
  refine (fail_any g 0 2 l1 w1 hr1).mono ?_
  rintro r w2 ⟨rfl, hr2, hg2⟩
  go_wp2
  go_ret
  exact ⟨rfl, hr2, only_trans hg1 hg2⟩

theorem Text_rd (g : Nat) (most : Int) (l : List UInt8) (e : Nat) (w : World) (h : Rd w g l e) :
    Calls Tryz.prog 70 #[.pointer (some ⟨g, 0, none⟩), .int .i64 most] w fun r w' =>
      r = .returned (.string ⟨(rtext l e most).1.toArray⟩) ∧ Rd w' g (rtext l e most).2.1 (rtext l e most).2.2 ∧ w.grownBy w' (some g) := by
  obtain ⟨n, l1, e1, hr⟩ : ∃ n l1 e1, rnum l e = (n, l1, e1) := ⟨_, _, _, rfl⟩
  by_cases he : e1 = 0
  · subst he
    by_cases hm : most < (n : Int)
    · have : rtext l e most = ([], [], 1) := by unfold rtext; rw [hr]; simp [hm]
      rw [this]
      exact Text_long g n most l l1 e w h hr hm
    · by_cases hn : l1.length < n
      · have : rtext l e most = ([], [], 2) := by unfold rtext; rw [hr]; simp [hm, hn]
        rw [this]
        exact Text_short g n most l l1 e w h hr (by omega) hn
      · have : rtext l e most = (l1.take n, l1.drop n, 0) := by unfold rtext; rw [hr]; simp [hm, hn]
        rw [this]
        exact Text_fit g n most l l1 e w h hr (by omega) (by omega) _ _ rfl rfl
  · have : rtext l e most = ([], l1, e1) := by unfold rtext; rw [hr]; simp [he]
    rw [this]
    exact Text_wrong g n e1 most l l1 e w h hr (by omega)

set_option maxHeartbeats 400000 in
theorem Text_err (g e : Nat) (most : Int) (l : List UInt8) (w : World) (h : Rd w g l e) (he : 0 < e) :
    Calls Tryz.prog 70 #[.pointer (some ⟨g, 0, none⟩), .int .i64 most] w fun r w' => r = .returned (.string ⟨#[]⟩) ∧ w = w' := by
  go_enter Tryz.func70, Tryz.ntmps70
  go_wp2_with fail
  refine (Number_err g e l w h he).mono ?_
  rintro r w' ⟨rfl, rfl⟩
  go_wp2_with fail
  refine (Err_any g e l w h).mono ?_
  rintro r w' ⟨rfl, rfl⟩
  go_wp2
  go_ret
  exact ⟨rfl, rfl⟩

/-! A nil reader. -/
set_option maxHeartbeats 400000 in
theorem Err_nil (w : World) : Calls Tryz.prog 80 #[.pointer none] w fun r w' => r = .returned (.int .i64 2) ∧ w = w' := by
  go_enter Tryz.func80, Tryz.ntmps80
  go_wp2
  go_ret
  exact ⟨rfl, rfl⟩
set_option maxHeartbeats 400000 in
theorem Number_nil (w : World) : Calls Tryz.prog 68 #[.pointer none] w fun r w' => r = .returned (.int .i64 0) ∧ w = w' := by
  go_enter Tryz.func68, Tryz.ntmps68
  go_wp2_with fail
  refine (Err_nil w).mono ?_
  rintro r w' ⟨rfl, rfl⟩
  go_wp2
  go_ret
  exact ⟨rfl, rfl⟩
set_option maxHeartbeats 400000 in
theorem Text_nil (most : Int) (w : World) : Calls Tryz.prog 70 #[.pointer none, .int .i64 most] w fun r w' => r = .returned (.string ⟨#[]⟩) ∧ w = w' := by
  go_enter Tryz.func70, Tryz.ntmps70
  go_wp2_with fail
  refine (Number_nil w).mono ?_
  rintro r w' ⟨rfl, rfl⟩
  go_wp2_with fail
  refine (Err_nil w).mono ?_
  rintro r w' ⟨rfl, rfl⟩
  go_wp2
  go_ret
  exact ⟨rfl, rfl⟩

end Go.Proofs.YtnmpckhlpkmojaaGreatDoor.Pk
