/-
  The contracts of a reader's Number, Text and End, for every state of the reader, and of all methods of a nil reader.
-/
import Derived.Test.YthoflpjmdhabmaaDoorPkRead
namespace Go.Proofs.YthoflpjmdhabmaaDoor.Pk
open Go.RowKit

/-- What Number returns, and what is left, and what is wrong then. -/
def rnum (l : List UInt8) (e : Nat) : Nat × List UInt8 × Nat :=
  if e ≠ 0 then (0, l, e) else if (dec l).2.2 = 0 then ((dec l).1, l.drop (dec l).2.1, 0) else (0, [], (dec l).2.2)
/-- The same of Text. -/
def rtext (l : List UInt8) (e : Nat) (most : Int) : List UInt8 × List UInt8 × Nat :=
  if (rnum l e).2.2 ≠ 0 then ([], (rnum l e).2)
  else if most < ((rnum l e).1 : Int) then ([], [], 1)
  else if (rnum l e).2.1.length < (rnum l e).1 then ([], [], 2)
  else ((rnum l e).2.1.take (rnum l e).1, (rnum l e).2.1.drop (rnum l e).1, 0)
def rend (l : List UInt8) (e : Nat) : Nat := if e ≠ 0 then e else if l.length = 0 then 0 else 3

theorem rnum_err (l : List UInt8) (e : Nat) (h : e ≠ 0) : rnum l e = (0, l, e) := by unfold rnum; rw [if_pos h]
theorem rnum_ok (l : List UInt8) (n s : Nat) (h : dec l = (n, s, 0)) : rnum l 0 = (n, l.drop s, 0) := by
  unfold rnum; rw [if_neg (by omega), h, if_pos rfl]
theorem rnum_bad (l : List UInt8) (n s e : Nat) (h : dec l = (n, s, e)) (he : e ≠ 0) : rnum l 0 = (0, [], e) := by
  unfold rnum; rw [if_neg (by omega), h, if_neg he]

/-- A reader whose rest was cut at its front. -/
theorem rd_cut {w : World} {g b o c k : Nat} {l : List UInt8} (h1 : w.heap[g]? = some (.cells #[.slice (some ⟨b, o, none⟩) l.length c, .int .i64 0] 94 (0, 0))) (h2 : l.length ≤ c) (h3 : c ≤ maxLen)
    (h4 : Byt w g (some ⟨b, o, none⟩) l) (hk : k ≤ l.length) (A : Option Addr) (hA : A = if c = k then some ⟨b, o, none⟩ else some ⟨b, o + k, none⟩) :
    Rd (w.setCell ⟨g, 0, none⟩ (.slice A (l.length - k) (c - k))) g (l.drop k) 0 ∧ w.grownBy (w.setCell ⟨g, 0, none⟩ (.slice A (l.length - k) (c - k))) (some g) := by
  have R1 := heap_setCell_same w g 0 _ _ (.slice A (l.length - k) (c - k)) h1
  have hg := (Array.getElem?_eq_some_iff.1 h1).1
  have R3 : w.grownBy (w.setCell ⟨g, 0, none⟩ (.slice A (l.length - k) (c - k))) (some g) :=
    ⟨rfl, rfl, rfl, by simp, fun j _ hj => heap_setCell_other _ ⟨g, 0, none⟩ j _ (fun e => hj (by rw [e]))⟩
  refine ⟨⟨A, c - k, ?_, by rw [List.length_drop]; omega, by omega, ?_⟩, R3⟩
  · rw [List.length_drop]; exact R1
  · subst hA
    exact (h4.drop hk h2).below (below_of_only R3 (Nat.le_refl _) hg)

set_option maxHeartbeats 1000000 in
theorem Number_ok (g n s : Nat) (l : List UInt8) (w : World) (h : Rd w g l 0) (hd : dec l = (n, s, 0)) :
    Calls Tryd.prog 53 #[.pointer (some ⟨g, 0, none⟩)] w fun r w' =>
      r = .returned (.int .i64 (n : Int)) ∧ Rd w' g (l.drop s) 0 ∧ w.grownBy w' (some g) := by
  have h0 := h
  obtain ⟨A, c, h1, h2, h3, h4⟩ := h
  have hc0 := blk_cell0 h1
  have hf0 := blk_free h1 0
  have hs : s ≤ l.length := (dec_ok l n s hd).2.2.1
  have Hd := hide hd
  have hne : l ≠ [] := by rintro rfl; simp [dec, decF] at hd
  obtain ⟨b, o, rfl, _, _⟩ := h4 hne
  have hc2 : c ≤ 9223372036854775807 := h3
  have hl2 : l.length ≤ maxLen := Nat.le_trans h2 h3
  by_cases hcs : c = s
  · have R := rd_cut h1 h2 h3 h4 hs (some ⟨b, o, none⟩) (by rw [if_pos hcs])
    rw [show l.length - s = 0 by omega, show c - s = 0 by omega] at R
    have H1 := hide R
    clear hd hne h1 R
    subst hcs
    go_enter Tryd.func53, Tryd.ntmps53
    go_wp2_with fail
    refine (Err_any g 0 l w h0).mono ?_
    rintro r w' ⟨rfl, rfl⟩
    go_wp2_with fail
    refine (number_any _ c g l w hl2 h4 n c 0 Hd).mono ?_
    rintro r w' ⟨rfl, rfl⟩
    go_wp2
    go_ret
    exact ⟨rfl, H1.out⟩
  · have R := rd_cut h1 h2 h3 h4 hs (some ⟨b, o + s, none⟩) (by rw [if_neg hcs])
    have H1 := hide R
    clear hd hne h1 R
    go_enter Tryd.func53, Tryd.ntmps53
    go_wp2_with fail
    refine (Err_any g 0 l w h0).mono ?_
    rintro r w' ⟨rfl, rfl⟩
    go_wp2_with fail
    refine (number_any _ c g l w hl2 h4 n s 0 Hd).mono ?_
    rintro r w' ⟨rfl, rfl⟩
    go_wp2
    go_ret
    exact ⟨rfl, H1.out⟩

set_option maxHeartbeats 1000000 in
theorem Number_bad (g e : Nat) (l : List UInt8) (w : World) (h : Rd w g l 0) (hd : dec l = (0, 0, e)) (he : 0 < e) :
    Calls Tryd.prog 53 #[.pointer (some ⟨g, 0, none⟩)] w fun r w' =>
      r = .returned (.int .i64 0) ∧ Rd w' g [] e ∧ w.grownBy w' (some g) := by
  have h0 := h
  obtain ⟨A, c, h1, h2, h3, h4⟩ := h
  have hc0 := blk_cell0 h1
  have Hd := hide hd
  have hl2 : l.length ≤ maxLen := Nat.le_trans h2 h3
  clear hd h1
  go_enter Tryd.func53, Tryd.ntmps53
  go_wp2_with fail
  refine (Err_any g 0 l w h0).mono ?_
  rintro r w' ⟨rfl, rfl⟩
  go_wp2_with fail
  refine (number_any _ c g l w hl2 h4 0 0 e Hd).mono ?_
  rintro r w' ⟨rfl, rfl⟩
  go_wp2_with fail
  refine (fail_any g 0 e l w h0).mono ?_
  rintro r w' ⟨rfl, hr, hg⟩
  go_wp2
  go_ret
  exact ⟨rfl, hr, hg⟩

set_option maxHeartbeats 1000000 in
theorem Number_err (g e : Nat) (l : List UInt8) (w : World) (h : Rd w g l e) (he : 0 < e) :
    Calls Tryd.prog 53 #[.pointer (some ⟨g, 0, none⟩)] w fun r w' => r = .returned (.int .i64 0) ∧ w = w' := by
  go_enter Tryd.func53, Tryd.ntmps53
  go_wp2_with fail
  refine (Err_any g e l w h).mono ?_
  rintro r w' ⟨rfl, rfl⟩
  go_wp2
  go_ret
  exact ⟨rfl, rfl⟩

theorem only_refl (w : World) (g : Nat) : w.grownBy w (some g) := World.grownBy.refl w _

theorem Number_rd (g e : Nat) (l : List UInt8) (w : World) (h : Rd w g l e) :
    Calls Tryd.prog 53 #[.pointer (some ⟨g, 0, none⟩)] w fun r w' =>
      r = .returned (.int .i64 ((rnum l e).1 : Int)) ∧ Rd w' g (rnum l e).2.1 (rnum l e).2.2 ∧ w.grownBy w' (some g) := by
  by_cases he : e = 0
  · subst he
    rcases dec_cases l with ⟨n, s, hd, _, _⟩ | hd | hd
    · rw [rnum_ok l n s hd]
      exact Number_ok g n s l w h hd
    · rw [rnum_bad l 0 0 1 hd (by omega)]
      exact Number_bad g 1 l w h hd (by omega)
    · rw [rnum_bad l 0 0 2 hd (by omega)]
      exact Number_bad g 2 l w h hd (by omega)
  · rw [rnum_err l e he]
    refine (Number_err g e l w h (by omega)).mono ?_
    rintro r w' ⟨rfl, rfl⟩
    exact ⟨rfl, h, only_refl w g⟩

set_option maxHeartbeats 1000000 in
theorem End_rd (g e : Nat) (l : List UInt8) (w : World) (h : Rd w g l e) :
    Calls Tryd.prog 55 #[.pointer (some ⟨g, 0, none⟩)] w fun r w' => r = .returned (.int .i64 (rend l e : Int)) ∧ w = w' := by
  rcases Nat.eq_zero_or_pos e with he | he
  · subst he
    rcases Nat.eq_zero_or_pos l.length with hl | hl
    · have hr : rend l 0 = 0 := by unfold rend; simp [hl]
      have hl' : l.length < 1 := by omega
      rw [hr]
      clear hr hl
      go_enter Tryd.func55, Tryd.ntmps55
      go_wp2_with fail
      refine (Err_any g 0 l w h).mono ?_
      rintro r w' ⟨rfl, rfl⟩
      go_wp2_with fail
      refine (Left_any g 0 l w h).mono ?_
      rintro r w' ⟨rfl, rfl⟩
      go_wp2
      go_ret
      exact ⟨rfl, rfl⟩
    · have hr : rend l 0 = 3 := by unfold rend; rw [if_neg (by omega), if_neg (by omega)]
      rw [hr]
      clear hr
      go_enter Tryd.func55, Tryd.ntmps55
      go_wp2_with fail
      refine (Err_any g 0 l w h).mono ?_
      rintro r w' ⟨rfl, rfl⟩
      go_wp2_with fail
      refine (Left_any g 0 l w h).mono ?_
      rintro r w' ⟨rfl, rfl⟩
      go_wp2
      go_ret
      exact ⟨rfl, rfl⟩
  · have hr : rend l e = e := by unfold rend; rw [if_pos (by omega)]
    rw [hr]
    clear hr
    go_enter Tryd.func55, Tryd.ntmps55
    go_wp2_with fail
    refine (Err_any g e l w h).mono ?_
    rintro r w' ⟨rfl, rfl⟩
    go_wp2
    go_ret
    exact ⟨rfl, rfl⟩

end Go.Proofs.YthoflpjmdhabmaaDoor.Pk
