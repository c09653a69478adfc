/-
  The contracts of pack.grown, putNumber, Number and Text: what is laid behind what bytes; nothing that was there is changed.
-/
import Derived.Test.YthoflpjmdhabmaaDoorPkNum
namespace Go.Proofs.YthoflpjmdhabmaaDoor.Pk
open Go.RowKit

theorem u8_one : (Tryd.prog.info? 5).map (·.size) = some 1 := by kernel_rfl

/-- A copy over the head of a row of zeros. -/
theorem own_spliced {w : World} {g base len room : Nat} {l : List UInt8} {Z : List Value} (hg : w.heap[g]? = some (.cells (splice Z 0 (cels l)).toArray 5 (0, 0))) (hb : base ≤ g)
    (hl : l.length = len) (hz : Z.length = len + room) (hm : len + room ≤ maxLen) : Own w base (.slice (some ⟨g, 0, none⟩) len (len + room)) l := by
  subst hl
  refine ⟨by simp [cels_length], .inr ⟨g, l.length + room, _, rfl, hb, hg, by omega, hm, ?_, ?_⟩⟩
  · rw [List.size_toArray, length_splice _ _ _ (by rw [cels_length]; omega), hz, Nat.mul_one]
  · simp [splice, cels_length]

set_option maxHeartbeats 400000 in
theorem grown_any (A : Option Addr) (l : List UInt8) (c room : Nat) (w : World) (hb : Byt w w.heap.size A l) (hl : l.length + room ≤ 70368744177664) :
    Calls Tryd.prog 52 #[.slice A l.length c, .int .i64 room] w fun e w' =>
      ∃ v', e = .returned v' ∧ Own w' w.heap.size v' l ∧ Below w.heap.size w w' := by
  obtain ⟨i0, hi, hz0, hz1, hz2⟩ := info_parts u8_info
  generalize hlen : l.length = len at *
  have Hlen := hide hlen
  clear hlen
  have hmk := fun W => run_make (P := Tryd.prog) W 42 5 i0 (.int .u8 0) Tryd.underlying42 hi hz0 .i64 .i64 (len : Int) ((len : Int) + (room : Int)) (by omega) (by omega) (by rw [hz2]; omega) (by omega)
  go_enter Tryd.func52, Tryd.ntmps52
  go_wp2_with (with_reducible refine wpList_copy_splice rfl (.tmp 13) (.tmp 14) 42 42 rfl 5 Tryd.underlying42 u8_one (some ⟨w.heap.size, 0, none⟩) A len (len + room) len c rfl rfl w.heap.size 0 (madeCells #[.int .u8 0] (len + room)).toList 5 ?h1 (cels l) ?h2 ?h3 ?h4 (cels_one l) w.heap.size w ?h5 (Nat.le_refl _) ?h6)
  case h1 => rw [Array.toArray_toList]; exact heap_alloc_new w _
  case h2 => rw [cels_length, Hlen.out]; exact (Nat.min_self len).symm
  case h3 =>
    intro h0
    rw [cels_length] at h0
    obtain ⟨b, o, rfl, hbb, hc⟩ := hb (by rintro rfl; simp at h0)
    refine ⟨_, rfl, fun j u hu => ?_⟩
    obtain ⟨x, hx, rfl⟩ := cels_get l j u hu
    rw [Addr.add_lit, World.cell?_alloc_past _ _ _ hbb]
    exact hc j x hx
  case h4 => rw [cels_length, Hlen.out, Array.length_toList, size_madeCells]; omega
  case h5 => exact (Below.refl _ _).alloc (Nat.le_refl _) _
  case h6 =>
    intro w1 Hg hb1
    go_wp2
    go_ret
    exact ⟨_, rfl, own_spliced Hg.out (Nat.le_refl _) Hlen.out (by rw [Array.length_toList, size_madeCells]) (by unfold maxLen; omega), hb1⟩

theorem and127_64 (m : Nat) (h : m < 9223372036854775808) : bits .and .i64 (m : Int) 127 = ((m % 128 : Nat) : Int) := by
  have hx : m &&& 127 ≤ 127 := Nat.and_le_right
  have h64 : ∀ n : Nat, n < 9223372036854775808 → (BitVec.ofInt 64 (n : Int)).toNat = n := fun n hn => by
    rw [BitVec.ofInt_natCast, BitVec.toNat_ofNat]
    exact Nat.mod_eq_of_lt (by omega)
  show IntKind.i64.wrap ((BitVec.ofInt 64 (m : Int) &&& BitVec.ofInt 64 ((127 : Nat) : Int)).toNat : Int) = _
  rw [BitVec.toNat_and, h64 m h, h64 127 (by omega), IntKind.wrap_i64, nat_mask7]
  omega
theorem or128_64 (r : Nat) (h : r < 128) : bits .or .i64 (r : Int) 128 = (r : Int) + 128 := by
  have e := or64 r 128 (by omega) (by omega)
  have j := nat_join 7 128 r (by decide) (by omega)
  rw [Nat.or_comm, j] at e
  rw [show (128 : Int) = ((128 : Nat) : Int) from rfl, e]
  omega

theorem cel_more (m r : Nat) (h : r = m % 128) : [Value.int .u8 ((r : Int) + 128)] = cels [UInt8.ofNat (m % 128 + 128)] := by
  subst h
  simp only [cels, List.map_cons, List.map_nil, cel]
  rw [ofNat_toNat _ (by omega)]
  simp
theorem cel_last (m : Nat) (h : m < 128) : [Value.int .u8 (m : Int)] = cels [UInt8.ofNat m] := by
  simp only [cels, List.map_cons, List.map_nil, cel]
  rw [ofNat_toNat _ (by omega)]

/-- One byte more on a row of the call's own. -/
theorem own_more {w : World} {base : Nat} {v : Value} {l : List UInt8} {x : UInt8} {n : Nat} (hn : l.length = n) (h : w.ownsRow base 5 1 v (n + 1) (cels l ++ cels [x])) : Own w base v (l ++ [x]) := by
  subst hn
  unfold Own
  rw [cels_append, List.length_append]
  exact h

theorem encF_lt (k m : Nat) (h : m < 128) : encF k m = [UInt8.ofNat m] := by
  cases k with
  | zero => rfl
  | succ k => unfold encF; rw [if_pos h]
theorem encF_ge (k m : Nat) (h : 128 ≤ m) : encF (k + 1) m = UInt8.ofNat (m % 128 + 128) :: encF k (m / 128) := by
  conv => lhs; unfold encF
  rw [if_neg (by omega)]

/-- What the loop keeps: so much is laid, so much is still to be laid. -/
def Laid (l goal : List UInt8) (base : Nat) (w : World) (v x : Value) (wr : World) : Prop :=
  ∃ (k m : Nat) (done : List UInt8), x = .int .i64 (m : Int) ∧ m < lim k ∧ done.length + k = 8 ∧ done ++ encF k m = goal ∧ Own wr base v (l ++ done) ∧ Below base w wr

theorem grown_below {base : Nat} {w wr w1 : World} {u : Value} {l : List UInt8} {o : Obj} (hbel : Below base w wr) (hbase : base ≤ w.heap.size) (hown : Own wr base u l) (hg : (wr.alloc o).grownBy w1 u.ownBlock) : Below base w w1 := by
  have hs := hbel.size
  exact (hbel.alloc (by omega) o).grown hg (by simp; omega) (fun k hk => (World.ownsRow.lt hown k hk).1)

set_option maxRecDepth 100000 in
set_option maxHeartbeats 1000000 in
theorem put_any (base : Nat) (v : Value) (l : List UInt8) (n : Int) (w : World) (hv : Own w base v l) (hl : l.length ≤ 70368744177664) (hbase : base ≤ w.heap.size) :
    Calls Tryd.prog 51 #[v, .int .i64 n] w fun e w' =>
      ∃ v', e = .returned v' ∧ Own w' base v' (l ++ enc (clamp n)) ∧ Below base w w' := by
  obtain ⟨i0, hi, hz0, hz1, hz2⟩ := info_parts u8_info
  have hv0 : Own w base v (l ++ []) := by simpa using hv
  have Hgoal : Hid (enc (clamp n) = encF 8 (clamp n)) := rfl
  generalize hgoal : enc (clamp n) = goal at *
  clear hgoal
  rcases (by omega : n < 0 ∨ (0 ≤ n ∧ n ≤ 1152921504606846975) ∨ 1152921504606846975 < n) with h1 | ⟨h1, h2⟩ | h1
  · have hn : clamp n = 0 := by unfold clamp; omega
    rw [hn] at Hgoal
    clear hn
    go_enter Tryd.func51, Tryd.ntmps51
    go_wp2
    go_loopw [0, 1] (Laid l goal base w) (fun _ x _ => (intOf x).toNat)
    case atStart => exact ⟨8, 0, [], rfl, by decide, rfl, Hgoal.out.symm, hv0, Below.refl _ _⟩
    case round =>
      obtain ⟨k, m, done, rfl, hm, hk, hg, hown, hbel⟩ := hrel
      have hll : l.length + done.length ≤ 70368744177700 := by omega
      have hsz := hbel.size
      have hm63 : m < 1152921504606846976 := by
        have h8 : lim k ≤ lim 8 := Nat.mul_le_mul_left _ (Nat.pow_le_pow_right (by omega) (by omega))
        rw [lim_eight] at h8; omega
      by_cases hmm : 127 < m
      · obtain ⟨k, rfl⟩ : ∃ j, k = j + 1 := ⟨k - 1, by
          rcases Nat.eq_zero_or_pos k with h0 | h0
          · subst h0; simp [lim] at hm; omega
          · omega⟩
        obtain ⟨r, hr⟩ : ∃ r : Nat, r = m % 128 := ⟨_, rfl⟩
        have hr128 : r < 128 := by omega
        have e1 := and127_64 m (by omega)
        rw [← hr] at e1
        have e2 := or128_64 r hr128
        have hcel := cel_more m r hr
        rw [encF_ge k m (by omega)] at hg
        have hg' : (done ++ [UInt8.ofNat (m % 128 + 128)]) ++ encF k (m / 128) = goal := by rw [← hg]; simp
        have hm' : m / 128 < lim k := by rw [lim_succ] at hm; omega
        have Hcel := hide hcel
        have Hg := hide hg'
        have Hm := hide hm'
        have Hk := hide hk
        clear hm hk hg hr hcel hg' hm'
        go_wp2_with (at_builtin; refine wpList_append_own _ rfl (.tmp 10) (.tmp 15) 42 rfl base 5 i0 (.int .u8 0) 1 1 Tryd.underlying42 hi hz0 hz1 hz2 rfl (by decide) _ _ _ rfl (World.ownsRow.alloc hown _) ⟨wr.heap.size, 0, none⟩ 1 1 [.int .u8 ((r : Int) + 128)] rfl rfl (cell_one_new _ _ _) ?c2 ?c3 ?c4 ?c5 ?_)
        case c2 => intro u hu; simp at hu; subst hu; rfl
        case c3 => simp only [List.length_append]; unfold maxLen; omega
        case c4 => simp only [List.length_append]; omega
        case c5 => simp; omega
        intro v' w1 hown' hgrow _
        have R := grown_below hbel hbase hown hgrow
        rw [Hcel.out] at hown'
        have R2 := own_more (l := l ++ done) (List.length_append ..) hown'
        rw [List.append_assoc] at R2
        clear hown' hgrow hown hbel
        go_wp2
        go_roundw
        case rel => exact ⟨k, m / 128, done ++ [UInt8.ofNat (m % 128 + 128)], by go_num, Hm.out, by have := Hk.out; simp; omega, Hg.out, R2, R⟩
        case measure => simp [intOf]; omega
      · have hcel := cel_last m (by omega)
        rw [encF_lt k m (by omega)] at hg
        have Hcel := hide hcel
        have Hg := hide hg
        clear hm hk hg hcel
        go_wp2_with (at_builtin; refine wpList_append_own _ rfl (.tmp 19) (.tmp 22) 42 rfl base 5 i0 (.int .u8 0) 1 1 Tryd.underlying42 hi hz0 hz1 hz2 rfl (by decide) _ _ _ rfl (World.ownsRow.alloc hown _) ⟨wr.heap.size, 0, none⟩ 1 1 [.int .u8 (m : Int)] rfl rfl (cell_one_new _ _ _) ?d2 ?d3 ?d4 ?d5 ?_)
        case d2 => intro u hu; simp at hu; subst hu; rfl
        case d3 => simp only [List.length_append]; unfold maxLen; omega
        case d4 => simp only [List.length_append]; omega
        case d5 => simp; omega
        intro v' w1 hown' hgrow _
        have R := grown_below hbel hbase hown hgrow
        rw [Hcel.out] at hown'
        have R2 := own_more (l := l ++ done) (List.length_append ..) hown'
        rw [List.append_assoc, Hg.out] at R2
        clear hown' hgrow hown hbel
        go_wp2
        go_ret
        exact ⟨_, rfl, R2, R⟩
  · obtain ⟨N, hN⟩ : ∃ N : Nat, (N : Int) = n := ⟨n.toNat, by omega⟩
    have hn : clamp n = N := by unfold clamp; omega
    rw [hn] at Hgoal
    subst hN
    clear hn
    go_enter Tryd.func51, Tryd.ntmps51
    go_wp2
    go_loopw [0, 1] (Laid l goal base w) (fun _ x _ => (intOf x).toNat)
    case atStart => exact ⟨8, N, [], rfl, by rw [lim_eight]; omega, rfl, Hgoal.out.symm, hv0, Below.refl _ _⟩
    case round =>
      obtain ⟨k, m, done, rfl, hm, hk, hg, hown, hbel⟩ := hrel
      have hll : l.length + done.length ≤ 70368744177700 := by omega
      have hsz := hbel.size
      have hm63 : m < 1152921504606846976 := by
        have h8 : lim k ≤ lim 8 := Nat.mul_le_mul_left _ (Nat.pow_le_pow_right (by omega) (by omega))
        rw [lim_eight] at h8; omega
      by_cases hmm : 127 < m
      · obtain ⟨k, rfl⟩ : ∃ j, k = j + 1 := ⟨k - 1, by
          rcases Nat.eq_zero_or_pos k with h0 | h0
          · subst h0; simp [lim] at hm; omega
          · omega⟩
        obtain ⟨r, hr⟩ : ∃ r : Nat, r = m % 128 := ⟨_, rfl⟩
        have hr128 : r < 128 := by omega
        have e1 := and127_64 m (by omega)
        rw [← hr] at e1
        have e2 := or128_64 r hr128
        have hcel := cel_more m r hr
        rw [encF_ge k m (by omega)] at hg
        have hg' : (done ++ [UInt8.ofNat (m % 128 + 128)]) ++ encF k (m / 128) = goal := by rw [← hg]; simp
        have hm' : m / 128 < lim k := by rw [lim_succ] at hm; omega
        have Hcel := hide hcel
        have Hg := hide hg'
        have Hm := hide hm'
        have Hk := hide hk
        clear hm hk hg hr hcel hg' hm'
        go_wp2_with (at_builtin; refine wpList_append_own _ rfl (.tmp 10) (.tmp 15) 42 rfl base 5 i0 (.int .u8 0) 1 1 Tryd.underlying42 hi hz0 hz1 hz2 rfl (by decide) _ _ _ rfl (World.ownsRow.alloc hown _) ⟨wr.heap.size, 0, none⟩ 1 1 [.int .u8 ((r : Int) + 128)] rfl rfl (cell_one_new _ _ _) ?c2 ?c3 ?c4 ?c5 ?_)
        case c2 => intro u hu; simp at hu; subst hu; rfl
        case c3 => simp only [List.length_append]; unfold maxLen; omega
        case c4 => simp only [List.length_append]; omega
        case c5 => simp; omega
        intro v' w1 hown' hgrow _
        have R := grown_below hbel hbase hown hgrow
        rw [Hcel.out] at hown'
        have R2 := own_more (l := l ++ done) (List.length_append ..) hown'
        rw [List.append_assoc] at R2
        clear hown' hgrow hown hbel
        go_wp2
        go_roundw
        case rel => exact ⟨k, m / 128, done ++ [UInt8.ofNat (m % 128 + 128)], by go_num, Hm.out, by have := Hk.out; simp; omega, Hg.out, R2, R⟩
        case measure => simp [intOf]; omega
      · have hcel := cel_last m (by omega)
        rw [encF_lt k m (by omega)] at hg
        have Hcel := hide hcel
        have Hg := hide hg
        clear hm hk hg hcel
        go_wp2_with (at_builtin; refine wpList_append_own _ rfl (.tmp 19) (.tmp 22) 42 rfl base 5 i0 (.int .u8 0) 1 1 Tryd.underlying42 hi hz0 hz1 hz2 rfl (by decide) _ _ _ rfl (World.ownsRow.alloc hown _) ⟨wr.heap.size, 0, none⟩ 1 1 [.int .u8 (m : Int)] rfl rfl (cell_one_new _ _ _) ?d2 ?d3 ?d4 ?d5 ?_)
        case d2 => intro u hu; simp at hu; subst hu; rfl
        case d3 => simp only [List.length_append]; unfold maxLen; omega
        case d4 => simp only [List.length_append]; omega
        case d5 => simp; omega
        intro v' w1 hown' hgrow _
        have R := grown_below hbel hbase hown hgrow
        rw [Hcel.out] at hown'
        have R2 := own_more (l := l ++ done) (List.length_append ..) hown'
        rw [List.append_assoc, Hg.out] at R2
        clear hown' hgrow hown hbel
        go_wp2
        go_ret
        exact ⟨_, rfl, R2, R⟩
  · have hn : clamp n = 1152921504606846975 := by unfold clamp; omega
    rw [hn] at Hgoal
    clear hn
    go_enter Tryd.func51, Tryd.ntmps51
    go_wp2
    go_loopw [0, 1] (Laid l goal base w) (fun _ x _ => (intOf x).toNat)
    case atStart => exact ⟨8, 1152921504606846975, [], rfl, by rw [lim_eight]; omega, rfl, Hgoal.out.symm, hv0, Below.refl _ _⟩
    case round =>
      obtain ⟨k, m, done, rfl, hm, hk, hg, hown, hbel⟩ := hrel
      have hll : l.length + done.length ≤ 70368744177700 := by omega
      have hsz := hbel.size
      have hm63 : m < 1152921504606846976 := by
        have h8 : lim k ≤ lim 8 := Nat.mul_le_mul_left _ (Nat.pow_le_pow_right (by omega) (by omega))
        rw [lim_eight] at h8; omega
      by_cases hmm : 127 < m
      · obtain ⟨k, rfl⟩ : ∃ j, k = j + 1 := ⟨k - 1, by
          rcases Nat.eq_zero_or_pos k with h0 | h0
          · subst h0; simp [lim] at hm; omega
          · omega⟩
        obtain ⟨r, hr⟩ : ∃ r : Nat, r = m % 128 := ⟨_, rfl⟩
        have hr128 : r < 128 := by omega
        have e1 := and127_64 m (by omega)
        rw [← hr] at e1
        have e2 := or128_64 r hr128
        have hcel := cel_more m r hr
        rw [encF_ge k m (by omega)] at hg
        have hg' : (done ++ [UInt8.ofNat (m % 128 + 128)]) ++ encF k (m / 128) = goal := by rw [← hg]; simp
        have hm' : m / 128 < lim k := by rw [lim_succ] at hm; omega
        have Hcel := hide hcel
        have Hg := hide hg'
        have Hm := hide hm'
        have Hk := hide hk
        clear hm hk hg hr hcel hg' hm'
        go_wp2_with (at_builtin; refine wpList_append_own _ rfl (.tmp 10) (.tmp 15) 42 rfl base 5 i0 (.int .u8 0) 1 1 Tryd.underlying42 hi hz0 hz1 hz2 rfl (by decide) _ _ _ rfl (World.ownsRow.alloc hown _) ⟨wr.heap.size, 0, none⟩ 1 1 [.int .u8 ((r : Int) + 128)] rfl rfl (cell_one_new _ _ _) ?c2 ?c3 ?c4 ?c5 ?_)
        case c2 => intro u hu; simp at hu; subst hu; rfl
        case c3 => simp only [List.length_append]; unfold maxLen; omega
        case c4 => simp only [List.length_append]; omega
        case c5 => simp; omega
        intro v' w1 hown' hgrow _
        have R := grown_below hbel hbase hown hgrow
        rw [Hcel.out] at hown'
        have R2 := own_more (l := l ++ done) (List.length_append ..) hown'
        rw [List.append_assoc] at R2
        clear hown' hgrow hown hbel
        go_wp2
        go_roundw
        case rel => exact ⟨k, m / 128, done ++ [UInt8.ofNat (m % 128 + 128)], by go_num, Hm.out, by have := Hk.out; simp; omega, Hg.out, R2, R⟩
        case measure => simp [intOf]; omega
      · have hcel := cel_last m (by omega)
        rw [encF_lt k m (by omega)] at hg
        have Hcel := hide hcel
        have Hg := hide hg
        clear hm hk hg hcel
        go_wp2_with (at_builtin; refine wpList_append_own _ rfl (.tmp 19) (.tmp 22) 42 rfl base 5 i0 (.int .u8 0) 1 1 Tryd.underlying42 hi hz0 hz1 hz2 rfl (by decide) _ _ _ rfl (World.ownsRow.alloc hown _) ⟨wr.heap.size, 0, none⟩ 1 1 [.int .u8 (m : Int)] rfl rfl (cell_one_new _ _ _) ?d2 ?d3 ?d4 ?d5 ?_)
        case d2 => intro u hu; simp at hu; subst hu; rfl
        case d3 => simp only [List.length_append]; unfold maxLen; omega
        case d4 => simp only [List.length_append]; omega
        case d5 => simp; omega
        intro v' w1 hown' hgrow _
        have R := grown_below hbel hbase hown hgrow
        rw [Hcel.out] at hown'
        have R2 := own_more (l := l ++ done) (List.length_append ..) hown'
        rw [List.append_assoc, Hg.out] at R2
        clear hown' hgrow hown hbel
        go_wp2
        go_ret
        exact ⟨_, rfl, R2, R⟩

end Go.Proofs.YthoflpjmdhabmaaDoor.Pk
