/-
  The walk of RecordTurned: for every generation, record, place and pattern it returns true; nothing that was there is changed. Conditions: the table of half bytes and the library's variable errors.errorType hold what the program's own text lays.
-/
import Derived.OpenShut
import Derived.Test.YtkimhfcnkbakiaaDoorRcUnlike
namespace Go.Proofs.YtkimhfcnkbakiaaDoor.Rc
open Go.RowKit
open Pk Sm Fa

/-- A byte stored into a row of the call's own. -/
theorem own_store {w : World} {base g n c q : Nat} {l : List UInt8} (h : Own w base (.slice (some ⟨g, 0, none⟩) n c) l) (hn : l.length = n) (hq : q < n) (u : UInt8) :
    Own (w.setCell ⟨g, q, none⟩ (cel u)) base (.slice (some ⟨g, 0, none⟩) n c) (l.set q u) := by
  subst hn
  have := (World.ownsRow.stored h q (cel u)).1
  unfold Own
  rw [List.length_set]
  simpa [cels, List.map_set] using this
theorem own_head {w : World} {base b o n c : Nat} {l : List UInt8} (h : Own w base (.slice (some ⟨b, o, none⟩) n c) l) : o = 0 ∧ base ≤ b := by
  rcases h.2 with ⟨e, _⟩ | ⟨g, cap, cur, e, hb, _⟩
  · cases e
  · cases e
    exact ⟨rfl, hb⟩
theorem bit_and (t j : Nat) (h : t < 4294967296) : bits .and .u32 ((t : Int) / 2 ^ j) 1 = ((t / 2 ^ j % 2 : Nat) : Int) := by
  have e : ((t : Int) / 2 ^ j) = ((t / 2 ^ j : Nat) : Int) := by simp
  have h' : t / 2 ^ j < 4294967296 := Nat.lt_of_le_of_lt (Nat.div_le_self _ _) h
  have := u32_and_nat (t / 2 ^ j) 1 h' (by omega)
  rw [Nat.and_one_is_mod] at this
  rw [e]
  exact this
/-- What the loop keeps. -/
def Trn (l0 : List UInt8) (base g c k t : Nat) (w : World) (i : Value) (wr : World) : Prop :=
  ∃ (j : Nat) (l : List UInt8), i = .int .i64 (j : Int) ∧ j ≤ 32 ∧ l.length = 64 ∧ Hid (Burst l0 k t j l) ∧ Own wr base (.slice (some ⟨g, 0, none⟩) 64 c) l ∧ Below base w wr

set_option maxRecDepth 100000 in
set_option maxHeartbeats 2000000 in
theorem Turned_long (g s k b : Int) (d : ByteArray) (m : Int) (at_ t : Nat) (w : World) (ht : Tab w)  (hd : 2000 ≤ d.size) (hd2 : d.size ≤ 9223372036854775807) :
    Calls Tryd.prog 6 #[.int .i64 g, rec5 s k b d m, .int .u64 (at_ : Int), .int .u32 (t : Int)] w fun e w' => e = .returned (.bool true) ∧ Below w.heap.size w w' := by
  have hpos := ht.pos
  have Ht := hide ht
  have hx := Bx.new w s k b d m
  have HB0 := hide (box_below w s k b d m)
  clear ht
  go_enter Tryd.func6, Tryd.ntmps6
  go_wp2_with fail
  generalize w.alloc _ = w0 at *
  refine (awake_any w0 (Ht.out.below HB0.out hpos)).mono ?_
  rintro r w1 ⟨rfl, hb1⟩
  have hx1 := hx.below hb1
  have HB1 := hide (HB0.out.trans (hb1.mono HB0.out.size))
  have xa0 := hx1.c0
  have xa1 := hx1.c1
  have xa2 := hx1.c2
  have xa3 := hx1.c3
  have xa4 := hx1.c4
  clear hx hb1 HB0
  go_wp2_with fail
  refine (few_any s k b d m w1 (by omega)).mono ?_
  rintro r w2 ⟨⟨B, rfl, hB⟩, hb2⟩
  obtain rfl : B = false := by cases B with | false => rfl | true => exact absurd (hB.1 rfl) (by omega)
  have hx2 := hx1.below hb2
  have HB2 := hide (HB1.out.trans (hb2.mono HB1.out.size))
  clear hx1 hb2 HB1 hB xa0 xa1 xa2 xa3 xa4
  clear hx2
  go_wp2_with fail
  refine (awake_any w2 (Ht.out.below HB2.out hpos)).mono ?_
  rintro r w4 ⟨rfl, hb4⟩
  have HB4 := hide (HB2.out.trans (hb4.mono HB2.out.size))
  clear hb4
  go_wp2
  go_ret
  exact ⟨rfl, HB4.out⟩

set_option maxRecDepth 100000 in
set_option maxHeartbeats 2000000 in
theorem Turned_none (g s k b : Int) (d : ByteArray) (m : Int) (at_ t : Nat) (w : World) (ht : Tab w)  (hd : d.size < 2000) (h0 : ((t : Int) == 0) = true) :
    Calls Tryd.prog 6 #[.int .i64 g, rec5 s k b d m, .int .u64 (at_ : Int), .int .u32 (t : Int)] w fun e w' => e = .returned (.bool true) ∧ Below w.heap.size w w' := by
  have hpos := ht.pos
  have Ht := hide ht
  have hx := Bx.new w s k b d m
  have HB0 := hide (box_below w s k b d m)
  clear ht
  go_enter Tryd.func6, Tryd.ntmps6
  go_wp2_with fail
  generalize w.alloc _ = w0 at *
  refine (awake_any w0 (Ht.out.below HB0.out hpos)).mono ?_
  rintro r w1 ⟨rfl, hb1⟩
  have hx1 := hx.below hb1
  have HB1 := hide (HB0.out.trans (hb1.mono HB0.out.size))
  have xa0 := hx1.c0
  have xa1 := hx1.c1
  have xa2 := hx1.c2
  have xa3 := hx1.c3
  have xa4 := hx1.c4
  clear hx hb1 HB0
  go_wp2_with fail
  refine (few_any s k b d m w1 (by omega)).mono ?_
  rintro r w2 ⟨⟨B, rfl, hB⟩, hb2⟩
  obtain rfl : B = true := by exact hB.2 hd
  have hx2 := hx1.below hb2
  have HB2 := hide (HB1.out.trans (hb2.mono HB1.out.size))
  clear hx1 hb2 HB1 hB xa0 xa1 xa2 xa3 xa4
  clear hx2
  go_wp2_with fail
  refine (awake_any w2 (Ht.out.below HB2.out hpos)).mono ?_
  rintro r w4 ⟨rfl, hb4⟩
  have HB4 := hide (HB2.out.trans (hb4.mono HB2.out.size))
  clear hb4
  go_wp2
  go_ret
  exact ⟨rfl, HB4.out⟩

set_option maxRecDepth 100000 in
set_option maxHeartbeats 2000000 in
theorem Turned_bad (g s k b : Int) (d : ByteArray) (m : Int) (at_ t : Nat) (w : World) (ht : Tab w)  (hd : d.size < 2000) (h0 : 0 < t) (hr : ¬ (Rgt s k b d.size m ∧ Num g)) :
    Calls Tryd.prog 6 #[.int .i64 g, rec5 s k b d m, .int .u64 (at_ : Int), .int .u32 (t : Int)] w fun e w' => e = .returned (.bool true) ∧ Below w.heap.size w w' := by
  have ht0 : ((t : Int) == 0) = false := by simp; omega
  have hpos := ht.pos
  have Ht := hide ht
  have hx := Bx.new w s k b d m
  have HB0 := hide (box_below w s k b d m)
  clear ht
  go_enter Tryd.func6, Tryd.ntmps6
  go_wp2_with fail
  generalize w.alloc _ = w0 at *
  refine (awake_any w0 (Ht.out.below HB0.out hpos)).mono ?_
  rintro r w1 ⟨rfl, hb1⟩
  have hx1 := hx.below hb1
  have HB1 := hide (HB0.out.trans (hb1.mono HB0.out.size))
  have xa0 := hx1.c0
  have xa1 := hx1.c1
  have xa2 := hx1.c2
  have xa3 := hx1.c3
  have xa4 := hx1.c4
  clear hx hb1 HB0
  go_wp2_with fail
  refine (few_any s k b d m w1 (by omega)).mono ?_
  rintro r w2 ⟨⟨B, rfl, hB⟩, hb2⟩
  obtain rfl : B = true := by exact hB.2 hd
  have hx2 := hx1.below hb2
  have HB2 := hide (HB1.out.trans (hb2.mono HB1.out.size))
  clear hx1 hb2 HB1 hB xa0 xa1 xa2 xa3 xa4
  have xa0 := hx2.c0
  have xa1 := hx2.c1
  have xa2 := hx2.c2
  have xa3 := hx2.c3
  have xa4 := hx2.c4
  clear hx2
  go_wp2_with fail
  refine (Encode_bad g s k b d m w2 hr (by omega)).mono ?_
  rintro r w3 ⟨p3, rfl, _, hb3⟩
  have HB3 := hide (HB2.out.trans (hb3.mono HB2.out.size))
  clear hb3
  go_wp2
  go_ret
  exact ⟨rfl, HB3.out⟩

set_option maxRecDepth 100000 in
set_option maxHeartbeats 2000000 in
theorem Turned_good (g s k b : Int) (d : ByteArray) (m : Int) (at_ t : Nat) (w : World) (ht : Tab w) (hty : Ety w) (hd : d.size < 2000) (h0 : 0 < t) (h2 : t ≤ 4294967295) (h1 : at_ ≤ 18446744073709551615) (hr : Rgt s k b d.size m ∧ Num g) :
    Calls Tryd.prog 6 #[.int .i64 g, rec5 s k b d m, .int .u64 (at_ : Int), .int .u32 (t : Int)] w fun e w' => e = .returned (.bool true) ∧ Below w.heap.size w w' := by
  have ht0 : ((t : Int) == 0) = false := by simp; omega
  have Hty := hide hty
  clear hty
  have hpos := ht.pos
  have Ht := hide ht
  have hx := Bx.new w s k b d m
  have HB0 := hide (box_below w s k b d m)
  clear ht
  go_enter Tryd.func6, Tryd.ntmps6
  go_wp2_with fail
  generalize w.alloc _ = w0 at *
  refine (awake_any w0 (Ht.out.below HB0.out hpos)).mono ?_
  rintro r w1 ⟨rfl, hb1⟩
  have hx1 := hx.below hb1
  have HB1 := hide (HB0.out.trans (hb1.mono HB0.out.size))
  have xa0 := hx1.c0
  have xa1 := hx1.c1
  have xa2 := hx1.c2
  have xa3 := hx1.c3
  have xa4 := hx1.c4
  clear hx hb1 HB0
  go_wp2_with fail
  refine (few_any s k b d m w1 (by omega)).mono ?_
  rintro r w2 ⟨⟨B, rfl, hB⟩, hb2⟩
  obtain rfl : B = true := by exact hB.2 hd
  have hx2 := hx1.below hb2
  have HB2 := hide (HB1.out.trans (hb2.mono HB1.out.size))
  clear hx1 hb2 HB1 hB xa0 xa1 xa2 xa3 xa4
  have xa0 := hx2.c0
  have xa1 := hx2.c1
  have xa2 := hx2.c2
  have xa3 := hx2.c3
  have xa4 := hx2.c4
  clear hx2
  have HR := hide hr
  clear hr
  go_wp2_with fail
  refine (Encode_good g s k b d m w2 HR.out.1 HR.out.2 (Ht.out.below HB2.out hpos)).mono ?_
  rintro r w3 ⟨b3, o3, c3, rfl, hc3, hcm3, hown3, _, hb3⟩
  obtain ⟨rfl, hb3b⟩ := own_head hown3
  have HL := hide (sec_length (g := g) HR.out.1)
  clear xa0 xa1 xa2 xa3 xa4
  obtain ⟨q0, hq0, hq1⟩ : ∃ q0 : Nat, ((at_ : Int) % 481) = (q0 : Int) ∧ q0 ≤ 480 := ⟨at_ % 481, by omega, by omega⟩
  go_wp2
  clear hq0
  go_loopw [12] (Trn (sec g s k b d m) w2.heap.size b3 c3 q0 t w2) (fun i _ => 32 - (intOf i).toNat)
  case atStart => exact ⟨0, _, rfl, by omega, HL.out, Burst.start _ _ _, hown3, hb3⟩
  case round =>
    clear hown3 hb3
    obtain ⟨j, l, rfl, hj, hl, hB, hown, hbel⟩ := hrel
    by_cases hlt : j < 32
    · rcases Nat.mod_two_eq_zero_or_one (t / 2 ^ j) with hbit | hbit
      · have e1 : bits .and .u32 ((t : Int) / 2 ^ j) 1 = 0 := by rw [bit_and t j (by omega), hbit]; rfl
        have Hnext := hide (hB.out.stay hbit)
        clear hbit hB
        go_wp2
        go_roundw
        case rel => exact ⟨j + 1, l, by go_num, by omega, hl, Hnext, hown, hbel⟩
        case measure => simp [intOf]; omega
      · have e1 : bits .and .u32 ((t : Int) / 2 ^ j) 1 = 1 := by rw [bit_and t j (by omega), hbit]; rfl
        obtain ⟨q, hq⟩ : ∃ q, (q0 + j) / 8 = q := ⟨_, rfl⟩
        obtain ⟨r, hr⟩ : ∃ r, (q0 + j) % 8 = r := ⟨_, rfl⟩
        have hqn : q < 64 := by omega
        have hr8 : r < 8 := by omega
        have hkj : q0 + j = 8 * q + r := by omega
        obtain ⟨x, hx⟩ : ∃ x : UInt8, l[q]? = some x := ⟨l[q]'(by omega), List.getElem?_eq_getElem _⟩
        have Hnext := hide (hB.out.turn hbit (by rw [HL.out]; omega) hlt x (by rw [hq]; exact hx))
        rw [hq, hr] at Hnext
        have hown' : wr.ownsRow w2.heap.size 5 1 (.slice (some ⟨b3, 0, none⟩) 64 c3) 64 (cels l) := by unfold Own at hown; rw [hl] at hown; exact hown
        have hcell : wr.cell? ⟨b3, q, none⟩ = some (.int .u8 (x.toNat : Int)) := by
          have := World.ownsRow.cellAt hown' q (by omega)
          rw [this]
          simp [cels, hx, cel]
        have hfroz : wr.frozen? ⟨b3, q, none⟩ = false := World.ownsRow.frozenAt hown' q
        have f1 : ((q0 : Int) + (j : Int)) / 8 = (q : Int) := by omega
        have f2 : ((q0 : Int) + (j : Int)) % 8 = (r : Int) := by omega
        obtain ⟨y, hy⟩ : ∃ y : UInt8, x ^^^ UInt8.ofNat (2 ^ r) = y := ⟨_, rfl⟩
        rw [hy] at Hnext
        have e5 : bits .xor .u8 (x.toNat : Int) (2 ^ r % 256) = (y.toNat : Int) := by
          rw [← hy, UInt8.toNat_xor, Sm.ofNat_toNat _ (pow_byte r hr8)]
          have hp := pow_byte r hr8
          have e : ((2 : Int) ^ r % 256) = ((2 ^ r : Nat) : Int) := by
            have : ((2 : Int) ^ r) = ((2 ^ r : Nat) : Int) := by simp
            rw [this]
            exact Int.emod_eq_of_lt (Int.natCast_nonneg _) (Int.ofNat_lt.2 hp)
          rw [e]
          exact u8_xor_nat _ _ x.toNat_lt hp
        have R1 := hide (own_store hown hl hqn y)
        have R2 := hide (hbel.setCell (p := ⟨b3, q, none⟩) hb3b (cel y))
        have hl2 : (l.set q y).length = 64 := by rw [List.length_set]; exact hl
        clear hbit hB hq hr hx hy hown hown' hbel
        go_wp2
        go_region
        go_wp2
        go_roundw
        case rel => exact ⟨j + 1, l.set q y, by go_num, by omega, hl2, Hnext, World.ownsRow.drew R1.out, Below.drew R2.out⟩
        case measure => simp [intOf]; omega
    · have Hb := hide hB.out
      have hj32 : j = 32 := by omega
      subst hj32
      have Hno : Hid (NoSum l) := Or.inr fun n => Hb.out.told (by omega) (by omega) n
      have hbelw := HB2.out.trans (hbel.mono HB2.out.size)
      have hby : Byt wr wr.heap.size (some ⟨b3, 0, none⟩) l := by obtain ⟨A, c, e, _, _, h⟩ := hown.form; rw [hl] at e; cases e; exact h
      have HO := hide (Decode_sum (some ⟨b3, 0, none⟩) 64 c3 l wr hl hc3 hby (Ht.out.below hbelw hpos) Hno.out)
      have Hbelw := hide hbelw
      clear hB Hb Hno hbelw hown hbel hby
      go_wp2_with fail
      refine HO.out.mono ?_
      rintro r w6 ⟨⟨p6, rfl, hf6⟩, hb6⟩
      have hb7 := box_below w6 0 0 0 ⟨#[]⟩ 0
      have HB6 := hide (Hbelw.out.trans (hb6.mono Hbelw.out.size))
      have HB7 := hide (HB6.out.trans (hb7.mono HB6.out.size))
      have hf7 := hf6.below (Nat.le_refl _) hb7
      clear HO hb6 hf6 hb7 HB6
      go_wp2_with fail
      generalize w6.alloc _ = w7 at *
      obtain ⟨p, hpe, hch⟩ := hf7
      cases hpe
      have HC := hide (Code_any _ _ _ 4 w7 (Hty.out.below HB7.out Hty.out.lt) hch (Or.inr rfl) (by simp))
      clear hch
      refine HC.out.mono ?_
      rintro r w8 ⟨rfl, hb8⟩
      have HB8 := hide (HB7.out.trans (hb8.mono HB7.out.size))
      clear HC hb8
      go_wp2
      go_ret
      exact ⟨rfl, HB8.out⟩

theorem Turned_walk (g s k b : Int) (d : ByteArray) (m : Int) (at_ t : Nat) (w : World) (ht : Tab w) (hty : Ety w) (_hg : Int64 g) (hd : d.size ≤ maxLen) (h1 : at_ ≤ 18446744073709551615) (h2 : t ≤ 4294967295) :
    Calls Tryd.prog 6 #[.int .i64 g, rec5 s k b d m, .int .u64 (at_ : Int), .int .u32 (t : Int)] w fun e w' => e = .returned (.bool true) ∧ Below w.heap.size w w' := by
  unfold maxLen at hd
  rcases Nat.lt_or_ge d.size 2000 with h | h
  · rcases Nat.eq_zero_or_pos t with h0 | h0
    · exact Turned_none g s k b d m at_ t w ht h (by rw [h0]; rfl)
    · by_cases hr : Rgt s k b d.size m ∧ Num g
      · exact Turned_good g s k b d m at_ t w ht hty h h0 h2 h1 hr
      · exact Turned_bad g s k b d m at_ t w ht h h0 hr
  · exact Turned_long g s k b d m at_ t w ht h (by omega)

end Go.Proofs.YtkimhfcnkbakiaaDoor.Rc
