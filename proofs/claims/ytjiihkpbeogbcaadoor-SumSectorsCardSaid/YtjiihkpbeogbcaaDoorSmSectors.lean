/-
  The walk of SumSectors: for every a and b it returns true; nothing that was there is changed. Condition: the table of half bytes holds what the program's own text lays.
-/
import Derived.Test.YtjiihkpbeogbcaaDoorSmJoin
namespace Go.Proofs.YtjiihkpbeogbcaaDoor.Sm
open Go.RowKit
open Pk

/-- Sector of any bytes, told by one form. -/
theorem Sector_form (A : Option Addr) (n c : Nat) (l : List UInt8) (w : World) (hn : l.length = n) (hm : n ≤ 9223372036854775807) (hb : Byt w w.heap.size A l) (ht : Tab w) :
    Calls Tryd.prog 12 #[.slice A n c] w fun e w' => ∃ A' k c' f m, e = .returned (.tuple #[.slice A' k c', .bool f]) ∧ m.length = k ∧ Byt w' w'.heap.size A' m ∧ f = decide (n ≤ 60) ∧ (f = true → m = seal4 (pad l)) ∧ Below w.heap.size w w' := by
  rcases Nat.lt_or_ge 60 n with h | h
  · refine (Sector_long A n c w h hm).mono ?_
    rintro e w' ⟨rfl, rfl⟩
    exact ⟨none, 0, 0, false, [], rfl, rfl, Byt.nil, (decide_eq_false (by omega)).symm, (fun h => by cases h), Below.refl _ _⟩
  · refine (Sector_any A l n c w hn h hb ht).mono ?_
    rintro e w' ⟨b, o, c', rfl, _, _, hby, hbel⟩
    exact ⟨_, 64, c', true, _, rfl, by rw [seal4_length, pad_length l (by omega)], hby, (decide_eq_true h).symm, (fun _ => rfl), hbel⟩

theorem pad_take (l : List UInt8) : (pad l).take l.length = l := by unfold pad; simp
theorem seal_pad (l m : List UInt8) (hl : l.length ≤ 60) (h : l.length = m.length) : seal4 (pad l) = seal4 (pad m) ↔ l = m := by
  constructor
  · intro e
    have e1 := congrArg (List.take l.length) (congrArg (List.take 60) e)
    have a1 := seal4_take (pad l)
    have a2 := seal4_take (pad m)
    rw [pad_length l hl] at a1
    rw [pad_length m (by omega)] at a2
    rw [a1, a2, pad_take, h, pad_take] at e1
    exact e1
  · rintro rfl; rfl

theorem Sectors_long1 (a0 a1 : ByteArray) (w : World) (ht : Tab w) (hs : 1000 < a0.size) (hm : a0.size ≤ 9223372036854775807) :
    Calls Tryd.prog 6 #[.string a0, .string a1] w fun e w' => e = .returned (.bool true) ∧ Below w.heap.size w w' := by
  have hpos := ht.pos
  go_enter Tryd.func6, Tryd.ntmps6
  go_wp2_with fail
  refine (awake_any w ht).mono ?_
  rintro r w1 ⟨rfl, hb1⟩
  go_wp2_with fail
  refine (awake_any w1 (ht.below hb1 hpos)).mono ?_
  rintro r w2 ⟨rfl, hb2⟩
  go_wp2
  go_ret
  exact ⟨rfl, hb1.trans (hb2.mono hb1.size)⟩

theorem Sectors_long2 (a0 a1 : ByteArray) (w : World) (ht : Tab w) (hs0 : a0.size ≤ 1000) (hs : 1000 < a1.size) (hm : a1.size ≤ 9223372036854775807) :
    Calls Tryd.prog 6 #[.string a0, .string a1] w fun e w' => e = .returned (.bool true) ∧ Below w.heap.size w w' := by
  have hpos := ht.pos
  go_enter Tryd.func6, Tryd.ntmps6
  go_wp2_with fail
  refine (awake_any w ht).mono ?_
  rintro r w1 ⟨rfl, hb1⟩
  go_wp2_with fail
  refine (awake_any w1 (ht.below hb1 hpos)).mono ?_
  rintro r w2 ⟨rfl, hb2⟩
  go_wp2
  go_ret
  exact ⟨rfl, hb1.trans (hb2.mono hb1.size)⟩

set_option maxHeartbeats 2000000 in
theorem Sectors_none (a0 a1 : ByteArray) (w : World) (ht : Tab w) (hs0 : a0.size ≤ 1000) (hs1 : a1.size ≤ 1000) (hbig : 60 < a0.size) :
    Calls Tryd.prog 6 #[.string a0, .string a1] w fun e w' => e = .returned (.bool true) ∧ Below w.heap.size w w' := by
  have hpos := ht.pos
  go_enter Tryd.func6, Tryd.ntmps6
  go_wp2_with fail
  refine (awake_any w ht).mono ?_
  rintro r w1 ⟨rfl, hb1⟩
  obtain ⟨w2, c2, hc2, hcm2, hcv2, hby2, hbel2⟩ := to_bytes w1 a0 (by unfold maxLen; omega)
  have Hb12 := hide (hb1.trans (hbel2.mono hb1.size))
  have ht2 := ht.below Hb12.out hpos
  have HS := hide (Sector_long (some ⟨w1.heap.size, 0, none⟩) a0.size c2 w2 hbig (by omega))
  clear hbel2 hb1 hby2
  go_wp2_with fail
  refine HS.out.mono ?_
  rintro r w' ⟨rfl, rfl⟩
  clear hcv2 HS
  obtain ⟨w4, c4, hc4, hcm4, hcv4, hby4, hbel4⟩ := to_bytes w2 a1 (by unfold maxLen; omega)
  have Hb14 := hide (Hb12.out.trans (hbel4.mono Hb12.out.size))
  have ht4 := ht.below Hb14.out hpos
  have HT := hide (Sector_form _ a1.size c4 _ w4 (size_eq a1) (by omega) hby4 ht4)
  clear hby4 hbel4
  go_wp2_with fail
  refine HT.out.mono ?_
  rintro r w5 ⟨A5, k5, c5, f5, m5, rfl, _, _, _, _, hb5⟩
  have Hb15 := hide (Hb14.out.trans (hb5.mono Hb14.out.size))
  clear hcv4 HT hb5
  go_wp2
  go_ret
  refine ⟨?_, Hb15.out⟩
  show Ending.returned (Value.bool (!decide ((a0.size : Int) ≤ 60))) = _
  rw [decide_eq_false (by omega)]
  rfl

set_option maxHeartbeats 2000000 in
theorem Sectors_some (a0 a1 : ByteArray) (w : World) (ht : Tab w) (hs0 : a0.size ≤ 60) (hs1 : a1.size ≤ 1000) :
    Calls Tryd.prog 6 #[.string a0, .string a1] w fun e w' => e = .returned (.bool true) ∧ Below w.heap.size w w' := by
  have hpos := ht.pos
  go_enter Tryd.func6, Tryd.ntmps6
  go_wp2_with fail
  refine (awake_any w ht).mono ?_
  rintro r w1 ⟨rfl, hb1⟩
  obtain ⟨w2, c2, hc2, hcm2, hcv2, hby2, hbel2⟩ := to_bytes w1 a0 (by unfold maxLen; omega)
  have Hb12 := hide (hb1.trans (hbel2.mono hb1.size))
  have ht2 := ht.below Hb12.out hpos
  have HS := hide (Sector_any _ _ a0.size c2 w2 (size_eq a0) hs0 hby2 ht2)
  clear hbel2 hb1 hby2
  go_wp2_with fail
  refine HS.out.mono ?_
  rintro r w3 ⟨b3, o3, c3, rfl, hc3, hcm3, hby3, hb3⟩
  have Hb13 := hide (Hb12.out.trans (hb3.mono Hb12.out.size))
  clear hcv2 HS hb3
  obtain ⟨w4, c4, hc4, hcm4, hcv4, hby4, hbel4⟩ := to_bytes w3 a1 (by unfold maxLen; omega)
  have Hb14 := hide (Hb13.out.trans (hbel4.mono Hb13.out.size))
  have ht4 := ht.below Hb14.out hpos
  have hby34 := (hby3.below hbel4).more hbel4.size
  have HT := hide (Sector_form _ a1.size c4 _ w4 (size_eq a1) (by omega) hby4 ht4)
  clear hby4 hbel4 hby3
  go_wp2_with fail
  refine HT.out.mono ?_
  rintro r w5 ⟨A5, k5, c5, f5, m5, rfl, hk5, hby5, hf5, hm5, hb5⟩
  have Hb15 := hide (Hb14.out.trans (hb5.mono Hb14.out.size))
  have ht5 := ht.below Hb15.out hpos
  have hby35 := (hby34.below hb5).more hb5.size
  have Hpl := hide (pad_length a0.data.toList (by rw [size_eq]; exact hs0))
  have HO := hide (Open_good _ 64 c3 60 _ w5 Hpl.out rfl hc3 (by omega) hby35 ht5)
  have Hk5 := hide hk5
  have Hf5 := hide hf5
  have Hm5 := hide hm5
  clear hcv4 HT hb5 hby34 hk5 hf5 hm5
  go_wp2_with fail
  refine HO.out.mono ?_
  rintro r w6 ⟨b6, o6, rfl, hby6, hb6⟩
  have Hb16 := hide (Hb15.out.trans (hb6.mono Hb15.out.size))
  have hcv1 := run_str w6 _ _ _ a0.size 60 (by rw [List.length_take, Hpl.out]; omega) (hby6.take a0.size)
  have hcvx := run_str w6 _ _ _ 64 c3 (by rw [seal4_length, Hpl.out]) (hby35.below hb6)
  have hcvy := run_str w6 _ _ _ k5 c5 Hk5.out (hby5.below hb6)
  have e0 : (pad a0.data.toList).take a0.size = a0.data.toList := by
    have := pad_take a0.data.toList
    rw [size_eq] at this
    exact this
  have hsame := str_like _ a0 e0
  clear HO hb6 hby35 hby5 hby6 e0
  cases f5
  · go_wp2
    go_ret
    exact ⟨rfl, Hb16.out⟩
  · by_cases hl : a0.size = a1.size
    · obtain ⟨v, hv, hu⟩ : ∃ v : Bool, ((str (seal4 (pad a0.data.toList))).toList == (str m5).toList) = v ∧ (a0.toList == a1.toList) = v := by
        have hiff := seal_pad a0.data.toList a1.data.toList (by rw [size_eq]; exact hs0) (by rw [size_eq, size_eq]; exact hl)
        rw [← Hm5.out rfl] at hiff
        refine ⟨decide (a0.data.toList = a1.data.toList), ?_, ?_⟩
        · rw [str_same]
          exact decide_eq_decide.2 hiff
        · have hu := str_same a0.data.toList a1.data.toList
          rw [str_of, str_of] at hu
          exact hu
      rw [hl] at hcv1 hsame
      cases v
      · go_wp2
        go_ret
        exact ⟨rfl, Hb16.out⟩
      · go_wp2
        go_ret
        exact ⟨rfl, Hb16.out⟩
    · go_wp2
      go_ret
      exact ⟨rfl, Hb16.out⟩

theorem Sectors_walk (a0 : ByteArray) (h0 : a0.size ≤ maxLen) (a1 : ByteArray) (h1 : a1.size ≤ maxLen) (w : World) (ht : Tab w) :
    Calls Tryd.prog 6 #[.string a0, .string a1] w fun e w' => e = .returned (.bool true) ∧ Below w.heap.size w w' := by
  unfold maxLen at h0 h1
  rcases Nat.lt_or_ge 1000 a0.size with h | h
  · exact Sectors_long1 a0 a1 w ht h (by omega)
  · rcases Nat.lt_or_ge 1000 a1.size with h' | h'
    · exact Sectors_long2 a0 a1 w ht h h' (by omega)
    · rcases Nat.lt_or_ge 60 a0.size with h2 | h2
      · exact Sectors_none a0 a1 w ht h h' h2
      · exact Sectors_some a0 a1 w ht h2 h'

end Go.Proofs.YtjiihkpbeogbcaaDoor.Sm
