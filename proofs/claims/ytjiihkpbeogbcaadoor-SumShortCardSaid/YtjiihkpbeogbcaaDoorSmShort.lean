/-
  Proved: for every b the call SumShort(b) returns true and changes no argument: what is sealed has four bytes more; fewer than four are never opened; what is opened, sealed again, is what it was. Condition: the table of half bytes holds what the program's own text lays.
-/
import Derived.Test.YtjiihkpbeogbcaaDoorSmAwake
namespace Go.Proofs.YtjiihkpbeogbcaaDoor.Sm
open Go.RowKit
open Pk

/-- The way on which the argument is too long: awake, twice. -/
theorem Short_long (a0 : ByteArray) (w : World) (ht : Tab w) (hs : 1000 < a0.size) (hm : a0.size ≤ 9223372036854775807) :
    Calls Tryd.prog 8 #[.string a0] w fun e w' => e = .returned (.bool true) ∧ Below w.heap.size w w' := by
  have hpos := ht.pos
  go_enter Tryd.func8, Tryd.ntmps8
  go_wp2_with fail
  refine (awake_any w ht).mono ?_
  rintro r w1 ⟨rfl, hb1⟩
  go_wp2_with fail
  refine (awake_any w1 (ht.below hb1 hpos)).mono ?_
  rintro r w2 ⟨rfl, hb2⟩
  go_wp2
  go_ret
  exact ⟨rfl, hb1.trans (hb2.mono hb1.size)⟩

set_option maxHeartbeats 1000000 in
theorem Short_bad (a0 : ByteArray) (w : World) (ht : Tab w) (hs : a0.size ≤ 1000) (hno : ∀ m, a0.data.toList ≠ seal4 m) :
    Calls Tryd.prog 8 #[.string a0] w fun e w' => e = .returned (.bool true) ∧ Below w.heap.size w w' := by
  have hpos := ht.pos
  have Hno := hide hno
  clear hno
  go_enter Tryd.func8, Tryd.ntmps8
  go_wp2_with fail
  refine (awake_any w ht).mono ?_
  rintro r w1 ⟨rfl, hb1⟩
  obtain ⟨w2, c2, hc2, hcm2, hcv2, hby2, hbel2⟩ := to_bytes w1 a0 (by unfold maxLen; omega)
  have Hb12 := hide (hb1.trans (hbel2.mono hb1.size))
  have ht2 := ht.below Hb12.out hpos
  have HO := hide (Open_bad _ a0.size c2 _ w2 (size_eq a0) hc2 (by omega) hby2 ht2 Hno.out)
  clear hbel2 hb1 hby2
  go_wp2_with fail
  refine HO.out.mono ?_
  rintro r w3 ⟨rfl, hb3⟩
  have Hb13 := hide (Hb12.out.trans (hb3.mono Hb12.out.size))
  clear hcv2 HO hb3
  obtain ⟨w4, c4, hc4, hcm4, hcv4, hby4, hbel4⟩ := to_bytes w3 a0 (by unfold maxLen; omega)
  have Hb14 := hide (Hb13.out.trans (hbel4.mono Hb13.out.size))
  have ht4 := ht.below Hb14.out hpos
  have HS := hide (Seal_told _ _ a0.size c4 w4 (size_eq a0) hby4 ht4 (by omega))
  clear hby4 hbel4
  go_wp2_with fail
  refine HS.out.mono ?_
  rintro r w5 ⟨b5, o5, c5, rfl, hc5, hcm5, _, _, hb5⟩
  have Hb15 := hide (Hb14.out.trans (hb5.mono Hb14.out.size))
  clear hcv4 HS hb5
  go_wp2
  all_goals
    go_ret
    exact ⟨rfl, Hb15.out⟩

set_option maxHeartbeats 1000000 in
theorem Short_good (a0 : ByteArray) (m : List UInt8) (k : Nat) (w : World) (ht : Tab w) (hs : a0.size ≤ 1000) (hk : m.length = k) (hyes : a0.data.toList = seal4 m) :
    Calls Tryd.prog 8 #[.string a0] w fun e w' => e = .returned (.bool true) ∧ Below w.heap.size w w' := by
  have hpos := ht.pos
  have hn : a0.size = k + 4 := by rw [← size_eq a0, hyes, seal4_length, hk]
  have h4 : 4 ≤ a0.size := by omega
  have hk1 : k ≤ 1000 := by omega
  have Hyes := hide hyes
  have Hk := hide hk
  have Hn := hide hn
  clear hyes hk hn
  go_enter Tryd.func8, Tryd.ntmps8
  go_wp2_with fail
  refine (awake_any w ht).mono ?_
  rintro r w1 ⟨rfl, hb1⟩
  obtain ⟨w2, c2, hc2, hcm2, hcv2, hby2, hbel2⟩ := to_bytes w1 a0 (by unfold maxLen; omega)
  have Hb12 := hide (hb1.trans (hbel2.mono hb1.size))
  have ht2 := ht.below Hb12.out hpos
  have hby2' := hby2
  rw [Hyes.out] at hby2'
  have HO := hide (Open_good _ a0.size c2 k m w2 Hk.out Hn.out hc2 (by omega) hby2' ht2)
  clear hbel2 hb1 hby2 hby2'
  go_wp2_with fail
  refine HO.out.mono ?_
  rintro r w3 ⟨b3, o3, rfl, hby3, hb3⟩
  have Hb13 := hide (Hb12.out.trans (hb3.mono Hb12.out.size))
  clear hcv2 HO hb3
  obtain ⟨w4, c4, hc4, hcm4, hcv4, hby4, hbel4⟩ := to_bytes w3 a0 (by unfold maxLen; omega)
  have Hb14 := hide (Hb13.out.trans (hbel4.mono Hb13.out.size))
  have ht4 := ht.below Hb14.out hpos
  have hby34 := (hby3.below hbel4).more hbel4.size
  have HS := hide (Seal_told _ _ a0.size c4 w4 (size_eq a0) hby4 ht4 (by omega))
  clear hby4 hbel4 hby3
  go_wp2_with fail
  refine HS.out.mono ?_
  rintro r w5 ⟨b5, o5, c5, rfl, hc5, hcm5, _, _, hb5⟩
  have Hb15 := hide (Hb14.out.trans (hb5.mono Hb14.out.size))
  have ht5 := ht.below Hb15.out hpos
  have hby35 := (hby34.below hb5).more hb5.size
  have HS2 := hide (Seal_told _ _ k k w5 Hk.out hby35 ht5 (by omega))
  clear hcv4 HS hb5 hby34 hby35
  go_wp2_with fail
  refine HS2.out.mono ?_
  rintro r w6 ⟨b6, o6, c6, rfl, hc6, hcm6, _, hby6, hb6⟩
  have Hb16 := hide (Hb15.out.trans (hb6.mono Hb15.out.size))
  have hcv6 := run_str w6 _ _ _ (k + 4) c6 (by rw [seal4_length, Hk.out]) hby6
  have hsame : ((str (seal4 m)).toList == a0.toList) = true := by
    have := str_same (seal4 m) a0.data.toList
    rw [str_of] at this
    rw [this]
    exact decide_eq_true Hyes.out.symm
  clear HS2 hb6 hby6
  go_wp2
  go_ret
  exact ⟨rfl, Hb16.out⟩

theorem Short_walk (a0 : ByteArray) (hm : a0.size ≤ maxLen) (w : World) (ht : Tab w) :
    Calls Tryd.prog 8 #[.string a0] w fun e w' => e = .returned (.bool true) ∧ Below w.heap.size w w' := by
  rcases Nat.lt_or_ge 1000 a0.size with h | h
  · exact Short_long a0 w ht h hm
  · by_cases hyes : ∃ m, a0.data.toList = seal4 m
    · obtain ⟨m, hm⟩ := hyes
      exact Short_good a0 m _ w ht h rfl hm
    · exact Short_bad a0 w ht h (fun m e => hyes ⟨m, e⟩)

end Go.Proofs.YtjiihkpbeogbcaaDoor.Sm
