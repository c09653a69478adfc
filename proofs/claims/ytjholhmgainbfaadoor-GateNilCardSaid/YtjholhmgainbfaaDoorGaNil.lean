/-
  GateNil at every round, ticks and number: it returns true, and changes nothing that was there. Condition: the library's variable errors.errorType holds what the program's own text lays.
-/
import Derived.Test.YtjholhmgainbfaaDoorGaErr
namespace Go.Proofs.YtjholhmgainbfaaDoor.Ga
open Go.RowKit
open Pk Sm Fa Dk

theorem built_none : Tryd.prog.built 32 [] = some #[.int .i64 0, .int .i64 0, .string ⟨#[]⟩] := by kernel_rfl

set_option maxRecDepth 100000 in
set_option maxHeartbeats 4000000 in
theorem Nil_any (round ticks code : Int) (w : World) (hty : Ety w) :
    Calls Tryd.prog 4 #[.int .i64 round, .int .i64 ticks, .int .i64 code] w fun e w' => e = .returned (.bool true) ∧ Below w.heap.size w w' := by
  have HE := hide hty
  clear hty
  by_cases k1 : code = 1
  · subst k1
    have HKN := hide (fun (W : World) => show Calls Tryd.prog 21 #[.int .i64 1] W fun e w' => e = .returned (.bool true) ∧ W = w' by have := Known_any 1 W; exact this)
    go_enter Tryd.func4, Tryd.ntmps4
    go_wp2_with fail
    refine (awake_any w).mono ?_
    rintro e w1 ⟨rfl, hb1⟩
    have HB1 := hide hb1
    have HE1 := hide (HE.out.below hb1 HE.out.lt)
    clear hb1
    go_wp2_with fail
    refine (Thaw_nil round w1).mono ?_
    rintro e w2 ⟨p2, rfl, hf2, hb2⟩
    have HB2 := hide (HB1.out.trans (hb2.mono HB1.out.size))
    have HE2 := hide (HE1.out.below hb2 HE1.out.lt)
    have HF2 := hide hf2
    clear hf2 hb2
    go_wp2_with (first | refine wpList_built rfl 32 #[] rfl _ built_none ?_)
    refine (Enter_nil ⟨0, 0, ⟨#[]⟩⟩ w2).mono ?_
    rintro e w3 ⟨p3, rfl, hf3, hb3⟩
    have HB3 := hide (HB2.out.trans (hb3.mono HB2.out.size))
    have HE3 := hide (HE2.out.below hb3 HE2.out.lt)
    have HF3 := hide hf3
    have HF2' := hide (HF2.out.below hb3)
    clear hf3 hb3 HF2
    go_wp2_with fail
    refine (First_flt HE3.out HF3.out).mono ?_
    rintro e w4 ⟨rfl, hb4⟩
    have HB4 := hide (HB3.out.trans (hb4.mono HB3.out.size))
    have HE4 := hide (HE3.out.below hb4 HE3.out.lt)
    have HF34 := hide (HF3.out.below hb4)
    have HF24 := hide (HF2'.out.below hb4)
    clear hb4 HF3 HF2'
    go_wp2_with fail
    refine (Freeze_nil round ticks w4).mono ?_
    rintro e w5 ⟨p5, rfl, hf5, hb5⟩
    have HB5 := hide (HB4.out.trans (hb5.mono HB4.out.size))
    have HE5 := hide (HE4.out.below hb5 HE4.out.lt)
    have HF55 := hide hf5
    have HF35 := hide (HF34.out.below hb5)
    have HF25 := hide (HF24.out.below hb5)
    clear hf5 hb5 HF34 HF24
    go_wp2_with fail
    refine (Code_flt HE5.out HF55.out).mono ?_
    rintro e w6 ⟨rfl, hb6⟩
    have HB6 := hide (HB5.out.trans (hb6.mono HB5.out.size))
    have HE6 := hide (HE5.out.below hb6 HE5.out.lt)
    have HF36 := hide (HF35.out.below hb6)
    have HF26 := hide (HF25.out.below hb6)
    clear hb6 HF35 HF25 HF55
    go_wp2_with fail
    refine (Code_flt HE6.out HF26.out).mono ?_
    rintro e w7 ⟨rfl, hb7⟩
    have HB7 := hide (HB6.out.trans (hb7.mono HB6.out.size))
    have HE7 := hide (HE6.out.below hb7 HE6.out.lt)
    have HF37 := hide (HF36.out.below hb7)
    clear hb7 HF36 HF26
    go_wp2_with fail
    refine (Code_flt HE7.out HF37.out).mono ?_
    rintro e w8 ⟨rfl, hb8⟩
    have HB8 := hide (HB7.out.trans (hb8.mono HB7.out.size))
    clear hb8 HF37 HE7
    go_wp2_with fail
    refine (Tick_nil w8).mono ?_
    rintro e w' ⟨rfl, rfl⟩
    go_wp2_with fail
    refine (Frozen_nil w8).mono ?_
    rintro e w' ⟨rfl, rfl⟩
    go_wp2_with fail
    refine (Waiting_nil w8).mono ?_
    rintro e w' ⟨rfl, rfl⟩
    go_wp2_with fail
    refine (HKN.out w8).mono ?_
    rintro e w' ⟨rfl, rfl⟩
    go_wp2
    go_ret
    exact ⟨rfl, HB8.out⟩
  · have q1 : (code == 1) = false := by simpa using k1
    clear k1
    by_cases k7 : code = 7
    · subst k7
      have HKN := hide (fun (W : World) => show Calls Tryd.prog 21 #[.int .i64 7] W fun e w' => e = .returned (.bool true) ∧ W = w' by have := Known_any 7 W; exact this)
      go_enter Tryd.func4, Tryd.ntmps4
      go_wp2_with fail
      refine (awake_any w).mono ?_
      rintro e w1 ⟨rfl, hb1⟩
      have HB1 := hide hb1
      have HE1 := hide (HE.out.below hb1 HE.out.lt)
      clear hb1
      go_wp2_with fail
      refine (Thaw_nil round w1).mono ?_
      rintro e w2 ⟨p2, rfl, hf2, hb2⟩
      have HB2 := hide (HB1.out.trans (hb2.mono HB1.out.size))
      have HE2 := hide (HE1.out.below hb2 HE1.out.lt)
      have HF2 := hide hf2
      clear hf2 hb2
      go_wp2_with (first | refine wpList_built rfl 32 #[] rfl _ built_none ?_)
      refine (Enter_nil ⟨0, 0, ⟨#[]⟩⟩ w2).mono ?_
      rintro e w3 ⟨p3, rfl, hf3, hb3⟩
      have HB3 := hide (HB2.out.trans (hb3.mono HB2.out.size))
      have HE3 := hide (HE2.out.below hb3 HE2.out.lt)
      have HF3 := hide hf3
      have HF2' := hide (HF2.out.below hb3)
      clear hf3 hb3 HF2
      go_wp2_with fail
      refine (First_flt HE3.out HF3.out).mono ?_
      rintro e w4 ⟨rfl, hb4⟩
      have HB4 := hide (HB3.out.trans (hb4.mono HB3.out.size))
      have HE4 := hide (HE3.out.below hb4 HE3.out.lt)
      have HF34 := hide (HF3.out.below hb4)
      have HF24 := hide (HF2'.out.below hb4)
      clear hb4 HF3 HF2'
      go_wp2_with fail
      refine (Freeze_nil round ticks w4).mono ?_
      rintro e w5 ⟨p5, rfl, hf5, hb5⟩
      have HB5 := hide (HB4.out.trans (hb5.mono HB4.out.size))
      have HE5 := hide (HE4.out.below hb5 HE4.out.lt)
      have HF55 := hide hf5
      have HF35 := hide (HF34.out.below hb5)
      have HF25 := hide (HF24.out.below hb5)
      clear hf5 hb5 HF34 HF24
      go_wp2_with fail
      refine (Code_flt HE5.out HF55.out).mono ?_
      rintro e w6 ⟨rfl, hb6⟩
      have HB6 := hide (HB5.out.trans (hb6.mono HB5.out.size))
      have HE6 := hide (HE5.out.below hb6 HE5.out.lt)
      have HF36 := hide (HF35.out.below hb6)
      have HF26 := hide (HF25.out.below hb6)
      clear hb6 HF35 HF25 HF55
      go_wp2_with fail
      refine (Code_flt HE6.out HF26.out).mono ?_
      rintro e w7 ⟨rfl, hb7⟩
      have HB7 := hide (HB6.out.trans (hb7.mono HB6.out.size))
      have HE7 := hide (HE6.out.below hb7 HE6.out.lt)
      have HF37 := hide (HF36.out.below hb7)
      clear hb7 HF36 HF26
      go_wp2_with fail
      refine (Code_flt HE7.out HF37.out).mono ?_
      rintro e w8 ⟨rfl, hb8⟩
      have HB8 := hide (HB7.out.trans (hb8.mono HB7.out.size))
      clear hb8 HF37 HE7
      go_wp2_with fail
      refine (Tick_nil w8).mono ?_
      rintro e w' ⟨rfl, rfl⟩
      go_wp2_with fail
      refine (Frozen_nil w8).mono ?_
      rintro e w' ⟨rfl, rfl⟩
      go_wp2_with fail
      refine (Waiting_nil w8).mono ?_
      rintro e w' ⟨rfl, rfl⟩
      go_wp2_with fail
      refine (HKN.out w8).mono ?_
      rintro e w' ⟨rfl, rfl⟩
      go_wp2
      go_ret
      exact ⟨rfl, HB8.out⟩
    · have q7 : (code == 7) = false := by simpa using k7
      clear k7
      by_cases k9 : code = 9
      · subst k9
        have HKN := hide (fun (W : World) => show Calls Tryd.prog 21 #[.int .i64 9] W fun e w' => e = .returned (.bool true) ∧ W = w' by have := Known_any 9 W; exact this)
        go_enter Tryd.func4, Tryd.ntmps4
        go_wp2_with fail
        refine (awake_any w).mono ?_
        rintro e w1 ⟨rfl, hb1⟩
        have HB1 := hide hb1
        have HE1 := hide (HE.out.below hb1 HE.out.lt)
        clear hb1
        go_wp2_with fail
        refine (Thaw_nil round w1).mono ?_
        rintro e w2 ⟨p2, rfl, hf2, hb2⟩
        have HB2 := hide (HB1.out.trans (hb2.mono HB1.out.size))
        have HE2 := hide (HE1.out.below hb2 HE1.out.lt)
        have HF2 := hide hf2
        clear hf2 hb2
        go_wp2_with (first | refine wpList_built rfl 32 #[] rfl _ built_none ?_)
        refine (Enter_nil ⟨0, 0, ⟨#[]⟩⟩ w2).mono ?_
        rintro e w3 ⟨p3, rfl, hf3, hb3⟩
        have HB3 := hide (HB2.out.trans (hb3.mono HB2.out.size))
        have HE3 := hide (HE2.out.below hb3 HE2.out.lt)
        have HF3 := hide hf3
        have HF2' := hide (HF2.out.below hb3)
        clear hf3 hb3 HF2
        go_wp2_with fail
        refine (First_flt HE3.out HF3.out).mono ?_
        rintro e w4 ⟨rfl, hb4⟩
        have HB4 := hide (HB3.out.trans (hb4.mono HB3.out.size))
        have HE4 := hide (HE3.out.below hb4 HE3.out.lt)
        have HF34 := hide (HF3.out.below hb4)
        have HF24 := hide (HF2'.out.below hb4)
        clear hb4 HF3 HF2'
        go_wp2_with fail
        refine (Freeze_nil round ticks w4).mono ?_
        rintro e w5 ⟨p5, rfl, hf5, hb5⟩
        have HB5 := hide (HB4.out.trans (hb5.mono HB4.out.size))
        have HE5 := hide (HE4.out.below hb5 HE4.out.lt)
        have HF55 := hide hf5
        have HF35 := hide (HF34.out.below hb5)
        have HF25 := hide (HF24.out.below hb5)
        clear hf5 hb5 HF34 HF24
        go_wp2_with fail
        refine (Code_flt HE5.out HF55.out).mono ?_
        rintro e w6 ⟨rfl, hb6⟩
        have HB6 := hide (HB5.out.trans (hb6.mono HB5.out.size))
        have HE6 := hide (HE5.out.below hb6 HE5.out.lt)
        have HF36 := hide (HF35.out.below hb6)
        have HF26 := hide (HF25.out.below hb6)
        clear hb6 HF35 HF25 HF55
        go_wp2_with fail
        refine (Code_flt HE6.out HF26.out).mono ?_
        rintro e w7 ⟨rfl, hb7⟩
        have HB7 := hide (HB6.out.trans (hb7.mono HB6.out.size))
        have HE7 := hide (HE6.out.below hb7 HE6.out.lt)
        have HF37 := hide (HF36.out.below hb7)
        clear hb7 HF36 HF26
        go_wp2_with fail
        refine (Code_flt HE7.out HF37.out).mono ?_
        rintro e w8 ⟨rfl, hb8⟩
        have HB8 := hide (HB7.out.trans (hb8.mono HB7.out.size))
        clear hb8 HF37 HE7
        go_wp2_with fail
        refine (Tick_nil w8).mono ?_
        rintro e w' ⟨rfl, rfl⟩
        go_wp2_with fail
        refine (Frozen_nil w8).mono ?_
        rintro e w' ⟨rfl, rfl⟩
        go_wp2_with fail
        refine (Waiting_nil w8).mono ?_
        rintro e w' ⟨rfl, rfl⟩
        go_wp2_with fail
        refine (HKN.out w8).mono ?_
        rintro e w' ⟨rfl, rfl⟩
        go_wp2
        go_ret
        exact ⟨rfl, HB8.out⟩
      · have q9 : (code == 9) = false := by simpa using k9
        clear k9
        by_cases k10 : code = 10
        · subst k10
          have HKN := hide (fun (W : World) => show Calls Tryd.prog 21 #[.int .i64 10] W fun e w' => e = .returned (.bool true) ∧ W = w' by have := Known_any 10 W; exact this)
          go_enter Tryd.func4, Tryd.ntmps4
          go_wp2_with fail
          refine (awake_any w).mono ?_
          rintro e w1 ⟨rfl, hb1⟩
          have HB1 := hide hb1
          have HE1 := hide (HE.out.below hb1 HE.out.lt)
          clear hb1
          go_wp2_with fail
          refine (Thaw_nil round w1).mono ?_
          rintro e w2 ⟨p2, rfl, hf2, hb2⟩
          have HB2 := hide (HB1.out.trans (hb2.mono HB1.out.size))
          have HE2 := hide (HE1.out.below hb2 HE1.out.lt)
          have HF2 := hide hf2
          clear hf2 hb2
          go_wp2_with (first | refine wpList_built rfl 32 #[] rfl _ built_none ?_)
          refine (Enter_nil ⟨0, 0, ⟨#[]⟩⟩ w2).mono ?_
          rintro e w3 ⟨p3, rfl, hf3, hb3⟩
          have HB3 := hide (HB2.out.trans (hb3.mono HB2.out.size))
          have HE3 := hide (HE2.out.below hb3 HE2.out.lt)
          have HF3 := hide hf3
          have HF2' := hide (HF2.out.below hb3)
          clear hf3 hb3 HF2
          go_wp2_with fail
          refine (First_flt HE3.out HF3.out).mono ?_
          rintro e w4 ⟨rfl, hb4⟩
          have HB4 := hide (HB3.out.trans (hb4.mono HB3.out.size))
          have HE4 := hide (HE3.out.below hb4 HE3.out.lt)
          have HF34 := hide (HF3.out.below hb4)
          have HF24 := hide (HF2'.out.below hb4)
          clear hb4 HF3 HF2'
          go_wp2_with fail
          refine (Freeze_nil round ticks w4).mono ?_
          rintro e w5 ⟨p5, rfl, hf5, hb5⟩
          have HB5 := hide (HB4.out.trans (hb5.mono HB4.out.size))
          have HE5 := hide (HE4.out.below hb5 HE4.out.lt)
          have HF55 := hide hf5
          have HF35 := hide (HF34.out.below hb5)
          have HF25 := hide (HF24.out.below hb5)
          clear hf5 hb5 HF34 HF24
          go_wp2_with fail
          refine (Code_flt HE5.out HF55.out).mono ?_
          rintro e w6 ⟨rfl, hb6⟩
          have HB6 := hide (HB5.out.trans (hb6.mono HB5.out.size))
          have HE6 := hide (HE5.out.below hb6 HE5.out.lt)
          have HF36 := hide (HF35.out.below hb6)
          have HF26 := hide (HF25.out.below hb6)
          clear hb6 HF35 HF25 HF55
          go_wp2_with fail
          refine (Code_flt HE6.out HF26.out).mono ?_
          rintro e w7 ⟨rfl, hb7⟩
          have HB7 := hide (HB6.out.trans (hb7.mono HB6.out.size))
          have HE7 := hide (HE6.out.below hb7 HE6.out.lt)
          have HF37 := hide (HF36.out.below hb7)
          clear hb7 HF36 HF26
          go_wp2_with fail
          refine (Code_flt HE7.out HF37.out).mono ?_
          rintro e w8 ⟨rfl, hb8⟩
          have HB8 := hide (HB7.out.trans (hb8.mono HB7.out.size))
          clear hb8 HF37 HE7
          go_wp2_with fail
          refine (Tick_nil w8).mono ?_
          rintro e w' ⟨rfl, rfl⟩
          go_wp2_with fail
          refine (Frozen_nil w8).mono ?_
          rintro e w' ⟨rfl, rfl⟩
          go_wp2_with fail
          refine (Waiting_nil w8).mono ?_
          rintro e w' ⟨rfl, rfl⟩
          go_wp2_with fail
          refine (HKN.out w8).mono ?_
          rintro e w' ⟨rfl, rfl⟩
          go_wp2
          go_ret
          exact ⟨rfl, HB8.out⟩
        · have q10 : (code == 10) = false := by simpa using k10
          clear k10
          have HKN := hide (fun (W : World) => show Calls Tryd.prog 21 #[.int .i64 code] W fun e w' => e = .returned (.bool false) ∧ W = w' by have := Known_any code W; rw [q1, q7, q9, q10] at this; exact this)
          go_enter Tryd.func4, Tryd.ntmps4
          go_wp2_with fail
          refine (awake_any w).mono ?_
          rintro e w1 ⟨rfl, hb1⟩
          have HB1 := hide hb1
          have HE1 := hide (HE.out.below hb1 HE.out.lt)
          clear hb1
          go_wp2_with fail
          refine (Thaw_nil round w1).mono ?_
          rintro e w2 ⟨p2, rfl, hf2, hb2⟩
          have HB2 := hide (HB1.out.trans (hb2.mono HB1.out.size))
          have HE2 := hide (HE1.out.below hb2 HE1.out.lt)
          have HF2 := hide hf2
          clear hf2 hb2
          go_wp2_with (first | refine wpList_built rfl 32 #[] rfl _ built_none ?_)
          refine (Enter_nil ⟨0, 0, ⟨#[]⟩⟩ w2).mono ?_
          rintro e w3 ⟨p3, rfl, hf3, hb3⟩
          have HB3 := hide (HB2.out.trans (hb3.mono HB2.out.size))
          have HE3 := hide (HE2.out.below hb3 HE2.out.lt)
          have HF3 := hide hf3
          have HF2' := hide (HF2.out.below hb3)
          clear hf3 hb3 HF2
          go_wp2_with fail
          refine (First_flt HE3.out HF3.out).mono ?_
          rintro e w4 ⟨rfl, hb4⟩
          have HB4 := hide (HB3.out.trans (hb4.mono HB3.out.size))
          have HE4 := hide (HE3.out.below hb4 HE3.out.lt)
          have HF34 := hide (HF3.out.below hb4)
          have HF24 := hide (HF2'.out.below hb4)
          clear hb4 HF3 HF2'
          go_wp2_with fail
          refine (Freeze_nil round ticks w4).mono ?_
          rintro e w5 ⟨p5, rfl, hf5, hb5⟩
          have HB5 := hide (HB4.out.trans (hb5.mono HB4.out.size))
          have HE5 := hide (HE4.out.below hb5 HE4.out.lt)
          have HF55 := hide hf5
          have HF35 := hide (HF34.out.below hb5)
          have HF25 := hide (HF24.out.below hb5)
          clear hf5 hb5 HF34 HF24
          go_wp2_with fail
          refine (Code_flt HE5.out HF55.out).mono ?_
          rintro e w6 ⟨rfl, hb6⟩
          have HB6 := hide (HB5.out.trans (hb6.mono HB5.out.size))
          have HE6 := hide (HE5.out.below hb6 HE5.out.lt)
          have HF36 := hide (HF35.out.below hb6)
          have HF26 := hide (HF25.out.below hb6)
          clear hb6 HF35 HF25 HF55
          go_wp2_with fail
          refine (Code_flt HE6.out HF26.out).mono ?_
          rintro e w7 ⟨rfl, hb7⟩
          have HB7 := hide (HB6.out.trans (hb7.mono HB6.out.size))
          have HE7 := hide (HE6.out.below hb7 HE6.out.lt)
          have HF37 := hide (HF36.out.below hb7)
          clear hb7 HF36 HF26
          go_wp2_with fail
          refine (Code_flt HE7.out HF37.out).mono ?_
          rintro e w8 ⟨rfl, hb8⟩
          have HB8 := hide (HB7.out.trans (hb8.mono HB7.out.size))
          clear hb8 HF37 HE7
          go_wp2_with fail
          refine (Tick_nil w8).mono ?_
          rintro e w' ⟨rfl, rfl⟩
          go_wp2_with fail
          refine (Frozen_nil w8).mono ?_
          rintro e w' ⟨rfl, rfl⟩
          go_wp2_with fail
          refine (Waiting_nil w8).mono ?_
          rintro e w' ⟨rfl, rfl⟩
          go_wp2_with fail
          refine (HKN.out w8).mono ?_
          rintro e w' ⟨rfl, rfl⟩
          go_wp2
          go_ret
          exact ⟨rfl, HB8.out⟩

end Go.Proofs.YtjholhmgainbfaaDoor.Ga
