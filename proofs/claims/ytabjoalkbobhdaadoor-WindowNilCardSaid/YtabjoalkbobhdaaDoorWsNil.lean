/-
  WindowNil at every text and number: it returns true, and changes nothing that was there. Condition: the library's variable errors.errorType holds what the program's own text lays.
-/
import Derived.Test.YtabjoalkbobhdaaDoorWnErrD
import Derived.Test.YtabjoalkbobhdaaDoorWiAwake
import Derived.Test.YtabjoalkbobhdaaDoorWsOps2
namespace Go.Proofs.YtabjoalkbobhdaaDoor.Ws
open Go.RowKit
open Pk Sm Fa Dk Wn

set_option maxRecDepth 100000 in
set_option maxHeartbeats 4000000 in
theorem Nil_any (x : ByteArray) (n : Int) (w : World) (hty : Ety w) :
    Calls Tryd.prog 4 #[.string x, .int .i64 n] w fun e w' => e = .returned (.bool true) ∧ Below w.heap.size w w' := by
  have HE := hide hty
  clear hty
  by_cases hn : 100 < x.size
  · have hni : (100 : Int) < (x.size : Int) := by omega
    go_enter Tryd.func4, Tryd.ntmps4
    go_wp2_with fail
    refine (Wi.awake_any w).mono ?_
    rintro e w1 ⟨rfl, hb1⟩
    have HB1 := hide hb1
    clear hb1
    go_wp2_with fail
    refine (Wi.awake_any w1).mono ?_
    rintro e w2 ⟨rfl, hb2⟩
    have HB2 := hide (HB1.out.trans (hb2.mono HB1.out.size))
    clear hb2
    go_wp2
    go_ret
    exact ⟨rfl, HB2.out⟩
  have hni : ¬ (100 : Int) < (x.size : Int) := by omega
  clear hn
  go_enter Tryd.func4, Tryd.ntmps4
  go_wp2_with fail
  refine (Wi.awake_any w).mono ?_
  rintro e w1 ⟨rfl, hb⟩
  have HB1 := hide hb
  have HE1 := hide (HE.out.below hb HE.out.lt)
  clear hb
  go_wp2_with fail
  refine (Push_nil x w1).mono ?_
  rintro e w2 ⟨rfl, hb⟩
  have HB2 := hide (HB1.out.trans (hb.mono HB1.out.size))
  have HE2 := hide (HE1.out.below hb HE1.out.lt)
  clear hb HE1 HB1
  go_wp2_with fail
  refine (Counts_nil w2).mono ?_
  rintro e w3 ⟨rfl, hb⟩
  have HB3 := hide (HB2.out.trans (hb.mono HB2.out.size))
  have HE3 := hide (HE2.out.below hb HE2.out.lt)
  clear hb HE2 HB2
  go_wp2_with fail
  refine (Send_nil w3).mono ?_
  rintro e w4 ⟨rfl, hb⟩
  have HB4 := hide (HB3.out.trans (hb.mono HB3.out.size))
  have HE4 := hide (HE3.out.below hb HE3.out.lt)
  clear hb HE3 HB3
  go_wp2_with fail
  refine (Resend_nil w4).mono ?_
  rintro e w5 ⟨rfl, hb⟩
  have HB5 := hide (HB4.out.trans (hb.mono HB4.out.size))
  have HE5 := hide (HE4.out.below hb HE4.out.lt)
  clear hb HE4 HB4
  go_wp2_with fail
  refine (Ack_nil n w5).mono ?_
  rintro e w6 ⟨p, rfl, hf, hb⟩
  have HB6 := hide (HB5.out.trans (hb.mono HB5.out.size))
  have HE6 := hide (HE5.out.below hb HE5.out.lt)
  have HF6 := hide hf
  clear hb hf HE5 HB5
  go_wp2_with fail
  refine (Code_flt HE6.out HF6.out).mono ?_
  rintro e w7 ⟨rfl, hb⟩
  have HB7 := hide (HB6.out.trans (hb.mono HB6.out.size))
  clear hb HE6 HB6 HF6
  go_wp2_with fail
  refine (Take_nil n x w7).mono ?_
  rintro e w8 ⟨rfl, hb⟩
  have HB8 := hide (HB7.out.trans (hb.mono HB7.out.size))
  clear hb HB7
  go_wp2_with fail
  refine (List_nil w8).mono ?_
  rintro e w9 ⟨rfl, hb⟩
  have HB9 := hide (HB8.out.trans (hb.mono HB8.out.size))
  clear hb HB8
  go_wp2
  go_ret
  exact ⟨rfl, HB9.out⟩

end Go.Proofs.YtabjoalkbobhdaaDoor.Ws
