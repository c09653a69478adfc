/-
  isobarlaw13.MarksNil, walked: a nil table has nothing, and lacks all. Conditions: the arguments are read as numbers, each an int; the library's variable errors.errorType holds what the program's own text lays.
-/
import Derived.BigQuiet
import Derived.Test.YtenenhhijkjjfaaDoorMkErrD
import Derived.Test.YtenenhhijkjjfaaDoorMkOp
namespace Go.Proofs.YtenenhhijkjjfaaDoor.Mk
open Go.RowKit Go.Maps
open Pk Dk Wn Lk Fa

set_option maxRecDepth 100000 in
theorem MarksNil_long (v m : Int) (A1 : Option Addr) (n1 c1 : Nat) (w : World) (hn : 20 < n1) :
    Calls Tryd.prog 4 #[.int .i64 v, .int .i64 m, .slice A1 n1 c1] w fun e w' => e = .returned (.bool true) ∧ Below w.heap.size w w' := by
  have hni : (20 : Int) < (n1 : Int) := by omega
  go_enter Tryd.func4, Tryd.ntmps4
  go_wp2_with fail
  refine (awake_any w).mono ?_
  rintro e w1 ⟨rfl, hb1⟩
  have HB1 := hide hb1
  clear hb1
  go_wp2_with fail
  refine (awake_any w1).mono ?_
  rintro e w2 ⟨rfl, hb2⟩
  have HB2 := hide (HB1.out.trans (hb2.mono HB1.out.size))
  clear hb2
  go_wp2
  go_ret
  exact ⟨rfl, HB2.out⟩
set_option maxRecDepth 100000 in
set_option maxHeartbeats 2000000 in
theorem MarksNil_law (v m : Int) (A1 : Option Addr) (n1 c1 : Nat) (vs : List Int) (w : World) (hty : Ety w) (hl1 : vs.length = n1) (hn1 : n1 ≤ 20) (hs1 : Src w A1 (nums vs)) (hm : I64 m) :
    Calls Tryd.prog 4 #[.int .i64 v, .int .i64 m, .slice A1 n1 c1] w fun e w' => e = .returned (.bool true) ∧ Below w.heap.size w w' := by
  have hni1 : ¬ (20 : Int) < (n1 : Int) := by omega
  have Hty := hide hty
  have Hl1 := hide hl1
  have Hn1 := hide hn1
  have Hs1 := hide hs1
  have Hm := hide hm
  clear hty hl1 hn1 hs1 hm
  go_enter Tryd.func4, Tryd.ntmps4
  go_wp2_with fail
  refine (awake_any w).mono ?_
  rintro e w1 ⟨rfl, hb⟩
  have HB1 := hide hb
  clear hb
  go_wp2_with fail
  refine (Forget_nil v m w1).mono ?_
  rintro e w2 ⟨rfl, hb⟩
  have HB2 := hide (HB1.out.trans (hb.mono HB1.out.size))
  clear hb HB1
  go_wp2_with fail
  refine (Put_nil v m w2).mono ?_
  rintro e w3 ⟨q, rfl, hF⟩
  have HF := hide hF.1
  have HB3 := hide (HB2.out.trans (hF.2.mono HB2.out.size))
  clear hF HB2
  go_wp2_with fail
  refine (Code_flt (Ety.below Hty.out HB3.out Hty.out.lt) HF.out).mono ?_
  rintro e w4 ⟨rfl, hb⟩
  have HB4 := hide (HB3.out.trans (hb.mono HB3.out.size))
  clear hb HB3 HF
  go_wp2_with fail
  refine (Of_nil v w4).mono ?_
  rintro e w5 ⟨r, rfl, hI, hb⟩
  obtain ⟨RA, rc, hr, _, _, _⟩ := hI.form
  subst hr
  have HB5 := hide (HB4.out.trans (hb.mono HB4.out.size))
  clear hb HB4 hI
  go_wp2_with fail
  refine (Newest_nil A1 n1 c1 vs Hl1.out (by have := Hn1.out; omega) (Hs1.out.below HB5.out)).mono ?_
  rintro e w6 ⟨rfl, hb⟩
  have HB6 := hide (HB5.out.trans (hb.mono HB5.out.size))
  clear hb HB5
  go_wp2_with fail
  refine (Lacks_nil Hm.out A1 n1 c1 vs Hl1.out (by have := Hn1.out; omega) (Hs1.out.below HB6.out)).mono ?_
  rintro e w7 ⟨r, rfl, hI, hb⟩
  obtain ⟨LA, lc, hr, _, _, hsrc⟩ := hI.form
  subst hr
  have HB7 := hide (HB6.out.trans (hb.mono HB6.out.size))
  rw [Hl1.out]
  have HM := hide (same_any w7 vs n1 LA A1 lc c1 Hl1.out (by have := Hn1.out; omega) hsrc (Hs1.out.below HB7.out))
  clear hb HB6 hI hsrc
  go_wp2_with fail
  refine HM.out.mono ?_
  rintro e w8 ⟨rfl, hb⟩
  have HB8 := hide (HB7.out.trans (hb.mono HB7.out.size))
  clear hb HB7 HM
  go_wp2
  go_ret
  exact ⟨rfl, HB8.out⟩
theorem MarksNil_any (v m : Int) (A1 : Option Addr) (n1 c1 : Nat) (vs : List Int) (w : World) (hty : Ety w) (hl1 : vs.length = n1) (_hf1 : Fits vs) (hs1 : Src w A1 (nums vs)) (_hv : I64 v) (hm : I64 m) :
    Calls Tryd.prog 4 #[.int .i64 v, .int .i64 m, .slice A1 n1 c1] w fun e w' => e = .returned (.bool true) ∧ Below w.heap.size w w' := by
  rcases Nat.lt_or_ge 20 n1 with h1 | h1
  · exact MarksNil_long v m A1 n1 c1 w h1
  · exact MarksNil_law v m A1 n1 c1 vs w hty hl1 h1 hs1 hm

end Go.Proofs.YtenenhhijkjjfaaDoor.Mk
