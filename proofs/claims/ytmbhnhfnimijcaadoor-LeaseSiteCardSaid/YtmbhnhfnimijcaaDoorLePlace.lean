/-
  The statements' own place, at what a lease answers. Nothing that was there is changed. Condition: the library's variable errors.errorType holds what the program's own text lays.
-/
import Derived.Test.YtmbhnhfnimijcaaDoorLeOps
namespace Go.Proofs.YtmbhnhfnimijcaaDoor.Le
open Go.RowKit
open Pk Sm Fa Dk Wn Lk

set_option maxRecDepth 100000 in
theorem place_flt {w : World} {p : Nat} {s e : Int} (hty : Ety w) (h : Flt w p s e) (he : e ≠ 0) :
    Calls Tryd.prog 10 #[.iface 72 (.pointer (some ⟨p, 0, none⟩)), .int .i64 s, .int .i64 e] w fun r w' => r = .returned (.bool true) ∧ Below w.heap.size w w' := by
  have HF := hide (First_flt hty h)
  have HY := hide hty
  have HP := hide hty.lt
  have HV := hide h
  have he3 : (e != 0) = true := by simp [he]
  clear hty h he
  go_enter Tryd.func10, Tryd.ntmps10
  go_wp2_with fail
  refine HF.out.mono ?_
  rintro r w1 ⟨rfl, hb1⟩
  have HC := hide (Code_flt (HY.out.below hb1 HP.out) (Flt.below HV.out hb1))
  have HB1 := hide hb1
  clear hb1 HF
  go_wp2_with fail
  refine HC.out.mono ?_
  rintro r w2 ⟨rfl, hb2⟩
  have HB2 := hide (HB1.out.trans (hb2.mono HB1.out.size))
  clear hb2 HC
  go_wp2
  go_ret
  exact ⟨rfl, HB2.out⟩
set_option maxRecDepth 100000 in
theorem place_none {w : World} (hty : Ety w) (s : Int) :
    Calls Tryd.prog 10 #[.nilIface, .int .i64 s, .int .i64 0] w fun r w' => r = .returned (.bool true) ∧ Below w.heap.size w w' := by
  have HF := hide (First_none hty)
  have HY := hide hty
  have HP := hide hty.lt
  clear hty
  go_enter Tryd.func10, Tryd.ntmps10
  go_wp2_with fail
  refine HF.out.mono ?_
  rintro r w1 ⟨rfl, hb1⟩
  have HC := hide (Code_none (HY.out.below hb1 HP.out))
  have HB1 := hide hb1
  clear hb1 HF
  go_wp2_with fail
  refine HC.out.mono ?_
  rintro r w2 ⟨rfl, hb2⟩
  have HB2 := hide (HB1.out.trans (hb2.mono HB1.out.size))
  clear hb2 HC
  go_wp2
  go_ret
  exact ⟨rfl, HB2.out⟩

theorem place_any {w : World} {v : Value} {s e : Int} (hty : Ety w) (h : Err w v s e) :
    Calls Tryd.prog 10 #[v, .int .i64 s, .int .i64 e] w fun r w' => r = .returned (.bool true) ∧ Below w.heap.size w w' := by
  rcases h with ⟨rfl, rfl⟩ | ⟨hk, p, rfl, hF⟩
  · exact place_none hty s
  · exact place_flt hty hF hk

end Go.Proofs.YtmbhnhfnimijcaaDoor.Le
