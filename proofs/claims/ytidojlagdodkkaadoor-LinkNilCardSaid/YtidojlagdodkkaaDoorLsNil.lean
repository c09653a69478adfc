/-
  LinkNil at every number and text: it returns true, and changes nothing that was there. Condition: the library's variable errors.errorType holds what the program's own text lays.
-/
import Derived.BigQuiet
import Derived.Test.YtidojlagdodkkaaDoorLkErrD
import Derived.Test.YtidojlagdodkkaaDoorLkOp
import Derived.Test.YtidojlagdodkkaaDoorLkSt
import Derived.Test.YtidojlagdodkkaaDoorLiAwake
import Derived.Test.YtidojlagdodkkaaDoorLsPlay
namespace Go.Proofs.YtidojlagdodkkaaDoor.Ls
open Go.RowKit
open Pk Sm Fa Dk Wn Lk

theorem box_lnk {w w1 : World} (h : w1 = w.alloc (.cells #[.slice none 0 0, .int .i64 0, .bool false] 53)) : Lnk w.heap.size [] 0 false w1 (· = w.heap.size) ∧ Below w.heap.size w w1 := by
  subst h
  exact ⟨Lnk.fresh w 0 (by decide), (Below.refl _ _).alloc (Nat.le_refl _) _⟩
set_option maxRecDepth 100000 in
set_option maxHeartbeats 4000000 in
theorem Nil_any (n : Int) (x : ByteArray) (w : World) (hty : Ety w) :
    Calls Tryd.prog 5 #[.int .i64 n, .string x] w fun e w' => e = .returned (.bool true) ∧ Below w.heap.size w w' := by
  have HE := hide hty
  clear hty
  by_cases hn : 100 < x.size
  · have hni : (100 : Int) < (x.size : Int) := by omega
    go_enter Tryd.func5, Tryd.ntmps5
    go_wp2_with fail
    refine (Li.awake_any w).mono ?_
    rintro e w1 ⟨rfl, hb1⟩
    have HB1 := hide hb1
    clear hb1
    go_wp2_with fail
    refine (Li.awake_any w1).mono ?_
    rintro e w2 ⟨rfl, hb2⟩
    have HB2 := hide (HB1.out.trans (hb2.mono HB1.out.size))
    clear hb2
    go_wp2
    go_ret
    exact ⟨rfl, HB2.out⟩
  have hni : ¬ (100 : Int) < (x.size : Int) := by omega
  clear hn
  have HS := hide (St.start w)
  go_enter Tryd.func5, Tryd.ntmps5
  go_wp2_with fail
  refine (Li.awake_any w).mono ?_
  rintro e w1 ⟨rfl, hb⟩
  have HN := hide (HS.out.below hb)
  clear hb HS
  have HS := HN
  clear HN
  go_wp2_with fail
  refine (Cut_nil true _).mono ?_
  rintro e w2 ⟨rfl, hb⟩
  have HN := hide (HS.out.below hb)
  clear hb HS
  have HS := HN
  clear HN
  go_wp2_with fail
  refine (Deliver_nil n _).mono ?_
  rintro e w3 ⟨q, rfl, hf⟩
  have hf := hide hf
  have HN := hide (HS.out.below hf.out.2)
  have HF := hide hf.out.1
  clear hf HS
  have HS := HN
  clear HN
  go_wp2_with fail
  refine (First_flt (HE.out.below HS.out.bel HE.out.lt) HF.out).mono ?_
  rintro e w4 ⟨rfl, hb⟩
  have HF2 := hide (HF.out.below hb)
  clear HF
  have HF := HF2
  clear HF2
  have HN := hide (HS.out.below hb)
  clear hb HS
  have HS := HN
  clear HN
  go_wp2_with (refine wpList_box_told rfl 53 (.tmp 32) rfl _ rfl ?_)
  intro w5 HW
  obtain ⟨hl, hb⟩ := box_lnk HW.out
  have HF2 := hide (HF.out.below hb)
  have HN := hide (HS.out.add hb (T := lnkT _ [] 0 false) hl (fun k hk => by rw [hk]; exact Nat.le_refl _))
  clear hb hl HS HF HW
  have HS := HN
  have HF := HF2
  clear HN HF2
  go_wp2_with fail
  refine (Code_flt (HE.out.below HS.out.bel HE.out.lt) HF.out).mono ?_
  rintro e w6 ⟨rfl, hb⟩
  clear HF
  have HN := hide (HS.out.below hb)
  clear hb HS
  have HS := HN
  clear HN
  go_wp2_with fail
  refine (Send_nil x _).mono ?_
  rintro e w7 ⟨q, rfl, hf⟩
  have hf := hide hf
  have HN := hide (HS.out.below hf.out.2)
  have HF := hide hf.out.1
  clear hf HS
  have HS := HN
  clear HN
  go_wp2_with fail
  refine (Code_flt (HE.out.below HS.out.bel HE.out.lt) HF.out).mono ?_
  rintro e w8 ⟨rfl, hb⟩
  clear HF
  have HN := hide (HS.out.below hb)
  clear hb HS
  have HS := HN
  clear HN
  go_wp2_with fail
  refine (Double_nil n _).mono ?_
  rintro e w9 ⟨q, rfl, hf⟩
  have hf := hide hf
  have HN := hide (HS.out.below hf.out.2)
  have HF := hide hf.out.1
  clear hf HS
  have HS := HN
  clear HN
  go_wp2_with fail
  refine (Code_flt (HE.out.below HS.out.bel HE.out.lt) HF.out).mono ?_
  rintro e w10 ⟨rfl, hb⟩
  clear HF
  have HN := hide (HS.out.below hb)
  clear hb HS
  have HS := HN
  clear HN
  go_wp2_with fail
  refine (Drop_nil n _).mono ?_
  rintro e w11 ⟨q, rfl, hf⟩
  have hf := hide hf
  have HN := hide (HS.out.below hf.out.2)
  have HF := hide hf.out.1
  clear hf HS
  have HS := HN
  clear HN
  go_wp2_with fail
  refine (Code_flt (HE.out.below HS.out.bel HE.out.lt) HF.out).mono ?_
  rintro e w12 ⟨rfl, hb⟩
  clear HF
  have HN := hide (HS.out.below hb)
  clear hb HS
  have HS := HN
  clear HN
  go_wp2_with fail
  refine (Len_nil _).mono ?_
  rintro e w13 ⟨rfl, hb⟩
  have HN := hide (HS.out.below hb)
  clear hb HS
  have HS := HN
  clear HN
  go_wp2_with fail
  refine (Send_none HS.out (i := 0) rfl x rfl).mono ?_
  rintro e w14 ⟨q, rfl, hf⟩
  have HN := hide (HS.out.below hf.out.2)
  have HF := hide hf.out.1
  clear hf HS
  have HS := HN
  clear HN
  go_wp2_with fail
  refine (Code_flt (HE.out.below HS.out.bel HE.out.lt) HF.out).mono ?_
  rintro e w15 ⟨rfl, hb⟩
  clear HF
  have HN := hide (HS.out.below hb)
  clear hb HS
  have HS := HN
  clear HN
  go_wp2_with fail
  refine (Len_st HS.out (i := 0) rfl).mono ?_
  rintro e w16 ⟨rfl, hb⟩
  have HN := hide (HS.out.below hb)
  clear hb HS
  have HS := HN
  clear HN
  go_wp2
  go_ret
  exact ⟨rfl, HS.out.bel⟩

end Go.Proofs.YtidojlagdodkkaaDoor.Ls
