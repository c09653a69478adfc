/-
  Proved: for every l, code and op the call FaultTells(l, code, op) returns true and changes no argument: an error of any number, wrapped at any places, tells its text, its path, its number, and the outermost place of any name, as the reference says. Condition: the library's variables errors.errorType and the table of powers of ten hold what the program's own text lays.
-/
import Derived.Test.YtknnalcnoccleaaDoorFaRPath
import Derived.Test.YtknnalcnoccleaaDoorFaFinds
namespace Go.Proofs.YtknnalcnoccleaaDoor.Fa
open Go.RowKit Go.Deep
open Pk Sm

theorem plcs_strs (l : List Pl) : plcs l = (l.map fun q => str (plc q.1 q.2)).map .string := by simp [plcs]

/-- What was wrapped, in memory: the faults, their places, what the walks ask of them. -/
structure Wrp (w : World) (l : List Pl) (e i : Value) (fs : List Flt) : Prop where
  chain : Chain w fs e i
  laid : pls fs = l.reverse
  nice : Nice w fs
  len : fs.length = l.length

theorem Wrp.below {w w' : World} {l : List Pl} {e i : Value} {fs : List Flt} (h : Wrp w l e i fs) (hb : Below w.heap.size w w') : Wrp w' l e i fs :=
  ⟨h.chain.below (Nat.le_refl _) hb, h.laid, h.nice.below hb, h.len⟩

theorem Mad.wrp {w wr : World} {l : List Pl} {i e : Value} {n : Nat} (h : Mad w l i n e wr) (hl : l.length = n) (hf : Few l) (hft : Fit l) (ht : Tab10 wr) : ∃ fs, Wrp wr l e i fs := by
  obtain ⟨_, ⟨fs, hc, hld⟩, _⟩ := h
  rw [List.take_of_length_le (by rw [hl]; exact Nat.le_refl _)] at hld
  exact ⟨fs, hc, hld, hld.nice hf.2 (fun q hq => Or.inr ⟨ht, (hft q hq).2⟩), hld.length⟩

theorem few_good {l : List Pl} (hf : Few l) (hft : Fit l) : Good l := fun q hq => ⟨hf.2 q hq, (hft q hq).2⟩

/-- fault.Is(nil, OK). -/
theorem FIs_nil (w : World) (hty : Ety w) : Calls Tryd.prog 14 #[.nilIface, .int .i64 0] w fun r w' => r = .returned (.bool true) ∧ Below w.heap.size w w' := by
  have HC := hide (Code_any [] .nilIface .nilIface 0 w hty rfl (Or.inl ⟨rfl, rfl⟩) (by simp))
  clear hty
  go_enter Tryd.func14, Tryd.ntmps14
  go_wp2_with fail
  refine HC.out.mono ?_
  rintro r w1 ⟨rfl, hb1⟩
  have HB := hide hb1
  clear hb1 HC
  go_wp2
  go_ret
  exact ⟨rfl, HB.out⟩

set_option maxHeartbeats 1000000 in
theorem Tells_out (A : Option Addr) (n c : Nat) (l : List Pl) (code : Int) (op : ByteArray) (w : World) (hty : Ety w) (hl : l.length = n) (hp : Pls w w.heap.size A l) (hf : Fit l) (hno : ¬ Few l) :
    Calls Tryd.prog 3 #[.slice A n c, .int .i64 code, .string op] w fun e w' => e = .returned (.bool true) ∧ Below w.heap.size w w' := by
  have HA := hide (awake_any w hty)
  have HF := hide fun (w1 : World) (hb : Below w.heap.size w w1) => few_any A n c l w1 hl ((hp.below hb).more hb.size) hf
  have HA2 := hide fun (w1 : World) (hb : Below w.heap.size w w1) => awake_any w1 (hty.below hb hty.lt)
  have Hno := hide hno
  clear hty hl hp hf hno
  go_enter Tryd.func3, Tryd.ntmps3
  go_wp2_with fail
  refine HA.out.mono ?_
  rintro r w1 ⟨rfl, hb1⟩
  go_wp2_with fail
  refine (HF.out w1 hb1).mono ?_
  rintro r w2 ⟨⟨b, rfl, hb⟩, rfl⟩
  have HB := hide hb1
  have hbf : b = false := by
    cases b with
    | false => rfl
    | true => exact absurd (hb.1 rfl) Hno.out
  subst hbf
  have HA3 := hide (HA2.out w2 hb1)
  clear hb hb1 HA HF HA2
  go_wp2_with fail
  refine HA3.out.mono ?_
  rintro r w3 ⟨rfl, hb3⟩
  have HB3 := hide (HB.out.trans (hb3.mono HB.out.size))
  clear hb3
  go_wp2
  go_ret
  exact ⟨rfl, HB3.out⟩

set_option maxHeartbeats 1000000 in
theorem Tells_zero (A : Option Addr) (n c : Nat) (l : List Pl) (op : ByteArray) (w : World) (hty : Ety w) (hl : l.length = n) (hp : Pls w w.heap.size A l) (hf : Fit l) (hfew : Few l) :
    Calls Tryd.prog 3 #[.slice A n c, .int .i64 0, .string op] w fun e w' => e = .returned (.bool true) ∧ Below w.heap.size w w' := by
  have hn : n ≤ 50 := by rw [← hl]; exact hfew.1
  have HA := hide (awake_any w hty)
  have HF := hide fun (w1 : World) (hb : Below w.heap.size w w1) => few_any A n c l w1 hl ((hp.below hb).more hb.size) hf
  have HM := hide fun (w1 : World) (hb : Below w.heap.size w w1) => made_zero A n c l w1 hl hn ((hp.below hb).more hb.size)
  have Hty := hide hty
  have Hfew := hide hfew
  clear hty hl hp hf hfew hn
  go_enter Tryd.func3, Tryd.ntmps3
  go_wp2_with fail
  refine HA.out.mono ?_
  rintro r w1 ⟨rfl, hb1⟩
  go_wp2_with fail
  refine (HF.out w1 hb1).mono ?_
  rintro r w2 ⟨⟨b, rfl, hb⟩, rfl⟩
  obtain rfl : b = true := hb.2 Hfew.out
  have HB := hide hb1
  have HM2 := hide (HM.out w2 hb1)
  clear hb hb1 HA HF HM
  go_wp2_with fail
  refine HM2.out.mono ?_
  rintro r w3 ⟨rfl, hb3⟩
  have HB3 := hide (HB.out.trans (hb3.mono HB.out.size))
  have HC := hide (Code_any [] .nilIface .nilIface 0 w3 (Hty.out.below HB3.out Hty.out.lt) rfl (Or.inl ⟨rfl, rfl⟩) (by simp))
  clear hb3 HM2
  go_wp2_with fail
  refine HC.out.mono ?_
  rintro r w4 ⟨rfl, hb4⟩
  have HB4 := hide (HB3.out.trans (hb4.mono HB3.out.size))
  have HP := hide (Path_any [] .nilIface .nilIface 0 w4 rfl (Hty.out.below HB4.out Hty.out.lt) rfl (Or.inl rfl) (fun f hf => by cases hf) (by omega))
  clear hb4 HC
  go_wp2_with fail
  refine HP.out.mono ?_
  rintro r w5 ⟨A5, c5, rfl, _, _, _, hb5⟩
  have HB5 := hide (HB4.out.trans (hb5.mono HB4.out.size))
  have HI := hide (FIs_nil w5 (Hty.out.below HB5.out Hty.out.lt))
  clear hb5 HP
  go_wp2_with fail
  refine HI.out.mono ?_
  rintro r w6 ⟨rfl, hb6⟩
  have HB6 := hide (HB5.out.trans (hb6.mono HB5.out.size))
  clear hb6
  go_wp2
  go_ret
  exact ⟨rfl, HB6.out⟩

end Go.Proofs.YtknnalcnoccleaaDoor.Fa
