/-
  Proved: for every op and at the call FaultNil(op, at) returns true and changes no argument: nil, and OK, stay nil; a nil fault, and the zero one, tell ok. Condition: the library's variables errors.errorType and the table of powers of ten hold what the program's own text lays.
-/
import Derived.Test.YtknnalcnoccleaaDoorFaPath
import Derived.Test.YtknnalcnoccleaaDoorFaDigits
namespace Go.Proofs.YtknnalcnoccleaaDoor.Fa
open Go.RowKit
open Pk Sm

theorem Error_nil (w : World) : Calls Tryd.prog 25 #[.pointer none] w fun r w' => r = .returned (.string (str (word 0))) ∧ Below w.heap.size w w' := by
  go_enter Tryd.func25, Tryd.ntmps25
  go_wp2_with fail
  refine (text_nil w).mono ?_
  rintro r w1 ⟨rfl, hb1⟩
  have HB := hide hb1
  clear hb1
  go_wp2
  go_ret
  exact ⟨rfl, HB.out⟩

theorem Nil_long (op : ByteArray) (n : Int) (w : World) (hty : Ety w) (hs : 200 < op.size) :
    Calls Tryd.prog 6 #[.string op, .int .i64 n] w fun e w' => e = .returned (.bool true) ∧ Below w.heap.size w w' := by
  have Hty := hide hty
  clear hty
  go_enter Tryd.func6, Tryd.ntmps6
  go_wp2_with fail
  refine (awake_any w Hty.out).mono ?_
  rintro r w1 ⟨rfl, hb1⟩
  have HB := hide hb1
  clear hb1
  go_wp2_with fail
  refine (awake_any w1 (Hty.out.below HB.out Hty.out.lt)).mono ?_
  rintro r w2 ⟨rfl, hb2⟩
  have HB2 := hide (HB.out.trans (hb2.mono HB.out.size))
  clear hb2
  go_wp2
  go_ret
  exact ⟨rfl, HB2.out⟩

set_option maxHeartbeats 2000000 in
theorem Nil_short (op : ByteArray) (n : Int) (w : World) (hty : Ety w) (htab : Tab10 w) (hn : Int64 n) (hs : op.size ≤ 200) :
    Calls Tryd.prog 6 #[.string op, .int .i64 n] w fun e w' => e = .returned (.bool true) ∧ Below w.heap.size w w' := by
  have hd : Dig w n := Or.inr ⟨htab, hn⟩
  have hi := itoa_le hd
  have hpl := plc_le hd hs
  obtain ⟨S1, h1⟩ : ∃ S, S = str (op.data.toList ++ [32]) := ⟨_, rfl⟩
  obtain ⟨SA, h2⟩ : ∃ S, S = str (Lib.itoa n) := ⟨_, rfl⟩
  obtain ⟨SP, h3⟩ : ∃ S, S = str (plc op n) := ⟨_, rfl⟩
  obtain ⟨SR, h4⟩ : ∃ S, S = str (plc op n ++ [58, 32, 111, 107]) := ⟨_, rfl⟩
  obtain ⟨SO, h5⟩ : ∃ S, S = str (word 0) := ⟨_, rfl⟩
  have hadd1 : ∀ W : World, (Op.stringOp .add op ⟨#[32]⟩).run Tryd.prog W = .ok (.string S1) W := fun W => by
    rw [h1]
    exact run_add op.data.toList [32] (by rw [size_eq]; simp; omega) W
  have hadd2 : ∀ W : World, (Op.stringOp .add S1 SA).run Tryd.prog W = .ok (.string SP) W := fun W => by
    rw [h1, h2, h3]
    exact run_add _ _ (by rw [List.length_append, size_eq]; simp; omega) W
  have hadd3 : ∀ W : World, (Op.stringOp .add SP ⟨#[58, 32, 111, 107]⟩).run Tryd.prog W = .ok (.string SR) W := fun W => by
    rw [h3, h4]
    exact run_add _ [58, 32, 111, 107] (by simp; omega) W
  have hSO : SO.toList = [111, 107] := by rw [h5, str_toList]; rfl
  have HD := hide fun W => Digits_any n hn W
  rw [← h2] at HD
  have HN := hide Error_nil
  rw [← h5] at HN
  have Hty := hide hty
  have Hd := hide hd
  have H4 := hide h4
  have Hs := hide hs
  have hs' : (op.size : Int) ≤ 200 := by omega
  clear hty htab hn hd hi hpl h1 h2 h3 h4 h5 hs
  go_enter Tryd.func6, Tryd.ntmps6
  go_wp2_with fail
  refine (awake_any w Hty.out).mono ?_
  rintro r w1 ⟨rfl, hb1⟩
  obtain ⟨W2, hW2⟩ : ∃ W, W = w1.alloc (.cells #[.string op, .int .i64 n, .nilIface] 46) := ⟨_, rfl⟩
  have hp2 : W2.heap[w1.heap.size]? = some (.cells #[.string op, .int .i64 n, .nilIface] 46 (0, 0)) := by rw [hW2]; exact heap_alloc_new w1 _
  have hb2 : Below w.heap.size w W2 := by rw [hW2]; exact hb1.alloc hb1.size _
  have HP2 := hide hp2
  have HB2 := hide hb2
  have HF := hide (First_any [] .nilIface .nilIface op 0 W2 rfl (Hty.out.below hb2 Hty.out.lt) rfl (Or.inl rfl) (by omega))
  rw [hW2] at HF
  have HW := hide hW2
  clear hb1 hb2 hp2 hW2
  go_wp2_with fail
  refine HF.out.mono ?_
  rintro r w3 ⟨rfl, hb3⟩
  rw [← HW.out] at hb3
  have HB3 := hide hb3
  clear hb3 HF HW
  go_wp2_with fail
  refine (Wrap_nil op n w3).mono ?_
  rintro r w4 ⟨rfl, rfl⟩
  go_wp2_with fail
  refine (Wrap_ok op n w4).mono ?_
  rintro r w5 ⟨rfl, rfl⟩
  go_wp2_with fail
  refine (HN.out w5).mono ?_
  rintro r w6 ⟨rfl, hb6⟩
  have HB6 := hide (HB3.out.trans (hb6.mono HB3.out.size))
  clear hb6
  go_wp2_with fail
  refine (Unwrap_nil w6).mono ?_
  rintro r w7 ⟨rfl, rfl⟩
  have hp7 := (HB6.out.block _ (heap_lt HP2.out)).trans HP2.out
  have hbw := HB2.out.trans (HB6.out.mono HB2.out.size)
  have hch : Chain w7 [(w1.heap.size, op, n)] (.iface 41 (.pointer (some ⟨w1.heap.size, 0, none⟩))) .nilIface := ⟨rfl, _, hp7, rfl⟩
  have hE := Error_any [(w1.heap.size, op, n)] w1.heap.size .nilIface (word 0) 1 w7 rfl (Hty.out.below hbw Hty.out.lt) hch (Or.inl ⟨rfl, rfl⟩) (by
    intro f hf
    obtain rfl := List.mem_singleton.1 hf
    exact ⟨Hs.out, Hd.out.below hbw⟩) (by omega) (by decide)
  have hpt : pth [(w1.heap.size, op, n)] ++ word 0 = plc op n ++ [58, 32, 111, 107] := by simp [pth]; rfl
  rw [hpt, ← H4.out] at hE
  have HE := hide hE
  have HCH := hide hch
  have HBW := hide hbw
  clear hp7 hbw hch hE hpt
  go_wp2_with fail
  refine HE.out.mono ?_
  rintro r w8 ⟨rfl, hb8⟩
  have HB8 := hide (HBW.out.trans (hb8.mono HBW.out.size))
  have HCH8 := hide (HCH.out.below (Nat.le_refl _) hb8)
  clear hb8 HE
  go_wp2_with fail
  refine (HD.out w8).mono ?_
  rintro r w9 ⟨rfl, hb9⟩
  have HB9 := hide (HB8.out.trans (hb9.mono HB8.out.size))
  have HCH9 := hide (HCH8.out.below (Nat.le_refl _) hb9)
  have HU := hide (Unwrap_any w1.heap.size op n .nilIface w9 (by obtain ⟨_, e', hp, he⟩ := HCH9.out; rw [hp]; obtain rfl := he; rfl))
  clear hb9 HD
  go_wp2_with fail
  refine HU.out.mono ?_
  rintro r w10 ⟨rfl, rfl⟩
  have HC := hide (Code_any _ _ _ 0 w10 (Hty.out.below HB9.out Hty.out.lt) HCH9.out (Or.inl ⟨rfl, rfl⟩) (by simp))
  go_wp2_with fail
  refine HC.out.mono ?_
  rintro r w11 ⟨rfl, hb11⟩
  have HB11 := hide (HB9.out.trans (hb11.mono HB9.out.size))
  have HC2 := hide (Code_any [] .nilIface .nilIface 0 w11 (Hty.out.below HB11.out Hty.out.lt) rfl (Or.inl ⟨rfl, rfl⟩) (by simp))
  clear hb11 HC
  go_wp2_with fail
  refine HC2.out.mono ?_
  rintro r w12 ⟨rfl, hb12⟩
  have HB12 := hide (HB11.out.trans (hb12.mono HB11.out.size))
  clear hb12
  go_wp2
  go_ret
  exact ⟨rfl, HB12.out⟩

theorem Nil_walk (op : ByteArray) (n : Int) (w : World) (hty : Ety w) (htab : Tab10 w) (_ : op.size ≤ maxLen) (hn : (Lit.int .i64 n).wf = true) :
    Calls Tryd.prog 6 #[.string op, .int .i64 n] w fun e w' => e = .returned (.bool true) ∧ Below w.heap.size w w' := by
  have h5 := bounds_i64 hn
  rcases Nat.lt_or_ge 200 op.size with h | h
  · exact Nil_long op n w hty h
  · exact Nil_short op n w hty htab (by unfold Int64; omega) h

end Go.Proofs.YtknnalcnoccleaaDoor.Fa
