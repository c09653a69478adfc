/-
  Proved: the statement VolumeNil: for every number and text it returns true, and its arguments read as before. Condition: the package variable halves and the library's variable errors.errorType read as the program's own text lays them (the card ties it).
-/
import Derived.Test.YtapiogcoipeinaaGreatDoorVoP
import Derived.Test.YtapiogcoipeinaaGreatDoorVoB
import Derived.Test.YtapiogcoipeinaaGreatDoorTie
import Derived.Test.YtapiogcoipeinaaGreatDoorCards
import Derived.Test.YtapiogcoipeinaaGreatDoorVoL
import Derived.SevenTiedAt

/-
  The calls on no volume; VolumeNil. Nothing that was there is changed. Conditions: the table of half bytes, and the library's variable errors.errorType, hold what the program's own text lays.
-/
namespace Go.Proofs.YtapiogcoipeinaaGreatDoor.Vo
open Go.RowKit
open Pk Sm Fa Rc Dk Jn

section
variable (w : World)
theorem Flush_nil : Calls Tryz.prog 20 #[.pointer none] w fun e w' => e = .returned (.tuple #[]) ∧ w = w' := by
  go_enter Tryz.func20, Tryz.ntmps20
  go_wp2
  exact bodyPost_ret (results_none rfl _ _ _) rfl ⟨rfl, rfl⟩
theorem Records_nil : Calls Tryz.prog 27 #[.pointer none] w fun e w' => e = .returned (.slice none 0 0) ∧ w = w' := by
  go_enter Tryz.func27, Tryz.ntmps27
  go_wp2
  go_ret
  exact ⟨rfl, rfl⟩
theorem Next_nil : Calls Tryz.prog 28 #[.pointer none] w fun e w' => e = .returned (.int .i64 0) ∧ w = w' := by
  go_enter Tryz.func28, Tryz.ntmps28
  go_wp2
  go_ret
  exact ⟨rfl, rfl⟩
theorem Write_nil (b : Int) (d : ByteArray) : Calls Tryz.prog 13 #[.pointer none, .int .i64 b, .string d] w fun e w' => ∃ pp, e = .returned (.tuple #[.int .i64 0, .iface 145 (.pointer (some ⟨pp, 0, none⟩))]) ∧ VErr w' pp 0 11 ∧ Below w.heap.size w w' := by
  have HF := hide (absent_any w)
  go_enter Tryz.func13, Tryz.ntmps13
  go_wp2_with fail
  refine HF.out.mono ?_
  rintro e w1 ⟨pp, rfl, hj⟩
  have HV := hide hj
  clear hj HF
  go_wp2
  go_ret2
  exact ⟨_, rfl, HV.out⟩
theorem Mark_nil (m : Int) : Calls Tryz.prog 16 #[.pointer none, .int .i64 m] w fun e w' => ∃ pp, e = .returned (.tuple #[.int .i64 0, .iface 145 (.pointer (some ⟨pp, 0, none⟩))]) ∧ VErr w' pp 0 11 ∧ Below w.heap.size w w' := by
  have HF := hide (absent_any w)
  go_enter Tryz.func16, Tryz.ntmps16
  go_wp2_with fail
  refine HF.out.mono ?_
  rintro e w1 ⟨pp, rfl, hj⟩
  have HV := hide hj
  clear hj HF
  go_wp2
  go_ret2
  exact ⟨_, rfl, HV.out⟩
theorem Read_nil (b : Int) : Calls Tryz.prog 18 #[.pointer none, .int .i64 b] w fun e w' => ∃ pp, e = .returned (.tuple #[.string ⟨#[]⟩, .iface 145 (.pointer (some ⟨pp, 0, none⟩))]) ∧ VErr w' pp 0 11 ∧ Below w.heap.size w w' := by
  have HF := hide (absent_any w)
  go_enter Tryz.func18, Tryz.ntmps18
  go_wp2_with fail
  refine HF.out.mono ?_
  rintro e w1 ⟨pp, rfl, hj⟩
  have HV := hide hj
  clear hj HF
  go_wp2
  go_ret2
  exact ⟨_, rfl, HV.out⟩
theorem Checkpoint_nil (u : Int) : Calls Tryz.prog 22 #[.pointer none, .int .i64 u] w fun e w' => ∃ pp, e = .returned (.iface 145 (.pointer (some ⟨pp, 0, none⟩))) ∧ VErr w' pp 0 11 ∧ Below w.heap.size w w' := by
  have HF := hide (absent_any w)
  go_enter Tryz.func22, Tryz.ntmps22
  go_wp2_with fail
  refine HF.out.mono ?_
  rintro e w1 ⟨pp, rfl, hj⟩
  have HV := hide hj
  clear hj HF
  go_wp2
  go_ret
  exact ⟨_, rfl, HV.out⟩
end
theorem VErr.below {w w' : World} {p : Nat} {s e : Int} (h : VErr w p s e) (hb : Below w.heap.size w w') : VErr w' p s e := VFlt.below h (Nat.le_refl _) hb

set_option maxRecDepth 100000 in
set_option maxHeartbeats 2000000 in
theorem Nil_any (n : Int) (s : ByteArray) (w : World) (ht : Tab w) (hty : Ety w) :
    Calls Tryz.prog 5 #[.int .i64 n, .string s] w fun r w' => r = .returned (.bool true) ∧ Below w.heap.size w w' := by
  have HA := hide (awake_any w ht)
  have HT := hide ht
  have HY := hide hty
  have HYL := hide hty.lt
  clear hty ht
  by_cases hs : (100 : Int) < (s.size : Int)
  · go_enter Tryz.func5, Tryz.ntmps5
    go_wp2_with fail
    refine HA.out.mono ?_
    rintro e w1 ⟨rfl, hb1⟩
    have HB1 := hide hb1
    have HA1 := hide (awake_any w1 (HT.out.below hb1 HT.out.pos))
    clear hb1 HA
    go_wp2_with fail
    refine HA1.out.mono ?_
    rintro e w2 ⟨rfl, hb2⟩
    have HB2 := hide (HB1.out.trans (hb2.mono HB1.out.size))
    clear hb2
    go_wp2
    go_ret
    exact ⟨rfl, HB2.out⟩
  · go_enter Tryz.func5, Tryz.ntmps5
    go_wp2_with fail
    refine HA.out.mono ?_
    rintro e w1 ⟨rfl, hb1⟩
    have HB1 := hide hb1
    clear hb1 HA
    go_wp2_with fail
    refine (Flush_nil w1).mono ?_
    rintro e w' ⟨rfl, rfl⟩
    go_wp2_with fail
    refine (Write_nil w1 n s).mono ?_
    rintro e w2 ⟨p2, rfl, hv2, hb2⟩
    have HV2 := hide hv2
    have HB2 := hide (HB1.out.trans (hb2.mono HB1.out.size))
    clear hv2 hb2 HB1
    go_wp2_with fail
    refine (Mark_nil w2 n).mono ?_
    rintro e w3 ⟨p3, rfl, hv3, hb3⟩
    have HV23 := hide (HV2.out.below hb3)
    have HV3 := hide hv3
    have HB3 := hide (HB2.out.trans (hb3.mono HB2.out.size))
    clear hv3 hb3 HB2 HV2
    go_wp2_with fail
    refine (Read_nil w3 n).mono ?_
    rintro e w4 ⟨p4, rfl, hv4, hb4⟩
    have HV24 := hide (HV23.out.below hb4)
    have HV34 := hide (HV3.out.below hb4)
    have HV4 := hide hv4
    have HB4 := hide (HB3.out.trans (hb4.mono HB3.out.size))
    clear hv4 hb4 HB3 HV23 HV3
    go_wp2_with fail
    refine (place_flt (HY.out.below HB4.out HYL.out) HV24.out (by decide)).mono ?_
    rintro e w5 ⟨rfl, hb5⟩
    have HV35 := hide (HV34.out.below hb5)
    have HV5 := hide (HV4.out.below hb5)
    have HB5 := hide (HB4.out.trans (hb5.mono HB4.out.size))
    clear hb5 HB4 HV34 HV24 HV4
    go_wp2_with fail
    refine (place_flt (HY.out.below HB5.out HYL.out) HV35.out (by decide)).mono ?_
    rintro e w6 ⟨rfl, hb6⟩
    have HV6 := hide (HV5.out.below hb6)
    have HB6 := hide (HB5.out.trans (hb6.mono HB5.out.size))
    clear hb6 HB5 HV35 HV5
    go_wp2_with fail
    refine (place_flt (HY.out.below HB6.out HYL.out) HV6.out (by decide)).mono ?_
    rintro e w7 ⟨rfl, hb7⟩
    have HB7 := hide (HB6.out.trans (hb7.mono HB6.out.size))
    clear hb7 HB6 HV6
    go_wp2_with fail
    refine (Checkpoint_nil w7 n).mono ?_
    rintro e w8 ⟨p8, rfl, hv8, hb8⟩
    have HV8 := hide hv8
    have HB8 := hide (HB7.out.trans (hb8.mono HB7.out.size))
    clear hv8 hb8 HB7
    go_wp2_with fail
    refine (place_flt (HY.out.below HB8.out HYL.out) HV8.out (by decide)).mono ?_
    rintro e w9 ⟨rfl, hb9⟩
    have HB9 := hide (HB8.out.trans (hb9.mono HB8.out.size))
    clear hb9 HB8 HV8
    go_wp2_with fail
    refine (Records_nil w9).mono ?_
    rintro e w' ⟨rfl, rfl⟩
    go_wp2_with fail
    refine (Next_nil w9).mono ?_
    rintro e w' ⟨rfl, rfl⟩
    go_wp2
    go_ret
    exact ⟨rfl, HB9.out⟩
theorem Nil_law (n : Int) (s : ByteArray) (w : World) (ht : Tab w) (hty : Ety w) (_ : Int64 n) (_ : s.size ≤ maxLen) :
    Calls Tryz.prog 5 #[.int .i64 n, .string s] w fun r w' => r = .returned (.bool true) ∧ Below w.heap.size w w' := Nil_any n s w ht hty

end Go.Proofs.YtapiogcoipeinaaGreatDoor.Vo

namespace Go.Proofs.YtapiogcoipeinaaGreatDoor.volumeNil
open Go.ChangeShapes Go.WideShapes Go.ChangeAt Go.RowKit
open Go.ChangeMaps (open_string shut_string)

open Rc Vo

theorem laidOut : laidOutB Tryz.prog = true := by kernel_rfl

set_option maxRecDepth 100000 in
theorem lifted (os : Os) (started : os.Started) (H : Type) (enc : TypeId × Value → H) :
    ReturnsInHanded {} Tryz.checked os 5 .any (fun w args => (Rows.volumeNilSpec.pre enc Tryz.prog Tryz.f5 [] false w args ∧ laidMetH Tryz.prog laidB w) ∧ sizedMet enc Tryz.prog Tryz.f5 (OpenSpec.ofChange Rows.volumeNilSpec) false w args)
      (Rows.volumeNilSpec.post enc Tryz.prog Tryz.f5 false true false false) := by
  refine returnsInHanded_of_change_and (C := Tryz.checked) (X := fun w _ => laidMetH Tryz.prog laidB w) (fun _ _ _ hh h => h.of_heap hh) own started (by kernel_rfl) Tryz.func5
    (ChangeSpec.witness_shaped (enc := enc) (C := Tryz.checked) (os := os) (X := fun w _ => laidMetH Tryz.prog laidB w) false (World.doorLaid Tryz.prog 21 os) #[.int .i64 0, .string ByteArray.empty] 8 rfl (World.shaped_of_RefB (by kernel_rfl) (by kernel_rfl)) (by kernel_rfl) (by kernel_rfl) (by kernel_rfl) (Vo.door_metB os _)) ?_
  intro W base args ds gs before hval0 hW _ _ hL _
  have hval : ∀ (j : Nat) t v, Tryz.f5.params[j]? = some t → args[j]? = some v → Value.okWide Tryz.prog W .any base t v := hval0
  have hW' := hW
  obtain ⟨p, q, hA0, hV, rfl, hfz, hnd⟩ := hW
  have hA : DataW.TrodAll enc Tryz.prog W 0 (fun _ => true) true Tryz.f5.params.toList args.toList ds p := hA0
  rw [Tryz.params5] at hA hval
  obtain ⟨v0, vs0, d0, ds0, p0, q0, hargs, rfl, rfl, h0, r0⟩ := trodAll_cons hA
  obtain ⟨v1, vs1, d1, ds1, p1, q1, rfl, rfl, rfl, h1, r1⟩ := trodAll_cons r0
  obtain ⟨rfl, rfl, rfl⟩ := trodAll_nil r1
  obtain rfl : args = #[v0, v1] := by cases args; simp_all
  obtain ⟨rfl, rfl⟩ := trodVars_none hV
  obtain ⟨a0, rfl, rfl, rfl, w0⟩ := open_int Tryz.underlying3 (hval 0 3 v0 rfl rfl) h0
  obtain ⟨a1, rfl, rfl, rfl, w1⟩ := open_string Tryz.underlying9 (hval 1 9 v1 rfl rfl) h1
  clear hA0 hval0
  refine (Nil_law a0 a1 W (met_of_laidB hL).1 (met_of_laidB hL).2 (bounds_i64 w0) w1).mono fun e W' ⟨he, bel⟩ => ?_
  subst he
  exact ⟨_, rfl, _, _, _, [], _, [], hW', trodAll_mk1 (shut_bool Tryz.underlying4 _), (trodAll_cons_mk (shut_int Tryz.underlying3 w0) (trodAll_cons_mk (shut_string Tryz.underlying9 w1) trodAll_mk0)), rfl, bel.frame _, fun h => by cases h⟩

theorem row : Rows.VolumeNilSaid :=
  OpenClaim.holds_of_wide 5 Tryz.f5 rfl rfl rfl rfl rfl rfl rfl ⟨rfl, rfl, rfl, rfl, rfl⟩ rfl rfl rfl rfl rfl (by kernel_rfl) Tryz.func5 (by kernel_rfl)
    (of_decide_eq_true (by kernel_rfl)) (by unfold Func.isWrapper; first | (rw [if_pos (by decide +kernel)]; kernel_rfl) | (rw [if_neg (by decide +kernel)]; exact ⟨rfl, rfl⟩))
    (fun os started H enc _ => lifted os started H enc)

theorem proved : Rows.VolumeNilCardSaid :=
  Claim7.holds_tied_plain_at .later [] [.handle, .data] true Rows.volumeNilCard.stood.harness true
    row (fun _ h => by cases h) (by kernel_rfl) (fun _ h => by cases h) volumeNil_row_tie rfl ⟨rfl, rfl⟩ (by kernel_rfl) rfl
    (fun f fn hf hfn => by
      obtain rfl : f = 5 := Option.some.inj ((show Tryz.prog.funcNamed "isobar/isobarlaw11.VolumeNil" = some 5 by kernel_rfl).symm.trans hf) |>.symm
      obtain rfl : fn = Tryz.f5 := (Option.some.inj (Tryz.func5.symm.trans hfn)).symm
      exact ⟨by kernel_rfl, fun j t ht => by
        rw [Tryz.params5] at ht
        have hm : t ∈ [3, 9] := by simpa using Array.mem_of_getElem? ht
        have hall : ([3, 9].all fun u => !Tryz.prog.wantsStandIn u) = true := by kernel_rfl
        exact (show Tryz.prog.wantsStandIn t = false by simpa using List.all_eq_true.1 hall t hm)⟩)
    (by kernel_rfl)
#print axioms proved
end Go.Proofs.YtapiogcoipeinaaGreatDoor.volumeNil
