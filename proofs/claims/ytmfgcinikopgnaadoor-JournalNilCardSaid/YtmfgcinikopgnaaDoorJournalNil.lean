/-
  Proved: the statement JournalNil: for every record and every number it returns true, and its arguments read as before. Condition: the package variable halves and the library's variable errors.errorType read as the program's own text lays them (the card ties it).
-/
import Derived.Test.YtmfgcinikopgnaaDoorFaPathB
import Derived.Test.YtmfgcinikopgnaaDoorJnB
import Derived.Test.YtmfgcinikopgnaaDoorTie
import Derived.Test.YtmfgcinikopgnaaDoorCards
import Derived.Test.YtmfgcinikopgnaaDoorRcLift
import Derived.SevenTiedAt

/-
  JournalNil at every record and every number: it returns true, and changes nothing that was there. Conditions: the table of half bytes, and the library's variable errors.errorType, hold what the program's own text lays.
-/
namespace Go.Proofs.YtmfgcinikopgnaaDoor.Jn
open Go.RowKit
open Pk Sm Fa Rc Dk

theorem First_jn (v : Value) (s e : Int) (w : World) (hty : Ety w) (h : JFlt w v s e) :
    Calls Tryd.prog 19 #[v, .string nam] w fun r w' => r = .returned (.tuple #[.int .i64 s, .bool true]) ∧ Below w.heap.size w w' := by
  obtain ⟨p, fs, rfl, hc, hl⟩ := h
  have hF := First_any _ _ _ nam _ w rfl hty hc (Or.inr ⟨e, rfl⟩) (by simp; omega)
  have hf : Fa.fnd (pls ((p, nam, s) :: fs)) nam = (s, true) := fnd_yes (by simp)
  rw [hf] at hF
  exact hF
theorem Code_jn (v : Value) (s e : Int) (w : World) (hty : Ety w) (h : JFlt w v s e) :
    Calls Tryd.prog 20 #[v] w fun r w' => r = .returned (.int .i64 e) ∧ Below w.heap.size w w' := by
  obtain ⟨p, fs, rfl, hc, hl⟩ := h
  exact Code_any _ _ _ e w hty hc (Or.inr rfl) (by simp; omega)

set_option maxRecDepth 100000 in
set_option maxHeartbeats 2000000 in
theorem JournalNil_any (s k b : Int) (d : ByteArray) (m : Int) (kk : Int) (w : World) (ht : Tab w) (hty : Ety w) (hd : d.size ≤ 9223372036854775807) (_hk : -9223372036854775808 ≤ kk ∧ kk ≤ 9223372036854775807) :
    Calls Tryd.prog 5 #[rec5 s k b d m, .int .i64 kk] w fun e w' => e = .returned (.bool true) ∧ Below w.heap.size w w' := by
  have hbx0 := Bx.new w s k b d m
  have hb0 := box_below w s k b d m
  have HT := hide ht
  have HE := hide hty
  have HB0 := hide hb0
  clear ht hty hb0
  go_enter Tryd.func5, Tryd.ntmps5
  go_wp2_with fail
  generalize w.alloc _ = w0 at *
  refine (awake_any w0 (HT.out.below HB0.out HT.out.pos)).mono ?_
  rintro r w1 ⟨rfl, hb1⟩
  have hbx1 := hbx0.below hb1
  have HB1 := hide (HB0.out.trans (hb1.mono HB0.out.size))
  have hc3 := hbx1.c3
  clear hbx0 hb1 HB0
  by_cases hlen : 300 < d.size
  · have hli : (300 : Int) < (d.size : Int) := by omega
    clear hlen
    go_wp2_with fail
    refine (awake_any w1 (HT.out.below HB1.out HT.out.pos)).mono ?_
    rintro r w2 ⟨rfl, hb2⟩
    have HB2 := hide (HB1.out.trans (hb2.mono HB1.out.size))
    clear hb2 hbx1 hc3
    go_wp2
    go_ret
    exact ⟨rfl, HB2.out⟩
  · have hli : ¬ ((300 : Int) < (d.size : Int)) := by omega
    clear hlen
    go_wp2_with fail
    refine (Flush_nil w1).mono ?_
    rintro r w' ⟨rfl, rfl⟩
    have hc0 := hbx1.c0
    have hc1 := hbx1.c1
    have hc2 := hbx1.c2
    have hc4 := hbx1.c4
    go_wp2_with fail
    refine (Append_nil s k b d m w1).mono ?_
    rintro r w2 ⟨pp, rfl, hf2, hb2⟩
    have HB2 := hide (HB1.out.trans (hb2.mono HB1.out.size))
    have HF2 := hide hf2
    clear hbx1 hc0 hc1 hc2 hc3 hc4 hb2 hf2 HB1
    go_wp2_with fail
    refine (First_jn _ 0 1 w2 (HE.out.below HB2.out HE.out.lt) HF2.out).mono ?_
    rintro r w3 ⟨rfl, hb3⟩
    have HB3 := hide (HB2.out.trans (hb3.mono HB2.out.size))
    have HF3 := hide (HF2.out.below (Nat.le_refl _) hb3)
    clear hb3 HB2 HF2
    go_wp2_with fail
    refine (Code_jn _ 0 1 w3 (HE.out.below HB3.out HE.out.lt) HF3.out).mono ?_
    rintro r w4 ⟨rfl, hb4⟩
    have HB4 := hide (HB3.out.trans (hb4.mono HB3.out.size))
    clear hb4 HB3 HF3
    go_wp2_with fail
    refine (Trim_nil kk w4).mono ?_
    rintro r w5 ⟨pp2, rfl, hf5, hb5⟩
    have HB5 := hide (HB4.out.trans (hb5.mono HB4.out.size))
    have HF5 := hide hf5
    clear hb5 hf5 HB4
    go_wp2_with fail
    refine (Code_jn _ 0 1 w5 (HE.out.below HB5.out HE.out.lt) HF5.out).mono ?_
    rintro r w6 ⟨rfl, hb6⟩
    have HB6 := hide (HB5.out.trans (hb6.mono HB5.out.size))
    clear hb6 HB5 HF5
    go_wp2_with fail
    refine (Records_nil w6).mono ?_
    rintro r w' ⟨rfl, rfl⟩
    go_wp2_with fail
    refine (Next_nil w6).mono ?_
    rintro r w' ⟨rfl, rfl⟩
    go_wp2_with fail
    refine (Room_nil w6).mono ?_
    rintro r w' ⟨rfl, rfl⟩
    go_wp2
    go_ret
    exact ⟨rfl, HB6.out⟩

end Go.Proofs.YtmfgcinikopgnaaDoor.Jn

namespace Go.Proofs.YtmfgcinikopgnaaDoor.journalNil
open Go.ChangeShapes Go.WideShapes Go.ChangeAt Go.RowKit
open Go.ChangeMaps (open_string shut_string)
open Go.Deep
open Rc Jn

theorem laidOut : laidOutB Tryd.prog = true := by kernel_rfl

set_option maxRecDepth 100000 in
theorem lifted (os : Os) (started : os.Started) (H : Type) (enc : TypeId × Value → H) :
    ReturnsInHanded {} Tryd.checked os 5 .any (fun w args => (Rows.journalNilSpec.pre enc Tryd.prog Tryd.f5 [] false w args ∧ laidMetH Tryd.prog laidB w) ∧ sizedMet enc Tryd.prog Tryd.f5 (OpenSpec.ofChange Rows.journalNilSpec) false w args)
      (Rows.journalNilSpec.post enc Tryd.prog Tryd.f5 false true false false) := by
  refine returnsInHanded_of_change_and (C := Tryd.checked) (X := fun w _ => laidMetH Tryd.prog laidB w) (fun _ _ _ hh h => h.of_heap hh) own started (by kernel_rfl) Tryd.func5
    (ChangeSpec.witness_shaped (enc := enc) (C := Tryd.checked) (os := os) (X := fun w _ => laidMetH Tryd.prog laidB w) false (World.doorLaid Tryd.prog 21 os) #[.agg #[.int .i64 0, .int .i64 0, .int .i64 0, .string ByteArray.empty, .int .i64 0], .int .i64 0] 8 rfl (World.shaped_of_RefB (by kernel_rfl) (by kernel_rfl)) (by kernel_rfl) (by kernel_rfl) (by kernel_rfl) (Rc.door_metB os _)) ?_
  intro W base args ds gs before hval0 hW _ _ hL _
  have hval : ∀ (j : Nat) t v, Tryd.f5.params[j]? = some t → args[j]? = some v → Value.okWide Tryd.prog W .any base t v := hval0
  have hW' := hW
  obtain ⟨p, q, hA0, hV, rfl, hfz, hnd⟩ := hW
  have hA : DataW.TrodAll enc Tryd.prog W 0 (fun _ => true) true Tryd.f5.params.toList args.toList ds p := hA0
  rw [Tryd.params5] at hA hval
  obtain ⟨v0, vs0, d0, ds0, p0, q0, hargs, rfl, rfl, h0, r0⟩ := trodAll_cons hA
  obtain ⟨v1, vs1, d1, ds1, p1, q1, rfl, rfl, rfl, h1, r1⟩ := trodAll_cons r0
  obtain ⟨rfl, rfl, rfl⟩ := trodAll_nil r1
  obtain rfl : args = #[v0, v1] := by cases args; simp_all
  obtain ⟨rfl, rfl⟩ := trodVars_none hV
  have k0 := h0
  have lt0 : ∀ x ∈ p0, x.block < W.heap.size := by obtain ⟨m, hm⟩ := k0; exact DataW.trod_lt m _ _ _ hm
  obtain ⟨s0, kk0, b0, x0, m0, rfl, f0⟩ := open_rec (hval 0 33 v0 rfl rfl) h0
  obtain ⟨a1, rfl, rfl, rfl, w1⟩ := open_int Tryd.underlying3 (hval 1 3 v1 rfl rfl) h1
  clear hA0 hval0
  refine (JournalNil_any s0 kk0 b0 x0 m0 a1 W (met_of_laidB hL).1 (met_of_laidB hL).2 f0.2.2.2.1 (bounds_i64 w1)).mono fun e W' ⟨he, bel⟩ => ?_
  subst he
  exact ⟨_, rfl, _, _, _, [], _, [], hW', trodAll_mk1 (shut_bool Tryd.underlying4 _), (trodAll_cons_mk (Below.trod laidOut (by kernel_rfl) (of_decide_eq_true (by kernel_rfl)) k0 bel lt0) (trodAll_cons_mk (shut_int Tryd.underlying3 w1) trodAll_mk0)), rfl, bel.frame _, fun h => by cases h⟩

theorem row : Rows.JournalNilSaid :=
  OpenClaim.holds_of_wide 5 Tryd.f5 rfl rfl rfl rfl rfl rfl rfl ⟨rfl, rfl, rfl, rfl, rfl⟩ rfl rfl rfl rfl rfl (by kernel_rfl) Tryd.func5 (by kernel_rfl)
    (of_decide_eq_true (by kernel_rfl)) (by unfold Func.isWrapper; first | (rw [if_pos (by decide +kernel)]; kernel_rfl) | (rw [if_neg (by decide +kernel)]; exact ⟨rfl, rfl⟩))
    (fun os started H enc _ => lifted os started H enc)

theorem proved : Rows.JournalNilCardSaid :=
  Claim7.holds_tied_plain_at .later [] [.handle, .data] true Rows.journalNilCard.stood.harness true
    row (fun _ h => by cases h) (by kernel_rfl) (fun _ h => by cases h) journalNil_row_tie rfl ⟨rfl, rfl⟩ (by kernel_rfl) rfl
    (fun f fn hf hfn => by
      obtain rfl : f = 5 := Option.some.inj ((show Tryd.prog.funcNamed "isobar/isobarlaw06.JournalNil" = some 5 by kernel_rfl).symm.trans hf) |>.symm
      obtain rfl : fn = Tryd.f5 := (Option.some.inj (Tryd.func5.symm.trans hfn)).symm
      exact ⟨by kernel_rfl, fun j t ht => by
        rw [Tryd.params5] at ht
        have hm : t ∈ [33, 3] := by simpa using Array.mem_of_getElem? ht
        have hall : ([33, 3].all fun u => !Tryd.prog.wantsStandIn u) = true := by kernel_rfl
        exact (show Tryd.prog.wantsStandIn t = false by simpa using List.all_eq_true.1 hall t hm)⟩)
    (by kernel_rfl)
#print axioms proved
end Go.Proofs.YtmfgcinikopgnaaDoor.journalNil
