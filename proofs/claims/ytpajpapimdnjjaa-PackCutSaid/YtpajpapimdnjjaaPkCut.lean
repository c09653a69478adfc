/-
  Proved: for every n, s and by the call PackCut(n, s, by) returns true and changes no argument: the bytes of a number, or of a text, that are cut off are ErrShort. No condition beyond the row's own.
-/
import Derived.Test.YtpajpapimdnjjaaRows
import Derived.WalkKit
import Derived.ProofKit
import Derived.OpenShut
import Derived.ShutString
import Derived.ChangeOld
import Derived.Below
import Derived.Test.YtpajpapimdnjjaaPkAwake
namespace Go.Proofs.Ytpajpapimdnjjaa.packCut
open Go.ChangeShapes Go.WideShapes Go.ChangeAt Go.RowKit
open Go.ChangeMaps (open_string shut_string)
open Pk

theorem rtext_cut (s : List UInt8) (j : Nat) (hj : j < (enc s.length ++ s).length) (hs : s.length ≤ 300) : rtext ((enc s.length ++ s).take j) 0 300 = ([], [], 2) := by
  by_cases h : j < (enc s.length).length
  · have e : (enc s.length ++ s).take j = (enc s.length).take j := List.take_append_of_le_length (by omega)
    rw [e]
    have hr := rnum_bad _ 0 0 2 (dec_cut s.length j (by omega) h) (by omega)
    unfold rtext
    rw [hr]
    rfl
  · obtain ⟨m, rfl⟩ : ∃ m, j = (enc s.length).length + m := ⟨j - (enc s.length).length, by omega⟩
    have hm : m < s.length := by rw [List.length_append] at hj; omega
    have e : (enc s.length ++ s).take ((enc s.length).length + m) = enc s.length ++ s.take m := by rw [List.take_append, List.take_of_length_le (by omega)]; simp
    rw [e]
    have hr := rnum_enc s.length (s.take m) (by omega)
    unfold rtext
    rw [hr]
    have h2 : ¬ (300 : Int) < (s.length : Int) := by omega
    have h3 : (s.take m).length < s.length := by rw [List.length_take]; omega
    simp [h2]
    omega

theorem Read_at (A : Option Addr) (l : List UInt8) (n c : Nat) (w : World) (hn : l.length = n) (hb : Byt w w.heap.size A l) (hl : n ≤ c) (hc : c ≤ maxLen) :
    Calls Try.prog 15 #[.slice A n c] w fun e w' =>
      e = .returned (.pointer (some ⟨w.heap.size, 0, none⟩)) ∧ Rd w' w.heap.size l 0 ∧ Below w.heap.size w w' := by
  subst hn
  exact Read_any A l c w hb hl hc

/-- What is laid for a number, told by what the cut needs of it. -/
theorem num_law (n : Int) (w : World) : ∃ L : List UInt8, 0 < L.length ∧ L.length ≤ 9 ∧ Hid (∀ j, j < L.length → rnum (L.take j) 0 = (0, [], 2)) ∧
    Hid (Calls Try.prog 11 #[.slice none 0 0, .int .i64 n] w fun e w' => ∃ v', e = .returned v' ∧ Own w' w.heap.size v' L ∧ Below w.heap.size w w') := by
  have hN := Number_any none [] 0 n w Byt.nil (by simp)
  rw [List.nil_append] at hN
  exact ⟨enc (clamp n), enc_pos _, enc_le _, fun j hj => rnum_bad _ 0 0 2 (dec_cut _ j (clamp_lt n) hj) (by omega), hN⟩

theorem text_law (s : ByteArray) (w : World) (hs : s.size ≤ 300) : ∃ L : List UInt8, 0 < L.length ∧ L.length ≤ 309 ∧ Hid (∀ j, j < L.length → rtext (L.take j) 0 300 = ([], [], 2)) ∧
    Hid (Calls Try.prog 12 #[.slice none 0 0, .string s] w fun e w' => ∃ v', e = .returned v' ∧ Own w' w.heap.size v' L ∧ Below w.heap.size w w') := by
  have hT := Text_any none [] 0 s w Byt.nil (by simp; omega)
  rw [List.nil_append] at hT
  have hl : s.data.toList.length = s.size := Array.length_toList
  have h9 := enc_le s.size
  have hp := enc_pos s.size
  refine ⟨enc s.size ++ s.data.toList, by rw [List.length_append]; omega, by rw [List.length_append]; omega, fun j hj => ?_, hT⟩
  rw [← hl] at hj ⊢
  exact rtext_cut _ j hj (by omega)

theorem mod_at (a : Int) (n : Nat) (h0 : 0 < n) : ∃ q : Nat, a % (n : Int) = (q : Int) ∧ q < n := by
  have h1 := Int.emod_nonneg a (show (n : Int) ≠ 0 by omega)
  have h2 := Int.emod_lt_of_pos a (show (0 : Int) < (n : Int) by omega)
  exact ⟨(a % (n : Int)).toNat, by omega, by omega⟩

set_option maxHeartbeats 2000000 in
theorem walk (a0 : Int) (a1 : ByteArray) (a2 : Int) (w2 : (Lit.int .u64 a2).wf = true) (w : World) :
    Calls Try.prog 9 #[.int .i64 a0, .string a1, .int .u64 a2] w fun e w' => e = .returned (.bool true) ∧ Below w.heap.size w w' := by
  by_cases hs : 300 < a1.size
  · go_enter Try.func9, Try.ntmps9
    go_wp2_with fail
    refine (awake_any w).mono ?_
    rintro r w1 ⟨rfl, hb1⟩
    go_wp2_with fail
    refine (awake_any w1).mono ?_
    rintro r w2 ⟨rfl, hb2⟩
    go_wp2
    go_ret
    exact ⟨rfl, hb1.trans (hb2.mono hb1.size)⟩
  · have hs3 : a1.size ≤ 300 := by omega
    have hby := bounds_u64 w2
    have hby0 := hby.1
    have hby1 := hby.2
    clear hs hby w2
    go_enter Try.func9, Try.ntmps9
    go_wp2_with fail
    refine (awake_any w).mono ?_
    rintro r w1 ⟨rfl, hb1⟩
    obtain ⟨L, hLp, hL9, HLc, HN⟩ := num_law a0 w1
    go_wp2_with fail
    refine HN.out.mono ?_
    rintro r w2 ⟨v, rfl, hown, hb2⟩
    obtain ⟨A, c, rfl, hlc, hcm, hbyt⟩ := hown.form
    have hb12 := hb1.trans (hb2.mono hb1.size)
    clear HN hown
    obtain ⟨T, hTp, hT9, HTc, HT⟩ := text_law a1 w2 hs3
    go_wp2_with fail
    refine HT.out.mono ?_
    rintro r w3 ⟨v, rfl, hown, hb3⟩
    obtain ⟨A', c', rfl, hlc', hcm', hbyt'⟩ := hown.form
    have hb13 := hb12.trans (hb3.mono hb12.size)
    have hbyt3 := (hbyt.below hb3).more hb3.size
    clear HT hown hbyt hb1 hb2 hb12
    obtain ⟨q, hq, hql⟩ := mod_at a2 L.length hLp
    have hcm2 : c ≤ 9223372036854775807 := hcm
    have hcm2' : c' ≤ 9223372036854775807 := hcm'
    go_wp2_with fail
    refine (Read_at A (L.take (L.length - 1 - q)) (L.length - 1 - q) c w3 (by rw [List.length_take]; omega) (hbyt3.take _) (by omega) hcm).mono ?_
    rintro r w4 ⟨rfl, hr4, hb4⟩
    have hlt4 := hr4.lt
    have hN := Number_rd _ _ _ w4 hr4
    rw [HLc.out (L.length - 1 - q) (by omega)] at hN
    have HN := hide hN
    clear hN hr4 HLc hbyt3 hq
    go_wp2_with fail
    refine HN.out.mono ?_
    rintro r w5 ⟨rfl, hr5, hg5⟩
    have hb5 := below_of_only hg5 (Nat.le_refl _) hlt4
    have hb35 := hb4.trans hb5
    have hb15 := hb13.trans (hb35.mono hb13.size)
    have hbyt5 := (hbyt'.below hb35).more hb35.size
    have hlt5 := hr5.lt
    clear HN hg5 hb4 hb5 hbyt' hb13 hb3
    obtain ⟨q', hq', hql'⟩ := mod_at a2 T.length hTp
    go_wp2_with fail
    refine (Read_at A' (T.take (T.length - 1 - q')) (T.length - 1 - q') c' w5 (by rw [List.length_take]; omega) (hbyt5.take _) (by omega) hcm').mono ?_
    rintro r w6 ⟨rfl, hr6, hb6⟩
    have hr56 := hr5.below hb6 hlt5
    have hlt6 := hr6.lt
    have hT := Text_rd _ 300 _ _ w6 hr6
    rw [HTc.out (T.length - 1 - q') (by omega)] at hT
    have HT := hide hT
    clear hT hr6 hr5 HTc hbyt5 hq'
    go_wp2_with fail
    refine HT.out.mono ?_
    rintro r w7 ⟨rfl, hr7, hg7⟩
    have hb7 := below_of_only hg7 (Nat.le_refl _) hlt6
    have hr57 := hr56.below hb7 hlt5
    have Hb := hide ((hb15.trans (hb6.mono hb15.size)).trans (hb7.mono hb15.size))
    clear HT hg7 hb6 hb7 hb15 hr56 hb35
    go_wp2_with fail
    refine (Err_any _ 2 [] w7 hr57).mono ?_
    rintro r w' ⟨rfl, rfl⟩
    go_wp2_with fail
    refine (Err_any _ 2 [] w7 hr7).mono ?_
    rintro r w' ⟨rfl, rfl⟩
    go_wp2
    go_ret
    exact ⟨rfl, Hb.out⟩

theorem own : ownKnob Try.prog.godebug = none := by kernel_rfl

set_option maxRecDepth 100000 in
theorem lifted (os : Os) (started : os.Started) (H : Type) (enc : TypeId × Value → H) :
    ReturnsInHanded {} Try.checked os 9 .any (Rows.packCutSpec.pre6 enc Try.prog Try.f9 Rows.packCutRow.domain false) (Rows.packCutSpec.post enc Try.prog Try.f9 false true false false) := by
  refine returnsInHanded_of_change (C := Try.checked) own started (by kernel_rfl) Try.func9
    (ChangeSpec.witness6 (enc := enc) (C := Try.checked) false ⟨#[], #[.int .i64 0, .string ByteArray.empty, .int .u64 0], []⟩ 8 (by kernel_rfl) (by kernel_rfl) (by kernel_rfl) (by kernel_rfl)) ?_
  intro W base args ds gs before hval0 hW hcnd _
  have hval : ∀ (j : Nat) t v, Try.f9.params[j]? = some t → args[j]? = some v → Value.okWide Try.prog W .any base t v := hval0
  have hW' := hW
  obtain ⟨p, q, hA0, hV, rfl, hfz, hnd⟩ := hW
  have hA : DataW.TrodAll enc Try.prog W 0 (fun _ => true) true Try.f9.params.toList args.toList ds p := hA0
  rw [Try.params9] at hA hval
  obtain ⟨v0, vs0, d0, ds0, p0, q0, hargs, rfl, rfl, h0, r0⟩ := trodAll_cons hA
  obtain ⟨v1, vs1, d1, ds1, p1, q1, rfl, rfl, rfl, h1, r1⟩ := trodAll_cons r0
  obtain ⟨v2, vs2, d2, ds2, p2, q2, rfl, rfl, rfl, h2, r2⟩ := trodAll_cons r1
  obtain ⟨rfl, rfl, rfl⟩ := trodAll_nil r2
  obtain rfl : args = #[v0, v1, v2] := by cases args; simp_all
  obtain ⟨rfl, rfl⟩ := trodVars_none hV
  obtain ⟨a0, rfl, rfl, rfl, w0⟩ := open_int Try.underlying3 (hval 0 3 v0 rfl rfl) h0
  obtain ⟨a1, rfl, rfl, rfl, w1⟩ := open_string Try.underlying9 (hval 1 9 v1 rfl rfl) h1
  obtain ⟨a2, rfl, rfl, rfl, w2⟩ := open_int Try.underlying48 (hval 2 48 v2 rfl rfl) h2
  clear hA0 hval0
  refine (walk a0 a1 a2 w2 W).mono fun e W' ⟨he, bel⟩ => ?_
  subst he
  exact ⟨_, rfl, _, _, _, [], _, [], hW', trodAll_mk1 (shut_bool Try.underlying4 _), (trodAll_cons_mk (shut_int Try.underlying3 w0) (trodAll_cons_mk (shut_string Try.underlying9 w1) (trodAll_cons_mk (shut_int Try.underlying48 w2) trodAll_mk0))), rfl, bel.frame _, fun h => by cases h⟩

theorem proved : Rows.PackCutSaid :=
  OpenClaim.holds_of_wide 9 Try.f9 rfl rfl rfl rfl rfl rfl rfl ⟨rfl, rfl, rfl, rfl, rfl⟩ rfl rfl rfl rfl rfl (by kernel_rfl) Try.func9 (by kernel_rfl)
    (of_decide_eq_true (by kernel_rfl)) (by unfold Func.isWrapper; first | (rw [if_pos (by decide +kernel)]; kernel_rfl) | (rw [if_neg (by decide +kernel)]; exact ⟨rfl, rfl⟩))
    (fun os started H enc _ => lifted os started H enc)
#print axioms proved
end Go.Proofs.Ytpajpapimdnjjaa.packCut
