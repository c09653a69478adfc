/-
  Proved: for every n, s and m the call PackJoins(n, s, m) returns true and changes no argument: what is laid behind what is laid is read behind it, and Left tells how much is left. No condition beyond the row's own.
-/
import Derived.Test.YtpajpapimdnjjaaRows
import Derived.WalkKit
import Derived.ProofKit
import Derived.OpenShut
import Derived.ShutString
import Derived.ChangeOld
import Derived.Below
import Derived.Test.YtpajpapimdnjjaaPkLaw
namespace Go.Proofs.Ytpajpapimdnjjaa.packJoins
open Go.ChangeShapes Go.WideShapes Go.ChangeAt Go.RowKit
open Go.ChangeMaps (open_string shut_string)
open Pk

/-- The three, read one behind the other. -/
theorem reads (n m : Int) (s : ByteArray) (L T M : List UInt8) (hL : L = enc (clamp n)) (hT : T = enc s.size ++ s.data.toList) (hM : M = enc (clamp m)) (hs : s.size ≤ 300) :
    rnum ((([] ++ L) ++ T) ++ M) 0 = (clamp n, T ++ M, 0) ∧ rtext (T ++ M) 0 300 = (s.data.toList, M, 0) ∧ rnum M 0 = (clamp m, [], 0) := by
  have hl : s.data.toList.length = s.size := Array.length_toList
  subst hL hM
  refine ⟨?_, ?_, ?_⟩
  · rw [List.nil_append, List.append_assoc]
    exact rnum_enc _ _ (clamp_lt n)
  · rw [hT, ← hl]
    exact rtext_enc _ _ _ (by omega) (by omega)
  · have := rnum_enc (clamp m) [] (clamp_lt m)
    rwa [List.append_nil] at this

set_option maxHeartbeats 4000000 in
theorem walk (a0 : Int) (a1 : ByteArray) (a2 : Int) (w : World) :
    Calls Try.prog 8 #[.int .i64 a0, .string a1, .int .i64 a2] w fun e w' => e = .returned (.bool true) ∧ Below w.heap.size w w' := by
  by_cases hs : 300 < a1.size
  · go_enter Try.func8, Try.ntmps8
    go_wp2_with fail
    refine (awake_any w).mono ?_
    rintro r w1 ⟨rfl, hb1⟩
    go_wp2_with fail
    refine (awake_any w1).mono ?_
    rintro r w2 ⟨rfl, hb2⟩
    go_wp2
    go_ret
    exact ⟨rfl, hb1.trans (hb2.mono hb1.size)⟩
  · have hs3 : a1.size ≤ 300 := by omega
    clear hs
    go_enter Try.func8, Try.ntmps8
    go_wp2_with fail
    refine (awake_any w).mono ?_
    rintro r w1 ⟨rfl, hb1⟩
    obtain ⟨L, HL, hLp, hL9, HN1⟩ := num_told a0 w1
    go_wp2_with fail
    refine HN1.out.mono ?_
    rintro r w2 ⟨bL, oL, cL, rfl, hlL, hcL, hbL, hb2⟩
    have hb12 := hb1.trans (hb2.mono hb1.size)
    clear HN1 hb1 hb2
    obtain ⟨T, HT, hTp, hT9, HN2⟩ := text_told a1 w2 (by omega)
    go_wp2_with fail
    refine HN2.out.mono ?_
    rintro r w3 ⟨bT, oT, cT, rfl, hlT, hcT, hbT, hb3⟩
    have hb13 := hb12.trans (hb3.mono hb12.size)
    have hbL3 := (hbL.below hb3).more hb3.size
    clear HN2 hb12 hb3 hbL
    obtain ⟨M, HM, hMp, hM9, HN3⟩ := num_told a2 w3
    go_wp2_with fail
    refine HN3.out.mono ?_
    rintro r w4 ⟨bM, oM, cM, rfl, hlM, hcM, hbM, hb4⟩
    have hb14 := hb13.trans (hb4.mono hb13.size)
    have hbL4 := (hbL3.below hb4).more hb4.size
    have hbT4 := (hbT.below hb4).more hb4.size
    clear HN3 hb13 hb4 hbL3 hbT
    have hbe : Below w4.heap.size w4 (w4.alloc (.cells #[] 5)) := (Below.refl _ _).alloc (Nat.le_refl _) _
    have hbL5 := hbL4.below hbe
    have hbT5 := hbT4.below hbe
    have hbM5 := hbM.below hbe
    have hb15 := hb14.trans (hbe.mono hb14.size)
    have hsz4 : w.heap.size ≤ w4.heap.size := hb14.size
    clear hbL4 hbT4 hbM hb14
    have H := hide (reads a0 a2 a1 L T M HL.out HT.out HM.out hs3)
    clear HL HT HM
    go_wp2_with (at_builtin; refine wpList_join _ rfl (.tmp 30) (.tmp 31) rfl w4.heap.size _ [] rfl (own_empty w4) bL oL L.length cL w4.heap.size rfl L rfl hbL5 ?c1 ?c2 ?_)
    case c1 => simp; omega
    case c2 => simp
    intro v1 w5 hown1 hg1
    have hbg1 := own_below (own_empty w4) hg1 (by simp)
    have hbT6 := hbT5.below hbg1
    have hbM6 := hbM5.below hbg1
    have hb16 := hb15.trans (hbg1.mono hsz4)
    have hsz5 : w4.heap.size + 1 ≤ w5.heap.size := by have := hbg1.size; simpa using this
    clear hg1 hbL5 hbT5 hbM5 hb15
    go_wp2_with (at_builtin; refine wpList_join _ rfl (.tmp 32) (.tmp 33) rfl w4.heap.size _ _ rfl hown1 bT oT T.length cT w4.heap.size rfl T rfl hbT6 ?d1 ?d2 ?_)
    case d1 => omega
    case d2 => omega
    intro v2 w6 hown2 hg2
    have hbg2 := own_below hown1 hg2 (by omega)
    have hbM7 := hbM6.below hbg2
    have hb17 := hb16.trans (hbg2.mono hsz4)
    have hsz6 : w4.heap.size + 1 ≤ w6.heap.size := by have := hbg2.size; omega
    clear hg2 hbT6 hbM6 hb16 hown1
    go_wp2_with (at_builtin; refine wpList_join _ rfl (.tmp 34) (.tmp 35) rfl w4.heap.size _ _ rfl hown2 bM oM M.length cM w4.heap.size rfl M rfl hbM7 ?e1 ?e2 ?_)
    case e1 => (try simp only [List.length_append]); omega
    case e2 => omega
    intro v3 w7 hown3 hg3
    have hbg3 := own_below hown2 hg3 (by omega)
    have hb18 := hb17.trans (hbg3.mono hsz4)
    have hsz7 : w.heap.size ≤ w7.heap.size := hb18.size
    have hown3' : Own w7 w4.heap.size v3 ((([] ++ L) ++ T) ++ M) := by simpa using hown3
    obtain ⟨hr1, hr2, hr3⟩ := H.out
    generalize hJ : (([] ++ L) ++ T) ++ M = J at *
    obtain ⟨A, c, rfl, hlc, hcm, hbyt⟩ := hown3'.form
    have HJ := hide hJ
    have H1 := hide hr1
    have H2 := hide hr2
    have H3 := hide hr3
    clear hg3 hbM7 hb17 hown2 hown3 hown3' hbg1 hbg2 hbg3 H hJ hr1 hr2 hr3
    go_wp2_with fail
    refine (Read_at A J J.length c w7 rfl hbyt hlc hcm).mono ?_
    rintro r w8 ⟨rfl, hr8, hb8⟩
    have hlt8 := hr8.lt
    have hb19 := hb18.trans (hb8.mono hb18.size)
    have hN := Number_rd _ _ _ w8 hr8
    rw [H1.out] at hN
    have HN := hide hN
    clear hN hr8 hbyt H1 hb18 hb8
    go_wp2_with fail
    refine HN.out.mono ?_
    rintro r w9 ⟨rfl, hr9, hg9⟩
    have hb20 := hb19.trans ((below_of_only hg9 (Nat.le_refl _) hlt8).mono hsz7)
    have hlt9 := hr9.lt
    have hl9 := hide (Left_any _ _ _ w9 hr9)
    have hT := Text_rd _ 300 _ _ w9 hr9
    rw [H2.out] at hT
    have HT := hide hT
    have hJlen : (T ++ M).length = T.length + M.length := List.length_append ..
    have HJl := hide hJlen
    clear hT HN hg9 hb19 H2 hJlen
    go_wp2_with fail
    refine hl9.out.mono ?_
    rintro r w' ⟨rfl, rfl⟩
    rw [HJl.out]
    go_wp2_with fail
    refine HT.out.mono ?_
    rintro r w10 ⟨rfl, hr10, hg10⟩
    have hb21 := hb20.trans ((below_of_only hg10 (Nat.le_refl _) hlt9).mono hsz7)
    have hlt10 := hr10.lt
    have hl10 := hide (Left_any _ _ _ w10 hr10)
    have hN := Number_rd _ _ _ w10 hr10
    rw [H3.out] at hN
    have HN := hide hN
    clear hN HT hg10 hb20 H3 hr9
    go_wp2_with fail
    refine hl10.out.mono ?_
    rintro r w' ⟨rfl, rfl⟩
    go_wp2_with fail
    refine HN.out.mono ?_
    rintro r w11 ⟨rfl, hr11, hg11⟩
    have Hb := hide (hb21.trans ((below_of_only hg11 (Nat.le_refl _) hlt10).mono hsz7))
    have e0 := clamp_eq a0
    have e2 := clamp_eq a2
    have es : (⟨a1.data.toList.toArray⟩ : ByteArray) = a1 := rfl
    clear HN hg11 hb21 hr10
    go_wp2_with fail
    refine (Left_any _ _ _ w11 hr11).mono ?_
    rintro r w' ⟨rfl, rfl⟩
    go_wp2_with fail
    refine (Err_any _ _ _ w11 hr11).mono ?_
    rintro r w' ⟨rfl, rfl⟩
    go_wp2
    go_ret
    exact ⟨rfl, Hb.out⟩

theorem own : ownKnob Try.prog.godebug = none := by kernel_rfl

set_option maxRecDepth 100000 in
theorem lifted (os : Os) (started : os.Started) (H : Type) (enc : TypeId × Value → H) :
    ReturnsInHanded {} Try.checked os 8 .any (Rows.packJoinsSpec.pre6 enc Try.prog Try.f8 Rows.packJoinsRow.domain false) (Rows.packJoinsSpec.post enc Try.prog Try.f8 false true false false) := by
  refine returnsInHanded_of_change (C := Try.checked) own started (by kernel_rfl) Try.func8
    (ChangeSpec.witness6 (enc := enc) (C := Try.checked) false ⟨#[], #[.int .i64 0, .string ByteArray.empty, .int .i64 0], []⟩ 8 (by kernel_rfl) (by kernel_rfl) (by kernel_rfl) (by kernel_rfl)) ?_
  intro W base args ds gs before hval0 hW hcnd _
  have hval : ∀ (j : Nat) t v, Try.f8.params[j]? = some t → args[j]? = some v → Value.okWide Try.prog W .any base t v := hval0
  have hW' := hW
  obtain ⟨p, q, hA0, hV, rfl, hfz, hnd⟩ := hW
  have hA : DataW.TrodAll enc Try.prog W 0 (fun _ => true) true Try.f8.params.toList args.toList ds p := hA0
  rw [Try.params8] at hA hval
  obtain ⟨v0, vs0, d0, ds0, p0, q0, hargs, rfl, rfl, h0, r0⟩ := trodAll_cons hA
  obtain ⟨v1, vs1, d1, ds1, p1, q1, rfl, rfl, rfl, h1, r1⟩ := trodAll_cons r0
  obtain ⟨v2, vs2, d2, ds2, p2, q2, rfl, rfl, rfl, h2, r2⟩ := trodAll_cons r1
  obtain ⟨rfl, rfl, rfl⟩ := trodAll_nil r2
  obtain rfl : args = #[v0, v1, v2] := by cases args; simp_all
  obtain ⟨rfl, rfl⟩ := trodVars_none hV
  obtain ⟨a0, rfl, rfl, rfl, w0⟩ := open_int Try.underlying3 (hval 0 3 v0 rfl rfl) h0
  obtain ⟨a1, rfl, rfl, rfl, w1⟩ := open_string Try.underlying9 (hval 1 9 v1 rfl rfl) h1
  obtain ⟨a2, rfl, rfl, rfl, w2⟩ := open_int Try.underlying3 (hval 2 3 v2 rfl rfl) h2
  clear hA0 hval0
  refine (walk a0 a1 a2 W).mono fun e W' ⟨he, bel⟩ => ?_
  subst he
  exact ⟨_, rfl, _, _, _, [], _, [], hW', trodAll_mk1 (shut_bool Try.underlying4 _), (trodAll_cons_mk (shut_int Try.underlying3 w0) (trodAll_cons_mk (shut_string Try.underlying9 w1) (trodAll_cons_mk (shut_int Try.underlying3 w2) trodAll_mk0))), rfl, bel.frame _, fun h => by cases h⟩

theorem proved : Rows.PackJoinsSaid :=
  OpenClaim.holds_of_wide 8 Try.f8 rfl rfl rfl rfl rfl rfl rfl ⟨rfl, rfl, rfl, rfl, rfl⟩ rfl rfl rfl rfl rfl (by kernel_rfl) Try.func8 (by kernel_rfl)
    (of_decide_eq_true (by kernel_rfl)) (by unfold Func.isWrapper; first | (rw [if_pos (by decide +kernel)]; kernel_rfl) | (rw [if_neg (by decide +kernel)]; exact ⟨rfl, rfl⟩))
    (fun os started H enc _ => lifted os started H enc)
#print axioms proved
end Go.Proofs.Ytpajpapimdnjjaa.packJoins
