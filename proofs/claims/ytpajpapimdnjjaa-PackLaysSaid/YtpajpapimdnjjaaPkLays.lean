/-
  Proved: for every slice of bytes, every n and every text s the call PackLays(b, n, s) returns true and changes no argument: Number and Text lay behind b what the reference says. No condition beyond the row's own.
-/
import Derived.Deep.RegionHeld3
import Derived.SizedLaws
import Derived.Test.YtpajpapimdnjjaaPkRefLay
namespace Go.Proofs.Ytpajpapimdnjjaa.packLays
open Go.ChangeShapes Go.WideShapes Go.ChangeAt Go.RowKit
open Go.ChangeMaps (open_string shut_string)
open Pk

theorem run_str_at (w : World) (B : Nat) (A : Option Addr) (l : List UInt8) (n c : Nat) (hn : l.length = n) (hb : Byt w B A l) :
    (convert 22 9 (.slice A n c)).run Try.prog w = .ok (.string (str l)) w := by
  subst hn
  exact run_str w B A l c hb

theorem form_n {w : World} {base : Nat} {v : Value} {l : List UInt8} (h : Own w base v l) : ∃ A n c, v = .slice A n c ∧ l.length = n ∧ Byt w w.heap.size A l := by
  obtain ⟨A, c, e, _, _, hb⟩ := h.form
  exact ⟨A, _, c, e, rfl, hb⟩

set_option maxHeartbeats 2000000 in
set_option maxRecDepth 100000 in
theorem walk (a0 : Option Addr) (l : List UInt8) (len cap0 : Nat) (a1 : Int) (a2 : ByteArray) (w : World) (Hlen : Hid (l.length = len)) (hc : len ≤ cap0) (hm : cap0 ≤ maxLen) (hb : Byt w w.heap.size a0 l) (hs : a2.size ≤ 140737488355328) (hlr : len ≤ 140737488355328) :
    Calls Try.prog 3 #[.slice a0 len cap0, .int .i64 a1, .string a2] w fun e w' => e = .returned (.bool true) ∧ Below w.heap.size w w' := by
  by_cases hg1 : 2000 < len + a2.size
  · go_enter Try.func3, Try.ntmps3
    go_wp2_with fail
    refine (awake_any w).mono ?_
    rintro r w1 ⟨rfl, hb1⟩
    go_wp2_with fail
    refine (awake_any w1).mono ?_
    rintro r w2 ⟨rfl, hb2⟩
    go_wp2
    go_ret
    exact ⟨rfl, hb1.trans (hb2.mono hb1.size)⟩
  have hcm : cap0 ≤ 9223372036854775807 := hm
  go_enter Try.func3, Try.ntmps3
  go_wp2_with fail
  refine (awake_any w).mono ?_
  rintro r w1 ⟨rfl, hb1⟩
  have hby1 := (hb.below hb1).more hb1.size
  have hcv1 := run_str_at w1 _ a0 l len cap0 Hlen.out hby1
  go_wp2_with fail
  refine (Number_at a0 l len len a1 w1 Hlen.out hby1 (by omega)).mono ?_
  rintro r w2 ⟨v, rfl, hown, hb2⟩
  obtain ⟨A, nA, c, rfl, hnA, hbyA⟩ := form_n hown
  have hb12 := hb1.trans (hb2.mono hb1.size)
  have hby2 := (hb.below hb12).more hb12.size
  have HnA := hide hnA
  clear hown hb1 hb2 hby1 hnA
  go_wp2_with fail
  refine (Text_at a0 l len len a2 w2 Hlen.out hby2 (by omega)).mono ?_
  rintro r w3 ⟨v, rfl, hown, hb3⟩
  obtain ⟨A', nT, c', rfl, hnT, hbyT⟩ := form_n hown
  have hb13 := hb12.trans (hb3.mono hb12.size)
  have hbyA3 := (hbyA.below hb3).more hb3.size
  have HnT := hide hnT
  clear hown hbyA hby2 hb12 hb3 hnT hcv1
  have hsz3 : w.heap.size ≤ w3.heap.size := hb13.size
  have hS : ∀ W, Below w3.heap.size w3 W →
      (convert 22 9 (.slice A nA c)).run Try.prog W = .ok (.string (str (l ++ enc (clamp a1)))) W ∧
      (convert 22 9 (.slice A' nT c')).run Try.prog W = .ok (.string (str (l ++ enc a2.size ++ a2.data.toList))) W ∧
      (convert 22 9 (.slice a0 len cap0)).run Try.prog W = .ok (.string (str l)) W := fun W h =>
    ⟨run_str_at W _ A _ nA c HnA.out (hbyA3.below h), run_str_at W _ A' _ nT c' HnT.out (hbyT.below h), run_str_at W _ a0 l len cap0 Hlen.out ((hb.below hb13).below (h.mono hsz3))⟩
  have h9 := enc_le (clamp a1)
  have h92 := enc_le a2.size
  have hd : a2.data.toList.length = a2.size := Array.length_toList
  have hsl : (str l).size ≤ 2000 := by rw [str_size, Hlen.out]; omega
  have hse : (str (enc (clamp a1))).size ≤ 9 := by rw [str_size]; exact h9
  have hst : (str (enc a2.size ++ a2.data.toList)).size ≤ 2009 := by
    rw [str_size, List.length_append]; omega
  have hap1 := str_append l (enc (clamp a1))
  have hap2 := str_append l (enc a2.size ++ a2.data.toList)
  rw [← List.append_assoc] at hap2
  have hN := fun W => RNum_any a1 W
  have hT := fun W => RTxt_any a2 W (by omega)
  generalize str (l ++ enc (clamp a1)) = SX at *
  generalize str (l ++ enc a2.size ++ a2.data.toList) = SY at *
  generalize str (enc (clamp a1)) = SE at *
  generalize str (enc a2.size ++ a2.data.toList) = ST at *
  generalize str l = SL at *
  have hadd1 : ∀ W : World, (Op.stringOp .add SL SE).run Try.prog W = .ok (.string SX) W := fun W => by
    rw [← hap1]
    exact run_string_add_sum (P := Try.prog) (w := W) SL SE (by omega)
  have hadd2 : ∀ W : World, (Op.stringOp .add SL ST).run Try.prog W = .ok (.string SY) W := fun W => by
    rw [← hap2]
    exact run_string_add_sum (P := Try.prog) (w := W) SL ST (by omega)
  have HS := hide hS
  have HN := hide hN
  have HT := hide hT
  clear hS hN hT hbyA3 hbyT hd h9 h92 hap1 hap2
  have hD := hide ((Below.refl w3.heap.size w3).drew)
  have hS0 := HS.out _ hD.out
  go_wp2_with fail
  go_region_held3 (fun W => (convert 22 9 (.slice A nA c)).run Try.prog W = .ok (.string SX) W ∧ (convert 22 9 (.slice A' nT c')).run Try.prog W = .ok (.string SY) W ∧ (convert 22 9 (.slice a0 len cap0)).run Try.prog W = .ok (.string SL) W) (first | exact hS0 | assumption)
    (first | (go_at_call 13; refine (HN.out _).mono ?_; rintro r w4 ⟨rfl, hb4⟩; have hb34 := hide (hD.out.trans hb4); have hS4 := HS.out _ hb34.out) | (go_at_call 14; refine (HT.out _).mono ?_; rintro r w5 ⟨rfl, hb5⟩; have hb35 := hide (hb34.out.trans (hb5.mono hb34.out.size)); have hS5 := HS.out _ hb35.out))
  all_goals
    go_wp2
    go_ret
    exact ⟨rfl, hb13.trans (hb35.out.mono hsz3)⟩

theorem own : ownKnob Try.prog.godebug = none := by kernel_rfl
theorem laidOut : laidOutB Try.prog = true := by kernel_rfl
theorem bytes_u8 : Try.prog.bytesOf 5 = 1 := by kernel_rfl

set_option maxRecDepth 100000 in
theorem lifted (os : Os) (started : os.Started) (H : Type) (enc : TypeId × Value → H) :
    ReturnsInHanded {} Try.checked os 3 .any (Rows.packLaysSpec.pre6 enc Try.prog Try.f3 Rows.packLaysRow.domain false) (Rows.packLaysSpec.post enc Try.prog Try.f3 false true false false) := by
  refine returnsInHanded_of_change_sized (C := Try.checked) own started (by kernel_rfl) Try.func3
    (ChangeSpec.witness6 (enc := enc) (C := Try.checked) false ⟨#[], #[.slice none 0 0, .int .i64 0, .string ByteArray.empty], []⟩ 8 (by kernel_rfl) (by kernel_rfl) (by kernel_rfl) (by kernel_rfl)) ?_
  intro W base args ds gs before hval0 hW _ hsz0 _
  have hsz : (DataW.weightsEach Try.prog (Try.f3.params.toList ++ Rows.packLaysSpec.plain.varTypes Try.prog) (ds ++ gs)).all (· ≤ reachBytes) = true := hsz0
  clear hsz0
  have hval : ∀ (j : Nat) t v, Try.f3.params[j]? = some t → args[j]? = some v → Value.okWide Try.prog W .any base t v := hval0
  have hW' := hW
  obtain ⟨p, q, hA0, hV, rfl, hfz, hnd⟩ := hW
  have hA : DataW.TrodAll enc Try.prog W 0 (fun _ => true) true Try.f3.params.toList args.toList ds p := hA0
  rw [Try.params3] at hA hval hsz
  obtain ⟨v0, vs0, d0, ds0, p0, q0, hargs, rfl, rfl, h0, r0⟩ := trodAll_cons hA
  obtain ⟨v1, vs1, d1, ds1, p1, q1, rfl, rfl, rfl, h1, r1⟩ := trodAll_cons r0
  obtain ⟨v2, vs2, d2, ds2, p2, q2, rfl, rfl, rfl, h2, r2⟩ := trodAll_cons r1
  obtain ⟨rfl, rfl, rfl⟩ := trodAll_nil r2
  obtain rfl : args = #[v0, v1, v2] := by cases args; simp_all
  obtain ⟨rfl, rfl⟩ := trodVars_none hV
  obtain ⟨a0, len0, cap0, rfl⟩ := okWide_slice Try.underlying22 (hval 0 22 v0 rfl rfl)
  have k0 := h0
  have lt0 : ∀ x ∈ p0, x.block < W.heap.size := by obtain ⟨m, hm⟩ := k0; exact DataW.trod_lt m _ _ _ hm
  obtain ⟨a1, rfl, rfl, rfl, w1⟩ := open_int Try.underlying3 (hval 1 3 v1 rfl rfl) h1
  obtain ⟨a2, rfl, rfl, rfl, w2⟩ := open_string Try.underlying9 (hval 2 9 v2 rfl rfl) h2
  have hs2 : a2.size ≤ 140737488355328 := by
    have h47 := sized_string hsz (j := 2) (t := 9) rfl rfl
    have hd : a2.data.toList.length = a2.size := Array.length_toList
    simp only [reachBytes] at h47
    omega
  have hl2 : len0 ≤ 140737488355328 := by
    obtain ⟨fuel, hf⟩ := k0
    rcases open_ints Try.underlying22 Try.underlying5 (by kernel_rfl) hf with ⟨hcs, _⟩ | ⟨x, l, c, zs, hcs, _, hl, hm, hz, hx, hcell, hwz⟩
    · simp [Value.cells] at hcs
      obtain ⟨rfl, rfl, rfl⟩ := hcs
      omega
    · simp [Value.cells] at hcs
      obtain ⟨rfl, rfl, rfl⟩ := hcs
      simp only [Prod.mk.injEq] at hx
      obtain ⟨rfl, _⟩ := hx
      have h47 := sized_slice hsz (j := 0) (t := 22) (e := 5) rfl rfl Try.underlying22
      rw [bytes_u8] at h47
      simp only [lits, List.length_map, List.length_take, List.length_drop, reachBytes] at h47
      simp only [if_true] at hz
      omega
  obtain ⟨l, hl0, hlc, hcm, hbyt⟩ := open_bytes h0
  clear hA0 hval0 hsz
  refine (walk a0 l len0 cap0 a1 a2 W hl0 hlc hcm hbyt hs2 hl2).mono fun e W' ⟨he, bel⟩ => ?_
  subst he
  exact ⟨_, rfl, _, _, _, [], _, [], hW', trodAll_mk1 (shut_bool Try.underlying4 _), (trodAll_cons_mk (Below.trod laidOut (by kernel_rfl) (of_decide_eq_true (by kernel_rfl)) k0 bel lt0) (trodAll_cons_mk (shut_int Try.underlying3 w1) (trodAll_cons_mk (shut_string Try.underlying9 w2) trodAll_mk0))), rfl, bel.frame _, fun h => by cases h⟩

theorem proved : Rows.PackLaysSaid :=
  OpenClaim.holds_of_wide 3 Try.f3 rfl rfl rfl rfl rfl rfl rfl ⟨rfl, rfl, rfl, rfl, rfl⟩ rfl rfl rfl rfl rfl (by kernel_rfl) Try.func3 (by kernel_rfl)
    (of_decide_eq_true (by kernel_rfl)) (by unfold Func.isWrapper; first | (rw [if_pos (by decide +kernel)]; kernel_rfl) | (rw [if_neg (by decide +kernel)]; exact ⟨rfl, rfl⟩))
    (fun os started H enc _ => lifted os started H enc)
#print axioms proved
end Go.Proofs.Ytpajpapimdnjjaa.packLays
