/-
  The walk of isobarlaw12.StageFast: it returns true, at every two scripts and every crash; nothing that was there is changed.
-/
import Derived.Test.YteneacmdfehfnaaSgWalk
namespace Go.Proofs.Yteneacmdfehfnaa.Sg
open Go.RowKit
open Pk Dk Wn Lk Rc

theorem mark_val (t : Nat) (m : Int) : (⟨(t : Int) + 1, 2, 0, ⟨#[]⟩, m⟩ : Rd).val = .agg #[.int .i64 ((t : Int) + 1), .int .i64 2, .int .i64 0, .string ⟨#[]⟩, .int .i64 m] := rfl
set_option maxRecDepth 100000 in
set_option maxHeartbeats 8000000 in
theorem Fast_any (A : Option Addr) (n c : Nat) (l : List Oq) (A2 : Option Addr) (n2 c2 : Nat) (l2 : List Oq) (keep : Int) (w : World) (hl : l.length = n) (hf : Fits l) (hs : Src w A (ocels l)) (hl2 : l2.length = n2) (hf2 : Fits l2) (hs2 : Src w A2 (ocels l2)) :
    Calls Try.prog 3 #[.slice A n c, .slice A2 n2 c2, .int .i64 keep] w fun e w' => e = .returned (.bool true) ∧ Below w.heap.size w w' := by
  have Hl := hide hl
  have Hf := hide hf
  have Hs := hide hs
  have Hl2 := hide hl2
  have Hf2 := hide hf2
  have Hs2 := hide hs2
  clear hl hf hs hl2 hf2 hs2
  go_enter Try.func3, Try.ntmps3
  go_wp2_with fail
  refine (awake_any w).mono ?_
  rintro e w1 ⟨rfl, hb1⟩
  have HB1 := hide hb1
  clear hb1
  go_wp2_with fail
  refine (few_any A n c l w1 Hl.out (Hs.out.below HB1.out) Hf.out).mono ?_
  rintro e w1' ⟨⟨B1, rfl, hB1⟩, hw1⟩
  subst hw1
  have HF := hide hB1
  clear hB1
  cases B1 with
  | false =>
    go_wp2_with fail
    refine (awake_any w1).mono ?_
    rintro e w2 ⟨rfl, hb2⟩
    have HB := hide (HB1.out.trans (hb2.mono HB1.out.size))
    clear hb2
    go_wp2
    go_ret
    exact ⟨rfl, HB.out⟩
  | true =>
    go_wp2_with fail
    refine (few_any A2 n2 c2 l2 w1 Hl2.out (Hs2.out.below HB1.out) Hf2.out).mono ?_
    rintro e w1' ⟨⟨B2, rfl, hB2⟩, hw1⟩
    subst hw1
    have HF2 := hide hB2
    clear hB2
    cases B2 with
    | false =>
      go_wp2_with fail
      refine (awake_any w1).mono ?_
      rintro e w2 ⟨rfl, hb2⟩
      have HB := hide (HB1.out.trans (hb2.mono HB1.out.size))
      clear hb2
      go_wp2
      go_ret
      exact ⟨rfl, HB.out⟩
    | true =>
      have Hn := hide (show n ≤ 200 by have := (HF.out.yes).1; have := Hl.out; omega)
      have Hn2 := hide (show n2 ≤ 200 by have := (HF2.out.yes).1; have := Hl2.out; omega)
      have Hs' := hide (Hs.out.below HB1.out)
      have Hs2' := hide (Hs2.out.below HB1.out)
      clear HF HF2 Hs Hs2
      go_wp2_with fail
      refine (S_new (St.start w1) 1).mono ?_
      rintro e w2 ⟨rfl, hst⟩
      have HS := hide (show St w1 [stgT w1.heap.size [] 0 0 0] w2 from hst)
      generalize w1.heap.size = p at *
      clear hst
      go_wp2_with fail
      refine (S_put HS.out (i := 0) rfl A n c l Hl.out Hn.out (by simp) (by omega) Hs'.out Hf.out).mono ?_
      rintro e w3 ⟨rfl, M, hM, hst⟩
      have HS3 := hide (show St w1 [stgT p M 0 0 0] w3 from hst)
      have HM := hide hM
      clear hst HS hM
      go_wp2_with fail
      refine (S_flush HS3.out (i := 0) rfl).mono ?_
      rintro e w4 ⟨rfl, hst⟩
      have HS4 := hide (show St w1 [stgT p M M.length 0 0] w4 from hst)
      clear hst HS3
      obtain ⟨k, hk⟩ : ∃ k, M.length = k := ⟨_, rfl⟩
      have Hk := hide hk
      rw [hk] at HS4
      have hkn : k ≤ 200 := by have := HM.out; have := Hn.out; omega
      clear hk
      go_wp2_with fail
      refine (S_last HS4.out (i := 0) rfl (t := k) (u := k) (by have := Hk.out; omega) (by omega)).mono ?_
      rintro e w5 ⟨rfl, hst⟩
      have HS5 := hide hst
      clear hst HS4
      go_wp2_with fail
      refine (S_put HS5.out (i := 0) rfl A2 n2 c2 l2 Hl2.out Hn2.out (by have := Hk.out; omega) (by omega) Hs2'.out Hf2.out).mono ?_
      rintro e w6 ⟨rfl, M2, hM2, hst⟩
      have HS6 := hide (show St w1 [stgT p (M ++ M2) k 0 0] w6 from hst)
      clear hst HS5
      obtain ⟨t, ht⟩ : ∃ t, (M ++ M2).length = t := ⟨_, rfl⟩
      have Ht := hide ht
      have htk : k ≤ t := by rw [← ht, List.length_append]; have := Hk.out; omega
      have htn : t ≤ 400 := by rw [← ht, List.length_append]; have := Hk.out; have := Hn2.out; omega
      clear ht hM2
      go_wp2_with fail
      refine (S_last HS6.out (i := 0) rfl (t := t) (u := k) (by have := Ht.out; omega) (by omega)).mono ?_
      rintro e w7 ⟨rfl, hst⟩
      have HS7 := hide hst
      clear hst HS6
      obtain ⟨q, hq⟩ : ∃ q, left keep k (M ++ M2).length = q := ⟨_, rfl⟩
      have Hq := hide hq
      have hqt : q ≤ t := by rw [← hq, Ht.out]; exact left_le keep htk
      have e1 : (t : Int) - (k : Int) = ((t - k : Nat) : Int) := by omega
      have e2 : IntKind.i64.wrap ((t - k : Nat) : Int) = ((t - k : Nat) : Int) := wrap_id (by omega) (by omega)
      obtain ⟨d, hd⟩ : ∃ d, t - k = d := ⟨_, rfl⟩
      rw [hd] at e1 e2
      obtain ⟨z, hz⟩ : ∃ z, max 0 (min keep (d : Int)) = z := ⟨_, rfl⟩
      have e3 : (k : Int) + z = (q : Int) := by rw [← hq, Ht.out, ← hz]; unfold left; rw [hd]; omega
      have e4 : IntKind.i64.wrap (q : Int) = (q : Int) := wrap_id (by omega) (by omega)
      have Hhz := hide hz
      have hL : ((M ++ M2).take q).length = q := by rw [List.length_take, Ht.out]; omega
      have HL := hide hL
      have Hqt := hide hqt
      have Htn := hide htn
      have Htk := hide htk
      clear hq hqt htk htn hd hL hz hkn
      go_wp2_with fail
      refine (S_crash HS7.out (i := 0) rfl keep Hq.out).mono ?_
      rintro e w8 ⟨rfl, hst⟩
      have HS8 := hide (show St w1 [stgT p ((M ++ M2).take q) q 0 0] w8 from hst)
      clear hst HS7
      go_wp2_with fail
      refine (S_last HS8.out (i := 0) rfl (t := q) (u := q) (by have := HL.out; omega) (by omega)).mono ?_
      rintro e w9 ⟨rfl, hst⟩
      have HS9 := hide hst
      have hz := Hhz.out
      clear hst HS8
      have e5 : IntKind.i64.wrap ((q : Int) - (0 : Int)) = (q : Int) := by rw [Int.sub_zero]; exact e4
      go_wp2_with fail
      refine (S_cut HS9.out (i := 0) rfl).mono ?_
      rintro e w10 ⟨rfl, hst⟩
      have HS10 := hide (show St w1 [stgT p [] 0 0 0] w10 from hst)
      rw [HL.out]
      clear hst HS9 hz e1 e2 e3
      go_wp2_with fail
      refine (S_last HS10.out (i := 0) rfl (t := 0) (u := 0) rfl rfl).mono ?_
      rintro e w11 ⟨rfl, hst⟩
      have HS11 := hide hst
      have hq4 : (q : Int) ≤ 400 := by have := Hqt.out; have := Htn.out; omega
      clear hst HS10
      go_wp2_with fail
      refine (S_take HS11.out (i := 0) rfl ⟨1, 2, 0, ⟨#[]⟩, 1⟩ (by decide) (t := 0) rfl (fits_mark (t := 0) (by decide) (by decide) (by decide)) (by decide)).mono ?_
      rintro e w12 ⟨rfl, hst⟩
      have HB := hide (HB1.out.trans (hst.bel.mono HB1.out.size))
      clear hst HS11
      go_wp2
      go_ret
      exact ⟨rfl, HB.out⟩

end Go.Proofs.Yteneacmdfehfnaa.Sg
