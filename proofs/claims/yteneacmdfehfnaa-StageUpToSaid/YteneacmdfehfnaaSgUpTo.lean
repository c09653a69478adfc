/-
  The walk of isobarlaw12.StageUpTo: it returns true, at every script and every marker; nothing that was there is changed.
-/
import Derived.Test.YteneacmdfehfnaaSgWalk
namespace Go.Proofs.Yteneacmdfehfnaa.Sg
open Go.RowKit
open Pk Dk Wn Lk Rc

/-- Whether it is among them. -/
def hasB (m : Int) (l : List Int) : Bool := decide (m ∈ l)
theorem hasB_nil (m : Int) : hasB m [] = false := by simp [hasB]
theorem hasB_snoc (m : Int) (l : List Int) (x : Int) : hasB m (l ++ [x]) = (hasB m l || (x == m)) := by
  rw [Bool.eq_iff_iff]
  simp only [hasB, decide_eq_true_eq, List.mem_append, List.mem_singleton, Bool.or_eq_true, beq_iff_eq]
  exact ⟨fun h => h.imp id Eq.symm, fun h => h.imp id Eq.symm⟩
theorem hasB_take {m : Int} {l : List Int} {k : Nat} {x : Int} (h : l[k]? = some x) : hasB m (l.take (k + 1)) = (hasB m (l.take k) || (x == m)) := by
  rw [List.take_add_one, h]
  exact hasB_snoc m _ x
theorem hasB_reach (m : Int) (L : List Rd) : hasB m (marks L) = decide (0 < reach m L) := by
  rw [Bool.eq_iff_iff]
  simp [hasB, mem_marks]
set_option maxRecDepth 100000 in
set_option maxHeartbeats 8000000 in
theorem UpTo_law (A : Option Addr) (n c : Nat) (l : List Oq) (mark : Int) (w : World) (hl : l.length = n) (hf : Fits l) (hs : Src w A (ocels l)) :
    Calls Try.prog 4 #[.slice A n c, .int .i64 mark] w fun e w' => e = .returned (.bool true) ∧ Below w.heap.size w w' := by
  have Hl := hide hl
  have Hf := hide hf
  have Hs := hide hs
  clear hl hf hs
  go_enter Try.func4, Try.ntmps4
  go_wp2_with fail
  refine (awake_any w).mono ?_
  rintro e w1 ⟨rfl, hb1⟩
  have HB1 := hide hb1
  clear hb1
  go_wp2_with fail
  refine (few_any A n c l w1 Hl.out (Hs.out.below HB1.out) Hf.out).mono ?_
  rintro e w1' ⟨⟨B1, rfl, hB1⟩, hw1⟩
  subst hw1
  have HF := hide hB1
  clear hB1
  cases B1 with
  | false =>
    go_wp2_with fail
    refine (awake_any w1).mono ?_
    rintro e w2 ⟨rfl, hb2⟩
    have HB := hide (HB1.out.trans (hb2.mono HB1.out.size))
    clear hb2
    go_wp2
    go_ret
    exact ⟨rfl, HB.out⟩
  | true =>
    have Hn := hide (show n ≤ 200 by have := (HF.out.yes).1; have := Hl.out; omega)
    have Hs' := hide (Hs.out.below HB1.out)
    clear HF Hs
    go_wp2_with fail
    refine (S_new (St.start w1) 1).mono ?_
    rintro e w2 ⟨rfl, hst⟩
    have HS := hide (show St w1 [stgT w1.heap.size [] 0 0 0] w2 from hst)
    generalize w1.heap.size = p at *
    clear hst
    go_wp2_with fail
    refine (S_put HS.out (i := 0) rfl A n c l Hl.out Hn.out (by simp) (by omega) Hs'.out Hf.out).mono ?_
    rintro e w3 ⟨rfl, M, hM, hst⟩
    have HS3 := hide (show St w1 [stgT p M 0 0 0] w3 from hst)
    obtain ⟨k, hk⟩ : ∃ k, M.length = k := ⟨_, rfl⟩
    have Hk := hide hk
    have hkn : k ≤ 200 := by have := Hn.out; omega
    have Hkn := hide hkn
    have HR := hide (S_facts hst (i := 0) (show _ = some (stgT p M 0 0 0) from rfl)).2.2.2
    clear hst HS hM hk hkn
    go_wp2_with fail
    refine (S_flush HS3.out (i := 0) rfl).mono ?_
    rintro e w4 ⟨rfl, hst⟩
    have HS4 := hide (show St w1 [stgT p M k 0 0] w4 by rw [← Hk.out]; exact hst)
    have HT := hide (show M.take k = M by rw [← Hk.out]; exact List.take_length)
    clear hst HS3
    obtain ⟨j, hj⟩ : ∃ j, reach mark M = j := ⟨_, rfl⟩
    have Hj := hide hj
    have hjk : j ≤ k := by rw [← hj, ← Hk.out]; exact reach_le mark M
    have HH : Hid (hasB mark (marks M) = decide (0 < j)) := by rw [← hj]; exact hasB_reach mark M
    have Hjk := hide hjk
    clear hj hjk
    by_cases h0 : j = 0
    · subst h0
      have HJ : Hid (reach mark (M.take k) = 0) := by rw [HT.out]; exact Hj.out
      go_wp2_with fail
      refine (S_upto_none HS4.out (i := 0) rfl mark HJ.out).mono ?_
      rintro e w5 ⟨rfl, hst⟩
      have HS5 := hide hst
      clear hst HS4
      go_wp2_with fail
      refine (S_marks HS5.out (i := 0) rfl).mono ?_
      rintro e w6 ⟨⟨v, rfl, hv⟩, hst⟩
      have HS6 := hide hst
      rw [HT.out] at hv
      have HV := hide hv
      clear hst HS5 hv
      obtain ⟨VA, vc, rfl, _, _, hsrc⟩ := HV.out.form
      have HVs := hide hsrc
      obtain ⟨q, hq⟩ : ∃ q, (marks M).length = q := ⟨_, rfl⟩
      have Hq := hide hq
      have hqi : (q : Int) ≤ 200 := by have := marks_len M; have := Hk.out; have := Hkn.out; omega
      rw [hq]
      clear HV hsrc hq
      go_wp2_with fail
      go_loop [9, 43] (fun b i => ∃ x : Nat, x ≤ q ∧ i = .int .i64 (x : Int) ∧ ∃ B, b = .bool B ∧ Hid (B = hasB mark ((marks M).take x))) (fun _ i => q - (intOf i).toNat)
      case atStart => exact ⟨0, Nat.zero_le _, rfl, false, rfl, (hasB_nil mark).symm⟩
      case round =>
        obtain ⟨x, hx, rfl, B, rfl, hB⟩ := hrel
        rcases Nat.lt_or_ge x q with hlt | hge
        · have Hlt := hide hlt
          have hxi : (x : Int) < (q : Int) := by omega
          obtain ⟨y, hy⟩ : ∃ y, (marks M)[x]? = some y := ⟨_, List.getElem?_eq_getElem (by rw [Hq.out]; exact hlt)⟩
          obtain ⟨g, o, rfl, _, c0⟩ := Src.num HVs.out hy
          have HN := hide (hasB_take (m := mark) hy)
          have hxq : x < q := hlt
          cases B with
          | true =>
            have HN2 : Hid (true = hasB mark ((marks M).take (x + 1))) := hide (by rw [HN.out, ← hB.out]; rfl)
            clear hB HN hy hlt hx
            go_wp2
            go_round
            case rel => exact ⟨x + 1, Hlt.out, by go_num, true, rfl, HN2.out⟩
            case measure => have := Hlt.out; simp [intOf]; omega
          | false =>
            by_cases hym : y = mark
            · subst hym
              have HN2 : Hid (true = hasB y ((marks M).take (x + 1))) := hide (by rw [HN.out, ← hB.out]; simp)
              clear hB HN hy hlt hx
              go_wp2
              go_round
              case rel => exact ⟨x + 1, Hlt.out, by go_num, true, rfl, HN2.out⟩
              case measure => have := Hlt.out; simp [intOf]; omega
            · have hym' : (y == mark) = false := by simpa using hym
              have HN2 : Hid (false = hasB mark ((marks M).take (x + 1))) := hide (by rw [HN.out, ← hB.out, hym']; rfl)
              clear hB HN hy hlt hx hym
              go_wp2
              go_round
              case rel => exact ⟨x + 1, Hlt.out, by go_num, false, rfl, HN2.out⟩
              case measure => have := Hlt.out; simp [intOf]; omega
        · obtain rfl : x = q := by omega
          have hBf : B = false := by
            have h := hB.out
            rw [List.take_of_length_le (by rw [Hq.out]; exact Nat.le_refl _), HH.out] at h
            rw [h]
            first | rfl | exact decide_eq_true H0.out
          subst hBf
          clear hB hge hx
          go_wp2_with fail
          go_loop [68] (fun i => i = .int .i64 0) (fun _ => 0)
          case atStart => rfl
          case round =>
            obtain rfl := hrel
            go_wp2_with fail
            refine (S_last HS6.out (i := 0) rfl (t := k) (u := k) (by have := Hk.out; omega) (by omega)).mono ?_
            rintro e w7 ⟨rfl, hst⟩
            have HS7 := hide hst
            clear hst HS6
            go_wp2_with fail
            refine (S_drop_none HS7.out (i := 0) rfl mark HJ.out).mono ?_
            rintro e w8 ⟨⟨z, rfl, _⟩, hst⟩
            have HS8 := hide hst
            clear hst HS7
            go_wp2_with fail
            refine (S_dropped HS8.out (i := 0) rfl).mono ?_
            rintro e w9 ⟨rfl, hst⟩
            have HS9 := hide hst
            clear hst HS8
            go_wp2_with fail
            refine (S_last HS9.out (i := 0) rfl (t := k) (u := k) (by have := Hk.out; omega) (by omega)).mono ?_
            rintro e w10 ⟨rfl, hst⟩
            have HB := hide (HB1.out.trans (hst.bel.mono HB1.out.size))
            clear hst HS9
            by_cases hm : mark = 0
            · subst hm
              go_wp2
              go_ret
              exact ⟨rfl, HB.out⟩
            · have hm1 : (mark == 0) = false := by simpa using hm
              have hm2 : ((0 : Int) == mark) = false := by simpa using fun e => hm e.symm
              clear hm
              go_wp2
              go_ret
              exact ⟨rfl, HB.out⟩
    · have h0' : 0 < j := by omega
      have H0 := hide h0'
      have HJ : Hid (reach mark (M.take k) = j) := by rw [HT.out]; exact Hj.out
      clear h0 h0'
      go_wp2_with fail
      refine (S_upto HS4.out (i := 0) rfl mark HJ.out H0.out).mono ?_
      rintro e w5 ⟨UA, uc, rfl, hu1, hu2, hst⟩
      have HS5 := hide (show St w1 [stgT p M k 0 0, rowT 34 5 (.slice UA j uc) j (rcels (M.take j))] w5 by
        have h := hst
        simp only [List.cons_append, List.nil_append] at h
        exact h)
      clear hst HS4
      go_wp2_with fail
      refine (S_marks HS5.out (i := 0) rfl).mono ?_
      rintro e w6 ⟨⟨v, rfl, hv⟩, hst⟩
      have HU := hide (Lk.St.src hst (i := 1) rfl)
      have HS6 := hide hst
      rw [HT.out] at hv
      have HV := hide hv
      clear hst HS5 hv
      obtain ⟨VA, vc, rfl, _, _, hsrc⟩ := HV.out.form
      have HVs := hide hsrc
      obtain ⟨q, hq⟩ : ∃ q, (marks M).length = q := ⟨_, rfl⟩
      have Hq := hide hq
      have hqi : (q : Int) ≤ 200 := by have := marks_len M; have := Hk.out; have := Hkn.out; omega
      rw [hq]
      clear HV hsrc hq
      go_wp2_with fail
      go_loop [9, 43] (fun b i => ∃ x : Nat, x ≤ q ∧ i = .int .i64 (x : Int) ∧ ∃ B, b = .bool B ∧ Hid (B = hasB mark ((marks M).take x))) (fun _ i => q - (intOf i).toNat)
      case atStart => exact ⟨0, Nat.zero_le _, rfl, false, rfl, (hasB_nil mark).symm⟩
      case round =>
        obtain ⟨x, hx, rfl, B, rfl, hB⟩ := hrel
        rcases Nat.lt_or_ge x q with hlt | hge
        · have Hlt := hide hlt
          have hxi : (x : Int) < (q : Int) := by omega
          obtain ⟨y, hy⟩ : ∃ y, (marks M)[x]? = some y := ⟨_, List.getElem?_eq_getElem (by rw [Hq.out]; exact hlt)⟩
          obtain ⟨g, o, rfl, _, c0⟩ := Src.num HVs.out hy
          have HN := hide (hasB_take (m := mark) hy)
          have hxq : x < q := hlt
          cases B with
          | true =>
            have HN2 : Hid (true = hasB mark ((marks M).take (x + 1))) := hide (by rw [HN.out, ← hB.out]; rfl)
            clear hB HN hy hlt hx
            go_wp2
            go_round
            case rel => exact ⟨x + 1, Hlt.out, by go_num, true, rfl, HN2.out⟩
            case measure => have := Hlt.out; simp [intOf]; omega
          | false =>
            by_cases hym : y = mark
            · subst hym
              have HN2 : Hid (true = hasB y ((marks M).take (x + 1))) := hide (by rw [HN.out, ← hB.out]; simp)
              clear hB HN hy hlt hx
              go_wp2
              go_round
              case rel => exact ⟨x + 1, Hlt.out, by go_num, true, rfl, HN2.out⟩
              case measure => have := Hlt.out; simp [intOf]; omega
            · have hym' : (y == mark) = false := by simpa using hym
              have HN2 : Hid (false = hasB mark ((marks M).take (x + 1))) := hide (by rw [HN.out, ← hB.out, hym']; rfl)
              clear hB HN hy hlt hx hym
              go_wp2
              go_round
              case rel => exact ⟨x + 1, Hlt.out, by go_num, false, rfl, HN2.out⟩
              case measure => have := Hlt.out; simp [intOf]; omega
        · obtain rfl : x = q := by omega
          have hBf : B = true := by
            have h := hB.out
            rw [List.take_of_length_le (by rw [Hq.out]; exact Nat.le_refl _), HH.out] at h
            rw [h]
            first | rfl | exact decide_eq_true H0.out
          subst hBf
          clear hB hge hx
          have hji : (0 : Int) < (j : Int) := by have := H0.out; omega
          have hjn : 0 < j := H0.out
          have hj2 : (j : Int) ≤ 200 := by have := Hjk.out; have := Hkn.out; omega
          go_wp2_with fail
          go_loop [68] (fun i => ∃ x : Nat, x ≤ j ∧ i = .int .i64 (x : Int)) (fun i => j - (intOf i).toNat)
          case atStart => exact ⟨0, Nat.zero_le _, rfl⟩
          case round =>
            obtain ⟨x, hx, rfl⟩ := hrel
            rcases Nat.lt_or_ge x j with hlt | hge
            · have Hlt := hide hlt
              have hxi : (x : Int) < (j : Int) := by omega
              obtain ⟨r, hr⟩ : ∃ r, (M.take j)[x]? = some r := ⟨_, List.getElem?_eq_getElem (by rw [List.length_take]; have := Hk.out; have := Hjk.out; omega)⟩
              obtain ⟨g, o, rfl, _, c0, c1, c2, c3, c4⟩ := Src.rcd HU.out hr
              rw [List.getElem?_take, if_pos hlt] at hr
              have hsq : r.s = (x : Int) + 1 := by
                have := (HR.out x r hr).1
                rw [this]
                omega
              have hat := reach_at mark M (by rw [Hj.out]; exact H0.out)
              rw [Hj.out] at hat
              rw [hsq] at c0
              have e1 : (j : Int) - 1 = ((j - 1 : Nat) : Int) := by have := H0.out; omega
              have e2 : IntKind.i64.wrap ((j - 1 : Nat) : Int) = ((j - 1 : Nat) : Int) := wrap_id (by omega) (by omega)
              obtain ⟨y, hy⟩ : ∃ y, j - 1 = y := ⟨_, rfl⟩
              have Hy := hide hy
              rw [hy] at e1 e2 hat
              have hxi2 : (x : Int) ≤ 200 := by omega
              have hxj : x < j := hlt
              by_cases hlast : x = y
              · subst hlast
                obtain ⟨⟨r', hr', h2, hm⟩, _⟩ := hat
                obtain rfl : r = r' := by rw [hr] at hr'; exact Option.some.inj hr'
                rw [h2] at c1
                rw [hm] at c4
                clear hr hr' hsq h2 hm hy hlt hx
                go_wp2
                go_round
                case rel => exact ⟨x + 1, Hlt.out, by go_num⟩
                case measure => have := Hlt.out; simp [intOf]; omega
              · have hno := hat.2 x r (by omega) hr
                have hxy : ((x : Int) == (y : Int)) = false := by
                  simp
                  omega
                have e3 : IntKind.i64.wrap ((x : Int) + 1) = (x : Int) + 1 := wrap_id (by omega) (by omega)
                by_cases hk2 : r.k = 2
                · have hm : (r.m == mark) = false := by simpa using fun e => hno ⟨hk2, e⟩
                  rw [hk2] at c1
                  clear hr hsq hy hlt hx hat hno hk2 hlast
                  go_wp2
                  go_round
                  case rel => exact ⟨x + 1, Hlt.out, by go_num⟩
                  case measure => have := Hlt.out; simp [intOf]; omega
                · have hk3 : (r.k == 2) = false := by simpa using hk2
                  clear hr hsq hy hlt hx hat hno hk2 hlast
                  go_wp2
                  go_round
                  case rel => exact ⟨x + 1, Hlt.out, by go_num⟩
                  case measure => have := Hlt.out; simp [intOf]; omega
            · obtain rfl : x = j := by omega
              clear hge hx
              go_wp2_with fail
              refine (S_last HS6.out (i := 0) rfl (t := k) (u := k) (by have := Hk.out; omega) (by omega)).mono ?_
              rintro e w7 ⟨rfl, hst⟩
              have HS7 := hide hst
              clear hst HS6
              go_wp2_with fail
              refine (S_drop HS7.out (i := 0) rfl mark HJ.out H0.out).mono ?_
              rintro e w8 ⟨rfl, hst⟩
              have HS8 := hide (show St w1 [stgT p (M.drop x) (k - x) x mark, rowT 34 5 (.slice UA x uc) x (rcels (M.take x))] w8 by
                have h := hst
                rw [Nat.zero_add] at h
                exact h)
              clear hst HS7
              go_wp2_with fail
              refine (S_dropped HS8.out (i := 0) rfl).mono ?_
              rintro e w9 ⟨rfl, hst⟩
              have HS9 := hide hst
              clear hst HS8
              go_wp2_with fail
              refine (S_last HS9.out (i := 0) rfl (t := k) (u := k) (by rw [List.length_drop]; have := Hk.out; have := Hjk.out; omega) (by have := Hjk.out; omega)).mono ?_
              rintro e w10 ⟨rfl, hst⟩
              have HB := hide (HB1.out.trans (hst.bel.mono HB1.out.size))
              clear hst HS9
              go_wp2
              go_ret
              exact ⟨rfl, HB.out⟩

end Go.Proofs.Yteneacmdfehfnaa.Sg
