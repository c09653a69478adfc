/-
  Proved: for every l and s the call FaultOther(l, s) returns true and changes no argument: an error that is none of api's, wrapped, has no number, but its path, and its text. Condition: the library's variables errors.errorType and the table of powers of ten hold what the program's own text lays.
-/
import Derived.Test.YtknnalcnoccleaaDoorFaTellsL
namespace Go.Proofs.YtknnalcnoccleaaDoor.Fa
open Go.RowKit Go.Deep
open Pk Sm

theorem New_any (s : ByteArray) (w : World) : Calls Tryd.prog 23 #[.string s] w fun r w' => r = .returned (.iface 76 (.pointer (some ⟨w.heap.size, 0, none⟩))) ∧ w' = w.alloc (.cells #[.string s] 78) := by
  go_enter Tryd.func23, Tryd.ntmps23
  go_wp2
  go_ret
  exact ⟨rfl, rfl⟩

theorem eql_own (p : Addr) (w : World) : (binOp .eql 26 (.iface 76 (.pointer (some p))) (.iface 76 (.pointer (some p)))).run Tryd.prog w = .ok (.bool true) w := by
  obtain ⟨i, hi, hic⟩ := Option.map_eq_some_iff.1 (show (Tryd.prog.info? 76).map (·.comparable) = some true by kernel_rfl)
  obtain ⟨j, hj, _⟩ := Option.map_eq_some_iff.1 (show (Tryd.prog.info? 78).map (·.size) = some 1 by kernel_rfl)
  exact run_eql_iface_ptr_same (P := Tryd.prog) w p Tryd.underlying26 Tryd.underlying76 hi hic hj

/-- fault.Is at an error that has no number. -/
theorem FIs_own (fs : List Flt) (e v : Value) (j : Int) (w : World) (hty : Ety w) (hch : Chain w fs e (.iface 76 v)) (hlen : fs.length ≤ 60000) :
    Calls Tryd.prog 14 #[e, .int .i64 j] w fun r w' => r = .returned (.bool (0 == j)) ∧ Below w.heap.size w w' := by
  have HC := hide (Code_any fs e _ 0 w hty hch (Or.inr (Or.inr ⟨⟨v, rfl⟩, rfl⟩)) hlen)
  clear hch hty hlen
  go_enter Tryd.func14, Tryd.ntmps14
  go_wp2_with fail
  refine HC.out.mono ?_
  rintro r w1 ⟨rfl, hb1⟩
  have HB := hide hb1
  clear hb1 HC
  go_wp2
  go_ret
  exact ⟨rfl, HB.out⟩

set_option maxHeartbeats 1000000 in
theorem Other_out (A : Option Addr) (n c : Nat) (l : List Pl) (s : ByteArray) (w : World) (hty : Ety w) (hl : l.length = n) (hp : Pls w w.heap.size A l) (hf : Fit l) (hno : ¬ Few l ∨ 200 < s.size) :
    Calls Tryd.prog 5 #[.slice A n c, .string s] w fun e w' => e = .returned (.bool true) ∧ Below w.heap.size w w' := by
  have HA := hide (awake_any w hty)
  have HF := hide fun (w1 : World) (hb : Below w.heap.size w w1) => few_any A n c l w1 hl ((hp.below hb).more hb.size) hf
  have HA2 := hide fun (w1 : World) (hb : Below w.heap.size w w1) => awake_any w1 (hty.below hb hty.lt)
  have Hno := hide hno
  clear hty hl hp hf hno
  go_enter Tryd.func5, Tryd.ntmps5
  go_wp2_with fail
  refine HA.out.mono ?_
  rintro r w1 ⟨rfl, hb1⟩
  go_wp2_with fail
  refine (HF.out w1 hb1).mono ?_
  rintro r w2 ⟨⟨b, rfl, hb⟩, rfl⟩
  have HB := hide hb1
  have Hb := hide hb
  have HA3 := hide (HA2.out w2 hb1)
  clear hb hb1 HA HF HA2
  cases b with
  | false =>
    go_wp2_with fail
    refine HA3.out.mono ?_
    rintro r w3 ⟨rfl, hb3⟩
    have HB3 := hide (HB.out.trans (hb3.mono HB.out.size))
    clear hb3
    go_wp2
    go_ret
    exact ⟨rfl, HB3.out⟩
  | true =>
    have hs : 200 < s.size := by
      rcases Hno.out with h | h
      · exact absurd (Hb.out.1 rfl) h
      · exact h
    go_wp2_with fail
    refine HA3.out.mono ?_
    rintro r w3 ⟨rfl, hb3⟩
    have HB3 := hide (HB.out.trans (hb3.mono HB.out.size))
    clear hb3
    go_wp2
    go_ret
    exact ⟨rfl, HB3.out⟩

theorem pthP_take {l : List Pl} {k : Nat} {q : Pl} (h : l[k]? = some q) : pthP (l.take (k + 1)) = pthP (l.take k) ++ plc q.1 q.2 ++ [58, 32] := by
  rw [take_snoc l k q h, pthP_append]
  simp [pthP]
theorem Good.rev {l : List Pl} (h : Good l) : Good l.reverse := fun q hq => h q (List.mem_reverse.1 hq)
theorem Good.take {l : List Pl} (h : Good l) (k : Nat) : Good (l.take k) := fun q hq => h q (List.mem_of_mem_take hq)

set_option maxHeartbeats 4000000 in
set_option maxRecDepth 100000 in
theorem Other_in (A : Option Addr) (n c : Nat) (l : List Pl) (s : ByteArray) (w : World) (hty : Ety w) (htab : Tab10 w) (hl : l.length = n) (hp : Pls w w.heap.size A l) (hf : Fit l) (hfew : Few l) (hs : s.size ≤ 200) :
    Calls Tryd.prog 5 #[.slice A n c, .string s] w fun e w' => e = .returned (.bool true) ∧ Below w.heap.size w w' := by
  have hn : n ≤ 50 := by rw [← hl]; exact hfew.1
  have hm := methodErrF
  have hmo := methodErrO
  have HA := hide (awake_any w hty)
  have HF := hide fun (w1 : World) (hb : Below w.heap.size w w1) => few_any A n c l w1 hl ((hp.below hb).more hb.size) hf
  have Hfew := hide hfew
  have Hty := hide hty
  have Htab := hide htab
  have Hl := hide hl
  have Hp := hide hp
  have Hf := hide hf
  have Hs := hide hs
  clear hty hl hp hf hfew htab
  go_enter Tryd.func5, Tryd.ntmps5
  go_wp2_with fail
  refine HA.out.mono ?_
  rintro r w1 ⟨rfl, hb1⟩
  go_wp2_with fail
  refine (HF.out w1 hb1).mono ?_
  rintro r w2 ⟨⟨b, rfl, hb⟩, rfl⟩
  obtain rfl : b = true := hb.2 Hfew.out
  have HB := hide hb1
  clear hb hb1 HA HF
  go_wp2_with fail
  refine (New_any s w2).mono ?_
  rintro r w3 ⟨rfl, hw3⟩
  have hq3 : w3.heap[w2.heap.size]? = some (.cells #[.string s] 78 (0, 0)) := by rw [hw3]; exact heap_alloc_new w2 _
  have hb3 : Below w.heap.size w w3 := by rw [hw3]; exact HB.out.alloc HB.out.size _
  have HQ3 := hide hq3
  have HB3 := hide hb3
  clear hw3 hq3 hb3
  go_wp2_with fail
  go_loopw [6, 29] (fun e i wr => ∃ k : Nat, k ≤ n ∧ i = .int .i64 k ∧ Hid (Mad w3 l (.iface 76 (.pointer (some ⟨w2.heap.size, 0, none⟩))) k e wr)) (fun _ i _ => n - (intOf i).toNat)
  case atStart => exact ⟨0, Nat.zero_le _, rfl, Real.own _, ⟨[], rfl, rfl⟩, Below.refl _ _⟩
  case round =>
    obtain ⟨k, hk, rfl, hM⟩ := hrel
    rcases Nat.lt_or_ge k n with hlt | hge
    · obtain ⟨q, hqk⟩ : ∃ q, l[k]? = some q := ⟨_, List.getElem?_eq_getElem (by rw [Hl.out]; exact hlt)⟩
      obtain ⟨b, o, rfl, hc0, hc1⟩ := (Hp.out.below (HB3.out.trans (hM.out.2.2.mono HB3.out.size))).at_ hqk
      have HW := hide (Wrap_real q.1 q.2 _ wr.drew hM.out.1)
      have HN := hide (hM.out.next hqk).drew
      clear hqk
      go_wp2_with fail
      go_region_with (go_at_call 24; refine HW.out.mono ?_; rintro r w1 ⟨rfl, rfl⟩)
      all_goals
        go_wp2
        go_roundw
        case rel => exact ⟨k + 1, by omega, by go_num, HN.out⟩
        case measure => simp [intOf]; omega
    · obtain rfl : k = n := by omega
      have HB4 := hide (HB3.out.trans (hM.out.2.2.mono HB3.out.size))
      obtain ⟨fs, hW4⟩ := hM.out.wrp Hl.out Hfew.out Hf.out (Htab.out.below HB4.out)
      have HW4 := hide hW4
      have HQ4 := hide ((hM.out.2.2.block _ (heap_lt HQ3.out)).trans HQ3.out)
      have Hfl := hide (hW4.len.trans Hl.out)
      have Hg := hide (few_good Hfew.out Hf.out)
      have HRP := hide (RPath_any A k c l wr Hl.out hn ((Hp.out.below HB4.out).more HB4.out.size) Hg.out)
      clear hM hW4 hge hk
      go_wp2_with fail
      refine HRP.out.mono ?_
      rintro r w5 ⟨A5, c5, rfl, _, _, hv5, hb5⟩
      have HB5 := hide (HB4.out.trans (hb5.mono HB4.out.size))
      have HW5 := hide (HW4.out.below hb5)
      have HQ5 := hide ((hb5.block _ (heap_lt HQ4.out)).trans HQ4.out)
      have HV5 := hide hv5
      clear hb5 hv5 HRP HW4 HQ4
      go_wp2_with fail
      go_loop [8, 49] (fun t i => ∃ (j : Nat) (S : ByteArray), j ≤ k ∧ i = .int .i64 j ∧ t = .string S ∧ Hid (S = str (pthP (l.reverse.take j)))) (fun _ i => k - (intOf i).toNat)
      case atStart => exact ⟨0, _, Nat.zero_le _, rfl, rfl, rfl⟩
      case round =>
        obtain ⟨j, S, hj, rfl, rfl, hS⟩ := hrel
        have hlen : (pthP (l.reverse.take j)).length ≤ 11200 := by
          have h1 := pthP_le (Hg.out.rev.take j)
          have h2 : (l.reverse.take j).length ≤ 50 := by rw [List.length_take, List.length_reverse, Hl.out]; omega
          omega
        rcases Nat.lt_or_ge j k with hlt | hge
        · obtain ⟨q, hqj⟩ : ∃ q, l.reverse[j]? = some q := ⟨_, List.getElem?_eq_getElem (by rw [List.length_reverse, Hl.out]; exact hlt)⟩
          have hgq := Hg.out.rev q (List.mem_of_getElem? hqj)
          have hpl := plc_len hgq.2 hgq.1
          obtain ⟨b, o, rfl, _, hcell⟩ := HV5.out (by intro h0; have := congrArg List.length h0; rw [plcs_length, List.length_reverse, Hl.out] at this; simp at this; omega)
          have hck := hcell j _ (plcs_get hqj)
          obtain ⟨SP, hSP⟩ : ∃ T, T = str (plc q.1 q.2) := ⟨_, rfl⟩
          obtain ⟨S1, h1⟩ : ∃ T, T = str (pthP (l.reverse.take j) ++ plc q.1 q.2) := ⟨_, rfl⟩
          obtain ⟨S2, h2⟩ : ∃ T, T = str (pthP (l.reverse.take j) ++ plc q.1 q.2 ++ [58, 32]) := ⟨_, rfl⟩
          rw [← hSP] at hck
          have hSS := hS.out
          have hadd1 : ∀ W : World, (Op.stringOp .add S SP).run Tryd.prog W = .ok (.string S1) W := fun W => by
            rw [hSS, hSP, h1]
            exact run_add _ _ (by omega) W
          have hadd2 : ∀ W : World, (Op.stringOp .add S1 ⟨#[58, 32]⟩).run Tryd.prog W = .ok (.string S2) W := fun W => by
            rw [h1, h2]
            exact run_add _ [58, 32] (by simp only [List.length_append, List.length_cons, List.length_nil]; omega) W
          have H2 := hide (show S2 = str (pthP (l.reverse.take (j + 1))) by rw [h2, pthP_take hqj])
          clear hqj hgq hpl hcell hSP h1 h2 hS hSS hlen
          go_wp2
          go_round
          case rel => exact ⟨j + 1, _, by omega, by go_num, rfl, H2.out⟩
          case measure => simp [intOf]; omega
        · obtain rfl : j = k := by omega
          have hSS := hS.out
          rw [List.take_of_length_le (by rw [List.length_reverse, Hl.out]; exact Nat.le_refl _)] at hSS hlen
          obtain ⟨T, hT⟩ : ∃ T, T = str (pthP l.reverse ++ s.data.toList) := ⟨_, rfl⟩
          have hadd : ∀ W : World, (Op.stringOp .add S s).run Tryd.prog W = .ok (.string T) W := fun W => by
            rw [hSS, hT]
            exact run_add _ s.data.toList (by rw [size_eq]; omega) W
          have HT := hide hT
          have HC := hide (Code_any fs _ _ 0 w5 (Hty.out.below HB5.out Hty.out.lt) HW5.out.chain (Or.inr (Or.inr ⟨⟨_, rfl⟩, rfl⟩)) (by rw [Hfl.out]; omega))
          clear hS hSS hlen hT hge hj
          go_wp2_with fail
          refine HC.out.mono ?_
          rintro r w10 ⟨rfl, hb10⟩
          have HB10 := hide (HB5.out.trans (hb10.mono HB5.out.size))
          have HW10 := hide (HW5.out.below hb10)
          have HQ10 := hide ((hb10.block _ (heap_lt HQ5.out)).trans HQ5.out)
          have HV10 := hide (HV5.out.keep hb10)
          have HI := hide (FIs_own fs _ _ 0 w10 (Hty.out.below HB10.out Hty.out.lt) HW10.out.chain (by rw [Hfl.out]; omega))
          clear hb10 HC HV5 HW5 HQ5
          go_wp2_with fail
          refine HI.out.mono ?_
          rintro r w11 ⟨rfl, hb11⟩
          have HB11 := hide (HB10.out.trans (hb11.mono HB10.out.size))
          have HW11 := hide (HW10.out.below hb11)
          have HQ11 := hide ((hb11.block _ (heap_lt HQ10.out)).trans HQ10.out)
          have HV11 := hide (HV10.out.keep hb11)
          have HI2 := hide (FIs_own fs _ _ 6 w11 (Hty.out.below HB11.out Hty.out.lt) HW11.out.chain (by rw [Hfl.out]; omega))
          clear hb11 HI HV10 HW10 HQ10
          go_wp2_with fail
          refine HI2.out.mono ?_
          rintro r w12 ⟨rfl, hb12⟩
          have HB12 := hide (HB11.out.trans (hb12.mono HB11.out.size))
          have HW12 := hide (HW11.out.below hb12)
          have HQ12 := hide ((hb12.block _ (heap_lt HQ11.out)).trans HQ11.out)
          have HV12 := hide (HV11.out.keep hb12)
          have HP := hide (Path_any fs _ _ j w12 Hfl.out (Hty.out.below HB12.out Hty.out.lt) HW12.out.chain (Or.inr (Or.inr ⟨_, rfl⟩)) HW12.out.nice (by omega))
          clear hb12 HI2 HV11 HW11 HQ11
          go_wp2_with fail
          refine HP.out.mono ?_
          rintro r w13 ⟨A13, c13, rfl, _, _, hv13, hb13⟩
          have HB13' := hide (HB12.out.trans (hb13.mono HB12.out.size))
          have HW13' := hide (HW12.out.below hb13)
          have HQ13' := hide ((hb13.block _ (heap_lt HQ12.out)).trans HQ12.out)
          have hv12 := HV12.out.keep hb13
          rw [HW12.out.laid, plcs_strs] at hv13
          rw [plcs_strs] at hv12
          have HSm := hide (Same_yes A13 A5 j c13 c5 (l.reverse.map fun q => str (plc q.1 q.2)) w13 (by rw [List.length_map, List.length_reverse]; exact Hl.out) (by omega) hv13 hv12)
          clear hb13 hv13 hv12 HP HV12 HW12 HQ12
          go_wp2_with fail
          refine HSm.out.mono ?_
          rintro r w16 ⟨rfl, hb16⟩
          have HB13 := hide (HB13'.out.trans (hb16.mono HB13'.out.size))
          have HW13 := hide (HW13'.out.below hb16)
          have HQ13 := hide ((hb16.block _ (heap_lt HQ13'.out)).trans HQ13'.out)
          clear hb16 HSm HB13' HW13' HQ13'
          have hTf : T = str (pth fs ++ s.data.toList) := by rw [HT.out, pth_pls, HW13.out.laid]
          have HTf := hide hTf
          clear hTf
          cases fs with
          | nil =>
            obtain rfl := HW13.out.chain
            have HE := hide (errorString_any w2.heap.size s w16 HQ13.out)
            have hTs : T = s := HTf.out
            have HTs := hide hTs
            clear hTs
            go_wp2_with fail
            refine HE.out.mono ?_
            rintro r w17 ⟨rfl, rfl⟩
            have hss : (s.toList == T.toList) = true := by rw [HTs.out]; simp
            have HIs := hide (Is_chainO [] _ _ ⟨w2.heap.size, 0, none⟩ true w17 HW13.out.chain (fun W => eql_own _ W))
            go_wp2_with fail
            refine HIs.out.mono ?_
            rintro r w18 ⟨rfl, rfl⟩
            go_wp2
            go_ret
            exact ⟨rfl, HB13.out⟩
          | cons q r =>
            obtain ⟨p, o', m⟩ := q
            obtain rfl := HW13.out.chain.1
            have hE := Error_any _ p _ s.data.toList j w16 Hfl.out (Hty.out.below HB13.out Hty.out.lt) HW13.out.chain (Or.inr (Or.inr ⟨_, s, rfl, HQ13.out, rfl⟩)) HW13.out.nice (by omega) (by rw [size_eq]; have := Hs.out; omega)
            rw [← HTf.out] at hE
            have HE := hide hE
            clear hE
            go_wp2_with fail
            refine HE.out.mono ?_
            rintro r w14 ⟨rfl, hb14⟩
            have HB14 := hide (HB13.out.trans (hb14.mono HB13.out.size))
            have HW14 := hide (HW13.out.below hb14)
            have HIs := hide (Is_chainO _ _ _ ⟨w2.heap.size, 0, none⟩ true w14 HW14.out.chain (fun W => eql_own _ W))
            clear hb14
            go_wp2_with fail
            refine HIs.out.mono ?_
            rintro r w15 ⟨rfl, rfl⟩
            go_wp2
            go_ret
            exact ⟨rfl, HB14.out⟩

theorem Other_walk (A : Option Addr) (n c : Nat) (l : List Pl) (s : ByteArray) (w : World) (hty : Ety w) (htab : Tab10 w) (hl : l.length = n) (hp : Pls w w.heap.size A l) (hf : Fit l) (_ : s.size ≤ maxLen) :
    Calls Tryd.prog 5 #[.slice A n c, .string s] w fun e w' => e = .returned (.bool true) ∧ Below w.heap.size w w' := by
  by_cases hfew : Few l
  · rcases Nat.lt_or_ge 200 s.size with h | h
    · exact Other_out A n c l s w hty hl hp hf (Or.inr h)
    · exact Other_in A n c l s w hty htab hl hp hf hfew h
  · exact Other_out A n c l s w hty hl hp hf (Or.inl hfew)

end Go.Proofs.YtknnalcnoccleaaDoor.Fa
