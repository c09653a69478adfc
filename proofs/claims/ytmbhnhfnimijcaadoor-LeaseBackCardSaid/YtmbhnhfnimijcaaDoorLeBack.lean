/-
  LeaseBack at every script and every time: it returns true, and changes nothing that was there. Condition: the library's variable errors.errorType holds what the program's own text lays.
-/
import Derived.Lib.MinMax
import Derived.Test.YtmbhnhfnimijcaaDoorLeAwake
import Derived.Test.YtmbhnhfnimijcaaDoorLeOp
namespace Go.Proofs.YtmbhnhfnimijcaaDoor.Le
open Go.RowKit
open Pk Sm Fa Dk Wn Lk

theorem Sit.grant_t (s : Sit) (e n : Int) : (s.grant e n).t = tk s.t n := by
  unfold Sit.grant
  split <;> rfl
theorem Fen.renew_t (s : Fen) (e n : Int) : (s.renew e n).t = tk s.t n := by
  unfold Fen.renew
  split <;> rfl
theorem Fen.prom_t (s : Fen) (n : Int) : (s.prom n).t = tk s.t n := by
  unfold Fen.prom
  split <;> rfl
/-- Promote, where what it answers is not looked at. -/
theorem S_prom {w0 w : World} {Ts : List Thg} {i q : Nat} (h : St w0 Ts w) {s : Fen} (hi : Ts[i]? = some (fenT q s)) (hs : s.Ok) (n : Int) :
    Calls Tryd.prog 15 #[.pointer (some ⟨q, 0, none⟩), .int .i64 n] w fun r w' => ∃ a b v, r = .returned (.tuple #[.int .i64 a, .int .i64 b, v]) ∧ St w0 (Ts.set i (fenT q (s.prom n))) w' := by
  rcases Int.lt_or_le s.l 1073741824 with hl | hl
  · exact (S_prom_ok h hi hs n hl).mono fun r w' ⟨v, hr, _, hS⟩ => ⟨_, _, v, hr, hS⟩
  · exact (S_prom_no h hi n hl).mono fun r w' ⟨v, hr, _, hS⟩ => ⟨_, _, v, hr, hS⟩

/-- What is so at the beginning of each round. -/
structure BInv (N : Int) (s : Sit) (f : Fen) : Prop where
  n0 : 0 ≤ N
  n1 : N ≤ 1152921504606846976
  so : s.Ok
  fo : f.Ok
  sn : s.t ≤ N
  fn : f.t ≤ N
theorem BInv.site {N t : Int} {s s' : Sit} {f : Fen} (h : BInv N s f) (ht : t ≤ 1152921504606846976) (ho : s'.Ok) (hs : s'.t = tk s.t t) : BInv (max N t) s' f := by
  obtain ⟨h1, h2, h3, h4, h5, h6⟩ := h
  refine ⟨by omega, by omega, ho, h4, ?_, by omega⟩
  rw [hs]; unfold tk; omega
theorem BInv.fence {N t : Int} {s : Sit} {f f' : Fen} (h : BInv N s f) (ht : t ≤ 1152921504606846976) (ho : f'.Ok) (hs : f'.t = tk f.t t) : BInv (max N t) s f' := by
  obtain ⟨h1, h2, h3, h4, h5, h6⟩ := h
  refine ⟨by omega, by omega, h3, ho, by omega, ?_⟩
  rw [hs]; unfold tk; omega

set_option maxRecDepth 100000 in
theorem Back_long (A : Option Addr) (n c : Nat) (early : Int) (w : World) (hty : Ety w) (hn : 300 < n) :
    Calls Tryd.prog 8 #[.slice A n c, .int .i64 early] w fun e w' => e = .returned (.bool true) ∧ Below w.heap.size w w' := by
  have hni : (300 : Int) < (n : Int) := by omega
  have HA := hide (awake_any w hty)
  have HA2 : Hid (∀ W, Below w.heap.size w W → Calls Tryd.prog 9 #[] W fun e w' => e = .returned (.bool true) ∧ Below W.heap.size W w') := fun W hW => awake_any W (Ety.below hty hW hty.lt)
  clear hty hn
  go_enter Tryd.func8, Tryd.ntmps8
  go_wp2_with fail
  refine HA.out.mono ?_
  rintro e w1 ⟨rfl, hb⟩
  have HB1 := hide hb
  have HA3 := hide (HA2.out w1 hb)
  clear hb HA HA2
  go_wp2_with fail
  refine HA3.out.mono ?_
  rintro e w2 ⟨rfl, hb⟩
  have HB2 := hide (HB1.out.trans (hb.mono HB1.out.size))
  clear hb HA3
  go_wp2
  go_ret
  exact ⟨rfl, HB2.out⟩

set_option maxRecDepth 100000 in
set_option maxHeartbeats 4000000 in
theorem Back_law (A : Option Addr) (n c : Nat) (l : List Oq) (early : Int) (w : World) (hty : Ety w) (hl : l.length = n) (hf : OFits l) (hs : Src w A (ocels l)) (hn : n ≤ 300) :
    Calls Tryd.prog 8 #[.slice A n c, .int .i64 early] w fun e w' => e = .returned (.bool true) ∧ Below w.heap.size w w' := by
  have hni : ¬ (300 : Int) < (n : Int) := by omega
  have HA := hide (awake_any w hty)
  have Hl := hide hl
  have Hf := hide hf
  have Hs := hide hs
  have Hn := hide hn
  clear hty hl hf hs hn
  go_enter Tryd.func8, Tryd.ntmps8
  go_wp2_with fail
  refine HA.out.mono ?_
  rintro e w1 ⟨rfl, hb⟩
  have HB1 := hide hb
  have Hsr := hide (Hs.out.below hb)
  have HN := hide (St.new_both w1)
  clear hb HA Hs
  go_wp2_with fail
  generalize World.alloc _ _ = w3 at *
  have HS3 := hide HN.out
  clear HN
  generalize w1.heap.size + 1 = q at *
  generalize w1.heap.size = p at *
  go_loopw [7, 27] (fun nv jv wr => ∃ k : Nat, k ≤ n ∧ jv = .int .i64 (k : Int) ∧ ∃ (N : Int) (s : Sit) (f : Fen), nv = .int .i64 N ∧ Hid (BInv N s f) ∧ Hid (St w1 [sitT p s, fenT q f] wr)) (fun _ jv _ => n - (intOf jv).toNat)
  case atStart => exact ⟨0, Nat.zero_le _, rfl, 0, s0, f0, rfl, ⟨by decide, by decide, s0_ok, f0_ok, by decide, by decide⟩, HS3.out⟩
  case round =>
    clear HS3
    obtain ⟨k, hk, rfl, N, s, f, rfl, hI, hst⟩ := hrel
    rcases Nat.lt_or_ge k n with hlt | hge
    · have Hlt := hide hlt
      have hki : (k : Int) < (n : Int) := by omega
      obtain ⟨o1, ho⟩ : ∃ o1, l[k]? = some o1 := ⟨_, List.getElem?_eq_getElem (by rw [Hl.out]; exact hlt)⟩
      obtain ⟨g, o, rfl, hg, hat⟩ := Src.op (Hsr.out.below hst.out.bel) ho
      have hfit := Hf.out o1 (List.mem_of_getElem? ho)
      obtain ⟨qk, qe, qn⟩ := o1
      have a0 := hat.kind
      have a1 := hat.e
      have a2 := hat.n
      have He := hide (show qe ≤ 9223372036854775807 from hfit.2.1.2)
      obtain ⟨t, ht⟩ : ∃ t, min qn 1152921504606846976 = t := ⟨_, rfl⟩
      have Ht := hide (show t ≤ 1152921504606846976 by omega)
      obtain ⟨N2, hN2⟩ : ∃ N2, max N t = N2 := ⟨_, rfl⟩
      have HN2 := hide hN2
      simp only at a0 a1 a2
      clear hk hlt ho hg hat hfit
      by_cases h1 : qk = 1
      · subst h1
        go_wp2_with fail
        refine (S_grant hst.out (i := 0) rfl hI.out.so qe t).mono ?_
        rintro e w5 ⟨v5, rfl, -, hS⟩
        have HI2 := hide (hI.out.site Ht.out (hI.out.so.grant qe t He.out) (Sit.grant_t _ _ _))
        have HS5 := hide hS
        rw [HN2.out] at HI2
        clear hI hst hS
        go_wp2
        go_roundw
        case rel => exact ⟨k + 1, Hlt.out, by go_num, N2, _, _, rfl, HI2.out, HS5.out⟩
        case measure => have := Hlt.out; simp [intOf]; omega
      · have e1 : (qk == 1) = false := by simpa using h1
        by_cases h3 : qk = 3
        · subst h3
          clear e1 h1
          go_wp2_with fail
          refine (S_prom hst.out (i := 1) rfl hI.out.fo t).mono ?_
          rintro e w5 ⟨a5, b5, v5, rfl, hS⟩
          have HI2 := hide (hI.out.fence Ht.out (hI.out.fo.prom t) (Fen.prom_t _ _))
          have HS5 := hide hS
          rw [HN2.out] at HI2
          clear hI hst hS
          go_wp2
          go_roundw
          case rel => exact ⟨k + 1, Hlt.out, by go_num, N2, _, _, rfl, HI2.out, HS5.out⟩
          case measure => have := Hlt.out; simp [intOf]; omega
        · have e3 : (qk == 3) = false := by simpa using h3
          by_cases h4 : qk = 4
          · subst h4
            clear e1 h1 e3 h3
            go_wp2_with fail
            refine (S_renew hst.out (i := 1) rfl hI.out.fo qe t).mono ?_
            rintro e w5 ⟨v5, rfl, -, hS⟩
            have HI2 := hide (hI.out.fence Ht.out (hI.out.fo.renew qe t) (Fen.renew_t _ _ _))
            have HS5 := hide hS
            rw [HN2.out] at HI2
            clear hI hst hS
            go_wp2
            go_roundw
            case rel => exact ⟨k + 1, Hlt.out, by go_num, N2, _, _, rfl, HI2.out, HS5.out⟩
            case measure => have := Hlt.out; simp [intOf]; omega
          · have e4 : (qk == 4) = false := by simpa using h4
            have HI2 := hI
            have HS2 := hst
            clear hI hst h1 h3 h4
            go_wp2
            go_roundw
            case rel => exact ⟨k + 1, Hlt.out, by go_num, N, s, f, rfl, HI2.out, HS2.out⟩
            case measure => have := Hlt.out; simp [intOf]; omega
    · obtain rfl : k = n := by omega
      have hki : ¬ ((k : Int) < (k : Int)) := by omega
      obtain ⟨n0, n1, so, fo, sn, fn⟩ := hI.out
      obtain ⟨x, hx⟩ : ∃ x, min early N = x := ⟨_, rfl⟩
      have Hx := hide (show x ≤ N by omega)
      obtain ⟨T, E, U⟩ := s
      obtain ⟨T', L, F, U'⟩ := f
      simp only at sn fn
      have HC := hide (S_check_is hst.out (i := 0) rfl 0 N (k := Sit.cE ⟨T, E, U⟩ 0 N) rfl (s' := ⟨N, E, U⟩) (by unfold Sit.tick; rw [show tk T N = N from tk_now sn n1]))
      have E0 := so.e0
      have HFN := hide (show tk T' N = N from tk_now fn n1)
      simp only at E0
      clear hge hk hI hst so fo
      go_wp2_with fail
      refine HC.out.mono ?_
      rintro e w4 ⟨v4, rfl, -, hS⟩
      have HH := hide (S_holds_is hS (i := 1) rfl N (k := Fen.hold ⟨T', L, F, U'⟩ N) rfl (s' := ⟨N, L, F, U'⟩) (by unfold Fen.tick; rw [HFN.out]))
      clear hS HC
      go_wp2_with fail
      refine HH.out.mono ?_
      rintro e w5 ⟨rfl, hS⟩
      have HS5 := hide (show St w1 [sitT p ⟨N, E, U⟩, fenT q ⟨N, L, F, U'⟩] w5 from hS)
      clear hS HH
      go_wp2_with fail
      refine (S_epoch HS5.out (i := 0) rfl).mono ?_
      rintro e w6 ⟨rfl, hS⟩
      have HS6 := hide hS
      have HTK := hide (show tk N x = N from tk_old Hx.out)
      have END : Hid (∀ W, St w1 [sitT p ⟨N, E, U⟩, fenT q ⟨N, L, F, U'⟩] W → Calls Tryd.prog 19 #[.pointer (some ⟨q, 0, none⟩), .int .i64 x] W fun e w' => e = .returned (.int .i64 (if N < F then 0 else L)) ∧ St w1 [sitT p ⟨N, E, U⟩, fenT q ⟨N, L, F, U'⟩] w') := fun W h =>
        S_holds_is h (i := 1) rfl x (k := if N < F then 0 else L) (by unfold Fen.hold; simp only; rw [HTK.out]) (s' := ⟨N, L, F, U'⟩) (by unfold Fen.tick; rw [show tk N x = N from HTK.out])
      have END2 : Hid (∀ W, St w1 [sitT p ⟨N, E, U⟩, fenT q ⟨N, L, F, U'⟩] W → Calls Tryd.prog 19 #[.pointer (some ⟨q, 0, none⟩), .int .i64 N] W fun e w' => e = .returned (.int .i64 (if N < F then 0 else L)) ∧ Below w1.heap.size w1 w') := fun W h =>
        (S_holds_is h (i := 1) rfl N (k := if N < F then 0 else L) (by unfold Fen.hold; simp only; rw [show tk N N = N from tk_old (Int.le_refl _)]) rfl).mono fun _ _ ⟨h1, h2⟩ => ⟨h1, h2.bel⟩
      generalize (if N < F then (0 : Int) else L) = h9 at END END2
      have hhh : (h9 == h9) = true := by simp
      clear hS HS5
      by_cases hE : E = 0
      · subst hE
        have HC := hide (Calls.no (S_check_is HS6.out (i := 0) rfl 0 x (k := 10) (if_pos (Or.inr rfl)) (s' := ⟨N, 0, U⟩) (by unfold Sit.tick; rw [show tk N x = N from HTK.out])) (by decide))
        clear HS6
        go_wp2_with fail
        refine HC.out.mono ?_
        rintro e w7 ⟨p7, rfl, -, hS⟩
        have HS7 := hide hS
        clear hS HC
        go_wp2_with fail
        refine (END.out w7 HS7.out).mono ?_
        rintro e w8 ⟨rfl, hS⟩
        have HH := hide (END2.out w8 hS)
        clear hS HS7 END END2
        go_wp2_with fail
        refine HH.out.mono ?_
        rintro e w9 ⟨rfl, hb⟩
        have HB := hide (HB1.out.trans (hb.mono HB1.out.size))
        clear hb HH
        go_wp2
        go_ret
        exact ⟨by simp, HB.out⟩
      · have hEp : 0 < E := by omega
        by_cases hu : N < U
        · have HC := hide (Calls.ok (S_check_is HS6.out (i := 0) rfl E x (k := 0) (Sit.cE_zero (s := ⟨N, E, U⟩) hE (by simp only; rw [HTK.out]; exact hu)) (s' := ⟨N, E, U⟩) (by unfold Sit.tick; rw [show tk N x = N from HTK.out])))
          clear HS6
          go_wp2_with fail
          refine HC.out.mono ?_
          rintro e w7 ⟨rfl, hS⟩
          have HS7 := hide hS
          clear hS HC
          go_wp2_with fail
          refine (END.out w7 HS7.out).mono ?_
          rintro e w8 ⟨rfl, hS⟩
          have HH := hide (END2.out w8 hS)
          clear hS HS7 END END2
          go_wp2_with fail
          refine HH.out.mono ?_
          rintro e w9 ⟨rfl, hb⟩
          have HB := hide (HB1.out.trans (hb.mono HB1.out.size))
          clear hb HH
          go_wp2
          go_ret
          exact ⟨by simp, HB.out⟩
        · have HC := hide (Calls.no (S_check_is HS6.out (i := 0) rfl E x (k := 11) (Sit.cE_late (s := ⟨N, E, U⟩) hE (by simp only; rw [HTK.out]; omega)) (s' := ⟨N, E, U⟩) (by unfold Sit.tick; rw [show tk N x = N from HTK.out])) (by decide))
          clear HS6
          go_wp2_with fail
          refine HC.out.mono ?_
          rintro e w7 ⟨p7, rfl, -, hS⟩
          have HS7 := hide hS
          clear hS HC
          go_wp2_with fail
          refine (END.out w7 HS7.out).mono ?_
          rintro e w8 ⟨rfl, hS⟩
          have HH := hide (END2.out w8 hS)
          clear hS HS7 END END2
          go_wp2_with fail
          refine HH.out.mono ?_
          rintro e w9 ⟨rfl, hb⟩
          have HB := hide (HB1.out.trans (hb.mono HB1.out.size))
          clear hb HH
          go_wp2
          go_ret
          exact ⟨by simp; omega, HB.out⟩
theorem Back_any (A : Option Addr) (n c : Nat) (l : List Oq) (early : Int) (w : World) (hty : Ety w) (hl : l.length = n) (hf : OFits l) (hs : Src w A (ocels l)) :
    Calls Tryd.prog 8 #[.slice A n c, .int .i64 early] w fun e w' => e = .returned (.bool true) ∧ Below w.heap.size w w' := by
  rcases Nat.lt_or_ge 300 n with h | h
  · exact Back_long A n c early w hty h
  · exact Back_law A n c l early w hty hl hf hs h

end Go.Proofs.YtmbhnhfnimijcaaDoor.Le
