/-
  LeaseOne at every script: it returns true, and changes nothing that was there. Condition: the library's variable errors.errorType holds what the program's own text lays.
-/
import Derived.Test.YtmbhnhfnimijcaaDoorLeOneM
import Derived.Test.YtmbhnhfnimijcaaDoorLeOp
namespace Go.Proofs.YtmbhnhfnimijcaaDoor.Le
open Go.RowKit
open Pk Sm Fa Dk Wn Lk

set_option maxRecDepth 100000 in
theorem One_long (A : Option Addr) (n c : Nat) (w : World) (hty : Ety w) (hn : 300 < n) :
    Calls Tryd.prog 4 #[.slice A n c] w fun e w' => e = .returned (.bool true) ∧ Below w.heap.size w w' := by
  have hni : (300 : Int) < (n : Int) := by omega
  have HA := hide (awake_any w hty)
  have HA2 : Hid (∀ W, Below w.heap.size w W → Calls Tryd.prog 9 #[] W fun e w' => e = .returned (.bool true) ∧ Below W.heap.size W w') := fun W hW => awake_any W (Ety.below hty hW hty.lt)
  clear hty hn
  go_enter Tryd.func4, Tryd.ntmps4
  go_wp2_with fail
  refine HA.out.mono ?_
  rintro e w1 ⟨rfl, hb⟩
  have HB1 := hide hb
  have HA3 := hide (HA2.out w1 hb)
  clear hb HA HA2
  go_wp2_with fail
  refine HA3.out.mono ?_
  rintro e w2 ⟨rfl, hb⟩
  have HB2 := hide (HB1.out.trans (hb.mono HB1.out.size))
  clear hb HA3
  go_wp2
  go_ret
  exact ⟨rfl, HB2.out⟩

/-- Whether a fence may renew, and whom. -/
theorem Fen.rE_cases (f : Fen) (e N : Int) (h : tk f.t N = N) : (f.rE e N = 0 ∧ e = f.l ∧ f.l ≠ 0 ∧ f.f ≤ N) ∨ f.rE e N ≠ 0 := by
  unfold Fen.rE
  rw [h]
  by_cases h1 : e ≠ f.l ∨ f.l = 0
  · rw [if_pos h1]; right; decide
  · rw [if_neg h1]
    by_cases h2 : N < f.f
    · rw [if_pos h2]; right; decide
    · rw [if_neg h2]; left; omega
theorem Sit.cE_cases (s : Sit) (N : Int) (h : tk s.t N = N) : (s.cE s.e N = 0 ∧ s.e ≠ 0 ∧ N < s.u) ∨ s.cE s.e N ≠ 0 := by
  by_cases h1 : s.e = 0
  · right
    unfold Sit.cE
    rw [if_pos (Or.inr h1)]
    decide
  · by_cases h2 : N < s.u
    · left
      exact ⟨Sit.cE_zero h1 (by rw [h]; exact h2), h1, h2⟩
    · right
      rw [Sit.cE_late h1 (by rw [h]; omega)]
      decide

set_option maxRecDepth 100000 in
set_option maxHeartbeats 8000000 in
theorem One_law (A : Option Addr) (n c : Nat) (l : List Tq) (w : World) (hty : Ety w) (hl : l.length = n) (hf : TFits l) (hs : Src w A (tcels l)) (hn : n ≤ 300) :
    Calls Tryd.prog 4 #[.slice A n c] w fun e w' => e = .returned (.bool true) ∧ Below w.heap.size w w' := by
  have hni : ¬ (300 : Int) < (n : Int) := by omega
  have HA := hide (awake_any w hty)
  have Hl := hide hl
  have Hf := hide hf
  have Hs := hide hs
  have Hn := hide hn
  clear hty hl hf hs hn
  go_enter Tryd.func4, Tryd.ntmps4
  go_wp2_with fail
  refine HA.out.mono ?_
  rintro e w1 ⟨rfl, hb⟩
  have HB1 := hide hb
  have Hsr := hide (Hs.out.below hb)
  have HN := hide (St.new_five w1)
  clear hb HA Hs
  go_wp2_with fail
  generalize World.alloc _ _ = w3 at *
  have HS3 := hide HN.out
  clear HN
  generalize w1.heap.size + 1 + 1 + 1 + 1 = g0 at *
  generalize w1.heap.size + 1 = p1 at *
  generalize w1.heap.size = p at *
  go_loopw [5, 6, 35] (fun nv ev jv wr => ∃ k : Nat, k ≤ n ∧ jv = .int .i64 (k : Int) ∧ ∃ (N : Int) (f : Fen) (σ : Nat → Sit), nv = .int .i64 N ∧ ev = .int .i64 f.l ∧ Hid (N ≤ 16 * (k : Int)) ∧ Hid (f.l ≤ (k : Int)) ∧ Hid (LInv N f σ) ∧ Hid (St w1 (Ts1 p p1 g0 f σ) wr)) (fun _ _ jv _ => n - (intOf jv).toNat)
  case atStart => exact ⟨0, Nat.zero_le _, rfl, 0, f0, fun _ => s0, rfl, rfl, by simp [Hid], by simp [Hid, f0], LInv.start, HS3.out⟩
  case round =>
    clear HS3
    obtain ⟨k, hk, rfl, N, f, σ, rfl, rfl, hN, hL, hI, hst⟩ := hrel
    rcases Nat.lt_or_ge k n with hlt | hge
    · have Hlt := hide hlt
      have hki : (k : Int) < (n : Int) := by omega
      obtain ⟨o1, ho⟩ : ∃ o1, l[k]? = some o1 := ⟨_, List.getElem?_eq_getElem (by rw [Hl.out]; exact hlt)⟩
      obtain ⟨g, o, rfl, hg, hat⟩ := Src.tick (Hsr.out.below hst.out.bel) ho
      have hfit := Hf.out o1 (List.mem_of_getElem? ho)
      have HQ : Hid (∀ W, St w1 [] W → TAt W g (o + k * 5) o1) := fun W hW => by
        obtain ⟨g', o', e', -, h'⟩ := Src.tick (Hsr.out.below hW.bel) ho
        cases e'
        exact h'
      obtain ⟨qd, qe, qw, qg, qn⟩ := o1
      have a0 := hat.do_
      have a1 := hat.e
      have a2 := hat.who
      have a3 := hat.go_
      have a4 := hat.newest
      have He := hide (show I64 qe from hfit.2.1)
      have hw0 : 0 ≤ qw := hfit.2.2.1.1
      have hw1 : qw < 256 := hfit.2.2.1.2
      have hg0 : 0 ≤ qg := hfit.2.2.2.1
      have hg1 : qg < 256 := hfit.2.2.2.2
      have n0 := hI.out.n0
      have nb : N ≤ 4800 := by have := hN.out; have := Hn.out; omega
      have lb : f.l ≤ 300 := by have := hL.out; have := Hn.out; omega
      simp only at a0 a1 a2 a3 a4
      clear hk hlt ho hg hat hfit
      by_cases h1 : qd = 1
      · subst h1
        have hlt1 : f.l < 1073741824 := by omega
        obtain ⟨fz, hfz⟩ : ∃ fz, f.prom N = fz := ⟨_, rfl⟩
        obtain ⟨L2, hL2⟩ : ∃ L2, fz.l = L2 := ⟨_, rfl⟩
        have hl2 : f.l + 1 = L2 := by rw [← hL2, ← hfz, Fen.prom_ok hlt1]
        have l0 := hI.out.fo.l0
        obtain ⟨M, hM⟩ : ∃ M, max (tk f.t N) f.u = M := ⟨_, rfl⟩
        have hMN : ¬ M < N := by have := hI.out.tk_f; omega
        have HP := hide (S_prom_is hst.out (i := 0) rfl hI.out.fo N hlt1 hl2 hM hfz)
        have HI2 : Hid (LInv N fz σ) := by rw [← hfz]; exact hI.out.prom hlt1
        have HL2 : Hid (fz.l ≤ (k : Int) + 1) := by have := hL.out; simp only [Hid]; omega
        have HLL := hide hL2
        have lb2 : L2 ≤ 301 := by omega
        have l02 : 1 ≤ L2 := by omega
        clear hI hst hL hM hlt1 hfz hL2
        go_wp2_with fail
        refine HP.out.mono ?_
        rintro e w5 ⟨rfl, hS⟩
        have HS5 := hide (show St w1 (Ts1 p p1 g0 fz σ) w5 from hS)
        clear hS HP
        have HQ5 := (HQ.out _ (St.weaken (Ts := []) HS5.out)).go_
        simp only at HQ5
        obtain ⟨m, hm⟩ : ∃ m, qg.tmod 16 = m := ⟨_, rfl⟩
        have hm2 := hm
        rw [Int.tmod_eq_emod_of_nonneg hg0] at hm2
        obtain ⟨G, hG⟩ : ∃ G : Nat, (G : Int) = m + 1 := ⟨(m + 1).toNat, by omega⟩
        have hG1 : m + 1 = (G : Int) := hG.symm
        have hGb : (G : Int) ≤ 16 := by omega
        have hG0 : (0 : Int) ≤ (G : Int) := by omega
        have HGb := hide hGb
        clear hm2 hG
        go_wp2_with fail
        go_loopw [5, 106] (fun nv cv wr => ∃ c9 : Nat, c9 ≤ G ∧ cv = .int .u8 (c9 : Int) ∧ ∃ (N1 : Int) (f1 : Fen) (σ1 : Nat → Sit), nv = .int .i64 N1 ∧ Hid (N1 = N + (c9 : Int)) ∧ Hid (f1.l = fz.l) ∧ Hid (LInv N1 f1 σ1) ∧ Hid (St w1 (Ts1 p p1 g0 f1 σ1) wr)) (fun _ cv _ => G - (intOf cv).toNat)
        case atStart => exact ⟨0, Nat.zero_le _, rfl, N, fz, σ, rfl, by simp [Hid], rfl, HI2.out, HS5.out⟩
        case round =>
          clear HI2 HS5 HQ5
          obtain ⟨c9, hc9, rfl, N1, f1, σ1, rfl, hN1, hf1, hI1, hst1⟩ := hrel
          rcases Nat.lt_or_ge c9 G with hlt | hge
          · have Hlt9 := hide hlt
            have hci : (c9 : Int) < (G : Int) := by omega
            have m0 : 0 ≤ N1 := hI1.out.n0
            have m1 : N1 ≤ 4816 := by have := hN1.out; omega
            clear hlt hc9
            go_wp2_with fail
            go_loopw [12, 110] (fun av jv wr => ∃ r : Nat, r ≤ 3 ∧ jv = .int .i64 (r : Int) ∧ ∃ (a : Int) (f2 : Fen) (σ2 : Nat → Sit), av = .int .i64 a ∧ Hid (f2.l = fz.l) ∧ Hid (LInv N1 f2 σ2) ∧ Hid (Ack N1 σ2 a) ∧ Hid (St w1 (Ts1 p p1 g0 f2 σ2) wr)) (fun _ jv _ => 3 - (intOf jv).toNat)
            case atStart => exact ⟨0, Nat.zero_le _, rfl, 0, f1, σ1, rfl, hf1.out, hI1.out, Or.inl rfl, hst1.out⟩
            case round =>
              clear hI1 hst1 hf1
              obtain ⟨r, hr, rfl, a, f2, σ2, rfl, hf2, hI2, ha2, hst2⟩ := hrel
              rcases Nat.lt_or_ge r 3 with hlt | hge
              · have Hr := hide hlt
                have hri : (r : Int) < 3 := by omega
                have hp := Ts1.ptr hst2.out hlt
                obtain ⟨s, hs⟩ : ∃ s, σ2 r = s := ⟨_, rfl⟩
                have HGET : Hid (∀ f, (Ts1 p p1 g0 f σ2)[r + 1]? = some (sitT (p1 + r) s)) := fun f => by rw [← hs]; exact Ts1.get Hr.out
                have htk := hI2.out.tk_s hlt
                rw [hs] at htk
                have HI3 : Hid (LInv N1 f2 (upd σ2 r (s.tick N1))) := by rw [← hs]; exact hI2.out.tickS hlt
                have HA3 : Hid (Ack N1 (upd σ2 r (s.tick N1)) a) := ha2.out.keep (by rw [hs]; rfl) (by rw [hs]; rfl)
                have hup : upd σ2 r (s.tick N1) r = s.tick N1 := upd_same _ _ _
                obtain ⟨T2, E2, U2⟩ := s
                have HC := Sit.cE_cases ⟨T2, E2, U2⟩ N1 htk
                simp only at HC
                have HFL := hide hI2.out.tk_f
                have HAG : Hid (E2 ≠ 0 → N1 < U2 → a = 0 ∨ a = E2) := fun h1 h2 => by
                  rcases HA3.out with h | ⟨j, hj, ha, hb, hc⟩
                  · exact Or.inl h
                  · right
                    have := HI3.out.agree hj Hr.out (by rw [← ha]; exact hb) hc (by rw [hup]; exact h1) (by rw [hup]; exact h2)
                    rw [hup] at this
                    rw [ha, this]
                    rfl
                have HHO : Hid (E2 ≠ 0 → N1 < U2 → f2.hold N1 = 0 ∨ f2.hold N1 = E2) := fun h1 h2 => by
                  have := HI3.out.hold Hr.out (by rw [hup]; exact h1) (by rw [hup]; exact h2)
                  rw [hup] at this
                  exact this
                clear hlt hr hup htk hs ha2
                go_wp2_with fail
                refine (S_epoch hst2.out (HGET.out f2)).mono ?_
                rintro e w6 ⟨rfl, hS⟩
                have hp6 := Ts1.ptr hS Hr.out
                rcases HC with ⟨h1, h2, h3⟩ | h1
                · have HCK := hide (Calls.ok (S_check_is hS (HGET.out f2) E2 N1 (k := 0) h1 rfl))
                  have hE0 : (E2 != 0) = true := by simp [h2]
                  have HAK : Hid (Ack N1 (upd σ2 r (Sit.tick ⟨T2, E2, U2⟩ N1)) E2) := Or.inr ⟨r, Hr.out, by rw [upd_same]; rfl, h2, by rw [upd_same]; exact h3⟩
                  have ha := HAG.out h2 h3
                  have hh := HHO.out h2 h3
                  have HH0 := hide h2
                  clear h1 h2 h3 hp hst2 hS HAG HHO HA3
                  go_wp2_with fail
                  refine HCK.out.mono ?_
                  rintro e w7 ⟨rfl, hS⟩
                  rw [Ts1.put Hr.out] at hS
                  have HS7 := hide hS
                  clear hS HCK hp6
                  have HO1 := hide (S_holds_is HS7.out (i := 0) rfl N1 (k := f2.hold N1) rfl rfl)
                  have HO2 : Hid (∀ W, St w1 (Ts1 p p1 g0 (f2.tick N1) (upd σ2 r (Sit.tick ⟨T2, E2, U2⟩ N1))) W → Calls Tryd.prog 19 #[.pointer (some ⟨p, 0, none⟩), .int .i64 N1] W fun e w' => e = .returned (.int .i64 (f2.hold N1)) ∧ St w1 (Ts1 p p1 g0 ((f2.tick N1).tick N1) (upd σ2 r (Sit.tick ⟨T2, E2, U2⟩ N1))) w') := fun W hW =>
                    S_holds_is hW (i := 0) rfl N1 (k := f2.hold N1) (Fen.hold_tick HFL.out) rfl
                  generalize f2.hold N1 = Ho at *
                  rcases ha with rfl | rfl
                  · rcases hh with rfl | rfl
                    · go_wp2_with fail
                      refine HO1.out.mono ?_
                      rintro e w8 ⟨rfl, hS⟩
                      have HS8 := hide hS
                      clear hS HO1 HO2 HS7
                      go_wp2
                      go_roundw
                      case rel => exact ⟨r + 1, Hr.out, by go_num, _, f2.tick N1, _, rfl, hf2.out, HI3.out.tickF, HAK.out, HS8.out⟩
                      case measure => have := Hr.out; simp [intOf]; omega
                    · go_wp2_with fail
                      refine HO1.out.mono ?_
                      rintro e w8 ⟨rfl, hS⟩
                      have HO3 := hide (HO2.out w8 hS)
                      clear hS HO1 HO2 HS7
                      go_wp2_with fail
                      refine HO3.out.mono ?_
                      rintro e w9 ⟨rfl, hS⟩
                      have HS9 := hide hS
                      clear hS HO3
                      go_wp2
                      go_roundw
                      case rel => exact ⟨r + 1, Hr.out, by go_num, _, (f2.tick N1).tick N1, _, rfl, hf2.out, HI3.out.tickF.tickF, HAK.out, HS9.out⟩
                      case measure => have := Hr.out; simp [intOf]; omega
                  · rcases hh with rfl | rfl
                    · go_wp2_with fail
                      refine HO1.out.mono ?_
                      rintro e w8 ⟨rfl, hS⟩
                      have HS8 := hide hS
                      clear hS HO1 HO2 HS7
                      go_wp2
                      go_roundw
                      case rel => exact ⟨r + 1, Hr.out, by go_num, _, f2.tick N1, _, rfl, hf2.out, HI3.out.tickF, HAK.out, HS8.out⟩
                      case measure => have := Hr.out; simp [intOf]; omega
                    · go_wp2_with fail
                      refine HO1.out.mono ?_
                      rintro e w8 ⟨rfl, hS⟩
                      have HO3 := hide (HO2.out w8 hS)
                      clear hS HO1 HO2 HS7
                      go_wp2_with fail
                      refine HO3.out.mono ?_
                      rintro e w9 ⟨rfl, hS⟩
                      have HS9 := hide hS
                      clear hS HO3
                      go_wp2
                      go_roundw
                      case rel => exact ⟨r + 1, Hr.out, by go_num, _, (f2.tick N1).tick N1, _, rfl, hf2.out, HI3.out.tickF.tickF, HAK.out, HS9.out⟩
                      case measure => have := Hr.out; simp [intOf]; omega
                · have HCK := hide (Calls.no (S_check_is hS (HGET.out f2) E2 N1 (k := Sit.cE ⟨T2, E2, U2⟩ E2 N1) rfl rfl) h1)
                  clear h1 hp hst2 hS HAG HHO
                  go_wp2_with fail
                  refine HCK.out.mono ?_
                  rintro e w7 ⟨p7, rfl, -, hS⟩
                  rw [Ts1.put Hr.out] at hS
                  have HS7 := hide hS
                  clear hS HCK hp6
                  go_wp2
                  go_roundw
                  case rel => exact ⟨r + 1, Hr.out, by go_num, a, f2, _, rfl, hf2.out, HI3.out, HA3.out, HS7.out⟩
                  case measure => have := Hr.out; simp [intOf]; omega
              · obtain rfl : r = 3 := by omega
                have HI3 := hide (hI2.out.next (by omega))
                have HS3 := hide hst2.out
                have HN3 : Hid (N1 + 1 = N + ((c9 : Int) + 1)) := by have := hN1.out; simp only [Hid]; omega
                have hcw : IntKind.u8.wrap ((c9 : Int) + 1) = (c9 : Int) + 1 := by rw [show IntKind.u8.wrap ((c9 : Int) + 1) = ((c9 : Int) + 1) % 256 from rfl]; omega
                clear hge hr hI2 ha2 hst2 hN1
                go_wp2
                go_roundw
                case rel => exact ⟨c9 + 1, Hlt9.out, by go_num, N1 + 1, f2, σ2, rfl, by simp only [Hid]; have := HN3.out; omega, hf2.out, HI3.out, HS3.out⟩
                case measure => have := Hlt9.out; simp [intOf]; omega
          · obtain rfl : c9 = G := by omega
            have HN3 : Hid (N1 ≤ 16 * ((k : Int) + 1)) := by have := hN1.out; have := hN.out; have := HGb.out; simp only [Hid]; omega
            have HL3 : Hid (f1.l ≤ (k : Int) + 1) := by have := hf1.out; have := HL2.out; simp only [Hid]; omega
            clear hge hc9 hN1 hN HL2
            go_wp2
            go_roundw
            case rel => exact ⟨k + 1, Hlt.out, by go_num, N1, f1, σ1, rfl, by rw [hf1.out, HLL.out], by have := HN3.out; simp only [Hid]; omega, by have := HL3.out; simp only [Hid]; omega, hI1.out, hst1.out⟩
            case measure => have := Hlt.out; simp [intOf]; omega
      · have e1 : (qd == 1) = false := by simpa using h1
        by_cases h2 : qd = 2
        · subst h2
          clear e1 h1
          obtain ⟨ri, hri⟩ : ∃ ri, qw.tmod 3 = ri := ⟨_, rfl⟩
          have hri2 := hri
          rw [Int.tmod_eq_emod_of_nonneg hw0] at hri2
          obtain ⟨r, hrr⟩ : ∃ r : Nat, (r : Int) = ri := ⟨ri.toNat, by omega⟩
          subst hrr
          have Hr := hide (show r < 3 by omega)
          have hr3 : (r : Int) < 3 := by omega
          clear hri2
          cases qn with
          | true =>
            have htkf := hI.out.tk_f
            rcases Fen.rE_cases f f.l N htkf with hc | hc
            · obtain ⟨hr0, hel, hl0, hff⟩ := hc
              obtain ⟨fz, hfz⟩ : ∃ fz : Fen, fz = ⟨N, f.l, f.f, N + 10⟩ := ⟨_, rfl⟩
              have HR := hide (Calls.ok (S_renew_is hst.out (i := 0) rfl hI.out.fo f.l N (k := 0) hr0 (s' := fz) (by rw [hfz, hel, Fen.renew_ok hl0 (by rw [htkf]; exact hff), htkf])))
              have HG : Hid (∀ W, St w1 (Ts1 p p1 g0 fz σ) W → Calls Tryd.prog 11 #[.pointer (some ⟨p1 + r, 0, none⟩), .int .i64 f.l, .int .i64 N] W fun e w' => e = .returned .nilIface ∧ St w1 (Ts1 p p1 g0 fz (upd σ r ⟨N, f.l, N + 10⟩)) w') := fun W hW => by
                have el := hI.out.el r Hr.out
                have l0 := hI.out.fo.l0
                have h := Calls.ok (S_grant_is hW (Ts1.get Hr.out) (hI.out.so r Hr.out) f.l N (k := 0) (Sit.gE_zero (by omega) (by omega)) (s' := ⟨N, f.l, N + 10⟩) (by rw [Sit.grant_ok (by omega) (by omega), hI.out.tk_s Hr.out, hel]))
                rw [Ts1.put Hr.out] at h
                exact h
              have HI2 : Hid (LInv N fz (upd σ r ⟨N, f.l, N + 10⟩)) := by rw [hfz]; exact hI.out.grant Hr.out hl0 hff
              have HLL : Hid (fz.l = f.l) := by rw [hfz]; rfl
              have HL2 : Hid (fz.l ≤ (k : Int) + 1) := by have h5 := hL.out; have h6 : fz.l = f.l := HLL.out; simp only [Hid]; omega
              clear hI hst hL hr0 hel hl0 hff htkf hfz
              go_wp2_with fail
              refine HR.out.mono ?_
              rintro e w4 ⟨rfl, hS⟩
              have hS' : St w1 (Ts1 p p1 g0 fz σ) w4 := hS
              have b2 := (HQ.out _ (St.weaken (Ts := []) hS')).who
              have b3 := Ts1.ptr hS' Hr.out
              have HG4 := hide (HG.out w4 hS')
              simp only at b2
              clear hS hS' HR HG
              go_wp2_with fail
              refine HG4.out.mono ?_
              rintro e w5 ⟨rfl, hS⟩
              have HS5 := hide hS
              clear hS HG4 b2 b3
              have HQ5 := (HQ.out _ (St.weaken (Ts := []) HS5.out)).go_
              simp only at HQ5
              obtain ⟨m, hm⟩ : ∃ m, qg.tmod 16 = m := ⟨_, rfl⟩
              have hm2 := hm
              rw [Int.tmod_eq_emod_of_nonneg hg0] at hm2
              obtain ⟨G, hG⟩ : ∃ G : Nat, (G : Int) = m + 1 := ⟨(m + 1).toNat, by omega⟩
              have hG1 : m + 1 = (G : Int) := hG.symm
              have hGb : (G : Int) ≤ 16 := by omega
              have hG0 : (0 : Int) ≤ (G : Int) := by omega
              have HGb := hide hGb
              clear hm2 hG
              go_wp2_with fail
              go_loopw [5, 106] (fun nv cv wr => ∃ c9 : Nat, c9 ≤ G ∧ cv = .int .u8 (c9 : Int) ∧ ∃ (N1 : Int) (f1 : Fen) (σ1 : Nat → Sit), nv = .int .i64 N1 ∧ Hid (N1 = N + (c9 : Int)) ∧ Hid (f1.l = fz.l) ∧ Hid (LInv N1 f1 σ1) ∧ Hid (St w1 (Ts1 p p1 g0 f1 σ1) wr)) (fun _ cv _ => G - (intOf cv).toNat)
              case atStart => exact ⟨0, Nat.zero_le _, rfl, N, fz, (upd σ r ⟨N, f.l, N + 10⟩), rfl, by simp [Hid], rfl, HI2.out, HS5.out⟩
              case round =>
                clear HI2 HS5 HQ5
                obtain ⟨c9, hc9, rfl, N1, f1, σ1, rfl, hN1, hf1, hI1, hst1⟩ := hrel
                rcases Nat.lt_or_ge c9 G with hlt | hge
                · have Hlt9 := hide hlt
                  have hci : (c9 : Int) < (G : Int) := by omega
                  have m0 : 0 ≤ N1 := hI1.out.n0
                  have m1 : N1 ≤ 4816 := by have := hN1.out; omega
                  clear hlt hc9
                  go_wp2_with fail
                  go_loopw [12, 110] (fun av jv wr => ∃ r : Nat, r ≤ 3 ∧ jv = .int .i64 (r : Int) ∧ ∃ (a : Int) (f2 : Fen) (σ2 : Nat → Sit), av = .int .i64 a ∧ Hid (f2.l = fz.l) ∧ Hid (LInv N1 f2 σ2) ∧ Hid (Ack N1 σ2 a) ∧ Hid (St w1 (Ts1 p p1 g0 f2 σ2) wr)) (fun _ jv _ => 3 - (intOf jv).toNat)
                  case atStart => exact ⟨0, Nat.zero_le _, rfl, 0, f1, σ1, rfl, hf1.out, hI1.out, Or.inl rfl, hst1.out⟩
                  case round =>
                    clear hI1 hst1 hf1
                    obtain ⟨r, hr, rfl, a, f2, σ2, rfl, hf2, hI2, ha2, hst2⟩ := hrel
                    rcases Nat.lt_or_ge r 3 with hlt | hge
                    · have Hr := hide hlt
                      have hri : (r : Int) < 3 := by omega
                      have hp := Ts1.ptr hst2.out hlt
                      obtain ⟨s, hs⟩ : ∃ s, σ2 r = s := ⟨_, rfl⟩
                      have HGET : Hid (∀ f, (Ts1 p p1 g0 f σ2)[r + 1]? = some (sitT (p1 + r) s)) := fun f => by rw [← hs]; exact Ts1.get Hr.out
                      have htk := hI2.out.tk_s hlt
                      rw [hs] at htk
                      have HI3 : Hid (LInv N1 f2 (upd σ2 r (s.tick N1))) := by rw [← hs]; exact hI2.out.tickS hlt
                      have HA3 : Hid (Ack N1 (upd σ2 r (s.tick N1)) a) := ha2.out.keep (by rw [hs]; rfl) (by rw [hs]; rfl)
                      have hup : upd σ2 r (s.tick N1) r = s.tick N1 := upd_same _ _ _
                      obtain ⟨T2, E2, U2⟩ := s
                      have HC := Sit.cE_cases ⟨T2, E2, U2⟩ N1 htk
                      simp only at HC
                      have HFL := hide hI2.out.tk_f
                      have HAG : Hid (E2 ≠ 0 → N1 < U2 → a = 0 ∨ a = E2) := fun h1 h2 => by
                        rcases HA3.out with h | ⟨j, hj, ha, hb, hc⟩
                        · exact Or.inl h
                        · right
                          have := HI3.out.agree hj Hr.out (by rw [← ha]; exact hb) hc (by rw [hup]; exact h1) (by rw [hup]; exact h2)
                          rw [hup] at this
                          rw [ha, this]
                          rfl
                      have HHO : Hid (E2 ≠ 0 → N1 < U2 → f2.hold N1 = 0 ∨ f2.hold N1 = E2) := fun h1 h2 => by
                        have := HI3.out.hold Hr.out (by rw [hup]; exact h1) (by rw [hup]; exact h2)
                        rw [hup] at this
                        exact this
                      clear hlt hr hup htk hs ha2
                      go_wp2_with fail
                      refine (S_epoch hst2.out (HGET.out f2)).mono ?_
                      rintro e w6 ⟨rfl, hS⟩
                      have hp6 := Ts1.ptr hS Hr.out
                      rcases HC with ⟨h1, h2, h3⟩ | h1
                      · have HCK := hide (Calls.ok (S_check_is hS (HGET.out f2) E2 N1 (k := 0) h1 rfl))
                        have hE0 : (E2 != 0) = true := by simp [h2]
                        have HAK : Hid (Ack N1 (upd σ2 r (Sit.tick ⟨T2, E2, U2⟩ N1)) E2) := Or.inr ⟨r, Hr.out, by rw [upd_same]; rfl, h2, by rw [upd_same]; exact h3⟩
                        have ha := HAG.out h2 h3
                        have hh := HHO.out h2 h3
                        have HH0 := hide h2
                        clear h1 h2 h3 hp hst2 hS HAG HHO HA3
                        go_wp2_with fail
                        refine HCK.out.mono ?_
                        rintro e w7 ⟨rfl, hS⟩
                        rw [Ts1.put Hr.out] at hS
                        have HS7 := hide hS
                        clear hS HCK hp6
                        have HO1 := hide (S_holds_is HS7.out (i := 0) rfl N1 (k := f2.hold N1) rfl rfl)
                        have HO2 : Hid (∀ W, St w1 (Ts1 p p1 g0 (f2.tick N1) (upd σ2 r (Sit.tick ⟨T2, E2, U2⟩ N1))) W → Calls Tryd.prog 19 #[.pointer (some ⟨p, 0, none⟩), .int .i64 N1] W fun e w' => e = .returned (.int .i64 (f2.hold N1)) ∧ St w1 (Ts1 p p1 g0 ((f2.tick N1).tick N1) (upd σ2 r (Sit.tick ⟨T2, E2, U2⟩ N1))) w') := fun W hW =>
                          S_holds_is hW (i := 0) rfl N1 (k := f2.hold N1) (Fen.hold_tick HFL.out) rfl
                        generalize f2.hold N1 = Ho at *
                        rcases ha with rfl | rfl
                        · rcases hh with rfl | rfl
                          · go_wp2_with fail
                            refine HO1.out.mono ?_
                            rintro e w8 ⟨rfl, hS⟩
                            have HS8 := hide hS
                            clear hS HO1 HO2 HS7
                            go_wp2
                            go_roundw
                            case rel => exact ⟨r + 1, Hr.out, by go_num, _, f2.tick N1, _, rfl, hf2.out, HI3.out.tickF, HAK.out, HS8.out⟩
                            case measure => have := Hr.out; simp [intOf]; omega
                          · go_wp2_with fail
                            refine HO1.out.mono ?_
                            rintro e w8 ⟨rfl, hS⟩
                            have HO3 := hide (HO2.out w8 hS)
                            clear hS HO1 HO2 HS7
                            go_wp2_with fail
                            refine HO3.out.mono ?_
                            rintro e w9 ⟨rfl, hS⟩
                            have HS9 := hide hS
                            clear hS HO3
                            go_wp2
                            go_roundw
                            case rel => exact ⟨r + 1, Hr.out, by go_num, _, (f2.tick N1).tick N1, _, rfl, hf2.out, HI3.out.tickF.tickF, HAK.out, HS9.out⟩
                            case measure => have := Hr.out; simp [intOf]; omega
                        · rcases hh with rfl | rfl
                          · go_wp2_with fail
                            refine HO1.out.mono ?_
                            rintro e w8 ⟨rfl, hS⟩
                            have HS8 := hide hS
                            clear hS HO1 HO2 HS7
                            go_wp2
                            go_roundw
                            case rel => exact ⟨r + 1, Hr.out, by go_num, _, f2.tick N1, _, rfl, hf2.out, HI3.out.tickF, HAK.out, HS8.out⟩
                            case measure => have := Hr.out; simp [intOf]; omega
                          · go_wp2_with fail
                            refine HO1.out.mono ?_
                            rintro e w8 ⟨rfl, hS⟩
                            have HO3 := hide (HO2.out w8 hS)
                            clear hS HO1 HO2 HS7
                            go_wp2_with fail
                            refine HO3.out.mono ?_
                            rintro e w9 ⟨rfl, hS⟩
                            have HS9 := hide hS
                            clear hS HO3
                            go_wp2
                            go_roundw
                            case rel => exact ⟨r + 1, Hr.out, by go_num, _, (f2.tick N1).tick N1, _, rfl, hf2.out, HI3.out.tickF.tickF, HAK.out, HS9.out⟩
                            case measure => have := Hr.out; simp [intOf]; omega
                      · have HCK := hide (Calls.no (S_check_is hS (HGET.out f2) E2 N1 (k := Sit.cE ⟨T2, E2, U2⟩ E2 N1) rfl rfl) h1)
                        clear h1 hp hst2 hS HAG HHO
                        go_wp2_with fail
                        refine HCK.out.mono ?_
                        rintro e w7 ⟨p7, rfl, -, hS⟩
                        rw [Ts1.put Hr.out] at hS
                        have HS7 := hide hS
                        clear hS HCK hp6
                        go_wp2
                        go_roundw
                        case rel => exact ⟨r + 1, Hr.out, by go_num, a, f2, _, rfl, hf2.out, HI3.out, HA3.out, HS7.out⟩
                        case measure => have := Hr.out; simp [intOf]; omega
                    · obtain rfl : r = 3 := by omega
                      have HI3 := hide (hI2.out.next (by omega))
                      have HS3 := hide hst2.out
                      have HN3 : Hid (N1 + 1 = N + ((c9 : Int) + 1)) := by have := hN1.out; simp only [Hid]; omega
                      have hcw : IntKind.u8.wrap ((c9 : Int) + 1) = (c9 : Int) + 1 := by rw [show IntKind.u8.wrap ((c9 : Int) + 1) = ((c9 : Int) + 1) % 256 from rfl]; omega
                      clear hge hr hI2 ha2 hst2 hN1
                      go_wp2
                      go_roundw
                      case rel => exact ⟨c9 + 1, Hlt9.out, by go_num, N1 + 1, f2, σ2, rfl, by simp only [Hid]; have := HN3.out; omega, hf2.out, HI3.out, HS3.out⟩
                      case measure => have := Hlt9.out; simp [intOf]; omega
                · obtain rfl : c9 = G := by omega
                  have HN3 : Hid (N1 ≤ 16 * ((k : Int) + 1)) := by have := hN1.out; have := hN.out; have := HGb.out; simp only [Hid]; omega
                  have HL3 : Hid (f1.l ≤ (k : Int) + 1) := by have := hf1.out; have := HL2.out; simp only [Hid]; omega
                  clear hge hc9 hN1 hN HL2
                  go_wp2
                  go_roundw
                  case rel => exact ⟨k + 1, Hlt.out, by go_num, N1, f1, σ1, rfl, by rw [hf1.out, HLL.out], by have := HN3.out; simp only [Hid]; omega, by have := HL3.out; simp only [Hid]; omega, hI1.out, hst1.out⟩
                  case measure => have := Hlt.out; simp [intOf]; omega
            · have HR := hide (Calls.no (S_renew_is hst.out (i := 0) rfl hI.out.fo f.l N (k := f.rE f.l N) rfl (s' := f.tick N) (Fen.renew_no hc)) hc)
              have HI2 := hide hI.out.tickF
              have HL2 : Hid ((f.tick N).l ≤ (k : Int) + 1) := by have := hL.out; show f.l ≤ (k : Int) + 1; omega
              clear hI hst hL hc htkf
              go_wp2_with fail
              refine HR.out.mono ?_
              rintro e w5 ⟨p5, rfl, -, hS⟩
              have HS5 := hide (show St w1 (Ts1 p p1 g0 (f.tick N) σ) w5 from hS)
              have HLL : Hid ((f.tick N).l = f.l) := rfl
              clear hS HR
              generalize f.tick N = fz at HI2 HL2 HS5 HLL
              have HQ5 := (HQ.out _ (St.weaken (Ts := []) HS5.out)).go_
              simp only at HQ5
              obtain ⟨m, hm⟩ : ∃ m, qg.tmod 16 = m := ⟨_, rfl⟩
              have hm2 := hm
              rw [Int.tmod_eq_emod_of_nonneg hg0] at hm2
              obtain ⟨G, hG⟩ : ∃ G : Nat, (G : Int) = m + 1 := ⟨(m + 1).toNat, by omega⟩
              have hG1 : m + 1 = (G : Int) := hG.symm
              have hGb : (G : Int) ≤ 16 := by omega
              have hG0 : (0 : Int) ≤ (G : Int) := by omega
              have HGb := hide hGb
              clear hm2 hG
              go_wp2_with fail
              go_loopw [5, 106] (fun nv cv wr => ∃ c9 : Nat, c9 ≤ G ∧ cv = .int .u8 (c9 : Int) ∧ ∃ (N1 : Int) (f1 : Fen) (σ1 : Nat → Sit), nv = .int .i64 N1 ∧ Hid (N1 = N + (c9 : Int)) ∧ Hid (f1.l = fz.l) ∧ Hid (LInv N1 f1 σ1) ∧ Hid (St w1 (Ts1 p p1 g0 f1 σ1) wr)) (fun _ cv _ => G - (intOf cv).toNat)
              case atStart => exact ⟨0, Nat.zero_le _, rfl, N, fz, σ, rfl, by simp [Hid], rfl, HI2.out, HS5.out⟩
              case round =>
                clear HI2 HS5 HQ5
                obtain ⟨c9, hc9, rfl, N1, f1, σ1, rfl, hN1, hf1, hI1, hst1⟩ := hrel
                rcases Nat.lt_or_ge c9 G with hlt | hge
                · have Hlt9 := hide hlt
                  have hci : (c9 : Int) < (G : Int) := by omega
                  have m0 : 0 ≤ N1 := hI1.out.n0
                  have m1 : N1 ≤ 4816 := by have := hN1.out; omega
                  clear hlt hc9
                  go_wp2_with fail
                  go_loopw [12, 110] (fun av jv wr => ∃ r : Nat, r ≤ 3 ∧ jv = .int .i64 (r : Int) ∧ ∃ (a : Int) (f2 : Fen) (σ2 : Nat → Sit), av = .int .i64 a ∧ Hid (f2.l = fz.l) ∧ Hid (LInv N1 f2 σ2) ∧ Hid (Ack N1 σ2 a) ∧ Hid (St w1 (Ts1 p p1 g0 f2 σ2) wr)) (fun _ jv _ => 3 - (intOf jv).toNat)
                  case atStart => exact ⟨0, Nat.zero_le _, rfl, 0, f1, σ1, rfl, hf1.out, hI1.out, Or.inl rfl, hst1.out⟩
                  case round =>
                    clear hI1 hst1 hf1
                    obtain ⟨r, hr, rfl, a, f2, σ2, rfl, hf2, hI2, ha2, hst2⟩ := hrel
                    rcases Nat.lt_or_ge r 3 with hlt | hge
                    · have Hr := hide hlt
                      have hri : (r : Int) < 3 := by omega
                      have hp := Ts1.ptr hst2.out hlt
                      obtain ⟨s, hs⟩ : ∃ s, σ2 r = s := ⟨_, rfl⟩
                      have HGET : Hid (∀ f, (Ts1 p p1 g0 f σ2)[r + 1]? = some (sitT (p1 + r) s)) := fun f => by rw [← hs]; exact Ts1.get Hr.out
                      have htk := hI2.out.tk_s hlt
                      rw [hs] at htk
                      have HI3 : Hid (LInv N1 f2 (upd σ2 r (s.tick N1))) := by rw [← hs]; exact hI2.out.tickS hlt
                      have HA3 : Hid (Ack N1 (upd σ2 r (s.tick N1)) a) := ha2.out.keep (by rw [hs]; rfl) (by rw [hs]; rfl)
                      have hup : upd σ2 r (s.tick N1) r = s.tick N1 := upd_same _ _ _
                      obtain ⟨T2, E2, U2⟩ := s
                      have HC := Sit.cE_cases ⟨T2, E2, U2⟩ N1 htk
                      simp only at HC
                      have HFL := hide hI2.out.tk_f
                      have HAG : Hid (E2 ≠ 0 → N1 < U2 → a = 0 ∨ a = E2) := fun h1 h2 => by
                        rcases HA3.out with h | ⟨j, hj, ha, hb, hc⟩
                        · exact Or.inl h
                        · right
                          have := HI3.out.agree hj Hr.out (by rw [← ha]; exact hb) hc (by rw [hup]; exact h1) (by rw [hup]; exact h2)
                          rw [hup] at this
                          rw [ha, this]
                          rfl
                      have HHO : Hid (E2 ≠ 0 → N1 < U2 → f2.hold N1 = 0 ∨ f2.hold N1 = E2) := fun h1 h2 => by
                        have := HI3.out.hold Hr.out (by rw [hup]; exact h1) (by rw [hup]; exact h2)
                        rw [hup] at this
                        exact this
                      clear hlt hr hup htk hs ha2
                      go_wp2_with fail
                      refine (S_epoch hst2.out (HGET.out f2)).mono ?_
                      rintro e w6 ⟨rfl, hS⟩
                      have hp6 := Ts1.ptr hS Hr.out
                      rcases HC with ⟨h1, h2, h3⟩ | h1
                      · have HCK := hide (Calls.ok (S_check_is hS (HGET.out f2) E2 N1 (k := 0) h1 rfl))
                        have hE0 : (E2 != 0) = true := by simp [h2]
                        have HAK : Hid (Ack N1 (upd σ2 r (Sit.tick ⟨T2, E2, U2⟩ N1)) E2) := Or.inr ⟨r, Hr.out, by rw [upd_same]; rfl, h2, by rw [upd_same]; exact h3⟩
                        have ha := HAG.out h2 h3
                        have hh := HHO.out h2 h3
                        have HH0 := hide h2
                        clear h1 h2 h3 hp hst2 hS HAG HHO HA3
                        go_wp2_with fail
                        refine HCK.out.mono ?_
                        rintro e w7 ⟨rfl, hS⟩
                        rw [Ts1.put Hr.out] at hS
                        have HS7 := hide hS
                        clear hS HCK hp6
                        have HO1 := hide (S_holds_is HS7.out (i := 0) rfl N1 (k := f2.hold N1) rfl rfl)
                        have HO2 : Hid (∀ W, St w1 (Ts1 p p1 g0 (f2.tick N1) (upd σ2 r (Sit.tick ⟨T2, E2, U2⟩ N1))) W → Calls Tryd.prog 19 #[.pointer (some ⟨p, 0, none⟩), .int .i64 N1] W fun e w' => e = .returned (.int .i64 (f2.hold N1)) ∧ St w1 (Ts1 p p1 g0 ((f2.tick N1).tick N1) (upd σ2 r (Sit.tick ⟨T2, E2, U2⟩ N1))) w') := fun W hW =>
                          S_holds_is hW (i := 0) rfl N1 (k := f2.hold N1) (Fen.hold_tick HFL.out) rfl
                        generalize f2.hold N1 = Ho at *
                        rcases ha with rfl | rfl
                        · rcases hh with rfl | rfl
                          · go_wp2_with fail
                            refine HO1.out.mono ?_
                            rintro e w8 ⟨rfl, hS⟩
                            have HS8 := hide hS
                            clear hS HO1 HO2 HS7
                            go_wp2
                            go_roundw
                            case rel => exact ⟨r + 1, Hr.out, by go_num, _, f2.tick N1, _, rfl, hf2.out, HI3.out.tickF, HAK.out, HS8.out⟩
                            case measure => have := Hr.out; simp [intOf]; omega
                          · go_wp2_with fail
                            refine HO1.out.mono ?_
                            rintro e w8 ⟨rfl, hS⟩
                            have HO3 := hide (HO2.out w8 hS)
                            clear hS HO1 HO2 HS7
                            go_wp2_with fail
                            refine HO3.out.mono ?_
                            rintro e w9 ⟨rfl, hS⟩
                            have HS9 := hide hS
                            clear hS HO3
                            go_wp2
                            go_roundw
                            case rel => exact ⟨r + 1, Hr.out, by go_num, _, (f2.tick N1).tick N1, _, rfl, hf2.out, HI3.out.tickF.tickF, HAK.out, HS9.out⟩
                            case measure => have := Hr.out; simp [intOf]; omega
                        · rcases hh with rfl | rfl
                          · go_wp2_with fail
                            refine HO1.out.mono ?_
                            rintro e w8 ⟨rfl, hS⟩
                            have HS8 := hide hS
                            clear hS HO1 HO2 HS7
                            go_wp2
                            go_roundw
                            case rel => exact ⟨r + 1, Hr.out, by go_num, _, f2.tick N1, _, rfl, hf2.out, HI3.out.tickF, HAK.out, HS8.out⟩
                            case measure => have := Hr.out; simp [intOf]; omega
                          · go_wp2_with fail
                            refine HO1.out.mono ?_
                            rintro e w8 ⟨rfl, hS⟩
                            have HO3 := hide (HO2.out w8 hS)
                            clear hS HO1 HO2 HS7
                            go_wp2_with fail
                            refine HO3.out.mono ?_
                            rintro e w9 ⟨rfl, hS⟩
                            have HS9 := hide hS
                            clear hS HO3
                            go_wp2
                            go_roundw
                            case rel => exact ⟨r + 1, Hr.out, by go_num, _, (f2.tick N1).tick N1, _, rfl, hf2.out, HI3.out.tickF.tickF, HAK.out, HS9.out⟩
                            case measure => have := Hr.out; simp [intOf]; omega
                      · have HCK := hide (Calls.no (S_check_is hS (HGET.out f2) E2 N1 (k := Sit.cE ⟨T2, E2, U2⟩ E2 N1) rfl rfl) h1)
                        clear h1 hp hst2 hS HAG HHO
                        go_wp2_with fail
                        refine HCK.out.mono ?_
                        rintro e w7 ⟨p7, rfl, -, hS⟩
                        rw [Ts1.put Hr.out] at hS
                        have HS7 := hide hS
                        clear hS HCK hp6
                        go_wp2
                        go_roundw
                        case rel => exact ⟨r + 1, Hr.out, by go_num, a, f2, _, rfl, hf2.out, HI3.out, HA3.out, HS7.out⟩
                        case measure => have := Hr.out; simp [intOf]; omega
                    · obtain rfl : r = 3 := by omega
                      have HI3 := hide (hI2.out.next (by omega))
                      have HS3 := hide hst2.out
                      have HN3 : Hid (N1 + 1 = N + ((c9 : Int) + 1)) := by have := hN1.out; simp only [Hid]; omega
                      have hcw : IntKind.u8.wrap ((c9 : Int) + 1) = (c9 : Int) + 1 := by rw [show IntKind.u8.wrap ((c9 : Int) + 1) = ((c9 : Int) + 1) % 256 from rfl]; omega
                      clear hge hr hI2 ha2 hst2 hN1
                      go_wp2
                      go_roundw
                      case rel => exact ⟨c9 + 1, Hlt9.out, by go_num, N1 + 1, f2, σ2, rfl, by simp only [Hid]; have := HN3.out; omega, hf2.out, HI3.out, HS3.out⟩
                      case measure => have := Hlt9.out; simp [intOf]; omega
                · obtain rfl : c9 = G := by omega
                  have HN3 : Hid (N1 ≤ 16 * ((k : Int) + 1)) := by have := hN1.out; have := hN.out; have := HGb.out; simp only [Hid]; omega
                  have HL3 : Hid (f1.l ≤ (k : Int) + 1) := by have := hf1.out; have := HL2.out; simp only [Hid]; omega
                  clear hge hc9 hN1 hN HL2
                  go_wp2
                  go_roundw
                  case rel => exact ⟨k + 1, Hlt.out, by go_num, N1, f1, σ1, rfl, by rw [hf1.out, HLL.out], by have := HN3.out; simp only [Hid]; omega, by have := HL3.out; simp only [Hid]; omega, hI1.out, hst1.out⟩
                  case measure => have := Hlt.out; simp [intOf]; omega
          | false =>
            have htkf := hI.out.tk_f
            rcases Fen.rE_cases f qe N htkf with hc | hc
            · obtain ⟨hr0, hel, hl0, hff⟩ := hc
              obtain ⟨fz, hfz⟩ : ∃ fz : Fen, fz = ⟨N, f.l, f.f, N + 10⟩ := ⟨_, rfl⟩
              have HR := hide (Calls.ok (S_renew_is hst.out (i := 0) rfl hI.out.fo qe N (k := 0) hr0 (s' := fz) (by rw [hfz, hel, Fen.renew_ok hl0 (by rw [htkf]; exact hff), htkf])))
              have HG : Hid (∀ W, St w1 (Ts1 p p1 g0 fz σ) W → Calls Tryd.prog 11 #[.pointer (some ⟨p1 + r, 0, none⟩), .int .i64 qe, .int .i64 N] W fun e w' => e = .returned .nilIface ∧ St w1 (Ts1 p p1 g0 fz (upd σ r ⟨N, f.l, N + 10⟩)) w') := fun W hW => by
                have el := hI.out.el r Hr.out
                have l0 := hI.out.fo.l0
                have h := Calls.ok (S_grant_is hW (Ts1.get Hr.out) (hI.out.so r Hr.out) qe N (k := 0) (Sit.gE_zero (by omega) (by omega)) (s' := ⟨N, f.l, N + 10⟩) (by rw [Sit.grant_ok (by omega) (by omega), hI.out.tk_s Hr.out, hel]))
                rw [Ts1.put Hr.out] at h
                exact h
              have HI2 : Hid (LInv N fz (upd σ r ⟨N, f.l, N + 10⟩)) := by rw [hfz]; exact hI.out.grant Hr.out hl0 hff
              have HLL : Hid (fz.l = f.l) := by rw [hfz]; rfl
              have HL2 : Hid (fz.l ≤ (k : Int) + 1) := by have h5 := hL.out; have h6 : fz.l = f.l := HLL.out; simp only [Hid]; omega
              clear hI hst hL hr0 hel hl0 hff htkf hfz
              go_wp2_with fail
              refine HR.out.mono ?_
              rintro e w4 ⟨rfl, hS⟩
              have hS' : St w1 (Ts1 p p1 g0 fz σ) w4 := hS
              have b2 := (HQ.out _ (St.weaken (Ts := []) hS')).who
              have b3 := Ts1.ptr hS' Hr.out
              have HG4 := hide (HG.out w4 hS')
              simp only at b2
              clear hS hS' HR HG
              go_wp2_with fail
              refine HG4.out.mono ?_
              rintro e w5 ⟨rfl, hS⟩
              have HS5 := hide hS
              clear hS HG4 b2 b3
              have HQ5 := (HQ.out _ (St.weaken (Ts := []) HS5.out)).go_
              simp only at HQ5
              obtain ⟨m, hm⟩ : ∃ m, qg.tmod 16 = m := ⟨_, rfl⟩
              have hm2 := hm
              rw [Int.tmod_eq_emod_of_nonneg hg0] at hm2
              obtain ⟨G, hG⟩ : ∃ G : Nat, (G : Int) = m + 1 := ⟨(m + 1).toNat, by omega⟩
              have hG1 : m + 1 = (G : Int) := hG.symm
              have hGb : (G : Int) ≤ 16 := by omega
              have hG0 : (0 : Int) ≤ (G : Int) := by omega
              have HGb := hide hGb
              clear hm2 hG
              go_wp2_with fail
              go_loopw [5, 106] (fun nv cv wr => ∃ c9 : Nat, c9 ≤ G ∧ cv = .int .u8 (c9 : Int) ∧ ∃ (N1 : Int) (f1 : Fen) (σ1 : Nat → Sit), nv = .int .i64 N1 ∧ Hid (N1 = N + (c9 : Int)) ∧ Hid (f1.l = fz.l) ∧ Hid (LInv N1 f1 σ1) ∧ Hid (St w1 (Ts1 p p1 g0 f1 σ1) wr)) (fun _ cv _ => G - (intOf cv).toNat)
              case atStart => exact ⟨0, Nat.zero_le _, rfl, N, fz, (upd σ r ⟨N, f.l, N + 10⟩), rfl, by simp [Hid], rfl, HI2.out, HS5.out⟩
              case round =>
                clear HI2 HS5 HQ5
                obtain ⟨c9, hc9, rfl, N1, f1, σ1, rfl, hN1, hf1, hI1, hst1⟩ := hrel
                rcases Nat.lt_or_ge c9 G with hlt | hge
                · have Hlt9 := hide hlt
                  have hci : (c9 : Int) < (G : Int) := by omega
                  have m0 : 0 ≤ N1 := hI1.out.n0
                  have m1 : N1 ≤ 4816 := by have := hN1.out; omega
                  clear hlt hc9
                  go_wp2_with fail
                  go_loopw [12, 110] (fun av jv wr => ∃ r : Nat, r ≤ 3 ∧ jv = .int .i64 (r : Int) ∧ ∃ (a : Int) (f2 : Fen) (σ2 : Nat → Sit), av = .int .i64 a ∧ Hid (f2.l = fz.l) ∧ Hid (LInv N1 f2 σ2) ∧ Hid (Ack N1 σ2 a) ∧ Hid (St w1 (Ts1 p p1 g0 f2 σ2) wr)) (fun _ jv _ => 3 - (intOf jv).toNat)
                  case atStart => exact ⟨0, Nat.zero_le _, rfl, 0, f1, σ1, rfl, hf1.out, hI1.out, Or.inl rfl, hst1.out⟩
                  case round =>
                    clear hI1 hst1 hf1
                    obtain ⟨r, hr, rfl, a, f2, σ2, rfl, hf2, hI2, ha2, hst2⟩ := hrel
                    rcases Nat.lt_or_ge r 3 with hlt | hge
                    · have Hr := hide hlt
                      have hri : (r : Int) < 3 := by omega
                      have hp := Ts1.ptr hst2.out hlt
                      obtain ⟨s, hs⟩ : ∃ s, σ2 r = s := ⟨_, rfl⟩
                      have HGET : Hid (∀ f, (Ts1 p p1 g0 f σ2)[r + 1]? = some (sitT (p1 + r) s)) := fun f => by rw [← hs]; exact Ts1.get Hr.out
                      have htk := hI2.out.tk_s hlt
                      rw [hs] at htk
                      have HI3 : Hid (LInv N1 f2 (upd σ2 r (s.tick N1))) := by rw [← hs]; exact hI2.out.tickS hlt
                      have HA3 : Hid (Ack N1 (upd σ2 r (s.tick N1)) a) := ha2.out.keep (by rw [hs]; rfl) (by rw [hs]; rfl)
                      have hup : upd σ2 r (s.tick N1) r = s.tick N1 := upd_same _ _ _
                      obtain ⟨T2, E2, U2⟩ := s
                      have HC := Sit.cE_cases ⟨T2, E2, U2⟩ N1 htk
                      simp only at HC
                      have HFL := hide hI2.out.tk_f
                      have HAG : Hid (E2 ≠ 0 → N1 < U2 → a = 0 ∨ a = E2) := fun h1 h2 => by
                        rcases HA3.out with h | ⟨j, hj, ha, hb, hc⟩
                        · exact Or.inl h
                        · right
                          have := HI3.out.agree hj Hr.out (by rw [← ha]; exact hb) hc (by rw [hup]; exact h1) (by rw [hup]; exact h2)
                          rw [hup] at this
                          rw [ha, this]
                          rfl
                      have HHO : Hid (E2 ≠ 0 → N1 < U2 → f2.hold N1 = 0 ∨ f2.hold N1 = E2) := fun h1 h2 => by
                        have := HI3.out.hold Hr.out (by rw [hup]; exact h1) (by rw [hup]; exact h2)
                        rw [hup] at this
                        exact this
                      clear hlt hr hup htk hs ha2
                      go_wp2_with fail
                      refine (S_epoch hst2.out (HGET.out f2)).mono ?_
                      rintro e w6 ⟨rfl, hS⟩
                      have hp6 := Ts1.ptr hS Hr.out
                      rcases HC with ⟨h1, h2, h3⟩ | h1
                      · have HCK := hide (Calls.ok (S_check_is hS (HGET.out f2) E2 N1 (k := 0) h1 rfl))
                        have hE0 : (E2 != 0) = true := by simp [h2]
                        have HAK : Hid (Ack N1 (upd σ2 r (Sit.tick ⟨T2, E2, U2⟩ N1)) E2) := Or.inr ⟨r, Hr.out, by rw [upd_same]; rfl, h2, by rw [upd_same]; exact h3⟩
                        have ha := HAG.out h2 h3
                        have hh := HHO.out h2 h3
                        have HH0 := hide h2
                        clear h1 h2 h3 hp hst2 hS HAG HHO HA3
                        go_wp2_with fail
                        refine HCK.out.mono ?_
                        rintro e w7 ⟨rfl, hS⟩
                        rw [Ts1.put Hr.out] at hS
                        have HS7 := hide hS
                        clear hS HCK hp6
                        have HO1 := hide (S_holds_is HS7.out (i := 0) rfl N1 (k := f2.hold N1) rfl rfl)
                        have HO2 : Hid (∀ W, St w1 (Ts1 p p1 g0 (f2.tick N1) (upd σ2 r (Sit.tick ⟨T2, E2, U2⟩ N1))) W → Calls Tryd.prog 19 #[.pointer (some ⟨p, 0, none⟩), .int .i64 N1] W fun e w' => e = .returned (.int .i64 (f2.hold N1)) ∧ St w1 (Ts1 p p1 g0 ((f2.tick N1).tick N1) (upd σ2 r (Sit.tick ⟨T2, E2, U2⟩ N1))) w') := fun W hW =>
                          S_holds_is hW (i := 0) rfl N1 (k := f2.hold N1) (Fen.hold_tick HFL.out) rfl
                        generalize f2.hold N1 = Ho at *
                        rcases ha with rfl | rfl
                        · rcases hh with rfl | rfl
                          · go_wp2_with fail
                            refine HO1.out.mono ?_
                            rintro e w8 ⟨rfl, hS⟩
                            have HS8 := hide hS
                            clear hS HO1 HO2 HS7
                            go_wp2
                            go_roundw
                            case rel => exact ⟨r + 1, Hr.out, by go_num, _, f2.tick N1, _, rfl, hf2.out, HI3.out.tickF, HAK.out, HS8.out⟩
                            case measure => have := Hr.out; simp [intOf]; omega
                          · go_wp2_with fail
                            refine HO1.out.mono ?_
                            rintro e w8 ⟨rfl, hS⟩
                            have HO3 := hide (HO2.out w8 hS)
                            clear hS HO1 HO2 HS7
                            go_wp2_with fail
                            refine HO3.out.mono ?_
                            rintro e w9 ⟨rfl, hS⟩
                            have HS9 := hide hS
                            clear hS HO3
                            go_wp2
                            go_roundw
                            case rel => exact ⟨r + 1, Hr.out, by go_num, _, (f2.tick N1).tick N1, _, rfl, hf2.out, HI3.out.tickF.tickF, HAK.out, HS9.out⟩
                            case measure => have := Hr.out; simp [intOf]; omega
                        · rcases hh with rfl | rfl
                          · go_wp2_with fail
                            refine HO1.out.mono ?_
                            rintro e w8 ⟨rfl, hS⟩
                            have HS8 := hide hS
                            clear hS HO1 HO2 HS7
                            go_wp2
                            go_roundw
                            case rel => exact ⟨r + 1, Hr.out, by go_num, _, f2.tick N1, _, rfl, hf2.out, HI3.out.tickF, HAK.out, HS8.out⟩
                            case measure => have := Hr.out; simp [intOf]; omega
                          · go_wp2_with fail
                            refine HO1.out.mono ?_
                            rintro e w8 ⟨rfl, hS⟩
                            have HO3 := hide (HO2.out w8 hS)
                            clear hS HO1 HO2 HS7
                            go_wp2_with fail
                            refine HO3.out.mono ?_
                            rintro e w9 ⟨rfl, hS⟩
                            have HS9 := hide hS
                            clear hS HO3
                            go_wp2
                            go_roundw
                            case rel => exact ⟨r + 1, Hr.out, by go_num, _, (f2.tick N1).tick N1, _, rfl, hf2.out, HI3.out.tickF.tickF, HAK.out, HS9.out⟩
                            case measure => have := Hr.out; simp [intOf]; omega
                      · have HCK := hide (Calls.no (S_check_is hS (HGET.out f2) E2 N1 (k := Sit.cE ⟨T2, E2, U2⟩ E2 N1) rfl rfl) h1)
                        clear h1 hp hst2 hS HAG HHO
                        go_wp2_with fail
                        refine HCK.out.mono ?_
                        rintro e w7 ⟨p7, rfl, -, hS⟩
                        rw [Ts1.put Hr.out] at hS
                        have HS7 := hide hS
                        clear hS HCK hp6
                        go_wp2
                        go_roundw
                        case rel => exact ⟨r + 1, Hr.out, by go_num, a, f2, _, rfl, hf2.out, HI3.out, HA3.out, HS7.out⟩
                        case measure => have := Hr.out; simp [intOf]; omega
                    · obtain rfl : r = 3 := by omega
                      have HI3 := hide (hI2.out.next (by omega))
                      have HS3 := hide hst2.out
                      have HN3 : Hid (N1 + 1 = N + ((c9 : Int) + 1)) := by have := hN1.out; simp only [Hid]; omega
                      have hcw : IntKind.u8.wrap ((c9 : Int) + 1) = (c9 : Int) + 1 := by rw [show IntKind.u8.wrap ((c9 : Int) + 1) = ((c9 : Int) + 1) % 256 from rfl]; omega
                      clear hge hr hI2 ha2 hst2 hN1
                      go_wp2
                      go_roundw
                      case rel => exact ⟨c9 + 1, Hlt9.out, by go_num, N1 + 1, f2, σ2, rfl, by simp only [Hid]; have := HN3.out; omega, hf2.out, HI3.out, HS3.out⟩
                      case measure => have := Hlt9.out; simp [intOf]; omega
                · obtain rfl : c9 = G := by omega
                  have HN3 : Hid (N1 ≤ 16 * ((k : Int) + 1)) := by have := hN1.out; have := hN.out; have := HGb.out; simp only [Hid]; omega
                  have HL3 : Hid (f1.l ≤ (k : Int) + 1) := by have := hf1.out; have := HL2.out; simp only [Hid]; omega
                  clear hge hc9 hN1 hN HL2
                  go_wp2
                  go_roundw
                  case rel => exact ⟨k + 1, Hlt.out, by go_num, N1, f1, σ1, rfl, by rw [hf1.out, HLL.out], by have := HN3.out; simp only [Hid]; omega, by have := HL3.out; simp only [Hid]; omega, hI1.out, hst1.out⟩
                  case measure => have := Hlt.out; simp [intOf]; omega
            · have HR := hide (Calls.no (S_renew_is hst.out (i := 0) rfl hI.out.fo qe N (k := f.rE qe N) rfl (s' := f.tick N) (Fen.renew_no hc)) hc)
              have HI2 := hide hI.out.tickF
              have HL2 : Hid ((f.tick N).l ≤ (k : Int) + 1) := by have := hL.out; show f.l ≤ (k : Int) + 1; omega
              clear hI hst hL hc htkf
              go_wp2_with fail
              refine HR.out.mono ?_
              rintro e w5 ⟨p5, rfl, -, hS⟩
              have HS5 := hide (show St w1 (Ts1 p p1 g0 (f.tick N) σ) w5 from hS)
              have HLL : Hid ((f.tick N).l = f.l) := rfl
              clear hS HR
              generalize f.tick N = fz at HI2 HL2 HS5 HLL
              have HQ5 := (HQ.out _ (St.weaken (Ts := []) HS5.out)).go_
              simp only at HQ5
              obtain ⟨m, hm⟩ : ∃ m, qg.tmod 16 = m := ⟨_, rfl⟩
              have hm2 := hm
              rw [Int.tmod_eq_emod_of_nonneg hg0] at hm2
              obtain ⟨G, hG⟩ : ∃ G : Nat, (G : Int) = m + 1 := ⟨(m + 1).toNat, by omega⟩
              have hG1 : m + 1 = (G : Int) := hG.symm
              have hGb : (G : Int) ≤ 16 := by omega
              have hG0 : (0 : Int) ≤ (G : Int) := by omega
              have HGb := hide hGb
              clear hm2 hG
              go_wp2_with fail
              go_loopw [5, 106] (fun nv cv wr => ∃ c9 : Nat, c9 ≤ G ∧ cv = .int .u8 (c9 : Int) ∧ ∃ (N1 : Int) (f1 : Fen) (σ1 : Nat → Sit), nv = .int .i64 N1 ∧ Hid (N1 = N + (c9 : Int)) ∧ Hid (f1.l = fz.l) ∧ Hid (LInv N1 f1 σ1) ∧ Hid (St w1 (Ts1 p p1 g0 f1 σ1) wr)) (fun _ cv _ => G - (intOf cv).toNat)
              case atStart => exact ⟨0, Nat.zero_le _, rfl, N, fz, σ, rfl, by simp [Hid], rfl, HI2.out, HS5.out⟩
              case round =>
                clear HI2 HS5 HQ5
                obtain ⟨c9, hc9, rfl, N1, f1, σ1, rfl, hN1, hf1, hI1, hst1⟩ := hrel
                rcases Nat.lt_or_ge c9 G with hlt | hge
                · have Hlt9 := hide hlt
                  have hci : (c9 : Int) < (G : Int) := by omega
                  have m0 : 0 ≤ N1 := hI1.out.n0
                  have m1 : N1 ≤ 4816 := by have := hN1.out; omega
                  clear hlt hc9
                  go_wp2_with fail
                  go_loopw [12, 110] (fun av jv wr => ∃ r : Nat, r ≤ 3 ∧ jv = .int .i64 (r : Int) ∧ ∃ (a : Int) (f2 : Fen) (σ2 : Nat → Sit), av = .int .i64 a ∧ Hid (f2.l = fz.l) ∧ Hid (LInv N1 f2 σ2) ∧ Hid (Ack N1 σ2 a) ∧ Hid (St w1 (Ts1 p p1 g0 f2 σ2) wr)) (fun _ jv _ => 3 - (intOf jv).toNat)
                  case atStart => exact ⟨0, Nat.zero_le _, rfl, 0, f1, σ1, rfl, hf1.out, hI1.out, Or.inl rfl, hst1.out⟩
                  case round =>
                    clear hI1 hst1 hf1
                    obtain ⟨r, hr, rfl, a, f2, σ2, rfl, hf2, hI2, ha2, hst2⟩ := hrel
                    rcases Nat.lt_or_ge r 3 with hlt | hge
                    · have Hr := hide hlt
                      have hri : (r : Int) < 3 := by omega
                      have hp := Ts1.ptr hst2.out hlt
                      obtain ⟨s, hs⟩ : ∃ s, σ2 r = s := ⟨_, rfl⟩
                      have HGET : Hid (∀ f, (Ts1 p p1 g0 f σ2)[r + 1]? = some (sitT (p1 + r) s)) := fun f => by rw [← hs]; exact Ts1.get Hr.out
                      have htk := hI2.out.tk_s hlt
                      rw [hs] at htk
                      have HI3 : Hid (LInv N1 f2 (upd σ2 r (s.tick N1))) := by rw [← hs]; exact hI2.out.tickS hlt
                      have HA3 : Hid (Ack N1 (upd σ2 r (s.tick N1)) a) := ha2.out.keep (by rw [hs]; rfl) (by rw [hs]; rfl)
                      have hup : upd σ2 r (s.tick N1) r = s.tick N1 := upd_same _ _ _
                      obtain ⟨T2, E2, U2⟩ := s
                      have HC := Sit.cE_cases ⟨T2, E2, U2⟩ N1 htk
                      simp only at HC
                      have HFL := hide hI2.out.tk_f
                      have HAG : Hid (E2 ≠ 0 → N1 < U2 → a = 0 ∨ a = E2) := fun h1 h2 => by
                        rcases HA3.out with h | ⟨j, hj, ha, hb, hc⟩
                        · exact Or.inl h
                        · right
                          have := HI3.out.agree hj Hr.out (by rw [← ha]; exact hb) hc (by rw [hup]; exact h1) (by rw [hup]; exact h2)
                          rw [hup] at this
                          rw [ha, this]
                          rfl
                      have HHO : Hid (E2 ≠ 0 → N1 < U2 → f2.hold N1 = 0 ∨ f2.hold N1 = E2) := fun h1 h2 => by
                        have := HI3.out.hold Hr.out (by rw [hup]; exact h1) (by rw [hup]; exact h2)
                        rw [hup] at this
                        exact this
                      clear hlt hr hup htk hs ha2
                      go_wp2_with fail
                      refine (S_epoch hst2.out (HGET.out f2)).mono ?_
                      rintro e w6 ⟨rfl, hS⟩
                      have hp6 := Ts1.ptr hS Hr.out
                      rcases HC with ⟨h1, h2, h3⟩ | h1
                      · have HCK := hide (Calls.ok (S_check_is hS (HGET.out f2) E2 N1 (k := 0) h1 rfl))
                        have hE0 : (E2 != 0) = true := by simp [h2]
                        have HAK : Hid (Ack N1 (upd σ2 r (Sit.tick ⟨T2, E2, U2⟩ N1)) E2) := Or.inr ⟨r, Hr.out, by rw [upd_same]; rfl, h2, by rw [upd_same]; exact h3⟩
                        have ha := HAG.out h2 h3
                        have hh := HHO.out h2 h3
                        have HH0 := hide h2
                        clear h1 h2 h3 hp hst2 hS HAG HHO HA3
                        go_wp2_with fail
                        refine HCK.out.mono ?_
                        rintro e w7 ⟨rfl, hS⟩
                        rw [Ts1.put Hr.out] at hS
                        have HS7 := hide hS
                        clear hS HCK hp6
                        have HO1 := hide (S_holds_is HS7.out (i := 0) rfl N1 (k := f2.hold N1) rfl rfl)
                        have HO2 : Hid (∀ W, St w1 (Ts1 p p1 g0 (f2.tick N1) (upd σ2 r (Sit.tick ⟨T2, E2, U2⟩ N1))) W → Calls Tryd.prog 19 #[.pointer (some ⟨p, 0, none⟩), .int .i64 N1] W fun e w' => e = .returned (.int .i64 (f2.hold N1)) ∧ St w1 (Ts1 p p1 g0 ((f2.tick N1).tick N1) (upd σ2 r (Sit.tick ⟨T2, E2, U2⟩ N1))) w') := fun W hW =>
                          S_holds_is hW (i := 0) rfl N1 (k := f2.hold N1) (Fen.hold_tick HFL.out) rfl
                        generalize f2.hold N1 = Ho at *
                        rcases ha with rfl | rfl
                        · rcases hh with rfl | rfl
                          · go_wp2_with fail
                            refine HO1.out.mono ?_
                            rintro e w8 ⟨rfl, hS⟩
                            have HS8 := hide hS
                            clear hS HO1 HO2 HS7
                            go_wp2
                            go_roundw
                            case rel => exact ⟨r + 1, Hr.out, by go_num, _, f2.tick N1, _, rfl, hf2.out, HI3.out.tickF, HAK.out, HS8.out⟩
                            case measure => have := Hr.out; simp [intOf]; omega
                          · go_wp2_with fail
                            refine HO1.out.mono ?_
                            rintro e w8 ⟨rfl, hS⟩
                            have HO3 := hide (HO2.out w8 hS)
                            clear hS HO1 HO2 HS7
                            go_wp2_with fail
                            refine HO3.out.mono ?_
                            rintro e w9 ⟨rfl, hS⟩
                            have HS9 := hide hS
                            clear hS HO3
                            go_wp2
                            go_roundw
                            case rel => exact ⟨r + 1, Hr.out, by go_num, _, (f2.tick N1).tick N1, _, rfl, hf2.out, HI3.out.tickF.tickF, HAK.out, HS9.out⟩
                            case measure => have := Hr.out; simp [intOf]; omega
                        · rcases hh with rfl | rfl
                          · go_wp2_with fail
                            refine HO1.out.mono ?_
                            rintro e w8 ⟨rfl, hS⟩
                            have HS8 := hide hS
                            clear hS HO1 HO2 HS7
                            go_wp2
                            go_roundw
                            case rel => exact ⟨r + 1, Hr.out, by go_num, _, f2.tick N1, _, rfl, hf2.out, HI3.out.tickF, HAK.out, HS8.out⟩
                            case measure => have := Hr.out; simp [intOf]; omega
                          · go_wp2_with fail
                            refine HO1.out.mono ?_
                            rintro e w8 ⟨rfl, hS⟩
                            have HO3 := hide (HO2.out w8 hS)
                            clear hS HO1 HO2 HS7
                            go_wp2_with fail
                            refine HO3.out.mono ?_
                            rintro e w9 ⟨rfl, hS⟩
                            have HS9 := hide hS
                            clear hS HO3
                            go_wp2
                            go_roundw
                            case rel => exact ⟨r + 1, Hr.out, by go_num, _, (f2.tick N1).tick N1, _, rfl, hf2.out, HI3.out.tickF.tickF, HAK.out, HS9.out⟩
                            case measure => have := Hr.out; simp [intOf]; omega
                      · have HCK := hide (Calls.no (S_check_is hS (HGET.out f2) E2 N1 (k := Sit.cE ⟨T2, E2, U2⟩ E2 N1) rfl rfl) h1)
                        clear h1 hp hst2 hS HAG HHO
                        go_wp2_with fail
                        refine HCK.out.mono ?_
                        rintro e w7 ⟨p7, rfl, -, hS⟩
                        rw [Ts1.put Hr.out] at hS
                        have HS7 := hide hS
                        clear hS HCK hp6
                        go_wp2
                        go_roundw
                        case rel => exact ⟨r + 1, Hr.out, by go_num, a, f2, _, rfl, hf2.out, HI3.out, HA3.out, HS7.out⟩
                        case measure => have := Hr.out; simp [intOf]; omega
                    · obtain rfl : r = 3 := by omega
                      have HI3 := hide (hI2.out.next (by omega))
                      have HS3 := hide hst2.out
                      have HN3 : Hid (N1 + 1 = N + ((c9 : Int) + 1)) := by have := hN1.out; simp only [Hid]; omega
                      have hcw : IntKind.u8.wrap ((c9 : Int) + 1) = (c9 : Int) + 1 := by rw [show IntKind.u8.wrap ((c9 : Int) + 1) = ((c9 : Int) + 1) % 256 from rfl]; omega
                      clear hge hr hI2 ha2 hst2 hN1
                      go_wp2
                      go_roundw
                      case rel => exact ⟨c9 + 1, Hlt9.out, by go_num, N1 + 1, f2, σ2, rfl, by simp only [Hid]; have := HN3.out; omega, hf2.out, HI3.out, HS3.out⟩
                      case measure => have := Hlt9.out; simp [intOf]; omega
                · obtain rfl : c9 = G := by omega
                  have HN3 : Hid (N1 ≤ 16 * ((k : Int) + 1)) := by have := hN1.out; have := hN.out; have := HGb.out; simp only [Hid]; omega
                  have HL3 : Hid (f1.l ≤ (k : Int) + 1) := by have := hf1.out; have := HL2.out; simp only [Hid]; omega
                  clear hge hc9 hN1 hN HL2
                  go_wp2
                  go_roundw
                  case rel => exact ⟨k + 1, Hlt.out, by go_num, N1, f1, σ1, rfl, by rw [hf1.out, HLL.out], by have := HN3.out; simp only [Hid]; omega, by have := HL3.out; simp only [Hid]; omega, hI1.out, hst1.out⟩
                  case measure => have := Hlt.out; simp [intOf]; omega
        · have e2 : (qd == 2) = false := by simpa using h2
          clear h1 h2
          have HL2 : Hid (f.l ≤ (k : Int) + 1) := by have := hL.out; simp only [Hid]; omega
          have HI2 := hide hI.out
          have HS5 := hide hst.out
          clear hI hst hL
          have HQ5 := (HQ.out _ (St.weaken (Ts := []) HS5.out)).go_
          simp only at HQ5
          obtain ⟨m, hm⟩ : ∃ m, qg.tmod 16 = m := ⟨_, rfl⟩
          have hm2 := hm
          rw [Int.tmod_eq_emod_of_nonneg hg0] at hm2
          obtain ⟨G, hG⟩ : ∃ G : Nat, (G : Int) = m + 1 := ⟨(m + 1).toNat, by omega⟩
          have hG1 : m + 1 = (G : Int) := hG.symm
          have hGb : (G : Int) ≤ 16 := by omega
          have hG0 : (0 : Int) ≤ (G : Int) := by omega
          have HGb := hide hGb
          clear hm2 hG
          go_wp2_with fail
          go_loopw [5, 106] (fun nv cv wr => ∃ c9 : Nat, c9 ≤ G ∧ cv = .int .u8 (c9 : Int) ∧ ∃ (N1 : Int) (f1 : Fen) (σ1 : Nat → Sit), nv = .int .i64 N1 ∧ Hid (N1 = N + (c9 : Int)) ∧ Hid (f1.l = f.l) ∧ Hid (LInv N1 f1 σ1) ∧ Hid (St w1 (Ts1 p p1 g0 f1 σ1) wr)) (fun _ cv _ => G - (intOf cv).toNat)
          case atStart => exact ⟨0, Nat.zero_le _, rfl, N, f, σ, rfl, by simp [Hid], rfl, HI2.out, HS5.out⟩
          case round =>
            clear HI2 HS5 HQ5
            obtain ⟨c9, hc9, rfl, N1, f1, σ1, rfl, hN1, hf1, hI1, hst1⟩ := hrel
            rcases Nat.lt_or_ge c9 G with hlt | hge
            · have Hlt9 := hide hlt
              have hci : (c9 : Int) < (G : Int) := by omega
              have m0 : 0 ≤ N1 := hI1.out.n0
              have m1 : N1 ≤ 4816 := by have := hN1.out; omega
              clear hlt hc9
              go_wp2_with fail
              go_loopw [12, 110] (fun av jv wr => ∃ r : Nat, r ≤ 3 ∧ jv = .int .i64 (r : Int) ∧ ∃ (a : Int) (f2 : Fen) (σ2 : Nat → Sit), av = .int .i64 a ∧ Hid (f2.l = f.l) ∧ Hid (LInv N1 f2 σ2) ∧ Hid (Ack N1 σ2 a) ∧ Hid (St w1 (Ts1 p p1 g0 f2 σ2) wr)) (fun _ jv _ => 3 - (intOf jv).toNat)
              case atStart => exact ⟨0, Nat.zero_le _, rfl, 0, f1, σ1, rfl, hf1.out, hI1.out, Or.inl rfl, hst1.out⟩
              case round =>
                clear hI1 hst1 hf1
                obtain ⟨r, hr, rfl, a, f2, σ2, rfl, hf2, hI2, ha2, hst2⟩ := hrel
                rcases Nat.lt_or_ge r 3 with hlt | hge
                · have Hr := hide hlt
                  have hri : (r : Int) < 3 := by omega
                  have hp := Ts1.ptr hst2.out hlt
                  obtain ⟨s, hs⟩ : ∃ s, σ2 r = s := ⟨_, rfl⟩
                  have HGET : Hid (∀ f, (Ts1 p p1 g0 f σ2)[r + 1]? = some (sitT (p1 + r) s)) := fun f => by rw [← hs]; exact Ts1.get Hr.out
                  have htk := hI2.out.tk_s hlt
                  rw [hs] at htk
                  have HI3 : Hid (LInv N1 f2 (upd σ2 r (s.tick N1))) := by rw [← hs]; exact hI2.out.tickS hlt
                  have HA3 : Hid (Ack N1 (upd σ2 r (s.tick N1)) a) := ha2.out.keep (by rw [hs]; rfl) (by rw [hs]; rfl)
                  have hup : upd σ2 r (s.tick N1) r = s.tick N1 := upd_same _ _ _
                  obtain ⟨T2, E2, U2⟩ := s
                  have HC := Sit.cE_cases ⟨T2, E2, U2⟩ N1 htk
                  simp only at HC
                  have HFL := hide hI2.out.tk_f
                  have HAG : Hid (E2 ≠ 0 → N1 < U2 → a = 0 ∨ a = E2) := fun h1 h2 => by
                    rcases HA3.out with h | ⟨j, hj, ha, hb, hc⟩
                    · exact Or.inl h
                    · right
                      have := HI3.out.agree hj Hr.out (by rw [← ha]; exact hb) hc (by rw [hup]; exact h1) (by rw [hup]; exact h2)
                      rw [hup] at this
                      rw [ha, this]
                      rfl
                  have HHO : Hid (E2 ≠ 0 → N1 < U2 → f2.hold N1 = 0 ∨ f2.hold N1 = E2) := fun h1 h2 => by
                    have := HI3.out.hold Hr.out (by rw [hup]; exact h1) (by rw [hup]; exact h2)
                    rw [hup] at this
                    exact this
                  clear hlt hr hup htk hs ha2
                  go_wp2_with fail
                  refine (S_epoch hst2.out (HGET.out f2)).mono ?_
                  rintro e w6 ⟨rfl, hS⟩
                  have hp6 := Ts1.ptr hS Hr.out
                  rcases HC with ⟨h1, h2, h3⟩ | h1
                  · have HCK := hide (Calls.ok (S_check_is hS (HGET.out f2) E2 N1 (k := 0) h1 rfl))
                    have hE0 : (E2 != 0) = true := by simp [h2]
                    have HAK : Hid (Ack N1 (upd σ2 r (Sit.tick ⟨T2, E2, U2⟩ N1)) E2) := Or.inr ⟨r, Hr.out, by rw [upd_same]; rfl, h2, by rw [upd_same]; exact h3⟩
                    have ha := HAG.out h2 h3
                    have hh := HHO.out h2 h3
                    have HH0 := hide h2
                    clear h1 h2 h3 hp hst2 hS HAG HHO HA3
                    go_wp2_with fail
                    refine HCK.out.mono ?_
                    rintro e w7 ⟨rfl, hS⟩
                    rw [Ts1.put Hr.out] at hS
                    have HS7 := hide hS
                    clear hS HCK hp6
                    have HO1 := hide (S_holds_is HS7.out (i := 0) rfl N1 (k := f2.hold N1) rfl rfl)
                    have HO2 : Hid (∀ W, St w1 (Ts1 p p1 g0 (f2.tick N1) (upd σ2 r (Sit.tick ⟨T2, E2, U2⟩ N1))) W → Calls Tryd.prog 19 #[.pointer (some ⟨p, 0, none⟩), .int .i64 N1] W fun e w' => e = .returned (.int .i64 (f2.hold N1)) ∧ St w1 (Ts1 p p1 g0 ((f2.tick N1).tick N1) (upd σ2 r (Sit.tick ⟨T2, E2, U2⟩ N1))) w') := fun W hW =>
                      S_holds_is hW (i := 0) rfl N1 (k := f2.hold N1) (Fen.hold_tick HFL.out) rfl
                    generalize f2.hold N1 = Ho at *
                    rcases ha with rfl | rfl
                    · rcases hh with rfl | rfl
                      · go_wp2_with fail
                        refine HO1.out.mono ?_
                        rintro e w8 ⟨rfl, hS⟩
                        have HS8 := hide hS
                        clear hS HO1 HO2 HS7
                        go_wp2
                        go_roundw
                        case rel => exact ⟨r + 1, Hr.out, by go_num, _, f2.tick N1, _, rfl, hf2.out, HI3.out.tickF, HAK.out, HS8.out⟩
                        case measure => have := Hr.out; simp [intOf]; omega
                      · go_wp2_with fail
                        refine HO1.out.mono ?_
                        rintro e w8 ⟨rfl, hS⟩
                        have HO3 := hide (HO2.out w8 hS)
                        clear hS HO1 HO2 HS7
                        go_wp2_with fail
                        refine HO3.out.mono ?_
                        rintro e w9 ⟨rfl, hS⟩
                        have HS9 := hide hS
                        clear hS HO3
                        go_wp2
                        go_roundw
                        case rel => exact ⟨r + 1, Hr.out, by go_num, _, (f2.tick N1).tick N1, _, rfl, hf2.out, HI3.out.tickF.tickF, HAK.out, HS9.out⟩
                        case measure => have := Hr.out; simp [intOf]; omega
                    · rcases hh with rfl | rfl
                      · go_wp2_with fail
                        refine HO1.out.mono ?_
                        rintro e w8 ⟨rfl, hS⟩
                        have HS8 := hide hS
                        clear hS HO1 HO2 HS7
                        go_wp2
                        go_roundw
                        case rel => exact ⟨r + 1, Hr.out, by go_num, _, f2.tick N1, _, rfl, hf2.out, HI3.out.tickF, HAK.out, HS8.out⟩
                        case measure => have := Hr.out; simp [intOf]; omega
                      · go_wp2_with fail
                        refine HO1.out.mono ?_
                        rintro e w8 ⟨rfl, hS⟩
                        have HO3 := hide (HO2.out w8 hS)
                        clear hS HO1 HO2 HS7
                        go_wp2_with fail
                        refine HO3.out.mono ?_
                        rintro e w9 ⟨rfl, hS⟩
                        have HS9 := hide hS
                        clear hS HO3
                        go_wp2
                        go_roundw
                        case rel => exact ⟨r + 1, Hr.out, by go_num, _, (f2.tick N1).tick N1, _, rfl, hf2.out, HI3.out.tickF.tickF, HAK.out, HS9.out⟩
                        case measure => have := Hr.out; simp [intOf]; omega
                  · have HCK := hide (Calls.no (S_check_is hS (HGET.out f2) E2 N1 (k := Sit.cE ⟨T2, E2, U2⟩ E2 N1) rfl rfl) h1)
                    clear h1 hp hst2 hS HAG HHO
                    go_wp2_with fail
                    refine HCK.out.mono ?_
                    rintro e w7 ⟨p7, rfl, -, hS⟩
                    rw [Ts1.put Hr.out] at hS
                    have HS7 := hide hS
                    clear hS HCK hp6
                    go_wp2
                    go_roundw
                    case rel => exact ⟨r + 1, Hr.out, by go_num, a, f2, _, rfl, hf2.out, HI3.out, HA3.out, HS7.out⟩
                    case measure => have := Hr.out; simp [intOf]; omega
                · obtain rfl : r = 3 := by omega
                  have HI3 := hide (hI2.out.next (by omega))
                  have HS3 := hide hst2.out
                  have HN3 : Hid (N1 + 1 = N + ((c9 : Int) + 1)) := by have := hN1.out; simp only [Hid]; omega
                  have hcw : IntKind.u8.wrap ((c9 : Int) + 1) = (c9 : Int) + 1 := by rw [show IntKind.u8.wrap ((c9 : Int) + 1) = ((c9 : Int) + 1) % 256 from rfl]; omega
                  clear hge hr hI2 ha2 hst2 hN1
                  go_wp2
                  go_roundw
                  case rel => exact ⟨c9 + 1, Hlt9.out, by go_num, N1 + 1, f2, σ2, rfl, by simp only [Hid]; have := HN3.out; omega, hf2.out, HI3.out, HS3.out⟩
                  case measure => have := Hlt9.out; simp [intOf]; omega
            · obtain rfl : c9 = G := by omega
              have HN3 : Hid (N1 ≤ 16 * ((k : Int) + 1)) := by have := hN1.out; have := hN.out; have := HGb.out; simp only [Hid]; omega
              have HL3 : Hid (f1.l ≤ (k : Int) + 1) := by have := hf1.out; have := HL2.out; simp only [Hid]; omega
              clear hge hc9 hN1 hN HL2
              go_wp2
              go_roundw
              case rel => exact ⟨k + 1, Hlt.out, by go_num, N1, f1, σ1, rfl, congrArg (fun z => Value.int .i64 z) hf1.out.symm, by have := HN3.out; simp only [Hid]; omega, by have := HL3.out; simp only [Hid]; omega, hI1.out, hst1.out⟩
              case measure => have := Hlt.out; simp [intOf]; omega
    · obtain rfl : k = n := by omega
      have hki : ¬ ((k : Int) < (k : Int)) := by omega
      have HB := hide (HB1.out.trans (hst.out.bel.mono HB1.out.size))
      clear hge hk hI hst hN hL
      go_wp2
      go_ret
      exact ⟨rfl, HB.out⟩
theorem One_any (A : Option Addr) (n c : Nat) (l : List Tq) (w : World) (hty : Ety w) (hl : l.length = n) (hf : TFits l) (hs : Src w A (tcels l)) :
    Calls Tryd.prog 4 #[.slice A n c] w fun e w' => e = .returned (.bool true) ∧ Below w.heap.size w w' := by
  rcases Nat.lt_or_ge 300 n with h | h
  · exact One_long A n c w hty h
  · exact One_law A n c l w hty hl hf hs h

end Go.Proofs.YtmbhnhfnimijcaaDoor.Le
