/-
  The walk of isobarlaw09.WindowLossy: it returns true, whatever becomes of what was sent; nothing that was there is changed.
-/
import Derived.Test.YtabjoalkbobhdaaWiPlay
namespace Go.Proofs.Ytabjoalkbobhdaa.Wi
open Go.RowKit
open Pk Dk Wn

def thr (m : Nat) : List Int := (List.range m).map fun j : Nat => ((j : Int) + 1) * 3
theorem thr_len (m : Nat) : (thr m).length = m := by simp [thr]
theorem thr_succ (m : Nat) : thr (m + 1) = thr m ++ [((m : Int) + 1) * 3] := by simp [thr, List.range_succ]
theorem thr_get {m j : Nat} (h : j < m) : (thr m)[j]? = some (((j : Int) + 1) * 3) := by simp [thr, h]
/-- What holds at each round's beginning. -/
structure LR (w1 : World) (p r n m i : Nat) (fv av : Value) (w : World) : Prop where
  ex : ∃ nx a T F K, LS w1 [] p r (thr m) nx a T F fv K av w ∧ F.length ≤ 4 * i ∧ K.length ≤ i
  mi : m ≤ i
  le : i ≤ n

set_option maxRecDepth 100000 in
set_option maxHeartbeats 16000000 in
theorem Lossy_any (A : Option Addr) (n cp : Nat) (l : List Pkt) (w : World) (hl : l.length = n) (hs : Src w A (pcels l)) :
    Calls Try.prog 3 #[.slice A n cp] w fun e w' => e = .returned (.bool true) ∧ Below w.heap.size w w' := by
  have Hl := hide hl
  have Hs := hide hs
  clear hl hs
  by_cases hn : 400 < n
  · have hni : (400 : Int) < (n : Int) := by omega
    go_enter Try.func3, Try.ntmps3
    go_wp2_with fail
    refine (awake_any w).mono ?_
    rintro e w1 ⟨rfl, hb1⟩
    have HB1 := hide hb1
    clear hb1
    go_wp2_with fail
    refine (awake_any w1).mono ?_
    rintro e w2 ⟨rfl, hb2⟩
    have HB2 := hide (HB1.out.trans (hb2.mono HB1.out.size))
    clear hb2
    go_wp2
    go_ret
    exact ⟨rfl, HB2.out⟩
  have hni : ¬ (400 : Int) < (n : Int) := by omega
  have Hn := hide hn
  clear hn
  go_enter Try.func3, Try.ntmps3
  go_wp2_with fail
  refine (awake_any w).mono ?_
  rintro e w1 ⟨rfl, hb1⟩
  have HB1 := hide hb1
  have Hs1 := hide (Hs.out.below hb1)
  clear hb1
  go_wp2_with (first | refine wpList_box_told rfl 27 (.tmp 22) rfl _ rfl ?_ | refine wpList_box_told rfl 30 (.tmp 24) rfl _ rfl ?_)
  intro w2 Hw2
  go_wp2_with (first | refine wpList_box_told rfl 27 (.tmp 22) rfl _ rfl ?_ | refine wpList_box_told rfl 30 (.tmp 24) rfl _ rfl ?_)
  intro w3 Hw3
  have HLS : Hid (LR w1 w1.heap.size w2.heap.size n 0 0 (.slice none 0 0) (.slice none 0 0) w3) := ⟨⟨_, _, _, _, _, LS.start Hw2.out Hw3.out, Nat.zero_le _, Nat.zero_le _⟩, Nat.le_refl _, Nat.zero_le _⟩
  clear Hw2 Hw3
  have hni : (n : Int) ≤ 400 := by have := Hn.out; omega
  go_wp2_with fail
  go_loopw [5, 6, 7, 28] (fun fv av mv j wr => ∃ m i : Nat, mv = .int .i64 (m : Int) ∧ j = .int .i64 (i : Int) ∧ Hid (LR w1 w1.heap.size w2.heap.size n m i fv av wr)) (fun _ _ _ j _ => n - (intOf j).toNat)
  case atStart => exact ⟨0, 0, rfl, rfl, HLS.out⟩
  case round =>
    clear HLS
    obtain ⟨m, i, rfl, rfl, hlr⟩ := hrel
    rcases Nat.lt_or_ge i n with hlt | hge
    · have Hlt := hide hlt
      have hii : (i : Int) < (n : Int) := by omega
      obtain ⟨nx, a, T, F, K, hls, hFl, hKl⟩ := hlr.out.ex
      have hmi := hlr.out.mi
      have HM := hide hmi
      have HI := hide (show i < 400 by have := Hn.out; omega)
      have HLS := hide hls
      have HF := hide hFl
      have HK := hide hKl
      obtain ⟨q, hq⟩ : ∃ q, l[i]? = some q := ⟨_, List.getElem?_eq_getElem (by rw [Hl.out]; exact hlt)⟩
      obtain ⟨g, o, rfl, hgl, hc0, hc1⟩ := Src.pkt (Hs1.out.below hls.st.bel) hq
      have hnum := hls.nums
      rw [thr_len] at hnum
      have HN := hide hnum
      obtain ⟨FA, fc, rfl, _, _, _⟩ := hls.row.form
      obtain ⟨KA, kc, rfl, _, _, _⟩ := hls.arow.form
      obtain ⟨fl, hfl⟩ : ∃ fl, F.length = fl := ⟨_, rfl⟩
      obtain ⟨kl, hkl⟩ : ∃ kl, K.length = kl := ⟨_, rfl⟩
      have HFl := hide hfl
      have HKl := hide hkl
      rw [hfl, hkl]
      rw [hfl, hkl] at HLS
      have hfl2 : (fl : Int) ≤ 1600 := by omega
      have hkl2 : (kl : Int) ≤ 400 := by omega
      have hmi2 : (m : Int) ≤ 400 := by omega
      obtain ⟨d, x⟩ := q
      clear hfl hkl hnum hlr hls hFl hKl hmi hq hlt
      simp only at hc0 hc1
      by_cases hd : d = 1
      · as_aux_lemma =>
          subst hd
          obtain ⟨M, hM⟩ : ∃ M : Nat, M = m + 1 := ⟨_, rfl⟩
          have HMM := hide hM
          have hx0 : (m : Int) + 1 = (M : Int) := by omega
          have hx1 : IntKind.i64.wrap (M : Int) = (M : Int) := wrap_id (by omega) (by omega)
          have hx2 : IntKind.i64.wrap ((M : Int) * 3) = (M : Int) * 3 := wrap_id (by omega) (by omega)
          have HC := hide (HLS.out.push (by rw [thr_len]; omega) ((M : Int) * 3))
          clear hM
          go_wp2_with fail
          refine HC.out.mono ?_
          rintro e w4 ⟨rfl, hs4⟩
          have HS : Hid (LS w1 [] w1.heap.size w2.heap.size (thr M) nx a T F (.slice FA fl fc) K (.slice KA kl kc) w4) := by rw [HMM.out, thr_succ]; have := hs4; rw [← hx0] at this; exact this
          clear hs4 HC HLS hx0 hx1 hx2
          have HNn := hide HS.out.nums
          go_wp2_with fail
          refine HS.out.list.mono ?_
          rintro e w6 ⟨v6, rfl, hv6, hs6, hb6⟩
          have HS6 := hide hs6
          obtain ⟨B6, c6, rfl, _, _, hsv6⟩ := hv6.form
          rw [HS.out.takes]
          have HV6 := hide hsv6
          clear hv6 hs6 hb6 hsv6 HS
          go_wp2_with fail
          refine HS6.out.counts.mono ?_
          rintro e w7 ⟨rfl, hs7, hb7⟩
          have HS7 := hide hs7
          have HV7 := hide (HV6.out.below hb7)
          have hnn := HNn.out
          rw [thr_len] at hnn ⊢
          clear hs7 hb7 HS6 HV6
          obtain ⟨t7, ht7⟩ : ∃ t : Nat, t = T := ⟨_, rfl⟩
          obtain ⟨a7, ha7⟩ : ∃ t : Nat, t = a := ⟨_, rfl⟩
          obtain ⟨n7, hn7⟩ : ∃ t : Nat, t = nx := ⟨_, rfl⟩
          obtain ⟨m7, hm7⟩ : ∃ t : Nat, t = M := ⟨_, rfl⟩
          have HT7 := hide ht7
          have hg1 : ¬ (t7 : Int) < (a7 : Int) := by omega
          have hg2 : ¬ (n7 : Int) < (t7 : Int) := by omega
          have hg3 : ¬ (m7 : Int) < (n7 : Int) := by omega
          obtain ⟨f7, hf7⟩ : ∃ f : Nat, f = n7 - a7 := ⟨_, rfl⟩
          have hg4 : (n7 : Int) - (a7 : Int) = (f7 : Int) := by omega
          have hg5 : (f7 : Int) ≤ 4 := by omega
          have hg6 : IntKind.i64.wrap (f7 : Int) = (f7 : Int) := wrap_id (by omega) (by omega)
          have HTM := hide (show t7 ≤ m7 by omega)
          have HTM4 := hide (show t7 ≤ 100000 by omega)
          have HM7 := hide (show m7 ≤ i + 1 by (have := HM.out; have := HMM.out; omega))
          have HR : Hid (LR w1 w1.heap.size w2.heap.size n m7 (i + 1) (.slice FA fl fc) (.slice KA kl kc) w7) := by
            rw [hm7]
            exact ⟨⟨_, _, _, _, _, HS7.out, by (have := HF.out; omega), by (have := HK.out; omega)⟩, by (have := HM.out; have := HMM.out; omega), Hlt.out⟩
          have HVV : Hid (Src w7 B6 (vals ((thr m7).take t7))) := by rw [hm7, ht7]; exact HV7.out
          try rw [← ht7]
          try rw [← ha7]
          try rw [← hn7]
          try rw [← hm7]
          clear ht7 ha7 hn7 hm7 hf7 hnn HNn HV7
          go_wp2_with fail
          go_loopw [157] (fun j wr => ∃ k : Nat, k ≤ t7 ∧ j = .int .i64 (k : Int) ∧ Hid (Below w7.heap.size w7 wr)) (fun j _ => t7 - (intOf j).toNat)
          case atStart => exact ⟨0, Nat.zero_le _, rfl, Below.refl _ _⟩
          case round =>
            obtain ⟨k, hkt, rfl, hbw⟩ := hrel
            rcases Nat.lt_or_ge k t7 with hlt | hge
            · have HLt := hide hlt
              have hki : (k : Int) < (t7 : Int) := by omega
              have hget : ((thr m7).take t7)[k]? = some (((k : Int) + 1) * 3) := by
                have := HTM.out
                rw [List.getElem?_take, if_pos hlt, thr_get (by omega)]
              obtain ⟨g7, o7, rfl, _, hce⟩ := Src.el (HVV.out.below hbw.out) hget
              obtain ⟨v, hv⟩ : ∃ v : Nat, (v : Int) = ((k : Int) + 1) * 3 := ⟨(k + 1) * 3, by simp⟩
              rw [← hv] at hce
              have hv3 : 3 * ((k : Int) + 1) = (v : Int) := by omega
              have hv4 : IntKind.i64.wrap (v : Int) = (v : Int) := wrap_id (by omega) (by have := HTM4.out; omega)
              have hk4 : (k : Int) ≤ 100000 := by have := HTM4.out; omega
              clear hget hv hlt hkt
              go_wp2
              go_roundw
              case rel => exact ⟨k + 1, HLt.out, by go_num, hbw⟩
              case measure => have := HLt.out; simp [intOf]; omega
            · obtain rfl : k = t7 := by omega
              obtain ⟨nx9, a9, T9, F9, K9, hls9, hFl9, hKl9⟩ := HR.out.ex
              have HR9 : Hid (LR w1 w1.heap.size w2.heap.size n m7 (i + 1) (.slice FA fl fc) (.slice KA kl kc) wr) := ⟨⟨_, _, _, _, _, hls9.below hbw.out, hFl9, hKl9⟩, HR.out.mi, HR.out.le⟩
              clear hge hkt hbw hls9 hFl9 hKl9
              go_wp2
              go_roundw
              case rel => exact ⟨m7, i + 1, by rfl, by go_num, HR9.out⟩
              case measure => have := Hlt.out; simp [intOf]; omega
      have hd1 : (d == 1) = false := by simpa using hd
      clear hd
      by_cases hd : d = 2
      · as_aux_lemma =>
          subst hd
          have HC := hide HLS.out.send
          obtain ⟨Q, hQ⟩ : ∃ Q, room a (thr m).length = Q := ⟨_, rfl⟩
          rw [hQ] at HC
          clear hQ
          go_wp2_with fail
          refine HC.out.mono ?_
          rintro e w4 ⟨v4, rfl, hv4, hs4⟩
          have HS4 := hide hs4
          clear hs4
          obtain ⟨A4, c4, rfl, _, _, hsv4⟩ := hv4.form
          have HU4 := hide (show (upTo (thr m) nx Q).length ≤ 4 by
            have h1 := HN.out
            have h2 := HS4.out.nums
            rw [thr_len] at h2
            rw [upTo_len (by rw [thr_len]; omega)]
            omega)
          clear HC
          have HROW : Hid (ORow w4 38 2 (.slice FA fl fc) fl (pcels F)) := by have := HS4.out.row; rw [HFl.out] at this; exact this
          obtain ⟨P, hP⟩ : ∃ P, P = upTo (thr m) nx Q := ⟨_, rfl⟩
          rw [← hP] at hsv4 HU4 ⊢
          obtain ⟨pl, hpl⟩ : ∃ pl, P.length = pl := ⟨_, rfl⟩
          have HPL := hide hpl
          have HSV4 := hide hsv4
          have HG4 : Hid (∀ q ∈ P, Good (thr m) Q q) := by rw [hP]; exact upTo_good
          rw [hpl] at HU4 ⊢
          have HPC := hide (show (pcels P).length = pl * 2 by rw [pcels_len, hpl])
          have Hm1 := hide (show fl + pl ≤ maxLen by have := HU4.out; have := HFl.out; have := HF.out; have := HI.out; unfold maxLen; omega)
          have Hm2 := hide (show (fl + pl) * 16 ≤ 140737488355328 by have := HU4.out; have := HFl.out; have := HF.out; have := HI.out; omega)
          have hpl4 : (pl : Int) ≤ 4 := by have := HU4.out; omega
          clear hv4 hP hpl hsv4 HLS
          go_wp2_with (at_builtin; go_must (refine wpList_app app_pk rfl (.tmp 46) (.tmp 48) rfl (.slice FA fl fc) fl (pcels F) rfl HROW.out A4 pl c4 (pcels P) rfl HPC.out HSV4.out (pcels_one _) (by decide) Hm1.out Hm2.out ?_))
          intro v5 w5 hg5
          have HS := hide (HS4.out.flown (P := P) (Below.refl _ _) (by rw [HFl.out, HPL.out]) hg5.out HG4.out)
          obtain ⟨A5, c5, rfl, _, _, _⟩ := hg5.out.row.form
          clear hg5 HS4 HROW HSV4 HG4 HPC
          have HNn := hide HS.out.nums
          go_wp2_with fail
          refine HS.out.list.mono ?_
          rintro e w6 ⟨v6, rfl, hv6, hs6, hb6⟩
          have HS6 := hide hs6
          obtain ⟨B6, c6, rfl, _, _, hsv6⟩ := hv6.form
          rw [HS.out.takes]
          have HV6 := hide hsv6
          clear hv6 hs6 hb6 hsv6 HS
          go_wp2_with fail
          refine HS6.out.counts.mono ?_
          rintro e w7 ⟨rfl, hs7, hb7⟩
          have HS7 := hide hs7
          have HV7 := hide (HV6.out.below hb7)
          have hnn := HNn.out
          rw [thr_len] at hnn ⊢
          clear hs7 hb7 HS6 HV6
          obtain ⟨t7, ht7⟩ : ∃ t : Nat, t = T := ⟨_, rfl⟩
          obtain ⟨a7, ha7⟩ : ∃ t : Nat, t = a := ⟨_, rfl⟩
          obtain ⟨n7, hn7⟩ : ∃ t : Nat, t = Q := ⟨_, rfl⟩
          obtain ⟨m7, hm7⟩ : ∃ t : Nat, t = m := ⟨_, rfl⟩
          have HT7 := hide ht7
          have hg1 : ¬ (t7 : Int) < (a7 : Int) := by omega
          have hg2 : ¬ (n7 : Int) < (t7 : Int) := by omega
          have hg3 : ¬ (m7 : Int) < (n7 : Int) := by omega
          obtain ⟨f7, hf7⟩ : ∃ f : Nat, f = n7 - a7 := ⟨_, rfl⟩
          have hg4 : (n7 : Int) - (a7 : Int) = (f7 : Int) := by omega
          have hg5 : (f7 : Int) ≤ 4 := by omega
          have hg6 : IntKind.i64.wrap (f7 : Int) = (f7 : Int) := wrap_id (by omega) (by omega)
          have HTM := hide (show t7 ≤ m7 by omega)
          have HTM4 := hide (show t7 ≤ 100000 by omega)
          have HM7 := hide (show m7 ≤ i + 1 by (have := HM.out; omega))
          have HR : Hid (LR w1 w1.heap.size w2.heap.size n m7 (i + 1) (.slice A5 (fl + pl) c5) (.slice KA kl kc) w7) := by
            rw [hm7]
            exact ⟨⟨_, _, _, _, _, HS7.out, by (rw [List.length_append, HPL.out]; have := HF.out; have := HU4.out; omega), by (have := HK.out; omega)⟩, by (have := HM.out; omega), Hlt.out⟩
          have HVV : Hid (Src w7 B6 (vals ((thr m7).take t7))) := by rw [hm7, ht7]; exact HV7.out
          try rw [← ht7]
          try rw [← ha7]
          try rw [← hn7]
          try rw [← hm7]
          clear ht7 ha7 hn7 hm7 hf7 hnn HNn HV7
          go_wp2_with fail
          go_loopw [157] (fun j wr => ∃ k : Nat, k ≤ t7 ∧ j = .int .i64 (k : Int) ∧ Hid (Below w7.heap.size w7 wr)) (fun j _ => t7 - (intOf j).toNat)
          case atStart => exact ⟨0, Nat.zero_le _, rfl, Below.refl _ _⟩
          case round =>
            obtain ⟨k, hkt, rfl, hbw⟩ := hrel
            rcases Nat.lt_or_ge k t7 with hlt | hge
            · have HLt := hide hlt
              have hki : (k : Int) < (t7 : Int) := by omega
              have hget : ((thr m7).take t7)[k]? = some (((k : Int) + 1) * 3) := by
                have := HTM.out
                rw [List.getElem?_take, if_pos hlt, thr_get (by omega)]
              obtain ⟨g7, o7, rfl, _, hce⟩ := Src.el (HVV.out.below hbw.out) hget
              obtain ⟨v, hv⟩ : ∃ v : Nat, (v : Int) = ((k : Int) + 1) * 3 := ⟨(k + 1) * 3, by simp⟩
              rw [← hv] at hce
              have hv3 : 3 * ((k : Int) + 1) = (v : Int) := by omega
              have hv4 : IntKind.i64.wrap (v : Int) = (v : Int) := wrap_id (by omega) (by have := HTM4.out; omega)
              have hk4 : (k : Int) ≤ 100000 := by have := HTM4.out; omega
              clear hget hv hlt hkt
              go_wp2
              go_roundw
              case rel => exact ⟨k + 1, HLt.out, by go_num, hbw⟩
              case measure => have := HLt.out; simp [intOf]; omega
            · obtain rfl : k = t7 := by omega
              obtain ⟨nx9, a9, T9, F9, K9, hls9, hFl9, hKl9⟩ := HR.out.ex
              have HR9 : Hid (LR w1 w1.heap.size w2.heap.size n m7 (i + 1) (.slice A5 (fl + pl) c5) (.slice KA kl kc) wr) := ⟨⟨_, _, _, _, _, hls9.below hbw.out, hFl9, hKl9⟩, HR.out.mi, HR.out.le⟩
              clear hge hkt hbw hls9 hFl9 hKl9
              go_wp2
              go_roundw
              case rel => exact ⟨m7, i + 1, by rfl, by go_num, HR9.out⟩
              case measure => have := Hlt.out; simp [intOf]; omega
      have hd2 : (d == 2) = false := by simpa using hd
      clear hd
      by_cases hd : d = 3
      · as_aux_lemma =>
          subst hd
          have h2000 : (fl : Int) < 2000 := by omega
          have HC := hide HLS.out.resend
          go_wp2_with fail
          refine HC.out.mono ?_
          rintro e w4 ⟨v4, rfl, hv4, hs4, _⟩
          have HS4 := hide hs4
          clear hs4
          obtain ⟨A4, c4, rfl, _, _, hsv4⟩ := hv4.form
          have HU4 := hide (show (upTo (thr m) a nx).length ≤ 4 by
            have h1 := HN.out
            have h2 := HS4.out.nums
            rw [thr_len] at h2
            rw [upTo_len (by rw [thr_len]; omega)]
            omega)
          clear HC
          have HROW : Hid (ORow w4 38 2 (.slice FA fl fc) fl (pcels F)) := by have := HS4.out.row; rw [HFl.out] at this; exact this
          obtain ⟨P, hP⟩ : ∃ P, P = upTo (thr m) a nx := ⟨_, rfl⟩
          rw [← hP] at hsv4 HU4 ⊢
          obtain ⟨pl, hpl⟩ : ∃ pl, P.length = pl := ⟨_, rfl⟩
          have HPL := hide hpl
          have HSV4 := hide hsv4
          have HG4 : Hid (∀ q ∈ P, Good (thr m) nx q) := by rw [hP]; exact upTo_good
          rw [hpl] at HU4 ⊢
          have HPC := hide (show (pcels P).length = pl * 2 by rw [pcels_len, hpl])
          have Hm1 := hide (show fl + pl ≤ maxLen by have := HU4.out; have := HFl.out; have := HF.out; have := HI.out; unfold maxLen; omega)
          have Hm2 := hide (show (fl + pl) * 16 ≤ 140737488355328 by have := HU4.out; have := HFl.out; have := HF.out; have := HI.out; omega)
          have hpl4 : (pl : Int) ≤ 4 := by have := HU4.out; omega
          clear hv4 hP hpl hsv4 HLS
          go_wp2_with (at_builtin; go_must (refine wpList_app app_pk rfl (.tmp 55) (.tmp 57) rfl (.slice FA fl fc) fl (pcels F) rfl HROW.out A4 pl c4 (pcels P) rfl HPC.out HSV4.out (pcels_one _) (by decide) Hm1.out Hm2.out ?_))
          intro v5 w5 hg5
          have HS := hide (HS4.out.flown (P := P) (Below.refl _ _) (by rw [HFl.out, HPL.out]) hg5.out HG4.out)
          obtain ⟨A5, c5, rfl, _, _, _⟩ := hg5.out.row.form
          clear hg5 HS4 HROW HSV4 HG4 HPC
          have HNn := hide HS.out.nums
          go_wp2_with fail
          refine HS.out.list.mono ?_
          rintro e w6 ⟨v6, rfl, hv6, hs6, hb6⟩
          have HS6 := hide hs6
          obtain ⟨B6, c6, rfl, _, _, hsv6⟩ := hv6.form
          rw [HS.out.takes]
          have HV6 := hide hsv6
          clear hv6 hs6 hb6 hsv6 HS
          go_wp2_with fail
          refine HS6.out.counts.mono ?_
          rintro e w7 ⟨rfl, hs7, hb7⟩
          have HS7 := hide hs7
          have HV7 := hide (HV6.out.below hb7)
          have hnn := HNn.out
          rw [thr_len] at hnn ⊢
          clear hs7 hb7 HS6 HV6
          obtain ⟨t7, ht7⟩ : ∃ t : Nat, t = T := ⟨_, rfl⟩
          obtain ⟨a7, ha7⟩ : ∃ t : Nat, t = a := ⟨_, rfl⟩
          obtain ⟨n7, hn7⟩ : ∃ t : Nat, t = nx := ⟨_, rfl⟩
          obtain ⟨m7, hm7⟩ : ∃ t : Nat, t = m := ⟨_, rfl⟩
          have HT7 := hide ht7
          have hg1 : ¬ (t7 : Int) < (a7 : Int) := by omega
          have hg2 : ¬ (n7 : Int) < (t7 : Int) := by omega
          have hg3 : ¬ (m7 : Int) < (n7 : Int) := by omega
          obtain ⟨f7, hf7⟩ : ∃ f : Nat, f = n7 - a7 := ⟨_, rfl⟩
          have hg4 : (n7 : Int) - (a7 : Int) = (f7 : Int) := by omega
          have hg5 : (f7 : Int) ≤ 4 := by omega
          have hg6 : IntKind.i64.wrap (f7 : Int) = (f7 : Int) := wrap_id (by omega) (by omega)
          have HTM := hide (show t7 ≤ m7 by omega)
          have HTM4 := hide (show t7 ≤ 100000 by omega)
          have HM7 := hide (show m7 ≤ i + 1 by (have := HM.out; omega))
          have HR : Hid (LR w1 w1.heap.size w2.heap.size n m7 (i + 1) (.slice A5 (fl + pl) c5) (.slice KA kl kc) w7) := by
            rw [hm7]
            exact ⟨⟨_, _, _, _, _, HS7.out, by (rw [List.length_append, HPL.out]; have := HF.out; have := HU4.out; omega), by (have := HK.out; omega)⟩, by (have := HM.out; omega), Hlt.out⟩
          have HVV : Hid (Src w7 B6 (vals ((thr m7).take t7))) := by rw [hm7, ht7]; exact HV7.out
          try rw [← ht7]
          try rw [← ha7]
          try rw [← hn7]
          try rw [← hm7]
          clear ht7 ha7 hn7 hm7 hf7 hnn HNn HV7
          go_wp2_with fail
          go_loopw [157] (fun j wr => ∃ k : Nat, k ≤ t7 ∧ j = .int .i64 (k : Int) ∧ Hid (Below w7.heap.size w7 wr)) (fun j _ => t7 - (intOf j).toNat)
          case atStart => exact ⟨0, Nat.zero_le _, rfl, Below.refl _ _⟩
          case round =>
            obtain ⟨k, hkt, rfl, hbw⟩ := hrel
            rcases Nat.lt_or_ge k t7 with hlt | hge
            · have HLt := hide hlt
              have hki : (k : Int) < (t7 : Int) := by omega
              have hget : ((thr m7).take t7)[k]? = some (((k : Int) + 1) * 3) := by
                have := HTM.out
                rw [List.getElem?_take, if_pos hlt, thr_get (by omega)]
              obtain ⟨g7, o7, rfl, _, hce⟩ := Src.el (HVV.out.below hbw.out) hget
              obtain ⟨v, hv⟩ : ∃ v : Nat, (v : Int) = ((k : Int) + 1) * 3 := ⟨(k + 1) * 3, by simp⟩
              rw [← hv] at hce
              have hv3 : 3 * ((k : Int) + 1) = (v : Int) := by omega
              have hv4 : IntKind.i64.wrap (v : Int) = (v : Int) := wrap_id (by omega) (by have := HTM4.out; omega)
              have hk4 : (k : Int) ≤ 100000 := by have := HTM4.out; omega
              clear hget hv hlt hkt
              go_wp2
              go_roundw
              case rel => exact ⟨k + 1, HLt.out, by go_num, hbw⟩
              case measure => have := HLt.out; simp [intOf]; omega
            · obtain rfl : k = t7 := by omega
              obtain ⟨nx9, a9, T9, F9, K9, hls9, hFl9, hKl9⟩ := HR.out.ex
              have HR9 : Hid (LR w1 w1.heap.size w2.heap.size n m7 (i + 1) (.slice A5 (fl + pl) c5) (.slice KA kl kc) wr) := ⟨⟨_, _, _, _, _, hls9.below hbw.out, hFl9, hKl9⟩, HR.out.mi, HR.out.le⟩
              clear hge hkt hbw hls9 hFl9 hKl9
              go_wp2
              go_roundw
              case rel => exact ⟨m7, i + 1, by rfl, by go_num, HR9.out⟩
              case measure => have := Hlt.out; simp [intOf]; omega
      have hd3 : (d == 3) = false := by simpa using hd
      clear hd
      by_cases hd : d = 4
      · as_aux_lemma =>
          subst hd
          by_cases hin : 0 ≤ x ∧ x < (fl : Int)
          · obtain ⟨hx0, hxl⟩ := hin
            obtain ⟨y, rfl⟩ : ∃ y : Nat, x = (y : Int) := ⟨x.toNat, by omega⟩
            have hyl : y < fl := by omega
            obtain ⟨qq, hqq⟩ : ∃ qq, F[y]? = some qq := ⟨_, List.getElem?_eq_getElem (by rw [HFl.out]; exact hyl)⟩
            have HFS := hide (show Src wr FA (pcels F) by have := HLS.out.row; rw [HFl.out] at this; exact this.src)
            obtain ⟨gq, oq, rfl, _, hq0, hq1⟩ := Src.pkt HFS.out hqq
            obtain ⟨j, xx, hj, hxx, hqe⟩ := HLS.out.fl qq (List.mem_of_getElem? hqq)
            have HC := hide (HLS.out.take qq j xx hj hxx hqe)
            obtain ⟨qa, qb⟩ := qq
            have htk := hide (took_le T j)
            have HTN := hide HLS.out.Tn
            obtain ⟨t4, ht4⟩ : ∃ t4, took T j = t4 := ⟨_, rfl⟩
            rw [ht4] at HC htk
            have ht4b := hide (show t4 ≤ T + 1 by rw [← ht4]; unfold took; split <;> omega)
            clear hqq hj hxx hqe HFS hx0 ht4
            simp only at hq0 hq1 HC
            go_wp2_with fail
            refine HC.out.mono ?_
            rintro e w4 ⟨rfl, hs4⟩
            have HS4 := hide hs4
            have HROW : Hid (ORow (w4.alloc (.cells #[.int .i64 (t4 : Int)] 3)) 3 1 (.slice KA kl kc) kl (vals K)) := by
              have := hs4.arow
              rw [HKl.out] at this
              exact this.below ((Below.refl _ _).alloc (Nat.le_refl _) _)
            have HM4 := hide (Made.el (Below.refl w4.heap.size w4) (t4 : Int))
            have Hm1 := hide (show kl + 1 ≤ maxLen by have := HKl.out; have := HK.out; have := HI.out; unfold maxLen; omega)
            have Hm2 := hide (show (kl + 1) * 8 ≤ 140737488355328 by have := HKl.out; have := HK.out; have := HI.out; omega)
            clear hs4 HC HLS hq0 hq1 hc0 hc1
            go_wp2_with (at_builtin; go_must (refine wpList_app app_el rfl (.tmp 77) (.tmp 88) rfl (.slice KA kl kc) kl (vals K) rfl HROW.out _ 1 1 (vals [(t4 : Int)]) rfl rfl HM4.out.src (vals_one _) (by decide) Hm1.out Hm2.out ?_))
            intro v5 w5 hg5
            have HS := hide (HS4.out.answered HM4.out.bel (by rw [HKl.out]) hg5.out (Nat.le_refl _))
            obtain ⟨A5, c5, rfl, _, _, _⟩ := hg5.out.row.form
            clear hg5 HS4 HROW HM4
            have HNn := hide HS.out.nums
            go_wp2_with fail
            refine HS.out.list.mono ?_
            rintro e w6 ⟨v6, rfl, hv6, hs6, hb6⟩
            have HS6 := hide hs6
            obtain ⟨B6, c6, rfl, _, _, hsv6⟩ := hv6.form
            rw [HS.out.takes]
            have HV6 := hide hsv6
            clear hv6 hs6 hb6 hsv6 HS
            go_wp2_with fail
            refine HS6.out.counts.mono ?_
            rintro e w7 ⟨rfl, hs7, hb7⟩
            have HS7 := hide hs7
            have HV7 := hide (HV6.out.below hb7)
            have hnn := HNn.out
            rw [thr_len] at hnn ⊢
            clear hs7 hb7 HS6 HV6
            obtain ⟨t7, ht7⟩ : ∃ t : Nat, t = t4 := ⟨_, rfl⟩
            obtain ⟨a7, ha7⟩ : ∃ t : Nat, t = a := ⟨_, rfl⟩
            obtain ⟨n7, hn7⟩ : ∃ t : Nat, t = nx := ⟨_, rfl⟩
            obtain ⟨m7, hm7⟩ : ∃ t : Nat, t = m := ⟨_, rfl⟩
            have HT7 := hide ht7
            have hg1 : ¬ (t7 : Int) < (a7 : Int) := by omega
            have hg2 : ¬ (n7 : Int) < (t7 : Int) := by omega
            have hg3 : ¬ (m7 : Int) < (n7 : Int) := by omega
            obtain ⟨f7, hf7⟩ : ∃ f : Nat, f = n7 - a7 := ⟨_, rfl⟩
            have hg4 : (n7 : Int) - (a7 : Int) = (f7 : Int) := by omega
            have hg5 : (f7 : Int) ≤ 4 := by omega
            have hg6 : IntKind.i64.wrap (f7 : Int) = (f7 : Int) := wrap_id (by omega) (by omega)
            have HTM := hide (show t7 ≤ m7 by omega)
            have HTM4 := hide (show t7 ≤ 100000 by omega)
            have HM7 := hide (show m7 ≤ i + 1 by (have := HM.out; omega))
            have HR : Hid (LR w1 w1.heap.size w2.heap.size n m7 (i + 1) (.slice (some ⟨gq, oq, none⟩) fl fc) (.slice A5 (kl + 1) c5) w7) := by
              rw [hm7]
              exact ⟨⟨_, _, _, _, _, HS7.out, by (have := HF.out; omega), by (rw [List.length_append]; have := HK.out; simp; omega)⟩, by (have := HM.out; omega), Hlt.out⟩
            have HVV : Hid (Src w7 B6 (vals ((thr m7).take t7))) := by rw [hm7, ht7]; exact HV7.out
            try rw [← ht7]
            try rw [← ha7]
            try rw [← hn7]
            try rw [← hm7]
            clear ht7 ha7 hn7 hm7 hf7 hnn HNn HV7
            go_wp2_with fail
            go_loopw [157] (fun j wr => ∃ k : Nat, k ≤ t7 ∧ j = .int .i64 (k : Int) ∧ Hid (Below w7.heap.size w7 wr)) (fun j _ => t7 - (intOf j).toNat)
            case atStart => exact ⟨0, Nat.zero_le _, rfl, Below.refl _ _⟩
            case round =>
              obtain ⟨k, hkt, rfl, hbw⟩ := hrel
              rcases Nat.lt_or_ge k t7 with hlt | hge
              · have HLt := hide hlt
                have hki : (k : Int) < (t7 : Int) := by omega
                have hget : ((thr m7).take t7)[k]? = some (((k : Int) + 1) * 3) := by
                  have := HTM.out
                  rw [List.getElem?_take, if_pos hlt, thr_get (by omega)]
                obtain ⟨g7, o7, rfl, _, hce⟩ := Src.el (HVV.out.below hbw.out) hget
                obtain ⟨v, hv⟩ : ∃ v : Nat, (v : Int) = ((k : Int) + 1) * 3 := ⟨(k + 1) * 3, by simp⟩
                rw [← hv] at hce
                have hv3 : 3 * ((k : Int) + 1) = (v : Int) := by omega
                have hv4 : IntKind.i64.wrap (v : Int) = (v : Int) := wrap_id (by omega) (by have := HTM4.out; omega)
                have hk4 : (k : Int) ≤ 100000 := by have := HTM4.out; omega
                clear hget hv hlt hkt
                go_wp2
                go_roundw
                case rel => exact ⟨k + 1, HLt.out, by go_num, hbw⟩
                case measure => have := HLt.out; simp [intOf]; omega
              · obtain rfl : k = t7 := by omega
                obtain ⟨nx9, a9, T9, F9, K9, hls9, hFl9, hKl9⟩ := HR.out.ex
                have HR9 : Hid (LR w1 w1.heap.size w2.heap.size n m7 (i + 1) (.slice (some ⟨gq, oq, none⟩) fl fc) (.slice A5 (kl + 1) c5) wr) := ⟨⟨_, _, _, _, _, hls9.below hbw.out, hFl9, hKl9⟩, HR.out.mi, HR.out.le⟩
                clear hge hkt hbw hls9 hFl9 hKl9
                go_wp2
                go_roundw
                case rel => exact ⟨m7, i + 1, by rfl, by go_num, HR9.out⟩
                case measure => have := Hlt.out; simp [intOf]; omega
          · have hin' : ¬ 0 ≤ x ∨ (0 ≤ x ∧ ¬ x < (fl : Int)) := by omega
            have HS := HLS
            clear hin HLS
            rcases hin' with h1 | ⟨h1, h2⟩
            · have HNn := hide HS.out.nums
              go_wp2_with fail
              refine HS.out.list.mono ?_
              rintro e w6 ⟨v6, rfl, hv6, hs6, hb6⟩
              have HS6 := hide hs6
              obtain ⟨B6, c6, rfl, _, _, hsv6⟩ := hv6.form
              rw [HS.out.takes]
              have HV6 := hide hsv6
              clear hv6 hs6 hb6 hsv6 HS
              go_wp2_with fail
              refine HS6.out.counts.mono ?_
              rintro e w7 ⟨rfl, hs7, hb7⟩
              have HS7 := hide hs7
              have HV7 := hide (HV6.out.below hb7)
              have hnn := HNn.out
              rw [thr_len] at hnn ⊢
              clear hs7 hb7 HS6 HV6
              obtain ⟨t7, ht7⟩ : ∃ t : Nat, t = T := ⟨_, rfl⟩
              obtain ⟨a7, ha7⟩ : ∃ t : Nat, t = a := ⟨_, rfl⟩
              obtain ⟨n7, hn7⟩ : ∃ t : Nat, t = nx := ⟨_, rfl⟩
              obtain ⟨m7, hm7⟩ : ∃ t : Nat, t = m := ⟨_, rfl⟩
              have HT7 := hide ht7
              have hg1 : ¬ (t7 : Int) < (a7 : Int) := by omega
              have hg2 : ¬ (n7 : Int) < (t7 : Int) := by omega
              have hg3 : ¬ (m7 : Int) < (n7 : Int) := by omega
              obtain ⟨f7, hf7⟩ : ∃ f : Nat, f = n7 - a7 := ⟨_, rfl⟩
              have hg4 : (n7 : Int) - (a7 : Int) = (f7 : Int) := by omega
              have hg5 : (f7 : Int) ≤ 4 := by omega
              have hg6 : IntKind.i64.wrap (f7 : Int) = (f7 : Int) := wrap_id (by omega) (by omega)
              have HTM := hide (show t7 ≤ m7 by omega)
              have HTM4 := hide (show t7 ≤ 100000 by omega)
              have HM7 := hide (show m7 ≤ i + 1 by (have := HM.out; omega))
              have HR : Hid (LR w1 w1.heap.size w2.heap.size n m7 (i + 1) (.slice FA fl fc) (.slice KA kl kc) w7) := by
                rw [hm7]
                exact ⟨⟨_, _, _, _, _, HS7.out, by (have := HF.out; omega), by (have := HK.out; omega)⟩, by (have := HM.out; omega), Hlt.out⟩
              have HVV : Hid (Src w7 B6 (vals ((thr m7).take t7))) := by rw [hm7, ht7]; exact HV7.out
              try rw [← ht7]
              try rw [← ha7]
              try rw [← hn7]
              try rw [← hm7]
              clear ht7 ha7 hn7 hm7 hf7 hnn HNn HV7
              go_wp2_with fail
              go_loopw [157] (fun j wr => ∃ k : Nat, k ≤ t7 ∧ j = .int .i64 (k : Int) ∧ Hid (Below w7.heap.size w7 wr)) (fun j _ => t7 - (intOf j).toNat)
              case atStart => exact ⟨0, Nat.zero_le _, rfl, Below.refl _ _⟩
              case round =>
                obtain ⟨k, hkt, rfl, hbw⟩ := hrel
                rcases Nat.lt_or_ge k t7 with hlt | hge
                · have HLt := hide hlt
                  have hki : (k : Int) < (t7 : Int) := by omega
                  have hget : ((thr m7).take t7)[k]? = some (((k : Int) + 1) * 3) := by
                    have := HTM.out
                    rw [List.getElem?_take, if_pos hlt, thr_get (by omega)]
                  obtain ⟨g7, o7, rfl, _, hce⟩ := Src.el (HVV.out.below hbw.out) hget
                  obtain ⟨v, hv⟩ : ∃ v : Nat, (v : Int) = ((k : Int) + 1) * 3 := ⟨(k + 1) * 3, by simp⟩
                  rw [← hv] at hce
                  have hv3 : 3 * ((k : Int) + 1) = (v : Int) := by omega
                  have hv4 : IntKind.i64.wrap (v : Int) = (v : Int) := wrap_id (by omega) (by have := HTM4.out; omega)
                  have hk4 : (k : Int) ≤ 100000 := by have := HTM4.out; omega
                  clear hget hv hlt hkt
                  go_wp2
                  go_roundw
                  case rel => exact ⟨k + 1, HLt.out, by go_num, hbw⟩
                  case measure => have := HLt.out; simp [intOf]; omega
                · obtain rfl : k = t7 := by omega
                  obtain ⟨nx9, a9, T9, F9, K9, hls9, hFl9, hKl9⟩ := HR.out.ex
                  have HR9 : Hid (LR w1 w1.heap.size w2.heap.size n m7 (i + 1) (.slice FA fl fc) (.slice KA kl kc) wr) := ⟨⟨_, _, _, _, _, hls9.below hbw.out, hFl9, hKl9⟩, HR.out.mi, HR.out.le⟩
                  clear hge hkt hbw hls9 hFl9 hKl9
                  go_wp2
                  go_roundw
                  case rel => exact ⟨m7, i + 1, by rfl, by go_num, HR9.out⟩
                  case measure => have := Hlt.out; simp [intOf]; omega
            · have HNn := hide HS.out.nums
              go_wp2_with fail
              refine HS.out.list.mono ?_
              rintro e w6 ⟨v6, rfl, hv6, hs6, hb6⟩
              have HS6 := hide hs6
              obtain ⟨B6, c6, rfl, _, _, hsv6⟩ := hv6.form
              rw [HS.out.takes]
              have HV6 := hide hsv6
              clear hv6 hs6 hb6 hsv6 HS
              go_wp2_with fail
              refine HS6.out.counts.mono ?_
              rintro e w7 ⟨rfl, hs7, hb7⟩
              have HS7 := hide hs7
              have HV7 := hide (HV6.out.below hb7)
              have hnn := HNn.out
              rw [thr_len] at hnn ⊢
              clear hs7 hb7 HS6 HV6
              obtain ⟨t7, ht7⟩ : ∃ t : Nat, t = T := ⟨_, rfl⟩
              obtain ⟨a7, ha7⟩ : ∃ t : Nat, t = a := ⟨_, rfl⟩
              obtain ⟨n7, hn7⟩ : ∃ t : Nat, t = nx := ⟨_, rfl⟩
              obtain ⟨m7, hm7⟩ : ∃ t : Nat, t = m := ⟨_, rfl⟩
              have HT7 := hide ht7
              have hg1 : ¬ (t7 : Int) < (a7 : Int) := by omega
              have hg2 : ¬ (n7 : Int) < (t7 : Int) := by omega
              have hg3 : ¬ (m7 : Int) < (n7 : Int) := by omega
              obtain ⟨f7, hf7⟩ : ∃ f : Nat, f = n7 - a7 := ⟨_, rfl⟩
              have hg4 : (n7 : Int) - (a7 : Int) = (f7 : Int) := by omega
              have hg5 : (f7 : Int) ≤ 4 := by omega
              have hg6 : IntKind.i64.wrap (f7 : Int) = (f7 : Int) := wrap_id (by omega) (by omega)
              have HTM := hide (show t7 ≤ m7 by omega)
              have HTM4 := hide (show t7 ≤ 100000 by omega)
              have HM7 := hide (show m7 ≤ i + 1 by (have := HM.out; omega))
              have HR : Hid (LR w1 w1.heap.size w2.heap.size n m7 (i + 1) (.slice FA fl fc) (.slice KA kl kc) w7) := by
                rw [hm7]
                exact ⟨⟨_, _, _, _, _, HS7.out, by (have := HF.out; omega), by (have := HK.out; omega)⟩, by (have := HM.out; omega), Hlt.out⟩
              have HVV : Hid (Src w7 B6 (vals ((thr m7).take t7))) := by rw [hm7, ht7]; exact HV7.out
              try rw [← ht7]
              try rw [← ha7]
              try rw [← hn7]
              try rw [← hm7]
              clear ht7 ha7 hn7 hm7 hf7 hnn HNn HV7
              go_wp2_with fail
              go_loopw [157] (fun j wr => ∃ k : Nat, k ≤ t7 ∧ j = .int .i64 (k : Int) ∧ Hid (Below w7.heap.size w7 wr)) (fun j _ => t7 - (intOf j).toNat)
              case atStart => exact ⟨0, Nat.zero_le _, rfl, Below.refl _ _⟩
              case round =>
                obtain ⟨k, hkt, rfl, hbw⟩ := hrel
                rcases Nat.lt_or_ge k t7 with hlt | hge
                · have HLt := hide hlt
                  have hki : (k : Int) < (t7 : Int) := by omega
                  have hget : ((thr m7).take t7)[k]? = some (((k : Int) + 1) * 3) := by
                    have := HTM.out
                    rw [List.getElem?_take, if_pos hlt, thr_get (by omega)]
                  obtain ⟨g7, o7, rfl, _, hce⟩ := Src.el (HVV.out.below hbw.out) hget
                  obtain ⟨v, hv⟩ : ∃ v : Nat, (v : Int) = ((k : Int) + 1) * 3 := ⟨(k + 1) * 3, by simp⟩
                  rw [← hv] at hce
                  have hv3 : 3 * ((k : Int) + 1) = (v : Int) := by omega
                  have hv4 : IntKind.i64.wrap (v : Int) = (v : Int) := wrap_id (by omega) (by have := HTM4.out; omega)
                  have hk4 : (k : Int) ≤ 100000 := by have := HTM4.out; omega
                  clear hget hv hlt hkt
                  go_wp2
                  go_roundw
                  case rel => exact ⟨k + 1, HLt.out, by go_num, hbw⟩
                  case measure => have := HLt.out; simp [intOf]; omega
                · obtain rfl : k = t7 := by omega
                  obtain ⟨nx9, a9, T9, F9, K9, hls9, hFl9, hKl9⟩ := HR.out.ex
                  have HR9 : Hid (LR w1 w1.heap.size w2.heap.size n m7 (i + 1) (.slice FA fl fc) (.slice KA kl kc) wr) := ⟨⟨_, _, _, _, _, hls9.below hbw.out, hFl9, hKl9⟩, HR.out.mi, HR.out.le⟩
                  clear hge hkt hbw hls9 hFl9 hKl9
                  go_wp2
                  go_roundw
                  case rel => exact ⟨m7, i + 1, by rfl, by go_num, HR9.out⟩
                  case measure => have := Hlt.out; simp [intOf]; omega
      have hd4 : (d == 4) = false := by simpa using hd
      clear hd
      by_cases hd : d = 5
      · as_aux_lemma =>
          subst hd
          by_cases hin : 0 ≤ x ∧ x < (kl : Int)
          · obtain ⟨hx0, hxl⟩ := hin
            obtain ⟨y, rfl⟩ : ∃ y : Nat, x = (y : Int) := ⟨x.toNat, by omega⟩
            have hyl : y < kl := by omega
            obtain ⟨kk, hkk⟩ : ∃ kk, K[y]? = some kk := ⟨_, List.getElem?_eq_getElem (by rw [HKl.out]; exact hyl)⟩
            have HKS := hide (show Src wr KA (vals K) by have := HLS.out.arow; rw [HKl.out] at this; exact this.src)
            obtain ⟨gq, oq, rfl, _, hq0⟩ := Src.el HKS.out hkk
            obtain ⟨c, hcT, rfl⟩ := HLS.out.ak kk (List.mem_of_getElem? hkk)
            have HC := hide (HLS.out.ack c hcT)
            clear hkk HKS hcT hx0
            go_wp2_with fail
            refine HC.out.mono ?_
            rintro e w4 ⟨rfl, hs4⟩
            have HS := hide hs4
            clear hs4 HC HLS hq0 hc0 hc1
            have HNn := hide HS.out.nums
            go_wp2_with fail
            refine HS.out.list.mono ?_
            rintro e w6 ⟨v6, rfl, hv6, hs6, hb6⟩
            have HS6 := hide hs6
            obtain ⟨B6, c6, rfl, _, _, hsv6⟩ := hv6.form
            rw [HS.out.takes]
            have HV6 := hide hsv6
            clear hv6 hs6 hb6 hsv6 HS
            go_wp2_with fail
            refine HS6.out.counts.mono ?_
            rintro e w7 ⟨rfl, hs7, hb7⟩
            have HS7 := hide hs7
            have HV7 := hide (HV6.out.below hb7)
            have hnn := HNn.out
            rw [thr_len] at hnn ⊢
            clear hs7 hb7 HS6 HV6
            obtain ⟨t7, ht7⟩ : ∃ t : Nat, t = T := ⟨_, rfl⟩
            obtain ⟨a7, ha7⟩ : ∃ t : Nat, t = max a c := ⟨_, rfl⟩
            obtain ⟨n7, hn7⟩ : ∃ t : Nat, t = nx := ⟨_, rfl⟩
            obtain ⟨m7, hm7⟩ : ∃ t : Nat, t = m := ⟨_, rfl⟩
            have HT7 := hide ht7
            have hg1 : ¬ (t7 : Int) < (a7 : Int) := by omega
            have hg2 : ¬ (n7 : Int) < (t7 : Int) := by omega
            have hg3 : ¬ (m7 : Int) < (n7 : Int) := by omega
            obtain ⟨f7, hf7⟩ : ∃ f : Nat, f = n7 - a7 := ⟨_, rfl⟩
            have hg4 : (n7 : Int) - (a7 : Int) = (f7 : Int) := by omega
            have hg5 : (f7 : Int) ≤ 4 := by omega
            have hg6 : IntKind.i64.wrap (f7 : Int) = (f7 : Int) := wrap_id (by omega) (by omega)
            have HTM := hide (show t7 ≤ m7 by omega)
            have HTM4 := hide (show t7 ≤ 100000 by omega)
            have HM7 := hide (show m7 ≤ i + 1 by (have := HM.out; omega))
            have HR : Hid (LR w1 w1.heap.size w2.heap.size n m7 (i + 1) (.slice FA fl fc) (.slice (some ⟨gq, oq, none⟩) kl kc) w7) := by
              rw [hm7]
              exact ⟨⟨_, _, _, _, _, HS7.out, by (have := HF.out; omega), by (have := HK.out; omega)⟩, by (have := HM.out; omega), Hlt.out⟩
            have HVV : Hid (Src w7 B6 (vals ((thr m7).take t7))) := by rw [hm7, ht7]; exact HV7.out
            try rw [← ht7]
            try rw [← ha7]
            try rw [← hn7]
            try rw [← hm7]
            clear ht7 ha7 hn7 hm7 hf7 hnn HNn HV7
            go_wp2_with fail
            go_loopw [157] (fun j wr => ∃ k : Nat, k ≤ t7 ∧ j = .int .i64 (k : Int) ∧ Hid (Below w7.heap.size w7 wr)) (fun j _ => t7 - (intOf j).toNat)
            case atStart => exact ⟨0, Nat.zero_le _, rfl, Below.refl _ _⟩
            case round =>
              obtain ⟨k, hkt, rfl, hbw⟩ := hrel
              rcases Nat.lt_or_ge k t7 with hlt | hge
              · have HLt := hide hlt
                have hki : (k : Int) < (t7 : Int) := by omega
                have hget : ((thr m7).take t7)[k]? = some (((k : Int) + 1) * 3) := by
                  have := HTM.out
                  rw [List.getElem?_take, if_pos hlt, thr_get (by omega)]
                obtain ⟨g7, o7, rfl, _, hce⟩ := Src.el (HVV.out.below hbw.out) hget
                obtain ⟨v, hv⟩ : ∃ v : Nat, (v : Int) = ((k : Int) + 1) * 3 := ⟨(k + 1) * 3, by simp⟩
                rw [← hv] at hce
                have hv3 : 3 * ((k : Int) + 1) = (v : Int) := by omega
                have hv4 : IntKind.i64.wrap (v : Int) = (v : Int) := wrap_id (by omega) (by have := HTM4.out; omega)
                have hk4 : (k : Int) ≤ 100000 := by have := HTM4.out; omega
                clear hget hv hlt hkt
                go_wp2
                go_roundw
                case rel => exact ⟨k + 1, HLt.out, by go_num, hbw⟩
                case measure => have := HLt.out; simp [intOf]; omega
              · obtain rfl : k = t7 := by omega
                obtain ⟨nx9, a9, T9, F9, K9, hls9, hFl9, hKl9⟩ := HR.out.ex
                have HR9 : Hid (LR w1 w1.heap.size w2.heap.size n m7 (i + 1) (.slice FA fl fc) (.slice (some ⟨gq, oq, none⟩) kl kc) wr) := ⟨⟨_, _, _, _, _, hls9.below hbw.out, hFl9, hKl9⟩, HR.out.mi, HR.out.le⟩
                clear hge hkt hbw hls9 hFl9 hKl9
                go_wp2
                go_roundw
                case rel => exact ⟨m7, i + 1, by rfl, by go_num, HR9.out⟩
                case measure => have := Hlt.out; simp [intOf]; omega
          · have hin' : ¬ 0 ≤ x ∨ (0 ≤ x ∧ ¬ x < (kl : Int)) := by omega
            have HS := HLS
            clear hin HLS
            rcases hin' with h1 | ⟨h1, h2⟩
            · have HNn := hide HS.out.nums
              go_wp2_with fail
              refine HS.out.list.mono ?_
              rintro e w6 ⟨v6, rfl, hv6, hs6, hb6⟩
              have HS6 := hide hs6
              obtain ⟨B6, c6, rfl, _, _, hsv6⟩ := hv6.form
              rw [HS.out.takes]
              have HV6 := hide hsv6
              clear hv6 hs6 hb6 hsv6 HS
              go_wp2_with fail
              refine HS6.out.counts.mono ?_
              rintro e w7 ⟨rfl, hs7, hb7⟩
              have HS7 := hide hs7
              have HV7 := hide (HV6.out.below hb7)
              have hnn := HNn.out
              rw [thr_len] at hnn ⊢
              clear hs7 hb7 HS6 HV6
              obtain ⟨t7, ht7⟩ : ∃ t : Nat, t = T := ⟨_, rfl⟩
              obtain ⟨a7, ha7⟩ : ∃ t : Nat, t = a := ⟨_, rfl⟩
              obtain ⟨n7, hn7⟩ : ∃ t : Nat, t = nx := ⟨_, rfl⟩
              obtain ⟨m7, hm7⟩ : ∃ t : Nat, t = m := ⟨_, rfl⟩
              have HT7 := hide ht7
              have hg1 : ¬ (t7 : Int) < (a7 : Int) := by omega
              have hg2 : ¬ (n7 : Int) < (t7 : Int) := by omega
              have hg3 : ¬ (m7 : Int) < (n7 : Int) := by omega
              obtain ⟨f7, hf7⟩ : ∃ f : Nat, f = n7 - a7 := ⟨_, rfl⟩
              have hg4 : (n7 : Int) - (a7 : Int) = (f7 : Int) := by omega
              have hg5 : (f7 : Int) ≤ 4 := by omega
              have hg6 : IntKind.i64.wrap (f7 : Int) = (f7 : Int) := wrap_id (by omega) (by omega)
              have HTM := hide (show t7 ≤ m7 by omega)
              have HTM4 := hide (show t7 ≤ 100000 by omega)
              have HM7 := hide (show m7 ≤ i + 1 by (have := HM.out; omega))
              have HR : Hid (LR w1 w1.heap.size w2.heap.size n m7 (i + 1) (.slice FA fl fc) (.slice KA kl kc) w7) := by
                rw [hm7]
                exact ⟨⟨_, _, _, _, _, HS7.out, by (have := HF.out; omega), by (have := HK.out; omega)⟩, by (have := HM.out; omega), Hlt.out⟩
              have HVV : Hid (Src w7 B6 (vals ((thr m7).take t7))) := by rw [hm7, ht7]; exact HV7.out
              try rw [← ht7]
              try rw [← ha7]
              try rw [← hn7]
              try rw [← hm7]
              clear ht7 ha7 hn7 hm7 hf7 hnn HNn HV7
              go_wp2_with fail
              go_loopw [157] (fun j wr => ∃ k : Nat, k ≤ t7 ∧ j = .int .i64 (k : Int) ∧ Hid (Below w7.heap.size w7 wr)) (fun j _ => t7 - (intOf j).toNat)
              case atStart => exact ⟨0, Nat.zero_le _, rfl, Below.refl _ _⟩
              case round =>
                obtain ⟨k, hkt, rfl, hbw⟩ := hrel
                rcases Nat.lt_or_ge k t7 with hlt | hge
                · have HLt := hide hlt
                  have hki : (k : Int) < (t7 : Int) := by omega
                  have hget : ((thr m7).take t7)[k]? = some (((k : Int) + 1) * 3) := by
                    have := HTM.out
                    rw [List.getElem?_take, if_pos hlt, thr_get (by omega)]
                  obtain ⟨g7, o7, rfl, _, hce⟩ := Src.el (HVV.out.below hbw.out) hget
                  obtain ⟨v, hv⟩ : ∃ v : Nat, (v : Int) = ((k : Int) + 1) * 3 := ⟨(k + 1) * 3, by simp⟩
                  rw [← hv] at hce
                  have hv3 : 3 * ((k : Int) + 1) = (v : Int) := by omega
                  have hv4 : IntKind.i64.wrap (v : Int) = (v : Int) := wrap_id (by omega) (by have := HTM4.out; omega)
                  have hk4 : (k : Int) ≤ 100000 := by have := HTM4.out; omega
                  clear hget hv hlt hkt
                  go_wp2
                  go_roundw
                  case rel => exact ⟨k + 1, HLt.out, by go_num, hbw⟩
                  case measure => have := HLt.out; simp [intOf]; omega
                · obtain rfl : k = t7 := by omega
                  obtain ⟨nx9, a9, T9, F9, K9, hls9, hFl9, hKl9⟩ := HR.out.ex
                  have HR9 : Hid (LR w1 w1.heap.size w2.heap.size n m7 (i + 1) (.slice FA fl fc) (.slice KA kl kc) wr) := ⟨⟨_, _, _, _, _, hls9.below hbw.out, hFl9, hKl9⟩, HR.out.mi, HR.out.le⟩
                  clear hge hkt hbw hls9 hFl9 hKl9
                  go_wp2
                  go_roundw
                  case rel => exact ⟨m7, i + 1, by rfl, by go_num, HR9.out⟩
                  case measure => have := Hlt.out; simp [intOf]; omega
            · have HNn := hide HS.out.nums
              go_wp2_with fail
              refine HS.out.list.mono ?_
              rintro e w6 ⟨v6, rfl, hv6, hs6, hb6⟩
              have HS6 := hide hs6
              obtain ⟨B6, c6, rfl, _, _, hsv6⟩ := hv6.form
              rw [HS.out.takes]
              have HV6 := hide hsv6
              clear hv6 hs6 hb6 hsv6 HS
              go_wp2_with fail
              refine HS6.out.counts.mono ?_
              rintro e w7 ⟨rfl, hs7, hb7⟩
              have HS7 := hide hs7
              have HV7 := hide (HV6.out.below hb7)
              have hnn := HNn.out
              rw [thr_len] at hnn ⊢
              clear hs7 hb7 HS6 HV6
              obtain ⟨t7, ht7⟩ : ∃ t : Nat, t = T := ⟨_, rfl⟩
              obtain ⟨a7, ha7⟩ : ∃ t : Nat, t = a := ⟨_, rfl⟩
              obtain ⟨n7, hn7⟩ : ∃ t : Nat, t = nx := ⟨_, rfl⟩
              obtain ⟨m7, hm7⟩ : ∃ t : Nat, t = m := ⟨_, rfl⟩
              have HT7 := hide ht7
              have hg1 : ¬ (t7 : Int) < (a7 : Int) := by omega
              have hg2 : ¬ (n7 : Int) < (t7 : Int) := by omega
              have hg3 : ¬ (m7 : Int) < (n7 : Int) := by omega
              obtain ⟨f7, hf7⟩ : ∃ f : Nat, f = n7 - a7 := ⟨_, rfl⟩
              have hg4 : (n7 : Int) - (a7 : Int) = (f7 : Int) := by omega
              have hg5 : (f7 : Int) ≤ 4 := by omega
              have hg6 : IntKind.i64.wrap (f7 : Int) = (f7 : Int) := wrap_id (by omega) (by omega)
              have HTM := hide (show t7 ≤ m7 by omega)
              have HTM4 := hide (show t7 ≤ 100000 by omega)
              have HM7 := hide (show m7 ≤ i + 1 by (have := HM.out; omega))
              have HR : Hid (LR w1 w1.heap.size w2.heap.size n m7 (i + 1) (.slice FA fl fc) (.slice KA kl kc) w7) := by
                rw [hm7]
                exact ⟨⟨_, _, _, _, _, HS7.out, by (have := HF.out; omega), by (have := HK.out; omega)⟩, by (have := HM.out; omega), Hlt.out⟩
              have HVV : Hid (Src w7 B6 (vals ((thr m7).take t7))) := by rw [hm7, ht7]; exact HV7.out
              try rw [← ht7]
              try rw [← ha7]
              try rw [← hn7]
              try rw [← hm7]
              clear ht7 ha7 hn7 hm7 hf7 hnn HNn HV7
              go_wp2_with fail
              go_loopw [157] (fun j wr => ∃ k : Nat, k ≤ t7 ∧ j = .int .i64 (k : Int) ∧ Hid (Below w7.heap.size w7 wr)) (fun j _ => t7 - (intOf j).toNat)
              case atStart => exact ⟨0, Nat.zero_le _, rfl, Below.refl _ _⟩
              case round =>
                obtain ⟨k, hkt, rfl, hbw⟩ := hrel
                rcases Nat.lt_or_ge k t7 with hlt | hge
                · have HLt := hide hlt
                  have hki : (k : Int) < (t7 : Int) := by omega
                  have hget : ((thr m7).take t7)[k]? = some (((k : Int) + 1) * 3) := by
                    have := HTM.out
                    rw [List.getElem?_take, if_pos hlt, thr_get (by omega)]
                  obtain ⟨g7, o7, rfl, _, hce⟩ := Src.el (HVV.out.below hbw.out) hget
                  obtain ⟨v, hv⟩ : ∃ v : Nat, (v : Int) = ((k : Int) + 1) * 3 := ⟨(k + 1) * 3, by simp⟩
                  rw [← hv] at hce
                  have hv3 : 3 * ((k : Int) + 1) = (v : Int) := by omega
                  have hv4 : IntKind.i64.wrap (v : Int) = (v : Int) := wrap_id (by omega) (by have := HTM4.out; omega)
                  have hk4 : (k : Int) ≤ 100000 := by have := HTM4.out; omega
                  clear hget hv hlt hkt
                  go_wp2
                  go_roundw
                  case rel => exact ⟨k + 1, HLt.out, by go_num, hbw⟩
                  case measure => have := HLt.out; simp [intOf]; omega
                · obtain rfl : k = t7 := by omega
                  obtain ⟨nx9, a9, T9, F9, K9, hls9, hFl9, hKl9⟩ := HR.out.ex
                  have HR9 : Hid (LR w1 w1.heap.size w2.heap.size n m7 (i + 1) (.slice FA fl fc) (.slice KA kl kc) wr) := ⟨⟨_, _, _, _, _, hls9.below hbw.out, hFl9, hKl9⟩, HR.out.mi, HR.out.le⟩
                  clear hge hkt hbw hls9 hFl9 hKl9
                  go_wp2
                  go_roundw
                  case rel => exact ⟨m7, i + 1, by rfl, by go_num, HR9.out⟩
                  case measure => have := Hlt.out; simp [intOf]; omega
      have hd5 : (d == 5) = false := by simpa using hd
      clear hd
      have HS := HLS
      clear HLS
      have HNn := hide HS.out.nums
      go_wp2_with fail
      refine HS.out.list.mono ?_
      rintro e w6 ⟨v6, rfl, hv6, hs6, hb6⟩
      have HS6 := hide hs6
      obtain ⟨B6, c6, rfl, _, _, hsv6⟩ := hv6.form
      rw [HS.out.takes]
      have HV6 := hide hsv6
      clear hv6 hs6 hb6 hsv6 HS
      go_wp2_with fail
      refine HS6.out.counts.mono ?_
      rintro e w7 ⟨rfl, hs7, hb7⟩
      have HS7 := hide hs7
      have HV7 := hide (HV6.out.below hb7)
      have hnn := HNn.out
      rw [thr_len] at hnn ⊢
      clear hs7 hb7 HS6 HV6
      obtain ⟨t7, ht7⟩ : ∃ t : Nat, t = T := ⟨_, rfl⟩
      obtain ⟨a7, ha7⟩ : ∃ t : Nat, t = a := ⟨_, rfl⟩
      obtain ⟨n7, hn7⟩ : ∃ t : Nat, t = nx := ⟨_, rfl⟩
      obtain ⟨m7, hm7⟩ : ∃ t : Nat, t = m := ⟨_, rfl⟩
      have HT7 := hide ht7
      have hg1 : ¬ (t7 : Int) < (a7 : Int) := by omega
      have hg2 : ¬ (n7 : Int) < (t7 : Int) := by omega
      have hg3 : ¬ (m7 : Int) < (n7 : Int) := by omega
      obtain ⟨f7, hf7⟩ : ∃ f : Nat, f = n7 - a7 := ⟨_, rfl⟩
      have hg4 : (n7 : Int) - (a7 : Int) = (f7 : Int) := by omega
      have hg5 : (f7 : Int) ≤ 4 := by omega
      have hg6 : IntKind.i64.wrap (f7 : Int) = (f7 : Int) := wrap_id (by omega) (by omega)
      have HTM := hide (show t7 ≤ m7 by omega)
      have HTM4 := hide (show t7 ≤ 100000 by omega)
      have HM7 := hide (show m7 ≤ i + 1 by (have := HM.out; omega))
      have HR : Hid (LR w1 w1.heap.size w2.heap.size n m7 (i + 1) (.slice FA fl fc) (.slice KA kl kc) w7) := by
        rw [hm7]
        exact ⟨⟨_, _, _, _, _, HS7.out, by (have := HF.out; omega), by (have := HK.out; omega)⟩, by (have := HM.out; omega), Hlt.out⟩
      have HVV : Hid (Src w7 B6 (vals ((thr m7).take t7))) := by rw [hm7, ht7]; exact HV7.out
      try rw [← ht7]
      try rw [← ha7]
      try rw [← hn7]
      try rw [← hm7]
      clear ht7 ha7 hn7 hm7 hf7 hnn HNn HV7
      go_wp2_with fail
      go_loopw [157] (fun j wr => ∃ k : Nat, k ≤ t7 ∧ j = .int .i64 (k : Int) ∧ Hid (Below w7.heap.size w7 wr)) (fun j _ => t7 - (intOf j).toNat)
      case atStart => exact ⟨0, Nat.zero_le _, rfl, Below.refl _ _⟩
      case round =>
        obtain ⟨k, hkt, rfl, hbw⟩ := hrel
        rcases Nat.lt_or_ge k t7 with hlt | hge
        · have HLt := hide hlt
          have hki : (k : Int) < (t7 : Int) := by omega
          have hget : ((thr m7).take t7)[k]? = some (((k : Int) + 1) * 3) := by
            have := HTM.out
            rw [List.getElem?_take, if_pos hlt, thr_get (by omega)]
          obtain ⟨g7, o7, rfl, _, hce⟩ := Src.el (HVV.out.below hbw.out) hget
          obtain ⟨v, hv⟩ : ∃ v : Nat, (v : Int) = ((k : Int) + 1) * 3 := ⟨(k + 1) * 3, by simp⟩
          rw [← hv] at hce
          have hv3 : 3 * ((k : Int) + 1) = (v : Int) := by omega
          have hv4 : IntKind.i64.wrap (v : Int) = (v : Int) := wrap_id (by omega) (by have := HTM4.out; omega)
          have hk4 : (k : Int) ≤ 100000 := by have := HTM4.out; omega
          clear hget hv hlt hkt
          go_wp2
          go_roundw
          case rel => exact ⟨k + 1, HLt.out, by go_num, hbw⟩
          case measure => have := HLt.out; simp [intOf]; omega
        · obtain rfl : k = t7 := by omega
          obtain ⟨nx9, a9, T9, F9, K9, hls9, hFl9, hKl9⟩ := HR.out.ex
          have HR9 : Hid (LR w1 w1.heap.size w2.heap.size n m7 (i + 1) (.slice FA fl fc) (.slice KA kl kc) wr) := ⟨⟨_, _, _, _, _, hls9.below hbw.out, hFl9, hKl9⟩, HR.out.mi, HR.out.le⟩
          clear hge hkt hbw hls9 hFl9 hKl9
          go_wp2
          go_roundw
          case rel => exact ⟨m7, i + 1, by rfl, by go_num, HR9.out⟩
          case measure => have := Hlt.out; simp [intOf]; omega
    · obtain rfl : i = n := by
        have := hlr.out.le
        omega
      obtain ⟨nx, a, T, F, K, hls, _, _⟩ := hlr.out.ex
      have HBf := hide (HB1.out.trans (hls.st.bel.mono HB1.out.size))
      clear hlr hls hge
      go_wp2
      go_ret
      exact ⟨rfl, HBf.out⟩

end Go.Proofs.Ytabjoalkbobhdaa.Wi
