/-
  The walk of isobarlaw09.WindowHeals: it returns true, whatever was lost before; nothing that was there is changed.
-/
import Derived.Test.YtabjoalkbobhdaaWiPlay
namespace Go.Proofs.Ytabjoalkbobhdaa.Wi
open Go.RowKit
open Pk Dk Wn

/-- At the beginning of each round of the script. -/
structure HR (w1 : World) (p r n i : Nat) (fv : Value) (w : World) : Prop where
  ex : ∃ L nx a T F, LS w1 [] p r L nx a T F fv [] (.slice none 0 0) w ∧ F.length ≤ 4 * i ∧ L.length ≤ i
  le : i ≤ n
/-- No packets of before. -/
abbrev LS0 (w1 : World) (Us : List Thg) (p r : Nat) (L : List Int) (nx a T : Nat) (w : World) : Prop := LS w1 Us p r L nx a T [] (.slice none 0 0) [] (.slice none 0 0) w
abbrev pkT (v : Value) (P : List Pkt) : Thg := rowT 38 2 v P.length (pcels P)
section
variable {w1 w w' : World} {p r n a T : Nat} {L : List Int} {F : List Pkt} {fv : Value} {U U' : Thg}
theorem LS.forget (h : LS w1 [] p r L n a T F fv [] (.slice none 0 0) w) : LS0 w1 [] p r L n a T w := by
  obtain ⟨G, hp, hs⟩ := h.fly
  exact ⟨hs w (rowT 38 2 (.slice none 0 0) 0 []) ⟨fun _ => False, Row.nil w _ _, fun _ h => h.elim, Kept.refl _ _⟩, fun q hq => (by cases hq), h.ak, h.aT, h.Tn⟩
theorem LS0.addrow (h : LS0 w1 [] p r L n a T w) (hb : Below w.heap.size w w') {v : Value} {P : List Pkt} (hv : Pkts w' w.heap.size v P) : LS0 w1 [pkT v P] p r L n a T w' :=
  ⟨h.st.add hb hv.thg (fun k hk => hv.own k hk), h.fl, h.ak, h.aT, h.Tn⟩
theorem LS0.extra (h : LS0 w1 [U] p r L n a T w) : ∃ G, U.P w G ∧ ∀ w' U', After U' w G w' → LS0 w1 [U'] p r L n a T w' := by
  obtain ⟨G, hp, _, hs⟩ := St.opened h.st (i := 4) rfl
  exact ⟨G, hp, fun w' U' hA => ⟨hs w' U' hA, h.fl, h.ak, h.aT, h.Tn⟩⟩
theorem LS0.weak (h : LS0 w1 [U] p r L n a T w) : LS0 w1 [] p r L n a T w :=
  ⟨St.weaken (Us := [U]) h.st, h.fl, h.ak, h.aT, h.Tn⟩
theorem LS0.row (h : LS0 w1 [pkT fv F] p r L n a T w) : ORow w 38 2 fv F.length (pcels F) := by
  obtain ⟨G, hp, _⟩ := LS0.extra h
  exact hp.row
theorem LS0.grown {v : Value} {m : Nat} {P : List Pkt} (h : LS0 w1 [pkT fv F] p r L n a T w) (hm : m = F.length + P.length) (hg : Grown w 38 2 fv m (pcels F ++ pcels P) v w') : LS0 w1 [pkT v (F ++ P)] p r L n a T w' := by
  obtain ⟨G, hp, hs⟩ := LS0.extra h
  refine hs w' _ ?_
  unfold pkT
  rw [List.length_append, ← hm, pcels_append]
  exact Row.app hp (Below.refl _ _) hg
end

set_option maxRecDepth 100000 in
set_option maxHeartbeats 16000000 in
theorem Heals_any (A : Option Addr) (n cp : Nat) (l : List Pkt) (M : Nat) (w : World) (hl : l.length = n) (hs : Src w A (pcels l)) (hM : M < 256) :
    Calls Try.prog 4 #[.slice A n cp, .int .u8 (M : Int)] w fun e w' => e = .returned (.bool true) ∧ Below w.heap.size w w' := by
  have Hl := hide hl
  have Hs := hide hs
  have HM0 := hide hM
  clear hl hs hM
  by_cases hn : 300 < n
  · have hni : (300 : Int) < (n : Int) := by omega
    go_enter Try.func4, Try.ntmps4
    go_wp2_with fail
    refine (awake_any w).mono ?_
    rintro e w1 ⟨rfl, hb1⟩
    have HB1 := hide hb1
    clear hb1
    go_wp2_with fail
    refine (awake_any w1).mono ?_
    rintro e w2 ⟨rfl, hb2⟩
    have HB2 := hide (HB1.out.trans (hb2.mono HB1.out.size))
    clear hb2
    go_wp2
    go_ret
    exact ⟨rfl, HB2.out⟩
  have hni : ¬ (300 : Int) < (n : Int) := by omega
  have Hn := hide hn
  clear hn
  go_enter Try.func4, Try.ntmps4
  go_wp2_with fail
  refine (awake_any w).mono ?_
  rintro e w1 ⟨rfl, hb1⟩
  have HB1 := hide hb1
  have Hs1 := hide (Hs.out.below hb1)
  clear hb1
  go_wp2_with (first | refine wpList_box_told rfl 27 (.tmp 27) rfl _ rfl ?_ | refine wpList_box_told rfl 30 (.tmp 29) rfl _ rfl ?_)
  intro w2 Hw2
  go_wp2_with (first | refine wpList_box_told rfl 27 (.tmp 27) rfl _ rfl ?_ | refine wpList_box_told rfl 30 (.tmp 29) rfl _ rfl ?_)
  intro w3 Hw3
  have HLS : Hid (HR w1 w1.heap.size w2.heap.size n 0 (.slice none 0 0) w3) := ⟨⟨_, _, _, _, _, LS.start Hw2.out Hw3.out, Nat.zero_le _, Nat.zero_le _⟩, Nat.zero_le _⟩
  clear Hw2 Hw3
  have hni : (n : Int) ≤ 300 := by have := Hn.out; omega
  go_wp2_with fail
  go_loopw [7, 33] (fun fv j wr => ∃ i : Nat, j = .int .i64 (i : Int) ∧ Hid (HR w1 w1.heap.size w2.heap.size n i fv wr)) (fun _ j _ => n - (intOf j).toNat)
  case atStart => exact ⟨0, rfl, HLS.out⟩
  case round =>
    clear HLS
    obtain ⟨i, rfl, hlr⟩ := hrel
    rcases Nat.lt_or_ge i n with hlt | hge
    · have Hlt := hide hlt
      have hii : (i : Int) < (n : Int) := by omega
      obtain ⟨L, nx, a, T, F, hls, hFl, hLl⟩ := hlr.out.ex
      have HI := hide (show i < 300 by have := Hn.out; omega)
      have HLS := hide hls
      have HF := hide hFl
      have HLl := hide hLl
      obtain ⟨q, hq⟩ : ∃ q, l[i]? = some q := ⟨_, List.getElem?_eq_getElem (by rw [Hl.out]; exact hlt)⟩
      obtain ⟨g, o, rfl, hgl, hc0, hc1⟩ := Src.pkt (Hs1.out.below hls.st.bel) hq
      have HN := hide hls.nums
      obtain ⟨FA, fc, rfl, _, _, _⟩ := hls.row.form
      obtain ⟨fl, hfl⟩ : ∃ fl, F.length = fl := ⟨_, rfl⟩
      have HFl := hide hfl
      rw [hfl]
      rw [hfl] at HLS
      have hfl2 : (fl : Int) ≤ 1200 := by omega
      obtain ⟨d, x⟩ := q
      clear hfl hlr hls hFl hLl hq hlt
      simp only at hc0 hc1
      by_cases hd : d = 1
      · as_aux_lemma =>
          subst hd
          have HC := hide (HLS.out.push (by have := HLl.out; omega) (i : Int))
          go_wp2_with fail
          refine HC.out.mono ?_
          rintro e w4 ⟨rfl, hs4⟩
          have HS := hide hs4
          clear hs4 HC HLS
          go_wp2
          go_roundw
          case rel => exact ⟨i + 1, by go_num, ⟨⟨_, _, _, _, _, HS.out, by have := HF.out; omega, by rw [List.length_append]; have := HLl.out; simp; omega⟩, Hlt.out⟩⟩
          case measure => have := Hlt.out; simp [intOf]; omega
      have hd1 : (d == 1) = false := by simpa using hd
      clear hd
      by_cases hd : d = 2
      · as_aux_lemma =>
          subst hd
          have HC := hide HLS.out.send
          obtain ⟨Q, hQ⟩ : ∃ Q, room a L.length = Q := ⟨_, rfl⟩
          rw [hQ] at HC
          clear hQ
          go_wp2_with fail
          refine HC.out.mono ?_
          rintro e w4 ⟨v4, rfl, hv4, hs4⟩
          have HS4 := hide hs4
          clear hs4
          obtain ⟨A4, c4, rfl, _, _, hsv4⟩ := hv4.form
          have HU4 := hide (show (upTo L nx Q).length ≤ 4 by
            have h1 := HN.out
            have h2 := HS4.out.nums
            rw [upTo_len (by omega)]
            omega)
          clear HC
          have HROW : Hid (ORow w4 38 2 (.slice FA fl fc) fl (pcels F)) := by have := HS4.out.row; rw [HFl.out] at this; exact this
          obtain ⟨P, hP⟩ : ∃ P, P = upTo L nx Q := ⟨_, rfl⟩
          rw [← hP] at hsv4 HU4 ⊢
          obtain ⟨pl, hpl⟩ : ∃ pl, P.length = pl := ⟨_, rfl⟩
          have HPL := hide hpl
          have HSV4 := hide hsv4
          have HG4 : Hid (∀ q ∈ P, Good L Q q) := by rw [hP]; exact upTo_good
          rw [hpl] at HU4 ⊢
          have HPC := hide (show (pcels P).length = pl * 2 by rw [pcels_len, hpl])
          have Hm1 := hide (show fl + pl ≤ maxLen by have := HU4.out; have := HFl.out; have := HF.out; have := HI.out; unfold maxLen; omega)
          have Hm2 := hide (show (fl + pl) * 16 ≤ 140737488355328 by have := HU4.out; have := HFl.out; have := HF.out; have := HI.out; omega)
          clear hv4 hP hpl hsv4 HLS
          go_wp2_with (at_builtin; go_must (refine wpList_app app_pk rfl (.tmp 48) (.tmp 50) rfl (.slice FA fl fc) fl (pcels F) rfl HROW.out A4 pl c4 (pcels P) rfl HPC.out HSV4.out (pcels_one _) (by decide) Hm1.out Hm2.out ?_))
          intro v5 w5 hg5
          have HS := hide (HS4.out.flown (P := P) (Below.refl _ _) (by rw [HFl.out, HPL.out]) hg5.out HG4.out)
          clear hg5 HS4 HROW HSV4 HG4 HPC
          go_wp2
          go_roundw
          case rel => exact ⟨i + 1, by go_num, ⟨⟨_, _, _, _, _, HS.out, by rw [List.length_append, HPL.out]; have := HF.out; have := HU4.out; omega, by have := HLl.out; omega⟩, Hlt.out⟩⟩
          case measure => have := Hlt.out; simp [intOf]; omega
      have hd2 : (d == 2) = false := by simpa using hd
      clear hd
      by_cases hd : d = 4
      · as_aux_lemma =>
          subst hd
          by_cases hin : 0 ≤ x ∧ x < (fl : Int)
          · obtain ⟨hx0, hxl⟩ := hin
            obtain ⟨y, rfl⟩ : ∃ y : Nat, x = (y : Int) := ⟨x.toNat, by omega⟩
            have hyl : y < fl := by omega
            obtain ⟨qq, hqq⟩ : ∃ qq, F[y]? = some qq := ⟨_, List.getElem?_eq_getElem (by rw [HFl.out]; exact hyl)⟩
            have HFS := hide (show Src wr FA (pcels F) by have := HLS.out.row; rw [HFl.out] at this; exact this.src)
            obtain ⟨gq, oq, rfl, _, hq0, hq1⟩ := Src.pkt HFS.out hqq
            obtain ⟨j, xx, hj, hxx, hqe⟩ := HLS.out.fl qq (List.mem_of_getElem? hqq)
            have HC := hide (HLS.out.take qq j xx hj hxx hqe)
            obtain ⟨qa, qb⟩ := qq
            obtain ⟨t4, ht4⟩ : ∃ t4, took T j = t4 := ⟨_, rfl⟩
            rw [ht4] at HC
            clear hqq hj hxx hqe HFS hx0 ht4
            simp only at hq0 hq1 HC
            go_wp2_with fail
            refine HC.out.mono ?_
            rintro e w4 ⟨rfl, hs4⟩
            have HS := hide hs4
            clear hs4 HC HLS hq0 hq1 hc0 hc1
            go_wp2
            go_roundw
            case rel => exact ⟨i + 1, by go_num, ⟨⟨_, _, _, _, _, HS.out, by have := HF.out; have := HFl.out; omega, by have := HLl.out; omega⟩, Hlt.out⟩⟩
            case measure => have := Hlt.out; simp [intOf]; omega
          · have hin' : ¬ 0 ≤ x ∨ (0 ≤ x ∧ ¬ x < (fl : Int)) := by omega
            have HS := HLS
            clear hin HLS
            rcases hin' with h1 | ⟨h1, h2⟩
            · go_wp2
              go_roundw
              case rel => exact ⟨i + 1, by go_num, ⟨⟨_, _, _, _, _, HS.out, by have := HF.out; have := HFl.out; omega, by have := HLl.out; omega⟩, Hlt.out⟩⟩
              case measure => have := Hlt.out; simp [intOf]; omega
            · go_wp2
              go_roundw
              case rel => exact ⟨i + 1, by go_num, ⟨⟨_, _, _, _, _, HS.out, by have := HF.out; have := HFl.out; omega, by have := HLl.out; omega⟩, Hlt.out⟩⟩
              case measure => have := Hlt.out; simp [intOf]; omega
      have hd4 : (d == 4) = false := by simpa using hd
      clear hd
      by_cases hd : d = 5
      · as_aux_lemma =>
          subst hd
          go_wp2_with fail
          refine HLS.out.list.mono ?_
          rintro e w4 ⟨v4, rfl, hv4, hs4, _⟩
          obtain ⟨A4, c4, rfl, _, _, _⟩ := hv4.form
          rw [HLS.out.takes]
          have HC := hide (hs4.ack T (Nat.le_refl _))
          clear hv4 hs4 HLS
          go_wp2_with fail
          refine HC.out.mono ?_
          rintro e w5 ⟨rfl, hs5⟩
          have HS := hide hs5
          clear hs5 HC
          go_wp2
          go_roundw
          case rel => exact ⟨i + 1, by go_num, ⟨⟨_, _, _, _, _, HS.out, by have := HF.out; have := HFl.out; omega, by have := HLl.out; omega⟩, Hlt.out⟩⟩
          case measure => have := Hlt.out; simp [intOf]; omega
      have hd5 : (d == 5) = false := by simpa using hd
      clear hd
      have HS := HLS
      clear HLS
      go_wp2
      go_roundw
      case rel => exact ⟨i + 1, by go_num, ⟨⟨_, _, _, _, _, HS.out, by have := HF.out; have := HFl.out; omega, by have := HLl.out; omega⟩, Hlt.out⟩⟩
      case measure => have := Hlt.out; simp [intOf]; omega
    · as_aux_lemma =>
        obtain rfl : i = n := by
          have := hlr.out.le
          omega
        obtain ⟨L, nx, a, T, F, hls, _, hLl⟩ := hlr.out.ex
        have HLS := hide hls.forget
        have HL300 := hide (show L.length ≤ 300 by omega)
        obtain ⟨m, hm⟩ : ∃ m, M % 20 = m := ⟨_, rfl⟩
        have HM := hide (show m < 20 by omega)
        have e1 : Int.tmod (M : Int) 20 = (m : Int) := by rw [Int.tmod_eq_emod_of_nonneg (by omega)]; omega
        have e2 : IntKind.i64.wrap (m : Int) = (m : Int) := wrap_id (by omega) (by omega)
        have e3 : (M : Int) ≤ 255 := by have := HM0.out; omega
        clear hlr hls hge hLl hm
        go_wp2_with fail
        go_loopw [91] (fun j wr => ∃ i : Nat, i ≤ m ∧ j = .int .i64 (i : Int) ∧ Hid (∃ L nx a T, LS0 w1 [] w1.heap.size w2.heap.size L nx a T wr ∧ L.length ≤ 300 + i)) (fun j _ => m - (intOf j).toNat)
        case atStart => exact ⟨0, Nat.zero_le _, rfl, ⟨_, _, _, _, HLS.out, HL300.out⟩⟩
        case round =>
          clear HLS HL300 e1 e2 e3
          obtain ⟨k, hkm, rfl, hex⟩ := hrel
          obtain ⟨L, nx, a, T, hls, hLl⟩ := hex.out
          have HLS := hide hls
          have HLl := hide hLl
          clear hls hex hLl
          rcases Nat.lt_or_ge k m with hlt | hge
          · have Hlt := hide hlt
            have hki : (k : Int) < (m : Int) := by omega
            have hmi : (m : Int) ≤ 19 := by have := HM.out; omega
            have e5 : IntKind.i64.wrap (-(k : Int)) = -(k : Int) := by rw [IntKind.wrap_i64]; have := HM.out; omega
            have HC := hide (HLS.out.push (by have := HLl.out; have := HM.out; omega) (-(k : Int)))
            clear hlt hkm
            go_wp2_with fail
            refine HC.out.mono ?_
            rintro e w4 ⟨rfl, hs4⟩
            have HS := hide hs4
            clear hs4 HC HLS
            go_wp2
            go_roundw
            case rel => exact ⟨k + 1, Hlt.out, by go_num, ⟨_, _, _, _, HS.out, by rw [List.length_append]; have := HLl.out; simp; omega⟩⟩
            case measure => have := Hlt.out; simp [intOf]; omega
          · obtain rfl : k = m := by omega
            have HC := hide HLS.out.counts
            obtain ⟨ll, hll⟩ : ∃ ll, L.length = ll := ⟨_, rfl⟩
            rw [hll] at HC
            have HLL := hide hll
            have hlli : (ll : Int) ≤ 319 := by have := HLl.out; have := HM.out; omega
            clear hge hkm hll
            go_wp2_with fail
            refine HC.out.mono ?_
            rintro e w4 ⟨rfl, hs4, _⟩
            have HS4 := hide hs4
            clear hs4 HC HLS
            go_wp2_with fail
            go_loopw [106] (fun j wr => ∃ i nx a T : Nat, i ≤ ll ∧ (i ≤ a ∨ ll ≤ a) ∧ j = .int .i64 (i : Int) ∧ Hid (LS0 w1 [] w1.heap.size w2.heap.size L nx a T wr)) (fun j _ => ll - (intOf j).toNat)
            case atStart => exact ⟨0, _, _, _, Nat.zero_le _, Or.inl (Nat.zero_le _), rfl, HS4.out⟩
            case round =>
              clear HS4
              obtain ⟨i, nx, a, T, hill, hia, rfl, hls⟩ := hrel
              have HLS := hls
              have hnum := hls.out.nums
              rw [HLL.out] at hnum
              rcases Nat.lt_or_ge i ll with hlt | hge
              · have Hlt := hide hlt
                have Hia := hide hia
                have hii : (i : Int) < (ll : Int) := by omega
                have HN := hide hnum
                clear hls hnum hlt hia hill
                go_wp2_with fail
                refine HLS.out.resend.mono ?_
                rintro e w5 ⟨v5, rfl, hv5, _, hb5⟩
                have HS5 := hide (LS0.addrow HLS.out hb5 hv5)
                clear hv5 hb5 HLS
                have HC := hide HS5.out.send
                obtain ⟨Q, hQ⟩ : ∃ Q, room a L.length = Q := ⟨_, rfl⟩
                rw [hQ] at HC
                have hQ1 : nx ≤ Q ∧ Q ≤ ll ∧ (Q = ll ∨ Q = a + 4) := by
                  have := HN.out
                  rw [HLL.out] at hQ
                  rw [← hQ]; unfold room; split <;> omega
                have HQ := hide hQ1
                clear hQ hQ1
                go_wp2_with fail
                refine HC.out.mono ?_
                rintro e w6 ⟨v6, rfl, hv6, hs6⟩
                have HS6 := hide hs6
                obtain ⟨A6, c6, rfl, _, _, hsv6⟩ := hv6.form
                have hlen6 : (upTo L nx Q).length = Q - nx := upTo_len (by rw [HLL.out]; have := HQ.out; omega)
                have hlen5 : (upTo L a nx).length = nx - a := upTo_len (by rw [HLL.out]; have := HN.out; omega)
                rw [hlen6]
                have HROW := hide (LS0.row hs6)
                rw [hlen5] at HROW
                have HSV := hide hsv6
                have HPC := hide (show (pcels (upTo L nx Q)).length = (Q - nx) * 2 by rw [pcels_len, hlen6])
                have Hm1 := hide (show nx - a + (Q - nx) ≤ maxLen by have := HQ.out; have := HN.out; unfold maxLen; omega)
                have Hm2 := hide (show (nx - a + (Q - nx)) * 16 ≤ 140737488355328 by have := HQ.out; have := HN.out; omega)
                have HL56 := hide (And.intro hlen5 hlen6)
                clear hv6 hs6 hsv6 HC HS5 hlen5 hlen6
                go_wp2_with (at_builtin; go_must (refine wpList_app app_pk rfl (.tmp 109) (.tmp 111) rfl v5 (nx - a) (pcels (upTo L a nx)) rfl HROW.out A6 (Q - nx) c6 (pcels (upTo L nx Q)) rfl HPC.out HSV.out (pcels_one _) (by decide) Hm1.out Hm2.out ?_))
                intro v7 w7 hg7
                obtain ⟨A7, c7, rfl, _, _, _⟩ := hg7.out.row.form
                have HS7 := hide (LS0.grown HS6.out (by rw [HL56.out.1, HL56.out.2]) hg7.out)
                rw [upTo_join (L := L) (a := a) (b := nx) (l := Q) (by have := HN.out; omega) HQ.out.1 (by rw [HLL.out]; exact HQ.out.2.1)] at HS7
                obtain ⟨ol, hol⟩ : ∃ ol, nx - a + (Q - nx) = ol := ⟨_, rfl⟩
                rw [hol] at HS7 ⊢
                have HOL := hide (show a + ol = Q by have := HQ.out; have := HN.out; omega)
                have holi : (ol : Int) ≤ 319 := by have := HQ.out; have := HN.out; omega
                clear hg7 HROW HSV HPC HS6 hol HL56 Hm1 Hm2
                go_wp2_with fail
                refine HS7.out.list.mono ?_
                rintro e w8 ⟨v8, rfl, hv8, hs8, _⟩
                obtain ⟨A8, c8, rfl, _, _, _⟩ := hv8.form
                rw [HS7.out.takes]
                have HS8 := hide hs8
                have HaT := hide HN.out.1
                clear hv8 hs8 HS7
                go_wp2_with fail
                go_loopw [14, 118] (fun t j wr => ∃ k T2 : Nat, k ≤ ol ∧ a + k ≤ T2 ∧ t = .int .i64 (T2 : Int) ∧ j = .int .i64 (k : Int) ∧ Hid (LS0 w1 [pkT (.slice A7 ol c7) (upTo L a Q)] w1.heap.size w2.heap.size L Q a T2 wr)) (fun _ j _ => ol - (intOf j).toNat)
                case atStart => exact ⟨0, T, Nat.zero_le _, by have := HaT.out; omega, rfl, rfl, HS8.out⟩
                case round =>
                  clear HS8
                  obtain ⟨k, T2, hko, hkT, rfl, rfl, hls⟩ := hrel
                  have HLS := hls
                  rcases Nat.lt_or_ge k ol with hlt | hge
                  · have HLt := hide hlt
                    have HkT := hide hkT
                    have hki : (k : Int) < (ol : Int) := by omega
                    obtain ⟨x, hx⟩ : ∃ x, L[a + k]? = some x := ⟨_, List.getElem?_eq_getElem (by rw [HLL.out]; have := HOL.out; have := HQ.out; omega)⟩
                    have hget : (upTo L a Q)[k]? = some (((a + k + 1 : Nat) : Int), x) := by
                      rw [upTo_get (by have := HOL.out; omega), hx]; rfl
                    have hsrc : Src wr A7 (pcels (upTo L a Q)) := by
                      have h1 := LS0.row hls.out
                      rw [show (upTo L a Q).length = ol by rw [upTo_len (by rw [HLL.out]; exact HQ.out.2.1)]; have := HOL.out; omega] at h1
                      exact h1.src
                    obtain ⟨g7, o7, rfl, _, hc0, hc1⟩ := Src.pkt hsrc hget
                    have HC := hide (HLS.out.take (((a + k + 1 : Nat) : Int), x) (a + k) x (by have := HOL.out; omega) hx rfl)
                    obtain ⟨y, hy⟩ : ∃ y : Int, ((a + k + 1 : Nat) : Int) = y := ⟨_, rfl⟩
                    simp only [hy] at hc0 hc1 HC
                    obtain ⟨t9, ht9⟩ : ∃ t9, took T2 (a + k) = t9 := ⟨_, rfl⟩
                    have Ht9 := hide (show a + (k + 1) ≤ t9 by rw [← ht9]; unfold took; split <;> omega)
                    rw [ht9] at HC
                    clear hx hget hsrc hy ht9 hls HLS hlt hko hkT
                    go_wp2_with fail
                    refine HC.out.mono ?_
                    rintro e w9 ⟨rfl, hs9⟩
                    have HS9 := hide hs9
                    clear hs9 HC hc0 hc1
                    go_wp2
                    go_roundw
                    case rel => exact ⟨k + 1, t9, HLt.out, Ht9.out, rfl, by go_num, HS9.out⟩
                    case measure => have := HLt.out; simp [intOf]; omega
                  · obtain rfl : k = ol := by omega
                    obtain rfl : T2 = Q := by have := hls.out.Tn; have := HOL.out; omega
                    have HC := hide (HLS.out.ack T2 (Nat.le_refl _))
                    rw [Nat.max_eq_right (by have := HOL.out; omega)] at HC
                    clear hge hko hkT hls HLS
                    go_wp2_with fail
                    refine HC.out.mono ?_
                    rintro e w9 ⟨rfl, hs9⟩
                    have HS9 := hide (LS0.weak hs9)
                    have HP9 := hide (show i + 1 ≤ T2 ∨ ll ≤ T2 by have := Hia.out; have := HQ.out; have := Hlt.out; omega)
                    clear hs9 HC
                    go_wp2
                    go_roundw
                    case rel => exact ⟨i + 1, _, _, _, Hlt.out, HP9.out, by go_num, HS9.out⟩
                    case measure => have := Hlt.out; simp [intOf]; omega
              · obtain rfl : i = ll := by omega
                obtain rfl : a = i := by omega
                obtain rfl : nx = a := by omega
                obtain rfl : T = nx := by omega
                clear hge hill hia hls hnum
                have HC := hide HLS.out.counts
                rw [HLL.out] at HC
                go_wp2_with fail
                refine HC.out.mono ?_
                rintro e w5 ⟨rfl, hs5, _⟩
                have HS5 := hide hs5
                clear hs5 HC HLS
                go_wp2_with fail
                refine HS5.out.list.mono ?_
                rintro e w6 ⟨v6, rfl, hv6, hs6, _⟩
                obtain ⟨A6, c6, rfl, _, _, _⟩ := hv6.form
                rw [HS5.out.takes]
                have HS6 := hide hs6
                clear hv6 hs6 HS5
                have HC := hide HS6.out.send
                rw [HLL.out, show room T T = T by unfold room; split <;> omega] at HC
                go_wp2_with fail
                refine HC.out.mono ?_
                rintro e w7 ⟨v7, rfl, hv7, hs7⟩
                obtain ⟨A7, c7, rfl, _, _, _⟩ := hv7.form
                rw [show (upTo L T T).length = 0 by rw [upTo_self]; rfl]
                have HS7 := hide hs7
                clear hv7 hs7 HS6 HC
                go_wp2_with fail
                refine HS7.out.resend.mono ?_
                rintro e w8 ⟨v8, rfl, hv8, hs8, _⟩
                obtain ⟨A8, c8, rfl, _, _, _⟩ := hv8.form
                rw [show (upTo L T T).length = 0 by rw [upTo_self]; rfl]
                have HBf := hide (HB1.out.trans (hs8.st.bel.mono HB1.out.size))
                clear hv8 hs8 HS7
                go_wp2
                go_ret
                exact ⟨rfl, HBf.out⟩

end Go.Proofs.Ytabjoalkbobhdaa.Wi
