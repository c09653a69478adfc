/-
  The walk of isobartop.TopWindow: it returns true, whatever the link does on the way; nothing that was there is changed.
-/
import Derived.Test.YtidojlagdodkkabTwOp
namespace Go.Proofs.Ytidojlagdodkkab.Tw
open Go.RowKit
open Pk Dk Wn Wi

def sqs (m : Nat) : List Int := (List.range m).map fun j : Nat => (j : Int) * (j : Int)
theorem sqs_len (m : Nat) : (sqs m).length = m := by simp [sqs]
theorem sqs_succ (m : Nat) : sqs (m + 1) = sqs m ++ [(m : Int) * (m : Int)] := by simp [sqs, List.range_succ]
theorem sqs_get {m j : Nat} (h : j < m) : (sqs m)[j]? = some ((j : Int) * (j : Int)) := by simp [sqs, h]
theorem sq_wrap {i : Nat} (h : i ≤ 30) : IntKind.i64.wrap ((i : Int) * (i : Int)) = (i : Int) * (i : Int) := by
  have h1 : (i : Int) * (i : Int) ≤ 30 * 30 := Int.mul_le_mul (by omega) (by omega) (by omega) (by omega)
  have h2 : 0 ≤ (i : Int) * (i : Int) := Int.mul_nonneg (by omega) (by omega)
  exact wrap_id (by omega) (by omega)
theorem tcap : Lp.cap 500 = 500 := rfl

set_option maxRecDepth 100000 in
set_option maxHeartbeats 16000000 in
theorem Window_any (A : Option Addr) (nl cp : Nat) (l : List Pkt) (M : Nat) (w : World) (hl : l.length = nl) (hs : Fts w A l) (hM : M < 256) :
    Calls Try.prog 3 #[.slice A nl cp, .int .u8 (M : Int)] w fun e w' => e = .returned (.bool true) ∧ Below w.heap.size w w' := by
  have Hl := hide hl
  have Hs := hide hs
  have HM0 := hide hM
  clear hl hs hM
  go_enter Try.func3, Try.ntmps3
  go_wp2_with (first | refine wpList_box_told rfl 26 (.tmp 22) rfl _ rfl ?_ | refine wpList_box_told rfl 29 (.tmp 24) rfl _ rfl ?_)
  intro w2 Hw2
  go_wp2_with (first | refine wpList_box_told rfl 26 (.tmp 22) rfl _ rfl ?_ | refine wpList_box_told rfl 29 (.tmp 24) rfl _ rfl ?_)
  intro w3 Hw3
  have HLS := hide (LS.start Hw2.out Hw3.out)
  obtain ⟨p, hp⟩ : ∃ p, w.heap.size = p := ⟨_, rfl⟩
  obtain ⟨r, hr⟩ : ∃ r, w2.heap.size = r := ⟨_, rfl⟩
  rw [hp, hr] at HLS
  rw [hp, hr]
  clear Hw2 Hw3 hp hr
  go_wp2_with fail
  refine (TW.start HLS.out).mono ?_
  rintro e w4 ⟨f, rfl, hs4⟩
  have HS4 := hide hs4
  clear hs4 HLS
  by_cases hn : 200 < nl
  · have hni : (200 : Int) < (nl : Int) := by omega
    have HB := hide HS4.out.ls.st.bel
    clear HS4
    go_wp2
    go_ret
    exact ⟨rfl, HB.out⟩
  have hni : ¬ (200 : Int) < (nl : Int) := by omega
  have hni2 : (nl : Int) ≤ 200 := by omega
  clear hn
  obtain ⟨d, hd⟩ : ∃ d, M % 30 = d := ⟨_, rfl⟩
  obtain ⟨n, hn⟩ : ∃ n, n = d + 1 := ⟨_, rfl⟩
  have Hn := hide (show n ≤ 30 by omega)
  have e1 : Int.tmod (M : Int) 30 = (d : Int) := by rw [Int.tmod_eq_emod_of_nonneg (by omega)]; omega
  have e2 : 1 + (d : Int) = (n : Int) := by omega
  have e3 : IntKind.i64.wrap (n : Int) = (n : Int) := wrap_id (by omega) (by omega)
  have e4 : IntKind.i64.wrap (d : Int) = (d : Int) := wrap_id (by omega) (by omega)
  have e5 : IntKind.i64.wrap (M : Int) = (M : Int) := wrap_id (by omega) (by have := HM0.out; omega)
  have e6 : (M : Int) ≤ 255 := by have := HM0.out; omega
  have e7 : (n : Int) ≤ 30 := by omega
  clear hd hn
  go_wp2_with fail
  go_loopw [37] (fun j wr => ∃ i : Nat, i ≤ n ∧ j = .int .i64 (i : Int) ∧ Hid (TW w [] p r f (sqs i) 0 0 0 [] wr)) (fun j _ => n - (intOf j).toNat)
  case atStart => exact ⟨0, Nat.zero_le _, rfl, HS4⟩
  case round =>
    clear HS4 e1 e2 e4 e5 e6
    obtain ⟨i, hin, rfl, HS⟩ := hrel
    rcases Nat.lt_or_ge i n with hlt | hge
    · have Hlt := hide hlt
      have hii : (i : Int) < (n : Int) := by omega
      have hw := sq_wrap (show i ≤ 30 by have := Hn.out; omega)
      have HC := hide (HS.out.push (by rw [sqs_len]; have := Hn.out; omega) ((i : Int) * (i : Int)))
      clear hlt hin
      go_wp2_with fail
      refine HC.out.mono ?_
      rintro e w5 ⟨rfl, hs5⟩
      have HS5 : Hid (TW w [] p r f (sqs (i + 1)) 0 0 0 [] w5) := by rw [sqs_succ]; exact hs5
      clear hs5 HC HS
      go_wp2
      go_roundw
      case rel => exact ⟨i + 1, Hlt.out, by go_num, HS5⟩
      case measure => have := Hlt.out; simp [intOf]; omega
    · obtain rfl : i = n := by omega
      have HS0 := hide HS.out
      obtain ⟨L, hL⟩ : ∃ L, sqs i = L := ⟨_, rfl⟩
      have HL := hide hL
      have HLL := hide (show L.length = i by rw [← hL]; exact sqs_len i)
      rw [hL] at HS0
      clear HS hge hin hL
      go_wp2_with fail
      go_loopw [48] (fun j wr => ∃ (k nx a T : Nat) (F : List Pkt), k ≤ nl ∧ j = .int .i64 (k : Int) ∧ Hid (TW w [] p r f L nx a T F wr)) (fun j _ => nl - (intOf j).toNat)
      case atStart => exact ⟨0, 0, 0, 0, [], Nat.zero_le _, rfl, HS0⟩
      case round =>
        clear HS0
        obtain ⟨k, nx, a, T, F, hkn, rfl, HS⟩ := hrel
        rcases Nat.lt_or_ge k nl with hlt | hge
        · have Hlt := hide hlt
          have hki : (k : Int) < (nl : Int) := by omega
          obtain ⟨q, hq⟩ : ∃ q, l[k]? = some q := ⟨_, List.getElem?_eq_getElem (by rw [Hl.out]; exact hlt)⟩
          obtain ⟨g, o, rfl, -, hc0, hc1⟩ := (Hs.out.below HS.out.ls.st.bel).at_ hq
          obtain ⟨kd, x⟩ := q
          simp only at hc0 hc1
          clear hlt hkn hq
          by_cases hd : kd = 1
          · subst hd
            as_aux_lemma =>
              have HNm := hide HS.out.ls.nums
              go_wp2_with fail
              refine HS.out.resend.mono ?_
              rintro e w5 ⟨v5, rfl, hv5, hs5, hb5⟩
              have HS5 := hide (TW.addrow HS.out hb5 hv5)
              clear hv5 hs5 hb5 HS
              have HC := hide HS5.out.send
              obtain ⟨Q, hQ⟩ : ∃ Q, room a L.length = Q := ⟨_, rfl⟩
              rw [hQ] at HC
              have hQ1 : nx ≤ Q ∧ Q ≤ i ∧ (Q = i ∨ Q = a + 4) := by
                have h1 := HNm.out
                have h2 := HLL.out
                rw [h2] at hQ
                rw [← hQ]; unfold room; split <;> omega
              have HQ := hide hQ1
              clear hQ hQ1
              go_wp2_with fail
              refine HC.out.mono ?_
              rintro e w6 ⟨v6, rfl, hv6, hs6⟩
              have HS6 := hide hs6
              obtain ⟨A6, c6, rfl, _, _, hsv6⟩ := hv6.form
              have hlen6 : (upTo L nx Q).length = Q - nx := upTo_len (by rw [HLL.out]; exact HQ.out.2.1)
              have hlen5 : (upTo L a nx).length = nx - a := upTo_len (by rw [HLL.out]; have := HQ.out; have := HNm.out; omega)
              rw [hlen6]
              have HROW := hide (TW.row hs6)
              rw [hlen5] at HROW
              have HSV := hide hsv6
              have HPC := hide (show (pcels (upTo L nx Q)).length = (Q - nx) * 2 by rw [pcels_len, hlen6])
              have Hm1 := hide (show nx - a + (Q - nx) ≤ maxLen by have := HQ.out; have := HNm.out; have := Hn.out; unfold maxLen; omega)
              have Hm2 := hide (show (nx - a + (Q - nx)) * 16 ≤ 140737488355328 by have := HQ.out; have := HNm.out; have := Hn.out; omega)
              have HL56 := hide (And.intro hlen5 hlen6)
              clear hv6 hs6 hsv6 HC HS5 hlen5 hlen6
              go_wp2_with (at_builtin; go_must (refine wpList_app app_pk rfl (.tmp 59) (.tmp 61) rfl v5 (nx - a) (pcels (upTo L a nx)) rfl HROW.out A6 (Q - nx) c6 (pcels (upTo L nx Q)) rfl HPC.out HSV.out (pcels_one _) (by decide) Hm1.out Hm2.out ?_))
              intro v7 w7 hg7
              obtain ⟨A7, c7, rfl, _, _, _⟩ := hg7.out.row.form
              have HS7 := hide (TW.grown HS6.out (by rw [HL56.out.1, HL56.out.2]) hg7.out)
              rw [upTo_join (L := L) (a := a) (b := nx) (l := Q) (by have := HNm.out; omega) HQ.out.1 (by rw [HLL.out]; exact HQ.out.2.1)] at HS7
              obtain ⟨ol, hol⟩ : ∃ ol, nx - a + (Q - nx) = ol := ⟨_, rfl⟩
              rw [hol] at HS7 ⊢
              have HOL := hide (show a + ol = Q by have := HQ.out; have := HNm.out; omega)
              have holi : (ol : Int) ≤ 30 := by have := HQ.out; have := HNm.out; have := Hn.out; omega
              clear hg7 HROW HSV HPC HS6 hol HL56 Hm1 Hm2
              go_wp2_with fail
              go_loopw [64] (fun j wr => ∃ (m : Nat) (F : List Pkt), m ≤ ol ∧ j = .int .i64 (m : Int) ∧ Hid (TW w [pkT (.slice A7 ol c7) (upTo L a Q)] p r f L Q a T F wr)) (fun j _ => ol - (intOf j).toNat)
              case atStart => exact ⟨0, F, Nat.zero_le _, rfl, HS7⟩
              case round =>
                clear HS7
                obtain ⟨m, F, hmo, rfl, HT⟩ := hrel
                rcases Nat.lt_or_ge m ol with hlt | hge
                · have HLt := hide hlt
                  have hmi : (m : Int) < (ol : Int) := by omega
                  have hsrc : Src wr A7 (pcels (upTo L a Q)) := by
                    have h1 := TW.row HT.out
                    rw [show (upTo L a Q).length = ol by rw [upTo_len (by rw [HLL.out]; exact HQ.out.2.1)]; have := HOL.out; omega] at h1
                    exact h1.src
                  obtain ⟨xx, hxx⟩ : ∃ xx, L[a + m]? = some xx := ⟨_, List.getElem?_eq_getElem (by rw [HLL.out]; have := HOL.out; have := HQ.out; omega)⟩
                  obtain ⟨pq, hpq⟩ : ∃ pq : Pkt, pq = (((a + m + 1 : Nat) : Int), xx) := ⟨_, rfl⟩
                  have hget : (upTo L a Q)[m]? = some pq := by
                    rw [upTo_get (by have := HOL.out; omega), hxx, hpq]; rfl
                  obtain ⟨g7, o7, rfl, _, hp0, hp1⟩ := Src.pkt hsrc hget
                  have HG := hide (show Wi.Good L Q pq from ⟨a + m, xx, by have := HOL.out; omega, hxx, hpq⟩)
                  clear hsrc hxx hpq hget hlt hmo
                  obtain ⟨wz, hwz⟩ : ∃ wz, wr = wz := ⟨_, rfl⟩
                  subst hwz
                  go_wp2_with (refine Lp.wpList_alloc_told rfl 33 rfl _ Lp.pk_zero ?_)
                  intro w8 H8
                  have HV8 := hide (Lp.Var.new (q := (0, 0)) H8.out)
                  have HX8 := hide (show wr.heap.size ≤ wr.heap.size from Nat.le_refl _)
                  clear H8
                  go_wp2_with (refine Lp.wpList_store_told rfl 33 (.tmp 12) (.tmp 67) rfl wr.heap.size (Lp.pcs pq) rfl rfl _ HV8.out.1 Lp.pk_size rfl (Lp.pcs_one pq) ?_)
                  intro w9 H9
                  have HB9 := hide (Lp.below_set HV8.out.2 HX8.out H9.out)
                  obtain ⟨y0, y1⟩ := Lp.Var.cells (HV8.out.1.set H9.out)
                  clear H9 HV8 HX8
                  have HT9 := hide (HT.out.below HB9.out)
                  clear HT HB9 hp0 hp1
                  go_wp2_with fail
                  refine (HT9.out.lsend pq HG.out).mono ?_
                  rintro e w10 ⟨v10, F10, rfl, hs10⟩
                  have HT10 := hide hs10
                  clear hs10 HT9 y0 y1
                  go_wp2
                  go_roundw
                  case rel => exact ⟨m + 1, F10, HLt.out, by go_num, HT10⟩
                  case measure => have := HLt.out; simp [intOf]; omega
                · obtain rfl : m = ol := by omega
                  have HSN := hide HT.out.weak
                  clear HT hge hmo
                  go_wp2
                  go_roundw
                  case rel => exact ⟨k + 1, _, _, _, _, Hlt.out, by go_num, HSN⟩
                  case measure => have := Hlt.out; simp [intOf]; omega
          have hd1 : (kd == 1) = false := by simpa using hd
          clear hd
          by_cases hd : kd = 2
          · subst hd
            as_aux_lemma =>
              go_wp2_with fail
              refine (HS.out.ldel x).mono ?_
              rintro e w5 (⟨pq, F5, hg, rfl, HS5⟩ | ⟨q5, rfl, hb5⟩)
              · have HG := hide hg
                clear hg HS
                go_wp2_with (refine Lp.wpList_alloc_told rfl 33 rfl _ Lp.pk_zero ?_)
                intro w8 H8
                have HV8 := hide (Lp.Var.new (q := (0, 0)) H8.out)
                have HX8 := hide (show w5.heap.size ≤ w5.heap.size from Nat.le_refl _)
                clear H8
                go_wp2_with (refine Lp.wpList_store_told rfl 33 (.tmp 13) (.tmp 82) rfl w5.heap.size (Lp.pcs pq) rfl rfl _ HV8.out.1 Lp.pk_size rfl (Lp.pcs_one pq) ?_)
                intro w9 H9
                have HB9 := hide (Lp.below_set HV8.out.2 HX8.out H9.out)
                obtain ⟨y0, y1⟩ := Lp.Var.cells (HV8.out.1.set H9.out)
                clear H9 HV8 HX8
                have HS9 := hide (HS5.out.below HB9.out)
                obtain ⟨j, xx, hj, hxx, hqe⟩ := HG.out
                have HC := hide (HS9.out.take pq j xx hj hxx hqe)
                obtain ⟨t4, ht4⟩ : ∃ t4, took T j = t4 := ⟨_, rfl⟩
                rw [ht4] at HC
                clear HS5 HB9 hj hxx hqe ht4 hc0 hc1
                go_wp2_with fail
                refine HC.out.mono ?_
                rintro e w10 ⟨rfl, hs10⟩
                have HC2 := hide (hs10.ack t4 (Nat.le_refl _))
                clear hs10 HC HS9 y0 y1
                go_wp2_with fail
                refine HC2.out.mono ?_
                rintro e w11 ⟨rfl, hs11⟩
                have HSN := hide hs11
                clear hs11 HC2
                go_wp2
                go_roundw
                case rel => exact ⟨k + 1, _, _, _, _, Hlt.out, by go_num, HSN⟩
                case measure => have := Hlt.out; simp [intOf]; omega
              · have HS5 := hide (HS.out.below hb5)
                clear hb5 HS
                go_wp2_with (refine Lp.wpList_alloc_told rfl 33 rfl _ Lp.pk_zero ?_)
                intro w8 H8
                have HV8 := hide (Lp.Var.new (q := (0, 0)) H8.out)
                have HX8 := hide (show w5.heap.size ≤ w5.heap.size from Nat.le_refl _)
                clear H8
                go_wp2_with (refine Lp.wpList_store_told rfl 33 (.tmp 13) (.tmp 82) rfl w5.heap.size (Lp.pcs ((0, 0) : Pkt)) rfl rfl _ HV8.out.1 Lp.pk_size rfl (Lp.pcs_one ((0, 0) : Pkt)) ?_)
                intro w9 H9
                have HB9 := hide (Lp.below_set HV8.out.2 HX8.out H9.out)
                obtain ⟨y0, y1⟩ := Lp.Var.cells (HV8.out.1.set H9.out)
                clear H9 HV8 HX8
                have HSN := hide (HS5.out.below HB9.out)
                clear HS5 HB9 y0 y1 hc0 hc1
                go_wp2
                go_roundw
                case rel => exact ⟨k + 1, _, _, _, _, Hlt.out, by go_num, HSN⟩
                case measure => have := Hlt.out; simp [intOf]; omega
          have hd2 : (kd == 2) = false := by simpa using hd
          clear hd
          by_cases hd : kd = 3
          · subst hd
            as_aux_lemma =>
              go_wp2_with fail
              refine (HS.out.ldrop x).mono ?_
              rintro e w5 ⟨v5, F5, rfl, hs5⟩
              have HSN := hide hs5
              clear hs5 HS
              go_wp2
              go_roundw
              case rel => exact ⟨k + 1, _, _, _, _, Hlt.out, by go_num, HSN⟩
              case measure => have := Hlt.out; simp [intOf]; omega
          have hd3 : (kd == 3) = false := by simpa using hd
          clear hd
          by_cases hd : kd = 4
          · subst hd
            as_aux_lemma =>
              go_wp2_with fail
              refine (HS.out.ldbl x).mono ?_
              rintro e w5 ⟨v5, F5, rfl, hs5⟩
              have HSN := hide hs5
              clear hs5 HS
              go_wp2
              go_roundw
              case rel => exact ⟨k + 1, _, _, _, _, Hlt.out, by go_num, HSN⟩
              case measure => have := Hlt.out; simp [intOf]; omega
          have hd4 : (kd == 4) = false := by simpa using hd
          clear hd
          as_aux_lemma =>
            have HSN := HS
            clear HS
            go_wp2
            go_roundw
            case rel => exact ⟨k + 1, _, _, _, _, Hlt.out, by go_num, HSN⟩
            case measure => have := Hlt.out; simp [intOf]; omega
        · skip
          as_aux_lemma =>
            obtain rfl : k = nl := by omega
            have HS1 := hide HS.out
            clear HS hge hkn
            go_wp2_with fail
            go_loopw [111] (fun j wr => ∃ (u nx a T : Nat) (F : List Pkt), u ≤ i ∧ (u ≤ a ∨ i ≤ a) ∧ j = .int .i64 (u : Int) ∧ Hid (TW w [] p r f L nx a T F wr)) (fun j _ => i - (intOf j).toNat)
            case atStart => exact ⟨0, _, _, _, _, Nat.zero_le _, Or.inl (Nat.zero_le _), rfl, HS1⟩
            case round =>
              clear HS1
              obtain ⟨u, nx, a, T, F, hui, hua, rfl, HS⟩ := hrel
              rcases Nat.lt_or_ge u i with hlt | hge
              · have Hlt := hide hlt
                have Hua := hide hua
                have huii : (u : Int) < (i : Int) := by omega
                clear hlt hua hui
                have HNm := hide HS.out.ls.nums
                go_wp2_with fail
                refine HS.out.resend.mono ?_
                rintro e w5 ⟨v5, rfl, hv5, hs5, hb5⟩
                have HS5 := hide (TW.addrow HS.out hb5 hv5)
                clear hv5 hs5 hb5 HS
                have HC := hide HS5.out.send
                obtain ⟨Q, hQ⟩ : ∃ Q, room a L.length = Q := ⟨_, rfl⟩
                rw [hQ] at HC
                have hQ1 : nx ≤ Q ∧ Q ≤ i ∧ (Q = i ∨ Q = a + 4) := by
                  have h1 := HNm.out
                  have h2 := HLL.out
                  rw [h2] at hQ
                  rw [← hQ]; unfold room; split <;> omega
                have HQ := hide hQ1
                clear hQ hQ1
                go_wp2_with fail
                refine HC.out.mono ?_
                rintro e w6 ⟨v6, rfl, hv6, hs6⟩
                have HS6 := hide hs6
                obtain ⟨A6, c6, rfl, _, _, hsv6⟩ := hv6.form
                have hlen6 : (upTo L nx Q).length = Q - nx := upTo_len (by rw [HLL.out]; exact HQ.out.2.1)
                have hlen5 : (upTo L a nx).length = nx - a := upTo_len (by rw [HLL.out]; have := HQ.out; have := HNm.out; omega)
                rw [hlen6]
                have HROW := hide (TW.row hs6)
                rw [hlen5] at HROW
                have HSV := hide hsv6
                have HPC := hide (show (pcels (upTo L nx Q)).length = (Q - nx) * 2 by rw [pcels_len, hlen6])
                have Hm1 := hide (show nx - a + (Q - nx) ≤ maxLen by have := HQ.out; have := HNm.out; have := Hn.out; unfold maxLen; omega)
                have Hm2 := hide (show (nx - a + (Q - nx)) * 16 ≤ 140737488355328 by have := HQ.out; have := HNm.out; have := Hn.out; omega)
                have HL56 := hide (And.intro hlen5 hlen6)
                clear hv6 hs6 hsv6 HC HS5 hlen5 hlen6
                go_wp2_with (at_builtin; go_must (refine wpList_app app_pk rfl (.tmp 114) (.tmp 116) rfl v5 (nx - a) (pcels (upTo L a nx)) rfl HROW.out A6 (Q - nx) c6 (pcels (upTo L nx Q)) rfl HPC.out HSV.out (pcels_one _) (by decide) Hm1.out Hm2.out ?_))
                intro v7 w7 hg7
                obtain ⟨A7, c7, rfl, _, _, _⟩ := hg7.out.row.form
                have HS7 := hide (TW.grown HS6.out (by rw [HL56.out.1, HL56.out.2]) hg7.out)
                rw [upTo_join (L := L) (a := a) (b := nx) (l := Q) (by have := HNm.out; omega) HQ.out.1 (by rw [HLL.out]; exact HQ.out.2.1)] at HS7
                obtain ⟨ol, hol⟩ : ∃ ol, nx - a + (Q - nx) = ol := ⟨_, rfl⟩
                rw [hol] at HS7 ⊢
                have HOL := hide (show a + ol = Q by have := HQ.out; have := HNm.out; omega)
                have holi : (ol : Int) ≤ 30 := by have := HQ.out; have := HNm.out; have := Hn.out; omega
                clear hg7 HROW HSV HPC HS6 hol HL56 Hm1 Hm2
                go_wp2_with fail
                go_loopw [119] (fun j wr => ∃ (m a2 T2 : Nat), m ≤ ol ∧ a + m ≤ a2 ∧ j = .int .i64 (m : Int) ∧ Hid (TW w [pkT (.slice A7 ol c7) (upTo L a Q)] p r f L Q a2 T2 F wr)) (fun j _ => ol - (intOf j).toNat)
                case atStart => exact ⟨0, a, T, Nat.zero_le _, Nat.le_refl _, rfl, HS7⟩
                case round =>
                  clear HS7
                  obtain ⟨m, a2, T2, hmo, hma, rfl, HT⟩ := hrel
                  rcases Nat.lt_or_ge m ol with hlt | hge
                  · have HLt := hide hlt
                    have hmi : (m : Int) < (ol : Int) := by omega
                    have hsrc : Src wr A7 (pcels (upTo L a Q)) := by
                      have h1 := TW.row HT.out
                      rw [show (upTo L a Q).length = ol by rw [upTo_len (by rw [HLL.out]; exact HQ.out.2.1)]; have := HOL.out; omega] at h1
                      exact h1.src
                    obtain ⟨xx, hxx⟩ : ∃ xx, L[a + m]? = some xx := ⟨_, List.getElem?_eq_getElem (by rw [HLL.out]; have := HOL.out; have := HQ.out; omega)⟩
                    obtain ⟨pq, hpq⟩ : ∃ pq : Pkt, pq = (((a + m + 1 : Nat) : Int), xx) := ⟨_, rfl⟩
                    have hget : (upTo L a Q)[m]? = some pq := by
                      rw [upTo_get (by have := HOL.out; omega), hxx, hpq]; rfl
                    obtain ⟨g7, o7, rfl, _, hp0, hp1⟩ := Src.pkt hsrc hget
                    have haT := HT.out.ls.aT
                    obtain ⟨t9, ht9⟩ : ∃ t9, took T2 (a + m) = t9 := ⟨_, rfl⟩
                    have Ht9 := hide (show a + (m + 1) ≤ max a2 t9 by
                      have : a + (m + 1) ≤ t9 := by rw [← ht9]; unfold took; split <;> omega
                      omega)
                    have HJ := hide (And.intro (show a + m < Q by have := HOL.out; omega) (And.intro hxx hpq))
                    clear hsrc hxx hpq hget hlt hmo hma haT
                    go_wp2_with (refine Lp.wpList_alloc_told rfl 33 rfl _ Lp.pk_zero ?_)
                    intro w8 H8
                    have HV8 := hide (Lp.Var.new (q := (0, 0)) H8.out)
                    have HX8 := hide (show wr.heap.size ≤ wr.heap.size from Nat.le_refl _)
                    clear H8
                    go_wp2_with (refine Lp.wpList_store_told rfl 33 (.tmp 16) (.tmp 122) rfl wr.heap.size (Lp.pcs pq) rfl rfl _ HV8.out.1 Lp.pk_size rfl (Lp.pcs_one pq) ?_)
                    intro w9 H9
                    have HB9 := hide (Lp.below_set HV8.out.2 HX8.out H9.out)
                    obtain ⟨y0, y1⟩ := Lp.Var.cells (HV8.out.1.set H9.out)
                    clear H9 HV8 HX8
                    have HT9 := hide (HT.out.below HB9.out)
                    have HC := hide (HT9.out.take pq (a + m) xx HJ.out.1 HJ.out.2.1 HJ.out.2.2)
                    rw [ht9] at HC
                    clear HT HB9 hp0 hp1 HT9 ht9 HJ
                    go_wp2_with fail
                    refine HC.out.mono ?_
                    rintro e w10 ⟨rfl, hs10⟩
                    have HC2 := hide (hs10.ack t9 (Nat.le_refl _))
                    clear hs10 HC y0 y1
                    go_wp2_with fail
                    refine HC2.out.mono ?_
                    rintro e w11 ⟨rfl, hs11⟩
                    have HT11 := hide hs11
                    clear hs11 HC2
                    go_wp2
                    go_roundw
                    case rel => exact ⟨m + 1, max a2 t9, t9, HLt.out, Ht9.out, by go_num, HT11⟩
                    case measure => have := HLt.out; simp [intOf]; omega
                  · obtain rfl : m = ol := by omega
                    have HSN := hide HT.out.weak
                    have HP := hide (show u + 1 ≤ a2 ∨ i ≤ a2 by have h1 := HOL.out; have h2 := HQ.out; have h3 := Hua.out; have h4 := Hlt.out; omega)
                    clear HT hge hmo hma
                    go_wp2
                    go_roundw
                    case rel => exact ⟨u + 1, _, _, _, _, Hlt.out, HP.out, by go_num, HSN⟩
                    case measure => have := Hlt.out; simp [intOf]; omega
              · obtain rfl : u = i := by omega
                have hnum := HS.out.ls.nums
                have h1 := HLL.out
                obtain rfl : a = u := by omega
                obtain rfl : nx = a := by omega
                obtain rfl : T = nx := by omega
                have HC := hide HS.out.list
                rw [List.take_of_length_le (by rw [h1]; exact Nat.le_refl _)] at HC
                clear HS hge hui hua hnum h1
                go_wp2_with fail
                refine HC.out.mono ?_
                rintro e w5 ⟨v5, rfl, hv5, hs5⟩
                obtain ⟨A5, c5, rfl, _, _, hsv5⟩ := hv5.form
                rw [HLL.out]
                have HV := hide hsv5
                have HS5 := hide hs5
                clear hv5 hsv5 hs5 HC
                go_wp2_with fail
                go_loopw [134] (fun j wr => ∃ (m : Nat), m ≤ T ∧ j = .int .i64 (m : Int) ∧ Hid (Below w5.heap.size w5 wr)) (fun j _ => T - (intOf j).toNat)
                case atStart => exact ⟨0, Nat.zero_le _, rfl, Below.refl _ _⟩
                case round =>
                  obtain ⟨m, hmT, rfl, hb⟩ := hrel
                  rcases Nat.lt_or_ge m T with hlt | hge
                  · have Hlt := hide hlt
                    have hmi : (m : Int) < (T : Int) := by omega
                    have hget : L[m]? = some ((m : Int) * (m : Int)) := by rw [← HL.out]; exact sqs_get hlt
                    obtain ⟨g5, o5, rfl, _, z0⟩ := Src.el (HV.out.below hb.out) hget
                    have hw := sq_wrap (show m ≤ 30 by have := Hn.out; omega)
                    clear hget hlt hmT
                    go_wp2
                    go_roundw
                    case rel => exact ⟨m + 1, Hlt.out, by go_num, hb⟩
                    case measure => have := Hlt.out; simp [intOf]; omega
                  · obtain rfl : m = T := by omega
                    have HC := hide ((HS5.out.below hb.out).counts)
                    have HB := hide (HS5.out.ls.st.bel.trans (hb.out.mono HS5.out.ls.st.bel.size))
                    rw [HLL.out] at HC
                    clear hge hmT hb HS5 HV
                    go_wp2_with fail
                    refine HC.out.mono ?_
                    rintro e w7 ⟨rfl, hb7⟩
                    have HBf := hide (HB.out.trans (hb7.mono HB.out.size))
                    clear hb7 HC HB
                    go_wp2
                    go_ret
                    exact ⟨rfl, HBf.out⟩

end Go.Proofs.Ytidojlagdodkkab.Tw
