/-
  The walk of isobarlaw15.MemberTurns: it returns true, at any first volumes, any volume and any markers; nothing that was there is changed.
-/
import Derived.Test.YthoflpjmdhabmaaMbPlay
namespace Go.Proofs.Ythoflpjmdhabmaa.Mb
open Go.ChangeShapes Go.WideShapes Go.ChangeAt Go.RowKit Go.Deep Go.Joins
open Pk Dk Wn Lk

theorem u8_back (z : Int) (h : (Lit.int .u8 z).wf = true) : ((UInt8.ofNat z.toNat).toNat : Int) = z := by
  have hb := bounds_u8 h
  simp
  omega
/-- One byte of a row. -/
theorem Src.byte {w : World} {A : Option Addr} {l : List UInt8} {j : Nat} {b : UInt8} (h : Src w A (cels l)) (hb : l[j]? = some b) : ∃ g o, A = some ⟨g, o, none⟩ ∧ g < w.heap.size ∧ w.cell? ⟨g, o + j, none⟩ = some (.int .u8 (b.toNat : Int)) := by
  have hx : (cels l)[j]? = some (cel b) := by simp [cels, hb]
  obtain ⟨g, o, e, hl, hc⟩ := h (by intro e; rw [e] at hx; simp at hx)
  exact ⟨g, o, e, hl, hc _ _ hx⟩
section
variable {H : Type} {enc : TypeId × Value → H} {W : World} {d : DataW H} {p : List MemPlace} {a0 : Option Addr} {len cap : Nat}
theorem open_bytes (h : DataW.Trod enc Try.prog W 0 (fun _ => true) true 38 (.slice a0 len cap) d p) :
    ∃ l : List UInt8, l.length = len ∧ Src W a0 (cels l) := by
  obtain ⟨fuel, hf⟩ := h
  rcases open_ints Try.underlying38 Try.underlying5 (by kernel_rfl) hf with ⟨hcs, _⟩ | ⟨x, l, c, zs, hcs, _, hl, hm, hz, _, hcell, hwz⟩
  · simp [Value.cells] at hcs
    obtain ⟨rfl, rfl, rfl⟩ := hcs
    exact ⟨[], rfl, fun hn => absurd rfl hn⟩
  · simp [Value.cells] at hcs
    obtain ⟨rfl, rfl, rfl⟩ := hcs
    have hzl : zs.length = cap := by simpa using hz
    refine ⟨(zs.take len).map (fun z => UInt8.ofNat z.toNat), by rw [List.length_map, List.length_take]; omega, fun hne => ?_⟩
    have hpos : 0 < zs.length := by
      rcases Nat.eq_zero_or_pos zs.length with h0 | h0
      · exact absurd (by rw [List.eq_nil_of_length_eq_zero h0]; simp [cels]) hne
      · exact h0
    obtain ⟨b, off, rfl, hc⟩ := ints_at hcell hpos
    have hb : b < W.heap.size := World.block_lt_of_cell? W ⟨b, off + 0, none⟩ (hc 0 hpos)
    refine ⟨b, off, rfl, hb, fun j u hu => ?_⟩
    have hj : j < len := by
      have := (List.getElem?_eq_some_iff.1 hu).1
      rw [cels_length, List.length_map, List.length_take] at this
      omega
    have hjz : j < zs.length := by omega
    rw [hc j hjz]
    obtain ⟨b', hb', rfl⟩ := cels_get _ _ _ hu
    rw [List.getElem?_map, List.getElem?_take, if_pos hj, List.getElem?_eq_getElem hjz] at hb'
    simp only [Option.map_some, Option.some.injEq] at hb'
    subst hb'
    rw [cel, u8_back _ (hwz _ (List.getElem_mem hjz)), List.getD_eq_getElem?_getD, List.getElem?_eq_getElem hjz]
    rfl
end

theorem vols_bt {s k : Nat} (hk : k < 4) : decide ((k : Int) ∈ vols s 4) = bt s k := by
  rw [Bool.eq_iff_iff, decide_eq_true_iff, vols_mem]
  constructor
  · rintro ⟨v, _, h2, h3⟩
    obtain rfl : k = v := by omega
    exact h3
  · exact fun h => ⟨k, hk, rfl, h⟩
/-- What the four marks tell, behind a change of the volume. -/
theorem turn {s : Nat} {L : List Ch} {k : Nat} {at0 at1 : Int} {B : Bool} (hF : Fine s L) (hk : k < 4) (h0 : last L = at0) (h1 : at0 < at1) (h2 : at1 ≤ 1152921504606846975) (hl : L.length < 100) (hB : bt (nowS s L) k = B) :
    chk s L (k : Int) at1 B = 0 ∧ chk s L (k : Int) at1 (!B) = 9 ∧ Fine s (L ++ [⟨at1, (k : Int), B⟩]) ∧ last (L ++ [⟨at1, (k : Int), B⟩]) = at1 ∧ bt (nowS s (L ++ [⟨at1, (k : Int), B⟩])) k = (!B) ∧
    decide ((k : Int) ∈ vols (atS s (L ++ [⟨at1, (k : Int), B⟩]) (at1 - 1)) 4) = B ∧ decide ((k : Int) ∈ vols (atS s (L ++ [⟨at1, (k : Int), B⟩]) at0) 4) = B ∧ decide ((k : Int) ∈ vols (atS s (L ++ [⟨at1, (k : Int), B⟩]) at1) 4) = (!B) ∧ decide ((k : Int) ∈ vols (atS s (L ++ [⟨at1, (k : Int), B⟩]) 1152921504606846976) 4) = (!B) := by
  have hb : bt (atS s L (last L)) (k : Int).toNat = B := by rw [hF.now]; exact hB
  have hc : chk s L (k : Int) at1 B = 0 := chk_ok ⟨by omega, by omega⟩ (by omega) h2 hb hl
  have hn : bt (nowS s (L ++ [⟨at1, (k : Int), B⟩])) k = (!B) := by
    rw [nowS_snoc]
    unfold app
    cases B with
    | true => rw [if_pos rfl, bt_wout]; simp
    | false => rw [if_neg (by simp), bt_wit]; simp
  have hF2 : Fine s (L ++ [⟨at1, (k : Int), B⟩]) := Fine.snoc (c := ⟨at1, (k : Int), B⟩) hF hc
  have hl2 : last (L ++ [⟨at1, (k : Int), B⟩]) = at1 := last_snoc _ _
  refine ⟨hc, ?_, hF2, hl2, hn, ?_, ?_, ?_, ?_⟩
  · unfold chk
    rw [if_neg (by omega), if_neg (by omega), if_neg (by omega), if_pos (by rw [hb]; cases B <;> rfl)]
  · rw [vols_bt hk, atS_snoc_lt _ _ (by show at1 - 1 < at1; omega), hF.at_last (by omega)]
    exact hB
  · rw [vols_bt hk, atS_snoc_lt _ _ (by show at0 < at1; omega), hF.at_last (by omega)]
    exact hB
  · rw [vols_bt hk, hF2.at_last (by omega)]
    exact hn
  · rw [vols_bt hk, hF2.at_last (by omega)]
    exact hn

set_option maxRecDepth 100000 in
theorem Turns_long (A0 : Option Addr) (n0 c0 : Nat) (v : Nat) (A2 : Option Addr) (n2 c2 : Nat) (w : World) (hn : 20 < n0 ∨ 60 < n2) :
    Calls Try.prog 4 #[.slice A0 n0 c0, .int .u8 (v : Int), .slice A2 n2 c2] w fun e w' => e = .returned (.bool true) ∧ Below w.heap.size w w' := by
  go_enter Try.func4, Try.ntmps4
  go_wp2_with fail
  refine (awake_any w).mono ?_
  rintro e w2 ⟨rfl, hb⟩
  have HB2 := hide hb
  clear hb
  by_cases h0 : 20 < n0
  · have hni : (20 : Int) < (n0 : Int) := by omega
    clear hn h0
    go_wp2_with fail
    refine (awake_any w2).mono ?_
    rintro e w3 ⟨rfl, hb⟩
    have HB3 := hide (HB2.out.trans (hb.mono HB2.out.size))
    clear hb HB2
    go_wp2
    go_ret
    exact ⟨rfl, HB3.out⟩
  · have hni : ¬ (20 : Int) < (n0 : Int) := by omega
    have hnj : (60 : Int) < (n2 : Int) := by omega
    clear hn h0
    go_wp2_with fail
    refine (awake_any w2).mono ?_
    rintro e w3 ⟨rfl, hb⟩
    have HB3 := hide (HB2.out.trans (hb.mono HB2.out.size))
    clear hb HB2
    go_wp2
    go_ret
    exact ⟨rfl, HB3.out⟩
set_option maxRecDepth 100000 in
set_option maxHeartbeats 16000000 in
theorem Turns_law (A0 : Option Addr) (n0 c0 : Nat) (l0 : List Int) (v : Nat) (A2 : Option Addr) (n2 c2 : Nat) (l2 : List UInt8) (w : World) (hl0 : l0.length = n0) (hs0 : Src w A0 (nums l0)) (hl2 : l2.length = n2) (hs2 : Src w A2 (cels l2)) (hv : v < 256) (hn0 : n0 ≤ 20) (hn2 : n2 ≤ 60) :
    Calls Try.prog 4 #[.slice A0 n0 c0, .int .u8 (v : Int), .slice A2 n2 c2] w fun e w' => e = .returned (.bool true) ∧ Below w.heap.size w w' := by
  have hni : ¬ (20 : Int) < (n0 : Int) := by omega
  have hnj : ¬ (60 : Int) < (n2 : Int) := by omega
  have Hl0 := hide hl0
  have Hl2 := hide hl2
  have Hs0 := hide hs0
  have Hs2 := hide hs2
  have Hn0 := hide hn0
  have Hn2 := hide hn2
  clear hl0 hl2 hs0 hs2 hn0 hn2
  go_enter Try.func4, Try.ntmps4
  go_wp2_with fail
  refine (awake_any w).mono ?_
  rintro e w2 ⟨rfl, hb⟩
  have HB2 := hide hb
  clear hb
  go_wp2_with fail
  refine (New_any A0 n0 c0 l0 w2 Hl0.out (by have := Hn0.out; omega) (Hs0.out.below HB2.out)).mono ?_
  intro e w3 hnew
  cases hN : newS 0 l0 with
  | inr z =>
    obtain ⟨u, f⟩ := z
    rw [hN] at hnew
    obtain ⟨b, rfl, hF⟩ := hnew
    have HB3 := hide (HB2.out.trans (hF.2.mono HB2.out.size))
    clear hF hN
    go_wp2
    go_ret
    exact ⟨rfl, HB3.out⟩
  | inl t =>
    rw [hN] at hnew
    have hnew' : e = .returned (.tuple #[.pointer (some ⟨w2.heap.size, 0, none⟩), .nilIface]) ∧ St w2 [grpT w2.heap.size t []] w3 := hnew
    obtain ⟨rfl, hS⟩ := hnew'
    have Ht := hide (newS_lt l0 0 t (by decide) hN)
    have HS3 := hide hS
    have HE : Hid (∀ W, St w2 [] W → Below w.heap.size w W) := fun W hW => HB2.out.trans (hW.bel.mono HB2.out.size)
    have Hsr := hide (Hs2.out.below HB2.out)
    obtain ⟨k, hk⟩ : ∃ k, v % 4 = k := ⟨_, rfl⟩
    have hk4 : k < 4 := by omega
    have Hk4 := hide hk4
    have ek : (v : Int) % 4 = (k : Int) := by omega
    have ek2 : Int.tmod (v : Int) 4 = (k : Int) := by rw [Int.tmod_eq_emod_of_nonneg (by omega)]; omega
    clear hnew hS hN Hs0 Hs2 HB2 hk hk4 hv
    generalize w2.heap.size = p at *
    go_wp2_with fail
    refine (S_now HS3.out (i := 0) rfl Fine.nil Ht.out).mono ?_
    rintro e w4 ⟨VA, ca, rfl, hS⟩
    have HS4 := hide (show St w2 [grpT p t [], rowT 3 1 (.slice VA (vols (atS t [] (last [])) 4).length ca) (vols (atS t [] (last [])) 4).length (nums (vols (atS t [] (last [])) 4))] w4 from hS)
    have hbt : decide ((k : Int) ∈ vols (atS t [] (last [])) 4) = bt t k := vols_bt Hk4.out
    have HQ := hide (hasL_any (w := w4) (vols (atS t [] (last [])) 4) _ VA ca (k : Int) rfl (by have := vols_len (atS t [] (last [])) 4; omega) (St.src HS4.out (i := 1) rfl))
    rw [hbt] at HQ
    have HS5 := hide (St.weaken (Ts := [grpT p t []]) HS4.out)
    generalize (vols (atS t [] (last [])) 4).length = nl at *
    clear hS HS4 hbt HS3
    go_wp2_with fail
    refine HQ.out.mono ?_
    rintro e w5 ⟨rfl, hw5⟩
    subst hw5
    clear HQ
    go_wp2_with fail
    go_loopw [10, 11, 44] (fun iv av jv wr => ∃ j : Nat, j ≤ n2 ∧ jv = .int .i64 (j : Int) ∧ ∃ (M : List Ch) (x : Nat) (B : Bool), M.length = j ∧ x ≤ 256 * j ∧ av = .int .i64 (x : Int) ∧ iv = .bool B ∧ Hid (Fine t M ∧ last M = (x : Int) ∧ bt (nowS t M) k = B) ∧ Hid (St w2 [grpT p t M] wr)) (fun _ _ jv _ => n2 - (intOf jv).toNat)
    case atStart => exact ⟨0, Nat.zero_le _, rfl, [], 0, bt t k, rfl, Nat.le_refl _, rfl, rfl, ⟨Fine.nil, rfl, rfl⟩, HS5.out⟩
    case round =>
      obtain ⟨j, hj, rfl, M, x, B, hMj, hx, rfl, rfl, hM, hst⟩ := hrel
      rcases Nat.lt_or_ge j n2 with hlt | hge
      · have Hlt := hide hlt
        have HMj := hide hMj
        have hji : (j : Int) < (n2 : Int) := by omega
        obtain ⟨y, hy⟩ : ∃ y, l2[j]? = some y := ⟨_, List.getElem?_eq_getElem (by rw [Hl2.out]; exact hlt)⟩
        obtain ⟨g, o, rfl, hg, hc⟩ := Src.byte Hsr.out hy
        have a0 : wr.cell? ⟨g, o + j, none⟩ = some (.int .u8 (y.toNat : Int)) := (hst.out.bel.cell (p := ⟨g, o + j, none⟩) hg).trans hc
        have hy8 : y.toNat < 256 := y.toNat_lt
        obtain ⟨z, hz⟩ : ∃ z, y.toNat = z := ⟨_, rfl⟩
        rw [hz] at a0 hy8
        have hj60 : j < 60 := by have := Hn2.out; omega
        obtain ⟨x1, hx1⟩ : ∃ x1, x + (1 + z) = x1 := ⟨_, rfl⟩
        have ex : (x : Int) + (1 + (z : Int)) = (x1 : Int) := by omega
        obtain ⟨q0, q9, qF, ql, qn, d1, d2, d3, d4⟩ := turn (at1 := (x1 : Int)) hM.out.1 Hk4.out hM.out.2.1 (by omega) (by omega) (by rw [hMj]; omega) hM.out.2.2
        have HF := hide qF
        have HL := hide ql
        have HNn := hide qn
        have HFM := hide hM.out.1
        have EX := hide ex
        have hx1i : (x1 : Int) ≤ 15616 := by omega
        have Hx1 := hide (show x1 ≤ 256 * (j + 1) by omega)
        have HLen := hide (show (M ++ [(⟨(x1 : Int), (k : Int), B⟩ : Ch)]).length = j + 1 by rw [List.length_append, hMj]; rfl)
        have HY : Hid (add1 t M (k : Int) (x1 : Int) B = M ++ [⟨(x1 : Int), (k : Int), B⟩]) := by unfold add1; rw [if_pos q0]; rfl
        have HZ : Hid (add1 t M (k : Int) (x1 : Int) (!B) = M) := by unfold add1; rw [if_neg (by rw [q9]; decide)]; rfl
        obtain ⟨M2, hM2⟩ : ∃ M2, M ++ [(⟨(x1 : Int), (k : Int), B⟩ : Ch)] = M2 := ⟨_, rfl⟩
        rw [hM2] at HF HL HNn HLen HY d1 d2 d3 d4
        have D1 := hide d1
        have D2 := hide d2
        have D3 := hide d3
        have D4 := hide d4
        have Q0 := hide q0
        have Q9 := hide q9
        have hzi : (z : Int) < 256 := by omega
        have hxi : (x : Int) ≤ 15360 := by omega
        clear ex ek ek2 hlt hj hMj hx hM hy hg hc hy8 hz hj60 hx1 q0 q9 qF ql qn d1 d2 d3 d4 hM2
        cases B with
        | true =>
          go_wp2_with fail
          rw [EX.out]
          refine (S_add hst.out (i := 0) rfl HFM.out Ht.out (k : Int) (x1 : Int)).mono ?_
          rintro e wa ⟨hr, hS⟩
          rw [show (false : Bool) = (!true) from rfl, Q9.out] at hr
          obtain ⟨b, rfl, _⟩ := hr.no (by decide)
          have HSa := hide (show St w2 [grpT p t M] wa by have h := hS; rw [show (false : Bool) = (!true) from rfl, HZ.out] at h; exact h)
          clear hS hr
          go_wp2_with fail
          refine (S_remove HSa.out (i := 0) rfl HFM.out Ht.out (k : Int) (x1 : Int)).mono ?_
          rintro e wb ⟨hr, hS⟩
          rw [Q0.out] at hr
          obtain rfl := hr.ok
          have HSb := hide (show St w2 [grpT p t M2] wb by have h := hS; rw [HY.out] at h; exact h)
          clear hS hr HSa hst
          go_wp2_with fail
          refine (S_at HSb.out (i := 0) rfl HF.out Ht.out ((x1 : Int) - 1)).mono ?_
          rintro e wc1 ⟨VA1, ca1, rfl, hS⟩
          have HSc1 := hide hS
          have HR1 := hide (hasL_any (w := wc1) (vols (atS t M2 ((x1 : Int) - 1)) 4) _ VA1 ca1 (k : Int) rfl (by have := vols_len (atS t M2 ((x1 : Int) - 1)) 4; omega) (St.src HSc1.out (i := 1) rfl))
          rw [D1.out] at HR1
          have HSd1 := hide (St.weaken (Ts := [grpT p t M2]) HSc1.out)
          clear hS HSc1 HSb
          generalize (vols (atS t M2 ((x1 : Int) - 1)) 4).length = nl1 at *
          go_wp2_with fail
          refine HR1.out.mono ?_
          rintro e wd1 ⟨rfl, hwd⟩
          subst hwd
          clear HR1
          go_wp2_with fail
          refine (S_at HSd1.out (i := 0) rfl HF.out Ht.out ((x : Int))).mono ?_
          rintro e wc2 ⟨VA2, ca2, rfl, hS⟩
          have HSc2 := hide hS
          have HR2 := hide (hasL_any (w := wc2) (vols (atS t M2 ((x : Int))) 4) _ VA2 ca2 (k : Int) rfl (by have := vols_len (atS t M2 ((x : Int))) 4; omega) (St.src HSc2.out (i := 1) rfl))
          rw [D2.out] at HR2
          have HSd2 := hide (St.weaken (Ts := [grpT p t M2]) HSc2.out)
          clear hS HSc2 HSd1
          generalize (vols (atS t M2 ((x : Int))) 4).length = nl2 at *
          go_wp2_with fail
          refine HR2.out.mono ?_
          rintro e wd2 ⟨rfl, hwd⟩
          subst hwd
          clear HR2
          go_wp2_with fail
          refine (S_at HSd2.out (i := 0) rfl HF.out Ht.out ((x1 : Int))).mono ?_
          rintro e wc3 ⟨VA3, ca3, rfl, hS⟩
          have HSc3 := hide hS
          have HR3 := hide (hasL_any (w := wc3) (vols (atS t M2 ((x1 : Int))) 4) _ VA3 ca3 (k : Int) rfl (by have := vols_len (atS t M2 ((x1 : Int))) 4; omega) (St.src HSc3.out (i := 1) rfl))
          rw [D3.out] at HR3
          have HSd3 := hide (St.weaken (Ts := [grpT p t M2]) HSc3.out)
          clear hS HSc3 HSd2
          generalize (vols (atS t M2 ((x1 : Int))) 4).length = nl3 at *
          go_wp2_with fail
          refine HR3.out.mono ?_
          rintro e wd3 ⟨rfl, hwd⟩
          subst hwd
          clear HR3
          go_wp2_with fail
          refine (S_at HSd3.out (i := 0) rfl HF.out Ht.out (1152921504606846976)).mono ?_
          rintro e wc4 ⟨VA4, ca4, rfl, hS⟩
          have HSc4 := hide hS
          have HR4 := hide (hasL_any (w := wc4) (vols (atS t M2 (1152921504606846976)) 4) _ VA4 ca4 (k : Int) rfl (by have := vols_len (atS t M2 (1152921504606846976)) 4; omega) (St.src HSc4.out (i := 1) rfl))
          rw [D4.out] at HR4
          have HSd4 := hide (St.weaken (Ts := [grpT p t M2]) HSc4.out)
          clear hS HSc4 HSd3
          generalize (vols (atS t M2 (1152921504606846976)) 4).length = nl4 at *
          go_wp2_with fail
          refine HR4.out.mono ?_
          rintro e wd4 ⟨rfl, hwd⟩
          subst hwd
          clear HR4
          go_wp2
          go_roundw
          case rel => exact ⟨j + 1, Hlt.out, by go_num, M2, x1, _, HLen.out, Hx1.out, rfl, rfl, ⟨HF.out, HL.out, HNn.out⟩, HSd4.out⟩
          case measure => have := Hlt.out; simp [intOf]; omega
        | false =>
          go_wp2_with fail
          rw [EX.out]
          refine (S_add hst.out (i := 0) rfl HFM.out Ht.out (k : Int) (x1 : Int)).mono ?_
          rintro e wb ⟨hr, hS⟩
          rw [Q0.out] at hr
          obtain rfl := hr.ok
          have HSb := hide (show St w2 [grpT p t M2] wb by have h := hS; rw [HY.out] at h; exact h)
          clear hS hr hst
          go_wp2_with fail
          refine (S_at HSb.out (i := 0) rfl HF.out Ht.out ((x1 : Int) - 1)).mono ?_
          rintro e wc1 ⟨VA1, ca1, rfl, hS⟩
          have HSc1 := hide hS
          have HR1 := hide (hasL_any (w := wc1) (vols (atS t M2 ((x1 : Int) - 1)) 4) _ VA1 ca1 (k : Int) rfl (by have := vols_len (atS t M2 ((x1 : Int) - 1)) 4; omega) (St.src HSc1.out (i := 1) rfl))
          rw [D1.out] at HR1
          have HSd1 := hide (St.weaken (Ts := [grpT p t M2]) HSc1.out)
          clear hS HSc1 HSb
          generalize (vols (atS t M2 ((x1 : Int) - 1)) 4).length = nl1 at *
          go_wp2_with fail
          refine HR1.out.mono ?_
          rintro e wd1 ⟨rfl, hwd⟩
          subst hwd
          clear HR1
          go_wp2_with fail
          refine (S_at HSd1.out (i := 0) rfl HF.out Ht.out ((x : Int))).mono ?_
          rintro e wc2 ⟨VA2, ca2, rfl, hS⟩
          have HSc2 := hide hS
          have HR2 := hide (hasL_any (w := wc2) (vols (atS t M2 ((x : Int))) 4) _ VA2 ca2 (k : Int) rfl (by have := vols_len (atS t M2 ((x : Int))) 4; omega) (St.src HSc2.out (i := 1) rfl))
          rw [D2.out] at HR2
          have HSd2 := hide (St.weaken (Ts := [grpT p t M2]) HSc2.out)
          clear hS HSc2 HSd1
          generalize (vols (atS t M2 ((x : Int))) 4).length = nl2 at *
          go_wp2_with fail
          refine HR2.out.mono ?_
          rintro e wd2 ⟨rfl, hwd⟩
          subst hwd
          clear HR2
          go_wp2_with fail
          refine (S_at HSd2.out (i := 0) rfl HF.out Ht.out ((x1 : Int))).mono ?_
          rintro e wc3 ⟨VA3, ca3, rfl, hS⟩
          have HSc3 := hide hS
          have HR3 := hide (hasL_any (w := wc3) (vols (atS t M2 ((x1 : Int))) 4) _ VA3 ca3 (k : Int) rfl (by have := vols_len (atS t M2 ((x1 : Int))) 4; omega) (St.src HSc3.out (i := 1) rfl))
          rw [D3.out] at HR3
          have HSd3 := hide (St.weaken (Ts := [grpT p t M2]) HSc3.out)
          clear hS HSc3 HSd2
          generalize (vols (atS t M2 ((x1 : Int))) 4).length = nl3 at *
          go_wp2_with fail
          refine HR3.out.mono ?_
          rintro e wd3 ⟨rfl, hwd⟩
          subst hwd
          clear HR3
          go_wp2_with fail
          refine (S_at HSd3.out (i := 0) rfl HF.out Ht.out (1152921504606846976)).mono ?_
          rintro e wc4 ⟨VA4, ca4, rfl, hS⟩
          have HSc4 := hide hS
          have HR4 := hide (hasL_any (w := wc4) (vols (atS t M2 (1152921504606846976)) 4) _ VA4 ca4 (k : Int) rfl (by have := vols_len (atS t M2 (1152921504606846976)) 4; omega) (St.src HSc4.out (i := 1) rfl))
          rw [D4.out] at HR4
          have HSd4 := hide (St.weaken (Ts := [grpT p t M2]) HSc4.out)
          clear hS HSc4 HSd3
          generalize (vols (atS t M2 (1152921504606846976)) 4).length = nl4 at *
          go_wp2_with fail
          refine HR4.out.mono ?_
          rintro e wd4 ⟨rfl, hwd⟩
          subst hwd
          clear HR4
          go_wp2
          go_roundw
          case rel => exact ⟨j + 1, Hlt.out, by go_num, M2, x1, _, HLen.out, Hx1.out, rfl, rfl, ⟨HF.out, HL.out, HNn.out⟩, HSd4.out⟩
          case measure => have := Hlt.out; simp [intOf]; omega
      · obtain rfl : j = n2 := by omega
        have HB9 := hide (HE.out _ (St.weaken (Ts := []) hst.out))
        clear hge hj hMj hx hM
        go_wp2
        go_ret
        exact ⟨rfl, HB9.out⟩
theorem Turns_any (A0 : Option Addr) (n0 c0 : Nat) (l0 : List Int) (v : Nat) (A2 : Option Addr) (n2 c2 : Nat) (l2 : List UInt8) (w : World) (hl0 : l0.length = n0) (hs0 : Src w A0 (nums l0)) (hl2 : l2.length = n2) (hs2 : Src w A2 (cels l2)) (hv : v < 256) :
    Calls Try.prog 4 #[.slice A0 n0 c0, .int .u8 (v : Int), .slice A2 n2 c2] w fun e w' => e = .returned (.bool true) ∧ Below w.heap.size w w' := by
  by_cases h : n0 ≤ 20 ∧ n2 ≤ 60
  · exact Turns_law A0 n0 c0 l0 v A2 n2 c2 l2 w hl0 hs0 hl2 hs2 hv h.1 h.2
  · exact Turns_long A0 n0 c0 v A2 n2 c2 w (by omega)

end Go.Proofs.Ythoflpjmdhabmaa.Mb
