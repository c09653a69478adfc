/-
  The walk of isobarlaw15.MemberStays: it returns true, at any first volumes, every script, every change and every marker; nothing that was there is changed.
-/
import Derived.Test.YthoflpjmdhabmaaMbPlay
namespace Go.Proofs.Ythoflpjmdhabmaa.Mb
open Go.ChangeShapes Go.WideShapes Go.ChangeAt Go.RowKit Go.Deep Go.Joins
open Pk Dk Wn Lk

section
variable {H : Type} {enc : TypeId × Value → H} {W : World} {d : DataW H} {p : List MemPlace}
set_option maxRecDepth 100000 in
theorem open_op15 {r : Reach} {b0 : Nat} {v : Value} (hv : Value.okWide Try.prog W r b0 25 v) (h : DataW.Trod enc Try.prog W 0 (fun _ => true) true 25 v d p) :
    ∃ q : Oq, v = .agg #[.int .i64 q.kind, .int .i64 q.v, .int .i64 q.m] ∧ OFit q := by
  obtain ⟨v0, v1, v2, y0, y1, y2, n, rfl, _, _, h0, h1, h2⟩ := open_agg3 Try.underlying25 (by kernel_rfl) (by kernel_rfl) hv h
  obtain ⟨k0, e0, _, w0⟩ := DataW.trod_int Try.underlying3 h0
  obtain ⟨k1, e1, _, w1⟩ := DataW.trod_int Try.underlying3 h1
  obtain ⟨k2, e2, _, w2⟩ := DataW.trod_int Try.underlying3 h2
  simp at e0 e1 e2
  subst e0 e1 e2
  exact ⟨⟨k0, k1, k2⟩, rfl, i64_of w0, i64_of w1, i64_of w2⟩
end

/-! ### What one change more does at a marker -/
section
variable {s : Nat} {L : List Ch}
theorem add1_lt {v m mark : Int} {r : Bool} (h : mark < m) : atS s (add1 s L v m r) mark = atS s L mark := by
  unfold add1
  split
  · exact atS_snoc_lt _ _ h L s
  · rfl
theorem add1_last {v m mark : Int} {r : Bool} (h : mark < last L) : atS s (add1 s L v m r) mark = atS s L mark ∧ mark < last (add1 s L v m r) := by
  unfold add1
  split
  · rename_i hk
    have := (chk_zero hk).2.1
    rw [last_snoc]
    exact ⟨atS_snoc_lt _ _ (by show mark < m; omega) L s, by show mark < m; omega⟩
  · exact ⟨rfl, h⟩
theorem add1_no {v m : Int} {r : Bool} (h : chk s L v m r ≠ 0) : add1 s L v m r = L := by
  unfold add1
  rw [if_neg h]
theorem add1_yes {v m : Int} {r : Bool} (h : chk s L v m r = 0) : add1 s L v m r = L ++ [⟨m, v, r⟩] := by
  unfold add1
  rw [if_pos h]
theorem app_len {t : Nat} {c : Ch} (ht : t < 16) (hv : 0 ≤ c.v ∧ c.v < 4) : (vols (app t c) 4).length ≤ (vols t 4).length + 1 ∧ (vols t 4).length ≤ (vols (app t c) 4).length + 1 := by
  obtain ⟨h1, h2, h3⟩ := vols_sixteen t ht c.v.toNat (by omega)
  unfold app
  cases c.r with
  | true =>
    rw [if_pos rfl]
    cases hb : bt t c.v.toNat with
    | true => have := (h2 hb).1; omega
    | false => rw [h3 hb]; omega
  | false =>
    rw [if_neg (by simp)]
    cases hb : bt t c.v.toNat with
    | true => rw [(h2 hb).2]; omega
    | false => have := h1 hb; omega
theorem add1_len (hF : Fine s L) (hs : s < 16) (v m mark : Int) (r : Bool) : (vols (atS s (add1 s L v m r) mark) 4).length ≤ (vols (atS s L mark) 4).length + 1 ∧ (vols (atS s L mark) 4).length ≤ (vols (atS s (add1 s L v m r) mark) 4).length + 1 := by
  by_cases hk : chk s L v m r = 0
  · rw [add1_yes hk]
    by_cases hm : mark < m
    · rw [atS_snoc_lt _ _ hm L s]
      omega
    · have h1 := (chk_zero hk)
      rw [hF.step ⟨m, v, r⟩ (by have := h1.2.1; omega) (by show m ≤ mark; omega)]
      exact app_len (hF.lt16 hs mark) h1.1
  · rw [add1_no hk]
    omega
/-- An Add behind which a Remove follows: one of them is refused. -/
theorem add1_twice {v m : Int} : add1 s (add1 s L v m false) v m true = add1 s L v m false ∨ add1 s L v m false = L := by
  by_cases hk : chk s L v m false = 0
  · refine Or.inl (add1_no fun h => ?_)
    have := (chk_zero h).2.1
    rw [add1_yes hk, last_snoc] at this
    exact absurd this (Int.lt_irrefl _)
  · exact Or.inr (add1_no hk)
end

set_option maxRecDepth 100000 in
theorem Stays_long (A0 : Option Addr) (n0 c0 : Nat) (A1 : Option Addr) (n1 c1 : Nat) (q : Oq) (mark : Int) (w : World) (hn : 20 < n0 ∨ 200 < n1) :
    Calls Try.prog 3 #[.slice A0 n0 c0, .slice A1 n1 c1, .agg #[.int .i64 q.kind, .int .i64 q.v, .int .i64 q.m], .int .i64 mark] w fun e w' => e = .returned (.bool true) ∧ Below w.heap.size w w' := by
  obtain ⟨qk, qv, qm⟩ := q
  have hb1 : Below w.heap.size w (w.alloc (.cells #[.int .i64 qk, .int .i64 qv, .int .i64 qm] 25)) := (Below.refl _ _).alloc (Nat.le_refl _) _
  have HB1 := hide hb1
  clear hb1
  go_enter Try.func3, Try.ntmps3
  go_wp2_with fail
  generalize World.alloc _ _ = w1 at *
  refine (awake_any w1).mono ?_
  rintro e w2 ⟨rfl, hb⟩
  have HB2 := hide (HB1.out.trans (hb.mono HB1.out.size))
  clear hb HB1
  by_cases h0 : 20 < n0
  · have hni : (20 : Int) < (n0 : Int) := by omega
    clear hn h0
    go_wp2_with fail
    refine (awake_any w2).mono ?_
    rintro e w3 ⟨rfl, hb⟩
    have HB3 := hide (HB2.out.trans (hb.mono HB2.out.size))
    clear hb HB2
    go_wp2
    go_ret
    exact ⟨rfl, HB3.out⟩
  · have hni : ¬ (20 : Int) < (n0 : Int) := by omega
    have hnj : (200 : Int) < (n1 : Int) := by omega
    clear hn h0
    go_wp2_with fail
    refine (awake_any w2).mono ?_
    rintro e w3 ⟨rfl, hb⟩
    have HB3 := hide (HB2.out.trans (hb.mono HB2.out.size))
    clear hb HB2
    go_wp2
    go_ret
    exact ⟨rfl, HB3.out⟩
set_option maxRecDepth 100000 in
set_option maxHeartbeats 8000000 in
theorem Stays_law (A0 : Option Addr) (n0 c0 : Nat) (l0 : List Int) (A1 : Option Addr) (n1 c1 : Nat) (l1 : List Oq) (q : Oq) (mark : Int) (w : World) (hl0 : l0.length = n0) (hs0 : Src w A0 (nums l0)) (hl1 : l1.length = n1) (hs1 : Src w A1 (ocels l1)) (hn0 : n0 ≤ 20) (hn1 : n1 ≤ 200) :
    Calls Try.prog 3 #[.slice A0 n0 c0, .slice A1 n1 c1, .agg #[.int .i64 q.kind, .int .i64 q.v, .int .i64 q.m], .int .i64 mark] w fun e w' => e = .returned (.bool true) ∧ Below w.heap.size w w' := by
  obtain ⟨qk, qv, qm⟩ := q
  have hb1 : Below w.heap.size w (w.alloc (.cells #[.int .i64 qk, .int .i64 qv, .int .i64 qm] 25)) := (Below.refl _ _).alloc (Nat.le_refl _) _
  have HB1 := hide hb1
  have hcel := fun j => cell_of_row (w.alloc (.cells #[.int .i64 qk, .int .i64 qv, .int .i64 qm] 25)) w.heap.size j _ _ _ (heap_alloc_new w _)
  have HC : Hid (∀ W, Below (w.alloc (.cells #[.int .i64 qk, .int .i64 qv, .int .i64 qm] 25)).heap.size (w.alloc (.cells #[.int .i64 qk, .int .i64 qv, .int .i64 qm] 25)) W → W.cell? ⟨w.heap.size, 0, none⟩ = some (.int .i64 qk) ∧ W.cell? ⟨w.heap.size, 1, none⟩ = some (.int .i64 qv) ∧ W.cell? ⟨w.heap.size, 2, none⟩ = some (.int .i64 qm)) := fun W hW =>
    ⟨(hW.cell (p := ⟨w.heap.size, 0, none⟩) (by simp)).trans (hcel 0), (hW.cell (p := ⟨w.heap.size, 1, none⟩) (by simp)).trans (hcel 1), (hW.cell (p := ⟨w.heap.size, 2, none⟩) (by simp)).trans (hcel 2)⟩
  have hni : ¬ (20 : Int) < (n0 : Int) := by omega
  have hnj : ¬ (200 : Int) < (n1 : Int) := by omega
  have Hl0 := hide hl0
  have Hl1 := hide hl1
  have Hs0 := hide hs0
  have Hs1 := hide hs1
  have Hn0 := hide hn0
  have Hn1 := hide hn1
  clear hb1 hcel hl0 hl1 hs0 hs1 hn0 hn1
  go_enter Try.func3, Try.ntmps3
  go_wp2_with fail
  generalize World.alloc _ _ = w1 at *
  refine (awake_any w1).mono ?_
  rintro e w2 ⟨rfl, hb⟩
  have HB2 := hide (HB1.out.trans (hb.mono HB1.out.size))
  have HC2 : Hid (∀ W, St w2 [] W → W.cell? ⟨w.heap.size, 0, none⟩ = some (.int .i64 qk) ∧ W.cell? ⟨w.heap.size, 1, none⟩ = some (.int .i64 qv) ∧ W.cell? ⟨w.heap.size, 2, none⟩ = some (.int .i64 qm)) := fun W hW => HC.out W (hb.trans (hW.bel.mono hb.size))
  clear hb HB1 HC
  go_wp2_with fail
  refine (New_any A0 n0 c0 l0 w2 Hl0.out (by have := Hn0.out; omega) (Hs0.out.below HB2.out)).mono ?_
  intro e w3 hnew
  cases hN : newS 0 l0 with
  | inr z =>
    obtain ⟨v, f⟩ := z
    rw [hN] at hnew
    obtain ⟨b, rfl, hF⟩ := hnew
    have HB3 := hide (HB2.out.trans (hF.2.mono HB2.out.size))
    clear hF hN HC2
    go_wp2
    go_ret
    exact ⟨rfl, HB3.out⟩
  | inl t =>
    rw [hN] at hnew
    have hnew' : e = .returned (.tuple #[.pointer (some ⟨w2.heap.size, 0, none⟩), .nilIface]) ∧ St w2 [grpT w2.heap.size t []] w3 := hnew
    obtain ⟨rfl, hS⟩ := hnew'
    have Ht := hide (newS_lt l0 0 t (by decide) hN)
    have HS3 := hide hS
    have HE : Hid (∀ W, St w2 [] W → Below w.heap.size w W) := fun W hW => HB2.out.trans (hW.bel.mono HB2.out.size)
    have Hsr := hide (Hs1.out.below HB2.out)
    clear hnew hS hN Hs0 Hs1 HB2
    generalize w2.heap.size = p at *
    go_wp2_with fail
    refine (play_any HS3.out Fine.nil Ht.out A1 n1 c1 l1 Hl1.out (by have := Hn1.out; omega) Hsr.out).mono ?_
    rintro e w4 ⟨rfl, M, hM, hS⟩
    have HM := hide hM
    have HS4 := hide hS
    obtain ⟨a, ha⟩ : ∃ a, vols (atS t M mark) 4 = a := ⟨_, rfl⟩
    have Ha := hide ha
    obtain ⟨na, hna⟩ : ∃ na, a.length = na := ⟨_, rfl⟩
    have Hna := hide hna
    have hna4 : na ≤ 4 := by rw [← hna, ← ha]; exact vols_len _ 4
    have Hna4 := hide hna4
    clear hM hS ha hna hna4 HS3 Hsr
    go_wp2_with fail
    refine (S_at HS4.out (i := 0) rfl HM.out Ht.out mark).mono ?_
    intro e w5 hrow
    rw [Ha.out] at hrow
    obtain ⟨VA, ca, rfl, hS⟩ := hrow
    have HS5 := hide (show St w2 [grpT p t M, rowT 3 1 (.slice VA a.length ca) a.length (nums a)] w5 from hS)
    rw [Hna.out] at HS5 ⊢
    clear hS HS4
    go_wp2_with fail
    refine (S_last HS5.out (i := 0) rfl HM.out).mono ?_
    rintro e w6 ⟨rfl, hS⟩
    have HS6 := hide hS
    obtain ⟨la, hla⟩ : ∃ la, last M = la := ⟨_, rfl⟩
    have Hla := hide hla
    rw [hla]
    obtain ⟨x0, x1, x2⟩ := HC2.out _ (St.weaken (Ts := []) hS)
    clear hS HS5 hla
    go_wp2_with fail
    refine (S_add HS6.out (i := 0) rfl HM.out Ht.out qv qm).mono ?_
    rintro e w7 ⟨hr, hS⟩
    obtain ⟨x, hx⟩ : ∃ x, chk t M qv qm false = x := ⟨_, rfl⟩
    have Hx := hide hx
    rw [hx] at hr
    obtain ⟨M1, hM1⟩ : ∃ M1, add1 t M qv qm false = M1 := ⟨_, rfl⟩
    have HM1 := hide hM1
    have HF1 := hide (HM.out.add qv qm false)
    rw [hM1] at HF1
    have HS7 := hide (show St w2 [grpT p t M1, rowT 3 1 (.slice VA na ca) na (nums a)] w7 by rw [← hM1]; exact hS)
    clear hS HS6 hx hM1 x0 x1 x2
    obtain ⟨x0, x1, x2⟩ := HC2.out _ (St.weaken (Ts := []) HS7.out)
    by_cases hk2 : qk = 2
    · subst hk2
      obtain ⟨ev, rfl⟩ := hr.gives
      clear hr
      go_wp2_with fail
      refine (S_remove HS7.out (i := 0) rfl HF1.out Ht.out qv qm).mono ?_
      rintro e w8 ⟨hr, hS⟩
      obtain ⟨M2, hM2⟩ : ∃ M2, add1 t M1 qv qm true = M2 := ⟨_, rfl⟩
      have HF2 := hide (HF1.out.add qv qm true)
      rw [hM2] at HF2
      have HS8 := hide (show St w2 [grpT p t M2, rowT 3 1 (.slice VA na ca) na (nums a)] w8 by rw [← hM2]; exact hS)
      have HMM : Hid (M2 = M1 ∨ M1 = M) := by
        rw [← hM2, ← HM1.out]
        exact add1_twice
      have HA1 : Hid (mark < qm → vols (atS t M2 mark) 4 = a) := fun h => by rw [← hM2, add1_lt h, ← HM1.out, add1_lt h]; exact Ha.out
      have HA2 : Hid (mark < la → vols (atS t M2 mark) 4 = a) := fun h => by
        have h1 := add1_last (s := t) (L := M) (v := qv) (m := qm) (r := false) (by rw [Hla.out]; exact h)
        rw [HM1.out] at h1
        rw [← hM2, (add1_last h1.2).1, h1.1]
        exact Ha.out
      have HA3 : Hid ((vols (atS t M2 mark) 4).length ≤ na + 1 ∧ na ≤ (vols (atS t M2 mark) 4).length + 1) := by
        rw [← Hna.out, ← Ha.out, ← hM2]
        rcases add1_twice (s := t) (L := M) (v := qv) (m := qm) with h | h
        · rw [HM1.out] at h
          rw [h, ← HM1.out]
          exact add1_len HM.out Ht.out qv qm mark false
        · rw [HM1.out] at h
          rw [h]
          exact add1_len HM.out Ht.out qv qm mark true
      clear hS hM2 HS7 x0 x1 x2
      obtain ⟨x0, x1, x2⟩ := HC2.out _ (St.weaken (Ts := []) HS8.out)
      obtain ⟨ev2, rfl, hev⟩ := hr.two
      clear hr
      rcases hev with rfl | ⟨b, rfl⟩
      · go_wp2_with fail
        refine (S_at HS8.out (i := 0) rfl HF2.out Ht.out mark).mono ?_
        intro e w9 hrow
        obtain ⟨b9, hb9⟩ : ∃ b9, vols (atS t M2 mark) 4 = b9 := ⟨_, rfl⟩
        have Hb9 := hide hb9
        rw [hb9] at hrow HA1 HA2 HA3
        obtain ⟨VB, cb, rfl, hS⟩ := hrow
        have HS9 := hide (show St w2 [grpT p t M2, rowT 3 1 (.slice VA na ca) na (nums a), rowT 3 1 (.slice VB b9.length cb) b9.length (nums b9)] w9 from hS)
        obtain ⟨nb, hnb⟩ : ∃ nb, b9.length = nb := ⟨_, rfl⟩
        have Hnb := hide hnb
        have hnb4 : nb ≤ 4 := by rw [← hnb, ← hb9]; exact vols_len _ 4
        rw [hnb] at HS9 HA3 ⊢
        clear hS hb9 hnb HS8 x0 x1 x2
        obtain ⟨x0, x1, x2⟩ := HC2.out _ (St.weaken (Ts := []) HS9.out)
        have HE9 := hide (HE.out _ (St.weaken (Ts := []) HS9.out))
        have HSW := hide (St.src HS9.out (i := 1) rfl)
        have HSI := hide (St.src HS9.out (i := 2) rfl)
        have hna4 := Hna4.out
        by_cases hA : mark < qm
        · have HQ := hide (same_any (w := w9) a b9 na nb VA VB ca cb Hna.out Hnb.out (by omega) HSW.out HSI.out)
          rw [HA1.out hA, decide_eq_true rfl] at HQ
          clear hna4 hnb4
          go_wp2_with fail
          refine HQ.out.mono ?_
          rintro e w10 ⟨rfl, hb⟩
          have HB10 := hide (HE9.out.trans (hb.mono HE9.out.size))
          clear hb HQ
          go_wp2
          go_ret
          exact ⟨rfl, HB10.out⟩
        · by_cases hB : mark < la
          · have HQ := hide (same_any (w := w9) a b9 na nb VA VB ca cb Hna.out Hnb.out (by omega) HSW.out HSI.out)
            rw [HA2.out hB, decide_eq_true rfl] at HQ
            clear hna4 hnb4
            go_wp2_with fail
            refine HQ.out.mono ?_
            rintro e w10 ⟨rfl, hb⟩
            have HB10 := hide (HE9.out.trans (hb.mono HE9.out.size))
            clear hb HQ
            go_wp2
            go_ret
            exact ⟨rfl, HB10.out⟩
          · have e1 : (nb : Int) - (na : Int) ≤ 1 := by have := HA3.out.1; omega
            have e2 : (na : Int) - (nb : Int) ≤ 1 := by have := HA3.out.2; omega
            have e3 : wrap64 ((nb : Int) - (na : Int)) = (nb : Int) - (na : Int) := IntWalk.wrap64_in _ ⟨by omega, by omega⟩
            have e4 : wrap64 ((na : Int) - (nb : Int)) = (na : Int) - (nb : Int) := IntWalk.wrap64_in _ ⟨by omega, by omega⟩
            clear hna4 hnb4
            go_wp2
            go_ret
            exact ⟨rfl, HE9.out⟩
      · go_wp2_with fail
        refine (S_at HS8.out (i := 0) rfl HF2.out Ht.out mark).mono ?_
        intro e w9 hrow
        obtain ⟨b9, hb9⟩ : ∃ b9, vols (atS t M2 mark) 4 = b9 := ⟨_, rfl⟩
        have Hb9 := hide hb9
        rw [hb9] at hrow HA1 HA2 HA3
        obtain ⟨VB, cb, rfl, hS⟩ := hrow
        have HS9 := hide (show St w2 [grpT p t M2, rowT 3 1 (.slice VA na ca) na (nums a), rowT 3 1 (.slice VB b9.length cb) b9.length (nums b9)] w9 from hS)
        obtain ⟨nb, hnb⟩ : ∃ nb, b9.length = nb := ⟨_, rfl⟩
        have Hnb := hide hnb
        have hnb4 : nb ≤ 4 := by rw [← hnb, ← hb9]; exact vols_len _ 4
        rw [hnb] at HS9 HA3 ⊢
        clear hS hb9 hnb HS8 x0 x1 x2
        obtain ⟨x0, x1, x2⟩ := HC2.out _ (St.weaken (Ts := []) HS9.out)
        have HE9 := hide (HE.out _ (St.weaken (Ts := []) HS9.out))
        have HSW := hide (St.src HS9.out (i := 1) rfl)
        have HSI := hide (St.src HS9.out (i := 2) rfl)
        have hna4 := Hna4.out
        by_cases hA : mark < qm
        · have HQ := hide (same_any (w := w9) a b9 na nb VA VB ca cb Hna.out Hnb.out (by omega) HSW.out HSI.out)
          rw [HA1.out hA, decide_eq_true rfl] at HQ
          clear hna4 hnb4
          go_wp2_with fail
          refine HQ.out.mono ?_
          rintro e w10 ⟨rfl, hb⟩
          have HB10 := hide (HE9.out.trans (hb.mono HE9.out.size))
          clear hb HQ
          go_wp2
          go_ret
          exact ⟨rfl, HB10.out⟩
        · by_cases hB : mark < la
          · have HQ := hide (same_any (w := w9) a b9 na nb VA VB ca cb Hna.out Hnb.out (by omega) HSW.out HSI.out)
            rw [HA2.out hB, decide_eq_true rfl] at HQ
            clear hna4 hnb4
            go_wp2_with fail
            refine HQ.out.mono ?_
            rintro e w10 ⟨rfl, hb⟩
            have HB10 := hide (HE9.out.trans (hb.mono HE9.out.size))
            clear hb HQ
            go_wp2
            go_ret
            exact ⟨rfl, HB10.out⟩
          · have e1 : (nb : Int) - (na : Int) ≤ 1 := by have := HA3.out.1; omega
            have e2 : (na : Int) - (nb : Int) ≤ 1 := by have := HA3.out.2; omega
            have e3 : wrap64 ((nb : Int) - (na : Int)) = (nb : Int) - (na : Int) := IntWalk.wrap64_in _ ⟨by omega, by omega⟩
            have e4 : wrap64 ((na : Int) - (nb : Int)) = (na : Int) - (nb : Int) := IntWalk.wrap64_in _ ⟨by omega, by omega⟩
            clear hna4 hnb4
            go_wp2
            go_ret
            exact ⟨rfl, HE9.out⟩
    · have hk2' : (qk == 2) = false := by simpa using hk2
      have HA1 : Hid (mark < qm → vols (atS t M1 mark) 4 = a) := fun h => by rw [← HM1.out, add1_lt h]; exact Ha.out
      have HA2 : Hid (mark < la → vols (atS t M1 mark) 4 = a) := fun h => by
        have h1 := add1_last (s := t) (L := M) (v := qv) (m := qm) (r := false) (by rw [Hla.out]; exact h)
        rw [← HM1.out, h1.1]
        exact Ha.out
      have HA3 : Hid ((vols (atS t M1 mark) 4).length ≤ na + 1 ∧ na ≤ (vols (atS t M1 mark) 4).length + 1) := by
        rw [← Hna.out, ← Ha.out, ← HM1.out]
        exact add1_len HM.out Ht.out qv qm mark false
      clear hk2
      rcases hr with ⟨_, rfl⟩ | ⟨hx0, b, rfl, _⟩
      · go_wp2_with fail
        refine (S_at HS7.out (i := 0) rfl HF1.out Ht.out mark).mono ?_
        intro e w9 hrow
        obtain ⟨b9, hb9⟩ : ∃ b9, vols (atS t M1 mark) 4 = b9 := ⟨_, rfl⟩
        have Hb9 := hide hb9
        rw [hb9] at hrow HA1 HA2 HA3
        obtain ⟨VB, cb, rfl, hS⟩ := hrow
        have HS9 := hide (show St w2 [grpT p t M1, rowT 3 1 (.slice VA na ca) na (nums a), rowT 3 1 (.slice VB b9.length cb) b9.length (nums b9)] w9 from hS)
        obtain ⟨nb, hnb⟩ : ∃ nb, b9.length = nb := ⟨_, rfl⟩
        have Hnb := hide hnb
        have hnb4 : nb ≤ 4 := by rw [← hnb, ← hb9]; exact vols_len _ 4
        rw [hnb] at HS9 HA3 ⊢
        clear hS hb9 hnb HS7 x0 x1 x2
        obtain ⟨x0, x1, x2⟩ := HC2.out _ (St.weaken (Ts := []) HS9.out)
        have HE9 := hide (HE.out _ (St.weaken (Ts := []) HS9.out))
        have HSW := hide (St.src HS9.out (i := 1) rfl)
        have HSI := hide (St.src HS9.out (i := 2) rfl)
        have hna4 := Hna4.out
        by_cases hA : mark < qm
        · have HQ := hide (same_any (w := w9) a b9 na nb VA VB ca cb Hna.out Hnb.out (by omega) HSW.out HSI.out)
          rw [HA1.out hA, decide_eq_true rfl] at HQ
          clear hna4 hnb4
          go_wp2_with fail
          refine HQ.out.mono ?_
          rintro e w10 ⟨rfl, hb⟩
          have HB10 := hide (HE9.out.trans (hb.mono HE9.out.size))
          clear hb HQ
          go_wp2
          go_ret
          exact ⟨rfl, HB10.out⟩
        · by_cases hB : mark < la
          · have HQ := hide (same_any (w := w9) a b9 na nb VA VB ca cb Hna.out Hnb.out (by omega) HSW.out HSI.out)
            rw [HA2.out hB, decide_eq_true rfl] at HQ
            clear hna4 hnb4
            go_wp2_with fail
            refine HQ.out.mono ?_
            rintro e w10 ⟨rfl, hb⟩
            have HB10 := hide (HE9.out.trans (hb.mono HE9.out.size))
            clear hb HQ
            go_wp2
            go_ret
            exact ⟨rfl, HB10.out⟩
          · have e1 : (nb : Int) - (na : Int) ≤ 1 := by have := HA3.out.1; omega
            have e2 : (na : Int) - (nb : Int) ≤ 1 := by have := HA3.out.2; omega
            have e3 : wrap64 ((nb : Int) - (na : Int)) = (nb : Int) - (na : Int) := IntWalk.wrap64_in _ ⟨by omega, by omega⟩
            have e4 : wrap64 ((na : Int) - (nb : Int)) = (na : Int) - (nb : Int) := IntWalk.wrap64_in _ ⟨by omega, by omega⟩
            clear hna4 hnb4
            go_wp2
            go_ret
            exact ⟨rfl, HE9.out⟩
      · have HA4 : Hid (vols (atS t M1 mark) 4 = a) := by
          rw [← HM1.out, add1_no (by rw [Hx.out]; exact hx0)]
          exact Ha.out
        clear hx0
        go_wp2_with fail
        refine (S_at HS7.out (i := 0) rfl HF1.out Ht.out mark).mono ?_
        intro e w9 hrow
        obtain ⟨b9, hb9⟩ : ∃ b9, vols (atS t M1 mark) 4 = b9 := ⟨_, rfl⟩
        have Hb9 := hide hb9
        rw [hb9] at hrow HA1 HA2 HA3 HA4
        obtain ⟨VB, cb, rfl, hS⟩ := hrow
        have HS9 := hide (show St w2 [grpT p t M1, rowT 3 1 (.slice VA na ca) na (nums a), rowT 3 1 (.slice VB b9.length cb) b9.length (nums b9)] w9 from hS)
        obtain ⟨nb, hnb⟩ : ∃ nb, b9.length = nb := ⟨_, rfl⟩
        have Hnb := hide hnb
        have hnb4 : nb ≤ 4 := by rw [← hnb, ← hb9]; exact vols_len _ 4
        rw [hnb] at HS9 HA3 ⊢
        clear hS hb9 hnb HS7 x0 x1 x2
        obtain ⟨x0, x1, x2⟩ := HC2.out _ (St.weaken (Ts := []) HS9.out)
        have HE9 := hide (HE.out _ (St.weaken (Ts := []) HS9.out))
        have HSW := hide (St.src HS9.out (i := 1) rfl)
        have HSI := hide (St.src HS9.out (i := 2) rfl)
        have hna4 := Hna4.out
        by_cases hA : mark < qm
        · have HQ := hide (same_any (w := w9) a b9 na nb VA VB ca cb Hna.out Hnb.out (by omega) HSW.out HSI.out)
          rw [HA1.out hA, decide_eq_true rfl] at HQ
          clear hna4 hnb4
          go_wp2_with fail
          refine HQ.out.mono ?_
          rintro e w10 ⟨rfl, hb⟩
          have HB10 := hide (HE9.out.trans (hb.mono HE9.out.size))
          clear hb HQ
          go_wp2
          go_ret
          exact ⟨rfl, HB10.out⟩
        · by_cases hB : mark < la
          · have HQ := hide (same_any (w := w9) a b9 na nb VA VB ca cb Hna.out Hnb.out (by omega) HSW.out HSI.out)
            rw [HA2.out hB, decide_eq_true rfl] at HQ
            clear hna4 hnb4
            go_wp2_with fail
            refine HQ.out.mono ?_
            rintro e w10 ⟨rfl, hb⟩
            have HB10 := hide (HE9.out.trans (hb.mono HE9.out.size))
            clear hb HQ
            go_wp2
            go_ret
            exact ⟨rfl, HB10.out⟩
          · have e1 : (nb : Int) - (na : Int) ≤ 1 := by have := HA3.out.1; omega
            have e2 : (na : Int) - (nb : Int) ≤ 1 := by have := HA3.out.2; omega
            have e3 : wrap64 ((nb : Int) - (na : Int)) = (nb : Int) - (na : Int) := IntWalk.wrap64_in _ ⟨by omega, by omega⟩
            have e4 : wrap64 ((na : Int) - (nb : Int)) = (na : Int) - (nb : Int) := IntWalk.wrap64_in _ ⟨by omega, by omega⟩
            have HQ := hide (same_any (w := w9) b9 a nb na VB VA cb ca Hnb.out Hna.out (by omega) HSI.out HSW.out)
            rw [HA4.out, decide_eq_true rfl] at HQ
            clear hna4 hnb4
            go_wp2_with fail
            refine HQ.out.mono ?_
            rintro e w10 ⟨rfl, hb⟩
            have HB10 := hide (HE9.out.trans (hb.mono HE9.out.size))
            clear hb HQ
            go_wp2
            go_ret
            exact ⟨rfl, HB10.out⟩
theorem Stays_any (A0 : Option Addr) (n0 c0 : Nat) (l0 : List Int) (A1 : Option Addr) (n1 c1 : Nat) (l1 : List Oq) (q : Oq) (mark : Int) (w : World) (hl0 : l0.length = n0) (hs0 : Src w A0 (nums l0)) (hl1 : l1.length = n1) (hs1 : Src w A1 (ocels l1)) :
    Calls Try.prog 3 #[.slice A0 n0 c0, .slice A1 n1 c1, .agg #[.int .i64 q.kind, .int .i64 q.v, .int .i64 q.m], .int .i64 mark] w fun e w' => e = .returned (.bool true) ∧ Below w.heap.size w w' := by
  by_cases h : n0 ≤ 20 ∧ n1 ≤ 200
  · exact Stays_law A0 n0 c0 l0 A1 n1 c1 l1 q mark w hl0 hs0 hl1 hs1 h.1 h.2
  · exact Stays_long A0 n0 c0 A1 n1 c1 q mark w (by omega)

end Go.Proofs.Ythoflpjmdhabmaa.Mb
