/-
  isobarlaw13.MarksForget, walked: what is forgotten is gone, and nothing else; forgotten and told again it is there again. Conditions: the arguments are read as numbers, each an int.
-/
import Derived.BigQuiet
import Derived.Deep.RegionWith
import Derived.Test.YtenenhhijkjjfaaMkOp
namespace Go.Proofs.Ytenenhhijkjjfaa.Mk
open Go.RowKit Go.Maps
open Pk Dk Wn Lk

/-- What the Puts of some Ops leave. -/
def told (l : List Oq) : Int → List Int := l.foldl (fun A q => step A q.v q.m) (fun _ => [])
theorem told_snoc (l : List Oq) (k : Nat) (q : Oq) (h : l[k]? = some q) : told (l.take (k + 1)) = step (told (l.take k)) q.v q.m := by
  unfold told
  rw [List.take_add_one, h]
  simp [List.foldl_append]
/-- Puts of one volume. -/
def again (A : Int → List Int) (v : Int) (l : List Int) : Int → List Int := l.foldl (fun A m => step A v m) A
theorem again_snoc (A : Int → List Int) (v : Int) (l : List Int) (k : Nat) (m : Int) (h : l[k]? = some m) : again A v (l.take (k + 1)) = step (again A v (l.take k)) v m := by
  unfold again
  rw [List.take_add_one, h]
  simp [List.foldl_append]
theorem mem_again {v u x : Int} : ∀ (l : List Int) (A : Int → List Int), x ∈ again A v l u ↔ ((0 ≤ v ∧ v < 4) ∧ u = v ∧ 1 ≤ x ∧ x ∈ l) ∨ x ∈ A u
  | [], A => by simp [again]
  | m :: l, A => by
    have e : again A v (m :: l) = again (step A v m) v l := rfl
    rw [e, mem_again l, mem_step]
    constructor
    · rintro (⟨h1, h2, h3, h4⟩ | ⟨⟨h1, h2⟩, h3, h4⟩ | h)
      · exact Or.inl ⟨h1, h2, h3, List.mem_cons_of_mem _ h4⟩
      · exact Or.inl ⟨h1, h3, h4 ▸ h2, by rw [h4]; exact List.mem_cons_self ..⟩
      · exact Or.inr h
    · rintro (⟨h1, h2, h3, h4⟩ | h)
      · rcases List.mem_cons.1 h4 with rfl | h4
        · exact Or.inr (Or.inl ⟨⟨h1, h3⟩, h2, rfl⟩)
        · exact Or.inl ⟨h1, h2, h3, h4⟩
      · exact Or.inr (Or.inr h)
theorem again_eq {A : Int → List Int} {v t : Int} (hA : Good A) (hB : Good (again (drop A v t) v (A v))) : again (drop A v t) v (A v) v = A v := (hB.asc v).ext (hA.asc v) fun x => by
  rw [mem_again, mem_drop]
  constructor
  · rintro (⟨_, _, _, h⟩ | ⟨h, _⟩)
    · exact h
    · exact h
  · intro h
    exact Or.inl ⟨hA.vol v x h, rfl, (hA.low v x h).1, h⟩
theorem told_len (l : List Oq) (v : Int) : (told l v).length ≤ l.length := by
  have : ∀ (l : List Oq) (A : Int → List Int), ((l.foldl (fun A q => step A q.v q.m) A) v).length ≤ (A v).length + l.length := by
    intro l
    induction l with
    | nil => intro A; simp
    | cons q l ih =>
      intro A
      have h1 := ih (step A q.v q.m)
      have h2 : (step A q.v q.m v).length ≤ (A v).length + 1 := by
        unfold step
        by_cases h : (0 ≤ q.v ∧ q.v < 4) ∧ 1 ≤ q.m
        · rw [if_pos h]
          unfold put
          by_cases e : v = q.v
          · rw [if_pos e, ← e]; exact ins_length
          · rw [if_neg e]; omega
        · rw [if_neg h]; omega
      simp only [List.foldl_cons, List.length_cons]
      omega
  have := this l (fun _ => [])
  simpa [told] using this
/-- Those above a number. -/
def above (t : Int) (l : List Int) : List Int := l.filter (fun m => decide (t < m))
theorem above_snoc (t : Int) (l : List Int) (k : Nat) (x : Int) (h : l[k]? = some x) : above t (l.take (k + 1)) = if t < x then above t (l.take k) ++ [x] else above t (l.take k) := by
  unfold above
  rw [List.take_add_one, h, List.filter_append]
  by_cases e : t < x <;> simp [e]
theorem few_of {n : Nat} (h : ¬ (200 : Int) < (n : Int)) : n ≤ 200 := by omega

set_option maxRecDepth 100000 in
/-- More than is looked at. -/
theorem MarksForget_long (A0 : Option Addr) (n c : Nat) (v t : Int) (w : World) (hn : 200 < n) :
    Calls Try.prog 6 #[.slice A0 n c, .int .i64 v, .int .i64 t] w fun e w' => e = .returned (.bool true) ∧ Below w.heap.size w w' := by
  have hni : (200 : Int) < (n : Int) := by omega
  go_enter Try.func6, Try.ntmps6
  go_wp2_with fail
  refine (awake_any w).mono ?_
  rintro e w1 ⟨rfl, hb1⟩
  have HB1 := hide hb1
  clear hb1
  go_wp2_with fail
  refine (awake_any w1).mono ?_
  rintro e w2 ⟨rfl, hb2⟩
  have HB2 := hide (HB1.out.trans (hb2.mono HB1.out.size))
  clear hb2
  go_wp2
  go_ret
  exact ⟨rfl, HB2.out⟩
set_option maxRecDepth 100000 in
set_option maxHeartbeats 4000000 in
theorem MarksForget_law (A0 : Option Addr) (n c : Nat) (l : List Oq) (v t : Int) (w : World) (hl : l.length = n) (hn : n ≤ 200) (hf : OFits l) (hs : Src w A0 (ocels l)) (hv : I64 v) :
    Calls Try.prog 6 #[.slice A0 n c, .int .i64 v, .int .i64 t] w fun e w' => e = .returned (.bool true) ∧ Below w.heap.size w w' := by
  have hni : ¬ (200 : Int) < (n : Int) := by omega
  have Hl := hide hl
  have Hf := hide hf
  have Hs := hide hs
  have Hv := hide hv
  have Hn := hide hn
  clear hl hf hs hv hn
  go_enter Try.func6, Try.ntmps6
  go_wp2_with fail
  refine (awake_any w).mono ?_
  rintro e w1 ⟨rfl, hb1⟩
  have HS1 := hide (St.tbl_new ((St.start w).below hb1))
  clear hb1
  generalize hp : w1.heap.size = p at *
  have Hp := hide hp
  go_wp2_with fail
  go_loopw [8, 26] (fun _ j wr => ∃ k : Nat, k ≤ n ∧ j = .int .i64 (k : Int) ∧ Hid (St w [tblT p (told (l.take k)) (2 * k)] wr)) (fun _ j _ => n - (RowKit.intOf j).toNat)
  case atStart => exact ⟨0, Nat.zero_le _, rfl, HS1.out⟩
  case round =>
    obtain ⟨k, hk, rfl, hS⟩ := hrel
    rcases Nat.lt_or_ge k n with hlt | hge
    · have Hlt := hide hlt
      have hki : (k : Int) < (n : Int) := by omega
      obtain ⟨q, hq⟩ : ∃ q, l[k]? = some q := ⟨_, List.getElem?_eq_getElem (by rw [Hl.out]; exact hlt)⟩
      obtain ⟨g, o, rfl, _, hat⟩ := Src.op (Hs.out.below hS.out.bel) hq
      have HT := hide (told_snoc l k q hq)
      have hn200 := Hn.out
      have HP := hide (S_put (v := q.v) hS.out.drew (i := 0) rfl (Hf.out q (List.mem_of_getElem? hq)).2.2 (by omega))
      have c1 := hat.v
      have c2 := hat.m
      obtain ⟨qv, hqv⟩ : ∃ x, q.v = x := ⟨_, rfl⟩
      obtain ⟨qm, hqm⟩ : ∃ x, q.m = x := ⟨_, rfl⟩
      rw [hqv, hqm] at HT HP
      rw [hqv] at c1
      rw [hqm] at c2
      clear hlt hk hq hat hS hqv hqm hn200
      go_wp2
      go_region_with (go_at_call 8; refine HP.out.mono ?_; rintro e w2 ⟨⟨x, rfl⟩, hS⟩; have HS2 := hide hS; clear hS)
      all_goals
        have HS3 := hide (show St w [tblT p (told (l.take (k + 1))) (2 * (k + 1))] w2 by rw [HT.out]; exact HS2.out)
        clear HS2 HP HT c1 c2
        go_wp2
        go_roundw
        case rel => exact ⟨k + 1, Hlt.out, by go_num, HS3.out⟩
        case measure => have := Hlt.out; simp [RowKit.intOf]; omega
    · obtain rfl : k = n := by omega
      have HS2 := hS
      rw [List.take_of_length_le (by rw [Hl.out]; exact Nat.le_refl _)] at HS2
      have Hnb := hide (show 2 * k ≤ 400 by have := Hn.out; omega)
      generalize 2 * k = nb at HS2 Hnb
      clear hge hk hS HS1
      have HG := hide (S_good HS2.out (i := 0) rfl)
      have HO := hide (S_of HS2.out (i := 0) rfl (by have := Hnb.out; omega) Hv.out)
      have HTl := hide (told_len l)
      generalize told l = A at *
      clear HS2
      go_wp2_with fail
      refine HO.out.mono ?_
      rintro e w2 ⟨WA, wc, rfl, hS⟩
      have HS3 := hide (St.add hS (Below.refl _ _) (T := rowT 3 1 (.slice none 0 0) 0 (nums [])) (G := fun _ => False) (Row.nil _ _ _) (fun _ h => h.elim))
      obtain ⟨N, hN⟩ : ∃ N, (A v).length = N := ⟨_, rfl⟩
      rw [hN] at HS3 ⊢
      have HN := hide hN
      clear hS HO hN
      have HNl := hide (show N ≤ 400 by
        have := HTl.out v
        rw [HN.out] at this
        have := Hl.out
        have := Hn.out
        omega)
      have hNi : (N : Int) ≤ 400 := by have := HNl.out; omega
      go_wp2
      go_loopw [9, 11, 47] (fun wv _ j wr => ∃ (k : Nat) (VA : Option Addr) (vc : Nat), k ≤ N ∧ j = .int .i64 (k : Int) ∧ wv = .slice VA (above t ((A v).take k)).length vc ∧ Hid (St w [tblT p A nb, rowT 3 1 (.slice WA N wc) N (nums (A v)), rowT 3 1 (.slice VA (above t ((A v).take k)).length vc) (above t ((A v).take k)).length (nums (above t ((A v).take k)))] wr)) (fun _ _ j _ => N - (RowKit.intOf j).toNat)
      case atStart => exact ⟨0, none, 0, Nat.zero_le _, rfl, rfl, HS3.out⟩
      case round =>
        obtain ⟨k, VA, vc, hk, rfl, rfl, hS⟩ := hrel
        rcases Nat.lt_or_ge k N with hlt | hge
        · have Hlt := hide hlt
          have hki : (k : Int) < (N : Int) := by omega
          obtain ⟨x, hx⟩ : ∃ x, (A v)[k]? = some x := ⟨_, List.getElem?_eq_getElem (by rw [HN.out]; exact hlt)⟩
          obtain ⟨g, o, rfl, _, c0⟩ := Src.num (St.src hS.out (i := 1) rfl) hx
          have HT := hide (above_snoc t (A v) k x hx)
          obtain ⟨q, hq⟩ : ∃ q, (above t ((A v).take k)).length = q := ⟨_, rfl⟩
          have hq1 : q ≤ k := by
            have := List.length_filter_le (fun m => decide (t < m)) ((A v).take k)
            rw [List.length_take] at this
            unfold above at hq
            omega
          rw [hq] at hS ⊢
          by_cases hx2 : t < x
          · rw [if_pos hx2] at HT
            have hb5 : Below wr.heap.size wr (wr.alloc (.cells #[.int .i64 x] 3)) := (Below.refl _ _).alloc (Nat.le_refl _) _
            have HO := hide (St.orow (hS.out.below hb5) (i := 2) rfl)
            have HM : Hid (Src (wr.alloc (.cells #[.int .i64 x] 3)) (some ⟨wr.heap.size, 0, none⟩) (nums [x])) := (Made.row (Below.refl _ wr) #[.int .i64 x] 3).src
            have HA := hide (fun (W2 : World) (v2 : Value) (hg : Grown (wr.alloc (.cells #[.int .i64 x] 3)) 3 1 (.slice VA q vc) (q + 1) (nums (above t ((A v).take k)) ++ nums [x]) v2 W2) => (⟨St.app hS.out (i := 2) rfl hb5 hg, hg.row.form⟩ : St w _ W2 ∧ _))
            have Hm1 := hide (show q + 1 ≤ maxLen by have := HNl.out; unfold maxLen; omega)
            have Hm2 := hide (show (q + 1) * 8 ≤ 140737488355328 by have := HNl.out; omega)
            have Hq := hide hq
            clear hb5 hlt hx hq hk hS hq1
            go_wp2_with (at_builtin; go_must (refine wpList_app app_int rfl (.tmp 56) (.tmp 61) rfl (.slice VA q vc) q (nums (above t ((A v).take k))) rfl HO.out _ 1 1 (nums [x]) rfl rfl HM.out (fun u hu => by simp [nums] at hu; subst hu; rfl) (by decide) Hm1.out Hm2.out ?_))
            intro v2 W2 hg
            obtain ⟨hS2, VB, vd, rfl, _, _, _⟩ := HA.out _ _ hg.out
            have HS4 := hide hS2
            clear hS2 hg HA HO HM
            go_wp2
            go_roundw
            case rel =>
              refine ⟨k + 1, VB, vd, Hlt.out, by go_num, ?_, ?_⟩
              · rw [HT.out]; simp [Hq.out]
              · have := HS4.out
                rw [HT.out]
                simpa [Hid, nums, Hq.out] using this
            case measure => have := Hlt.out; simp [RowKit.intOf]; omega
          · rw [if_neg hx2] at HT
            have Hq := hide hq
            have HS4 := hide hS.out
            clear hlt hx hq hk hS hq1
            go_wp2
            go_roundw
            case rel =>
              refine ⟨k + 1, VA, vc, Hlt.out, by go_num, ?_, ?_⟩
              · rw [HT.out]; simp [Hq.out]
              · have := HS4.out
                rw [HT.out]
                simpa [Hid, Hq.out] using this
            case measure => have := Hlt.out; simp [RowKit.intOf]; omega
        · obtain rfl : k = N := by omega
          rw [List.take_of_length_le (by rw [HN.out]; exact Nat.le_refl _)] at hS ⊢
          have hW : above t (A v) = drop A v t v := by simp [drop, above]
          rw [hW] at hS ⊢
          have HS4 := hide hS.out
          clear hge hk hS HS3 hW hNi
          generalize hu : wrap64 (v + 1) = u at *
          have Huf := hide (show I64 u by rw [← hu]; exact i64_of (wrap64_wf _))
          have Hne := hide (show u ≠ v by
            have := Hv.out
            unfold I64 at this
            rw [← hu]
            unfold wrap64
            omega)
          have Hu := hide hu
          clear hu
          have HO2 := hide (S_of HS4.out (i := 0) rfl (by have := Hnb.out; omega) Huf.out)
          have hu2 := Hu.out
          go_wp2_with fail
          refine HO2.out.mono ?_
          rintro e w3 ⟨UA, uc, rfl, hS⟩
          have HF := hide (S_forget hS (i := 0) rfl Hv.out t)
          clear hS HO2 HS4
          go_wp2_with fail
          refine HF.out.mono ?_
          rintro e w4 ⟨rfl, hS⟩
          have HS5 := hide (show St w [tblT p (drop A v t) nb, rowT 3 1 (.slice WA k wc) k (nums (A v)), rowT 3 1 (.slice VA (drop A v t v).length vc) (drop A v t v).length (nums (drop A v t v)), rowT 3 1 (.slice UA (A u).length uc) (A u).length (nums (A u))] w4 from hS)
          have HO3 := hide (S_of HS5.out (i := 0) rfl (by have := Hnb.out; omega) Hv.out)
          clear hS HF
          go_wp2_with fail
          refine HO3.out.mono ?_
          rintro e w5 ⟨OA, oc, rfl, hS⟩
          have HD := hide (S_good HS5.out (i := 0) rfl)
          have hdl : (drop A v t v).length ≤ 400 := by
            have := List.length_filter_le (fun m => decide (t < m)) (A v)
            have h2 := HNl.out
            have h3 := HN.out
            simp only [drop, if_true]
            omega
          have HM := hide (same_any w5 (drop A v t v) _ OA VA oc vc rfl (by omega) (St.src hS (i := 4) rfl) (St.src hS (i := 2) rfl))
          have HS6 := hide (show St w [tblT p (drop A v t) nb, rowT 3 1 (.slice WA k wc) k (nums (A v)), rowT 3 1 (.slice VA (drop A v t v).length vc) (drop A v t v).length (nums (drop A v t v)), rowT 3 1 (.slice UA (A u).length uc) (A u).length (nums (A u))] w5 from St.weaken hS)
          clear hS HO3 HS5 hdl
          go_wp2_with fail
          refine HM.out.mono ?_
          rintro e w6 ⟨rfl, hb6⟩
          have HS7 := hide (HS6.out.below hb6)
          have HO4 := hide (S_of HS7.out (i := 0) rfl (by have := Hnb.out; omega) Huf.out)
          have he : drop A v t u = A u := by simp [drop, Hne.out]
          rw [he] at HO4
          clear hb6 HM HS6 he
          go_wp2_with fail
          refine HO4.out.mono ?_
          rintro e w7 ⟨NA, nc, rfl, hS⟩
          have hul : (A u).length ≤ 400 := by
            have := HTl.out u
            have := Hl.out
            have := Hn.out
            omega
          have HM := hide (same_any w7 (A u) _ NA UA nc uc rfl (by omega) (St.src hS (i := 4) rfl) (St.src hS (i := 3) rfl))
          have HS8 := hide (show St w [tblT p (drop A v t) nb, rowT 3 1 (.slice WA k wc) k (nums (A v))] w7 from St.weaken (Us := [_, _, _]) hS)
          clear hS HO4 HS7 hul
          go_wp2_with fail
          refine HM.out.mono ?_
          rintro e w8 ⟨rfl, hb8⟩
          have HS9 := hide (HS8.out.below hb8)
          have hNi : (k : Int) ≤ 400 := by have := HNl.out; omega
          clear hb8 HM HS8
          go_wp2
          go_loopw [13, 89] (fun _ j wr => ∃ q : Nat, q ≤ k ∧ j = .int .i64 (q : Int) ∧ Hid (St w [tblT p (again (drop A v t) v ((A v).take q)) (nb + 2 * q), rowT 3 1 (.slice WA k wc) k (nums (A v))] wr)) (fun _ j _ => k - (RowKit.intOf j).toNat)
          case atStart => exact ⟨0, Nat.zero_le _, rfl, HS9.out⟩
          case round =>
            obtain ⟨q, hq, rfl, hS⟩ := hrel
            rcases Nat.lt_or_ge q k with hlt | hge
            · have Hlt := hide hlt
              have hki : (q : Int) < (k : Int) := by omega
              obtain ⟨x, hx⟩ : ∃ x, (A v)[q]? = some x := ⟨_, List.getElem?_eq_getElem (by rw [HN.out]; exact hlt)⟩
              obtain ⟨g, o, rfl, _, c0⟩ := Src.num (St.src hS.out (i := 1) rfl) hx
              have HT := hide (again_snoc (drop A v t) v (A v) q x hx)
              have hN4 := HNl.out
              have hnb := Hnb.out
              have HP := hide (S_put (v := v) hS.out (i := 0) rfl (m := x) (by
                have := HG.out.low v x (List.mem_of_getElem? hx)
                unfold I64
                omega) (by omega))
              clear hlt hq hx hS hN4 hnb
              go_wp2_with fail
              refine HP.out.mono ?_
              rintro e w9 ⟨⟨y, rfl⟩, hS⟩
              have HS10 := hide (show St w [tblT p (again (drop A v t) v ((A v).take (q + 1))) (nb + 2 * (q + 1)), rowT 3 1 (.slice (some ⟨g, o, none⟩) k wc) k (nums (A v))] w9 by rw [HT.out]; exact hS)
              clear hS HP HT c0
              go_wp2
              go_roundw
              case rel => exact ⟨q + 1, Hlt.out, by go_num, HS10.out⟩
              case measure => have := Hlt.out; simp [RowKit.intOf]; omega
            · obtain rfl : q = k := by omega
              rw [List.take_of_length_le (by rw [HN.out]; exact Nat.le_refl _)] at hS
              have HS10 := hide hS.out
              have HO5 := hide (S_of HS10.out (i := 0) rfl (by have := HNl.out; have := Hnb.out; omega) Hv.out)
              have he := again_eq (t := t) HG.out (S_good HS10.out (i := 0) rfl)
              rw [he] at HO5
              clear hge hq hS HS9 hNi he
              go_wp2_with fail
              refine HO5.out.mono ?_
              rintro e wa ⟨ZA, zc, rfl, hS⟩
              rw [HN.out] at hS ⊢
              have HM := hide (same_any wa (A v) q ZA WA zc wc HN.out (by have := HNl.out; omega) (St.src hS (i := 2) rfl) (St.src hS (i := 1) rfl))
              have HB := hide hS.bel
              clear hS HO5 HS10
              go_wp2_with fail
              refine HM.out.mono ?_
              rintro e wb ⟨rfl, hbb⟩
              have HE := hide (HB.out.trans (hbb.mono HB.out.size))
              clear hbb HM HB
              go_wp2
              go_ret
              exact ⟨rfl, HE.out⟩
theorem MarksForget_any (A0 : Option Addr) (n c : Nat) (l : List Oq) (v t : Int) (w : World) (hl : l.length = n) (hf : OFits l) (hs : Src w A0 (ocels l)) (hv : I64 v) :
    Calls Try.prog 6 #[.slice A0 n c, .int .i64 v, .int .i64 t] w fun e w' => e = .returned (.bool true) ∧ Below w.heap.size w w' := by
  rcases Nat.lt_or_ge 200 n with h | h
  · exact MarksForget_long A0 n c v t w h
  · exact MarksForget_law A0 n c l v t w hl h hf hs hv

end Go.Proofs.Ytenenhhijkjjfaa.Mk
