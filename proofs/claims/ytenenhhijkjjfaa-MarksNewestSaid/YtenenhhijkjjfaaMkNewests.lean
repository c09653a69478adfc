/-
  isobarlaw13.MarksNewest, walked: the newest marker is one that none of the volumes lacks, and none is greater; with more volumes it is not greater, and by a Put it never becomes less. Conditions: the arguments are read as numbers, each an int.
-/
import Derived.Test.YtenenhhijkjjfaaMkForgets
namespace Go.Proofs.Ytenenhhijkjjfaa.Mk
open Go.RowKit Go.Maps
open Pk Dk Wn Lk

theorem New.more {A : Int → List Int} {vs : List Int} {v r s : Int} (h : New A vs r) (h2 : New A (vs ++ [v]) s) (hne : vs ≠ []) : s ≤ r := by
  rcases h2.hit with h1 | ⟨_, h1⟩
  · have := h.low
    omega
  · exact h.top hne s fun u hu => h1 u (List.mem_append_left _ hu)
theorem New.grows {A : Int → List Int} {vs : List Int} {v m r s : Int} (h : New A vs r) (h2 : New (step A v m) vs s) : r ≤ s := by
  rcases h.hit with h1 | ⟨hne, h1⟩
  · have := h2.low
    omega
  · exact h2.top hne r fun u hu => mem_step.2 (Or.inr (h1 u hu))
theorem New.i64 {A : Int → List Int} {vs : List Int} {r : Int} (h : New A vs r) (hg : Good A) : I64 r := by
  rcases h.hit with h1 | ⟨hne, h1⟩
  · unfold I64
    omega
  · obtain ⟨x, hx⟩ := List.exists_mem_of_ne_nil _ hne
    exact I64.mark (hg.low x r (h1 x hx))
/-- A greater one is lacked by some. -/
theorem New.lacks {A : Int → List Int} {vs : List Int} {r x : Int} (h : New A vs r) (hne : vs ≠ []) (hx : r < x) : (lack A x vs).length ≠ 0 := fun h0 => by
  have := h.top hne x (lack_nil.1 (List.eq_nil_of_length_eq_zero h0))
  omega

/-- An append that is guarded. -/
theorem wpList_app_if {P : Program} {t e : TypeId} {size bytes : Nat} {w : World} {ops : Array Oper} {rest : List Oper} {o : Oper} {a : Act} {Q : Exit → Act → World → Prop} (hA : AppTy P t e size bytes) (hw : Region.wanted o (yielded ops a.tmps) = true) (s x : Operand)
    (ho : o.op = .call { callee := .builtin .append, args := #[s, x], argTypes := #[t, t] })
    (v : Value) (n : Nat) (xs : List Value) (hs : a.eval s = v) (hown : ORow w e size v n xs)
    (A : Option Addr) (m c : Nat) (news : List Value) (hx : a.eval x = .slice A m c) (hl : news.length = m * size) (hsrc : Src w A news) (h1 : ∀ u ∈ news, u.oneCell' = true) (h0 : 0 < size)
    (h63 : n + m ≤ maxLen) (hbytes : (n + m) * bytes ≤ 140737488355328)
    (h : ∀ v' w', Hid (Grown w e size v (n + m) (xs ++ news) v' w') → wpList P ops Q rest (a.put o.dst v') w') : wpList P ops Q (o :: rest) a w :=
  wpList_step fun K hK => by
    rw [if_pos hw]
    exact wp_app hA s x ho v n xs hs hown A m c news hx hl hsrc h1 h0 h63 hbytes fun v' w' hg => hK _ _ (h v' w' hg)
theorem St.nothing {w0 w : World} {Ts : List Thg} (h : St w0 Ts w) : St w0 (Ts ++ [rowT 3 1 (.slice (some ⟨w.heap.size, 0, none⟩) 0 0) 0 (nums [])]) (w.alloc (.cells #[] 3)) :=
  h.add ((Below.refl _ _).alloc (Nat.le_refl _) _) (T := rowT 3 1 (.slice (some ⟨w.heap.size, 0, none⟩) 0 0) 0 (nums [])) (G := (· = w.heap.size)) ⟨ORow.made (cs := #[]) (heap_alloc_new w _) rfl (Nat.zero_le _), fun k hk => by simp [Value.ownBlock] at hk; exact hk.symm, fun k hk => by rw [hk]; simp⟩ fun k hk => by rw [hk]; exact Nat.le_refl _

set_option maxRecDepth 100000 in
/-- More than is looked at. -/
theorem MarksNewest_long (A0 : Option Addr) (n c : Nat) (A1 : Option Addr) (n1 c1 : Nat) (v m : Int) (w : World) (hn : 200 < n) :
    Calls Try.prog 3 #[.slice A0 n c, .slice A1 n1 c1, .int .i64 v, .int .i64 m] w fun e w' => e = .returned (.bool true) ∧ Below w.heap.size w w' := by
  have hni : (200 : Int) < (n : Int) := by omega
  go_enter Try.func3, Try.ntmps3
  go_wp2_with fail
  refine (awake_any w).mono ?_
  rintro e w1 ⟨rfl, hb1⟩
  have HB1 := hide hb1
  clear hb1
  go_wp2_with fail
  refine (awake_any w1).mono ?_
  rintro e w2 ⟨rfl, hb2⟩
  have HB2 := hide (HB1.out.trans (hb2.mono HB1.out.size))
  clear hb2
  go_wp2
  go_ret
  exact ⟨rfl, HB2.out⟩
set_option maxRecDepth 100000 in
/-- More than is looked at. -/
theorem MarksNewest2_long (A0 : Option Addr) (n c : Nat) (A1 : Option Addr) (n1 c1 : Nat) (v m : Int) (w : World) (hn : n ≤ 200) (hn1 : 20 < n1) :
    Calls Try.prog 3 #[.slice A0 n c, .slice A1 n1 c1, .int .i64 v, .int .i64 m] w fun e w' => e = .returned (.bool true) ∧ Below w.heap.size w w' := by
  have hni : ¬ (200 : Int) < (n : Int) := by omega
  have hni1 : (20 : Int) < (n1 : Int) := by omega
  go_enter Try.func3, Try.ntmps3
  go_wp2_with fail
  refine (awake_any w).mono ?_
  rintro e w1 ⟨rfl, hb1⟩
  have HB1 := hide hb1
  clear hb1
  go_wp2_with fail
  refine (awake_any w1).mono ?_
  rintro e w2 ⟨rfl, hb2⟩
  have HB2 := hide (HB1.out.trans (hb2.mono HB1.out.size))
  clear hb2
  go_wp2
  go_ret
  exact ⟨rfl, HB2.out⟩
set_option maxRecDepth 100000 in
set_option maxHeartbeats 4000000 in
theorem MarksNewest_law (A0 : Option Addr) (n c : Nat) (l : List Oq) (A1 : Option Addr) (n1 c1 : Nat) (vs : List Int) (v m : Int) (w : World) (hl : l.length = n) (hn : n ≤ 200) (hf : OFits l) (hs : Src w A0 (ocels l)) (hl1 : vs.length = n1) (hn1 : n1 ≤ 20) (hf1 : Fits vs) (hs1 : Src w A1 (nums vs)) (hv : I64 v) (hm : I64 m) :
    Calls Try.prog 3 #[.slice A0 n c, .slice A1 n1 c1, .int .i64 v, .int .i64 m] w fun e w' => e = .returned (.bool true) ∧ Below w.heap.size w w' := by
  have hni : ¬ (200 : Int) < (n : Int) := by omega
  have hni1 : ¬ (20 : Int) < (n1 : Int) := by omega
  have Hl := hide hl
  have Hf := hide hf
  have Hs := hide hs
  have Hn := hide hn
  have Hl1 := hide hl1
  have Hf1 := hide hf1
  have Hs1 := hide hs1
  have Hn1 := hide hn1
  have Hv := hide hv
  have Hm := hide hm
  clear hl hf hs hn hl1 hf1 hs1 hn1 hv hm
  go_enter Try.func3, Try.ntmps3
  go_wp2_with fail
  refine (awake_any w).mono ?_
  rintro e w1 ⟨rfl, hb1⟩
  have HS1 := hide (St.tbl_new ((St.start w).below hb1))
  clear hb1
  generalize hp : w1.heap.size = p at *
  have Hp := hide hp
  go_wp2_with fail
  go_loopw [10, 32] (fun _ j wr => ∃ k : Nat, k ≤ n ∧ j = .int .i64 (k : Int) ∧ Hid (St w [tblT p (told (l.take k)) (2 * k)] wr)) (fun _ j _ => n - (RowKit.intOf j).toNat)
  case atStart => exact ⟨0, Nat.zero_le _, rfl, HS1.out⟩
  case round =>
    obtain ⟨k, hk, rfl, hS⟩ := hrel
    rcases Nat.lt_or_ge k n with hlt | hge
    · have Hlt := hide hlt
      have hki : (k : Int) < (n : Int) := by omega
      obtain ⟨q, hq⟩ : ∃ q, l[k]? = some q := ⟨_, List.getElem?_eq_getElem (by rw [Hl.out]; exact hlt)⟩
      obtain ⟨g, o, rfl, _, hat⟩ := Src.op (Hs.out.below hS.out.bel) hq
      have HT := hide (told_snoc l k q hq)
      have hn200 := Hn.out
      have HP := hide (S_put (v := q.v) hS.out.drew (i := 0) rfl (Hf.out q (List.mem_of_getElem? hq)).2.2 (by omega))
      have c1 := hat.v
      have c2 := hat.m
      obtain ⟨qv, hqv⟩ : ∃ x, q.v = x := ⟨_, rfl⟩
      obtain ⟨qm, hqm⟩ : ∃ x, q.m = x := ⟨_, rfl⟩
      rw [hqv, hqm] at HT HP
      rw [hqv] at c1
      rw [hqm] at c2
      clear hlt hk hq hat hS hqv hqm hn200
      go_wp2
      go_region_with (go_at_call 8; refine HP.out.mono ?_; rintro e w2 ⟨⟨x, rfl⟩, hS⟩; have HS2 := hide hS; clear hS)
      all_goals
        have HS3 := hide (show St w [tblT p (told (l.take (k + 1))) (2 * (k + 1))] w2 by rw [HT.out]; exact HS2.out)
        clear HS2 HP HT c1 c2
        go_wp2
        go_roundw
        case rel => exact ⟨k + 1, Hlt.out, by go_num, HS3.out⟩
        case measure => have := Hlt.out; simp [RowKit.intOf]; omega
    · obtain rfl : k = n := by omega
      have HS2 := hS
      rw [List.take_of_length_le (by rw [Hl.out]; exact Nat.le_refl _)] at HS2
      have Hnb := hide (show 2 * k ≤ 400 by have := Hn.out; omega)
      generalize 2 * k = nb at HS2 Hnb
      clear hge hk hS HS1
      have HG := hide (S_good HS2.out (i := 0) rfl)
      have HN := hide (S_newest HS2.out (i := 0) rfl A1 n1 c1 vs Hl1.out (by have := Hn1.out; omega) (Hs1.out.below HS2.out.bel) Hf1.out)
      have HTl := hide (told_len l)
      generalize told l = A at *
      clear HS2
      go_wp2_with fail
      refine HN.out.mono ?_
      rintro e w2 ⟨⟨r, rfl, hr⟩, hS⟩
      have HR := hide hr
      have HS3 := hide hS
      clear hS HN hr
      by_cases hr0 : 0 < r
      case' pos =>
        have HL := hide (S_lacks HS3.out (i := 0) rfl (HR.out.i64 HG.out) A1 n1 c1 vs Hl1.out (by have := Hn1.out; omega) (Hs1.out.below HS3.out.bel) Hf1.out)
        have he : lack A r vs = [] := by
          rcases HR.out.hit with h | ⟨_, h⟩
          · omega
          · exact lack_nil.2 h
        rw [he] at HL
        clear he
        go_wp2_with fail
        refine HL.out.mono ?_
        rintro e w3 ⟨LA, lc, rfl, hS⟩
        have HS4 := hide (show St w [tblT p A nb] w3 from St.weaken hS)
        clear hS HL HS3
        go_wp2
      case' neg =>
        have hr1 : ¬ r > 0 := by omega
        have HS4 := HS3
        clear HS3
        go_wp2
      all_goals
        go_loopw [63] (fun j wr => ∃ k : Nat, k ≤ n1 ∧ j = .int .i64 (k : Int) ∧ Hid (St w [tblT p A nb] wr)) (fun j _ => n1 - (RowKit.intOf j).toNat)
        case atStart => exact ⟨0, Nat.zero_le _, rfl, HS4.out⟩
        case round =>
          obtain ⟨k, hk, rfl, hS⟩ := hrel
          rcases Nat.lt_or_ge k n1 with hlt | hge
          · have Hlt := hide hlt
            have hki : (k : Int) < (n1 : Int) := by omega
            obtain ⟨y, hy⟩ : ∃ y, vs[k]? = some y := ⟨_, List.getElem?_eq_getElem (by rw [Hl1.out]; exact hlt)⟩
            have Hy := hide hy
            have Hne := hide (show vs ≠ [] from List.ne_nil_of_mem (List.mem_of_getElem? hy))
            obtain ⟨g, o, rfl, hgl, c0⟩ := Src.num (Hs1.out.below hS.out.bel) hy
            have HO := hide (S_of hS.out (i := 0) rfl (by have := Hnb.out; omega) (Hf1.out y (List.mem_of_getElem? hy)))
            clear hlt hy hk hgl hS
            go_wp2_with fail
            refine HO.out.mono ?_
            rintro e w5 ⟨YA, yc, rfl, hS⟩
            obtain ⟨N, hN⟩ : ∃ N, (A y).length = N := ⟨_, rfl⟩
            rw [hN] at hS ⊢
            have HN := hide hN
            have HS5 := hide hS
            have hNi : (N : Int) ≤ 400 := by
              have := HTl.out y
              rw [hN] at this
              have := Hl.out
              have := Hn.out
              omega
            clear hS HO hN c0
            go_wp2
            go_loopw [74] (fun j wr => ∃ q : Nat, q ≤ N ∧ j = .int .i64 (q : Int) ∧ Hid (St w [tblT p A nb, rowT 3 1 (.slice YA N yc) N (nums (A y))] wr)) (fun j _ => N - (RowKit.intOf j).toNat)
            case atStart => exact ⟨0, Nat.zero_le _, rfl, HS5.out⟩
            case round =>
              obtain ⟨q, hq, rfl, hS⟩ := hrel
              rcases Nat.lt_or_ge q N with hlt | hge
              · have Hlq := hide hlt
                have hqi : (q : Int) < (N : Int) := by omega
                obtain ⟨x, hx⟩ : ∃ x, (A y)[q]? = some x := ⟨_, List.getElem?_eq_getElem (by rw [HN.out]; exact hlt)⟩
                obtain ⟨gg, oo, rfl, _, d1⟩ := Src.num (St.src hS.out (i := 1) rfl) hx
                by_cases hx2 : r < x
                · have HL := hide (S_lacks hS.out (i := 0) rfl (I64.mark (HG.out.low y x (List.mem_of_getElem? hx))) (some ⟨g, o, none⟩) n1 c1 vs Hl1.out (by have := Hn1.out; omega) (Hs1.out.below hS.out.bel) Hf1.out)
                  obtain ⟨z, hz⟩ : ∃ z, (lack A x vs).length = z := ⟨_, rfl⟩
                  have hz0 : z ≠ 0 := by rw [← hz]; exact HR.out.lacks Hne.out hx2
                  have hzi : ¬ (z : Int) = 0 := by omega
                  have hzb : ((z : Int) == 0) = false := by simpa using hzi
                  have Hz := hide hz
                  clear hlt hx hq hS hz hz0
                  go_wp2_with fail
                  refine HL.out.mono ?_
                  rintro e w6 ⟨LA, lc, rfl, hS⟩
                  rw [Hz.out] at hS ⊢
                  have HS6 := hide (show St w [tblT p A nb, rowT 3 1 (.slice (some ⟨gg, oo, none⟩) N yc) N (nums (A y))] w6 from St.weaken (Us := [_]) hS)
                  clear hS HL d1
                  go_wp2
                  go_roundw
                  case rel => exact ⟨q + 1, Hlq.out, by go_num, HS6.out⟩
                  case measure => have := Hlq.out; simp [RowKit.intOf]; omega
                · have hx3 : ¬ x > r := by omega
                  have HS6 := hide hS.out
                  clear hlt hx hq hS
                  go_wp2
                  go_roundw
                  case rel => exact ⟨q + 1, Hlq.out, by go_num, HS6.out⟩
                  case measure => have := Hlq.out; simp [RowKit.intOf]; omega
              · obtain rfl : q = N := by omega
                have HS6 := hide (show St w [tblT p A nb] wr from St.weaken (Us := [_]) hS.out)
                clear hge hq hS HS5 hNi
                go_wp2
                go_roundw
                case rel => exact ⟨k + 1, Hlt.out, by go_num, HS6.out⟩
                case measure => have := Hlt.out; simp [RowKit.intOf]; omega
          · obtain rfl : k = n1 := by omega
            have HS5 := hide hS.out
            clear hge hk hS HS4
            by_cases h0 : k = 0
            case' pos =>
              subst h0
              have HS7 := HS5
              clear HS5
            case' neg =>
              have h0i : (k : Int) > 0 := by omega
              have Hne := hide (show vs ≠ [] from fun e => h0 (by have := Hl1.out; rw [e] at this; simpa using this.symm))
              have Hz1 := hide (nums_len vs)
              have Hs2 := hide ((Hs1.out.below HS5.out.bel).below (show Below wr.heap.size wr (wr.alloc (.cells #[] 3)) from (Below.refl _ _).alloc (Nat.le_refl _) _))
              have HS6 := hide (St.nothing HS5.out)
              have HO1 := hide (St.orow HS6.out (i := 1) rfl)
              have Hm1 := hide (show 0 + k ≤ maxLen by have := Hn1.out; unfold maxLen; omega)
              have Hm2 := hide (show (0 + k) * 8 ≤ 140737488355328 by have := Hn1.out; omega)
              have HA1 := hide (fun (W2 : World) (v2 : Value) (hg : Grown (wr.alloc (.cells #[] 3)) 3 1 (.slice (some ⟨wr.heap.size, 0, none⟩) 0 0) k (nums [] ++ nums vs) v2 W2) => (⟨St.app HS6.out (i := 1) rfl (Below.refl _ _) hg, hg.row.form⟩ : St w _ W2 ∧ _))
              go_wp2_with (at_builtin; go_must (refine wpList_app_if app_int (by simp [Region.wanted, yielded]) (.tmp 101) (.tmp 102) rfl (.slice (some ⟨wr.heap.size, 0, none⟩) 0 0) 0 (nums []) rfl HO1.out A1 k c1 (nums vs) rfl (by rw [Hz1.out, Hl1.out]; simp) Hs2.out (fun u hu => by simp [nums] at hu; obtain ⟨x, _, rfl⟩ := hu; rfl) (by decide) Hm1.out Hm2.out ?_))
              intro v2 W2 hg
              obtain ⟨hS2, VB, vd, rfl, _, _, _⟩ := HA1.out _ _ hg.out
              have HS7 := hide (show St w [tblT p A nb, rowT 3 1 (.slice VB k vd) k (nums vs)] W2 from hS2)
              have hb5 : Below W2.heap.size W2 (W2.alloc (.cells #[.int .i64 v] 3)) := (Below.refl _ _).alloc (Nat.le_refl _) _
              have HO2 := hide (St.orow (HS7.out.below hb5) (i := 1) rfl)
              have HM2 : Hid (Src (W2.alloc (.cells #[.int .i64 v] 3)) (some ⟨W2.heap.size, 0, none⟩) (nums [v])) := (Made.row (Below.refl _ W2) #[.int .i64 v] 3).src
              have HA2 := hide (fun (W3 : World) (v3 : Value) (hg : Grown (W2.alloc (.cells #[.int .i64 v] 3)) 3 1 (.slice VB k vd) (k + 1) (nums vs ++ nums [v]) v3 W3) => (⟨St.app HS7.out (i := 1) rfl hb5 hg, hg.row.form⟩ : St w _ W3 ∧ _))
              have Hm3 := hide (show k + 1 ≤ maxLen by have := Hn1.out; unfold maxLen; omega)
              have Hm4 := hide (show (k + 1) * 8 ≤ 140737488355328 by have := Hn1.out; omega)
              clear hS2 hg hb5 HS6 HO1 HA1 HS5
              go_wp2_with (at_builtin; go_must (refine wpList_app_if app_int (by simp [Region.wanted, yielded]) (.tmp 103) (.tmp 105) rfl (.slice VB k vd) k (nums vs) rfl HO2.out _ 1 1 (nums [v]) rfl rfl HM2.out (fun u hu => by simp [nums] at hu; subst hu; rfl) (by decide) Hm3.out Hm4.out ?_))
              intro v3 W3 hg
              obtain ⟨hS2, VC, ve, rfl, _, _, _⟩ := HA2.out _ _ hg.out
              have hS8 : St w [tblT p A nb, rowT 3 1 (.slice VC (k + 1) ve) (k + 1) (nums (vs ++ [v]))] W3 := by
                have e : nums (vs ++ [v]) = nums vs ++ nums [v] := by simp [nums]
                rw [e]
                exact hS2
              have HN2 := hide (S_newest hS8 (i := 0) rfl VC (k + 1) ve (vs ++ [v]) (by rw [List.length_append, Hl1.out]; rfl) (by have := Hn1.out; omega) (St.src hS8 (i := 1) rfl) (fun u hu => by
                rcases List.mem_append.1 hu with hu | hu
                · exact Hf1.out u hu
                · rw [List.mem_singleton.1 hu]; exact Hv.out))
              clear hS2 hS8 hg HS7 HO2 HA2 HM2
              go_wp2_with fail
              refine HN2.out.mono ?_
              rintro e w7 ⟨⟨s, rfl, hs⟩, hS⟩
              have hrs : ¬ s > r := by
                have := HR.out.more hs Hne.out
                omega
              have HS7 := hide (show St w [tblT p A nb] w7 from St.weaken (Us := [_]) hS)
              clear hs hS HN2
            all_goals
              have HP := hide (S_put (v := v) HS7.out (i := 0) rfl Hm.out (by have := Hnb.out; omega))
              clear HS7
              go_wp2_with fail
              refine HP.out.mono ?_
              rintro e w8 ⟨⟨y, rfl⟩, hS⟩
              have HN3 := hide (S_newest hS (i := 0) rfl _ _ c1 vs Hl1.out (by have := Hn1.out; omega) (Hs1.out.below hS.bel) Hf1.out)
              clear hS HP
              go_wp2_with fail
              refine HN3.out.mono ?_
              rintro e w9 ⟨⟨s, rfl, hs⟩, hS⟩
              have hrs : s ≥ r := HR.out.grows hs
              have HE := hide hS.bel
              clear hs hS HN3
              go_wp2
              go_ret
              exact ⟨by simp, HE.out⟩
theorem MarksNewest_any (A0 : Option Addr) (n c : Nat) (l : List Oq) (A1 : Option Addr) (n1 c1 : Nat) (vs : List Int) (v m : Int) (w : World) (hl : l.length = n) (hf : OFits l) (hs : Src w A0 (ocels l)) (hl1 : vs.length = n1) (hf1 : Fits vs) (hs1 : Src w A1 (nums vs)) (hv : I64 v) (hm : I64 m) :
    Calls Try.prog 3 #[.slice A0 n c, .slice A1 n1 c1, .int .i64 v, .int .i64 m] w fun e w' => e = .returned (.bool true) ∧ Below w.heap.size w w' := by
  rcases Nat.lt_or_ge 200 n with h | h
  · exact MarksNewest_long A0 n c A1 n1 c1 v m w h
  · rcases Nat.lt_or_ge 20 n1 with h1 | h1
    · exact MarksNewest2_long A0 n c A1 n1 c1 v m w h h1
    · exact MarksNewest_law A0 n c l A1 n1 c1 vs v m w hl h hf hs hl1 h1 hf1 hs1 hv hm

end Go.Proofs.Ytenenhhijkjjfaa.Mk
