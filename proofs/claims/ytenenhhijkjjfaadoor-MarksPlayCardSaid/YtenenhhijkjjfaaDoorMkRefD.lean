/-
  The contract of the document's Put: the number of its error, and the volume's list with one marker more.
-/
import Derived.Test.YtenenhhijkjjfaaDoorMkRefC
namespace Go.Proofs.YtenenhhijkjjfaaDoor.Mk
open Go.RowKit Go.Maps
open Pk Dk Wn Lk

theorem ins_at {m : Int} : ∀ (l : List Int) (k : Nat), k ≤ l.length → (∀ j, j < k → ∀ y, l[j]? = some y → y < m) → (∀ y, l[k]? = some y → ¬ y < m) → m ∉ l → ins m l = l.take k ++ m :: l.drop k
  | [], k, hk, _, _, _ => by
    obtain rfl : k = 0 := by simpa using hk
    rfl
  | x :: l, 0, _, _, h2, hn => by
    have h := h2 x rfl
    have hne : ¬ m = x := fun e => hn (e ▸ List.mem_cons_self ..)
    unfold ins
    rw [if_pos (by omega)]
    rfl
  | x :: l, k + 1, hk, h1, h2, hn => by
    have h := h1 0 (by omega) x rfl
    have hne : ¬ m = x := by omega
    unfold ins
    rw [if_neg (by omega), if_neg hne, ins_at l k (by simpa using hk) (fun j hj y hy => h1 (j + 1) (by omega) y hy) (fun y hy => h2 y hy) (fun h => hn (List.mem_cons_of_mem _ h))]
    rfl
theorem St.newrow {w W : World} {e : TypeId} {sz n : Nat} {v : Value} {xs : List Value} (h : St w [rowT e sz v n xs] W) : ORow W e sz v n xs ∧ Below w.heap.size w W ∧ ∀ k, v.ownBlock = some k → w.heap.size ≤ k := by
  obtain ⟨G, hp, hG, _⟩ := St.opened h (i := 0) rfl
  have hp' : Row e sz v n xs W G := hp
  exact ⟨hp'.row, h.bel, fun k hk => hG k (hp'.own k hk)⟩
theorem nums_app (a b : List Int) : nums (a ++ b) = nums a ++ nums b := by simp [nums]
theorem ones (l : List Int) : ∀ u ∈ nums l, u.oneCell' = true := fun u hu => by simp [nums] at hu; obtain ⟨x, _, rfl⟩ := hu; rfl
theorem rtb_same {q : Nat} {s : Nat → Value} {A : Int → List Int} {w : World} {G : Nat → Prop} (h : Rtb q s A w G) : After (rtbT q A) w G w := ⟨G, ⟨_, h⟩, Grew.refl _ _, Kept.refl _ _⟩
section
variable {q : Nat} {s : Nat → Value} {A : Int → List Int} {w w' : World} {G : Nat → Prop}
set_option maxRecDepth 100000 in
theorem RPut_range (h : Rtb q s A w G) {v : Int} (hv : ¬ (0 ≤ v ∧ v < 4)) (m : Int) :
    Calls Tryd.prog 9 #[.pointer (some ⟨q, 0, none⟩), .int .i64 v, .int .i64 m] w fun e w' => e = .returned (.int .i64 5) ∧ After (rtbT q A) w G w' := by
  have HV := hide (in_any v w)
  rw [decide_eq_false hv] at HV
  have HE := hide (rtb_same h)
  clear h hv
  go_enter Tryd.func9, Tryd.ntmps9
  go_wp2_with fail
  refine HV.out.mono ?_
  rintro e w1 ⟨rfl, rfl⟩
  clear HV
  go_wp2
  go_ret
  exact ⟨rfl, HE.out⟩
set_option maxRecDepth 100000 in
theorem RPut_arg (h : Rtb q s A w G) {v m : Int} (hv : 0 ≤ v ∧ v < 4) (hm : m < 1) :
    Calls Tryd.prog 9 #[.pointer (some ⟨q, 0, none⟩), .int .i64 v, .int .i64 m] w fun e w' => e = .returned (.int .i64 1) ∧ After (rtbT q A) w G w' := by
  have HV := hide (in_any v w)
  rw [decide_eq_true hv] at HV
  have HE := hide (rtb_same h)
  clear h hv
  go_enter Tryd.func9, Tryd.ntmps9
  go_wp2_with fail
  refine HV.out.mono ?_
  rintro e w1 ⟨rfl, rfl⟩
  clear HV
  go_wp2
  go_ret
  exact ⟨rfl, HE.out⟩
set_option maxRecDepth 100000 in
theorem RPut_has (h : Rtb q s A w G) (hA : ∀ u, (A u).length ≤ 100000) {i : Nat} (hi : i < 4) {m : Int} (hm : 1 ≤ m) (hin : m ∈ A (i : Int)) :
    Calls Tryd.prog 9 #[.pointer (some ⟨q, 0, none⟩), .int .i64 (i : Int), .int .i64 m] w fun e w' => e = .returned (.int .i64 0) ∧ After (rtbT q A) w G w' := by
  have HV := hide (in_any (i : Int) w)
  rw [decide_eq_true (show 0 ≤ (i : Int) ∧ (i : Int) < 4 by omega)] at HV
  have HE := hide (rtb_same h)
  obtain ⟨RA, c, hsl, h1, h2, hsrc⟩ := h.slice hi
  have c0 := h.cell hi
  rw [hsl] at c0
  have HH := hide (rhas_any RA _ c (A (i : Int)) m w rfl (hA _) hsrc)
  rw [decide_eq_true hin] at HH
  obtain ⟨N, hN⟩ : ∃ N, (A (i : Int)).length = N := ⟨_, rfl⟩
  rw [hN] at HH c0
  have hii : (i : Int) < 4 := by omega
  have hmi : ¬ m < 1 := by omega
  clear h hA hi hm hin hsl h1 h2 hsrc hN
  go_enter Tryd.func9, Tryd.ntmps9
  go_wp2_with fail
  refine HV.out.mono ?_
  rintro e w1 ⟨rfl, rfl⟩
  clear HV
  go_wp2_with fail
  refine HH.out.mono ?_
  rintro e w2 ⟨rfl, rfl⟩
  clear HH
  go_wp2
  go_ret
  exact ⟨rfl, HE.out⟩
set_option maxRecDepth 100000 in
set_option maxHeartbeats 4000000 in
theorem RPut_new_s (h : Rtb q s A w G) (hA : ∀ u, (A u).length ≤ 100000) {i : Nat} (hi : i < 4) {m : Int} (hm : 1 ≤ m ∧ m ≤ 9223372036854775807) (hin : m ∉ A (i : Int)) {g o c : Nat} (hsl0 : s i = .slice (some ⟨g, o, none⟩) (A (i : Int)).length c) (hc : (A (i : Int)).length ≤ c) :
    Calls Tryd.prog 9 #[.pointer (some ⟨q, 0, none⟩), .int .i64 (i : Int), .int .i64 m] w fun e w' => e = .returned (.int .i64 0) ∧ After (rtbT q (put A (i : Int) m)) w G w' := by
  have HV := hide (in_any (i : Int) w)
  rw [decide_eq_true (show 0 ≤ (i : Int) ∧ (i : Int) < 4 by omega)] at HV
  obtain ⟨N, hN⟩ : ∃ N, (A (i : Int)).length = N := ⟨_, rfl⟩
  have hsl : s i = .slice (some ⟨g, o, none⟩) N c := by rw [← hN]; exact hsl0
  have hsrc : Src w (some ⟨g, o, none⟩) (nums (A (i : Int))) := by
    have hr := h.row i hi
    rw [hsl0] at hr
    exact hr.src
  have Hc := hide (show N ≤ c by rw [← hN]; exact hc)
  clear hsl0 hc
  have Hsl := hide hsl
  have H := hide h
  have HR := hide hsrc
  have c0 := h.cell hi
  rw [hsl] at c0
  have HH := hide (rhas_any (some ⟨g, o, none⟩) _ c (A (i : Int)) m w rfl (hA _) hsrc)
  rw [decide_eq_false hin] at HH
  have HN4 := hide (show N ≤ 100000 by rw [← hN]; exact hA _)
  have hNi : (N : Int) ≤ 100000 := by have := HN4.out; omega
  have HB := hide (h.good.put (show 0 ≤ (i : Int) ∧ (i : Int) < 4 by omega) hm)
  rw [hN] at HH
  have HN := hide hN
  have Hi := hide hi
  have Hin := hide hin
  have hii : (i : Int) < 4 := by omega
  have hmi : ¬ m < 1 := by omega
  clear h hA hi hm hin hsl hsrc hN
  go_enter Tryd.func9, Tryd.ntmps9
  go_wp2_with fail
  refine HV.out.mono ?_
  rintro e w1 ⟨rfl, rfl⟩
  clear HV
  go_wp2_with fail
  refine HH.out.mono ?_
  rintro e w2 ⟨rfl, rfl⟩
  clear HH
  go_wp2
  go_loop [7] (fun j => ∃ k : Nat, k ≤ N ∧ j = .int .i64 (k : Int) ∧ Hid (∀ j, j < k → ∀ y, (A (i : Int))[j]? = some y → y < m)) (fun j => N - (RowKit.intOf j).toNat)
  case atStart => exact ⟨0, Nat.zero_le _, rfl, fun j hj => by omega⟩
  case round =>
    obtain ⟨k, hk, rfl, hq⟩ := hrel
    have hwhere : (∃ x, (A (i : Int))[k]? = some x ∧ x < m) ∨ ((k < N ∧ ∃ x, (A (i : Int))[k]? = some x ∧ ¬ x < m) ∨ k = N) := by
      rcases Nat.lt_or_ge k N with hlt | hge
      · have hx : (A (i : Int))[k]? = some ((A (i : Int))[k]'(by rw [HN.out]; exact hlt)) := List.getElem?_eq_getElem _
        by_cases hm : (A (i : Int))[k]'(by rw [HN.out]; exact hlt) < m
        · exact Or.inl ⟨_, hx, hm⟩
        · exact Or.inr (Or.inl ⟨hlt, _, hx, hm⟩)
      · exact Or.inr (Or.inr (by omega))
    rcases hwhere with ⟨x, hx, hxm⟩ | hend
    · have hlt : k < N := by have := (List.getElem?_eq_some_iff.1 hx).1; rw [HN.out] at this; exact this
      have Hlt := hide hlt
      have hki : (k : Int) < (N : Int) := by omega
      obtain ⟨g', o', e1, _, d0⟩ := Src.num HR.out hx
      obtain ⟨rfl, rfl⟩ : g = g' ∧ o = o' := by simpa using e1
      have HT := hide (show ∀ j, j < k + 1 → ∀ y, (A (i : Int))[j]? = some y → y < m from fun j hj y hy => by
        rcases Nat.lt_or_ge j k with h1 | h1
        · exact hq.out j h1 y hy
        · obtain rfl : j = k := by omega
          rw [hx] at hy
          obtain rfl := Option.some.inj hy
          exact hxm)
      clear hx hlt hk hq e1
      go_wp2
      go_round
      case rel => exact ⟨k + 1, Hlt.out, by go_num, HT.out⟩
      case measure => have := Hlt.out; simp [RowKit.intOf]; omega
    · have HI := hide (show ins m (A (i : Int)) = (A (i : Int)).take k ++ m :: (A (i : Int)).drop k from ins_at _ k (by rw [HN.out]; exact hk) hq.out (fun y hy hym => by
        rcases hend with ⟨_, x, hx, hxm⟩ | hend
        · rw [hx] at hy
          obtain rfl := Option.some.inj hy
          exact hxm hym
        · have := (List.getElem?_eq_some_iff.1 hy).1
          rw [HN.out] at this
          omega) Hin.out)
      have HF := hide (fun (v : Value) (W : World) (hS : St w2 [rowT 3 1 v (k + 1 + (N - k)) (nums ((A (i : Int)).take k ++ [m]) ++ nums ((A (i : Int)).drop k))] W) => (by
        obtain ⟨hrow, hb, ho⟩ := St.newrow hS
        have e1 : put A (i : Int) m (i : Int) = (A (i : Int)).take k ++ m :: (A (i : Int)).drop k := by simp only [put, if_true]; exact HI.out
        have e2 : (put A (i : Int) m (i : Int)).length = k + 1 + (N - k) := by rw [e1]; simp [HN.out]; omega
        have e3 : nums (put A (i : Int) m (i : Int)) = nums ((A (i : Int)).take k ++ [m]) ++ nums ((A (i : Int)).drop k) := by rw [e1, ← nums_app]; simp
        rw [← e2, ← e3] at hrow
        exact H.out.store Hi.out HB.out hb hrow ho (fun j _ hne => by
          have : ¬ (j : Int) = (i : Int) := by omega
          simp [put, this]) : ∃ G', Rtb q (fun j => if j = i then v else s j) (put A (i : Int) m) (W.setCell ⟨q, i, none⟩ v) G' ∧ Grew w2 G G' ∧ Kept G w2 (W.setCell ⟨q, i, none⟩ v)))
      have HS0 := hide (St.add (St.start w2) (Below.refl _ _) (T := rowT 3 1 (.slice none 0 0) 0 (nums [])) (G := fun _ => False) (Row.nil _ _ _) (fun _ h => h.elim))
      have HO1 := hide (St.orow HS0.out (i := 0) rfl)
      have Htk := hide (show (nums ((A (i : Int)).take k)).length = k * 1 by rw [nums_len, List.length_take, HN.out]; omega)
      have HR1 := hide (show Src w2 (some ⟨g, o, none⟩) (nums ((A (i : Int)).take k)) by
        have := Lk.Src.take HR.out k
        unfold nums at this ⊢
        rw [List.map_take]
        exact this)
      have HA1 := hide (fun (W2 : World) (v2 : Value) (hg : Grown w2 3 1 (.slice none 0 0) k (nums [] ++ nums ((A (i : Int)).take k)) v2 W2) => (⟨St.app HS0.out (i := 0) rfl (Below.refl _ _) hg, hg.row.form⟩ : St w2 _ W2 ∧ _))
      have Hk := hide hk
      have Hm1 := hide (show 0 + k ≤ maxLen by have := HN4.out; have := Hk.out; unfold maxLen; omega)
      have Hm2 := hide (show (0 + k) * 8 ≤ 140737488355328 by have := HN4.out; have := Hk.out; omega)
      have Hm3 := hide (show k + 1 ≤ maxLen by have := HN4.out; have := Hk.out; unfold maxLen; omega)
      have Hm4 := hide (show (k + 1) * 8 ≤ 140737488355328 by have := HN4.out; have := Hk.out; omega)
      have hkc : k ≤ c := by have := Hc.out; omega
      have hkci : (k : Int) ≤ (c : Int) := by omega
      rcases hend with ⟨hlt, x, hx, hxm⟩ | hend
      case' inl =>
        have hki : (k : Int) < (N : Int) := by omega
        obtain ⟨g', o', e1, _, d0⟩ := Src.num HR.out hx
        obtain ⟨rfl, rfl⟩ : g = g' ∧ o = o' := by simpa using e1
        clear e1 hx hlt hk hq
        go_wp2_with (at_builtin; go_must (refine wpList_app app_int rfl (.tmp 46) (.tmp 54) rfl (.slice none 0 0) 0 (nums []) rfl HO1.out (some ⟨g, o, none⟩) k c (nums ((A (i : Int)).take k)) rfl Htk.out HR1.out (ones _) (by decide) Hm1.out Hm2.out ?_))
      case' inr =>
        have hki : ¬ (k : Int) < (N : Int) := by omega
        have hkn : ¬ k < N := by omega
        clear hk hq hend
        go_wp2_with (at_builtin; go_must (refine wpList_app app_int rfl (.tmp 46) (.tmp 54) rfl (.slice none 0 0) 0 (nums []) rfl HO1.out (some ⟨g, o, none⟩) k c (nums ((A (i : Int)).take k)) rfl Htk.out HR1.out (ones _) (by decide) Hm1.out Hm2.out ?_))
      all_goals
        intro v2 W2 hg
        obtain ⟨hS1, VB0, vd0, hv1, _, _, _⟩ := HA1.out _ _ hg.out
        subst hv1
        have HS1 := hide (show St w2 [rowT 3 1 (.slice VB0 k vd0) k (nums ((A (i : Int)).take k))] W2 from hS1)
        have hb5 : Below W2.heap.size W2 (W2.alloc (.cells #[.int .i64 m] 3)) := (Below.refl _ _).alloc (Nat.le_refl _) _
        have HO2 := hide (St.orow (HS1.out.below hb5) (i := 0) rfl)
        have HM2 : Hid (Src (W2.alloc (.cells #[.int .i64 m] 3)) (some ⟨W2.heap.size, 0, none⟩) (nums [m])) := (Made.row (Below.refl _ W2) #[.int .i64 m] 3).src
        have HA2 := hide (fun (W3 : World) (v3 : Value) (hg : Grown (W2.alloc (.cells #[.int .i64 m] 3)) 3 1 (.slice VB0 k vd0) (k + 1) (nums ((A (i : Int)).take k) ++ nums [m]) v3 W3) => (⟨St.app HS1.out (i := 0) rfl hb5 hg, hg.row.form⟩ : St w2 _ W3 ∧ _))
        clear hS1 hg hb5 HS0 HO1 HA1 HR1 c0
        go_wp2_with (at_builtin; go_must (refine wpList_app app_int rfl (.tmp 56) (.tmp 58) rfl (.slice VB0 k vd0) k (nums ((A (i : Int)).take k)) rfl HO2.out _ 1 1 (nums [m]) rfl rfl HM2.out (ones _) (by decide) Hm3.out Hm4.out ?_))
        intro v3 W3 hg
        obtain ⟨hS2, VB, vd, hv2, _, _, _⟩ := HA2.out _ _ hg.out
        subst hv2
        have HS2 := hide (show St w2 [rowT 3 1 (.slice VB (k + 1) vd) (k + 1) (nums ((A (i : Int)).take k ++ [m]))] W3 by rw [nums_app]; exact hS2)
        have c1 : (World.drew W3).cell? ⟨q, i, none⟩ = some (s i) := (H.out.below HS2.out.drew.bel).cell Hi.out
        rw [Hsl.out] at c1
        clear hS2 hg HS1 HO2 HA2 HM2
        go_wp2_with fail
        have hkN := Hk.out
        have hNc := Hc.out
        by_cases he : c = k
        · have hnk : N = k := by omega
          have hdn : (A (i : Int)).drop k = [] := List.drop_eq_nil_of_le (by rw [HN.out]; omega)
          have Hdl := hide (show (nums ((A (i : Int)).drop k)).length = 0 * 1 by rw [hdn]; rfl)
          have HR3 := hide (show Src (World.drew W3) (some ⟨g, o, none⟩) (nums ((A (i : Int)).drop k)) by rw [hdn]; exact fun h => absurd rfl h)
          have Hm5 := hide (show k + 1 + 0 ≤ maxLen by have := HN4.out; have := Hk.out; unfold maxLen; omega)
          have Hm6 := hide (show (k + 1 + 0) * 8 ≤ 140737488355328 by have := HN4.out; have := Hk.out; omega)
          have HA3 := hide (fun (W4 : World) (v4 : Value) (hg : Grown (World.drew W3) 3 1 (.slice VB (k + 1) vd) (k + 1 + 0) (nums ((A (i : Int)).take k ++ [m]) ++ nums ((A (i : Int)).drop k)) v4 W4) => (⟨by have h := St.app HS2.out.drew (i := 0) rfl (Below.refl _ _) hg; have e : N - k = 0 := (by omega); rw [e]; exact h, hg.row.form⟩ : St w2 [rowT 3 1 v4 (k + 1 + (N - k)) (nums ((A (i : Int)).take k ++ [m]) ++ nums ((A (i : Int)).drop k))] W4 ∧ _))
          have HO3 := hide (St.orow HS2.out.drew (i := 0) rfl)
          clear HS2 hdn
          refine wp_region_any (by kernel_rfl) ?_
          change wpAny _ _ _ _ _ _ _ (World.drew _)
          generalize World.drew _ = wd at *
          refine wpAny_take (i := 0) (oi := ⟨some 60, _, _, _, _, _⟩) (v := ?_) rfl (by kernel_rfl) (by kernel_rfl) (by kernel_rfl) (fun _ _ _ h => h) (Or.inl ⟨by rfl, ?_⟩) ?_
          rotate_left 1
          · (intro w; go_simp; try with_reducible rfl)
          simp only [Act.put, List.setIfInBounds_toArray, List.set_cons_zero, List.set_cons_succ]
          refine wpAny_take (i := 1) (oi := ⟨some 61, _, _, _, _, _⟩) (v := ?_) rfl (by kernel_rfl) (by kernel_rfl) (by kernel_rfl) (fun _ _ _ h => h) (Or.inl ⟨by rfl, ?_⟩) ?_
          rotate_left 1
          · (intro w; go_simp; try with_reducible rfl)
          simp only [Act.put, List.setIfInBounds_toArray, List.set_cons_zero, List.set_cons_succ]
          refine wpAny_take (i := 2) (oi := ⟨some 62, _, _, _, _, _⟩) (v := ?_) rfl (by kernel_rfl) (by kernel_rfl) (by kernel_rfl) (fun _ _ _ h => h) (Or.inl ⟨by rfl, ?_⟩) ?_
          rotate_left 1
          · (intro w; go_simp; try with_reducible rfl)
          simp only [Act.put, List.setIfInBounds_toArray, List.set_cons_zero, List.set_cons_succ]
          refine wpAny_take (i := 3) (oi := ⟨some 63, _, _, _, _, _⟩) (v := ?_) rfl (by kernel_rfl) (by kernel_rfl) (by kernel_rfl) (fun _ _ _ h => h) (Or.inl ⟨by rfl, ?_⟩) ?_
          rotate_left 1
          · (intro w; go_simp; try with_reducible rfl)
          simp only [Act.put, List.setIfInBounds_toArray, List.set_cons_zero, List.set_cons_succ]
          refine wpAny_take (i := 4) (oi := ⟨some 64, _, _, _, _, _⟩) (v := ?_) rfl (by kernel_rfl) (by kernel_rfl) (by kernel_rfl) (fun _ _ _ h => h) (Or.inl ⟨by rfl, ?_⟩) ?_
          rotate_left 1
          · (intro w; go_simp; try with_reducible rfl)
          simp only [Act.put, List.setIfInBounds_toArray, List.set_cons_zero, List.set_cons_succ]
          refine wpAny_take (i := 5) (oi := ⟨some 65, _, _, _, _, _⟩) (v := ?_) rfl (by kernel_rfl) (by kernel_rfl) (by kernel_rfl) (fun _ _ _ h => h) (Or.inl ⟨by rfl, ?_⟩) ?_
          rotate_left 1
          · (intro w; go_simp; try with_reducible rfl)
          simp only [Act.put, List.setIfInBounds_toArray, List.set_cons_zero, List.set_cons_succ]
          refine wpAny_take (i := 6) (oi := ⟨some 66, _, _, _, _, _⟩) (v := ?_) rfl (by kernel_rfl) (by kernel_rfl) (by kernel_rfl) (fun _ _ _ h => h) (Or.inl ⟨by rfl, ?_⟩) ?_
          rotate_left 1
          · (intro w; go_simp; try with_reducible rfl)
          simp only [Act.put, List.setIfInBounds_toArray, List.set_cons_zero, List.set_cons_succ]
          refine wpAny_take (i := 7) (oi := ⟨some 67, _, _, _, _, _⟩) (v := ?_) rfl (by kernel_rfl) (by kernel_rfl) (by kernel_rfl) (fun _ _ _ h => h) (Or.inl ⟨by rfl, ?_⟩) ?_
          rotate_left 1
          · (intro w; go_simp; try with_reducible rfl)
          simp only [Act.put, List.setIfInBounds_toArray, List.set_cons_zero, List.set_cons_succ]
          refine wpAny_take (i := 9) (oi := ⟨some 69, _, _, _, _, _⟩) (v := ?_) rfl (by kernel_rfl) (by kernel_rfl) (by kernel_rfl) (fun _ _ _ h => h) (Or.inl ⟨by rfl, ?_⟩) ?_
          rotate_left 1
          · (intro w; go_simp; try with_reducible rfl)
          simp only [Act.put, List.setIfInBounds_toArray, List.set_cons_zero, List.set_cons_succ]
          refine wpAny_take (i := 12) (oi := ⟨some 72, _, _, _, _, _⟩) (v := ?_) rfl (by kernel_rfl) (by kernel_rfl) (by kernel_rfl) (fun _ _ _ h => h) (Or.inl ⟨by rfl, ?_⟩) ?_
          rotate_left 1
          · (intro w; go_simp; try with_reducible rfl)
          simp only [Act.put, List.setIfInBounds_toArray, List.set_cons_zero, List.set_cons_succ]
          refine wpAny_take (i := 13) (oi := ⟨some 73, _, _, _, _, _⟩) (v := ?_) rfl (by kernel_rfl) (by kernel_rfl) (by kernel_rfl) (fun _ _ _ h => h) (Or.inl ⟨by rfl, ?_⟩) ?_
          rotate_left 1
          · (intro w; go_simp; try with_reducible rfl)
          simp only [Act.put, List.setIfInBounds_toArray, List.set_cons_zero, List.set_cons_succ]
          refine wpAny_ready (rs := [8]) (by kernel_rfl) (by simp) ?_
          refine AllReady.cons (o := ⟨some 68, _, _, _, _, _⟩) rfl (fun K hK => ?_) AllReady.nil
          go_simp
          refine hK _ _ ?_
          clear hK K
          refine wpAny_take (i := 10) (oi := ⟨some 70, _, _, _, _, _⟩) (v := ?_) rfl (by kernel_rfl) (by kernel_rfl) (by kernel_rfl) (fun _ _ _ h => h) (Or.inl ⟨by rfl, ?_⟩) ?_
          rotate_left 1
          · (intro w; go_simp; try with_reducible rfl)
          simp only [Act.put, List.setIfInBounds_toArray, List.set_cons_zero, List.set_cons_succ]
          refine wpAny_ready (rs := [11]) (by kernel_rfl) (by simp) ?_
          refine AllReady.cons (o := ⟨some 71, _, _, _, _, _⟩) rfl (fun K hK => ?_) AllReady.nil
          refine step_app app_int (by rfl) (.tmp 62) (.tmp 70) rfl (.slice VB (k + 1) vd) (k + 1) (nums ((A (i : Int)).take k ++ [m])) rfl HO3.out (some ⟨g, o, none⟩) 0 0 (nums ((A (i : Int)).drop k)) rfl Hdl.out HR3.out (ones _) (by decide) Hm5.out Hm6.out ?_
          intro v4 w4 hg
          obtain ⟨hS4, VC, ve, hv4, _, _, _⟩ := HA3.out _ _ hg.out
          subst hv4
          have hb4 := hS4.bel
          have d1 := ((H.out.below hb4).cell Hi.out).trans (congrArg some Hsl.out)
          have f1 := (H.out.below hb4).frozen i
          have HW := hide (HF.out _ _ hS4)
          clear hg hS4 hb4
          refine hK _ _ ?_
          clear hK K
          refine wpAny_take (i := 14) (oi := ⟨some 74, _, _, _, _, _⟩) (v := ?_) rfl (by kernel_rfl) (by kernel_rfl) (by kernel_rfl) (fun _ _ _ h => h) (Or.inl ⟨by rfl, ?_⟩) ?_
          rotate_left 1
          · (intro w; go_simp; try with_reducible rfl)
          simp only [Act.put, List.setIfInBounds_toArray, List.set_cons_zero, List.set_cons_succ]
          refine wpAny_ready (rs := [15]) (by kernel_rfl) (by simp) ?_
          refine AllReady.cons (o := ⟨none, _, _, _, _, _⟩) rfl (fun K hK => ?_) AllReady.nil
          go_simp
          refine hK _ _ ?_
          clear hK K
          refine wpAny_done (by kernel_rfl) ?_ _
          clear d1 f1 c1
          go_wp2
          go_ret
          obtain ⟨G9, z1, z2, z3⟩ := HW.out
          exact ⟨by first | rfl | simp, G9, ⟨_, z1⟩, z2, z3⟩
        · have hck : k ≤ c := by omega
          have Hdl := hide (show (nums ((A (i : Int)).drop k)).length = (N - k) * 1 by rw [nums_len, List.length_drop, HN.out]; omega)
          have HR3 := hide (show Src (World.drew W3) (some ⟨g, o + k, none⟩) (nums ((A (i : Int)).drop k)) by
            have := Lk.Src.drop (HR.out.below HS2.out.drew.bel) k
            unfold nums at this ⊢
            rw [List.map_drop]
            exact this)
          have Hm5 := hide (show k + 1 + (N - k) ≤ maxLen by have := HN4.out; have := Hk.out; unfold maxLen; omega)
          have Hm6 := hide (show (k + 1 + (N - k)) * 8 ≤ 140737488355328 by have := HN4.out; have := Hk.out; omega)
          have HA3 := hide (fun (W4 : World) (v4 : Value) (hg : Grown (World.drew W3) 3 1 (.slice VB (k + 1) vd) (k + 1 + (N - k)) (nums ((A (i : Int)).take k ++ [m]) ++ nums ((A (i : Int)).drop k)) v4 W4) => (⟨St.app HS2.out.drew (i := 0) rfl (Below.refl _ _) hg, hg.row.form⟩ : St w2 [rowT 3 1 v4 (k + 1 + (N - k)) (nums ((A (i : Int)).take k ++ [m]) ++ nums ((A (i : Int)).drop k))] W4 ∧ _))
          have HO3 := hide (St.orow HS2.out.drew (i := 0) rfl)
          clear HS2
          refine wp_region_any (by kernel_rfl) ?_
          change wpAny _ _ _ _ _ _ _ (World.drew _)
          generalize World.drew _ = wd at *
          refine wpAny_take (i := 0) (oi := ⟨some 60, _, _, _, _, _⟩) (v := ?_) rfl (by kernel_rfl) (by kernel_rfl) (by kernel_rfl) (fun _ _ _ h => h) (Or.inl ⟨by rfl, ?_⟩) ?_
          rotate_left 1
          · (intro w; go_simp; try with_reducible rfl)
          simp only [Act.put, List.setIfInBounds_toArray, List.set_cons_zero, List.set_cons_succ]
          refine wpAny_take (i := 1) (oi := ⟨some 61, _, _, _, _, _⟩) (v := ?_) rfl (by kernel_rfl) (by kernel_rfl) (by kernel_rfl) (fun _ _ _ h => h) (Or.inl ⟨by rfl, ?_⟩) ?_
          rotate_left 1
          · (intro w; go_simp; try with_reducible rfl)
          simp only [Act.put, List.setIfInBounds_toArray, List.set_cons_zero, List.set_cons_succ]
          refine wpAny_take (i := 2) (oi := ⟨some 62, _, _, _, _, _⟩) (v := ?_) rfl (by kernel_rfl) (by kernel_rfl) (by kernel_rfl) (fun _ _ _ h => h) (Or.inl ⟨by rfl, ?_⟩) ?_
          rotate_left 1
          · (intro w; go_simp; try with_reducible rfl)
          simp only [Act.put, List.setIfInBounds_toArray, List.set_cons_zero, List.set_cons_succ]
          refine wpAny_take (i := 3) (oi := ⟨some 63, _, _, _, _, _⟩) (v := ?_) rfl (by kernel_rfl) (by kernel_rfl) (by kernel_rfl) (fun _ _ _ h => h) (Or.inl ⟨by rfl, ?_⟩) ?_
          rotate_left 1
          · (intro w; go_simp; try with_reducible rfl)
          simp only [Act.put, List.setIfInBounds_toArray, List.set_cons_zero, List.set_cons_succ]
          refine wpAny_take (i := 4) (oi := ⟨some 64, _, _, _, _, _⟩) (v := ?_) rfl (by kernel_rfl) (by kernel_rfl) (by kernel_rfl) (fun _ _ _ h => h) (Or.inl ⟨by rfl, ?_⟩) ?_
          rotate_left 1
          · (intro w; go_simp; try with_reducible rfl)
          simp only [Act.put, List.setIfInBounds_toArray, List.set_cons_zero, List.set_cons_succ]
          refine wpAny_take (i := 5) (oi := ⟨some 65, _, _, _, _, _⟩) (v := ?_) rfl (by kernel_rfl) (by kernel_rfl) (by kernel_rfl) (fun _ _ _ h => h) (Or.inl ⟨by rfl, ?_⟩) ?_
          rotate_left 1
          · (intro w; go_simp; try with_reducible rfl)
          simp only [Act.put, List.setIfInBounds_toArray, List.set_cons_zero, List.set_cons_succ]
          refine wpAny_take (i := 6) (oi := ⟨some 66, _, _, _, _, _⟩) (v := ?_) rfl (by kernel_rfl) (by kernel_rfl) (by kernel_rfl) (fun _ _ _ h => h) (Or.inl ⟨by rfl, ?_⟩) ?_
          rotate_left 1
          · (intro w; go_simp; try with_reducible rfl)
          simp only [Act.put, List.setIfInBounds_toArray, List.set_cons_zero, List.set_cons_succ]
          refine wpAny_take (i := 7) (oi := ⟨some 67, _, _, _, _, _⟩) (v := ?_) rfl (by kernel_rfl) (by kernel_rfl) (by kernel_rfl) (fun _ _ _ h => h) (Or.inl ⟨by rfl, ?_⟩) ?_
          rotate_left 1
          · (intro w; go_simp; try with_reducible rfl)
          simp only [Act.put, List.setIfInBounds_toArray, List.set_cons_zero, List.set_cons_succ]
          refine wpAny_take (i := 9) (oi := ⟨some 69, _, _, _, _, _⟩) (v := ?_) rfl (by kernel_rfl) (by kernel_rfl) (by kernel_rfl) (fun _ _ _ h => h) (Or.inl ⟨by rfl, ?_⟩) ?_
          rotate_left 1
          · (intro w; go_simp; try with_reducible rfl)
          simp only [Act.put, List.setIfInBounds_toArray, List.set_cons_zero, List.set_cons_succ]
          refine wpAny_take (i := 12) (oi := ⟨some 72, _, _, _, _, _⟩) (v := ?_) rfl (by kernel_rfl) (by kernel_rfl) (by kernel_rfl) (fun _ _ _ h => h) (Or.inl ⟨by rfl, ?_⟩) ?_
          rotate_left 1
          · (intro w; go_simp; try with_reducible rfl)
          simp only [Act.put, List.setIfInBounds_toArray, List.set_cons_zero, List.set_cons_succ]
          refine wpAny_take (i := 13) (oi := ⟨some 73, _, _, _, _, _⟩) (v := ?_) rfl (by kernel_rfl) (by kernel_rfl) (by kernel_rfl) (fun _ _ _ h => h) (Or.inl ⟨by rfl, ?_⟩) ?_
          rotate_left 1
          · (intro w; go_simp; try with_reducible rfl)
          simp only [Act.put, List.setIfInBounds_toArray, List.set_cons_zero, List.set_cons_succ]
          refine wpAny_ready (rs := [8]) (by kernel_rfl) (by simp) ?_
          refine AllReady.cons (o := ⟨some 68, _, _, _, _, _⟩) rfl (fun K hK => ?_) AllReady.nil
          go_simp
          refine hK _ _ ?_
          clear hK K
          refine wpAny_take (i := 10) (oi := ⟨some 70, _, _, _, _, _⟩) (v := ?_) rfl (by kernel_rfl) (by kernel_rfl) (by kernel_rfl) (fun _ _ _ h => h) (Or.inl ⟨by rfl, ?_⟩) ?_
          rotate_left 1
          · (intro w; go_simp; try with_reducible rfl)
          simp only [Act.put, List.setIfInBounds_toArray, List.set_cons_zero, List.set_cons_succ]
          refine wpAny_ready (rs := [11]) (by kernel_rfl) (by simp) ?_
          refine AllReady.cons (o := ⟨some 71, _, _, _, _, _⟩) rfl (fun K hK => ?_) AllReady.nil
          refine step_app app_int (by rfl) (.tmp 62) (.tmp 70) rfl (.slice VB (k + 1) vd) (k + 1) (nums ((A (i : Int)).take k ++ [m])) rfl HO3.out (some ⟨g, o + k, none⟩) (N - k) (c - k) (nums ((A (i : Int)).drop k)) rfl Hdl.out HR3.out (ones _) (by decide) Hm5.out Hm6.out ?_
          intro v4 w4 hg
          obtain ⟨hS4, VC, ve, hv4, _, _, _⟩ := HA3.out _ _ hg.out
          subst hv4
          have hb4 := hS4.bel
          have d1 := ((H.out.below hb4).cell Hi.out).trans (congrArg some Hsl.out)
          have f1 := (H.out.below hb4).frozen i
          have HW := hide (HF.out _ _ hS4)
          clear hg hS4 hb4
          refine hK _ _ ?_
          clear hK K
          refine wpAny_take (i := 14) (oi := ⟨some 74, _, _, _, _, _⟩) (v := ?_) rfl (by kernel_rfl) (by kernel_rfl) (by kernel_rfl) (fun _ _ _ h => h) (Or.inl ⟨by rfl, ?_⟩) ?_
          rotate_left 1
          · (intro w; go_simp; try with_reducible rfl)
          simp only [Act.put, List.setIfInBounds_toArray, List.set_cons_zero, List.set_cons_succ]
          refine wpAny_ready (rs := [15]) (by kernel_rfl) (by simp) ?_
          refine AllReady.cons (o := ⟨none, _, _, _, _, _⟩) rfl (fun K hK => ?_) AllReady.nil
          go_simp
          refine hK _ _ ?_
          clear hK K
          refine wpAny_done (by kernel_rfl) ?_ _
          clear d1 f1 c1
          go_wp2
          go_ret
          obtain ⟨G9, z1, z2, z3⟩ := HW.out
          exact ⟨by first | rfl | simp, G9, ⟨_, z1⟩, z2, z3⟩
set_option maxRecDepth 100000 in
set_option maxHeartbeats 4000000 in
theorem RPut_new_n (h : Rtb q s A w G) (hA : ∀ u, (A u).length ≤ 100000) {i : Nat} (hi : i < 4) {m : Int} (hm : 1 ≤ m ∧ m ≤ 9223372036854775807) (hin : m ∉ A (i : Int)) (hsl : s i = .slice none 0 0) (h0 : A (i : Int) = []) :
    Calls Tryd.prog 9 #[.pointer (some ⟨q, 0, none⟩), .int .i64 (i : Int), .int .i64 m] w fun e w' => e = .returned (.int .i64 0) ∧ After (rtbT q (put A (i : Int) m)) w G w' := by
  have HV := hide (in_any (i : Int) w)
  rw [decide_eq_true (show 0 ≤ (i : Int) ∧ (i : Int) < 4 by omega)] at HV
  obtain ⟨N, hN⟩ : ∃ N, (A (i : Int)).length = N := ⟨_, rfl⟩
  have hsrc : Src w none (nums (A (i : Int))) := by rw [h0]; exact fun h => absurd rfl h
  have Hz := hide h0
  have Hsl := hide hsl
  have H := hide h
  have HR := hide hsrc
  have c0 := h.cell hi
  rw [hsl] at c0
  have HH := hide (rhas_any none _ 0 (A (i : Int)) m w rfl (hA _) hsrc)
  rw [decide_eq_false hin] at HH
  have HN4 := hide (show N ≤ 100000 by rw [← hN]; exact hA _)
  have hNi : (N : Int) ≤ 100000 := by have := HN4.out; omega
  have HB := hide (h.good.put (show 0 ≤ (i : Int) ∧ (i : Int) < 4 by omega) hm)
  rw [hN] at HH
  have HN := hide hN
  have Hi := hide hi
  have Hin := hide hin
  have hii : (i : Int) < 4 := by omega
  have hmi : ¬ m < 1 := by omega
  clear h hA hi hm hin hsl hsrc hN
  clear h0
  obtain rfl : N = 0 := by rw [← HN.out, Hz.out]; rfl
  go_enter Tryd.func9, Tryd.ntmps9
  go_wp2_with fail
  refine HV.out.mono ?_
  rintro e w1 ⟨rfl, rfl⟩
  clear HV
  go_wp2_with fail
  refine HH.out.mono ?_
  rintro e w2 ⟨rfl, rfl⟩
  clear HH
  go_wp2
  go_loop [7] (fun j => ∃ k : Nat, k ≤ 0 ∧ j = .int .i64 (k : Int) ∧ Hid (∀ j, j < k → ∀ y, (A (i : Int))[j]? = some y → y < m)) (fun j => 0 - (RowKit.intOf j).toNat)
  case atStart => exact ⟨0, Nat.zero_le _, rfl, fun j hj => by omega⟩
  case round =>
    obtain ⟨k, hk, rfl, hq⟩ := hrel
    obtain rfl : k = 0 := by omega
    have hwhere : (∃ x, (A (i : Int))[0]? = some x ∧ x < m) ∨ ((0 < 0 ∧ ∃ x, (A (i : Int))[0]? = some x ∧ ¬ x < m) ∨ 0 = 0) := by
      rcases Nat.lt_or_ge 0 0 with hlt | hge
      · have hx : (A (i : Int))[0]? = some ((A (i : Int))[0]'(by rw [HN.out]; exact hlt)) := List.getElem?_eq_getElem _
        by_cases hm : (A (i : Int))[0]'(by rw [HN.out]; exact hlt) < m
        · exact Or.inl ⟨_, hx, hm⟩
        · exact Or.inr (Or.inl ⟨hlt, _, hx, hm⟩)
      · exact Or.inr (Or.inr (by omega))
    rcases hwhere with ⟨x, hx, hxm⟩ | hend
    · rw [Hz.out] at hx
      simp at hx
    · have HI := hide (show ins m (A (i : Int)) = (A (i : Int)).take 0 ++ m :: (A (i : Int)).drop 0 from ins_at _ 0 (by rw [HN.out]; exact hk) hq.out (fun y hy hym => by
        rcases hend with ⟨_, x, hx, hxm⟩ | hend
        · rw [hx] at hy
          obtain rfl := Option.some.inj hy
          exact hxm hym
        · have := (List.getElem?_eq_some_iff.1 hy).1
          rw [HN.out] at this
          omega) Hin.out)
      have HF := hide (fun (v : Value) (W : World) (hS : St w2 [rowT 3 1 v (0 + 1 + 0) (nums ((A (i : Int)).take 0 ++ [m]) ++ nums ((A (i : Int)).drop 0))] W) => (by
        obtain ⟨hrow, hb, ho⟩ := St.newrow hS
        have e1 : put A (i : Int) m (i : Int) = (A (i : Int)).take 0 ++ m :: (A (i : Int)).drop 0 := by simp only [put, if_true]; exact HI.out
        have e2 : (put A (i : Int) m (i : Int)).length = 0 + 1 + 0 := by rw [e1]; simp [HN.out]
        have e3 : nums (put A (i : Int) m (i : Int)) = nums ((A (i : Int)).take 0 ++ [m]) ++ nums ((A (i : Int)).drop 0) := by rw [e1, ← nums_app]; simp
        rw [← e2, ← e3] at hrow
        exact H.out.store Hi.out HB.out hb hrow ho (fun j _ hne => by
          have : ¬ (j : Int) = (i : Int) := by omega
          simp [put, this]) : ∃ G', Rtb q (fun j => if j = i then v else s j) (put A (i : Int) m) (W.setCell ⟨q, i, none⟩ v) G' ∧ Grew w2 G G' ∧ Kept G w2 (W.setCell ⟨q, i, none⟩ v)))
      have HS0 := hide (St.add (St.start w2) (Below.refl _ _) (T := rowT 3 1 (.slice none 0 0) 0 (nums [])) (G := fun _ => False) (Row.nil _ _ _) (fun _ h => h.elim))
      have HO1 := hide (St.orow HS0.out (i := 0) rfl)
      have Htk := hide (show (nums ((A (i : Int)).take 0)).length = 0 * 1 by rw [nums_len, List.length_take, HN.out]; omega)
      have HR1 := hide (show Src w2 none (nums ((A (i : Int)).take 0)) by
        have := Lk.Src.take HR.out 0
        unfold nums at this ⊢
        rw [List.map_take]
        exact this)
      have HA1 := hide (fun (W2 : World) (v2 : Value) (hg : Grown w2 3 1 (.slice none 0 0) 0 (nums [] ++ nums ((A (i : Int)).take 0)) v2 W2) => (⟨St.app HS0.out (i := 0) rfl (Below.refl _ _) hg, hg.row.form⟩ : St w2 _ W2 ∧ _))
      have Hk := hide hk
      have Hm1 := hide (show 0 + 0 ≤ maxLen by have := HN4.out; have := Hk.out; unfold maxLen; omega)
      have Hm2 := hide (show (0 + 0) * 8 ≤ 140737488355328 by have := HN4.out; have := Hk.out; omega)
      have Hm3 := hide (show 0 + 1 ≤ maxLen by have := HN4.out; have := Hk.out; unfold maxLen; omega)
      have Hm4 := hide (show 1 * 8 ≤ 140737488355328 by have := HN4.out; have := Hk.out; omega)
      clear hk hq hend
      go_wp2_with (at_builtin; go_must (refine wpList_app app_int rfl (.tmp 46) (.tmp 54) rfl (.slice none 0 0) 0 (nums []) rfl HO1.out none 0 0 (nums ((A (i : Int)).take 0)) rfl Htk.out HR1.out (ones _) (by decide) Hm1.out Hm2.out ?_))
      intro v2 W2 hg
      obtain ⟨hS1, VB0, vd0, hv1, _, _, _⟩ := HA1.out _ _ hg.out
      subst hv1
      have HS1 := hide (show St w2 [rowT 3 1 (.slice VB0 0 vd0) 0 (nums ((A (i : Int)).take 0))] W2 from hS1)
      have hb5 : Below W2.heap.size W2 (W2.alloc (.cells #[.int .i64 m] 3)) := (Below.refl _ _).alloc (Nat.le_refl _) _
      have HO2 := hide (St.orow (HS1.out.below hb5) (i := 0) rfl)
      have HM2 : Hid (Src (W2.alloc (.cells #[.int .i64 m] 3)) (some ⟨W2.heap.size, 0, none⟩) (nums [m])) := (Made.row (Below.refl _ W2) #[.int .i64 m] 3).src
      have HA2 := hide (fun (W3 : World) (v3 : Value) (hg : Grown (W2.alloc (.cells #[.int .i64 m] 3)) 3 1 (.slice VB0 0 vd0) 1 (nums ((A (i : Int)).take 0) ++ nums [m]) v3 W3) => (⟨St.app HS1.out (i := 0) rfl hb5 hg, hg.row.form⟩ : St w2 _ W3 ∧ _))
      clear hS1 hg hb5 HS0 HO1 HA1 HR1 c0
      go_wp2_with (at_builtin; go_must (refine wpList_app app_int rfl (.tmp 56) (.tmp 58) rfl (.slice VB0 0 vd0) 0 (nums ((A (i : Int)).take 0)) rfl HO2.out _ 1 1 (nums [m]) rfl rfl HM2.out (ones _) (by decide) Hm3.out Hm4.out ?_))
      intro v3 W3 hg
      obtain ⟨hS2, VB, vd, hv2, _, _, _⟩ := HA2.out _ _ hg.out
      subst hv2
      have HS2 := hide (show St w2 [rowT 3 1 (.slice VB 1 vd) 1 (nums ((A (i : Int)).take 0 ++ [m]))] W3 by rw [nums_app]; exact hS2)
      have c1 : (World.drew W3).cell? ⟨q, i, none⟩ = some (s i) := (H.out.below HS2.out.drew.bel).cell Hi.out
      rw [Hsl.out] at c1
      clear hS2 hg HS1 HO2 HA2 HM2
      go_wp2_with fail
      have hdn : (A (i : Int)).drop 0 = [] := List.drop_eq_nil_of_le (by rw [HN.out]; omega)
      have Hdl := hide (show (nums ((A (i : Int)).drop 0)).length = 0 * 1 by rw [hdn]; rfl)
      have HR3 := hide (show Src (World.drew W3) none (nums ((A (i : Int)).drop 0)) by rw [hdn]; exact fun h => absurd rfl h)
      have Hm5 := hide (show 0 + 1 + 0 ≤ maxLen by have := HN4.out; have := Hk.out; unfold maxLen; omega)
      have Hm6 := hide (show (0 + 1 + 0) * 8 ≤ 140737488355328 by have := HN4.out; have := Hk.out; omega)
      have HA3 := hide (fun (W4 : World) (v4 : Value) (hg : Grown (World.drew W3) 3 1 (.slice VB 1 vd) (0 + 1 + 0) (nums ((A (i : Int)).take 0 ++ [m]) ++ nums ((A (i : Int)).drop 0)) v4 W4) => (⟨by have h := St.app HS2.out.drew (i := 0) rfl (Below.refl _ _) hg; exact h, hg.row.form⟩ : St w2 [rowT 3 1 v4 (0 + 1 + 0) (nums ((A (i : Int)).take 0 ++ [m]) ++ nums ((A (i : Int)).drop 0))] W4 ∧ _))
      have HO3 := hide (St.orow HS2.out.drew (i := 0) rfl)
      clear HS2 hdn
      refine wp_region_any (by kernel_rfl) ?_
      change wpAny _ _ _ _ _ _ _ (World.drew _)
      generalize World.drew _ = wd at *
      refine wpAny_take (i := 0) (oi := ⟨some 60, _, _, _, _, _⟩) (v := ?_) rfl (by kernel_rfl) (by kernel_rfl) (by kernel_rfl) (fun _ _ _ h => h) (Or.inl ⟨by rfl, ?_⟩) ?_
      rotate_left 1
      · (intro w; go_simp; try with_reducible rfl)
      simp only [Act.put, List.setIfInBounds_toArray, List.set_cons_zero, List.set_cons_succ]
      refine wpAny_take (i := 1) (oi := ⟨some 61, _, _, _, _, _⟩) (v := ?_) rfl (by kernel_rfl) (by kernel_rfl) (by kernel_rfl) (fun _ _ _ h => h) (Or.inl ⟨by rfl, ?_⟩) ?_
      rotate_left 1
      · (intro w; go_simp; try with_reducible rfl)
      simp only [Act.put, List.setIfInBounds_toArray, List.set_cons_zero, List.set_cons_succ]
      refine wpAny_take (i := 2) (oi := ⟨some 62, _, _, _, _, _⟩) (v := ?_) rfl (by kernel_rfl) (by kernel_rfl) (by kernel_rfl) (fun _ _ _ h => h) (Or.inl ⟨by rfl, ?_⟩) ?_
      rotate_left 1
      · (intro w; go_simp; try with_reducible rfl)
      simp only [Act.put, List.setIfInBounds_toArray, List.set_cons_zero, List.set_cons_succ]
      refine wpAny_take (i := 3) (oi := ⟨some 63, _, _, _, _, _⟩) (v := ?_) rfl (by kernel_rfl) (by kernel_rfl) (by kernel_rfl) (fun _ _ _ h => h) (Or.inl ⟨by rfl, ?_⟩) ?_
      rotate_left 1
      · (intro w; go_simp; try with_reducible rfl)
      simp only [Act.put, List.setIfInBounds_toArray, List.set_cons_zero, List.set_cons_succ]
      refine wpAny_take (i := 4) (oi := ⟨some 64, _, _, _, _, _⟩) (v := ?_) rfl (by kernel_rfl) (by kernel_rfl) (by kernel_rfl) (fun _ _ _ h => h) (Or.inl ⟨by rfl, ?_⟩) ?_
      rotate_left 1
      · (intro w; go_simp; try with_reducible rfl)
      simp only [Act.put, List.setIfInBounds_toArray, List.set_cons_zero, List.set_cons_succ]
      refine wpAny_take (i := 5) (oi := ⟨some 65, _, _, _, _, _⟩) (v := ?_) rfl (by kernel_rfl) (by kernel_rfl) (by kernel_rfl) (fun _ _ _ h => h) (Or.inl ⟨by rfl, ?_⟩) ?_
      rotate_left 1
      · (intro w; go_simp; try with_reducible rfl)
      simp only [Act.put, List.setIfInBounds_toArray, List.set_cons_zero, List.set_cons_succ]
      refine wpAny_take (i := 6) (oi := ⟨some 66, _, _, _, _, _⟩) (v := ?_) rfl (by kernel_rfl) (by kernel_rfl) (by kernel_rfl) (fun _ _ _ h => h) (Or.inl ⟨by rfl, ?_⟩) ?_
      rotate_left 1
      · (intro w; go_simp; try with_reducible rfl)
      simp only [Act.put, List.setIfInBounds_toArray, List.set_cons_zero, List.set_cons_succ]
      refine wpAny_take (i := 7) (oi := ⟨some 67, _, _, _, _, _⟩) (v := ?_) rfl (by kernel_rfl) (by kernel_rfl) (by kernel_rfl) (fun _ _ _ h => h) (Or.inl ⟨by rfl, ?_⟩) ?_
      rotate_left 1
      · (intro w; go_simp; try with_reducible rfl)
      simp only [Act.put, List.setIfInBounds_toArray, List.set_cons_zero, List.set_cons_succ]
      refine wpAny_take (i := 9) (oi := ⟨some 69, _, _, _, _, _⟩) (v := ?_) rfl (by kernel_rfl) (by kernel_rfl) (by kernel_rfl) (fun _ _ _ h => h) (Or.inl ⟨by rfl, ?_⟩) ?_
      rotate_left 1
      · (intro w; go_simp; try with_reducible rfl)
      simp only [Act.put, List.setIfInBounds_toArray, List.set_cons_zero, List.set_cons_succ]
      refine wpAny_take (i := 12) (oi := ⟨some 72, _, _, _, _, _⟩) (v := ?_) rfl (by kernel_rfl) (by kernel_rfl) (by kernel_rfl) (fun _ _ _ h => h) (Or.inl ⟨by rfl, ?_⟩) ?_
      rotate_left 1
      · (intro w; go_simp; try with_reducible rfl)
      simp only [Act.put, List.setIfInBounds_toArray, List.set_cons_zero, List.set_cons_succ]
      refine wpAny_take (i := 13) (oi := ⟨some 73, _, _, _, _, _⟩) (v := ?_) rfl (by kernel_rfl) (by kernel_rfl) (by kernel_rfl) (fun _ _ _ h => h) (Or.inl ⟨by rfl, ?_⟩) ?_
      rotate_left 1
      · (intro w; go_simp; try with_reducible rfl)
      simp only [Act.put, List.setIfInBounds_toArray, List.set_cons_zero, List.set_cons_succ]
      refine wpAny_ready (rs := [8]) (by kernel_rfl) (by simp) ?_
      refine AllReady.cons (o := ⟨some 68, _, _, _, _, _⟩) rfl (fun K hK => ?_) AllReady.nil
      go_simp
      refine hK _ _ ?_
      clear hK K
      refine wpAny_take (i := 10) (oi := ⟨some 70, _, _, _, _, _⟩) (v := ?_) rfl (by kernel_rfl) (by kernel_rfl) (by kernel_rfl) (fun _ _ _ h => h) (Or.inl ⟨by rfl, ?_⟩) ?_
      rotate_left 1
      · (intro w; go_simp; try with_reducible rfl)
      simp only [Act.put, List.setIfInBounds_toArray, List.set_cons_zero, List.set_cons_succ]
      refine wpAny_ready (rs := [11]) (by kernel_rfl) (by simp) ?_
      refine AllReady.cons (o := ⟨some 71, _, _, _, _, _⟩) rfl (fun K hK => ?_) AllReady.nil
      refine step_app app_int (by rfl) (.tmp 62) (.tmp 70) rfl (.slice VB 1 vd) 1 (nums ((A (i : Int)).take 0 ++ [m])) rfl HO3.out none 0 0 (nums ((A (i : Int)).drop 0)) rfl Hdl.out HR3.out (ones _) (by decide) Hm5.out Hm6.out ?_
      intro v4 w4 hg
      obtain ⟨hS4, VC, ve, hv4, _, _, _⟩ := HA3.out _ _ hg.out
      subst hv4
      have hb4 := hS4.bel
      have d1 := ((H.out.below hb4).cell Hi.out).trans (congrArg some Hsl.out)
      have f1 := (H.out.below hb4).frozen i
      have HW := hide (HF.out _ _ hS4)
      clear hg hS4 hb4
      refine hK _ _ ?_
      clear hK K
      refine wpAny_take (i := 14) (oi := ⟨some 74, _, _, _, _, _⟩) (v := ?_) rfl (by kernel_rfl) (by kernel_rfl) (by kernel_rfl) (fun _ _ _ h => h) (Or.inl ⟨by rfl, ?_⟩) ?_
      rotate_left 1
      · (intro w; go_simp; try with_reducible rfl)
      simp only [Act.put, List.setIfInBounds_toArray, List.set_cons_zero, List.set_cons_succ]
      refine wpAny_ready (rs := [15]) (by kernel_rfl) (by simp) ?_
      refine AllReady.cons (o := ⟨none, _, _, _, _, _⟩) rfl (fun K hK => ?_) AllReady.nil
      go_simp
      refine hK _ _ ?_
      clear hK K
      refine wpAny_done (by kernel_rfl) ?_ _
      clear d1 f1 c1
      go_wp2
      go_ret
      obtain ⟨G9, z1, z2, z3⟩ := HW.out
      exact ⟨by first | rfl | simp, G9, ⟨_, z1⟩, z2, z3⟩
/-- The number of a Put's error. -/
def code (v m : Int) : Int := if 0 ≤ v ∧ v < 4 then (if m < 1 then 1 else 0) else 5
theorem RPut_any (h : Rtb q s A w G) (hA : ∀ u, (A u).length ≤ 100000) (v : Int) {m : Int} (hm : I64 m) :
    Calls Tryd.prog 9 #[.pointer (some ⟨q, 0, none⟩), .int .i64 v, .int .i64 m] w fun e w' => e = .returned (.int .i64 (code v m)) ∧ After (rtbT q (step A v m)) w G w' := by
  unfold code step
  by_cases hv : 0 ≤ v ∧ v < 4
  · rw [if_pos hv]
    by_cases h1 : m < 1
    · rw [if_pos h1, if_neg (fun h => by omega)]
      exact RPut_arg h hv h1
    · rw [if_neg h1, if_pos ⟨hv, by omega⟩]
      obtain ⟨i, rfl⟩ : ∃ i : Nat, v = (i : Int) := ⟨v.toNat, by omega⟩
      have hi : i < 4 := by omega
      by_cases hin : m ∈ A (i : Int)
      · have e : put A (i : Int) m = A := funext fun u => by
          unfold put
          by_cases hu : u = (i : Int)
          · rw [if_pos hu, hu, ins_mem (h.good.asc _) hin]
          · rw [if_neg hu]
        rw [e]
        exact RPut_has h hA hi (by omega) hin
      · rcases (h.row i hi).2 with ⟨hsl, hz⟩ | ⟨g, o, cap, cur, hsl, hg, h2, h3, h4, h5⟩
        · exact RPut_new_n h hA hi ⟨by omega, hm.2⟩ hin hsl (List.eq_nil_of_length_eq_zero hz)
        · exact RPut_new_s h hA hi ⟨by omega, hm.2⟩ hin hsl h2
  · rw [if_neg hv, if_neg (fun h => hv h.1)]
    exact RPut_range h hv m
end

end Go.Proofs.YtenenhhijkjjfaaDoor.Mk
