/-
  The walk of isobarlaw15.MemberOrder: it returns true, at any first volumes and every marker; nothing that was there is changed. Condition: the library's variable errors.errorType holds what the program's own text lays.
-/
import Derived.Deep.RegionHeld3
import Derived.Test.YthoflpjmdhabmaaDoorMbRWalk
import Derived.Test.YthoflpjmdhabmaaDoorMbPlace
namespace Go.Proofs.YthoflpjmdhabmaaDoor.Mb
open Go.RowKit
open Pk hiding str str_data str_size str_of run_str str_append
open Sm hiding run_str
open Fa Dk Wn Lk

/-! ### The order of the first volumes -/
theorem newS_ok : ∀ (l : List Int) (s t : Nat), newS s l = .inl t → (∀ v ∈ l, (0 ≤ v ∧ v < 4) ∧ bt s v.toNat = false) ∧ l.Nodup ∧ ∀ u : Nat, bt t u = (bt s u || decide ((u : Int) ∈ l))
  | [], s, t, h => by
    simp only [newS, Sum.inl.injEq] at h
    subst h
    exact ⟨fun v hv => (by cases hv), List.nodup_nil, fun u => by simp⟩
  | v :: l, s, t, h => by
    unfold newS at h
    split at h
    · cases h
    · rename_i hv
      have hv' := Decidable.not_not.1 hv
      split at h
      · cases h
      · rename_i hb
        have hb' : bt s v.toNat = false := by simpa using hb
        obtain ⟨h1, h2, h3⟩ := newS_ok l _ t h
        have hnot : v ∉ l := fun hm => by
          have := (h1 v hm).2
          rw [bt_wit] at this
          simp at this
        refine ⟨fun x hx => ?_, List.nodup_cons.2 ⟨hnot, h2⟩, fun u => ?_⟩
        · rcases List.mem_cons.1 hx with rfl | hx
          · exact ⟨hv', hb'⟩
          · have := h1 x hx
            rw [bt_wit] at this
            exact ⟨this.1, by have := this.2; simp at this; exact this.1⟩
        · rw [h3 u, bt_wit]
          have e : decide (v.toNat = u) = decide ((u : Int) = v) := by
            rw [Bool.eq_iff_iff]
            simp only [decide_eq_true_eq]
            omega
          rw [e, Bool.or_assoc]
          congr 1
          rw [Bool.eq_iff_iff]
          simp
theorem newS_of : ∀ (l : List Int) (s : Nat), (∀ v ∈ l, (0 ≤ v ∧ v < 4) ∧ bt s v.toNat = false) → l.Nodup → ∃ t, newS s l = .inl t
  | [], s, _, _ => ⟨s, rfl⟩
  | v :: l, s, h, hn => by
    obtain ⟨h1, h2⟩ := h v (by simp)
    obtain ⟨n1, n2⟩ := List.nodup_cons.1 hn
    unfold newS
    rw [if_neg (Decidable.not_not.2 h1), if_neg (by simp [h2])]
    refine newS_of l _ (fun x hx => ?_) n2
    have h3 := h x (by simp [hx])
    refine ⟨h3.1, ?_⟩
    rw [bt_wit, h3.2]
    have : ¬ v.toNat = x.toNat := fun e => by
      have : v = x := by omega
      rw [this] at n1
      exact n1 hx
    simp [this]
theorem newS_rev {l : List Int} {t : Nat} (h : newS 0 l = .inl t) : newS 0 l.reverse = .inl t := by
  obtain ⟨h1, h2, h3⟩ := newS_ok l 0 t h
  obtain ⟨t', h'⟩ := newS_of l.reverse 0 (fun v hv => h1 v (by simpa using hv)) (by
    show List.Pairwise _ _
    rw [List.pairwise_reverse]
    exact List.Pairwise.imp (fun h e => h e.symm) h2)
  obtain ⟨_, _, h6⟩ := newS_ok l.reverse 0 t' h'
  rw [h']
  congr 1
  refine bt_ext (newS_lt _ 0 t' (by decide) h') (newS_lt _ 0 t (by decide) h) fun v _ => ?_
  rw [h6, h3]
  simp
theorem newS_rev_no {l : List Int} {z : Int × Int} (h : newS 0 l = .inr z) : ∃ z', newS 0 l.reverse = .inr z' := by
  cases hr : newS 0 l.reverse with
  | inr z' => exact ⟨z', rfl⟩
  | inl t =>
    have := newS_rev hr
    rw [List.reverse_reverse, h] at this
    cases this
theorem newS_len : ∀ (l : List Int) (s t : Nat), s < 16 → newS s l = .inl t → (vols t 4).length = (vols s 4).length + l.length
  | [], s, t, _, h => by
    simp only [newS, Sum.inl.injEq] at h
    subst h
    simp
  | v :: l, s, t, hs, h => by
    unfold newS at h
    split at h
    · cases h
    · rename_i hv
      have hv' := Decidable.not_not.1 hv
      split at h
      · cases h
      · rename_i hb
        have hb' : bt s v.toNat = false := by simpa using hb
        have h1 := newS_len l _ t (wit_lt (n := 4) hs (by omega)) h
        have h2 := (vols_sixteen s hs v.toNat (by omega)).1 hb'
        rw [h1, h2, List.length_cons]
        omega
theorem newS_mem {l : List Int} {t : Nat} (h : newS 0 l = .inl t) {x : Int} (hx : x ∈ vols t 4) : x ∈ l := by
  obtain ⟨v, _, rfl, hb⟩ := (vols_mem t x 4).1 hx
  rw [(newS_ok l 0 t h).2.2 v, bt_zero] at hb
  simpa using hb

theorem pred_of {j : Nat} (h : ¬ j = 0) : ∃ i, j = i + 1 := ⟨j - 1, by omega⟩
theorem pred_facts {j i k : Nat} (hi : j = i + 1) (hk : j < k) (h4 : k ≤ 4) : i < 3 ∧ (0 : Int) < (j : Int) ∧ (i : Int) < (k : Int) ∧ (j : Int) - 1 = (i : Int) ∧ i < k := by omega
theorem wrap_few {i : Nat} (h : i < 3) : IntKind.i64.wrap (i : Int) = (i : Int) := by simp only [IntKind.wrap_i64]; omega
set_option maxRecDepth 100000 in
theorem Order_long (A0 : Option Addr) (n0 c0 : Nat) (mark : Int) (w : World) (hn : 20 < n0) :
    Calls Tryd.prog 6 #[.slice A0 n0 c0, .int .i64 mark] w fun e w' => e = .returned (.bool true) ∧ Below w.heap.size w w' := by
  have hni : (20 : Int) < (n0 : Int) := by omega
  go_enter Tryd.func6, Tryd.ntmps6
  go_wp2_with fail
  refine (awake_any w).mono ?_
  rintro e w2 ⟨rfl, hb⟩
  have HB2 := hide hb
  clear hb
  go_wp2_with fail
  refine (awake_any w2).mono ?_
  rintro e w3 ⟨rfl, hb⟩
  have HB3 := hide (HB2.out.trans (hb.mono HB2.out.size))
  clear hb HB2
  go_wp2
  go_ret
  exact ⟨rfl, HB3.out⟩
set_option maxRecDepth 100000 in
set_option maxHeartbeats 16000000 in
theorem Order_law (A0 : Option Addr) (n0 c0 : Nat) (l0 : List Int) (mark : Int) (w : World) (hty : Ety w) (hl0 : l0.length = n0) (hs0 : Src w A0 (nums l0)) (hn0 : n0 ≤ 20) :
    Calls Tryd.prog 6 #[.slice A0 n0 c0, .int .i64 mark] w fun e w' => e = .returned (.bool true) ∧ Below w.heap.size w w' := by
  have hni : (n0 : Int) ≤ 20 := by omega
  have HE0 : Hid (∀ W, Below w.heap.size w W → Ety W) := fun W hW => Ety.below hty hW hty.lt
  have Hl0 := hide hl0
  have Hs0 := hide hs0
  have Hn0 := hide hn0
  clear hl0 hs0 hn0 hty
  go_enter Tryd.func6, Tryd.ntmps6
  go_wp2_with fail
  refine (awake_any w).mono ?_
  rintro e w2 ⟨rfl, hb⟩
  have HB2 := hide hb
  clear hb
  go_wp2_with fail
  have Hr : Hid (l0.reverse.length = n0) := by rw [← Hl0.out]; exact List.length_reverse
  go_loopw [5, 23] (fun v j wr => ∃ k : Nat, k ≤ n0 ∧ j = .int .i64 (k : Int) ∧ Hid (Ints wr w2.heap.size v (l0.reverse.take k)) ∧ Hid (Below w2.heap.size w2 wr)) (fun _ j _ => n0 - (intOf j).toNat)
  case atStart => exact ⟨0, Nat.zero_le _, rfl, Ints.nil _ _, Below.refl _ _⟩
  case round =>
    obtain ⟨k, hk, rfl, hv, hb⟩ := hrel
    rcases Nat.lt_or_ge k n0 with hlt | hge
    · have Hlt := hide hlt
      have hki : (k : Int) < (n0 : Int) := by omega
      obtain ⟨x, hx⟩ : ∃ x, l0.reverse[k]? = some x := ⟨_, List.getElem?_eq_getElem (by rw [Hr.out]; exact hlt)⟩
      obtain ⟨j, hj⟩ : ∃ j, n0 - 1 - k = j := ⟨_, rfl⟩
      have hjx : l0[j]? = some x := by
        rw [List.getElem?_reverse (by rw [Hl0.out]; exact hlt), Hl0.out, hj] at hx
        exact hx
      obtain ⟨g, o, rfl, hgl, b0⟩ := Src.num (Hs0.out.below (HB2.out.trans (hb.out.mono HB2.out.size))) hjx
      have HT := hide (show l0.reverse.take (k + 1) = l0.reverse.take k ++ [x] by rw [List.take_add_one, hx]; rfl)
      have hji : (n0 : Int) - 1 - (k : Int) = (j : Int) := by omega
      have Hji := hide hji
      have hjl : j < n0 := by omega
      obtain ⟨VA, vc, rfl, _, _, _⟩ := hv.out.form
      have hq : (l0.reverse.take k).length = k := by rw [List.length_take, Hr.out]; omega
      have hb5 : Below wr.heap.size wr (wr.alloc (.cells #[.int .i64 x] 3)) := (Below.refl _ _).alloc (Nat.le_refl _) _
      have hvr := (hv.out.below hb5).row
      have Hm1 := hide (show k + 1 ≤ maxLen by unfold maxLen; omega)
      have Hm2 := hide (show (k + 1) * 8 ≤ 140737488355328 by omega)
      rw [hq] at hvr ⊢
      have HO := hide hvr
      have HM := hide (Made.row (Below.refl _ wr) #[.int .i64 x] 3).src
      have HG : Hid (∀ (W2 : World) (v2 : Value), Grown (wr.alloc (.cells #[.int .i64 x] 3)) 3 1 (.slice VA k vc) (k + 1) (nums (l0.reverse.take k) ++ nums [x]) v2 W2 → Ints W2 w2.heap.size v2 (l0.reverse.take (k + 1)) ∧ Below w2.heap.size w2 W2) := fun W2 v2 hg => by
        have hkp := hg.kept (G := fun i => w2.heap.size ≤ i) hb5 (fun i hi => hv.out.own i (by rw [hq]; exact hi))
        refine ⟨⟨?_, fun i hi => ?_⟩, hb.out.trans (hkp.below (fun _ h => h) hb.out.size)⟩
        · rw [HT.out]
          have := hg.row
          simpa [nums, hq] using this
        · rcases hg.own i hi with h1 | h1
          · exact hv.out.own i (by rw [hq]; exact h1)
          · have := hb5.size
            have := hb.out.size
            omega
      have e1 : IntKind.i64.wrap (IntKind.i64.wrap ((n0 : Int) - 1) - (k : Int)) = (j : Int) := by simp only [IntKind.wrap_i64]; omega
      have hjn : (j : Int) < (n0 : Int) := by omega
      clear hlt hk hx hj hjx hgl hvr hb5
      go_wp2_with (at_builtin; go_must (refine wpList_app app_int rfl (.tmp 26) (.tmp 35) rfl (.slice VA k vc) k (nums (l0.reverse.take k)) rfl HO.out _ 1 1 (nums [x]) rfl rfl HM.out (fun u hu => by simp [nums] at hu; subst hu; rfl) (by decide) Hm1.out Hm2.out ?_))
      intro v2 W2 hg
      have HGW := hide (HG.out W2 v2 hg.out)
      clear hg HG HM HO
      go_wp2
      go_roundw
      case rel => exact ⟨k + 1, Hlt.out, by go_num, HGW.out.1, HGW.out.2⟩
      case measure => have := Hlt.out; simp [intOf]; omega
    · obtain rfl : k = n0 := by omega
      have hvv := hv.out
      rw [List.take_of_length_le (by rw [Hr.out]; exact Nat.le_refl _)] at hvv
      have HV := hide hvv
      have HB3 := hide (HB2.out.trans (hb.out.mono HB2.out.size))
      clear hge hk hv hvv hb HB2
      obtain ⟨VA, vc, hVA, _, _, _⟩ := HV.out.form
      rw [Hr.out] at hVA
      subst hVA
      go_wp2_with fail
      refine (New_any A0 k c0 l0 wr Hl0.out (by have := Hn0.out; omega) (Hs0.out.below HB3.out)).mono ?_
      intro e w4 hnew
      cases hN : newS 0 l0 with
      | inr z =>
        obtain ⟨u, f⟩ := z
        have hf := newS_err l0 0 u f hN
        obtain ⟨⟨u2, f2⟩, hN2⟩ := newS_rev_no hN
        have hf2 := newS_err _ 0 u2 f2 hN2
        rw [hN] at hnew
        obtain ⟨b, rfl, hF⟩ := hnew
        have HF := hide hF.1
        have HB4 := hide (HB3.out.trans (hF.2.mono HB3.out.size))
        have HI := hide (HV.out.below hF.2)
        obtain ⟨VB, vd, hVB, _, _, hsrc⟩ := HI.out.form
        simp only [Value.slice.injEq] at hVB
        obtain ⟨rfl, hk9, rfl⟩ := hVB
        clear hk9
        have HSrc := hide hsrc
        clear hF hN
        go_wp2_with fail
        refine (New_any VA k vc l0.reverse w4 Hr.out (by have := Hn0.out; omega) HSrc.out).mono ?_
        intro e w5 hnew
        rw [hN2] at hnew
        obtain ⟨b2, rfl, hF⟩ := hnew
        have HF5 := hide (Flt.below HF.out hF.2)
        have HB5 := hide (HB4.out.trans (hF.2.mono HB4.out.size))
        clear hF hN2 HF HB4 hsrc
        go_wp2_with fail
        go_quiet (fail)
        go_wp2_with fail
        generalize hW : World.drewN w5 _ = w6
        have hb6 : Below w5.heap.size w5 w6 := by rw [← hW]; exact ⟨rfl, rfl, rfl, Nat.le_refl _, fun _ _ => rfl⟩
        have HB6 := hide (HB5.out.trans (hb6.mono HB5.out.size))
        have HF6 := hide (Flt.below HF5.out hb6)
        clear hW hb6 HF5 HB5
        have HC := hide (Code_flt (HE0.out _ HB6.out) HF6.out)
        rcases hf with rfl | rfl
        · go_wp2_with fail
          refine HC.out.mono ?_
          rintro e w7 ⟨rfl, hb⟩
          have HB7 := hide (HB6.out.trans (hb.mono HB6.out.size))
          clear hb HC
          go_wp2
          go_ret
          exact ⟨rfl, HB7.out⟩
        · go_wp2_with fail
          refine HC.out.mono ?_
          rintro e w7 ⟨rfl, hb⟩
          have HB7 := hide (HB6.out.trans (hb.mono HB6.out.size))
          have HC2 := hide (Code_flt (HE0.out _ HB7.out) (Flt.below HF6.out hb))
          clear hb HC
          go_wp2_with fail
          refine HC2.out.mono ?_
          rintro e w8 ⟨rfl, hb⟩
          have HB8 := hide (HB7.out.trans (hb.mono HB7.out.size))
          clear hb HC2
          go_wp2
          go_ret
          exact ⟨rfl, HB8.out⟩
      | inl t =>
        have Hlen := hide (newS_len l0 0 t (by decide) hN)
        have Hmem := hide (fun x (hx : x ∈ vols t 4) => newS_mem hN hx)
        have Ht := hide (newS_lt l0 0 t (by decide) hN)
        have HN2 := hide (newS_rev hN)
        rw [hN] at hnew
        have hnew' : e = .returned (.tuple #[.pointer (some ⟨wr.heap.size, 0, none⟩), .nilIface]) ∧ St wr [grpT wr.heap.size t []] w4 := hnew
        obtain ⟨rfl, hS⟩ := hnew'
        have HS4 := hide hS
        have HI := hide (HV.out.below hS.bel)
        have HE : Hid (∀ W, St wr [] W → Below w.heap.size w W) := fun W hW => HB3.out.trans (hW.bel.mono HB3.out.size)
        obtain ⟨VB, vd, hVB, _, _, hsrc⟩ := HI.out.form
        simp only [Value.slice.injEq] at hVB
        obtain ⟨rfl, hk9, rfl⟩ := hVB
        clear hk9
        have HSrc := hide hsrc
        clear hnew hS hN HB3 HV
        generalize wr.heap.size = p at *
        go_wp2_with fail
        refine (New_any VA k vc l0.reverse w4 Hr.out (by have := Hn0.out; omega) HSrc.out).mono ?_
        intro e w5 hnew
        rw [HN2.out] at hnew
        have hnew' : e = .returned (.tuple #[.pointer (some ⟨w4.heap.size, 0, none⟩), .nilIface]) ∧ St w4 [grpT w4.heap.size t []] w5 := hnew
        obtain ⟨rfl, hS⟩ := hnew'
        obtain ⟨G, hp, hG, _⟩ := St.opened hS (i := 0) rfl
        have HS5 := hide (show St wr [grpT p t [], grpT w4.heap.size t []] w5 from HS4.out.add hS.bel hp hG)
        clear hnew hS hp hG HS4 hsrc HN2
        generalize w4.heap.size = q at *
        go_wp2_with fail
        go_quiet (fail)
        go_wp2_with fail
        generalize hW : World.drewN w5 _ = w6
        have HS6 := hide (HS5.out.below (w' := w6) (by rw [← hW]; exact ⟨rfl, rfl, rfl, Nat.le_refl _, fun _ _ => rfl⟩))
        clear hW HS5
        go_wp2_with fail
        refine (S_at HS6.out (i := 0) rfl Fine.nil Ht.out mark).mono ?_
        rintro e w7 ⟨LA, lc, rfl, hS⟩
        have HS7 := hide (show St wr [grpT p t [], grpT q t [], rowT 3 1 (.slice LA (vols t 4).length lc) (vols t 4).length (nums (vols t 4))] w7 from hS)
        rw [show vols (atS t [] mark) 4 = vols t 4 from rfl]
        have hlen : (vols t 4).length = k := by rw [Hlen.out, Hl0.out, show (vols 0 4).length = 0 by decide, Nat.zero_add]
        have hk4 : k ≤ 4 := by rw [← hlen]; exact vols_len t 4
        have Hk4 := hide hk4
        have Hvl := hide hlen
        rw [hlen] at HS7 ⊢
        clear hS HS6 hlen hk4
        generalize wr = wz at *
        go_wp2_with fail
        go_loopw [75] (fun jv wr => ∃ j : Nat, j ≤ k ∧ jv = .int .i64 (j : Int) ∧ Hid (St wz [grpT p t [], grpT q t [], rowT 3 1 (.slice LA k lc) k (nums (vols t 4))] wr)) (fun jv _ => k - (intOf jv).toNat)
        case atStart => exact ⟨0, Nat.zero_le _, rfl, HS7.out⟩
        case round =>
          obtain ⟨j, hj, rfl, hst⟩ := hrel
          rcases Nat.lt_or_ge j k with hlt | hge
          · have Hlt := hide hlt
            have hji : (j : Int) < (k : Int) := by omega
            obtain ⟨x, hx⟩ : ∃ x, (vols t 4)[j]? = some x := ⟨_, List.getElem?_eq_getElem (by rw [Hvl.out]; exact hlt)⟩
            have HSd := hide (hst.out.below (Below.refl _ wr).drew)
            have Hs1 := hide (St.src HSd.out (i := 2) rfl)
            obtain ⟨g, o, rfl, hgl, a0⟩ := Src.num Hs1.out hx
            have HH := hide (hasL_any (w := wr.drew) l0 k A0 c0 x Hl0.out (by have := Hn0.out; omega) (Hs0.out.below (HE.out _ (St.weaken (Ts := []) HSd.out))))
            have hmx := Hmem.out x (List.mem_of_getElem? hx)
            rw [decide_eq_true hmx] at HH
            by_cases h0 : j = 0
            · subst h0
              rw [Nat.add_zero] at a0
              clear hlt hj hgl hst hmx
              go_wp2_with fail
              have hS0 := a0
              refine wp_region_held (S := (fun W : World => W.cell? ⟨g, o, none⟩ = some (.int .i64 x))) (by kernel_rfl) ?_
              change wpAnyH _ _ _ _ _ _ _ _ (World.drew _)
              refine wpAnyH_take (i := 0) (oi := ⟨some 78, _, _, _, _, _⟩) (v := ?_) rfl (by kernel_rfl) (by kernel_rfl) (by kernel_rfl) (fun _ _ _ h => h) (Or.inl ⟨by rfl, ?_⟩) hS0 ?_
              rotate_left 1
              · (intro w hSw; obtain hSw1 := hSw; go_simp; try with_reducible rfl)
              simp only [Act.put, List.setIfInBounds_toArray, List.set_cons_zero, List.set_cons_succ]
              refine wpAnyH_take (i := 1) (oi := ⟨some 79, _, _, _, _, _⟩) (v := ?_) rfl (by kernel_rfl) (by kernel_rfl) (by kernel_rfl) (fun _ _ _ h => h) (Or.inl ⟨by rfl, ?_⟩) hS0 ?_
              rotate_left 1
              · (intro w hSw; obtain hSw1 := hSw; go_simp; try with_reducible rfl)
              simp only [Act.put, List.setIfInBounds_toArray, List.set_cons_zero, List.set_cons_succ]
              refine wpAnyH_take (i := 2) (oi := ⟨some 80, _, _, _, _, _⟩) (v := ?_) rfl (by kernel_rfl) (by kernel_rfl) (by kernel_rfl) (fun _ _ _ h => h) (Or.inl ⟨by rfl, ?_⟩) hS0 ?_
              rotate_left 1
              · (intro w hSw; obtain hSw1 := hSw; go_simp; try with_reducible rfl)
              simp only [Act.put, List.setIfInBounds_toArray, List.set_cons_zero, List.set_cons_succ]
              refine wpAnyH_take (i := 3) (oi := ⟨some 81, _, _, _, _, _⟩) (v := ?_) rfl (by kernel_rfl) (by kernel_rfl) (by kernel_rfl) (fun _ _ _ h => h) (Or.inl ⟨by rfl, ?_⟩) hS0 ?_
              rotate_left 1
              · (intro w hSw; obtain hSw1 := hSw; go_simp; try with_reducible rfl)
              simp only [Act.put, List.setIfInBounds_toArray, List.set_cons_zero, List.set_cons_succ]
              refine wpAnyH_take (i := 4) (oi := ⟨some 82, _, _, _, _, _⟩) (v := ?_) rfl (by kernel_rfl) (by kernel_rfl) (by kernel_rfl) (fun _ _ _ h => h) (Or.inl ⟨by rfl, ?_⟩) hS0 ?_
              rotate_left 1
              · (intro w hSw; obtain hSw1 := hSw; go_simp; try with_reducible rfl)
              simp only [Act.put, List.setIfInBounds_toArray, List.set_cons_zero, List.set_cons_succ]
              refine wpAnyH_ready (rs := [5]) (by kernel_rfl) (by simp) ?_
              refine AllReadyH.cons (o := ⟨some 83, _, _, _, _, _⟩) rfl (fun K hK => ?_) AllReadyH.nil
              go_simp
              refine HH.out.mono ?_
              rintro e wh ⟨rfl, hwh⟩
              subst hwh
              have hS1 := hS0
              refine hK.out _ _ hS1 (fun hHeld => ?_)
              clear hK K
              clear hHeld
              refine wpAnyH_take (i := 6) (oi := ⟨some 84, _, _, _, _, _⟩) (v := ?_) rfl (by kernel_rfl) (by kernel_rfl) (by kernel_rfl) (fun _ _ _ h => h) (Or.inl ⟨by rfl, ?_⟩) hS1 ?_
              rotate_left 1
              · (intro w hSw; obtain hSw1 := hSw; go_simp; try with_reducible rfl)
              simp only [Act.put, List.setIfInBounds_toArray, List.set_cons_zero, List.set_cons_succ]
              refine wpAnyH_take (i := 7) (oi := ⟨some 85, _, _, _, _, _⟩) (v := ?_) rfl (by kernel_rfl) (by kernel_rfl) (by kernel_rfl) (fun _ _ _ h => h) (Or.inl ⟨by rfl, ?_⟩) hS1 ?_
              rotate_left 1
              · (intro w hSw; obtain hSw1 := hSw; go_simp; try with_reducible rfl)
              simp only [Act.put, List.setIfInBounds_toArray, List.set_cons_zero, List.set_cons_succ]
              refine wpAnyH_take (i := 8) (oi := ⟨some 86, _, _, _, _, _⟩) (v := ?_) rfl (by kernel_rfl) (by kernel_rfl) (by kernel_rfl) (fun _ _ _ h => h) (Or.inl ⟨by rfl, ?_⟩) hS1 ?_
              rotate_left 1
              · (intro w hSw; obtain hSw1 := hSw; go_simp; try with_reducible rfl)
              simp only [Act.put, List.setIfInBounds_toArray, List.set_cons_zero, List.set_cons_succ]
              refine wpAnyH_take (i := 9) (oi := ⟨some 87, _, _, _, _, _⟩) (v := ?_) rfl (by kernel_rfl) (by kernel_rfl) (by kernel_rfl) (fun _ _ _ h => h) (Or.inl ⟨by rfl, ?_⟩) hS1 ?_
              rotate_left 1
              · (intro w hSw; obtain hSw1 := hSw; go_simp; try with_reducible rfl)
              simp only [Act.put, List.setIfInBounds_toArray, List.set_cons_zero, List.set_cons_succ]
              refine wpAnyH_take (i := 10) (oi := ⟨some 88, _, _, _, _, _⟩) (v := ?_) rfl (by kernel_rfl) (by kernel_rfl) (by kernel_rfl) (fun _ _ _ h => h) (Or.inl ⟨by rfl, ?_⟩) hS1 ?_
              rotate_left 1
              · (intro w hSw; obtain hSw1 := hSw; go_simp; try with_reducible rfl)
              simp only [Act.put, List.setIfInBounds_toArray, List.set_cons_zero, List.set_cons_succ]
              refine wpAnyH_take (i := 11) (oi := ⟨some 89, _, _, _, _, _⟩) (v := undef) rfl (by kernel_rfl) (by kernel_rfl) (by kernel_rfl) (fun _ _ _ h => h) (Or.inr ⟨by rfl, rfl⟩) hS1 ?_
              simp only [Act.put, List.setIfInBounds_toArray, List.set_cons_zero, List.set_cons_succ]
              refine wpAnyH_take (i := 12) (oi := ⟨some 90, _, _, _, _, _⟩) (v := undef) rfl (by kernel_rfl) (by kernel_rfl) (by kernel_rfl) (fun _ _ _ h => h) (Or.inr ⟨by rfl, rfl⟩) hS1 ?_
              simp only [Act.put, List.setIfInBounds_toArray, List.set_cons_zero, List.set_cons_succ]
              refine wpAnyH_take (i := 13) (oi := ⟨some 91, _, _, _, _, _⟩) (v := undef) rfl (by kernel_rfl) (by kernel_rfl) (by kernel_rfl) (fun _ _ _ h => h) (Or.inr ⟨by rfl, rfl⟩) hS1 ?_
              simp only [Act.put, List.setIfInBounds_toArray, List.set_cons_zero, List.set_cons_succ]
              refine wpAnyH_take (i := 14) (oi := ⟨some 92, _, _, _, _, _⟩) (v := undef) rfl (by kernel_rfl) (by kernel_rfl) (by kernel_rfl) (fun _ _ _ h => h) (Or.inr ⟨by rfl, rfl⟩) hS1 ?_
              simp only [Act.put, List.setIfInBounds_toArray, List.set_cons_zero, List.set_cons_succ]
              refine wpAnyH_take (i := 15) (oi := ⟨some 93, _, _, _, _, _⟩) (v := undef) rfl (by kernel_rfl) (by kernel_rfl) (by kernel_rfl) (fun _ _ _ h => h) (Or.inr ⟨by rfl, rfl⟩) hS1 ?_
              simp only [Act.put, List.setIfInBounds_toArray, List.set_cons_zero, List.set_cons_succ]
              refine wpAnyH_take (i := 16) (oi := ⟨some 94, _, _, _, _, _⟩) (v := undef) rfl (by kernel_rfl) (by kernel_rfl) (by kernel_rfl) (fun _ _ _ h => h) (Or.inr ⟨by rfl, rfl⟩) hS1 ?_
              simp only [Act.put, List.setIfInBounds_toArray, List.set_cons_zero, List.set_cons_succ]
              refine wpAnyH_take (i := 17) (oi := ⟨some 95, _, _, _, _, _⟩) (v := undef) rfl (by kernel_rfl) (by kernel_rfl) (by kernel_rfl) (fun _ _ _ h => h) (Or.inr ⟨by rfl, rfl⟩) hS1 ?_
              simp only [Act.put, List.setIfInBounds_toArray, List.set_cons_zero, List.set_cons_succ]
              refine wpAnyH_take (i := 18) (oi := ⟨some 96, _, _, _, _, _⟩) (v := undef) rfl (by kernel_rfl) (by kernel_rfl) (by kernel_rfl) (fun _ _ _ h => h) (Or.inr ⟨by rfl, rfl⟩) hS1 ?_
              simp only [Act.put, List.setIfInBounds_toArray, List.set_cons_zero, List.set_cons_succ]
              refine wpAnyH_take (i := 19) (oi := ⟨some 97, _, _, _, _, _⟩) (v := undef) rfl (by kernel_rfl) (by kernel_rfl) (by kernel_rfl) (fun _ _ _ h => h) (Or.inr ⟨by rfl, rfl⟩) hS1 ?_
              simp only [Act.put, List.setIfInBounds_toArray, List.set_cons_zero, List.set_cons_succ]
              refine wpAnyH_take (i := 20) (oi := ⟨some 98, _, _, _, _, _⟩) (v := undef) rfl (by kernel_rfl) (by kernel_rfl) (by kernel_rfl) (fun _ _ _ h => h) (Or.inr ⟨by rfl, rfl⟩) hS1 ?_
              simp only [Act.put, List.setIfInBounds_toArray, List.set_cons_zero, List.set_cons_succ]
              refine wpAnyH_take (i := 21) (oi := ⟨some 99, _, _, _, _, _⟩) (v := ?_) rfl (by kernel_rfl) (by kernel_rfl) (by kernel_rfl) (fun _ _ _ h => h) (Or.inl ⟨by rfl, ?_⟩) hS1 ?_
              rotate_left 1
              · (intro w hSw; obtain hSw1 := hSw; go_simp; try with_reducible rfl)
              simp only [Act.put, List.setIfInBounds_toArray, List.set_cons_zero, List.set_cons_succ]
              refine wpAnyH_take (i := 22) (oi := ⟨some 100, _, _, _, _, _⟩) (v := ?_) rfl (by kernel_rfl) (by kernel_rfl) (by kernel_rfl) (fun _ _ _ h => h) (Or.inl ⟨by rfl, ?_⟩) hS1 ?_
              rotate_left 1
              · (intro w hSw; obtain hSw1 := hSw; go_simp; try with_reducible rfl)
              simp only [Act.put, List.setIfInBounds_toArray, List.set_cons_zero, List.set_cons_succ]
              refine wpAnyH_done (by kernel_rfl) ?_ _
              clear hS0 hS1
              have HSr := hide HSd.out
              clear HSd
              go_wp2
              go_roundw
              case rel => exact ⟨0 + 1, Hlt.out, by go_num, HSr.out⟩
              case measure => have := Hlt.out; simp [intOf]; omega
            · obtain ⟨i, hi⟩ := pred_of h0
              obtain ⟨q0, q1, q2, q3, q4⟩ := pred_facts hi hlt Hk4.out
              obtain ⟨y, hy⟩ : ∃ y, (vols t 4)[i]? = some y := ⟨_, List.getElem?_eq_getElem (by rw [Hvl.out]; exact q4)⟩
              obtain ⟨g', o', e', _, a1⟩ := Src.num Hs1.out hy
              simp only [Option.some.injEq, Addr.mk.injEq] at e'
              obtain ⟨rfl, rfl, _⟩ := e'
              have hyx := vols_rise t Ht.out i q0 y x hy (by rw [← hi]; exact hx)
              have hge : ¬ x ≤ y := Int.not_le.2 hyx
              have hiz : (0 : Int) < (j : Int) := q1
              have hik : (i : Int) < (k : Int) := q2
              have hjp : 0 < j := Int.natCast_pos.1 q1
              have e6 := wrap_few q0
              have hin := q4
              have hdec : decide ((0 : Int) < (j : Int)) = true := decide_eq_true q1
              have e5 : (j : Int) - 1 = (i : Int) := q3
              clear hlt hj hgl hst hmx h0 hyx hi hx hy q0 q1 q2 q3 q4
              go_wp2_with fail
              have hS0 := And.intro a0 a1
              refine wp_region_held (S := (fun W : World => W.cell? ⟨g, o + j, none⟩ = some (.int .i64 x) ∧ W.cell? ⟨g, o + i, none⟩ = some (.int .i64 y))) (by kernel_rfl) ?_
              change wpAnyH _ _ _ _ _ _ _ _ (World.drew _)
              refine wpAnyH_take (i := 0) (oi := ⟨some 78, _, _, _, _, _⟩) (v := ?_) rfl (by kernel_rfl) (by kernel_rfl) (by kernel_rfl) (fun _ _ _ h => h) (Or.inl ⟨by rfl, ?_⟩) hS0 ?_
              rotate_left 1
              · (intro w hSw; obtain ⟨hSw1, hSw2⟩ := hSw; go_simp; try with_reducible rfl)
              simp only [Act.put, List.setIfInBounds_toArray, List.set_cons_zero, List.set_cons_succ]
              refine wpAnyH_take (i := 1) (oi := ⟨some 79, _, _, _, _, _⟩) (v := ?_) rfl (by kernel_rfl) (by kernel_rfl) (by kernel_rfl) (fun _ _ _ h => h) (Or.inl ⟨by rfl, ?_⟩) hS0 ?_
              rotate_left 1
              · (intro w hSw; obtain ⟨hSw1, hSw2⟩ := hSw; go_simp; try with_reducible rfl)
              simp only [Act.put, List.setIfInBounds_toArray, List.set_cons_zero, List.set_cons_succ]
              refine wpAnyH_take (i := 2) (oi := ⟨some 80, _, _, _, _, _⟩) (v := ?_) rfl (by kernel_rfl) (by kernel_rfl) (by kernel_rfl) (fun _ _ _ h => h) (Or.inl ⟨by rfl, ?_⟩) hS0 ?_
              rotate_left 1
              · (intro w hSw; obtain ⟨hSw1, hSw2⟩ := hSw; go_simp; try with_reducible rfl)
              simp only [Act.put, List.setIfInBounds_toArray, List.set_cons_zero, List.set_cons_succ]
              refine wpAnyH_take (i := 3) (oi := ⟨some 81, _, _, _, _, _⟩) (v := ?_) rfl (by kernel_rfl) (by kernel_rfl) (by kernel_rfl) (fun _ _ _ h => h) (Or.inl ⟨by rfl, ?_⟩) hS0 ?_
              rotate_left 1
              · (intro w hSw; obtain ⟨hSw1, hSw2⟩ := hSw; go_simp; try with_reducible rfl)
              simp only [Act.put, List.setIfInBounds_toArray, List.set_cons_zero, List.set_cons_succ]
              refine wpAnyH_take (i := 4) (oi := ⟨some 82, _, _, _, _, _⟩) (v := ?_) rfl (by kernel_rfl) (by kernel_rfl) (by kernel_rfl) (fun _ _ _ h => h) (Or.inl ⟨by rfl, ?_⟩) hS0 ?_
              rotate_left 1
              · (intro w hSw; obtain ⟨hSw1, hSw2⟩ := hSw; go_simp; try with_reducible rfl)
              simp only [Act.put, List.setIfInBounds_toArray, List.set_cons_zero, List.set_cons_succ]
              refine wpAnyH_ready (rs := [5]) (by kernel_rfl) (by simp) ?_
              refine AllReadyH.cons (o := ⟨some 83, _, _, _, _, _⟩) rfl (fun K hK => ?_) AllReadyH.nil
              go_simp
              refine HH.out.mono ?_
              rintro e wh ⟨rfl, hwh⟩
              subst hwh
              have hS1 := hS0
              refine hK.out _ _ hS1 (fun hHeld => ?_)
              clear hK K
              clear hHeld
              refine wpAnyH_take (i := 6) (oi := ⟨some 84, _, _, _, _, _⟩) (v := ?_) rfl (by kernel_rfl) (by kernel_rfl) (by kernel_rfl) (fun _ _ _ h => h) (Or.inl ⟨by rfl, ?_⟩) hS1 ?_
              rotate_left 1
              · (intro w hSw; obtain ⟨hSw1, hSw2⟩ := hSw; go_simp; try with_reducible rfl)
              simp only [Act.put, List.setIfInBounds_toArray, List.set_cons_zero, List.set_cons_succ]
              refine wpAnyH_take (i := 7) (oi := ⟨some 85, _, _, _, _, _⟩) (v := ?_) rfl (by kernel_rfl) (by kernel_rfl) (by kernel_rfl) (fun _ _ _ h => h) (Or.inl ⟨by rfl, ?_⟩) hS1 ?_
              rotate_left 1
              · (intro w hSw; obtain ⟨hSw1, hSw2⟩ := hSw; go_simp; try with_reducible rfl)
              simp only [Act.put, List.setIfInBounds_toArray, List.set_cons_zero, List.set_cons_succ]
              refine wpAnyH_take (i := 8) (oi := ⟨some 86, _, _, _, _, _⟩) (v := ?_) rfl (by kernel_rfl) (by kernel_rfl) (by kernel_rfl) (fun _ _ _ h => h) (Or.inl ⟨by rfl, ?_⟩) hS1 ?_
              rotate_left 1
              · (intro w hSw; obtain ⟨hSw1, hSw2⟩ := hSw; go_simp; try with_reducible rfl)
              simp only [Act.put, List.setIfInBounds_toArray, List.set_cons_zero, List.set_cons_succ]
              refine wpAnyH_take (i := 9) (oi := ⟨some 87, _, _, _, _, _⟩) (v := ?_) rfl (by kernel_rfl) (by kernel_rfl) (by kernel_rfl) (fun _ _ _ h => h) (Or.inl ⟨by rfl, ?_⟩) hS1 ?_
              rotate_left 1
              · (intro w hSw; obtain ⟨hSw1, hSw2⟩ := hSw; go_simp; try with_reducible rfl)
              simp only [Act.put, List.setIfInBounds_toArray, List.set_cons_zero, List.set_cons_succ]
              refine wpAnyH_take (i := 10) (oi := ⟨some 88, _, _, _, _, _⟩) (v := ?_) rfl (by kernel_rfl) (by kernel_rfl) (by kernel_rfl) (fun _ _ _ h => h) (Or.inl ⟨by rfl, ?_⟩) hS1 ?_
              rotate_left 1
              · (intro w hSw; obtain ⟨hSw1, hSw2⟩ := hSw; go_simp; try with_reducible rfl)
              simp only [Act.put, List.setIfInBounds_toArray, List.set_cons_zero, List.set_cons_succ]
              refine wpAnyH_take (i := 11) (oi := ⟨some 89, _, _, _, _, _⟩) (v := ?_) rfl (by kernel_rfl) (by kernel_rfl) (by kernel_rfl) (fun _ _ _ h => h) (Or.inl ⟨by rfl, ?_⟩) hS1 ?_
              rotate_left 1
              · (intro w hSw; obtain ⟨hSw1, hSw2⟩ := hSw; go_simp; try with_reducible rfl)
              simp only [Act.put, List.setIfInBounds_toArray, List.set_cons_zero, List.set_cons_succ]
              refine wpAnyH_take (i := 12) (oi := ⟨some 90, _, _, _, _, _⟩) (v := ?_) rfl (by kernel_rfl) (by kernel_rfl) (by kernel_rfl) (fun _ _ _ h => h) (Or.inl ⟨by rfl, ?_⟩) hS1 ?_
              rotate_left 1
              · (intro w hSw; obtain ⟨hSw1, hSw2⟩ := hSw; go_simp; try with_reducible rfl)
              simp only [Act.put, List.setIfInBounds_toArray, List.set_cons_zero, List.set_cons_succ]
              refine wpAnyH_take (i := 13) (oi := ⟨some 91, _, _, _, _, _⟩) (v := ?_) rfl (by kernel_rfl) (by kernel_rfl) (by kernel_rfl) (fun _ _ _ h => h) (Or.inl ⟨by rfl, ?_⟩) hS1 ?_
              rotate_left 1
              · (intro w hSw; obtain ⟨hSw1, hSw2⟩ := hSw; go_simp; try with_reducible rfl)
              simp only [Act.put, List.setIfInBounds_toArray, List.set_cons_zero, List.set_cons_succ]
              refine wpAnyH_take (i := 14) (oi := ⟨some 92, _, _, _, _, _⟩) (v := ?_) rfl (by kernel_rfl) (by kernel_rfl) (by kernel_rfl) (fun _ _ _ h => h) (Or.inl ⟨by rfl, ?_⟩) hS1 ?_
              rotate_left 1
              · (intro w hSw; obtain ⟨hSw1, hSw2⟩ := hSw; go_simp; try with_reducible rfl)
              simp only [Act.put, List.setIfInBounds_toArray, List.set_cons_zero, List.set_cons_succ]
              refine wpAnyH_take (i := 15) (oi := ⟨some 93, _, _, _, _, _⟩) (v := ?_) rfl (by kernel_rfl) (by kernel_rfl) (by kernel_rfl) (fun _ _ _ h => h) (Or.inl ⟨by rfl, ?_⟩) hS1 ?_
              rotate_left 1
              · (intro w hSw; obtain ⟨hSw1, hSw2⟩ := hSw; go_simp; try with_reducible rfl)
              simp only [Act.put, List.setIfInBounds_toArray, List.set_cons_zero, List.set_cons_succ]
              refine wpAnyH_take (i := 16) (oi := ⟨some 94, _, _, _, _, _⟩) (v := ?_) rfl (by kernel_rfl) (by kernel_rfl) (by kernel_rfl) (fun _ _ _ h => h) (Or.inl ⟨by rfl, ?_⟩) hS1 ?_
              rotate_left 1
              · (intro w hSw; obtain ⟨hSw1, hSw2⟩ := hSw; go_simp; try with_reducible rfl)
              simp only [Act.put, List.setIfInBounds_toArray, List.set_cons_zero, List.set_cons_succ]
              refine wpAnyH_take (i := 17) (oi := ⟨some 95, _, _, _, _, _⟩) (v := ?_) rfl (by kernel_rfl) (by kernel_rfl) (by kernel_rfl) (fun _ _ _ h => h) (Or.inl ⟨by rfl, ?_⟩) hS1 ?_
              rotate_left 1
              · (intro w hSw; obtain ⟨hSw1, hSw2⟩ := hSw; go_simp; try with_reducible rfl)
              simp only [Act.put, List.setIfInBounds_toArray, List.set_cons_zero, List.set_cons_succ]
              refine wpAnyH_take (i := 18) (oi := ⟨some 96, _, _, _, _, _⟩) (v := ?_) rfl (by kernel_rfl) (by kernel_rfl) (by kernel_rfl) (fun _ _ _ h => h) (Or.inl ⟨by rfl, ?_⟩) hS1 ?_
              rotate_left 1
              · (intro w hSw; obtain ⟨hSw1, hSw2⟩ := hSw; go_simp; try with_reducible rfl)
              simp only [Act.put, List.setIfInBounds_toArray, List.set_cons_zero, List.set_cons_succ]
              refine wpAnyH_take (i := 19) (oi := ⟨some 97, _, _, _, _, _⟩) (v := ?_) rfl (by kernel_rfl) (by kernel_rfl) (by kernel_rfl) (fun _ _ _ h => h) (Or.inl ⟨by rfl, ?_⟩) hS1 ?_
              rotate_left 1
              · (intro w hSw; obtain ⟨hSw1, hSw2⟩ := hSw; go_simp; try with_reducible rfl)
              simp only [Act.put, List.setIfInBounds_toArray, List.set_cons_zero, List.set_cons_succ]
              refine wpAnyH_take (i := 20) (oi := ⟨some 98, _, _, _, _, _⟩) (v := ?_) rfl (by kernel_rfl) (by kernel_rfl) (by kernel_rfl) (fun _ _ _ h => h) (Or.inl ⟨by rfl, ?_⟩) hS1 ?_
              rotate_left 1
              · (intro w hSw; obtain ⟨hSw1, hSw2⟩ := hSw; go_simp; try with_reducible rfl)
              simp only [Act.put, List.setIfInBounds_toArray, List.set_cons_zero, List.set_cons_succ]
              refine wpAnyH_take (i := 21) (oi := ⟨some 99, _, _, _, _, _⟩) (v := ?_) rfl (by kernel_rfl) (by kernel_rfl) (by kernel_rfl) (fun _ _ _ h => h) (Or.inl ⟨by rfl, ?_⟩) hS1 ?_
              rotate_left 1
              · (intro w hSw; obtain ⟨hSw1, hSw2⟩ := hSw; go_simp; try with_reducible rfl)
              simp only [Act.put, List.setIfInBounds_toArray, List.set_cons_zero, List.set_cons_succ]
              refine wpAnyH_take (i := 22) (oi := ⟨some 100, _, _, _, _, _⟩) (v := ?_) rfl (by kernel_rfl) (by kernel_rfl) (by kernel_rfl) (fun _ _ _ h => h) (Or.inl ⟨by rfl, ?_⟩) hS1 ?_
              rotate_left 1
              · (intro w hSw; obtain ⟨hSw1, hSw2⟩ := hSw; go_simp; try with_reducible rfl)
              simp only [Act.put, List.setIfInBounds_toArray, List.set_cons_zero, List.set_cons_succ]
              refine wpAnyH_done (by kernel_rfl) ?_ _
              clear hS0 hS1
              have HSr := hide HSd.out
              clear HSd
              go_wp2
              go_roundw
              case rel => exact ⟨j + 1, Hlt.out, by go_num, HSr.out⟩
              case measure => have := Hlt.out; simp [intOf]; omega
          · obtain rfl : j = k := by omega
            have HX0 := hide (hst.out.below (Below.refl _ wr).drew)
            clear hge hj hst HS7
            go_wp2_with fail
            refine wp_region_any (by kernel_rfl) ?_
            change wpAny _ _ _ _ _ _ _ (World.drew _)
            refine wpAny_take (i := 0) (oi := ⟨some 102, _, _, _, _, _⟩) (v := ?_) rfl (by kernel_rfl) (by kernel_rfl) (by kernel_rfl) (fun _ _ _ h => h) (Or.inl ⟨by rfl, ?_⟩) ?_
            rotate_left 1
            · (intro w; go_simp; try with_reducible rfl)
            simp only [Act.put, List.setIfInBounds_toArray, List.set_cons_zero, List.set_cons_succ]
            refine wpAny_take (i := 1) (oi := ⟨some 103, _, _, _, _, _⟩) (v := ?_) rfl (by kernel_rfl) (by kernel_rfl) (by kernel_rfl) (fun _ _ _ h => h) (Or.inl ⟨by rfl, ?_⟩) ?_
            rotate_left 1
            · (intro w; go_simp; try with_reducible rfl)
            simp only [Act.put, List.setIfInBounds_toArray, List.set_cons_zero, List.set_cons_succ]
            refine wpAny_take (i := 2) (oi := ⟨some 104, _, _, _, _, _⟩) (v := ?_) rfl (by kernel_rfl) (by kernel_rfl) (by kernel_rfl) (fun _ _ _ h => h) (Or.inl ⟨by rfl, ?_⟩) ?_
            rotate_left 1
            · (intro w; go_simp; try with_reducible rfl)
            simp only [Act.put, List.setIfInBounds_toArray, List.set_cons_zero, List.set_cons_succ]
            refine wpAny_take (i := 3) (oi := ⟨some 105, _, _, _, _, _⟩) (v := ?_) rfl (by kernel_rfl) (by kernel_rfl) (by kernel_rfl) (fun _ _ _ h => h) (Or.inl ⟨by rfl, ?_⟩) ?_
            rotate_left 1
            · (intro w; go_simp; try with_reducible rfl)
            simp only [Act.put, List.setIfInBounds_toArray, List.set_cons_zero, List.set_cons_succ]
            refine wpAny_take (i := 4) (oi := ⟨some 106, _, _, _, _, _⟩) (v := ?_) rfl (by kernel_rfl) (by kernel_rfl) (by kernel_rfl) (fun _ _ _ h => h) (Or.inl ⟨by rfl, ?_⟩) ?_
            rotate_left 1
            · (intro w; go_simp; try with_reducible rfl)
            simp only [Act.put, List.setIfInBounds_toArray, List.set_cons_zero, List.set_cons_succ]
            refine wpAny_take (i := 5) (oi := ⟨some 107, _, _, _, _, _⟩) (v := ?_) rfl (by kernel_rfl) (by kernel_rfl) (by kernel_rfl) (fun _ _ _ h => h) (Or.inl ⟨by rfl, ?_⟩) ?_
            rotate_left 1
            · (intro w; go_simp; try with_reducible rfl)
            simp only [Act.put, List.setIfInBounds_toArray, List.set_cons_zero, List.set_cons_succ]
            refine wpAny_take (i := 6) (oi := ⟨some 108, _, _, _, _, _⟩) (v := ?_) rfl (by kernel_rfl) (by kernel_rfl) (by kernel_rfl) (fun _ _ _ h => h) (Or.inl ⟨by rfl, ?_⟩) ?_
            rotate_left 1
            · (intro w; go_simp; try with_reducible rfl)
            simp only [Act.put, List.setIfInBounds_toArray, List.set_cons_zero, List.set_cons_succ]
            refine wpAny_take (i := 7) (oi := ⟨some 109, _, _, _, _, _⟩) (v := ?_) rfl (by kernel_rfl) (by kernel_rfl) (by kernel_rfl) (fun _ _ _ h => h) (Or.inl ⟨by rfl, ?_⟩) ?_
            rotate_left 1
            · (intro w; go_simp; try with_reducible rfl)
            simp only [Act.put, List.setIfInBounds_toArray, List.set_cons_zero, List.set_cons_succ]
            refine wpAny_take (i := 8) (oi := ⟨some 110, _, _, _, _, _⟩) (v := ?_) rfl (by kernel_rfl) (by kernel_rfl) (by kernel_rfl) (fun _ _ _ h => h) (Or.inl ⟨by rfl, ?_⟩) ?_
            rotate_left 1
            · (intro w; go_simp; try with_reducible rfl)
            simp only [Act.put, List.setIfInBounds_toArray, List.set_cons_zero, List.set_cons_succ]
            refine wpAny_ready (rs := [9]) (by kernel_rfl) (by simp) ?_
            refine AllReady.cons (o := ⟨some 111, _, _, _, _, _⟩) rfl (fun K hK => ?_) AllReady.nil
            go_simp
            refine (S_at HX0.out (i := 1) rfl Fine.nil Ht.out mark).mono ?_
            rintro e x1 ⟨MA, mc, rfl, hS⟩
            rw [show vols (atS t [] mark) 4 = vols t 4 from rfl]
            have HX1 := hide (show St wz [grpT p t [], grpT q t [], rowT 3 1 (.slice LA j lc) j (nums (vols t 4)), rowT 3 1 (.slice MA (vols t 4).length mc) (vols t 4).length (nums (vols t 4))] x1 from hS)
            rw [Hvl.out] at HX1 ⊢
            clear hS
            refine hK _ _ ?_
            clear hK K
            refine wpAny_ready (rs := [10]) (by kernel_rfl) (by simp) ?_
            refine AllReady.cons (o := ⟨some 112, _, _, _, _, _⟩) rfl (fun K hK => ?_) AllReady.nil
            go_simp
            have HQ := hide (same_any (w := x1) (vols t 4) (vols t 4) j j LA MA lc mc Hvl.out Hvl.out (by have := Hk4.out; omega) (St.src HX1.out (i := 2) rfl) (St.src HX1.out (i := 3) rfl))
            rw [decide_eq_true rfl] at HQ
            refine HQ.out.mono ?_
            rintro e x2 ⟨rfl, hb⟩
            have HX2 := hide (HX1.out.below hb)
            clear hb HQ
            refine hK _ _ ?_
            clear hK K
            refine wpAny_take (i := 11) (oi := ⟨some 113, _, _, _, _, _⟩) (v := ?_) rfl (by kernel_rfl) (by kernel_rfl) (by kernel_rfl) (fun _ _ _ h => h) (Or.inl ⟨by rfl, ?_⟩) ?_
            rotate_left 1
            · (intro w; go_simp; try with_reducible rfl)
            simp only [Act.put, List.setIfInBounds_toArray, List.set_cons_zero, List.set_cons_succ]
            refine wpAny_take (i := 12) (oi := ⟨some 114, _, _, _, _, _⟩) (v := ?_) rfl (by kernel_rfl) (by kernel_rfl) (by kernel_rfl) (fun _ _ _ h => h) (Or.inl ⟨by rfl, ?_⟩) ?_
            rotate_left 1
            · (intro w; go_simp; try with_reducible rfl)
            simp only [Act.put, List.setIfInBounds_toArray, List.set_cons_zero, List.set_cons_succ]
            refine wpAny_take (i := 13) (oi := ⟨some 115, _, _, _, _, _⟩) (v := ?_) rfl (by kernel_rfl) (by kernel_rfl) (by kernel_rfl) (fun _ _ _ h => h) (Or.inl ⟨by rfl, ?_⟩) ?_
            rotate_left 1
            · (intro w; go_simp; try with_reducible rfl)
            simp only [Act.put, List.setIfInBounds_toArray, List.set_cons_zero, List.set_cons_succ]
            refine wpAny_take (i := 16) (oi := ⟨some 118, _, _, _, _, _⟩) (v := ?_) rfl (by kernel_rfl) (by kernel_rfl) (by kernel_rfl) (fun _ _ _ h => h) (Or.inl ⟨by rfl, ?_⟩) ?_
            rotate_left 1
            · (intro w; go_simp; try with_reducible rfl)
            simp only [Act.put, List.setIfInBounds_toArray, List.set_cons_zero, List.set_cons_succ]
            refine wpAny_ready (rs := [14]) (by kernel_rfl) (by simp) ?_
            refine AllReady.cons (o := ⟨some 116, _, _, _, _, _⟩) rfl (fun K hK => ?_) AllReady.nil
            go_simp
            refine (S_bytes HX2.out (i := 0) rfl Fine.nil Ht.out).mono ?_
            rintro e x3 ⟨⟨A9, n9, c9, rfl, hl9, _, _, hby⟩, hS⟩
            have HBy := hide hby
            have Hl9 := hide hl9
            have HX3 := hide hS
            clear hS hby hl9
            refine hK _ _ ?_
            clear hK K
            refine wpAny_ready (rs := [15, 17]) (by kernel_rfl) (by simp) ?_
            refine AllReady.cons (o := ⟨some 117, _, _, _, _, _⟩) rfl (fun K hK => ?_) (AllReady.cons (o := ⟨some 119, _, _, _, _, _⟩) rfl (fun K hK => ?_) AllReady.nil)
            · have hcv := Sm.run_str _ _ A9 _ n9 c9 Hl9.out (HBy.out)
              go_simp
              clear hcv
              refine hK _ _ ?_
              clear hK K
              refine wpAny_ready (rs := [17]) (by kernel_rfl) (by simp) ?_
              refine AllReady.cons (o := ⟨some 119, _, _, _, _, _⟩) rfl (fun K hK => ?_) AllReady.nil
              go_simp
              obtain ⟨Gr, hpr, _, _⟩ := St.opened HX3.out (i := 1) rfl
              refine (Bytes_any hpr Fine.nil (by have := Ht.out; omega)).mono ?_
              rintro e x4 ⟨v4, rfl, hO, hb⟩
              obtain ⟨A8, c8, rfl, _, _, hby⟩ := hO.form
              have HX4b := hide hb
              have HX4 := hide (HX3.out.below hb)
              have HBy2 := hide hby
              clear hb hpr hO hby
              refine hK _ _ ?_
              clear hK K
              refine wpAny_ready (rs := [18]) (by kernel_rfl) (by simp) ?_
              refine AllReady.cons (o := ⟨some 120, _, _, _, _, _⟩) rfl (fun K hK => ?_) AllReady.nil
              have hcv := Sm.run_str _ _ A8 _ _ c8 rfl HBy2.out
              go_simp
              clear hcv
              refine hK _ _ ?_
              clear hK K
              refine wpAny_take (i := 19) (oi := ⟨some 121, _, _, _, _, _⟩) (v := ?_) rfl (by kernel_rfl) (by kernel_rfl) (by kernel_rfl) (fun _ _ _ h => h) (Or.inl ⟨by rfl, ?_⟩) ?_
              rotate_left 1
              · (intro w; go_simp; try with_reducible rfl)
              simp only [Act.put, List.setIfInBounds_toArray, List.set_cons_zero, List.set_cons_succ]
              refine wpAny_take (i := 20) (oi := ⟨some 122, _, _, _, _, _⟩) (v := ?_) rfl (by kernel_rfl) (by kernel_rfl) (by kernel_rfl) (fun _ _ _ h => h) (Or.inl ⟨by rfl, ?_⟩) ?_
              rotate_left 1
              · (intro w; go_simp; try with_reducible rfl)
              simp only [Act.put, List.setIfInBounds_toArray, List.set_cons_zero, List.set_cons_succ]
              refine wpAny_take (i := 21) (oi := ⟨some 123, _, _, _, _, _⟩) (v := ?_) rfl (by kernel_rfl) (by kernel_rfl) (by kernel_rfl) (fun _ _ _ h => h) (Or.inl ⟨by rfl, ?_⟩) ?_
              rotate_left 1
              · (intro w; go_simp; try with_reducible rfl)
              simp only [Act.put, List.setIfInBounds_toArray, List.set_cons_zero, List.set_cons_succ]
              refine wpAny_take (i := 22) (oi := ⟨some 124, _, _, _, _, _⟩) (v := ?_) rfl (by kernel_rfl) (by kernel_rfl) (by kernel_rfl) (fun _ _ _ h => h) (Or.inl ⟨by rfl, ?_⟩) ?_
              rotate_left 1
              · (intro w; go_simp; try with_reducible rfl)
              simp only [Act.put, List.setIfInBounds_toArray, List.set_cons_zero, List.set_cons_succ]
              refine wpAny_ready (rs := [23]) (by kernel_rfl) (by simp) ?_
              refine AllReady.cons (o := ⟨some 125, _, _, _, _, _⟩) rfl (fun K hK => ?_) AllReady.nil
              go_simp
              refine (S_last HX4.out (i := 0) rfl Fine.nil).mono ?_
              rintro e x5 ⟨rfl, hS⟩
              rw [show last [] = 0 from rfl]
              have HX5 := hide hS
              clear hS
              refine hK _ _ ?_
              clear hK K
              refine wpAny_take (i := 24) (oi := ⟨some 126, _, _, _, _, _⟩) (v := ?_) rfl (by kernel_rfl) (by kernel_rfl) (by kernel_rfl) (fun _ _ _ h => h) (Or.inl ⟨by rfl, ?_⟩) ?_
              rotate_left 1
              · (intro w; go_simp; try with_reducible rfl)
              simp only [Act.put, List.setIfInBounds_toArray, List.set_cons_zero, List.set_cons_succ]
              refine wpAny_take (i := 25) (oi := ⟨some 127, _, _, _, _, _⟩) (v := ?_) rfl (by kernel_rfl) (by kernel_rfl) (by kernel_rfl) (fun _ _ _ h => h) (Or.inl ⟨by rfl, ?_⟩) ?_
              rotate_left 1
              · (intro w; go_simp; try with_reducible rfl)
              simp only [Act.put, List.setIfInBounds_toArray, List.set_cons_zero, List.set_cons_succ]
              refine wpAny_take (i := 26) (oi := ⟨some 4, _, _, _, _, _⟩) (v := ?_) rfl (by kernel_rfl) (by kernel_rfl) (by kernel_rfl) (fun _ _ _ h => h) (Or.inl ⟨by rfl, ?_⟩) ?_
              rotate_left 1
              · (intro w; go_simp; try with_reducible rfl)
              simp only [Act.put, List.setIfInBounds_toArray, List.set_cons_zero, List.set_cons_succ]
              refine wpAny_done (by kernel_rfl) ?_ _
              have HB9 := hide (HE.out _ (St.weaken (Ts := []) HX5.out))
              go_wp2
              go_ret
              exact ⟨by first | rfl | simp, HB9.out⟩
            · go_simp
              obtain ⟨Gr, hpr, _, _⟩ := St.opened HX3.out (i := 1) rfl
              refine (Bytes_any hpr Fine.nil (by have := Ht.out; omega)).mono ?_
              rintro e x4 ⟨v4, rfl, hO, hb⟩
              obtain ⟨A8, c8, rfl, _, _, hby⟩ := hO.form
              have HX4b := hide hb
              have HX4 := hide (HX3.out.below hb)
              have HBy2 := hide hby
              clear hb hpr hO hby
              refine hK _ _ ?_
              clear hK K
              refine wpAny_ready (rs := [15, 18]) (by kernel_rfl) (by simp) ?_
              refine AllReady.cons (o := ⟨some 117, _, _, _, _, _⟩) rfl (fun K hK => ?_) (AllReady.cons (o := ⟨some 120, _, _, _, _, _⟩) rfl (fun K hK => ?_) AllReady.nil)
              · have hcv := Sm.run_str _ _ A9 _ n9 c9 Hl9.out (HBy.out.below HX4b.out)
                go_simp
                clear hcv
                refine hK _ _ ?_
                clear hK K
                refine wpAny_ready (rs := [18]) (by kernel_rfl) (by simp) ?_
                refine AllReady.cons (o := ⟨some 120, _, _, _, _, _⟩) rfl (fun K hK => ?_) AllReady.nil
                have hcv := Sm.run_str _ _ A8 _ _ c8 rfl HBy2.out
                go_simp
                clear hcv
                refine hK _ _ ?_
                clear hK K
                refine wpAny_take (i := 19) (oi := ⟨some 121, _, _, _, _, _⟩) (v := ?_) rfl (by kernel_rfl) (by kernel_rfl) (by kernel_rfl) (fun _ _ _ h => h) (Or.inl ⟨by rfl, ?_⟩) ?_
                rotate_left 1
                · (intro w; go_simp; try with_reducible rfl)
                simp only [Act.put, List.setIfInBounds_toArray, List.set_cons_zero, List.set_cons_succ]
                refine wpAny_take (i := 20) (oi := ⟨some 122, _, _, _, _, _⟩) (v := ?_) rfl (by kernel_rfl) (by kernel_rfl) (by kernel_rfl) (fun _ _ _ h => h) (Or.inl ⟨by rfl, ?_⟩) ?_
                rotate_left 1
                · (intro w; go_simp; try with_reducible rfl)
                simp only [Act.put, List.setIfInBounds_toArray, List.set_cons_zero, List.set_cons_succ]
                refine wpAny_take (i := 21) (oi := ⟨some 123, _, _, _, _, _⟩) (v := ?_) rfl (by kernel_rfl) (by kernel_rfl) (by kernel_rfl) (fun _ _ _ h => h) (Or.inl ⟨by rfl, ?_⟩) ?_
                rotate_left 1
                · (intro w; go_simp; try with_reducible rfl)
                simp only [Act.put, List.setIfInBounds_toArray, List.set_cons_zero, List.set_cons_succ]
                refine wpAny_take (i := 22) (oi := ⟨some 124, _, _, _, _, _⟩) (v := ?_) rfl (by kernel_rfl) (by kernel_rfl) (by kernel_rfl) (fun _ _ _ h => h) (Or.inl ⟨by rfl, ?_⟩) ?_
                rotate_left 1
                · (intro w; go_simp; try with_reducible rfl)
                simp only [Act.put, List.setIfInBounds_toArray, List.set_cons_zero, List.set_cons_succ]
                refine wpAny_ready (rs := [23]) (by kernel_rfl) (by simp) ?_
                refine AllReady.cons (o := ⟨some 125, _, _, _, _, _⟩) rfl (fun K hK => ?_) AllReady.nil
                go_simp
                refine (S_last HX4.out (i := 0) rfl Fine.nil).mono ?_
                rintro e x5 ⟨rfl, hS⟩
                rw [show last [] = 0 from rfl]
                have HX5 := hide hS
                clear hS
                refine hK _ _ ?_
                clear hK K
                refine wpAny_take (i := 24) (oi := ⟨some 126, _, _, _, _, _⟩) (v := ?_) rfl (by kernel_rfl) (by kernel_rfl) (by kernel_rfl) (fun _ _ _ h => h) (Or.inl ⟨by rfl, ?_⟩) ?_
                rotate_left 1
                · (intro w; go_simp; try with_reducible rfl)
                simp only [Act.put, List.setIfInBounds_toArray, List.set_cons_zero, List.set_cons_succ]
                refine wpAny_take (i := 25) (oi := ⟨some 127, _, _, _, _, _⟩) (v := ?_) rfl (by kernel_rfl) (by kernel_rfl) (by kernel_rfl) (fun _ _ _ h => h) (Or.inl ⟨by rfl, ?_⟩) ?_
                rotate_left 1
                · (intro w; go_simp; try with_reducible rfl)
                simp only [Act.put, List.setIfInBounds_toArray, List.set_cons_zero, List.set_cons_succ]
                refine wpAny_take (i := 26) (oi := ⟨some 4, _, _, _, _, _⟩) (v := ?_) rfl (by kernel_rfl) (by kernel_rfl) (by kernel_rfl) (fun _ _ _ h => h) (Or.inl ⟨by rfl, ?_⟩) ?_
                rotate_left 1
                · (intro w; go_simp; try with_reducible rfl)
                simp only [Act.put, List.setIfInBounds_toArray, List.set_cons_zero, List.set_cons_succ]
                refine wpAny_done (by kernel_rfl) ?_ _
                have HB9 := hide (HE.out _ (St.weaken (Ts := []) HX5.out))
                go_wp2
                go_ret
                exact ⟨by first | rfl | simp, HB9.out⟩
              · have hcv := Sm.run_str _ _ A8 _ _ c8 rfl HBy2.out
                go_simp
                clear hcv
                refine hK _ _ ?_
                clear hK K
                refine wpAny_ready (rs := [15]) (by kernel_rfl) (by simp) ?_
                refine AllReady.cons (o := ⟨some 117, _, _, _, _, _⟩) rfl (fun K hK => ?_) AllReady.nil
                have hcv := Sm.run_str _ _ A9 _ n9 c9 Hl9.out (HBy.out.below HX4b.out)
                go_simp
                clear hcv
                refine hK _ _ ?_
                clear hK K
                refine wpAny_take (i := 19) (oi := ⟨some 121, _, _, _, _, _⟩) (v := ?_) rfl (by kernel_rfl) (by kernel_rfl) (by kernel_rfl) (fun _ _ _ h => h) (Or.inl ⟨by rfl, ?_⟩) ?_
                rotate_left 1
                · (intro w; go_simp; try with_reducible rfl)
                simp only [Act.put, List.setIfInBounds_toArray, List.set_cons_zero, List.set_cons_succ]
                refine wpAny_take (i := 20) (oi := ⟨some 122, _, _, _, _, _⟩) (v := ?_) rfl (by kernel_rfl) (by kernel_rfl) (by kernel_rfl) (fun _ _ _ h => h) (Or.inl ⟨by rfl, ?_⟩) ?_
                rotate_left 1
                · (intro w; go_simp; try with_reducible rfl)
                simp only [Act.put, List.setIfInBounds_toArray, List.set_cons_zero, List.set_cons_succ]
                refine wpAny_take (i := 21) (oi := ⟨some 123, _, _, _, _, _⟩) (v := ?_) rfl (by kernel_rfl) (by kernel_rfl) (by kernel_rfl) (fun _ _ _ h => h) (Or.inl ⟨by rfl, ?_⟩) ?_
                rotate_left 1
                · (intro w; go_simp; try with_reducible rfl)
                simp only [Act.put, List.setIfInBounds_toArray, List.set_cons_zero, List.set_cons_succ]
                refine wpAny_take (i := 22) (oi := ⟨some 124, _, _, _, _, _⟩) (v := ?_) rfl (by kernel_rfl) (by kernel_rfl) (by kernel_rfl) (fun _ _ _ h => h) (Or.inl ⟨by rfl, ?_⟩) ?_
                rotate_left 1
                · (intro w; go_simp; try with_reducible rfl)
                simp only [Act.put, List.setIfInBounds_toArray, List.set_cons_zero, List.set_cons_succ]
                refine wpAny_ready (rs := [23]) (by kernel_rfl) (by simp) ?_
                refine AllReady.cons (o := ⟨some 125, _, _, _, _, _⟩) rfl (fun K hK => ?_) AllReady.nil
                go_simp
                refine (S_last HX4.out (i := 0) rfl Fine.nil).mono ?_
                rintro e x5 ⟨rfl, hS⟩
                rw [show last [] = 0 from rfl]
                have HX5 := hide hS
                clear hS
                refine hK _ _ ?_
                clear hK K
                refine wpAny_take (i := 24) (oi := ⟨some 126, _, _, _, _, _⟩) (v := ?_) rfl (by kernel_rfl) (by kernel_rfl) (by kernel_rfl) (fun _ _ _ h => h) (Or.inl ⟨by rfl, ?_⟩) ?_
                rotate_left 1
                · (intro w; go_simp; try with_reducible rfl)
                simp only [Act.put, List.setIfInBounds_toArray, List.set_cons_zero, List.set_cons_succ]
                refine wpAny_take (i := 25) (oi := ⟨some 127, _, _, _, _, _⟩) (v := ?_) rfl (by kernel_rfl) (by kernel_rfl) (by kernel_rfl) (fun _ _ _ h => h) (Or.inl ⟨by rfl, ?_⟩) ?_
                rotate_left 1
                · (intro w; go_simp; try with_reducible rfl)
                simp only [Act.put, List.setIfInBounds_toArray, List.set_cons_zero, List.set_cons_succ]
                refine wpAny_take (i := 26) (oi := ⟨some 4, _, _, _, _, _⟩) (v := ?_) rfl (by kernel_rfl) (by kernel_rfl) (by kernel_rfl) (fun _ _ _ h => h) (Or.inl ⟨by rfl, ?_⟩) ?_
                rotate_left 1
                · (intro w; go_simp; try with_reducible rfl)
                simp only [Act.put, List.setIfInBounds_toArray, List.set_cons_zero, List.set_cons_succ]
                refine wpAny_done (by kernel_rfl) ?_ _
                have HB9 := hide (HE.out _ (St.weaken (Ts := []) HX5.out))
                go_wp2
                go_ret
                exact ⟨by first | rfl | simp, HB9.out⟩
theorem Order_any (A0 : Option Addr) (n0 c0 : Nat) (l0 : List Int) (mark : Int) (w : World) (hty : Ety w) (hl0 : l0.length = n0) (hs0 : Src w A0 (nums l0)) :
    Calls Tryd.prog 6 #[.slice A0 n0 c0, .int .i64 mark] w fun e w' => e = .returned (.bool true) ∧ Below w.heap.size w w' := by
  rcases Nat.lt_or_ge 20 n0 with h | h
  · exact Order_long A0 n0 c0 mark w h
  · exact Order_law A0 n0 c0 l0 mark w hty hl0 hs0 h

end Go.Proofs.YthoflpjmdhabmaaDoor.Mb
