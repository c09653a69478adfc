/-
  The contracts of a site's and a fence's calls, one for each, among other things in memory. What each answers and leaves is told in plain numbers.
-/
import Derived.Lib.MinMax
import Derived.BigQuiet
import Derived.Deep.RegionHeld3
import Derived.Test.YtmbhnhfnimijcaaDoorLeIs
namespace Go.Proofs.YtmbhnhfnimijcaaDoor.Le
open Go.RowKit
open Pk Sm Fa Dk Wn Lk

theorem list_set_get {α : Type} {l : List α} {i : Nat} {x : α} (h : l[i]? = some x) (y : α) : (l.set i y)[i]? = some y := by
  have hi : i < l.length := (List.getElem?_eq_some_iff.1 h).1
  simp [hi]
section
variable {w0 w : World} {Ts : List Thg} {i q : Nat}
set_option maxRecDepth 100000 in
theorem at_any {b : Nat} {T : Int} (n : Int) (c0 : w.cell? ⟨b, 0, none⟩ = some (.int .i64 T)) (hf : ∀ j, w.frozen? ⟨b, j, none⟩ = false) :
    Calls Tryd.prog 25 #[.pointer (some ⟨b, 0, none⟩), .int .i64 n] w fun e w' => e = .returned (.int .i64 (tk T n)) ∧ w' = w.setCell ⟨b, 0, none⟩ (.int .i64 (tk T n)) := by
  have hf0 := hf 0
  obtain ⟨m, hm⟩ : ∃ m, min n 1152921504606846976 = m := ⟨_, rfl⟩
  obtain ⟨t, ht⟩ : ∃ t, max T m = t := ⟨_, rfl⟩
  have e : tk T n = t := by unfold tk; rw [hm, ht]
  rw [e]
  clear e hf
  go_enter Tryd.func25, Tryd.ntmps25
  go_wp2
  go_ret
  exact ⟨rfl, rfl⟩
theorem S_at_site (h : St w0 Ts w) {s : Sit} (hi : Ts[i]? = some (sitT q s)) (n : Int) :
    Calls Tryd.prog 25 #[.pointer (some ⟨q, 0, none⟩), .int .i64 n] w fun e w' => e = .returned (.int .i64 (tk s.t n)) ∧ St w0 (Ts.set i (sitT q (s.tick n))) w' := by
  obtain ⟨h1, h2, _, h3⟩ := Lk.St.blk h hi
  refine (at_any n (h1 0) h2).mono ?_
  rintro e w' ⟨rfl, rfl⟩
  exact ⟨rfl, h3 0 _⟩
theorem S_at_fen (h : St w0 Ts w) {s : Fen} (hi : Ts[i]? = some (fenT q s)) (n : Int) :
    Calls Tryd.prog 25 #[.pointer (some ⟨q, 0, none⟩), .int .i64 n] w fun e w' => e = .returned (.int .i64 (tk s.t n)) ∧ St w0 (Ts.set i (fenT q (s.tick n))) w' := by
  obtain ⟨h1, h2, _, h3⟩ := Lk.St.blk h hi
  refine (at_any n (h1 0) h2).mono ?_
  rintro e w' ⟨rfl, rfl⟩
  exact ⟨rfl, h3 0 _⟩

/-- What a call that answers an error leaves. -/
def Ans (w0 : World) (Ts : List Thg) (r k : Int) (e : Ending) (w' : World) : Prop := ∃ v, e = .returned v ∧ Err w' v r k ∧ St w0 Ts w'
theorem Ans.of {w w' : World} {e : Ending} {r k : Int} (h : St w0 Ts w) (hk : k ≠ 0) (hc : ∃ p, e = .returned (.iface 72 (.pointer (some ⟨p, 0, none⟩))) ∧ Fails w r k p w') : Ans w0 Ts r k e w' := by
  obtain ⟨p, rfl, hF, hb⟩ := hc
  exact ⟨_, rfl, Or.inr ⟨hk, p, rfl, hF⟩, h.below hb⟩

set_option maxRecDepth 100000 in
set_option maxHeartbeats 1000000 in
theorem S_grant (h : St w0 Ts w) {s : Sit} (hi : Ts[i]? = some (sitT q s)) (hs : s.Ok) (e n : Int) :
    Calls Tryd.prog 11 #[.pointer (some ⟨q, 0, none⟩), .int .i64 e, .int .i64 n] w fun r w' => Ans w0 (Ts.set i (sitT q (s.grant e n))) e (s.gE e) r w' := by
  have HA := hide (S_at_site h hi n)
  obtain ⟨T, E, U⟩ := s
  obtain ⟨t0, t1, e0, e1, u0, u1⟩ := hs
  simp only at t0 t1 e0 e1 u0 u1 HA
  obtain ⟨ht0, ht1⟩ := tk_ok (n := n) t0 t1
  unfold Sit.grant Sit.gE
  unfold Sit.tick at HA ⊢
  simp only at HA ⊢
  clear t0 t1
  generalize tk T n = t at *
  by_cases h1 : e < 1
  · rw [if_pos h1, if_neg (by decide)]
    go_enter Tryd.func11, Tryd.ntmps11
    go_wp2_with fail
    refine HA.out.mono ?_
    rintro r w1 ⟨rfl, hS⟩
    have HS := hide hS
    clear hS HA
    go_wp2_with fail
    refine (failed_any e 1 w1 (by decide)).mono ?_
    rintro r w2 hr
    have HR := hide (Ans.of HS.out (by decide) hr)
    obtain ⟨p, rfl, -⟩ := hr
    go_wp2
    go_ret
    exact HR.out
  · by_cases h2 : e < E
    · rw [if_neg h1, if_pos h2, if_neg (by decide)]
      go_enter Tryd.func11, Tryd.ntmps11
      go_wp2_with fail
      refine HA.out.mono ?_
      rintro r w1 ⟨rfl, hS⟩
      have HS := hide hS
      obtain ⟨x0, x1, x2, xf, _⟩ := St.site hS (list_set_get hi _)
      clear hS HA
      go_wp2_with fail
      refine (failed_any e 10 w1 (by decide)).mono ?_
      rintro r w2 hr
      have HR := hide (Ans.of HS.out (by decide) hr)
      obtain ⟨p, rfl, -⟩ := hr
      clear x0 x1 x2 xf
      go_wp2
      go_ret
      exact HR.out
    · rw [if_neg h1, if_neg h2, if_pos rfl]
      go_enter Tryd.func11, Tryd.ntmps11
      go_wp2_with fail
      refine HA.out.mono ?_
      rintro r w1 ⟨rfl, hS⟩
      obtain ⟨x0, x1, x2, xf, _⟩ := St.site hS (list_set_get hi _)
      have h3 := (Lk.St.blk hS (list_set_get hi _)).2.2.2 1 (.int .i64 e)
      have h4 := (Lk.St.blk h3 (list_set_get (list_set_get hi _) _)).2.2.2 2 (.int .i64 (t + 10))
      rw [List.set_set, List.set_set] at h4
      have HS := hide h4
      have xf1 := xf 1
      have xf2 := xf 2
      clear hS HA h3 h4 xf
      go_wp2
      go_ret
      exact ⟨_, rfl, Or.inl ⟨rfl, rfl⟩, HS.out⟩
set_option maxRecDepth 100000 in
set_option maxHeartbeats 1000000 in
theorem S_check (h : St w0 Ts w) {s : Sit} (hi : Ts[i]? = some (sitT q s)) (e n : Int) :
    Calls Tryd.prog 13 #[.pointer (some ⟨q, 0, none⟩), .int .i64 e, .int .i64 n] w fun r w' => Ans w0 (Ts.set i (sitT q (s.tick n))) e (s.cE e n) r w' := by
  have HA := hide (S_at_site h hi n)
  obtain ⟨T, E, U⟩ := s
  unfold Sit.cE
  unfold Sit.tick at HA ⊢
  simp only at HA ⊢
  generalize tk T n = t at *
  by_cases h1 : e ≠ E
  · rw [if_pos (Or.inl h1)]
    have h1' : (e != E) = true := by simp [h1]
    clear h1
    go_enter Tryd.func13, Tryd.ntmps13
    go_wp2_with fail
    refine HA.out.mono ?_
    rintro r w1 ⟨rfl, hS⟩
    have HS := hide hS
    obtain ⟨x0, x1, x2, xf, _⟩ := St.site hS (list_set_get hi _)
    clear hS HA
    go_wp2_with fail
    refine (failed_any e 10 w1 (by decide)).mono ?_
    rintro r w2 hr
    have HR := hide (Ans.of HS.out (by decide) hr)
    obtain ⟨p, rfl, -⟩ := hr
    clear x0 x1 x2 xf
    go_wp2
    go_ret
    exact HR.out
  · obtain rfl : e = E := by omega
    have hee : (e != e) = false := by simp
    by_cases h2 : e = 0
    · subst h2
      rw [if_pos (Or.inr rfl)]
      go_enter Tryd.func13, Tryd.ntmps13
      go_wp2_with fail
      refine HA.out.mono ?_
      rintro r w1 ⟨rfl, hS⟩
      have HS := hide hS
      obtain ⟨x0, x1, x2, xf, _⟩ := St.site hS (list_set_get hi _)
      clear hS HA
      go_wp2_with fail
      refine (failed_any 0 10 w1 (by decide)).mono ?_
      rintro r w2 hr
      have HR := hide (Ans.of HS.out (by decide) hr)
      obtain ⟨p, rfl, -⟩ := hr
      clear x0 x1 x2 xf
      go_wp2
      go_ret
      exact HR.out
    · have h2' : (e == 0) = false := by simp [h2]
      rw [if_neg (by intro h; rcases h with h | h; · exact h1 h
                     · exact h2 h)]
      clear h1 h2
      by_cases h3 : U ≤ t
      · rw [if_pos h3]
        go_enter Tryd.func13, Tryd.ntmps13
        go_wp2_with fail
        refine HA.out.mono ?_
        rintro r w1 ⟨rfl, hS⟩
        have HS := hide hS
        obtain ⟨x0, x1, x2, xf, _⟩ := St.site hS (list_set_get hi _)
        clear hS HA
        go_wp2_with fail
        refine (failed_any e 11 w1 (by decide)).mono ?_
        rintro r w2 hr
        have HR := hide (Ans.of HS.out (by decide) hr)
        obtain ⟨p, rfl, -⟩ := hr
        clear x0 x1 x2 xf
        go_wp2
        go_ret
        exact HR.out
      · rw [if_neg h3]
        go_enter Tryd.func13, Tryd.ntmps13
        go_wp2_with fail
        refine HA.out.mono ?_
        rintro r w1 ⟨rfl, hS⟩
        have HS := hide hS
        obtain ⟨x0, x1, x2, xf, _⟩ := St.site hS (list_set_get hi _)
        clear hS HA
        go_wp2
        go_ret
        exact ⟨_, rfl, Or.inl ⟨rfl, rfl⟩, HS.out⟩
set_option maxRecDepth 100000 in
theorem S_epoch (h : St w0 Ts w) {s : Sit} (hi : Ts[i]? = some (sitT q s)) :
    Calls Tryd.prog 21 #[.pointer (some ⟨q, 0, none⟩)] w fun r w' => r = .returned (.tuple #[.int .i64 s.e, .int .i64 s.u]) ∧ St w0 Ts w' := by
  obtain ⟨x0, x1, x2, xf, _⟩ := St.site h hi
  have HS := hide h
  clear h
  go_enter Tryd.func21, Tryd.ntmps21
  go_wp2_with fail
  go_quiet (fail)
  go_wp2
  go_ret2
  exact ⟨rfl, HS.out.below ⟨rfl, rfl, rfl, Nat.le_refl _, fun _ _ => rfl⟩⟩

/-- Whether an epoch may be renewed. -/
def Fen.kE (s : Fen) (e n : Int) : Int := if e ≠ s.l ∨ s.l = 0 then 10 else if n < s.f then 9 else 0
set_option maxRecDepth 100000 in
set_option maxHeartbeats 1000000 in
theorem S_fcheck (h : St w0 Ts w) {s : Fen} (hi : Ts[i]? = some (fenT q s)) (e n : Int) :
    Calls Tryd.prog 28 #[.pointer (some ⟨q, 0, none⟩), .int .i64 e, .int .i64 n] w fun r w' => Ans w0 Ts e (s.kE e n) r w' := by
  obtain ⟨T, L, F, U⟩ := s
  obtain ⟨x0, x1, x2, x3, xf, _⟩ := St.fence h hi
  have HS := hide h
  unfold Fen.kE
  simp only at x0 x1 x2 x3 ⊢
  clear h
  by_cases h1 : e ≠ L
  · rw [if_pos (Or.inl h1)]
    have h1' : (e != L) = true := by simp [h1]
    clear h1
    go_enter Tryd.func28, Tryd.ntmps28
    go_wp2_with fail
    refine (failed_any e 10 w (by decide)).mono ?_
    rintro r w2 hr
    have HR := hide (Ans.of HS.out (by decide) hr)
    obtain ⟨p, rfl, -⟩ := hr
    clear x0 x1 x2 x3 xf
    go_wp2
    go_ret
    exact HR.out
  · obtain rfl : e = L := by omega
    have hee : (e != e) = false := by simp
    by_cases h2 : e = 0
    · subst h2
      rw [if_pos (Or.inr rfl)]
      go_enter Tryd.func28, Tryd.ntmps28
      go_wp2_with fail
      refine (failed_any 0 10 w (by decide)).mono ?_
      rintro r w2 hr
      have HR := hide (Ans.of HS.out (by decide) hr)
      obtain ⟨p, rfl, -⟩ := hr
      clear x0 x1 x2 x3 xf
      go_wp2
      go_ret
      exact HR.out
    · have h2' : (e == 0) = false := by simp [h2]
      rw [if_neg (by intro h; rcases h with h | h; · exact h1 h
                     · exact h2 h)]
      clear h1 h2
      by_cases h3 : n < F
      · rw [if_pos h3]
        go_enter Tryd.func28, Tryd.ntmps28
        go_wp2_with fail
        refine (failed_any e 9 w (by decide)).mono ?_
        rintro r w2 hr
        have HR := hide (Ans.of HS.out (by decide) hr)
        obtain ⟨p, rfl, -⟩ := hr
        clear x0 x1 x2 x3 xf
        go_wp2
        go_ret
        exact HR.out
      · rw [if_neg h3]
        go_enter Tryd.func28, Tryd.ntmps28
        go_wp2
        go_ret
        exact ⟨_, rfl, Or.inl ⟨rfl, rfl⟩, HS.out⟩
set_option maxRecDepth 100000 in
set_option maxHeartbeats 1000000 in
theorem S_renew (h : St w0 Ts w) {s : Fen} (hi : Ts[i]? = some (fenT q s)) (hs : s.Ok) (e n : Int) :
    Calls Tryd.prog 17 #[.pointer (some ⟨q, 0, none⟩), .int .i64 e, .int .i64 n] w fun r w' => Ans w0 (Ts.set i (fenT q (s.renew e n))) e (s.rE e n) r w' := by
  have HA := hide (S_at_fen h hi n)
  obtain ⟨T, L, F, U⟩ := s
  obtain ⟨ht0, ht1⟩ := tk_ok (n := n) hs.t0 hs.t1
  unfold Fen.renew
  have hk : Fen.rE ⟨T, L, F, U⟩ e n = Fen.kE ⟨tk T n, L, F, U⟩ e (tk T n) := rfl
  rw [hk]
  unfold Fen.tick at HA ⊢
  simp only at HA ht0 ht1 ⊢
  clear hs h hk
  generalize tk T n = t at *
  have HK := hide (fun (W : World) (hW : St w0 (Ts.set i (fenT q ⟨t, L, F, U⟩)) W) => S_fcheck hW (list_set_get hi _) e t)
  generalize Fen.kE ⟨t, L, F, U⟩ e t = k at *
  by_cases hk : k = 0
  · subst hk
    rw [if_pos rfl]
    go_enter Tryd.func17, Tryd.ntmps17
    go_wp2_with fail
    refine HA.out.mono ?_
    rintro r w1 ⟨rfl, hS⟩
    have HS := hide hS
    clear hS HA
    go_wp2_with fail
    refine (HK.out _ HS.out).mono ?_
    rintro r w2 ⟨v, rfl, hE, hS⟩
    obtain rfl := hE.ok
    obtain ⟨x0, x1, x2, x3, xf, _⟩ := St.fence hS (list_set_get hi _)
    have h3 := (Lk.St.blk hS (list_set_get hi _)).2.2.2 3 (.int .i64 (t + 10))
    rw [List.set_set] at h3
    have HS3 := hide h3
    clear hS h3 HK HS hE
    go_wp2
    go_ret
    exact ⟨_, rfl, Or.inl ⟨rfl, rfl⟩, HS3.out⟩
  · rw [if_neg hk]
    have Hk := hide hk
    clear hk
    go_enter Tryd.func17, Tryd.ntmps17
    go_wp2_with fail
    refine HA.out.mono ?_
    rintro r w1 ⟨rfl, hS⟩
    have HS := hide hS
    clear hS HA
    go_wp2_with fail
    refine (HK.out _ HS.out).mono ?_
    rintro r w2 ⟨v, rfl, hE, hS⟩
    have HS2 := hide hS
    have HE := hide hE
    obtain ⟨p, rfl, -⟩ := hE.no Hk.out
    clear hS hE HK HS
    go_wp2
    go_ret
    exact ⟨_, rfl, HE.out, HS2.out⟩

/-- What Promote leaves. -/
def AnsP (w0 : World) (Ts : List Thg) (a b r k : Int) (e : Ending) (w' : World) : Prop := ∃ v, e = .returned (.tuple #[.int .i64 a, .int .i64 b, v]) ∧ Err w' v r k ∧ St w0 Ts w'
set_option maxRecDepth 100000 in
set_option maxHeartbeats 1000000 in
theorem S_prom_ok (h : St w0 Ts w) {s : Fen} (hi : Ts[i]? = some (fenT q s)) (hs : s.Ok) (n : Int) (hl : s.l < 1073741824) :
    Calls Tryd.prog 15 #[.pointer (some ⟨q, 0, none⟩), .int .i64 n] w fun r w' => AnsP w0 (Ts.set i (fenT q (s.prom n))) (s.l + 1) (max (tk s.t n) s.u) s.l 0 r w' := by
  have HA := hide (S_at_fen h hi n)
  obtain ⟨T, L, F, U⟩ := s
  obtain ⟨ht0, ht1⟩ := tk_ok (n := n) hs.t0 hs.t1
  have l0 := hs.l0
  rw [Fen.prom_ok hl]
  unfold Fen.tick at HA
  simp only at HA ht0 ht1 hl l0 ⊢
  clear hs h
  generalize tk T n = t at *
  obtain ⟨m, hm⟩ : ∃ m, max t U = m := ⟨_, rfl⟩
  rw [hm]
  have hLi : ¬ 1073741824 ≤ L := by omega
  have hWL : IntKind.i64.wrap (L + 1) = L + 1 := by rw [IntKind.wrap_i64]; omega
  go_enter Tryd.func15, Tryd.ntmps15
  go_wp2_with fail
  refine HA.out.mono ?_
  rintro r w1 ⟨rfl, hS⟩
  have HS := hide hS
  obtain ⟨c0, c1, c2, c3, cf, _⟩ := St.fence hS (list_set_get hi _)
  simp only at c0 c1 c2 c3
  obtain ⟨d0, d1, d2, d3, df, _⟩ := St.fence hS.drew (list_set_get hi _)
  simp only at d0 d1 d2 d3
  have HX := hide (Lk.St.blk hS.drew (list_set_get hi _))
  have hi2 := list_set_get hi (fenT q ⟨t, L, F, U⟩)
  clear hS HA
  go_wp2_with fail
  refine wp_region_any (by kernel_rfl) ?_
  change wpAny _ _ _ _ _ _ _ (World.drew _)
  generalize World.drew w1 = wd at *
  refine wpAny_take (i := 0) (oi := ⟨some 25, _, _, _, _, _⟩) (v := ?_) rfl (by kernel_rfl) (by kernel_rfl) (by kernel_rfl) (fun _ _ _ h => h) (Or.inl ⟨by rfl, ?_⟩) ?_
  rotate_left 1
  · (intro w; go_simp; try with_reducible rfl)
  simp only [Act.put, List.setIfInBounds_toArray, List.set_cons_zero, List.set_cons_succ]
  refine wpAny_take (i := 1) (oi := ⟨some 26, _, _, _, _, _⟩) (v := ?_) rfl (by kernel_rfl) (by kernel_rfl) (by kernel_rfl) (fun _ _ _ h => h) (Or.inl ⟨by rfl, ?_⟩) ?_
  rotate_left 1
  · (intro w; go_simp; try with_reducible rfl)
  simp only [Act.put, List.setIfInBounds_toArray, List.set_cons_zero, List.set_cons_succ]
  refine wpAny_take (i := 2) (oi := ⟨some 27, _, _, _, _, _⟩) (v := ?_) rfl (by kernel_rfl) (by kernel_rfl) (by kernel_rfl) (fun _ _ _ h => h) (Or.inl ⟨by rfl, ?_⟩) ?_
  rotate_left 1
  · (intro w; go_simp; try with_reducible rfl)
  simp only [Act.put, List.setIfInBounds_toArray, List.set_cons_zero, List.set_cons_succ]
  refine wpAny_take (i := 3) (oi := ⟨some 28, _, _, _, _, _⟩) (v := ?_) rfl (by kernel_rfl) (by kernel_rfl) (by kernel_rfl) (fun _ _ _ h => h) (Or.inl ⟨by rfl, ?_⟩) ?_
  rotate_left 1
  · (intro w; go_simp; try with_reducible rfl)
  simp only [Act.put, List.setIfInBounds_toArray, List.set_cons_zero, List.set_cons_succ]
  refine wpAny_take (i := 4) (oi := ⟨some 29, _, _, _, _, _⟩) (v := ?_) rfl (by kernel_rfl) (by kernel_rfl) (by kernel_rfl) (fun _ _ _ h => h) (Or.inl ⟨by rfl, ?_⟩) ?_
  rotate_left 1
  · (intro w; go_simp; try with_reducible rfl)
  simp only [Act.put, List.setIfInBounds_toArray, List.set_cons_zero, List.set_cons_succ]
  refine wpAny_take (i := 7) (oi := ⟨some 32, _, _, _, _, _⟩) (v := ?_) rfl (by kernel_rfl) (by kernel_rfl) (by kernel_rfl) (fun _ _ _ h => h) (Or.inl ⟨by rfl, ?_⟩) ?_
  rotate_left 1
  · (intro w; go_simp; try with_reducible rfl)
  simp only [Act.put, List.setIfInBounds_toArray, List.set_cons_zero, List.set_cons_succ]
  refine wpAny_take (i := 8) (oi := ⟨some 33, _, _, _, _, _⟩) (v := ?_) rfl (by kernel_rfl) (by kernel_rfl) (by kernel_rfl) (fun _ _ _ h => h) (Or.inl ⟨by rfl, ?_⟩) ?_
  rotate_left 1
  · (intro w; go_simp; try with_reducible rfl)
  simp only [Act.put, List.setIfInBounds_toArray, List.set_cons_zero, List.set_cons_succ]
  refine wpAny_take (i := 9) (oi := ⟨some 34, _, _, _, _, _⟩) (v := ?_) rfl (by kernel_rfl) (by kernel_rfl) (by kernel_rfl) (fun _ _ _ h => h) (Or.inl ⟨by rfl, ?_⟩) ?_
  rotate_left 1
  · (intro w; go_simp; try with_reducible rfl)
  simp only [Act.put, List.setIfInBounds_toArray, List.set_cons_zero, List.set_cons_succ]
  refine wpAny_take (i := 10) (oi := ⟨some 35, _, _, _, _, _⟩) (v := ?_) rfl (by kernel_rfl) (by kernel_rfl) (by kernel_rfl) (fun _ _ _ h => h) (Or.inl ⟨by rfl, ?_⟩) ?_
  rotate_left 1
  · (intro w; go_simp; try with_reducible rfl)
  simp only [Act.put, List.setIfInBounds_toArray, List.set_cons_zero, List.set_cons_succ]
  refine wpAny_ready (rs := [5, 11]) (by kernel_rfl) (by simp) ?_
  refine AllReady.cons (o := ⟨some 30, _, _, _, _, _⟩) rfl (fun K hK => ?_) (AllReady.cons (o := ⟨some 36, _, _, _, _, _⟩) rfl (fun K hK => ?_) AllReady.nil)
  · go_simp
    refine hK _ _ ?_
    clear hK K
    refine wpAny_take (i := 6) (oi := ⟨some 31, _, _, _, _, _⟩) (v := ?_) rfl (by kernel_rfl) (by kernel_rfl) (by kernel_rfl) (fun _ _ _ h => h) (Or.inl ⟨by rfl, ?_⟩) ?_
    rotate_left 1
    · (intro w; go_simp; try with_reducible rfl)
    simp only [Act.put, List.setIfInBounds_toArray, List.set_cons_zero, List.set_cons_succ]
    refine wpAny_ready (rs := [11]) (by kernel_rfl) (by simp) ?_
    refine AllReady.cons (o := ⟨some 36, _, _, _, _, _⟩) rfl (fun K hK => ?_) AllReady.nil
    go_simp
    refine hK _ _ ?_
    clear hK K
    refine wpAny_take (i := 12) (oi := ⟨some 37, _, _, _, _, _⟩) (v := ?_) rfl (by kernel_rfl) (by kernel_rfl) (by kernel_rfl) (fun _ _ _ h => h) (Or.inl ⟨by rfl, ?_⟩) ?_
    rotate_left 1
    · (intro w; go_simp; try with_reducible rfl)
    simp only [Act.put, List.setIfInBounds_toArray, List.set_cons_zero, List.set_cons_succ]
    refine wpAny_take (i := 13) (oi := ⟨some 38, _, _, _, _, _⟩) (v := ?_) rfl (by kernel_rfl) (by kernel_rfl) (by kernel_rfl) (fun _ _ _ h => h) (Or.inl ⟨by rfl, ?_⟩) ?_
    rotate_left 1
    · (intro w; go_simp; try with_reducible rfl)
    simp only [Act.put, List.setIfInBounds_toArray, List.set_cons_zero, List.set_cons_succ]
    refine wpAny_take (i := 14) (oi := ⟨some 39, _, _, _, _, _⟩) (v := ?_) rfl (by kernel_rfl) (by kernel_rfl) (by kernel_rfl) (fun _ _ _ h => h) (Or.inl ⟨by rfl, ?_⟩) ?_
    rotate_left 1
    · (intro w; go_simp; try with_reducible rfl)
    simp only [Act.put, List.setIfInBounds_toArray, List.set_cons_zero, List.set_cons_succ]
    refine wpAny_ready (rs := [15]) (by kernel_rfl) (by simp) ?_
    refine AllReady.cons (o := ⟨none, _, _, _, _, _⟩) rfl (fun K hK => ?_) AllReady.nil
    go_simp
    have HK1 := hide (HX.out.2.2.2 1 (.int .i64 (L + 1)))
    generalize World.setCell _ _ _ = W1 at *
    obtain ⟨kc, kf, -, -⟩ := Lk.St.blk HK1.out (list_set_get hi2 _)
    have k2 : W1.cell? ⟨q, 2, none⟩ = some (.int .i64 F) := kc 2
    clear kc
    refine hK _ _ ?_
    clear hK K
    refine wpAny_take (i := 16) (oi := ⟨some 40, _, _, _, _, _⟩) (v := ?_) rfl (by kernel_rfl) (by kernel_rfl) (by kernel_rfl) (fun _ _ _ h => h) (Or.inl ⟨by rfl, ?_⟩) ?_
    rotate_left 1
    · (intro w; go_simp; try with_reducible rfl)
    simp only [Act.put, List.setIfInBounds_toArray, List.set_cons_zero, List.set_cons_succ]
    refine wpAny_take (i := 17) (oi := ⟨some 41, _, _, _, _, _⟩) (v := ?_) rfl (by kernel_rfl) (by kernel_rfl) (by kernel_rfl) (fun _ _ _ h => h) (Or.inl ⟨by rfl, ?_⟩) ?_
    rotate_left 1
    · (intro w; go_simp; try with_reducible rfl)
    simp only [Act.put, List.setIfInBounds_toArray, List.set_cons_zero, List.set_cons_succ]
    refine wpAny_ready (rs := [18]) (by kernel_rfl) (by simp) ?_
    refine AllReady.cons (o := ⟨none, _, _, _, _, _⟩) rfl (fun K hK => ?_) AllReady.nil
    have kf2 := kf 2
    go_simp
    have HK2 := hide ((Lk.St.blk HK1.out (list_set_get hi2 _)).2.2.2 2 (.int .i64 m))
    rw [List.set_set, List.set_set] at HK2
    generalize World.setCell _ _ _ = W2 at *
    refine hK _ _ ?_
    clear hK K
    refine wpAny_done (by kernel_rfl) ?_ _
    have HK3 := hide (show St w0 (Ts.set i (fenT q ⟨t, L + 1, m, U⟩)) W2 from HK2.out)
    obtain ⟨x0, x1, x2, x3, xf, _⟩ := St.fence HK3.out (list_set_get hi _)
    clear HK1 HK2 HX kf kf2 k2 c0 c1 c2 c3 d0 d1 d2 d3
    go_wp2_with fail
    go_quiet (fail)
    go_wp2
    go_ret3
    exact ⟨_, rfl, Or.inl ⟨rfl, rfl⟩, HK3.out.below ⟨rfl, rfl, rfl, Nat.le_refl _, fun _ _ => rfl⟩⟩
  · go_simp
    refine hK _ _ ?_
    clear hK K
    refine wpAny_take (i := 12) (oi := ⟨some 37, _, _, _, _, _⟩) (v := ?_) rfl (by kernel_rfl) (by kernel_rfl) (by kernel_rfl) (fun _ _ _ h => h) (Or.inl ⟨by rfl, ?_⟩) ?_
    rotate_left 1
    · (intro w; go_simp; try with_reducible rfl)
    simp only [Act.put, List.setIfInBounds_toArray, List.set_cons_zero, List.set_cons_succ]
    refine wpAny_ready (rs := [5]) (by kernel_rfl) (by simp) ?_
    refine AllReady.cons (o := ⟨some 30, _, _, _, _, _⟩) rfl (fun K hK => ?_) AllReady.nil
    go_simp
    refine hK _ _ ?_
    clear hK K
    refine wpAny_take (i := 6) (oi := ⟨some 31, _, _, _, _, _⟩) (v := ?_) rfl (by kernel_rfl) (by kernel_rfl) (by kernel_rfl) (fun _ _ _ h => h) (Or.inl ⟨by rfl, ?_⟩) ?_
    rotate_left 1
    · (intro w; go_simp; try with_reducible rfl)
    simp only [Act.put, List.setIfInBounds_toArray, List.set_cons_zero, List.set_cons_succ]
    refine wpAny_take (i := 13) (oi := ⟨some 38, _, _, _, _, _⟩) (v := ?_) rfl (by kernel_rfl) (by kernel_rfl) (by kernel_rfl) (fun _ _ _ h => h) (Or.inl ⟨by rfl, ?_⟩) ?_
    rotate_left 1
    · (intro w; go_simp; try with_reducible rfl)
    simp only [Act.put, List.setIfInBounds_toArray, List.set_cons_zero, List.set_cons_succ]
    refine wpAny_take (i := 14) (oi := ⟨some 39, _, _, _, _, _⟩) (v := ?_) rfl (by kernel_rfl) (by kernel_rfl) (by kernel_rfl) (fun _ _ _ h => h) (Or.inl ⟨by rfl, ?_⟩) ?_
    rotate_left 1
    · (intro w; go_simp; try with_reducible rfl)
    simp only [Act.put, List.setIfInBounds_toArray, List.set_cons_zero, List.set_cons_succ]
    refine wpAny_ready (rs := [15]) (by kernel_rfl) (by simp) ?_
    refine AllReady.cons (o := ⟨none, _, _, _, _, _⟩) rfl (fun K hK => ?_) AllReady.nil
    go_simp
    have HK1 := hide (HX.out.2.2.2 1 (.int .i64 (L + 1)))
    generalize World.setCell _ _ _ = W1 at *
    obtain ⟨kc, kf, -, -⟩ := Lk.St.blk HK1.out (list_set_get hi2 _)
    have k2 : W1.cell? ⟨q, 2, none⟩ = some (.int .i64 F) := kc 2
    clear kc
    refine hK _ _ ?_
    clear hK K
    refine wpAny_take (i := 16) (oi := ⟨some 40, _, _, _, _, _⟩) (v := ?_) rfl (by kernel_rfl) (by kernel_rfl) (by kernel_rfl) (fun _ _ _ h => h) (Or.inl ⟨by rfl, ?_⟩) ?_
    rotate_left 1
    · (intro w; go_simp; try with_reducible rfl)
    simp only [Act.put, List.setIfInBounds_toArray, List.set_cons_zero, List.set_cons_succ]
    refine wpAny_take (i := 17) (oi := ⟨some 41, _, _, _, _, _⟩) (v := ?_) rfl (by kernel_rfl) (by kernel_rfl) (by kernel_rfl) (fun _ _ _ h => h) (Or.inl ⟨by rfl, ?_⟩) ?_
    rotate_left 1
    · (intro w; go_simp; try with_reducible rfl)
    simp only [Act.put, List.setIfInBounds_toArray, List.set_cons_zero, List.set_cons_succ]
    refine wpAny_ready (rs := [18]) (by kernel_rfl) (by simp) ?_
    refine AllReady.cons (o := ⟨none, _, _, _, _, _⟩) rfl (fun K hK => ?_) AllReady.nil
    have kf2 := kf 2
    go_simp
    have HK2 := hide ((Lk.St.blk HK1.out (list_set_get hi2 _)).2.2.2 2 (.int .i64 m))
    rw [List.set_set, List.set_set] at HK2
    generalize World.setCell _ _ _ = W2 at *
    refine hK _ _ ?_
    clear hK K
    refine wpAny_done (by kernel_rfl) ?_ _
    have HK3 := hide (show St w0 (Ts.set i (fenT q ⟨t, L + 1, m, U⟩)) W2 from HK2.out)
    obtain ⟨x0, x1, x2, x3, xf, _⟩ := St.fence HK3.out (list_set_get hi _)
    clear HK1 HK2 HX kf kf2 k2 c0 c1 c2 c3 d0 d1 d2 d3
    go_wp2_with fail
    go_quiet (fail)
    go_wp2
    go_ret3
    exact ⟨_, rfl, Or.inl ⟨rfl, rfl⟩, HK3.out.below ⟨rfl, rfl, rfl, Nat.le_refl _, fun _ _ => rfl⟩⟩
set_option maxRecDepth 100000 in
set_option maxHeartbeats 1000000 in
theorem S_prom_no (h : St w0 Ts w) {s : Fen} (hi : Ts[i]? = some (fenT q s)) (n : Int) (hl : 1073741824 ≤ s.l) :
    Calls Tryd.prog 15 #[.pointer (some ⟨q, 0, none⟩), .int .i64 n] w fun r w' => AnsP w0 (Ts.set i (fenT q (s.prom n))) 0 0 s.l 6 r w' := by
  have HA := hide (S_at_fen h hi n)
  obtain ⟨T, L, F, U⟩ := s
  rw [Fen.prom_no hl]
  unfold Fen.tick at HA ⊢
  simp only at HA hl ⊢
  generalize tk T n = t at *
  go_enter Tryd.func15, Tryd.ntmps15
  go_wp2_with fail
  refine HA.out.mono ?_
  rintro r w1 ⟨rfl, hS⟩
  have HS := hide hS
  obtain ⟨c0, c1, c2, c3, cf, _⟩ := St.fence hS (list_set_get hi _)
  simp only at c0 c1 c2 c3
  clear hS HA h
  go_wp2_with fail
  refine (failed_any L 6 w1 (by decide)).mono ?_
  rintro r w2 ⟨p, rfl, hF, hb⟩
  have HF := hide hF
  have HS2 := hide (HS.out.below hb)
  clear hF hb c0 c1 c2 c3 cf
  go_wp2
  go_ret3
  exact ⟨_, rfl, Or.inr ⟨by decide, p, rfl, HF.out⟩, HS2.out⟩
set_option maxRecDepth 100000 in
set_option maxHeartbeats 2000000 in
theorem S_holds (h : St w0 Ts w) {s : Fen} (hi : Ts[i]? = some (fenT q s)) (n : Int) :
    Calls Tryd.prog 19 #[.pointer (some ⟨q, 0, none⟩), .int .i64 n] w fun r w' => r = .returned (.int .i64 (s.hold n)) ∧ St w0 (Ts.set i (fenT q (s.tick n))) w' := by
  have HA := hide (S_at_fen h.drew hi n)
  obtain ⟨c0, c1, c2, c3, cf, _⟩ := St.fence h.drew hi
  obtain ⟨T, L, F, U⟩ := s
  unfold Fen.hold
  unfold Fen.tick at HA ⊢
  simp only at HA c0 c1 c2 c3 ⊢
  generalize tk T n = t at *
  obtain ⟨b, hb⟩ : ∃ b, decide (Fen.kE ⟨t, L, F, U⟩ L t = 9 ∧ Fen.kE ⟨t, L, F, U⟩ L t ≠ 0) = b := ⟨_, rfl⟩
  have HD := hide hb
  have HB : Hid ((b = false → (if t < F then 0 else L) = L) ∧ (b = true → (if t < F then 0 else L) = 0)) := by
    rw [← hb]
    unfold Fen.kE
    simp only [Hid]
    by_cases h1 : L = 0
    · subst h1
      simp
    · by_cases h2 : t < F <;> simp [h1, h2]
  generalize (if t < F then 0 else L) = R at *
  clear hb h
  go_enter Tryd.func19, Tryd.ntmps19
  go_wp2_with fail
  refine wp_region_any (by kernel_rfl) ?_
  change wpAny _ _ _ _ _ _ _ (World.drew _)
  generalize World.drew w = wd at *
  refine wpAny_take (i := 0) (oi := ⟨some 7, _, _, _, _, _⟩) (v := ?_) rfl (by kernel_rfl) (by kernel_rfl) (by kernel_rfl) (fun _ _ _ h => h) (Or.inl ⟨by rfl, ?_⟩) ?_
  rotate_left 1
  · (intro w; go_simp; try with_reducible rfl)
  simp only [Act.put, List.setIfInBounds_toArray, List.set_cons_zero, List.set_cons_succ]
  refine wpAny_take (i := 1) (oi := ⟨some 8, _, _, _, _, _⟩) (v := ?_) rfl (by kernel_rfl) (by kernel_rfl) (by kernel_rfl) (fun _ _ _ h => h) (Or.inl ⟨by rfl, ?_⟩) ?_
  rotate_left 1
  · (intro w; go_simp; try with_reducible rfl)
  simp only [Act.put, List.setIfInBounds_toArray, List.set_cons_zero, List.set_cons_succ]
  refine wpAny_take (i := 2) (oi := ⟨some 9, _, _, _, _, _⟩) (v := ?_) rfl (by kernel_rfl) (by kernel_rfl) (by kernel_rfl) (fun _ _ _ h => h) (Or.inl ⟨by rfl, ?_⟩) ?_
  rotate_left 1
  · (intro w; go_simp; try with_reducible rfl)
  simp only [Act.put, List.setIfInBounds_toArray, List.set_cons_zero, List.set_cons_succ]
  refine wpAny_take (i := 3) (oi := ⟨some 10, _, _, _, _, _⟩) (v := ?_) rfl (by kernel_rfl) (by kernel_rfl) (by kernel_rfl) (fun _ _ _ h => h) (Or.inl ⟨by rfl, ?_⟩) ?_
  rotate_left 1
  · (intro w; go_simp; try with_reducible rfl)
  simp only [Act.put, List.setIfInBounds_toArray, List.set_cons_zero, List.set_cons_succ]
  refine wpAny_take (i := 5) (oi := ⟨some 12, _, _, _, _, _⟩) (v := ?_) rfl (by kernel_rfl) (by kernel_rfl) (by kernel_rfl) (fun _ _ _ h => h) (Or.inl ⟨by rfl, ?_⟩) ?_
  rotate_left 1
  · (intro w; go_simp; try with_reducible rfl)
  simp only [Act.put, List.setIfInBounds_toArray, List.set_cons_zero, List.set_cons_succ]
  refine wpAny_take (i := 6) (oi := ⟨some 13, _, _, _, _, _⟩) (v := ?_) rfl (by kernel_rfl) (by kernel_rfl) (by kernel_rfl) (fun _ _ _ h => h) (Or.inl ⟨by rfl, ?_⟩) ?_
  rotate_left 1
  · (intro w; go_simp; try with_reducible rfl)
  simp only [Act.put, List.setIfInBounds_toArray, List.set_cons_zero, List.set_cons_succ]
  refine wpAny_take (i := 7) (oi := ⟨some 14, _, _, _, _, _⟩) (v := ?_) rfl (by kernel_rfl) (by kernel_rfl) (by kernel_rfl) (fun _ _ _ h => h) (Or.inl ⟨by rfl, ?_⟩) ?_
  rotate_left 1
  · (intro w; go_simp; try with_reducible rfl)
  simp only [Act.put, List.setIfInBounds_toArray, List.set_cons_zero, List.set_cons_succ]
  refine wpAny_take (i := 8) (oi := ⟨some 15, _, _, _, _, _⟩) (v := ?_) rfl (by kernel_rfl) (by kernel_rfl) (by kernel_rfl) (fun _ _ _ h => h) (Or.inl ⟨by rfl, ?_⟩) ?_
  rotate_left 1
  · (intro w; go_simp; try with_reducible rfl)
  simp only [Act.put, List.setIfInBounds_toArray, List.set_cons_zero, List.set_cons_succ]
  refine wpAny_take (i := 11) (oi := ⟨some 18, _, _, _, _, _⟩) (v := ?_) rfl (by kernel_rfl) (by kernel_rfl) (by kernel_rfl) (fun _ _ _ h => h) (Or.inl ⟨by rfl, ?_⟩) ?_
  rotate_left 1
  · (intro w; go_simp; try with_reducible rfl)
  simp only [Act.put, List.setIfInBounds_toArray, List.set_cons_zero, List.set_cons_succ]
  refine wpAny_ready (rs := [4, 9]) (by kernel_rfl) (by simp) ?_
  refine AllReady.cons (o := ⟨some 11, _, _, _, _, _⟩) rfl (fun K hK => ?_) (AllReady.cons (o := ⟨some 16, _, _, _, _, _⟩) rfl (fun K hK => ?_) AllReady.nil)
  · have cL := c1
    go_simp
    clear cL
    refine hK _ _ ?_
    clear hK K
    refine wpAny_ready (rs := [9]) (by kernel_rfl) (by simp) ?_
    refine AllReady.cons (o := ⟨some 16, _, _, _, _, _⟩) rfl (fun K hK => ?_) AllReady.nil
    go_simp
    refine HA.out.mono ?_
    rintro e w2 ⟨rfl, hS⟩
    have HS2 := hide hS
    clear hS
    refine hK _ _ ?_
    clear hK K
    refine wpAny_ready (rs := [10]) (by kernel_rfl) (by simp) ?_
    refine AllReady.cons (o := ⟨some 17, _, _, _, _, _⟩) rfl (fun K hK => ?_) AllReady.nil
    go_simp
    refine (S_fcheck HS2.out (list_set_get hi _) L t).mono ?_
    rintro e w3 ⟨v, rfl, hE, hS⟩
    have HE := hide hE
    have HS3 := hide hS
    clear hE hS HS2
    refine hK _ _ ?_
    clear hK K
    refine wpAny_ready (rs := [12]) (by kernel_rfl) (by simp) ?_
    refine AllReady.cons (o := ⟨some 19, _, _, _, _, _⟩) rfl (fun K hK => ?_) AllReady.nil
    go_simp
    refine (Is_err (j := 9) HE.out).mono ?_
    rintro e w4 ⟨rfl, rfl⟩
    rw [HD.out]
    refine hK _ _ ?_
    clear hK K
    refine wpAny_done (by kernel_rfl) ?_ _
    obtain ⟨x0, x1, x2, x3, xf, _⟩ := St.fence HS3.out (list_set_get hi _)
    cases b with
    | false =>
      go_wp2
      go_ret
      exact ⟨by rw [show R = L by have := HB.out.1; simpa using this]; rfl, HS3.out⟩
    | true =>
      go_wp2
      go_ret
      exact ⟨by rw [show R = 0 by have := HB.out.2; simpa using this]; rfl, HS3.out⟩
  · go_simp
    refine HA.out.mono ?_
    rintro e w2 ⟨rfl, hS⟩
    have HS2 := hide hS
    clear hS
    refine hK _ _ ?_
    clear hK K
    refine wpAny_ready (rs := [4]) (by kernel_rfl) (by simp) ?_
    refine AllReady.cons (o := ⟨some 11, _, _, _, _, _⟩) rfl (fun K hK => ?_) AllReady.nil
    have cL := (St.fence HS2.out (list_set_get hi _)).2.1
    go_simp
    clear cL
    refine hK _ _ ?_
    clear hK K
    refine wpAny_ready (rs := [10]) (by kernel_rfl) (by simp) ?_
    refine AllReady.cons (o := ⟨some 17, _, _, _, _, _⟩) rfl (fun K hK => ?_) AllReady.nil
    go_simp
    refine (S_fcheck HS2.out (list_set_get hi _) L t).mono ?_
    rintro e w3 ⟨v, rfl, hE, hS⟩
    have HE := hide hE
    have HS3 := hide hS
    clear hE hS HS2
    refine hK _ _ ?_
    clear hK K
    refine wpAny_ready (rs := [12]) (by kernel_rfl) (by simp) ?_
    refine AllReady.cons (o := ⟨some 19, _, _, _, _, _⟩) rfl (fun K hK => ?_) AllReady.nil
    go_simp
    refine (Is_err (j := 9) HE.out).mono ?_
    rintro e w4 ⟨rfl, rfl⟩
    rw [HD.out]
    refine hK _ _ ?_
    clear hK K
    refine wpAny_done (by kernel_rfl) ?_ _
    obtain ⟨x0, x1, x2, x3, xf, _⟩ := St.fence HS3.out (list_set_get hi _)
    cases b with
    | false =>
      go_wp2
      go_ret
      exact ⟨by rw [show R = L by have := HB.out.1; simpa using this]; rfl, HS3.out⟩
    | true =>
      go_wp2
      go_ret
      exact ⟨by rw [show R = 0 by have := HB.out.2; simpa using this]; rfl, HS3.out⟩
end

end Go.Proofs.YtmbhnhfnimijcaaDoor.Le
