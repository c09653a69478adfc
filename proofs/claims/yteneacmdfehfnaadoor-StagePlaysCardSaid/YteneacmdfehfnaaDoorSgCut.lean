/-
  The contracts of lose, Crash, Cut and Drop of a stage. Nothing but the stage's own blocks is changed.
-/
import Derived.Test.YteneacmdfehfnaaDoorSgOps
namespace Go.Proofs.YteneacmdfehfnaaDoor.Sg
open Go.RowKit
open Pk Dk Wn Lk Rc

/-- clear of nothing. -/
theorem run_clear_0 {P : Program} {t e : TypeId} {size bytes : Nat} (hA : AppTy P t e size bytes) (w : World) (ty : TypeId) (A : Option Addr) (c : Nat) : (Builtin.clear_ #[t] ty #[.slice A 0 c]).run P w = .ok (.tuple #[]) w := by
  obtain ⟨ht, _⟩ := hA
  cases A <;> simp [Builtin.clear_, run_underlying ht]
theorem ORow.shorter {w : World} {e : TypeId} {size n c k : Nat} {A : Option Addr} {xs : List Value} (h : ORow w e size (.slice A n c) n xs) (hk : k ≤ n) : ORow w e size (.slice A k c) k (xs.take (k * size)) := by
  have hle : k * size ≤ n * size := Nat.mul_le_mul_right _ hk
  refine ⟨by rw [List.length_take, h.1]; omega, ?_⟩
  rcases h.2 with ⟨h0, _⟩ | ⟨g, o, cap, cur, h0, hg, h1, h2, h3, h4⟩
  · simp only [Value.slice.injEq] at h0
    obtain ⟨rfl, rfl, rfl⟩ := h0
    have : k = 0 := by omega
    exact Or.inl ⟨by rw [this], this⟩
  · simp only [Value.slice.injEq, true_and] at h0
    obtain ⟨rfl, rfl⟩ := h0
    exact Or.inr ⟨g, o, c, cur, rfl, hg, by omega, h2, h3, by rw [← h4, List.take_take, Nat.min_eq_left hle]⟩
section
variable {w w1 : World} {G : Nat → Prop} {p f b n c k : Nat} {mr : List Value} {L : List Rd}
/-- A stage's struct, whatever its other cells. -/
def batT (p : Nat) (X : Value) (mr : List Value) (n : Nat) (xs : List Value) : Thg := ⟨BAt 58 30 5 p X mr n xs, fun h hk hd => BAt.kept h hk hd, fun h => h.lt⟩
/-- What is left in place of a shorter slice. -/
theorem lost {A : Option Addr} (hx : BAt 58 30 5 p (.slice A n c) mr n (rcels L) w G) (hk : Kept G w w1) (hp : w1.heap[p]? = w.heap[p]?) (hr : ORow w1 30 5 (.slice A k c) k (rcels (L.take k))) :
    w1.cell? ⟨p, 0, none⟩ = some (.slice A n c) ∧ w1.frozen? ⟨p, 0, none⟩ = false ∧ After (batT p (.slice A k c) mr k (rcels (L.take k))) w G (w1.setCell ⟨p, 0, none⟩ (.slice A k c)) :=
  ⟨hx.cell' hp 0, hx.frozen' hp 0, hx.put0 hk hp hr fun i hi => Or.inl (by cases A <;> exact hi)⟩
set_option maxRecDepth 100000 in
set_option maxHeartbeats 4000000 in
theorem lose_any {A : Option Addr} (hx : BAt 58 30 5 p (.slice A n c) mr n (rcels L) w G) (hn : n ≤ c) (hc : c ≤ maxLen) (hk : k ≤ n) :
    Calls Tryd.prog 30 #[.pointer (some ⟨p, 0, none⟩), .int .i64 (k : Int)] w fun e w' => e = .returned (.tuple #[]) ∧ After (batT p (.slice A k c) mr k (rcels (L.take k))) w G w' := by
  have c0 := hx.cell 0
  simp only [List.getElem?_cons_zero] at c0
  have h1 : (k : Int) ≤ (n : Int) := by omega
  have h2 : (n : Int) ≤ (c : Int) := by omega
  have h3 : c ≤ 9223372036854775807 := by unfold maxLen at hc; omega
  have h4 : (k : Int) ≤ (c : Int) := by omega
  have h5 : k ≤ c := by omega
  have hsh := ORow.shorter hx.row hk
  rw [rcels_take] at hsh
  cases A with
  | none =>
    have hn0 : n = 0 ∧ c = 0 := by
      rcases hx.row.2 with ⟨h0, _⟩ | ⟨g, o, cap, cur, h0, _⟩
      · simp at h0
        exact h0
      · simp at h0
    obtain ⟨rfl, rfl⟩ := hn0
    obtain rfl : k = 0 := by omega
    have hcl := run_clear_0 app_rc w 0 none 0
    obtain ⟨s0, s1, s2⟩ := lost hx (Kept.of_below (G := G) (Below.refl _ w)) rfl hsh
    have HA := hide s2
    clear s2 hsh hx hn hc hk h1 h2 h3 h4 h5
    go_enter Tryd.func30, Tryd.ntmps30
    go_wp2
    go_end0
    exact ⟨rfl, HA.out⟩
  | some a =>
    obtain ⟨g, o, rfl⟩ : ∃ g o, a = ⟨g, o, none⟩ := by
      rcases hx.row.2 with ⟨h0, _⟩ | ⟨g, o, cap, cur, h0, _⟩
      · simp at h0
      · simp only [Value.slice.injEq, Option.some.injEq] at h0
        exact ⟨g, o, h0.1⟩
    by_cases hkn : k = n
    · subst hkn
      obtain ⟨s0, s1, s2⟩ := lost hx (Kept.of_below (G := G) (Below.refl _ w)) rfl hsh
      have HA := hide s2
      by_cases he : c = k
      · subst he
        have hcl := run_clear_0 app_rc w 0 (some ⟨g, o, none⟩) 0
        clear s2 hsh hx hn hc hk
        go_enter Tryd.func30, Tryd.ntmps30
        go_wp2
        go_end0
        exact ⟨rfl, HA.out⟩
      · have hcl := run_clear_0 app_rc w 0 (some ⟨g, o + k * 5, none⟩) (c - k)
        clear s2 hsh hx hn hc hk
        go_enter Tryd.func30, Tryd.ntmps30
        go_wp2
        go_end0
        exact ⟨rfl, HA.out⟩
    · have hkn' : k < n := by omega
      have hck : ¬ c = k := by omega
      obtain ⟨w1, hcl, hr, hkp⟩ := run_clear_from app_rc one_rc (by decide) w 0 hx.row hkn'
      rw [rcels_take] at hr
      have hg := hx.own g rfl
      obtain ⟨s0, s1, s2⟩ := lost hx (⟨hkp.os, hkp.tape, hkp.output, hkp.size, fun i hi hn => hkp.block i hi fun e => hn (by rw [e]; exact hg.1)⟩ : Kept G w w1) (hkp.block p (hx.lt p hx.mine) fun e => hg.2 e.symm) hr
      have HA := hide s2
      clear s2 hsh hx hn hc hk hr hkp hg hkn
      go_enter Tryd.func30, Tryd.ntmps30
      go_wp2
      go_end0
      exact ⟨rfl, HA.out⟩
end

/-- How many records a crash leaves. -/
def left (keep : Int) (f n : Nat) : Nat := f + (min (max keep 0) ((n - f : Nat) : Int)).toNat
theorem left_le (keep : Int) {f n : Nat} (h : f ≤ n) : left keep f n ≤ n := by unfold left; omega
theorem left_ge (keep : Int) (f n : Nat) : f ≤ left keep f n := by unfold left; omega
section
variable {w w1 : World} {G : Nat → Prop} {p f b : Nat} {m : Int} {L : List Rd}
set_option maxRecDepth 100000 in
set_option maxHeartbeats 4000000 in
theorem Crash_any (h : Stg p L f b m w G) (keep : Int) {q : Nat} (hq : left keep f L.length = q) : Calls Tryd.prog 13 #[.pointer (some ⟨p, 0, none⟩), .int .i64 keep] w fun e w' => e = .returned (.tuple #[]) ∧ After (stgT p (L.take q) q b m) w G w' := by
  obtain ⟨A, n, c, hx, hn, hnc, hcm, _, _, c0, c1, _, _, fz⟩ := h.cells
  have hfl := h.fl
  have hfew := h.few
  rw [← hn] at hq hfl hfew
  have hql : q ≤ n := by rw [← hq]; exact left_le keep hfl
  obtain ⟨d, hd⟩ : ∃ d, n - f = d := ⟨_, rfl⟩
  obtain ⟨e, he⟩ : ∃ e, (min (max keep 0) ((n - f : Nat) : Int)).toNat = e := ⟨_, rfl⟩
  have h1 : (n : Int) - (f : Int) = (d : Int) := by omega
  have h2 : min (max keep 0) (d : Int) = (e : Int) := by rw [← he, hd]; omega
  have h3 : (f : Int) + (e : Int) = (q : Int) := by unfold left at hq; rw [he] at hq; omega
  have h4 : IntKind.i64.wrap (d : Int) = (d : Int) := wrap_id (by omega) (by omega)
  have h5 : IntKind.i64.wrap (q : Int) = (q : Int) := wrap_id (by omega) (by omega)
  have Hfew := hide hfew
  have Hql := hide hql
  have Hbb := hide h.bb
  have Hrun := hide h.run
  have Hnc := hide hnc
  have Hcm := hide hcm
  have HX : Hid (∀ wd, Below w.heap.size w wd → wd.cell? ⟨p, 1, none⟩ = some (.int .i64 (f : Int)) ∧ wd.frozen? ⟨p, 1, none⟩ = false ∧ BAt 58 30 5 p (.slice A n c) (more q b m) n (rcels L) (wd.setCell ⟨p, 1, none⟩ (.int .i64 (q : Int))) G ∧ Kept G w (wd.setCell ⟨p, 1, none⟩ (.int .i64 (q : Int)))) := fun wd hb => by
    have hx1 := BAt.below hx hb
    have h6 := hx1.set 0 (.int .i64 (q : Int))
    exact ⟨hx1.cell 1, hx1.frozen 1, h6.1, (Kept.of_below (G := G) hb).trans (Grew.refl _ _) h6.2⟩
  clear h hx hn hnc hcm fz hfl hfew hql hq hd he
  go_enter Tryd.func13, Tryd.ntmps13
  go_wp2_with fail
  go_quiet (fail)
  obtain ⟨d0, d1, hb2, hk2⟩ := HX.out (w.drewN nq) ⟨rfl, rfl, rfl, Nat.le_refl _, fun _ _ => rfl⟩
  have HB2 := hide hb2
  have HK2 := hide hk2
  clear hb2 hk2 HX c0 c1
  go_wp2_with fail
  generalize World.setCell _ _ _ = w2 at *
  have HC := hide (lose_any HB2.out Hnc.out Hcm.out Hql.out)
  clear d0 d1
  refine HC.out.mono ?_
  rintro e w3 ⟨rfl, hA⟩
  have HA : Hid (After (stgT p (L.take q) q b m) w G w3) := by
    obtain ⟨G', hp, hg, hkp⟩ := hA
    have hL := HB2.out.row.1
    rw [rcels_len] at hL
    have hl : (L.take q).length = q := by rw [List.length_take]; have := Hql.out; omega
    have hsz := HK2.out.size
    refine ⟨G', ⟨⟨.slice A q c, ?_⟩, by omega, by have := Hql.out; have := Hfew.out; omega, Hbb.out, Hrun.out.take q⟩, fun k hk => (hg k hk).imp id (fun h => Nat.le_trans hsz h), HK2.out.trans (fun k hk => Or.inl hk) hkp⟩
    unfold SAt
    rw [hl]
    exact hp
  clear hA HC HB2 HK2
  go_wp2
  go_end0
  exact ⟨rfl, HA.out⟩
set_option maxRecDepth 100000 in
set_option maxHeartbeats 4000000 in
theorem Cut_any (h : Stg p L f b m w G) : Calls Tryd.prog 22 #[.pointer (some ⟨p, 0, none⟩)] w fun e w' => e = .returned (.int .i64 (L.length : Int)) ∧ After (stgT p [] 0 b m) w G w' := by
  obtain ⟨A, n, c, hx, hn, hnc, hcm, _, _, c0, _, _, _, _⟩ := h.cells
  rw [← hn]
  have Hbb := hide h.bb
  have HC := hide (lose_any hx hnc hcm (Nat.zero_le _))
  clear h hx hn hnc hcm
  go_enter Tryd.func22, Tryd.ntmps22
  go_wp2_with fail
  refine HC.out.mono ?_
  rintro e w2 ⟨rfl, G2, hp, hg, hk⟩
  have hp' : BAt 58 30 5 p (.slice A 0 c) (more f b m) 0 (rcels (L.take 0)) w2 G2 := hp
  have d1 := hp'.cell 1
  simp only [List.getElem?_cons_succ, List.getElem?_cons_zero] at d1
  have d2 := hp'.frozen 1
  have HA : Hid (After (stgT p [] 0 b m) w G (w2.setCell ⟨p, 1, none⟩ (.int .i64 0))) := by
    have h6 := hp'.set 0 (.int .i64 0)
    exact ⟨G2, ⟨⟨.slice A 0 c, h6.1⟩, Nat.le_refl _, by simp, Hbb.out, Run.nil b⟩, hg, hk.trans hg h6.2⟩
  clear hp hp' hg hk HC c0
  go_wp2
  go_ret
  exact ⟨rfl, HA.out⟩
/-- What is left of a stage whose first records are dropped. -/
theorem dropped {g o n c k : Nat} {f' b' : Nat} {mark : Int} (hx : BAt 58 30 5 p (.slice (some ⟨g, o, none⟩) n c) (more f b m) n (rcels L) w G) (hn : n = L.length) (hk : k ≤ n) (hc : Cleared w g o (k * 5) w1) (v : Value) (hv : v = if c = k then .slice (some ⟨g, o, none⟩) 0 0 else .slice (some ⟨g, o + k * 5, none⟩) (n - k) (c - k))
    (hf : f' + k = f) (hb : b + k = b') (hfn : f ≤ n) (hfew : n ≤ 100000) (hbb : b' ≤ 1152921504606846975) (hrun : Run b L) :
    (w1.cell? ⟨p, 0, none⟩ = some (.slice (some ⟨g, o, none⟩) n c) ∧ w1.cell? ⟨p, 1, none⟩ = some (.int .i64 (f : Int)) ∧ w1.cell? ⟨p, 2, none⟩ = some (.int .i64 (b : Int)) ∧ w1.cell? ⟨p, 3, none⟩ = some (.int .i64 m)) ∧ (∀ j, w1.frozen? ⟨p, j, none⟩ = false) ∧
      After (stgT p (L.drop k) f' b' mark) w G ((((w1.setCell ⟨p, 0, none⟩ v).setCell ⟨p, 1, none⟩ (.int .i64 (f' : Int))).setCell ⟨p, 2, none⟩ (.int .i64 (b' : Int))).setCell ⟨p, 3, none⟩ (.int .i64 mark)) := by
  have hg : ∃ cur, w.heap[g]? = some (.cells cur 30 (0, 0)) := by
    rcases hx.row.2 with ⟨h0, _⟩ | ⟨g', o', cap, cur, h0, hg, _⟩
    · simp at h0
    · simp only [Value.slice.injEq, Option.some.injEq, Addr.mk.injEq] at h0
      obtain ⟨⟨rfl, _, _⟩, _, _⟩ := h0
      exact ⟨cur, hg⟩
  obtain ⟨cur, hg⟩ := hg
  have hk1 := hc.kept hg
  have hgG := hx.own g rfl
  have hK : Kept G w w1 := ⟨hk1.os, hk1.tape, hk1.output, hk1.size, fun i hi hn => hk1.block i hi fun e => hn (by rw [e]; exact hgG.1)⟩
  have hp : w1.heap[p]? = w.heap[p]? := hk1.block p (hx.lt p hx.mine) fun e => hgG.2 e.symm
  have hr := hx.row.cleared hk hc
  rw [← hv, rcels_drop] at hr
  have ho : ∀ i, v.ownBlock = some i → (Value.slice (some ⟨g, o, none⟩) n c).ownBlock = some i ∨ w.heap.size ≤ i := by
    intro i hi
    rw [hv] at hi
    split at hi
    · exact Or.inl hi
    · exact Or.inl hi
  refine ⟨⟨hx.cell' hp 0, hx.cell' hp 1, hx.cell' hp 2, hx.cell' hp 3⟩, hx.frozen' hp, ?_⟩
  obtain ⟨G', h1, h2, h3⟩ := hx.put0 hK hp hr ho
  have h1' : BAt 58 30 5 p v (more f b m) (n - k) (rcels (L.drop k)) (w1.setCell ⟨p, 0, none⟩ v) G' := h1
  obtain ⟨a1, k1⟩ := h1'.set 0 (.int .i64 (f' : Int))
  obtain ⟨a2, k2⟩ := a1.set 1 (.int .i64 (b' : Int))
  obtain ⟨a3, k3⟩ := a2.set 2 (.int .i64 mark)
  have hl : (L.drop k).length = n - k := by rw [List.length_drop, hn]
  refine ⟨G', ⟨⟨v, ?_⟩, by omega, by omega, hbb, ?_⟩, h2, ((h3.trans h2 k1).trans h2 k2).trans h2 k3⟩
  · unfold SAt
    rw [hl]
    exact a3
  · rw [← hb]
    exact hrun.drop k
set_option maxRecDepth 100000 in
set_option maxHeartbeats 4000000 in
theorem Drop_ok (h : Stg p L f b m w G) (mark : Int) {k : Nat} (hk : reach mark (L.take f) = k) (h0 : 0 < k) : Calls Tryd.prog 18 #[.pointer (some ⟨p, 0, none⟩), .int .i64 mark] w fun e w' => e = .returned .nilIface ∧ After (stgT p (L.drop k) (f - k) (b + k) mark) w G w' := by
  have HR := hide (reach_any h mark hk)
  have hkf : k ≤ f := by
    have := reach_le mark (L.take f)
    rw [hk, List.length_take] at this
    omega
  obtain ⟨f', hf'⟩ : ∃ f', f - k = f' := ⟨_, rfl⟩
  obtain ⟨b', hb'⟩ : ∃ b', b + k = b' := ⟨_, rfl⟩
  rw [hf', hb']
  have HH := hide h
  have Hk := hide h0
  have Hkf := hide hkf
  have Hf' := hide hf'
  have Hb' := hide hb'
  have hk0 : ((k : Int) == 0) = false := by simp; omega
  clear h hk h0 hkf hf' hb'
  go_enter Tryd.func18, Tryd.ntmps18
  go_wp2_with fail
  refine HR.out.mono ?_
  rintro e w2 ⟨rfl, hb2⟩
  have HB2 := hide hb2
  have hh := HH.out.below hb2
  obtain ⟨A, n, c, hx, hn, hnc, hcm, hs, _, c0, c1, c2, c3, _⟩ := hh.cells
  have hfl := hh.fl
  have hfew := hh.few
  have hsum := hh.run.sum hh.bb
  rw [← hn] at hfl hfew hsum
  have hkf := Hkf.out
  have hf' := Hf'.out
  have hb' := Hb'.out
  have hkn : k ≤ n := by omega
  obtain ⟨g, o, rfl, hgl, _⟩ := hs (by
    intro e
    have := rcels_len L
    rw [e, ← hn] at this
    have := Hk.out
    simp at *
    omega)
  have e1 : (f : Int) - (k : Int) = (f' : Int) := by omega
  have e2 : (b : Int) + (k : Int) = (b' : Int) := by omega
  have e3 : IntKind.i64.wrap (f' : Int) = (f' : Int) := wrap_id (by omega) (by omega)
  have e4 : IntKind.i64.wrap (b' : Int) = (b' : Int) := wrap_id (by omega) (by omega)
  have e5 : c ≤ 9223372036854775807 := by unfold maxLen at hcm; omega
  have e6 : (k : Int) ≤ (n : Int) := by omega
  have e7 : (n : Int) ≤ (c : Int) := by omega
  have e8 : (k : Int) ≤ (c : Int) := by omega
  have e9 : k ≤ c := by omega
  have HD := hide (fun (w1 : World) (hc : Cleared w2 g o (k * 5) w1) => dropped (f' := f') (b' := b') (mark := mark) hx hn hkn hc _ rfl (by omega) hb' hfl hfew (by omega) hh.run)
  obtain ⟨w1, hcl, hc⟩ := run_clear app_rc one_rc (by decide) w2 0 hx.row Hk.out hkn
  obtain ⟨⟨s0, s1, s2, s3⟩, s4, s5⟩ := HD.out w1 hc
  have z0 := s4 0
  have z1 := s4 1
  have z2 := s4 2
  have z3 := s4 3
  by_cases he : c = k
  · have hnk : n = k := by omega
    subst he hnk
    rw [if_pos rfl] at s5
    have HA := hide (s5.from HB2.out)
    clear s5 s4 HD hc hx hn hnc hcm hs hfl hfew hsum hkf hf' hb' hkn hgl hb2 hh HR c1 c2 c3
    go_wp2
    go_ret
    exact ⟨rfl, HA.out⟩
  · rw [if_neg he] at s5
    have HA := hide (s5.from HB2.out)
    clear s5 s4 HD hc hx hn hnc hcm hs hfl hfew hsum hkf hf' hb' hkn hgl hb2 hh HR c1 c2 c3
    go_wp2
    go_ret
    exact ⟨rfl, HA.out⟩
end

end Go.Proofs.YteneacmdfehfnaaDoor.Sg
