/-
  The contracts of the document's Lacks and Newest. Nothing that was there is changed.
-/
import Derived.Test.YtenenhhijkjjfaaDoorMkRef
namespace Go.Proofs.YtenenhhijkjjfaaDoor.Mk
open Go.RowKit Go.Maps
open Pk Dk Wn Lk

section
variable {q : Nat} {s : Nat → Value} {A : Int → List Int} {w w' : World} {G : Nat → Prop}
set_option maxRecDepth 100000 in
set_option maxHeartbeats 4000000 in
theorem RLacks_any (h : Rtb q s A w G) (hA : ∀ u, (A u).length ≤ 100000) (x : Int) (VA : Option Addr) (N c : Nat) (vs : List Int) (hn : vs.length = N) (hlim : N ≤ 100000) (hs : Src w VA (nums vs)) :
    Calls Tryd.prog 18 #[.pointer (some ⟨q, 0, none⟩), .int .i64 x, .slice VA N c] w fun e w' => ∃ v, e = .returned v ∧ Ints w' w.heap.size v (lack A x vs) ∧ Below w.heap.size w w' := by
  have H := hide h
  have HA := hide hA
  have Hn := hide hn
  have Hs := hide hs
  clear h hA hn hs
  go_enter Tryd.func18, Tryd.ntmps18
  go_wp2
  go_loopw [7, 11] (fun v j wr => ∃ k : Nat, k ≤ N ∧ j = .int .i64 (k : Int) ∧ Hid (Ints wr w.heap.size v (lack A x (vs.take k))) ∧ Hid (Below w.heap.size w wr)) (fun _ j _ => N - (RowKit.intOf j).toNat)
  case atStart => exact ⟨0, Nat.zero_le _, rfl, ⟨ORow.nil _ _ _, fun k hk => by simp [Value.ownBlock] at hk⟩, Below.refl _ _⟩
  case round =>
    obtain ⟨k, hk, rfl, hv, hb⟩ := hrel
    rcases Nat.lt_or_ge k N with hlt | hge
    · have Hlt := hide hlt
      have hki : (k : Int) < (N : Int) := by omega
      obtain ⟨y, hy⟩ : ∃ y, vs[k]? = some y := ⟨_, List.getElem?_eq_getElem (by rw [Hn.out]; exact hlt)⟩
      obtain ⟨g, o, rfl, hgl, c0⟩ := Src.num (Hs.out.below hb.out) hy
      have HT := hide (show lack A x (vs.take (k + 1)) = lack A x (vs.take k) ++ lack A x [y] by rw [List.take_add_one, hy]; exact lack_app _ _)
      have HC := hide (RHas_any (H.out.below hb.out) y x HA.out)
      obtain ⟨d, hd⟩ : ∃ d, decide (x ∈ A y) = d := ⟨_, rfl⟩
      rw [hd] at HC
      obtain ⟨z, hz⟩ : ∃ z, (lack A x (vs.take k)).length = z := ⟨_, rfl⟩
      have hz1 : z ≤ k := by
        have := lack_le (A := A) (m := x) (vs.take k)
        rw [hz, List.length_take] at this
        omega
      obtain ⟨RA, rc, hrv, _, _, _⟩ := hv.out.form
      subst hrv
      rw [hz] at hv ⊢
      have Hd := hide hd
      have Hz := hide hz
      have Hz1 := hide hz1
      have Hlim := hide hlim
      clear hlt hy hk hd hgl hz hz1
      go_wp2_with fail
      refine HC.out.mono ?_
      rintro e w2 ⟨rfl, rfl⟩
      clear HC
      cases d with
      | true =>
        have HI := hide (show Ints w2 w.heap.size (.slice RA z rc) (lack A x (vs.take (k + 1))) by
          have e : lack A x (vs.take (k + 1)) = lack A x (vs.take k) := by rw [HT.out]; simp [lack, of_decide_eq_true Hd.out]
          rw [e]
          exact hv.out)
        have HB := hb
        clear hv hb
        go_wp2
        go_roundw
        case rel => exact ⟨k + 1, Hlt.out, by go_num, HI.out, HB.out⟩
        case measure => have := Hlt.out; simp [RowKit.intOf]; omega
      | false =>
        have hb5 : Below w2.heap.size w2 (w2.alloc (.cells #[.int .i64 y] 3)) := (Below.refl _ _).alloc (Nat.le_refl _) _
        have hvr := (hv.out.below hb5).row
        rw [Hz.out] at hvr
        have HO := hide hvr
        have HM : Hid (Src (w2.alloc (.cells #[.int .i64 y] 3)) (some ⟨w2.heap.size, 0, none⟩) (nums [y])) := (Made.row (Below.refl _ w2) #[.int .i64 y] 3).src
        have HG : Hid (∀ (W2 : World) (v2 : Value), Grown (w2.alloc (.cells #[.int .i64 y] 3)) 3 1 (.slice RA z rc) (z + 1) (nums (lack A x (vs.take k)) ++ nums [y]) v2 W2 → Ints W2 w.heap.size v2 (lack A x (vs.take (k + 1))) ∧ Below w.heap.size w W2) := fun W2 v2 hg => by
          have hkp := hg.kept (G := fun i => w.heap.size ≤ i) hb5 (fun i hi => hv.out.own i hi)
          refine ⟨⟨?_, fun i hi => ?_⟩, hb.out.trans (hkp.below (fun _ h => h) hb.out.size)⟩
          · have e : lack A x [y] = [y] := by simp [lack, of_decide_eq_false Hd.out]
            rw [HT.out, e]
            have := hg.row
            simpa [nums, Hz.out] using this
          · rcases hg.own i hi with h1 | h1
            · exact hv.out.own i h1
            · have := hb5.size
              have := hb.out.size
              omega
        have Hm1 := hide (show z + 1 ≤ maxLen by have := Hz1.out; have := Hlt.out; have := Hlim.out; unfold maxLen; omega)
        have Hm2 := hide (show (z + 1) * 8 ≤ 140737488355328 by have := Hz1.out; have := Hlt.out; have := Hlim.out; omega)
        clear hvr hb5 HT hv hb
        go_wp2_with (at_builtin; go_must (refine wpList_app app_int rfl (.tmp 22) (.tmp 27) rfl (.slice RA z rc) z (nums (lack A x (vs.take k))) rfl HO.out _ 1 1 (nums [y]) rfl rfl HM.out (fun u hu => by simp [nums] at hu; subst hu; rfl) (by decide) Hm1.out Hm2.out ?_))
        intro v2 W2 hg
        obtain ⟨hI, hB⟩ := HG.out _ _ hg.out
        have HI := hide hI
        have HB := hide hB
        clear hI hB hg HG HO HM c0
        go_wp2
        go_roundw
        case rel => exact ⟨k + 1, Hlt.out, by go_num, HI.out, HB.out⟩
        case measure => have := Hlt.out; simp [RowKit.intOf]; omega
    · obtain rfl : k = N := by omega
      have HI := hide hv.out
      rw [List.take_of_length_le (by rw [Hn.out]; exact Nat.le_refl _)] at HI
      have HB := hb
      clear hv hge hk hb
      go_wp2
      go_ret
      exact ⟨_, rfl, HI.out, HB.out⟩
/-- The newest of the first ones. -/
structure PartL (A : Int → List Int) (vs l : List Int) (r : Int) : Prop where
  low : 0 ≤ r
  hit : r = 0 ∨ Com A vs r
  top : ∀ x, x ∈ l → Com A vs x → x ≤ r
theorem PartL.keep {vs l : List Int} {k : Nat} {x r : Int} (h : PartL A vs (l.take k) r) (hx : l[k]? = some x) (hc : ¬ Com A vs x) : PartL A vs (l.take (k + 1)) r :=
  ⟨h.low, h.hit, fun y hy hcy => by
    rw [List.take_add_one, hx] at hy
    rcases List.mem_append.1 hy with hy | hy
    · exact h.top y hy hcy
    · simp at hy
      subst hy
      exact absurd hcy hc⟩
theorem PartL.turn {vs l : List Int} {k : Nat} {x r : Int} (h : PartL A vs (l.take k) r) (hx : l[k]? = some x) (hc : Com A vs x) : PartL A vs (l.take (k + 1)) (max r x) := by
  have h1 := h.low
  refine ⟨by omega, ?_, fun y hy hcy => ?_⟩
  · rcases Int.le_total r x with h2 | h2
    · rw [Int.max_eq_right h2]; exact Or.inr hc
    · rw [Int.max_eq_left h2]; exact h.hit
  · rw [List.take_add_one, hx] at hy
    rcases List.mem_append.1 hy with hy | hy
    · have := h.top y hy hcy
      omega
    · simp at hy
      subst hy
      omega
set_option maxRecDepth 100000 in
theorem RNewest_empty (T : Value) (VA : Option Addr) (c : Nat) (w : World) :
    Calls Tryd.prog 16 #[T, .slice VA 0 c] w fun e w' => NewR A [] e ∧ w' = w := by
  go_enter Tryd.func16, Tryd.ntmps16
  go_wp2
  go_ret
  exact ⟨⟨0, rfl, Int.le_refl _, Or.inl rfl, fun h => absurd rfl h⟩, rfl⟩
set_option maxRecDepth 100000 in
set_option maxHeartbeats 4000000 in
theorem RNewest_some (h : Rtb q s A w G) (hA : ∀ u, (A u).length ≤ 100000) (VA : Option Addr) (N c : Nat) (vs : List Int) (hn : vs.length = N) (hlim : N ≤ 100000) (hs : Src w VA (nums vs)) {a : Int} (ha : vs[0]? = some a) :
    Calls Tryd.prog 16 #[.pointer (some ⟨q, 0, none⟩), .slice VA N c] w fun e w' => NewR A vs e ∧ Below w.heap.size w w' := by
  have h0 : 0 < N := by
    have := (List.getElem?_eq_some_iff.1 ha).1
    omega
  have hn0 : ¬ N = 0 := by omega
  have hn0i : ¬ (N : Int) = 0 := by omega
  have hn0b : ((N : Int) == 0) = false := by simpa using hn0i
  have hn0j : (0 : Int) < (N : Int) := by omega
  obtain ⟨g, o, rfl, hgl, c0⟩ := Src.num hs ha
  simp only [Nat.add_zero] at c0
  have HO := hide (ROf_any h a)
  have H := hide h
  have HA := hide hA
  have Hn := hide hn
  have Hs := hide hs
  have Ha := hide ha
  obtain ⟨M, hM⟩ : ∃ M, (A a).length = M := ⟨_, rfl⟩
  have HMn := hide hM
  have HM4 := hide (show M ≤ 100000 by rw [← hM]; exact hA a)
  have hMi : (M : Int) ≤ 100000 := by have := HM4.out; omega
  clear h hA hn hs ha h0 hM hgl
  go_enter Tryd.func16, Tryd.ntmps16
  go_wp2_with fail
  refine HO.out.mono ?_
  rintro e w1 ⟨⟨RA, rc, rfl, hsrc⟩, rfl⟩
  rw [HMn.out]
  have HR := hide hsrc
  clear HO hsrc c0
  go_wp2
  go_loopw [5, 18] (fun nv j wr => ∃ (k : Nat) (r : Int), k ≤ M ∧ nv = .int .i64 r ∧ j = .int .i64 (k : Int) ∧ Hid (PartL A vs ((A a).take k) r) ∧ Hid (Below w1.heap.size w1 wr)) (fun _ j _ => M - (RowKit.intOf j).toNat)
  case atStart => exact ⟨0, 0, Nat.zero_le _, rfl, rfl, ⟨Int.le_refl _, Or.inl rfl, fun x hx => by simp at hx⟩, Below.refl _ _⟩
  case round =>
    obtain ⟨k, r, hk, rfl, rfl, hp, hb⟩ := hrel
    rcases Nat.lt_or_ge k M with hlt | hge
    · have Hlt := hide hlt
      have hki : (k : Int) < (M : Int) := by omega
      obtain ⟨x, hx⟩ : ∃ x, (A a)[k]? = some x := ⟨_, List.getElem?_eq_getElem (by rw [HMn.out]; exact hlt)⟩
      obtain ⟨g1, o1, rfl, _, d0⟩ := Src.num (HR.out.below hb.out) hx
      have HL := hide (RLacks_any (H.out.below hb.out) HA.out x (some ⟨g, o, none⟩) N c vs Hn.out hlim (Hs.out.below hb.out))
      have Hx := hide hx
      obtain ⟨z, hz⟩ : ∃ z, (lack A x vs).length = z := ⟨_, rfl⟩
      have Hz := hide hz
      clear hlt hx hk hz
      go_wp2_with fail
      refine HL.out.mono ?_
      rintro e w2 ⟨v, rfl, hI, hb2⟩
      obtain ⟨LA, lc, hr, _, _, _⟩ := hI.form
      subst hr
      rw [Hz.out]
      have HB := hide (hb.out.trans (hb2.mono hb.out.size))
      have d1 := (hb2.cell (p := ⟨g1, o1 + k, none⟩) (World.block_lt_of_cell? wr ⟨g1, _, none⟩ d0)).trans d0
      clear hI HL hb hb2 d0
      by_cases hz0 : z = 0
      · subst hz0
        have hc : Com A vs x := lack_nil.1 (List.eq_nil_of_length_eq_zero Hz.out)
        have HP := hide (hp.out.turn Hx.out hc)
        obtain ⟨mx, hmx⟩ : ∃ mx, max r x = mx := ⟨_, rfl⟩
        rw [hmx] at HP
        clear hc hp
        go_wp2
        go_roundw
        case rel => exact ⟨k + 1, mx, Hlt.out, rfl, by go_num, HP.out, HB.out⟩
        case measure => have := Hlt.out; simp [RowKit.intOf]; omega
      · have HP := hide (hp.out.keep Hx.out (fun hc => hz0 (by rw [← Hz.out, lack_nil.2 hc]; rfl)))
        have hzi : ¬ (z : Int) = 0 := by omega
        have hzb : ((z : Int) == 0) = false := by simpa using hzi
        clear hz0 hp
        go_wp2
        go_roundw
        case rel => exact ⟨k + 1, r, Hlt.out, rfl, by go_num, HP.out, HB.out⟩
        case measure => have := Hlt.out; simp [RowKit.intOf]; omega
    · obtain rfl : k = M := by omega
      have hp' := hp.out
      rw [List.take_of_length_le (by rw [HMn.out]; exact Nat.le_refl _)] at hp'
      have hav : a ∈ vs := List.mem_of_getElem? Ha.out
      have HN := hide (show New A vs r from ⟨hp'.low, hp'.hit.imp id fun h => ⟨List.ne_nil_of_mem hav, h⟩, fun _ m hc => hp'.top m (hc a hav) hc⟩)
      have HB := hb
      clear hp hp' hav hge hk hb
      go_wp2
      go_ret
      exact ⟨⟨r, rfl, HN.out⟩, HB.out⟩
theorem RNewest_any (h : Rtb q s A w G) (hA : ∀ u, (A u).length ≤ 100000) (VA : Option Addr) (N c : Nat) (vs : List Int) (hn : vs.length = N) (hlim : N ≤ 100000) (hs : Src w VA (nums vs)) :
    Calls Tryd.prog 16 #[.pointer (some ⟨q, 0, none⟩), .slice VA N c] w fun e w' => NewR A vs e ∧ Below w.heap.size w w' := by
  by_cases h0 : vs = []
  · subst h0
    obtain rfl : N = 0 := by simpa using hn.symm
    exact (RNewest_empty _ VA c w).mono fun e w' ⟨h1, h2⟩ => ⟨h1, by rw [h2]; exact Below.refl _ _⟩
  · obtain ⟨x, hx⟩ := List.exists_mem_of_ne_nil _ h0
    exact RNewest_some h hA VA N c vs hn hlim hs (List.getElem?_eq_getElem (List.length_pos_of_mem hx))
end

end Go.Proofs.YtenenhhijkjjfaaDoor.Mk
