/-
  The contracts of the document's Put and Forget: the volume's list is another one; nothing else that was there is changed.
-/
import Derived.Test.YtenenhhijkjjfaaDoorMkRefB
namespace Go.Proofs.YtenenhhijkjjfaaDoor.Mk
open Go.RowKit Go.Maps
open Pk Dk Wn Lk

/-- Those above a number. -/
def abv (t : Int) (l : List Int) : List Int := l.filter (fun m => decide (t < m))
theorem abv_snoc (t : Int) (l : List Int) (k : Nat) (x : Int) (h : l[k]? = some x) : abv t (l.take (k + 1)) = if t < x then abv t (l.take k) ++ [x] else abv t (l.take k) := by
  unfold abv
  rw [List.take_add_one, h, List.filter_append]
  by_cases e : t < x <;> simp [e]
theorem drop_out {A : Int → List Int} {u t : Int} (h : A u = []) : drop A u t = A := funext fun v => by
  unfold drop
  by_cases hv : v = u
  · subst hv
    simp [h]
  · simp [hv]
section
variable {q : Nat} {s : Nat → Value} {A : Int → List Int} {w w' : World} {G : Nat → Prop}
set_option maxRecDepth 100000 in
set_option maxHeartbeats 4000000 in
theorem RForget_in (h : Rtb q s A w G) (hA : ∀ u, (A u).length ≤ 100000) {i : Nat} (hi : i < 4) (t : Int) :
    Calls Tryd.prog 11 #[.pointer (some ⟨q, 0, none⟩), .int .i64 (i : Int), .int .i64 t] w fun e w' => e = .returned (.tuple #[]) ∧ After (rtbT q (drop A (i : Int) t)) w G w' := by
  have HV := hide (in_any (i : Int) w)
  rw [decide_eq_true (show 0 ≤ (i : Int) ∧ (i : Int) < 4 by omega)] at HV
  have H := hide h
  obtain ⟨RA, c, hsl, h1, h2, hsrc⟩ := h.slice hi
  have Hsl := hide hsl
  have HR := hide hsrc
  obtain ⟨N, hN⟩ : ∃ N, (A (i : Int)).length = N := ⟨_, rfl⟩
  have HN := hide hN
  have HN4 := hide (show N ≤ 100000 by rw [← hN]; exact hA _)
  have hNi : (N : Int) ≤ 100000 := by have := HN4.out; omega
  have c0 := h.cell hi
  rw [hsl, hN] at c0
  have Hi := hide hi
  have hii : (i : Int) < 4 := by omega
  clear h hA hi hsl h1 h2 hsrc hN
  go_enter Tryd.func11, Tryd.ntmps11
  go_wp2_with fail
  refine HV.out.mono ?_
  rintro e w1 ⟨rfl, rfl⟩
  clear HV
  go_wp2
  go_loopw [6, 18] (fun v j wr => ∃ k : Nat, k ≤ N ∧ j = .int .i64 (k : Int) ∧ Hid (Ints wr w1.heap.size v (abv t ((A (i : Int)).take k))) ∧ Hid (Below w1.heap.size w1 wr)) (fun _ j _ => N - (RowKit.intOf j).toNat)
  case atStart => exact ⟨0, Nat.zero_le _, rfl, ⟨ORow.nil _ _ _, fun k hk => by simp [Value.ownBlock] at hk⟩, Below.refl _ _⟩
  case round =>
    obtain ⟨k, hk, rfl, hv, hb⟩ := hrel
    have c1 := ((H.out.below hb.out).cell Hi.out).trans (congrArg some Hsl.out)
    rw [HN.out] at c1
    rcases Nat.lt_or_ge k N with hlt | hge
    · have Hlt := hide hlt
      have hki : (k : Int) < (N : Int) := by omega
      obtain ⟨x, hx⟩ : ∃ x, (A (i : Int))[k]? = some x := ⟨_, List.getElem?_eq_getElem (by rw [HN.out]; exact hlt)⟩
      obtain ⟨g, o, rfl, _, d0⟩ := Src.num (HR.out.below hb.out) hx
      have HT := hide (abv_snoc t (A (i : Int)) k x hx)
      obtain ⟨z, hz⟩ : ∃ z, (abv t ((A (i : Int)).take k)).length = z := ⟨_, rfl⟩
      have hz1 : z ≤ k := by
        have := List.length_filter_le (fun m => decide (t < m)) ((A (i : Int)).take k)
        rw [List.length_take] at this
        unfold abv at hz
        omega
      obtain ⟨VA, vc, hrv, _, _, _⟩ := hv.out.form
      subst hrv
      rw [hz] at hv ⊢
      have Hz := hide hz
      have Hz1 := hide hz1
      clear hlt hx hk hz hz1
      by_cases hx2 : t < x
      · rw [if_pos hx2] at HT
        have hb5 : Below wr.heap.size wr (wr.alloc (.cells #[.int .i64 x] 3)) := (Below.refl _ _).alloc (Nat.le_refl _) _
        have hvr := (hv.out.below hb5).row
        rw [Hz.out] at hvr
        have HO := hide hvr
        have HM : Hid (Src (wr.alloc (.cells #[.int .i64 x] 3)) (some ⟨wr.heap.size, 0, none⟩) (nums [x])) := (Made.row (Below.refl _ wr) #[.int .i64 x] 3).src
        have HG : Hid (∀ (W2 : World) (v2 : Value), Grown (wr.alloc (.cells #[.int .i64 x] 3)) 3 1 (.slice VA z vc) (z + 1) (nums (abv t ((A (i : Int)).take k)) ++ nums [x]) v2 W2 → Ints W2 w1.heap.size v2 (abv t ((A (i : Int)).take (k + 1))) ∧ Below w1.heap.size w1 W2) := fun W2 v2 hg => by
          have hkp := hg.kept (G := fun i => w1.heap.size ≤ i) hb5 (fun i hi => hv.out.own i hi)
          refine ⟨⟨?_, fun i hi => ?_⟩, hb.out.trans (hkp.below (fun _ h => h) hb.out.size)⟩
          · rw [HT.out]
            have := hg.row
            simpa [nums, Hz.out] using this
          · rcases hg.own i hi with h1 | h1
            · exact hv.out.own i h1
            · have := hb5.size
              have := hb.out.size
              omega
        have Hm1 := hide (show z + 1 ≤ maxLen by have := Hz1.out; have := Hlt.out; have := HN4.out; unfold maxLen; omega)
        have Hm2 := hide (show (z + 1) * 8 ≤ 140737488355328 by have := Hz1.out; have := Hlt.out; have := HN4.out; omega)
        clear hvr hb5 HT hv hb c0
        go_wp2_with (at_builtin; go_must (refine wpList_app app_int rfl (.tmp 32) (.tmp 42) rfl (.slice VA z vc) z (nums (abv t ((A (i : Int)).take k))) rfl HO.out _ 1 1 (nums [x]) rfl rfl HM.out (fun u hu => by simp [nums] at hu; subst hu; rfl) (by decide) Hm1.out Hm2.out ?_))
        intro v2 W2 hg
        obtain ⟨hI, hB⟩ := HG.out _ _ hg.out
        have HI := hide hI
        have HB := hide hB
        clear hI hB hg HG HO HM d0 c1
        go_wp2
        go_roundw
        case rel => exact ⟨k + 1, Hlt.out, by go_num, HI.out, HB.out⟩
        case measure => have := Hlt.out; simp [RowKit.intOf]; omega
      · rw [if_neg hx2] at HT
        have HI := hide (show Ints wr w1.heap.size (.slice VA z vc) (abv t ((A (i : Int)).take (k + 1))) by rw [HT.out]; exact hv.out)
        have HB := hb
        clear hv hb HT c0
        go_wp2
        go_roundw
        case rel => exact ⟨k + 1, Hlt.out, by go_num, HI.out, HB.out⟩
        case measure => have := Hlt.out; simp [RowKit.intOf]; omega
    · obtain rfl : k = N := by omega
      have hI := hv.out
      rw [List.take_of_length_le (by rw [HN.out]; exact Nat.le_refl _)] at hI
      have hd : drop A (i : Int) t (i : Int) = abv t (A (i : Int)) := by simp [drop, abv]
      rw [← hd] at hI
      have HS := hide (H.out.store Hi.out (H.out.good.drop (i : Int) t) hb.out hI.row hI.own (fun j _ hne => by
        have : ¬ (j : Int) = (i : Int) := by omega
        simp [drop, this]))
      have f0 := (H.out.below hb.out).frozen i
      obtain ⟨VA, vc, hrv, _, _, _⟩ := hI.form
      obtain ⟨z, hz⟩ : ∃ z, (drop A (i : Int) t (i : Int)).length = z := ⟨_, rfl⟩
      rw [hz] at hrv
      subst hrv
      clear hI hd hv hb hge hk c0 hz
      go_wp2
      go_end0
      obtain ⟨G', h1, h2, h3⟩ := HS.out
      exact ⟨rfl, G', ⟨_, h1⟩, h2, h3⟩
set_option maxRecDepth 100000 in
theorem RForget_any (h : Rtb q s A w G) (hA : ∀ u, (A u).length ≤ 100000) (u t : Int) :
    Calls Tryd.prog 11 #[.pointer (some ⟨q, 0, none⟩), .int .i64 u, .int .i64 t] w fun e w' => e = .returned (.tuple #[]) ∧ After (rtbT q (drop A u t)) w G w' := by
  by_cases hu : 0 ≤ u ∧ u < 4
  · obtain ⟨i, rfl⟩ : ∃ i : Nat, u = (i : Int) := ⟨u.toNat, by omega⟩
    exact RForget_in h hA (by omega) t
  · rw [drop_out (h.good.out hu)]
    have HV := hide (in_any u w)
    rw [decide_eq_false hu] at HV
    have HE := hide (show After (rtbT q A) w G w from ⟨G, ⟨_, h⟩, Grew.refl _ _, Kept.refl _ _⟩)
    clear h hA hu
    go_enter Tryd.func11, Tryd.ntmps11
    go_wp2_with fail
    refine HV.out.mono ?_
    rintro e w1 ⟨rfl, rfl⟩
    clear HV
    go_wp2
    exact bodyPost_ret (results_none rfl _ _ _) rfl ⟨rfl, HE.out⟩
end

end Go.Proofs.YtenenhhijkjjfaaDoor.Mk
