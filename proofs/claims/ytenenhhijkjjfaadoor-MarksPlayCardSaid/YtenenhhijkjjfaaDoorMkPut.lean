/-
  The contract of a table's Put: the volume has one marker more; or the fault marks around ErrRange or ErrArg, and nothing that was there is changed.
-/
import Derived.Test.YtenenhhijkjjfaaDoorMkOps
namespace Go.Proofs.YtenenhhijkjjfaaDoor.Mk
open Go.RowKit Go.Maps
open Pk Dk Wn Lk

theorem I64.vol {v : Int} (h : 0 ≤ v ∧ v < 4) : I64 v := by unfold I64; omega
theorem I64.mark {m : Int} (h : 1 ≤ m ∧ m ≤ 9223372036854775807) : I64 m := by unfold I64; omega
section
variable {p n : Nat} {mb : Option Nat} {F : Int → Option Nat} {A : Int → List Int} {w w' : World} {G : Nat → Prop}
/-- The outer map is made. -/
theorem TblF.make (h : TblF p none F A n w G) : ∃ G', TblF p (some w.heap.size) F A n ((w.alloc (.map #[] 0)).setCell ⟨p, 0, none⟩ (.map (some w.heap.size))) G' ∧ Grew w G G' ∧ Kept G w ((w.alloc (.map #[] 0)).setCell ⟨p, 0, none⟩ (.map (some w.heap.size))) := by
  have hpl := h.lt p h.mine
  have hsz : ((w.alloc (.map #[] 0)).setCell ⟨p, 0, none⟩ (.map (some w.heap.size))).heap.size = w.heap.size + 1 := by simp [World.setCell]
  have hF : F = fun _ => none := funext fun v => h.bare rfl v
  have old : ∀ k, k < w.heap.size → k ≠ p → ((w.alloc (.map #[] 0)).setCell ⟨p, 0, none⟩ (.map (some w.heap.size))).heap[k]? = w.heap[k]? := fun k hk hn => by
    rw [heap_setCell_other _ _ _ _ hn, Below.heap_alloc _ _ k hk]
  refine ⟨fun k => G k ∨ k = w.heap.size, ⟨?_, Or.inl h.mine, fun k hk => ?_, h.good, fun e => (by cases e), fun bo e => ?_, fun v b e => ?_, h.lack, h.inj⟩, fun k hk => hk.imp id fun e => by omega, ⟨rfl, rfl, rfl, by omega, fun k hl hn => old k hl fun e => hn (e ▸ h.mine)⟩⟩
  · rw [heap_setCell_same (w.alloc (.map #[] 0)) p 0 _ _ _ ((Below.heap_alloc _ _ p hpl).trans h.box)]
    rfl
  · rcases hk with hk | hk
    · have := h.lt k hk
      omega
    · omega
  · obtain rfl : w.heap.size = bo := by simpa using e
    refine ⟨Or.inr rfl, by omega, .map [], ?_, by rw [hF]; exact Reads.none⟩
    exact (owns_same (World.ownsMap_made w Tryd.prog 3 mapElem) (heap_setCell_other _ _ _ _ (show w.heap.size ≠ p by omega))).mono (Nat.zero_le _)
  · rw [hF] at e
    cases e
/-- A volume gets a set. -/
theorem TblF.newset {bo : Nat} (h : TblF p (some bo) F A n w G) {v : Int} (hv : I64 v) (hF : F v = none) (hn : n < maxLen) :
    ∃ w2, (Instr.mapUpdate 26 (.map (some bo)) (.int .i64 v) (.map (some w.heap.size))).run Tryd.prog (w.alloc (.map #[] 0)) = .ok () w2 ∧
      ∃ G', TblF p (some bo) (fun u => if u = v then some w.heap.size else F u) A (n + 1) w2 G' ∧ Grew w G G' ∧ Kept G w w2 := by
  obtain ⟨hb1, hb2, O, hO, hR⟩ := h.outer bo rfl
  have hbl := h.lt bo hb1
  have hpl := h.lt p h.mine
  have hO1 : (w.alloc (.map #[] 0)).ownsMap Tryd.prog 3 mapElem bo n O := owns_same hO (Below.heap_alloc _ _ bo hbl)
  obtain ⟨w2, hrun, hO2, hg⟩ := hO1.update int_key Tryd.underlying26 hn (val := .map (some w.heap.size)) (key_of hv) (mapElem_mk (some w.heap.size))
  have hs1 : (w.alloc (.map #[] 0)).heap.size = w.heap.size + 1 := by simp
  have hsz := hg.size
  rw [hs1] at hsz
  have old : ∀ k, k < w.heap.size → k ≠ bo → w2.heap[k]? = w.heap[k]? := fun k hk hn => by
    rw [hg.block k (by omega) (fun e => hn (by simpa using e)), Below.heap_alloc _ _ k hk]
  have hnew : SetAt w2 w.heap.size (n + 1) [] := by
    have := World.ownsMap_made w Tryd.prog 3 (unitElem (H := Unit))
    have h2 := owns_same this (hg.block w.heap.size (by omega) (fun e => by simp at e; omega))
    exact ⟨_, h2.mono (Nat.zero_le _), fun x => by simp [Maps.has]⟩
  refine ⟨w2, hrun, fun k => G k ∨ k = w.heap.size, ⟨(old p hpl (Ne.symm hb2)).trans h.box, Or.inl h.mine, fun k hk => ?_, h.good, fun e => (by cases e), fun bo' e => ?_, fun u b e => ?_, fun u e => ?_, fun u u' b e e' => ?_⟩, fun k hk => hk.imp id fun e => by omega, ⟨hg.os, hg.tape, hg.output, by omega, fun k hl hn => old k hl fun e => hn (e ▸ hb1)⟩⟩
  · rcases hk with hk | hk
    · have := h.lt k hk
      omega
    · omega
  · obtain rfl : bo = bo' := by simpa using e
    exact ⟨Or.inl hb1, hb2, _, hO2, hR.put hO.isMap v w.heap.size⟩
  · by_cases hu : u = v
    · subst hu
      simp only [if_true, Option.some.injEq] at e
      subst e
      refine ⟨Or.inr rfl, by omega, by simp; omega, ?_⟩
      rw [h.lack u hF]
      exact hnew
    · simp only [hu, if_false] at e
      obtain ⟨g1, g2, g3, g4⟩ := h.inner u b e
      exact ⟨Or.inl g1, g2, g3, (g4.same (old b (h.lt b g1) (fun e => g3 (by rw [e])))).mono (by omega)⟩
  · by_cases hu : u = v
    · simp [hu] at e
    · simp only [hu, if_false] at e
      exact h.lack u e
  · by_cases hu : u = v
    · by_cases hu' : u' = v
      · rw [hu, hu']
      · simp only [hu, hu', if_true, if_false] at e e'
        have := h.lt b (h.inner u' b e').1
        simp at e
        omega
    · by_cases hu' : u' = v
      · simp only [hu, hu', if_true, if_false] at e e'
        have := h.lt b (h.inner u b e).1
        simp at e'
        omega
      · simp only [hu, hu', if_false] at e e'
        exact h.inj u u' b e e'
/-- A marker is stored. -/
theorem TblF.store (h : TblF p mb F A n w G) {v m : Int} {b : Nat} (hv : 0 ≤ v ∧ v < 4) (hm : 1 ≤ m ∧ m ≤ 9223372036854775807) (hF : F v = some b) (hn : n < maxLen) :
    ∃ w2, (Instr.mapUpdate 55 (.map (some b)) (.int .i64 m) (.agg #[])).run Tryd.prog w = .ok () w2 ∧ TblF p mb F (put A v m) (n + 1) w2 G ∧ Kept G w w2 := by
  obtain ⟨hb1, hb2, hb3, D, hD, hh⟩ := h.inner v b hF
  obtain ⟨w2, hrun, hD2, hg⟩ := hD.update int_key Tryd.underlying55 hn (val := .agg #[]) (key_of (I64.mark hm)) (unitElem_mk)
  have hsz := hg.size
  have old : ∀ k, k < w.heap.size → k ≠ b → w2.heap[k]? = w.heap[k]? := fun k hk hn => hg.block k hk (fun e => hn (by simpa using e))
  refine ⟨w2, hrun, ⟨(old p (h.lt p h.mine) (Ne.symm hb2)).trans h.box, h.mine, fun k hk => Nat.lt_of_lt_of_le (h.lt k hk) hsz, h.good.put hv hm, h.bare, fun bo e => ?_, fun u c e => ?_, fun u e => ?_, h.inj⟩, ⟨hg.os, hg.tape, hg.output, hsz, fun k hl hn => old k hl fun e => hn (e ▸ hb1)⟩⟩
  · obtain ⟨g1, g2, O, g3, g4⟩ := h.outer bo e
    exact ⟨g1, g2, O, (owns_same g3 (old bo (h.lt bo g1) (fun e' => hb3 (by rw [e, e'])))).mono (by omega), g4⟩
  · obtain ⟨g1, g2, g3, g4⟩ := h.inner u c e
    by_cases hu : u = v
    · subst hu
      obtain rfl : b = c := by rw [hF] at e; simpa using e
      refine ⟨g1, g2, g3, _, hD2, fun x => ?_⟩
      by_cases hx : x = m
      · subst hx
        rw [has_put_same hD.isMap (show WideAt.IsKeyLit (.int .i64 x) from trivial)]
        simp [mem_put]
      · rw [has_put_other (lit_ne hx), hh x]
        have : x ∈ put A u m u ↔ x ∈ A u := by rw [mem_put]; simp [hx]
        simp only [this]
    · have e2 : put A v m u = A u := by simp [put, hu]
      rw [e2]
      exact ⟨g1, g2, g3, (g4.same (old c (h.lt c g1) (fun e' => hu (h.inj u v c e (e' ▸ hF))))).mono (by omega)⟩
  · by_cases hu : u = v
    · subst hu
      rw [hF] at e
      cases e
    · have e2 : put A v m u = A u := by simp [put, hu]
      rw [e2]
      exact h.lack u e
end

/-! ### Put -/
set_option maxRecDepth 100000 in
set_option maxHeartbeats 2000000 in
theorem Put_nil (v m : Int) (w : World) : Calls Tryd.prog 6 #[.pointer none, .int .i64 v, .int .i64 m] w fun e w' => ∃ q, e = .returned (.iface 60 (.pointer (some ⟨q, 0, none⟩))) ∧ Fails w v 5 q w' := by
  have HC := hide (failed_any v 5 w rfl)
  go_enter Tryd.func6, Tryd.ntmps6
  go_wp2_with fail
  refine HC.out.mono ?_
  rintro e w' ⟨q, rfl, hF⟩
  have HF := hide hF
  clear hF HC
  go_wp2
  go_ret
  exact ⟨q, rfl, HF.out⟩
section
variable {p n : Nat} {mb : Option Nat} {F : Int → Option Nat} {A : Int → List Int} {w w' : World} {G : Nat → Prop}
set_option maxRecDepth 100000 in
set_option maxHeartbeats 2000000 in
theorem Put_range {q0 : Nat} {v : Int} (hv : ¬ (0 ≤ v ∧ v < 4)) (m : Int) (w : World) : Calls Tryd.prog 6 #[.pointer (some ⟨q0, 0, none⟩), .int .i64 v, .int .i64 m] w fun e w' => ∃ q, e = .returned (.iface 60 (.pointer (some ⟨q, 0, none⟩))) ∧ Fails w v 5 q w' := by
  have HC := hide (failed_any v 5 w rfl)
  have hV := isVolume_any v w
  rw [decide_eq_false hv] at hV
  have HV := hide hV
  clear hV hv
  go_enter Tryd.func6, Tryd.ntmps6
  go_wp2_with fail
  refine HV.out.mono ?_
  rintro e w' ⟨rfl, rfl⟩
  clear HV
  go_wp2_with fail
  refine HC.out.mono ?_
  rintro e w' ⟨q, rfl, hF⟩
  have HF := hide hF
  clear hF HC
  go_wp2
  go_ret
  exact ⟨q, rfl, HF.out⟩
set_option maxRecDepth 100000 in
set_option maxHeartbeats 2000000 in
theorem Put_arg {q0 : Nat} {v m : Int} (hv : 0 ≤ v ∧ v < 4) (hm : m < 1) (w : World) : Calls Tryd.prog 6 #[.pointer (some ⟨q0, 0, none⟩), .int .i64 v, .int .i64 m] w fun e w' => ∃ q, e = .returned (.iface 60 (.pointer (some ⟨q, 0, none⟩))) ∧ Fails w v 1 q w' := by
  have HC := hide (failed_any v 1 w rfl)
  have hV := isVolume_any v w
  rw [decide_eq_true hv] at hV
  have HV := hide hV
  clear hV hv
  go_enter Tryd.func6, Tryd.ntmps6
  go_wp2_with fail
  refine HV.out.mono ?_
  rintro e w' ⟨rfl, rfl⟩
  clear HV
  go_wp2_with fail
  refine HC.out.mono ?_
  rintro e w' ⟨q, rfl, hF⟩
  have HF := hide hF
  clear hF HC
  go_wp2
  go_ret
  exact ⟨q, rfl, HF.out⟩
end

end Go.Proofs.YtenenhhijkjjfaaDoor.Mk
