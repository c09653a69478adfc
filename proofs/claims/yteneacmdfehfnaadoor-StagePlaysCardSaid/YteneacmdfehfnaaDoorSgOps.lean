/-
  The contracts of New, Last, Dropped, Flush, safe and reach of a stage, of the closure that reach hands over, and of slices.IndexFunc at records. Nothing but the stage's own blocks is changed.
-/
import Derived.Lib.SliceRun
import Derived.Test.YteneacmdfehfnaaDoorSgMem
namespace Go.Proofs.YteneacmdfehfnaaDoor.Sg
open Go.RowKit
open Pk Dk Wn Lk Rc

theorem wrap_id {n : Int} (h1 : -1 ≤ n) (h2 : n ≤ 2000000000000000000) : IntKind.i64.wrap n = n := by rw [IntKind.wrap_i64]; omega
/-- The first number minus 1. -/
def beg (first : Int) : Nat := (min (max first 1) 1152921504606846975 - 1).toNat
theorem beg_le (first : Int) : beg first ≤ 1152921504606846974 := by unfold beg; omega
set_option maxRecDepth 100000 in
theorem New_any (first : Int) (w : World) : Calls Tryd.prog 7 #[.int .i64 first] w fun e w' => e = .returned (.pointer (some ⟨w.heap.size, 0, none⟩)) ∧ Stg w.heap.size [] 0 (beg first) 0 w' (· = w.heap.size) ∧ Below w.heap.size w w' := by
  obtain ⟨b, hb⟩ : ∃ b, beg first = b := ⟨_, rfl⟩
  have hb' := beg_le first
  rw [hb] at hb' ⊢
  have h1 : min (max first 1) 1152921504606846975 = (b : Int) + 1 := by rw [← hb]; unfold beg; omega
  have h2 : IntKind.i64.wrap (b : Int) = (b : Int) := wrap_id (by omega) (by omega)
  have HF := hide (Stg.fresh w b (by omega))
  have HB := hide (show Below w.heap.size w (w.alloc (.cells #[.slice none 0 0, .int .i64 0, .int .i64 (b : Int), .int .i64 0] 58)) from (Below.refl _ _).alloc (Nat.le_refl _) _)
  clear hb hb'
  go_enter Tryd.func7, Tryd.ntmps7
  go_wp2
  go_ret
  exact ⟨rfl, HF.out, HB.out⟩

section
variable {w : World} {G : Nat → Prop} {p f b : Nat} {m : Int} {L : List Rd}
set_option maxRecDepth 100000 in
set_option maxHeartbeats 1000000 in
theorem Last_any (h : Stg p L f b m w G) {t u : Nat} (ht : b + L.length = t) (hu : b + f = u) : Calls Tryd.prog 23 #[.pointer (some ⟨p, 0, none⟩)] w fun e w' => e = .returned (.tuple #[.int .i64 (t : Int), .int .i64 (u : Int)]) ∧ Below w.heap.size w w' := by
  obtain ⟨A, n, c, _, hn, _, _, _, _, c0, c1, c2, c3, _⟩ := h.cells
  have hs := h.run.sum h.bb
  have hfl := h.fl
  rw [← hn] at ht hs hfl
  have h1 : (b : Int) + (n : Int) = (t : Int) := by omega
  have h2 : (b : Int) + (f : Int) = (u : Int) := by omega
  have h3 : IntKind.i64.wrap (t : Int) = (t : Int) := wrap_id (by omega) (by omega)
  have h4 : IntKind.i64.wrap (u : Int) = (u : Int) := wrap_id (by omega) (by omega)
  clear h hn ht hu hs hfl c3
  go_enter Tryd.func23, Tryd.ntmps23
  go_wp2_with fail
  go_quiet (fail)
  go_wp2
  go_ret2
  exact ⟨rfl, ⟨rfl, rfl, rfl, Nat.le_refl _, fun _ _ => rfl⟩⟩
set_option maxRecDepth 100000 in
set_option maxHeartbeats 1000000 in
theorem Dropped_any (h : Stg p L f b m w G) : Calls Tryd.prog 24 #[.pointer (some ⟨p, 0, none⟩)] w fun e w' => e = .returned (.tuple #[.int .i64 (b : Int), .int .i64 m]) ∧ Below w.heap.size w w' := by
  obtain ⟨A, n, c, _, hn, _, _, _, _, c0, c1, c2, c3, _⟩ := h.cells
  clear h hn c0 c1
  go_enter Tryd.func24, Tryd.ntmps24
  go_wp2_with fail
  go_quiet (fail)
  go_wp2
  go_ret2
  exact ⟨rfl, ⟨rfl, rfl, rfl, Nat.le_refl _, fun _ _ => rfl⟩⟩
set_option maxRecDepth 100000 in
set_option maxHeartbeats 1000000 in
theorem Flush_any (h : Stg p L f b m w G) : Calls Tryd.prog 12 #[.pointer (some ⟨p, 0, none⟩)] w fun e w' => e = .returned (.tuple #[]) ∧ After (stgT p L L.length b m) w G w' := by
  obtain ⟨A, n, c, hx, hn, _, _, _, _, c0, c1, c2, c3, fz⟩ := h.cells
  have hf := fz 1
  have HA : Hid (After (stgT p L n b m) w G (w.setCell ⟨p, 1, none⟩ (.int .i64 (n : Int)))) := by
    have h5 := hx.set 0 (.int .i64 (n : Int))
    exact ⟨G, ⟨⟨.slice A n c, by rw [hn]; rw [hn] at h5; exact h5.1⟩, by omega, h.few, h.bb, h.run⟩, Grew.refl _ _, h5.2⟩
  rw [← hn]
  clear h hx hn c2 c3 fz
  go_enter Tryd.func12, Tryd.ntmps12
  go_wp2
  go_end0
  exact ⟨rfl, HA.out⟩
set_option maxRecDepth 100000 in
set_option maxHeartbeats 1000000 in
theorem safe_any {A : Option Addr} {n c : Nat} (c0 : w.cell? ⟨p, 0, none⟩ = some (.slice A n c)) (c1 : w.cell? ⟨p, 1, none⟩ = some (.int .i64 (f : Int))) (hf : f ≤ n) (hn : n ≤ c) (hc : c ≤ maxLen) : Calls Tryd.prog 35 #[.pointer (some ⟨p, 0, none⟩)] w fun e w' => e = .returned (.slice A f c) ∧ Below w.heap.size w w' := by
  unfold maxLen at hc
  have h1 : (f : Int) ≤ (c : Int) := by omega
  have h2 : f ≤ c := by omega
  have h3 : c ≤ 9223372036854775807 := by omega
  clear hf hn hc
  go_enter Tryd.func35, Tryd.ntmps35
  go_wp2_with fail
  go_quiet (fail)
  go_wp2
  go_ret
  exact ⟨rfl, ⟨rfl, rfl, rfl, Nat.le_refl _, fun _ _ => rfl⟩⟩
end

/-! ### reach -/
section
variable {w : World} {B : Nat} {mark : Int}
set_option maxRecDepth 100000 in
set_option maxHeartbeats 1000000 in
theorem pred_hit (r : Rd) (hB : B < w.heap.size) (hc : w.cell? ⟨B, 0, none⟩ = some (.int .i64 mark)) (hr : r.k = 2 ∧ r.m = mark) : Calls Tryd.prog 38 #[r.val, .pointer (some ⟨B, 0, none⟩)] w fun e w' => e = .returned (.bool true) ∧ Below w.heap.size w w' := by
  obtain ⟨rs, rk, rb, rd, rm⟩ := r
  obtain ⟨h1, h2⟩ := hr
  simp only at h1 h2
  subst h1 h2
  have HB : Hid (Below w.heap.size w (w.alloc (.cells #[.int .i64 rs, .int .i64 2, .int .i64 rb, .string rd, .int .i64 rm] 30))) := (Below.refl _ _).alloc (Nat.le_refl _) _
  have hne : B ≠ w.heap.size := by omega
  show Calls Tryd.prog 38 #[.agg #[.int .i64 rs, .int .i64 2, .int .i64 rb, .string rd, .int .i64 rm], .pointer (some ⟨B, 0, none⟩)] w _
  go_enter Tryd.func38, Tryd.ntmps38
  go_wp2
  go_ret
  exact ⟨rfl, HB.out⟩
set_option maxRecDepth 100000 in
set_option maxHeartbeats 1000000 in
theorem pred_miss (r : Rd) (hB : B < w.heap.size) (hc : w.cell? ⟨B, 0, none⟩ = some (.int .i64 mark)) (hr : ¬ (r.k = 2 ∧ r.m = mark)) : Calls Tryd.prog 38 #[r.val, .pointer (some ⟨B, 0, none⟩)] w fun e w' => e = .returned (.bool false) ∧ Below w.heap.size w w' := by
  obtain ⟨rs, rk, rb, rd, rm⟩ := r
  simp only at hr
  have HB : Hid (Below w.heap.size w (w.alloc (.cells #[.int .i64 rs, .int .i64 rk, .int .i64 rb, .string rd, .int .i64 rm] 30))) := (Below.refl _ _).alloc (Nat.le_refl _) _
  have hne : B ≠ w.heap.size := by omega
  show Calls Tryd.prog 38 #[.agg #[.int .i64 rs, .int .i64 rk, .int .i64 rb, .string rd, .int .i64 rm], .pointer (some ⟨B, 0, none⟩)] w _
  by_cases hk : rk = 2
  · subst hk
    have hm : (rm == mark) = false := by simpa using hr
    clear hr
    go_enter Tryd.func38, Tryd.ntmps38
    go_wp2
    go_ret
    exact ⟨rfl, HB.out⟩
  · have hk' : (rk == 2) = false := by simpa using hk
    clear hr hk
    go_enter Tryd.func38, Tryd.ntmps38
    go_wp2
    go_ret
    exact ⟨rfl, HB.out⟩

set_option maxRecDepth 100000 in
set_option maxHeartbeats 4000000 in
theorem IndexFunc_any (A : Option Addr) (n c : Nat) (L : List Rd) (hn : L.length = n) (hl : n ≤ 100000) (hs : Src w A (rcels L)) (hB : B < w.heap.size) (hc : w.cell? ⟨B, 0, none⟩ = some (.int .i64 mark)) :
    Calls Tryd.prog 37 #[.slice A n c, .func (.func 38) #[] #[.pointer (some ⟨B, 0, none⟩)]] w fun e w' => e = .returned (.int .i64 ((reach mark L : Int) - 1)) ∧ Below w.heap.size w w' := by
  have Hn := hide hn
  have Hs := hide hs
  have HB := hide hB
  have Hc := hide hc
  have hli : (n : Int) ≤ 100000 := by omega
  clear hn hs hB hc hl
  go_enter Tryd.func37, Tryd.ntmps37
  go_wp2_with fail
  go_loopw [5, 8] (fun _ j wr => ∃ k : Nat, k ≤ n ∧ j = .int .i64 (k : Int) ∧ Hid (∀ i q, i < k → L[i]? = some q → ¬ (q.k = 2 ∧ q.m = mark)) ∧ Hid (Below w.heap.size w wr)) (fun _ j _ => n - (intOf j).toNat)
  case atStart => exact ⟨0, Nat.zero_le _, rfl, fun i q hi => absurd hi (Nat.not_lt_zero _), Below.refl _ _⟩
  case round =>
    obtain ⟨k, hk, rfl, hno, hb⟩ := hrel
    rcases Nat.lt_or_ge k n with hlt | hge
    · have Hlt := hide hlt
      have hki : (k : Int) < (n : Int) := by omega
      obtain ⟨r, hr⟩ : ∃ r, L[k]? = some r := ⟨_, List.getElem?_eq_getElem (by rw [Hn.out]; exact hlt)⟩
      obtain ⟨g, o, rfl, hgl, hat⟩ := Src.rcd (Hs.out.below hb.out) hr
      obtain ⟨c0, c1, c2, c3, c4⟩ := hat
      have HR := hide hr
      have hB' : B < wr.heap.size := Nat.lt_of_lt_of_le HB.out hb.out.size
      have hc' : wr.cell? ⟨B, 0, none⟩ = some (.int .i64 mark) := (hb.out.cell (p := ⟨B, 0, none⟩) HB.out).trans Hc.out
      by_cases hit : r.k = 2 ∧ r.m = mark
      · have HC := hide (pred_hit r hB' hc' hit)
        have HI := hide (reach_some mark L k r hr hit hno.out)
        clear hr hgl hno hlt hit hB' hc' hk
        go_wp2_with fail
        refine HC.out.mono ?_
        rintro e w2 ⟨rfl, hb2⟩
        have HB2 := hide (hb.out.trans (hb2.mono hb.out.size))
        clear hb2 HC
        go_wp2
        go_ret
        refine ⟨?_, HB2.out⟩
        rw [HI.out, show ((k + 1 : Nat) : Int) - 1 = (k : Int) by omega]
        rfl
      · have HC := hide (pred_miss r hB' hc' hit)
        have HI : Hid (∀ i q, i < k + 1 → L[i]? = some q → ¬ (q.k = 2 ∧ q.m = mark)) := fun i q hi hq => by
          rcases Nat.lt_or_ge i k with h1 | h1
          · exact hno.out i q h1 hq
          · obtain rfl : i = k := by omega
            obtain rfl : r = q := by rw [HR.out] at hq; simpa using hq
            exact hit
        clear hr hgl hno hlt hit hB' hc' hk
        go_wp2_with fail
        refine HC.out.mono ?_
        rintro e w2 ⟨rfl, hb2⟩
        have HB2 := hide (hb.out.trans (hb2.mono hb.out.size))
        clear hb2 HC
        go_wp2
        go_roundw
        case rel => exact ⟨k + 1, Hlt.out, by go_num, HI.out, HB2.out⟩
        case measure => have := Hlt.out; simp [intOf]; omega
    · obtain rfl : k = n := by omega
      have HI : Hid (reach mark L = 0) := reach_none mark L fun r hr => by
        obtain ⟨i, hi⟩ := List.mem_iff_getElem?.1 hr
        have := (List.getElem?_eq_some_iff.1 hi).1
        exact hno.out i r (by have := Hn.out; omega) hi
      clear hno hge hk
      go_wp2
      go_ret
      refine ⟨?_, hb.out⟩
      rw [HI.out]
      rfl
end
section
variable {w : World} {G : Nat → Prop} {p f b : Nat} {m : Int} {L : List Rd}
set_option maxRecDepth 100000 in
set_option maxHeartbeats 2000000 in
theorem reach_any (h : Stg p L f b m w G) (mark : Int) {k : Nat} (hk : reach mark (L.take f) = k) : Calls Tryd.prog 31 #[.pointer (some ⟨p, 0, none⟩), .int .i64 mark] w fun e w' => e = .returned (.int .i64 (k : Int)) ∧ Below w.heap.size w w' := by
  obtain ⟨A, n, c, hx, hn, hnc, hcm, hs, hp, c0, c1, _, _, _⟩ := h.cells
  have hfl := h.fl
  have hfew := h.few
  have hb : Below w.heap.size w (w.alloc (.cells #[.int .i64 mark] 3)) := (Below.refl _ _).alloc (Nat.le_refl _) _
  have HW : Hid (∀ w2, Below (w.alloc (.cells #[.int .i64 mark] 3)).heap.size (w.alloc (.cells #[.int .i64 mark] 3)) w2 → Below w.heap.size w w2) := fun w2 h2 => hb.trans (h2.mono hb.size)
  have HS := hide (safe_any (w := w.alloc (.cells #[.int .i64 mark] 3)) (f := f) ((hb.cell (p := ⟨p, 0, none⟩) hp).trans c0) ((hb.cell (p := ⟨p, 1, none⟩) hp).trans c1) (by omega) hnc hcm)
  have HI : Hid (∀ w2, Below (w.alloc (.cells #[.int .i64 mark] 3)).heap.size (w.alloc (.cells #[.int .i64 mark] 3)) w2 → Calls Tryd.prog 37 #[.slice A f c, .func (.func 38) #[] #[.pointer (some ⟨w.heap.size, 0, none⟩)]] w2 fun e w' => e = .returned (.int .i64 ((k : Int) - 1)) ∧ Below w2.heap.size w2 w') := fun w2 h2 => by
    have hl : w.heap.size < (w.alloc (.cells #[.int .i64 mark] 3)).heap.size := by simp
    have hc : w2.cell? ⟨w.heap.size, 0, none⟩ = some (.int .i64 mark) := (h2.cell (p := ⟨w.heap.size, 0, none⟩) hl).trans (by rw [cell_of_row _ _ 0 _ _ _ (heap_alloc_new w _)]; rfl)
    have := IndexFunc_any (w := w2) (B := w.heap.size) (mark := mark) A f c (L.take f) (by rw [List.length_take]; omega) (by omega) (by rw [← rcels_take]; exact Lk.Src.take ((hs.below hb).below h2) _) (Nat.lt_of_lt_of_le hl h2.size) hc
    rw [hk] at this
    exact this
  have hkl : k ≤ 100000 := by
    have := reach_le mark (L.take f)
    rw [hk, List.length_take] at this
    omega
  have e1 : IntKind.i64.wrap (k : Int) = (k : Int) := wrap_id (by omega) (by omega)
  have e2 : 1 + ((k : Int) - 1) = (k : Int) := by omega
  clear h hx hn hnc hcm hs hp c0 c1 hfl hfew hb hk hkl
  go_enter Tryd.func31, Tryd.ntmps31
  go_wp2_with fail
  refine HS.out.mono ?_
  rintro e w2 ⟨rfl, hb2⟩
  have HB2 := hide hb2
  clear hb2 HS
  go_wp2_with fail
  refine (HI.out _ HB2.out).mono ?_
  rintro e w3 ⟨rfl, hb3⟩
  have HB3 := hide (HW.out w3 (HB2.out.trans (hb3.mono HB2.out.size)))
  clear hb3 HI HW HB2
  go_wp2
  go_ret
  exact ⟨rfl, HB3.out⟩
end

end Go.Proofs.YteneacmdfehfnaaDoor.Sg
