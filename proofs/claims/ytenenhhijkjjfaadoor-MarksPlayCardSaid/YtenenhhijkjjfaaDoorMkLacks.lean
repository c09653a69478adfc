/-
  The contracts of a table's common and Lacks: they read, and change nothing that was there.
-/
import Derived.Test.YtenenhhijkjjfaaDoorMkOps
namespace Go.Proofs.YtenenhhijkjjfaaDoor.Mk
open Go.RowKit Go.Maps
open Pk Dk Wn Lk

/-- Numbers that came in. -/
def Fits (l : List Int) : Prop := ∀ v ∈ l, I64 v
/-- What common returns. -/
def Sgn (b : Bool) (p : Prop) : Prop := b = true ↔ p
theorem Sgn.yes {p : Prop} (h : Sgn true p) : p := h.1 rfl
theorem Sgn.no {p : Prop} (h : Sgn false p) : ¬ p := fun hp => by cases h.2 hp
def TellsR (p : Prop) (r : Ending) : Prop := ∃ b : Bool, r = .returned (.bool b) ∧ Sgn b p
section
variable {p n : Nat} {mb : Option Nat} {F : Int → Option Nat} {A : Int → List Int} {w w' : World} {G : Nat → Prop}
set_option maxRecDepth 100000 in
set_option maxHeartbeats 2000000 in
theorem common_any (h : TblF p mb F A n w G) {x : Int} (hx : I64 x) (VA : Option Addr) (N c : Nat) (vs : List Int) (hn : vs.length = N) (hlim : N ≤ 100000) (hs : Src w VA (nums vs)) (hf : Fits vs) :
    Calls Tryd.prog 31 #[.pointer (some ⟨p, 0, none⟩), .int .i64 x, .slice VA N c] w fun e w' => TellsR (Com A vs x) e ∧ Below w.heap.size w w' := by
  have H := hide h
  have Hx := hide hx
  have Hn := hide hn
  have Hs := hide hs
  have Hf := hide hf
  clear h hx hn hs hf
  go_enter Tryd.func31, Tryd.ntmps31
  go_wp2_with fail
  go_loopw [8, 11] (fun _ j wr => ∃ k : Nat, k ≤ N ∧ j = .int .i64 (k : Int) ∧ Hid (∀ v ∈ vs.take k, x ∈ A v) ∧ Hid (Below w.heap.size w wr)) (fun _ j _ => N - (RowKit.intOf j).toNat)
  case atStart => exact ⟨0, Nat.zero_le _, rfl, fun v hv => by simp at hv, Below.refl _ _⟩
  case round =>
    obtain ⟨k, hk, rfl, hq, hb⟩ := hrel
    rcases Nat.lt_or_ge k N with hlt | hge
    · have Hlt := hide hlt
      have hki : (k : Int) < (N : Int) := by omega
      obtain ⟨y, hy⟩ : ∃ y, vs[k]? = some y := ⟨_, List.getElem?_eq_getElem (by rw [Hn.out]; exact hlt)⟩
      obtain ⟨g, o, rfl, hgl, c0⟩ := Src.num (Hs.out.below hb.out) hy
      have Hy := hide hy
      have HC := hide (has_any (H.out.below hb.out) (Hf.out y (List.mem_of_getElem? hy)) Hx.out)
      obtain ⟨d, hd⟩ : ∃ d, decide (x ∈ A y) = d := ⟨_, rfl⟩
      rw [hd] at HC
      have Hd := hide hd
      clear hlt hy hk hd hgl
      go_wp2_with fail
      refine HC.out.mono ?_
      rintro e w2 ⟨rfl, hb2⟩
      have HB := hide (hb.out.trans (hb2.mono hb.out.size))
      clear hb2 HC c0
      cases d with
      | false =>
        go_wp2
        go_ret
        exact ⟨⟨false, rfl, by simp only [Sgn, Bool.false_eq_true, false_iff]; exact fun h => (of_decide_eq_false Hd.out) (h y (List.mem_of_getElem? Hy.out))⟩, HB.out⟩
      | true =>
        go_wp2
        go_roundw
        case rel =>
          refine ⟨k + 1, Hlt.out, by go_num, ?_, HB.out⟩
          show ∀ v ∈ vs.take (k + 1), x ∈ A v
          rw [List.take_add_one, Hy.out]
          intro v hv
          rcases List.mem_append.1 hv with hv | hv
          · exact hq.out v hv
          · simp at hv
            rw [hv]
            exact of_decide_eq_true Hd.out
        case measure => have := Hlt.out; simp [RowKit.intOf]; omega
    · have hq' := hq.out
      rw [List.take_of_length_le (by rw [Hn.out]; omega)] at hq'
      have HQ := hide hq'
      have HB := hb
      obtain rfl : k = N := by omega
      clear hq' hq hge hk hb
      go_wp2
      go_ret
      exact ⟨⟨true, rfl, by simp only [Sgn, true_iff]; exact HQ.out⟩, HB.out⟩

theorem lack_app {m : Int} (a b : List Int) : lack A m (a ++ b) = lack A m a ++ lack A m b := by simp [lack]
theorem lack_le {m : Int} (a : List Int) : (lack A m a).length ≤ a.length := List.length_filter_le _ _
set_option maxRecDepth 100000 in
set_option maxHeartbeats 4000000 in
/-- Lacks, whatever has returns of each. -/
theorem Lacks_gen (T : Value) (x : Int) (VA : Option Addr) (N c : Nat) (vs : List Int) (hn : vs.length = N) (hlim : N ≤ 100000) (hs : Src w VA (nums vs))
    (hh : ∀ v ∈ vs, ∀ wr, Below w.heap.size w wr → Calls Tryd.prog 32 #[T, .int .i64 v, .int .i64 x] wr fun e w' => e = .returned (.bool (decide (x ∈ A v))) ∧ Below wr.heap.size wr w') :
    Calls Tryd.prog 17 #[T, .int .i64 x, .slice VA N c] w fun e w' => ∃ v, e = .returned v ∧ Ints w' w.heap.size v (lack A x vs) ∧ Below w.heap.size w w' := by
  have Hh := hide hh
  have Hn := hide hn
  have Hs := hide hs
  clear hh hn hs
  go_enter Tryd.func17, Tryd.ntmps17
  go_wp2_with fail
  go_loopw [7, 9, 12] (fun v _ j wr => ∃ k : Nat, k ≤ N ∧ j = .int .i64 (k : Int) ∧ Hid (Ints wr w.heap.size v (lack A x (vs.take k))) ∧ Hid (Below w.heap.size w wr)) (fun _ _ j _ => N - (RowKit.intOf j).toNat)
  case atStart => exact ⟨0, Nat.zero_le _, rfl, ⟨ORow.nil _ _ _, fun k hk => by simp [Value.ownBlock] at hk⟩, Below.refl _ _⟩
  case round =>
    obtain ⟨k, hk, rfl, hv, hb⟩ := hrel
    rcases Nat.lt_or_ge k N with hlt | hge
    · have Hlt := hide hlt
      have hki : (k : Int) < (N : Int) := by omega
      obtain ⟨y, hy⟩ : ∃ y, vs[k]? = some y := ⟨_, List.getElem?_eq_getElem (by rw [Hn.out]; exact hlt)⟩
      obtain ⟨g, o, rfl, hgl, c0⟩ := Src.num (Hs.out.below hb.out) hy
      have HT := hide (show lack A x (vs.take (k + 1)) = lack A x (vs.take k) ++ lack A x [y] by rw [List.take_add_one, hy]; exact lack_app _ _)
      have HC := hide (Hh.out y (List.mem_of_getElem? hy) _ hb.out)
      obtain ⟨d, hd⟩ : ∃ d, decide (x ∈ A y) = d := ⟨_, rfl⟩
      rw [hd] at HC
      obtain ⟨q, hq⟩ : ∃ q, (lack A x (vs.take k)).length = q := ⟨_, rfl⟩
      have hq1 : q ≤ k := by
        have := lack_le (A := A) (m := x) (vs.take k)
        rw [hq, List.length_take] at this
        omega
      obtain ⟨RA, rc, hrv, _, _, _⟩ := hv.out.form
      subst hrv
      rw [hq] at hv ⊢
      have Hd := hide hd
      have Hq := hide hq
      have Hq1 := hide hq1
      have Hlim := hide hlim
      clear hlt hy hk hd hgl hq hq1
      go_wp2_with fail
      refine HC.out.mono ?_
      rintro e w2 ⟨rfl, hb2⟩
      have HB := hide (hb.out.trans (hb2.mono hb.out.size))
      have HV := hide (hv.out.below hb2)
      clear hb2 HC hb hv c0
      cases d with
      | true =>
        have HI := hide (show Ints w2 w.heap.size (.slice RA q rc) (lack A x (vs.take (k + 1))) by
          have e : lack A x (vs.take (k + 1)) = lack A x (vs.take k) := by rw [HT.out]; simp [lack, of_decide_eq_true Hd.out]
          rw [e]
          exact HV.out)
        clear HV
        go_wp2
        go_roundw
        case rel => exact ⟨k + 1, Hlt.out, by go_num, HI.out, HB.out⟩
        case measure => have := Hlt.out; simp [RowKit.intOf]; omega
      | false =>
        have hb5 : Below w2.heap.size w2 (w2.alloc (.cells #[.int .i64 y] 3)) := (Below.refl _ _).alloc (Nat.le_refl _) _
        have hvr := (HV.out.below hb5).row
        rw [Hq.out] at hvr
        have HO := hide hvr
        have HM : Hid (Src (w2.alloc (.cells #[.int .i64 y] 3)) (some ⟨w2.heap.size, 0, none⟩) (nums [y])) := (Made.row (Below.refl _ w2) #[.int .i64 y] 3).src
        have HG : Hid (∀ (W2 : World) (v2 : Value), Grown (w2.alloc (.cells #[.int .i64 y] 3)) 3 1 (.slice RA q rc) (q + 1) (nums (lack A x (vs.take k)) ++ nums [y]) v2 W2 → Ints W2 w.heap.size v2 (lack A x (vs.take (k + 1))) ∧ Below w.heap.size w W2) := fun W2 v2 hg => by
          have hkp := hg.kept (G := fun i => w.heap.size ≤ i) hb5 (fun i hi => HV.out.own i hi)
          refine ⟨⟨?_, fun i hi => ?_⟩, HB.out.trans (hkp.below (fun _ h => h) HB.out.size)⟩
          · have e : lack A x [y] = [y] := by simp [lack, of_decide_eq_false Hd.out]
            rw [HT.out, e]
            have := hg.row
            simpa [nums, Hq.out] using this
          · rcases hg.own i hi with h1 | h1
            · exact HV.out.own i h1
            · have := hb5.size
              have := HB.out.size
              omega
        have Hm1 := hide (show q + 1 ≤ maxLen by have := Hq1.out; have := Hlt.out; have := Hlim.out; unfold maxLen; omega)
        have Hm2 := hide (show (q + 1) * 8 ≤ 140737488355328 by have := Hq1.out; have := Hlt.out; have := Hlim.out; omega)
        clear hvr hb5 HT HV
        go_wp2_with (at_builtin; go_must (refine wpList_app app_int rfl (.tmp 21) (.tmp 23) rfl (.slice RA q rc) q (nums (lack A x (vs.take k))) rfl HO.out _ 1 1 (nums [y]) rfl rfl HM.out (fun u hu => by simp [nums] at hu; subst hu; rfl) (by decide) Hm1.out Hm2.out ?_))
        intro v2 W2 hg
        obtain ⟨hI, hB⟩ := HG.out _ _ hg.out
        have HI := hide hI
        have HB := hide hB
        clear hI hB hg HG HO HM
        go_wp2
        go_roundw
        case rel => exact ⟨k + 1, Hlt.out, by go_num, HI.out, HB.out⟩
        case measure => have := Hlt.out; simp [RowKit.intOf]; omega
    · obtain rfl : k = N := by omega
      have HI := hide hv.out
      rw [List.take_of_length_le (by rw [Hn.out]; exact Nat.le_refl _)] at HI
      have HB := hb
      clear hv hge hk hb
      go_wp2
      go_ret
      exact ⟨_, rfl, HI.out, HB.out⟩
theorem Lacks_any (h : Tbl p A n w G) {x : Int} (hx : I64 x) (VA : Option Addr) (N c : Nat) (vs : List Int) (hn : vs.length = N) (hlim : N ≤ 100000) (hs : Src w VA (nums vs)) (hf : Fits vs) :
    Calls Tryd.prog 17 #[.pointer (some ⟨p, 0, none⟩), .int .i64 x, .slice VA N c] w fun e w' => ∃ v, e = .returned v ∧ Ints w' w.heap.size v (lack A x vs) ∧ Below w.heap.size w w' := by
  obtain ⟨mb, F, h⟩ := h
  exact Lacks_gen _ x VA N c vs hn hlim hs fun v hv wr hb => has_any (h.below hb) (hf v hv) hx
theorem Lacks_nil {x : Int} (hx : I64 x) (VA : Option Addr) (N c : Nat) (vs : List Int) (hn : vs.length = N) (hlim : N ≤ 100000) (hs : Src w VA (nums vs)) :
    Calls Tryd.prog 17 #[.pointer none, .int .i64 x, .slice VA N c] w fun e w' => ∃ v, e = .returned v ∧ Ints w' w.heap.size v vs ∧ Below w.heap.size w w' := by
  have := Lacks_gen (A := fun _ => []) (.pointer none) x VA N c vs hn hlim hs fun v hv wr hb => by
    have := has_nil v hx wr
    simpa using this
  have e : lack (fun _ => []) x vs = vs := by simp [lack]
  rwa [e] at this
end

end Go.Proofs.YtenenhhijkjjfaaDoor.Mk
