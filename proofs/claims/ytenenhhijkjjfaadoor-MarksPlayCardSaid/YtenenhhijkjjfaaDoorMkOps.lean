/-
  The contracts of marks.isVolume, and of a table's of, has and common: they read, and change nothing that was there.
-/
import Derived.Test.YtenenhhijkjjfaaDoorMkErr
namespace Go.Proofs.YtenenhhijkjjfaaDoor.Mk
open Go.RowKit Go.Maps
open Pk Dk Wn Lk

/-- What fits an int. -/
def I64 (x : Int) : Prop := -9223372036854775808 ≤ x ∧ x ≤ 9223372036854775807
theorem isVolume_any (v : Int) (w : World) :
    Calls Tryd.prog 19 #[.int .i64 v] w fun e w' => e = .returned (.bool (decide (0 ≤ v ∧ v < 4))) ∧ w' = w := by
  by_cases h1 : 0 ≤ v
  · by_cases h2 : v < 4
    · have e : decide (0 ≤ v ∧ v < 4) = true := by simp [h1, h2]
      rw [e]
      clear e
      go_enter Tryd.func19, Tryd.ntmps19
      go_wp2
      go_ret
      exact ⟨rfl, rfl⟩
    · have e : decide (0 ≤ v ∧ v < 4) = false := by simp [h2]
      rw [e]
      clear e
      go_enter Tryd.func19, Tryd.ntmps19
      go_wp2
      go_ret
      exact ⟨rfl, rfl⟩
  · have e : decide (0 ≤ v ∧ v < 4) = false := by simp [h1]
    rw [e]
    clear e
    go_enter Tryd.func19, Tryd.ntmps19
    go_wp2
    go_ret
    exact ⟨rfl, rfl⟩

theorem zero_set (w : World) : (zeroValue 55).run Tryd.prog w = .ok (.map none) w := Tryd.zeroValue55 w
theorem zero_unit (w : World) : (zeroValue 56).run Tryd.prog w = .ok (.agg #[]) w := Tryd.zeroValue56 w
/-- m[v] of the outer map. -/
theorem look_outer {w : World} {bo n : Nat} {O : DataW Unit} {F : Int → Option Nat} (h : w.ownsMap Tryd.prog 3 mapElem bo n O) (hr : Reads O F) {v : Int} (hv : I64 v) :
    (Instr.lookup 26 (.map (some bo)) (.int .i64 v) false).run Tryd.prog w = .ok (.map (F v)) w := by
  obtain ⟨u, ps, hrun, hu⟩ := h.lookup int_key Tryd.underlying26 (zero_set w) (zd := .nil) (zp := []) rfl (key_of hv)
  rw [hr v] at hu
  rw [hrun, mapElem_inv hu]
theorem look_outer_nil (w : World) {v : Int} (hv : I64 v) :
    (Instr.lookup 26 (.map none) (.int .i64 v) false).run Tryd.prog w = .ok (.map none) w :=
  Maps.look_nil false int_key Tryd.underlying26 (zero_set w) (key_of hv)
/-- _, there := m[x] of a set. -/
theorem look_set {w : World} {b n : Nat} {l : List Int} (h : SetAt w b n l) {x : Int} (hx : I64 x) :
    (Instr.lookup 55 (.map (some b)) (.int .i64 x) true).run Tryd.prog w = .ok (.tuple #[.agg #[], .bool (decide (x ∈ l))]) w := by
  obtain ⟨D, hown, hm⟩ := h
  obtain ⟨u, ps, hrun, hu⟩ := hown.look_ok int_key Tryd.underlying55 (zero_unit w) (zd := .agg []) (zp := []) unitElem_mk (key_of hx)
  obtain ⟨rfl, _⟩ := unitElem_inv hu
  rw [hrun, hm]
theorem look_set_nil (w : World) {x : Int} (hx : I64 x) :
    (Instr.lookup 55 (.map none) (.int .i64 x) true).run Tryd.prog w = .ok (.tuple #[.agg #[], .bool false]) w :=
  Maps.look_nil true int_key Tryd.underlying55 (zero_unit w) (key_of hx)
section
variable {p n : Nat} {mb : Option Nat} {F : Int → Option Nat} {A : Int → List Int} {w w' : World} {G : Nat → Prop}
theorem TblF.look (h : TblF p mb F A n w G) {v : Int} (hv : I64 v) : (Instr.lookup 26 (.map mb) (.int .i64 v) false).run Tryd.prog w = .ok (.map (F v)) w := by
  cases mb with
  | none => rw [look_outer_nil w hv, h.bare rfl v]
  | some bo =>
    obtain ⟨_, _, O, h1, h2⟩ := h.outer bo rfl
    exact look_outer h1 h2 hv
theorem TblF.has (h : TblF p mb F A n w G) (v : Int) {x : Int} (hx : I64 x) : (Instr.lookup 55 (.map (F v)) (.int .i64 x) true).run Tryd.prog w = .ok (.tuple #[.agg #[], .bool (decide (x ∈ A v))]) w := by
  cases e : F v with
  | none => rw [look_set_nil w hx, h.lack v e]; rfl
  | some b => exact look_set (h.inner v b e).2.2.2 hx
theorem of_nil (v : Int) (w : World) : Calls Tryd.prog 25 #[.pointer none, .int .i64 v] w fun e w' => e = .returned (.map none) ∧ w' = w := by
  go_enter Tryd.func25, Tryd.ntmps25
  go_wp2
  go_ret
  exact ⟨rfl, rfl⟩
theorem of_any (h : TblF p mb F A n w G) {v : Int} (hv : I64 v) : Calls Tryd.prog 25 #[.pointer (some ⟨p, 0, none⟩), .int .i64 v] w fun e w' => e = .returned (.map (F v)) ∧ w' = w := by
  have c0 := h.cell
  have hl := h.look hv
  generalize F v = f at *
  clear h
  go_enter Tryd.func25, Tryd.ntmps25
  go_wp2
  go_ret
  exact ⟨rfl, rfl⟩
/-- t.has(v, x): a block for the blank is laid. -/
theorem has_nil (v : Int) {x : Int} (hx : I64 x) (w : World) : Calls Tryd.prog 32 #[.pointer none, .int .i64 v, .int .i64 x] w fun e w' => e = .returned (.bool false) ∧ Below w.heap.size w w' := by
  have hl := look_set_nil w hx
  have HC := hide (of_nil v w)
  have HB := hide (show Below w.heap.size w (w.alloc (.cells #[] 56)) from (Below.refl _ _).alloc (Nat.le_refl _) _)
  go_enter Tryd.func32, Tryd.ntmps32
  go_wp2_with fail
  refine HC.out.mono ?_
  rintro e w' ⟨rfl, rfl⟩
  clear HC
  go_wp2
  go_ret
  exact ⟨rfl, HB.out⟩
theorem has_any (h : TblF p mb F A n w G) {v x : Int} (hv : I64 v) (hx : I64 x) : Calls Tryd.prog 32 #[.pointer (some ⟨p, 0, none⟩), .int .i64 v, .int .i64 x] w fun e w' => e = .returned (.bool (decide (x ∈ A v))) ∧ Below w.heap.size w w' := by
  have hl := h.has v hx
  have HC := hide (of_any h hv)
  have HB := hide (show Below w.heap.size w (w.alloc (.cells #[] 56)) from (Below.refl _ _).alloc (Nat.le_refl _) _)
  generalize F v = f at *
  generalize decide (x ∈ A v) = d at *
  clear h
  go_enter Tryd.func32, Tryd.ntmps32
  go_wp2_with fail
  refine HC.out.mono ?_
  rintro e w' ⟨rfl, rfl⟩
  clear HC
  go_wp2
  go_ret
  exact ⟨rfl, HB.out⟩
end

end Go.Proofs.YtenenhhijkjjfaaDoor.Mk
