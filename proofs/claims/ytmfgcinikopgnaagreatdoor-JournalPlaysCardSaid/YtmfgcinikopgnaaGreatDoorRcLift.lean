/-
  From the row's condition on the listed variables to what the walks ask; the world of the program's own initialisers meets it; a record that came in, opened. What the six statements share.
-/
import Derived.Test.YtmfgcinikopgnaaGreatDoorRows
import Derived.WalkKit
import Derived.ProofKit
import Derived.OpenShut
import Derived.ShutString
import Derived.ChangeOld
import Derived.Below
import Derived.LaidMore
import Derived.LaidHandle
import Derived.Stop.Joined
import Derived.Stop.LaidErr
import Derived.Lib.LaidTab
import Derived.Lib.SmallJoins
import Derived.Test.YtmfgcinikopgnaaGreatDoorRcEq
namespace Go.Proofs.YtmfgcinikopgnaaGreatDoor.Rc
open Go.ChangeShapes Go.WideShapes Go.ChangeAt Go.RowKit Go.Deep
open Pk Sm Fa

theorem own : ownKnob Tryz.prog.godebug = none := by kernel_rfl
abbrev laidH : List (String × DataW Unit) := [("isobar/sum.halves", Rows.laid_isobar_sum_halves)]
abbrev laidE : List (String × DataW Unit) := [("errors.errorType", Rows.laid_errors_errorType)]
abbrev laidB : List (String × DataW Unit) := [("errors.errorType", Rows.laid_errors_errorType), ("isobar/sum.halves", Rows.laid_isobar_sum_halves)]
theorem gHalves : Tryz.prog.globalNamed "isobar/sum.halves" = some 1 := by kernel_rfl
theorem tHalves : (Tryz.prog.globals[1]?).map (·.type) = some 184 := by kernel_rfl
theorem gEty : Tryz.prog.globalNamed "errors.errorType" = some 0 := by kernel_rfl
theorem rtRow : (Tryz.prog.cutTypes.find? (·.1 == "internal/reflectlite.rtype")).map (·.2) = some 165 := by kernel_rfl
def NT : Nat := 213
theorem ntypes : Tryz.prog.types.size = NT := by kernel_rfl
theorem oneRow : ((List.range NT).filter fun t => Tryz.prog.rowNamed t [101, 114, 114, 111, 114]) = [31] := by kernel_rfl

theorem tab_of_met {W : World} (h : laidMet Tryz.prog laidH W) : Tab W := by
  have ht : Lib.TabIs Tryz.prog W "isobar/sum.halves" .u32 (halves.map fun (n : Nat) => (n : Int)) := Lib.tabIs_of_head (rest := []) gHalves tHalves Tryz.underlying184 Tryz.underlying162 (by kernel_rfl) (by kernel_rfl) h
  intro j hj
  have := World.var?_cell gHalves ht j
  rw [this]
  have hj' : j < halves.length := hj
  simp [List.getD_eq_getElem?_getD, List.getElem?_eq_getElem hj']
theorem met_of_laidH {W : World} (h : laidMetH Tryz.prog laidH W) : Tab W := by
  rw [MakeChecks.laidMetH_plain _ _ _ (by kernel_rfl)] at h
  exact tab_of_met h

theorem ety_of_handles {L : List (String × DataW Unit)} {W : World} (h : handlesMet Tryz.prog L W) (hm : ("errors.errorType", (Rows.laid_errors_errorType : DataW Unit)) ∈ L) : Ety W := by
  obtain ⟨name, u, ty, e1, e2, e3, e4, e5⟩ := h _ hm
  have en : name = [101, 114, 114, 111, 114] := (Option.some.inj e1).symm
  subst en
  obtain rfl := Option.some.inj (rtRow.symm.trans e2)
  have hm : ty ∈ (List.range NT).filter fun t => Tryz.prog.rowNamed t [101, 114, 114, 111, 114] := List.mem_filter.2 ⟨List.mem_range.2 (by rw [← ntypes]; exact e3), e4⟩
  rw [oneRow] at hm
  obtain rfl := List.mem_singleton.1 hm
  have hh : typeHandle Tryz.prog 31 = .pointer (some ⟨2, 31, none⟩) := by kernel_rfl
  rw [hh] at e5
  unfold Ety
  simpa using World.var?_cell gEty e5 0
theorem met_of_laidB {W : World} (h : laidMetH Tryz.prog laidB W) : Tab W ∧ Ety W := by
  have h' : laidMet Tryz.prog laidH W ∧ handlesMet Tryz.prog laidE W := h
  exact ⟨tab_of_met h'.1, ety_of_handles h'.2 (List.mem_singleton.2 rfl)⟩

theorem door_metH (os : Os) (args : Array Value) : laidMetH Tryz.prog laidH ((World.doorLaid Tryz.prog 21 os).forCall (fun _ _ => 0) ⟨#[], args, []⟩).memory :=
  laidMetH_of_parts3 (fuel := 8) (laidMet_of_run' 8 (by kernel_rfl) (by kernel_rfl)) (by kernel_rfl) (by kernel_rfl)
theorem door_metB (os : Os) (args : Array Value) : laidMetH Tryz.prog laidB ((World.doorLaid Tryz.prog 21 os).forCall (fun _ _ => 0) ⟨#[], args, []⟩).memory :=
  laidMetH_of_parts3 (fuel := 8) (laidMet_of_run' 8 (by kernel_rfl) (by kernel_rfl)) (by kernel_rfl) (by kernel_rfl)

theorem rec_cells : Tryz.prog.cellsOf 42 = 5 := by kernel_rfl
theorem rec_one : oneCellFields Tryz.prog (Tryz.prog.fieldsOf 42) = true := by kernel_rfl

section
variable {H : Type} {enc : TypeId × Value → H} {W : World} {d : DataW H} {p : List MemPlace}
set_option maxRecDepth 100000 in
/-- A record that came in. -/
theorem open_rec {r : Reach} {b0 : Nat} {v : Value} (hv : Value.okWide Tryz.prog W r b0 42 v) (h : DataW.Trod enc Tryz.prog W 0 (fun _ => true) true 42 v d p) :
    ∃ (s k b : Int) (x : ByteArray) (m : Int), v = rec5 s k b x m ∧ Int64 s ∧ Int64 k ∧ Int64 b ∧ x.size ≤ maxLen ∧ Int64 m := by
  obtain ⟨cs, rfl, hsz⟩ := okWide_struct rec_struct hv
  rw [rec_cells] at hsz
  obtain ⟨v0, v1, v2, v3, v4, hl⟩ := five cs.toList (by simpa using hsz)
  obtain rfl : cs = #[v0, v1, v2, v3, v4] := by
    apply Array.ext'
    exact hl
  obtain ⟨fuel, hf⟩ := h
  obtain ⟨xs, n, _, _, _, hlen, hfl⟩ := DataW.trod_struct rec_struct hf
  have hfs : (Tryz.prog.fieldsOf 42).toList.map (fun f => f.type) = [3, 3, 3, 9, 3] := by kernel_rfl
  have h5 : (Tryz.prog.fieldsOf 42).size = 5 := by kernel_rfl
  have each : ∀ (i : Nat) (t : TypeId) (u : Value), ([3, 3, 3, 9, 3] : List TypeId)[i]? = some t → ([v0, v1, v2, v3, v4] : List Value)[i]? = some u → ∃ y, DataW.trod enc Tryz.prog W 0 (fun _ => true) true n t [u] = some y := by
    intro i t u ht hu
    have hi : i < 5 := by
      have := (List.getElem?_eq_some_iff.1 hu).1
      simpa using this
    obtain ⟨f, hff⟩ : ∃ f, (Tryz.prog.fieldsOf 42)[i]? = some f := ⟨_, Array.getElem?_eq_getElem (by omega)⟩
    obtain ⟨ho, hc⟩ := hone_of rec_one i f hff
    have ht' : f.type = t := by
      have e : ((Tryz.prog.fieldsOf 42).toList.map (fun f => f.type))[i]? = some f.type := by
        rw [List.getElem?_map, Array.getElem?_toList, hff]; rfl
      rw [hfs, ht] at e
      exact (Option.some.inj e).symm
    have hx := hfl i f hff
    rw [ho, hc, ht'] at hx
    obtain ⟨y, hy⟩ : ∃ y, xs[i]? = some y := ⟨_, List.getElem?_eq_getElem (by omega)⟩
    rw [hy] at hx
    refine ⟨y, ?_⟩
    have e : (([v0, v1, v2, v3, v4] : List Value).drop i).take 1 = [u] := by
      obtain ⟨hlt, he⟩ := List.getElem?_eq_some_iff.1 hu
      rw [List.drop_eq_getElem_cons hlt, he]
      rfl
    rw [← e]
    exact hx
  obtain ⟨y0, h0⟩ := each 0 _ _ rfl rfl
  obtain ⟨y1, h1⟩ := each 1 _ _ rfl rfl
  obtain ⟨y2, h2⟩ := each 2 _ _ rfl rfl
  obtain ⟨y3, h3⟩ := each 3 _ _ rfl rfl
  obtain ⟨y4, h4⟩ := each 4 _ _ rfl rfl
  obtain ⟨k0, e0, _, w0⟩ := DataW.trod_int Tryz.underlying3 h0
  obtain ⟨k1, e1, _, w1⟩ := DataW.trod_int Tryz.underlying3 h1
  obtain ⟨k2, e2, _, w2⟩ := DataW.trod_int Tryz.underlying3 h2
  obtain ⟨s3, e3, _, w3⟩ := DataW.trod_string Tryz.underlying9 h3
  obtain ⟨k4, e4, _, w4⟩ := DataW.trod_int Tryz.underlying3 h4
  simp at e0 e1 e2 e3 e4
  subst e0 e1 e2 e3 e4
  exact ⟨k0, k1, k2, s3, k4, rfl, bounds_i64 w0, bounds_i64 w1, bounds_i64 w2, w3, bounds_i64 w4⟩
end

end Go.Proofs.YtmfgcinikopgnaaGreatDoor.Rc
