/-
  The contract of a reader's Text, for every state of the reader, and of all methods of a nil reader.
-/
import Derived.Test.YthoflpjmdhabmaaDoorPkMeth
namespace Go.Proofs.YthoflpjmdhabmaaDoor.Pk
open Go.RowKit

theorem nums_back (l : List UInt8) : strOfNums (l.map fun b => (b.toNat : Int)) = ⟨l.toArray⟩ := by
  unfold strOfNums
  congr 2
  rw [List.map_map]
  conv => rhs; rw [← List.map_id l]
  apply List.map_congr_left
  intro b _
  simp

/-- string(b) -/
theorem run_str (w : World) (B : Nat) (A : Option Addr) (l : List UInt8) (c : Nat) (hb : Byt w B A l) :
    (convert 42 9 (.slice A l.length c)).run Tryd.prog w = .ok (.string ⟨l.toArray⟩) w := by
  cases l with
  | nil =>
    cases A with
    | none => exact run_convert_bytes_nil w 42 5 Tryd.underlying42 Tryd.underlying5 0 c 9 Tryd.underlying9
    | some ad =>
      have h0 : (loadCells ad 0).run Tryd.prog w = .ok (([] : List Int).map (Value.int .u8)).toArray w := run_loadCells_list w ad [] (fun j v hj => by simp at hj)
      rw [List.length_nil, run_convert_bytes_string w _ _ 5 _ 0 c Tryd.underlying42 Tryd.underlying5 Tryd.underlying9, run_bytesToString w ad 0 c [] h0]
      rfl
  | cons x r =>
    obtain ⟨b, o, rfl, _, hc⟩ := hb (by simp)
    rw [← nums_back]
    refine run_convert_bytes_arg w 42 5 Tryd.underlying42 Tryd.underlying5 b o _ c _ (by simp) (fun i hi => ?_) 9 Tryd.underlying9
    rw [hc i _ (List.getElem?_eq_getElem hi)]
    rw [List.getD_eq_getElem?_getD, List.getElem?_map, List.getElem?_eq_getElem hi]
    rfl

/-- A reader whose rest is another one. -/
theorem rd_set {w : World} {g c c' n' : Nat} {A A' : Option Addr} {l l' : List UInt8} (h1 : w.heap[g]? = some (.cells #[.slice A l.length c, .int .i64 0] 94 (0, 0)))
    (hn : l'.length = n') (hl : n' ≤ c') (hc : c' ≤ maxLen) (hA : Byt w g A' l') :
    Rd (w.setCell ⟨g, 0, none⟩ (.slice A' n' c')) g l' 0 ∧ w.grownBy (w.setCell ⟨g, 0, none⟩ (.slice A' n' c')) (some g) := by
  subst hn
  have R1 := heap_setCell_same w g 0 _ _ (.slice A' l'.length c') h1
  have hg := (Array.getElem?_eq_some_iff.1 h1).1
  have R3 : w.grownBy (w.setCell ⟨g, 0, none⟩ (.slice A' l'.length c')) (some g) :=
    ⟨rfl, rfl, rfl, by simp, fun j _ hj => heap_setCell_other _ ⟨g, 0, none⟩ j _ (fun e => hj (by rw [e]))⟩
  exact ⟨⟨A', c', R1, hl, hc, hA.below (below_of_only R3 (Nat.le_refl _) hg)⟩, R3⟩

theorem only_trans {a b c : World} {g : Nat} (h : a.grownBy b (some g)) (k : b.grownBy c (some g)) : a.grownBy c (some g) := World.grownBy.trans h k

set_option maxHeartbeats 400000 in
theorem Err_nil (w : World) : Calls Tryd.prog 61 #[.pointer none] w fun r w' => r = .returned (.int .i64 2) ∧ w = w' := by
  go_enter Tryd.func61, Tryd.ntmps61
  go_wp2
  go_ret
  exact ⟨rfl, rfl⟩
set_option maxHeartbeats 400000 in
theorem Left_nil (w : World) : Calls Tryd.prog 64 #[.pointer none] w fun r w' => r = .returned (.int .i64 0) ∧ w = w' := by
  go_enter Tryd.func64, Tryd.ntmps64
  go_wp2
  go_ret
  exact ⟨rfl, rfl⟩
set_option maxHeartbeats 400000 in
theorem End_nil (w : World) : Calls Tryd.prog 55 #[.pointer none] w fun r w' => r = .returned (.int .i64 2) ∧ w = w' := by
  go_enter Tryd.func55, Tryd.ntmps55
  go_wp2_with fail
  refine (Err_nil w).mono ?_
  rintro r w' ⟨rfl, rfl⟩
  go_wp2
  go_ret
  exact ⟨rfl, rfl⟩
set_option maxHeartbeats 400000 in
theorem Number_nil (w : World) : Calls Tryd.prog 53 #[.pointer none] w fun r w' => r = .returned (.int .i64 0) ∧ w = w' := by
  go_enter Tryd.func53, Tryd.ntmps53
  go_wp2_with fail
  refine (Err_nil w).mono ?_
  rintro r w' ⟨rfl, rfl⟩
  go_wp2
  go_ret
  exact ⟨rfl, rfl⟩
end Go.Proofs.YthoflpjmdhabmaaDoor.Pk
