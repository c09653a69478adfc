/-
  errors.As at the target *api.Errno, and errors.Is, at a wrapped error, walked through Go's own text: each unwraps fault by fault. Conditions: in each; the library's variable errors.errorType holds its own type's handle.
-/
import Derived.Test.YtknnalcnoccleaaDoorFaMade
namespace Go.Proofs.YtknnalcnoccleaaDoor.Fa
open Go.RowKit Go.Extern.Stop Go.Stop Go.Extern
open Pk

/-- The loop's state in errors.as. -/
def Asl (W : World) (i : Value) (m : Nat) (e : Value) (wr : World) : Prop := wr = W ∧ ∃ gs : List Flt, gs.length < m ∧ Chain W gs e i

set_option maxHeartbeats 1000000 in
set_option maxRecDepth 100000 in
theorem as_chain (fs : List Flt) (e0 : Value) (e : Int) (t a : Addr) (old : Value) (w : World) (hch : Chain w fs e0 (.iface 28 (.int .i64 e))) (ha : w.cell? a = some (.pointer (some t))) (ht0 : w.cell? t = some old) (hf0 : w.frozen? t = false) :
    Calls Tryd.prog 35 #[e0, .iface 43 (.pointer (some t)), .agg #[.pointer (some ⟨4, 43, none⟩), .pointer (some a), .int .u64 150], .iface 89 (.agg #[.pointer (some ⟨4, 28, none⟩)])] w fun r w' => r = .returned (.bool true) ∧ w' = ((w.alloc (.cells #[.pointer (some ⟨4, 43, none⟩), .pointer (some a), .int .u64 150] 65)).alloc (.cells #[.int .i64 e] 28)).setCell t (.int .i64 e) := by
  have h36 := ext_typeOf
  have h35 := ext_asg
  have mA := methodAssignableTo
  have mU := methodUnwrapF
  have tF := typeOfF
  have aF := assignFN
  have tO := typeOfN
  have aS := assignNN
  have n1 := noAsF
  have n2 := hasUnwrapF
  have h44 := ext_elemV
  have h32 := ext_valueOf
  have h45 := ext_set
  have vO := valueOfN
  have hal : a.block < w.heap.size := cell_lt ha
  have htl : t.block < w.heap.size := cell_lt ht0
  have el := elemVPN a t (w.alloc (.cells #[.pointer (some ⟨4, 43, none⟩), .pointer (some a), .int .u64 150] 65)) (by rw [World.cell?_alloc_lt _ _ a hal]; exact ha)
  have st := setN t ⟨w.heap.size + 1, 0, none⟩ e old ((w.alloc (.cells #[.pointer (some ⟨4, 43, none⟩), .pointer (some a), .int .u64 150] 65)).alloc (.cells #[.int .i64 e] 28))
    (by rw [World.cell?_alloc_at _ _ _ _ (by simp)]; rfl)
    (by rw [World.cell?_alloc_lt _ _ t (by simp; omega), World.cell?_alloc_lt _ _ t htl]; exact ht0)
    (by rw [World.frozen?_alloc_old _ _ t (by simp; omega), World.frozen?_alloc_old _ _ t (Nat.ne_of_lt htl)]; exact hf0)
  have Hch := hide (hch.below (Nat.le_refl _) ((Below.refl _ _).alloc (Nat.le_refl _) (.cells #[.pointer (some ⟨4, 43, none⟩), .pointer (some a), .int .u64 150] 65)))
  clear ha ht0 hf0 hch hal htl
  go_enter Tryd.func35, Tryd.ntmps35
  go_wp2_with fail
  go_loopg [0] (fs.length + 1) (fun m ev wr => Hid (Asl (w.alloc (.cells #[.pointer (some ⟨4, 43, none⟩), .pointer (some a), .int .u64 150] 65)) (.iface 28 (.int .i64 e)) m ev wr))
  case atStart => exact ⟨rfl, fs, by omega, Hch.out⟩
  case round =>
    obtain ⟨rfl, gs, hlen, hc⟩ := hrel.out
    clear hrel
    cases gs with
    | nil =>
      obtain rfl := hc
      go_wp2
      go_ret
      exact ⟨rfl, rfl⟩
    | cons q r =>
      obtain ⟨p, op, n⟩ := q
      obtain ⟨rfl, e', hp, hr⟩ := hc
      have HU := hide (Unwrap_any p op n e' _ hp)
      have Hr := hide hr
      have hl : r.length < gk - 1 := by simp at hlen; omega
      cases r with
      | nil =>
        obtain rfl := hr
        clear hp
        go_wp2_with (go_at_call 21; refine HU.out.mono ?_; rintro r w1 ⟨rfl, rfl⟩)
        go_roundg (gk - 1)
        case measure => simp at hlen; omega
        case rel => exact ⟨rfl, _, hl, Hr.out⟩
      | cons q r =>
        obtain ⟨p2, op2, m2⟩ := q
        obtain ⟨rfl, _⟩ := hr
        clear hp
        go_wp2_with (go_at_call 21; refine HU.out.mono ?_; rintro r w1 ⟨rfl, rfl⟩)
        go_roundg (gk - 1)
        case measure => simp at hlen; omega
        case rel => exact ⟨rfl, _, hl, Hr.out⟩

end Go.Proofs.YtknnalcnoccleaaDoor.Fa
