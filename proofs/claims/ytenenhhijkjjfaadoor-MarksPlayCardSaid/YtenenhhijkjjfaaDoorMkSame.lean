/-
  The contract of the statements' own same at two slices of one list: it returns true, and changes nothing.
-/
import Derived.BigQuiet
import Derived.Test.YtenenhhijkjjfaaDoorMkMem
namespace Go.Proofs.YtenenhhijkjjfaaDoor.Mk
open Go.RowKit
open Pk Dk Wn Lk

set_option maxRecDepth 100000 in
set_option maxHeartbeats 2000000 in
theorem same_any (w : World) (L : List Int) (n : Nat) (A1 A2 : Option Addr) (c1 c2 : Nat) (hn : L.length = n) (hlim : n ≤ 100000) (h1 : Src w A1 (nums L)) (h2 : Src w A2 (nums L)) :
    Calls Tryd.prog 12 #[.slice A1 n c1, .slice A2 n c2] w fun e w' => e = .returned (.bool true) ∧ Below w.heap.size w w' := by
  have Hn := hide hn
  have H1 := hide h1
  have H2 := hide h2
  have hni : (n : Int) ≤ 100000 := by omega
  clear hn h1 h2 hlim
  go_enter Tryd.func12, Tryd.ntmps12
  go_wp2
  go_loopw [13] (fun j wr => ∃ k : Nat, k ≤ n ∧ j = .int .i64 k ∧ Hid (Below w.heap.size w wr)) (fun j _ => n - (RowKit.intOf j).toNat)
  case atStart => exact ⟨0, Nat.zero_le _, rfl, Below.refl _ _⟩
  case round =>
    obtain ⟨k, hk, rfl, hb⟩ := hrel
    rcases Nat.lt_or_ge k n with hlt | hge
    · have Hlt := hide hlt
      have hki : (k : Int) < (n : Int) := by omega
      obtain ⟨x, hx⟩ : ∃ x, L[k]? = some x := ⟨_, List.getElem?_eq_getElem (by rw [Hn.out]; exact hlt)⟩
      obtain ⟨g1, o1, rfl, _, a0⟩ := Src.num (H1.out.below hb.out) hx
      obtain ⟨g2, o2, rfl, _, b0⟩ := Src.num (H2.out.below hb.out) hx
      clear hx hlt
      go_wp2
      go_quiet (fail)
      go_wp2
      go_roundw
      case rel => exact ⟨k + 1, Hlt.out, by go_num, hb.out.trans ⟨rfl, rfl, rfl, Nat.le_refl _, fun _ _ => rfl⟩⟩
      case measure => have := Hlt.out; simp [RowKit.intOf]; omega
    · obtain rfl : k = n := by omega
      clear hge hk
      go_wp2
      go_ret
      exact ⟨rfl, hb.out⟩

end Go.Proofs.YtenenhhijkjjfaaDoor.Mk

