/-
  Two sets in memory, each in a block of the call's own; what calls leave of them; reading one inside a region. Plain theorems.
-/
import Derived.Deep.MidRow
import Derived.OrdersHeld
import Derived.Deep.RegionHeld3
import Derived.Test.YtmenedndchakjaaBtEq
import Derived.Test.YtmenedndchakjaaBtSums
import Derived.Test.YtmenedndchakjaaBtAwake
namespace Go.Proofs.Ytmenedndchakjaa.Bt
open Go.RowKit
open Pk Sm

/-- The sets S and O in the blocks g and h; nothing older than w has changed. -/
structure Two (w : World) (g h : Nat) (S O : BSet) (W : World) : Prop where
  one : Lies W g S
  two : Lies W h O
  bel : Below w.heap.size w W
theorem Two.below {w W W' : World} {g h : Nat} {S O : BSet} (t : Two w g h S O W) (hb : Below W.heap.size W W') : Two w g h S O W' :=
  ⟨t.one.below hb t.one.lt, t.two.below hb t.two.lt, t.bel.trans (hb.mono t.bel.size)⟩
theorem Two.drew {w W : World} {g h : Nat} {S O : BSet} (t : Two w g h S O W) : Two w g h S O W.drew := ⟨t.one, t.two, t.bel.drew⟩
theorem yields_set {ops : Array Oper} {C : World → Prop} {op : Oper} {a : Act} (hw : Region.wanted op (yielded ops a.tmps) = true) (x : Operand) (ho : op.op = .load 28 x)
    (b : Nat) (hx : a.eval x = .pointer (some ⟨b, 0, none⟩)) (T : BSet) (hT : T.length = 8) (hS : ∀ w, C w → Lies w b T) : YieldsIf Try.prog ops C op (val T) a :=
  yieldsIf_load_mid hw 28 x ho b 0 hx (bcels T) _ (fun w h => (hS w h).range) Try.underlying28 rfl (by rw [set_size, bcels_length, hT])

theorem Len_any (S : BSet) (hS : S.length = 8) (n : Int) (hn : (len S : Int) = n) (w : World) : Calls Try.prog 21 #[val S] w fun e w' => e = .returned (.int .i64 n) ∧ Below w.heap.size w w' := by
  subst hn
  exact callsIn_wide.1 (Len_in Fence.wide 3 trivial trivial trivial rfl (by omega) S hS w)

end Go.Proofs.Ytmenedndchakjaa.Bt
