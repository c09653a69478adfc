/-
  errors.Is at a number, of what a lease answers: the fault lease around a number, or nil. Nothing is changed. No condition.
-/
import Derived.Test.YtmbhnhfnimijcaaDoorLeErrD
namespace Go.Proofs.YtmbhnhfnimijcaaDoor.Fa
open Go.RowKit Go.Extern.Stop Go.Stop Go.Extern
open Pk

theorem Chain.form {w : World} {fs : List Flt} {e : Value} {T : TypeId} {v : Value} (h : Chain w fs e (.iface T v)) : ∃ T' v', e = .iface T' v' := by
  cases fs with
  | nil => exact ⟨_, _, h⟩
  | cons q r => exact ⟨_, _, h.1⟩

theorem ext_cmp (args : Array Value) (w : World) : (callFunc 67 args).run Tryd.prog w = (((ReflectliteType.method fun t => do Rtype.noPackHeld "Comparable" t; pure (.bool (← typeInfo t).comparable)) args).run Tryd.prog w).andThen fun v w' => .ok (.value v) w' :=
  run_callFunc_extern (e := (ReflectliteType.method fun t => do Rtype.noPackHeld "Comparable" t; pure (.bool (← typeInfo t).comparable))) Tryd.func67 (by kernel_rfl) (by kernel_rfl) (by kernel_rfl) (by kernel_rfl) args w
theorem cmpF (w : World) : (callFunc 67 #[.agg #[.pointer (some ⟨1, 72, none⟩)]]).run Tryd.prog w = .ok (.value (.bool true)) w := by
  rw [ext_cmp]
  kernel_rfl
theorem cmpN (w : World) : (callFunc 67 #[.agg #[.pointer (some ⟨1, 59, none⟩)]]).run Tryd.prog w = .ok (.value (.bool true)) w := by
  rw [ext_cmp]
  kernel_rfl
/-- The loop's state in errors.is. -/
def Isl (w : World) (i : Value) (m : Nat) (e : Value) (wr : World) : Prop := wr = w ∧ ∃ gs : List Flt, gs.length < m ∧ Chain w gs e i

set_option maxHeartbeats 1000000 in
set_option maxRecDepth 100000 in
theorem is_chainN (fs : List Flt) (e0 v : Value) (T : TypeId) (tv : Value) (b : Bool) (w : World) (hT : T ≠ 72) (hch : Chain w fs e0 (.iface 59 v)) (hb : ∀ W : World, (binOp .eql 42 (.iface 59 v) (.iface T tv)).run Tryd.prog W = .ok (.bool b) W) :
    Calls Tryd.prog 34 #[e0, .iface T tv, .bool true] w fun r w' => r = .returned (.bool b) ∧ w' = w := by
  have hF : ∀ (x : Value) (W : World), (binOp .eql 42 (.iface 72 x) (.iface T tv)).run Tryd.prog W = .ok (.bool false) W := fun x W => run_eql_iface_types 72 T x tv Tryd.underlying42 (Ne.symm hT) W
  have mU := methodUnwrapF
  have n1 := noIsF
  have n2 := hasUnwrapF
  have n3 := noIsN
  have n4 := noUnwrapN
  have n5 := noUnwrapsN
  have Hch := hide hch
  clear hch hT
  go_enter Tryd.func34, Tryd.ntmps34
  go_wp2_with fail
  go_loopg [0] (fs.length + 1) (fun m ev wr => Hid (Isl w (.iface 59 v) m ev wr))
  case atStart => exact ⟨rfl, fs, by omega, Hch.out⟩
  case round =>
    obtain ⟨rfl, gs, hlen, hc⟩ := hrel.out
    clear hrel
    cases gs with
    | nil =>
      obtain rfl := hc
      cases b with
      | true =>
        go_wp2
        go_ret
        exact ⟨rfl, rfl⟩
      | false =>
        go_wp2
        go_ret
        exact ⟨rfl, rfl⟩
    | cons q r =>
      obtain ⟨p, op, n⟩ := q
      obtain ⟨rfl, e', hp, hr⟩ := hc
      have HU := hide (Unwrap_any p op n e' _ hp)
      have Hr := hide hr
      have hl : r.length < gk - 1 := by simp at hlen; omega
      cases r with
      | nil =>
        obtain rfl := hr
        clear hp
        go_wp2_with (go_at_call 36; refine HU.out.mono ?_; rintro r w1 ⟨rfl, rfl⟩)
        go_roundg (gk - 1)
        case measure => simp at hlen; omega
        case rel => exact ⟨rfl, _, hl, Hr.out⟩
      | cons q r =>
        obtain ⟨p2, op2, m2⟩ := q
        obtain ⟨rfl, _⟩ := hr
        clear hp
        go_wp2_with (go_at_call 36; refine HU.out.mono ?_; rintro r w1 ⟨rfl, rfl⟩)
        go_roundg (gk - 1)
        case measure => simp at hlen; omega
        case rel => exact ⟨rfl, _, hl, Hr.out⟩

set_option maxHeartbeats 1000000 in
theorem Is_chainN (fs : List Flt) (e0 v : Value) (k : Int) (b : Bool) (w : World) (hch : Chain w fs e0 (.iface 59 v)) (hb : ∀ W : World, (binOp .eql 42 (.iface 59 v) (.iface 59 (.int .i64 k))).run Tryd.prog W = .ok (.bool b) W) :
    Calls Tryd.prog 29 #[e0, .iface 59 (.int .i64 k)] w fun r w' => r = .returned (.bool b) ∧ w' = w := by
  have h36 := ext_typeOf
  have tO := typeOfN
  have mC := methodComparable
  have hc := cmpN
  have HI := hide (is_chainN fs e0 v _ _ b w (by decide) hch hb)
  obtain ⟨T', v', rfl⟩ := hch.form
  clear hch hb
  go_enter Tryd.func29, Tryd.ntmps29
  go_wp2_with (go_at_call 34; refine HI.out.mono ?_; rintro r w' ⟨rfl, rfl⟩)
  go_ret
  exact ⟨rfl, rfl⟩

set_option maxRecDepth 100000 in
theorem Is_nil (k : Int) (w : World) :
    Calls Tryd.prog 29 #[.nilIface, .iface 59 (.int .i64 k)] w fun r w' => r = .returned (.bool false) ∧ w' = w := by
  have hq : ∀ W : World, (binOp .eql 42 .nilIface (.iface 59 (.int .i64 k))).run Tryd.prog W = .ok (.bool false) W := fun W => by kernel_rfl
  go_enter Tryd.func29, Tryd.ntmps29
  go_wp2
  go_ret
  exact ⟨rfl, rfl⟩

end Go.Proofs.YtmbhnhfnimijcaaDoor.Fa

namespace Go.Proofs.YtmbhnhfnimijcaaDoor.Le
open Go.RowKit
open Pk Sm Fa Dk Wn Lk
theorem Is_err {w : World} {v : Value} {r k j : Int} (h : Err w v r k) :
    Calls Tryd.prog 29 #[v, .iface 59 (.int .i64 j)] w fun e w' => e = .returned (.bool (decide (k = j ∧ k ≠ 0))) ∧ w' = w := by
  rcases h with ⟨rfl, rfl⟩ | ⟨hk, p, rfl, hF⟩
  · rw [show decide ((0 : Int) = j ∧ (0 : Int) ≠ 0) = false by simp]
    exact Is_nil j w
  · rw [show decide (k = j ∧ k ≠ 0) = (k == j) by simp [hk]; rfl]
    exact Is_chainN _ _ _ j _ w hF.chain fun W => eq_num k j W
end Go.Proofs.YtmbhnhfnimijcaaDoor.Le
