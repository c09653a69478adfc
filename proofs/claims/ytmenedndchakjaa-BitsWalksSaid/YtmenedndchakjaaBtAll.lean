/-
  The contract of the iterator that bits.All returns: the set's blocks, rising, one by one; it ends where a round says so. For every loop body.
-/
import Derived.RangeFuncNested
import Derived.RangeFuncBound
import Derived.RangeFuncCalls
import Derived.RangeFuncLeaves
import Derived.RangeFuncBox
import Derived.Shelf.Abstract
import Derived.Shelf.RegionOpen
import Derived.OwnWalkIn
import Derived.TacticsInMore
import Derived.LoopNIn
import Derived.LoopIn
import Derived.Test.YtmenedndchakjaaBtOps
namespace Go.Proofs.Ytmenedndchakjaa.Bt
open Go.RowKit Go.Shelf
open Pk Sm

attribute [local go_sem] Oper.semAt_some

section
variable {F : Fence} {n : Nat} {P : Program} {ops : Array Oper} {rest : List Oper} {o : Oper} {a : Act} {w : World} {Q : Exit → Act → World → Prop}
/-- Within a fence: a whole variable read. -/
theorem wpListIn_load_mid (hg : o.guard = none) (ty : TypeId) (x : Operand) (ho : o.op = .load ty x)
    (b off : Nat) (hx : a.eval x = .pointer (some ⟨b, off, none⟩)) (cs : List Value) (d : TypeDesc) (hc : w.rangeAt b off cs)
    (hu : P.underlying ty = some d) (hd : d.isRow = true) (hi : (P.info? ty).map (·.size) = some cs.length)
    (h : wpListIn F n P ops Q rest (a.put o.dst (.agg cs.toArray)) w) : wpListIn F n P ops Q (o :: rest) a w := by
  refine wpListIn_plain hg fun K hK => ?_
  have hrun := run_loadAt_mid (P := P) w b off ty cs d hc hu hd hi
  unfold Oper.wpIn
  refine ⟨by simp [Oper.about, ho], ?_⟩
  rw [Oper.semAt_plain F _ _ (by rw [ho]; intro c hc'; cases hc')]
  simp only [execOp, ho, hx, Sem.run_bind, hrun, Result.andThen_ok, Sem.run_pure]
  exact hK _ _ h
/-- A new variable of a value of several cells. -/
theorem wpListIn_box_told (hg : o.guard = none) (t : TypeId) (x : Operand) (ho : o.op = .box t x) (z : Array Value) (hz : a.eval x = .agg z)
    (h : ∀ w', Hid (w' = w.alloc (.cells z t)) → wpListIn F n P ops Q rest (a.put o.dst (.pointer (some ⟨w.heap.size, 0, none⟩))) w') : wpListIn F n P ops Q (o :: rest) a w := by
  refine wpListIn_plain hg fun K hK => ?_
  unfold Oper.wpIn
  refine ⟨by simp [Oper.about, ho], ?_⟩
  rw [Oper.semAt_plain F _ _ (by rw [ho]; intro c hc'; cases hc')]
  simp only [execOp, ho, hz, Sem.run_bind, Instr.box, newVar, newRow, run_newObj_alloc, Sem.run_pure, Result.andThen_ok, Value.cells]
  exact hK _ _ (h _ rfl)
theorem wpListIn_alloc_told (hg : o.guard = none) (t : TypeId) (ho : o.op = .alloc t) (z : Array Value) (hz : (P.info? t).map (·.zero) = some (some (.agg z)))
    (h : ∀ w', Hid (w' = w.alloc (.cells z t)) → wpListIn F n P ops Q rest (a.put o.dst (.pointer (some ⟨w.heap.size, 0, none⟩))) w') : wpListIn F n P ops Q (o :: rest) a w := by
  refine wpListIn_plain hg fun K hK => ?_
  cases hq : P.info? t with
  | none => simp [hq] at hz
  | some i =>
    have hz' : i.zero = some (.agg z) := by simpa [hq] using hz
    have hrun : (zeroValue t).run P w = .ok (.agg z) w := by simp [zeroValue, typeInfo, hq, hz']
    unfold Oper.wpIn
    refine ⟨by simp [Oper.about, ho], ?_⟩
    rw [Oper.semAt_plain F _ _ (by rw [ho]; intro c hc'; cases hc')]
    simp only [execOp, ho, Sem.run_bind, Instr.alloc, newVar, newRow, run_newObj_alloc, Sem.run_pure, Result.andThen_ok, hrun, Value.cells]
    exact hK _ _ (h _ rfl)
/-- A whole block written anew; the world behind it under a name of its own. -/
theorem wpListIn_store_told (hg : o.guard = none) (ty : TypeId) (x y : Operand) (ho : o.op = .store ty x y)
    (b : Nat) (cs : Array Value) (hx : a.eval x = .pointer (some ⟨b, 0, none⟩)) (hy : a.eval y = .agg cs) (old : Array Value) (hb : w.heap[b]? = some (.cells old ty (0, 0)))
    (hi : (P.info? ty).map (·.size) = some cs.size) (hs : old.size = cs.size) (h1 : cs.all (·.oneCell') = true)
    (h : ∀ w', Hid (w' = w.setRow b cs) → wpListIn F n P ops Q rest (a.put o.dst undef) w') : wpListIn F n P ops Q (o :: rest) a w := by
  refine wpListIn_plain hg fun K hK => ?_
  have hrun := run_storeVar_row (P := P) w b ty ty old cs hb hi hs h1
  unfold Oper.wpIn
  refine ⟨by simp [Oper.about, ho], ?_⟩
  rw [Oper.semAt_plain F _ _ (by rw [ho]; intro c hc'; cases hc')]
  simp only [execOp, ho, hx, hy, Instr.storeAt, Instr.sureAddr, Sem.run_bind, hrun, Sem.run_pure, Result.andThen_ok]
  exact hK _ _ (h _ rfl)
end

theorem All_in (F : Fence) (n : Nat) (hA : F.fn 25) (hro : F.round = none) (S : BSet) (w : World) :
    CallsIn F n Try.prog 25 #[val S] w fun e w' => e = .returned (.func (.func 29) #[] #[.pointer (some ⟨w.heap.size, 0, none⟩)]) ∧ w' = w.alloc (.cells (bcels S).toArray 28) := by
  unfold val
  refine callsIn_of_wp Try.func25 rfl hA ?_ hro
  simp only [Try.ntmps25, List.size_toArray, List.length_cons, List.length_nil, Nat.reduceAdd, Nat.reduceSub, Array.replicate_succ, Array.replicate_zero, List.push_toArray, List.append_toArray, List.nil_append, List.cons_append]
  gi_wp2
  go_ret
  exact ⟨rfl, rfl⟩

theorem arr_size : (Try.prog.info? 26).map (·.size) = some 8 := by kernel_rfl

theorem bool_size : (Try.prog.info? 4).map (·.size) = some 1 := by kernel_rfl
theorem run_index_set (S : BSet) (k : Nat) (b : Bool) (hk : k < 8) (hb : S[k]? = some b) (w : World) : (Instr.index 26 (.agg (bcels S).toArray) (.int .i64 k)).run Try.prog w = .ok (.bool b) w := by
  have h1 : (bcels S).toArray[k]? = some (.bool b) := by simpa using bcels_get hb
  have hs := bool_size
  obtain ⟨i, hi, hsz⟩ : ∃ i, Try.prog.info? 4 = some i ∧ i.size = 1 := by
    cases hq : Try.prog.info? 4 with
    | none => simp [hq] at hs
    | some i => exact ⟨i, rfl, by simpa [hq] using hs⟩
  have hg : (isAgg 4).run Try.prog w = .ok false w := by
    unfold isAgg
    rw [Sem.run_bind, run_underlying Try.underlying4 w]
    rfl
  have h1' : (bcels S).toArray[k * i.size]? = some (.bool b) := by rw [hsz, Nat.mul_one]; exact h1
  have hz : (sizeOf 4).run Try.prog w = .ok i.size w := by simp [sizeOf, typeInfo, hi]
  have hp : (part 4 (bcels S).toArray (k * i.size)).run Try.prog w = .ok (.bool b) w := by
    simp only [part, Sem.run_bind, hg, Result.andThen_ok]
    simp [h1']
  have hk' : (0 : Int) ≤ (k : Int) ∧ (k : Int) < (8 : Nat) := by omega
  simp [Instr.index, asIntOf, run_underlying Try.underlying26, hk', hz, hp]
  intro h
  omega

set_option maxRecDepth 100000 in
set_option maxHeartbeats 2000000 in
theorem All1_in (F : Fence) (n : Nat) (hF : F.fn 29) (hro : F.round = none) (hn : 1 ≤ n) (l g : Nat) (S : BSet) (hS : S.length = 8) (Kp : World → World → Prop) (J Jx : List (On S) → World → Prop)
    (hY : ∀ pre x W, J pre W → pre.length < 8 → YieldAt F (n - 1) Try.prog l #[.int .i64 (x.1 : Int)] W fun e W' =>
      (e = .returned (.bool true) ∧ J (pre ++ [x]) W' ∧ Kp W W') ∨ (e = .returned (.bool false) ∧ Jx (pre ++ [x]) W'))
    (W : World) (hL : Lies W g S) (h0 : J [] W) :
    CallsIn F n Try.prog 29 #[.func (.yield l) #[] #[], .pointer (some ⟨g, 0, none⟩)] W fun e W' => (∃ v, e = .returned v) ∧
      ((∃ ys, ys = ones S ∧ J ys W') ∨ (∃ pre, pre <+: ones S ∧ Jx pre W')) := by
  have HR := hide hL.range
  have Hl : Hid ((bcels S).length = 8) := by rw [bcels_length]; exact hS
  have HS := hide hS
  have HL := hide hL
  clear hS hL
  refine callsIn_of_wp Try.func29 rfl hF ?_ hro
  simp only [Try.ntmps29, List.size_toArray, List.length_cons, List.length_nil, Nat.reduceAdd, Nat.reduceSub, Array.replicate_succ, Array.replicate_zero, List.push_toArray, List.append_toArray, List.nil_append, List.cons_append]
  gi_wp2_with (with_reducible refine wpListIn_load_mid rfl 26 (.tmp 5) rfl g 0 rfl (bcels S) _ HR.out Try.underlying26 rfl (by rw [arr_size, Hl.out]) ?_)
  gi_loopw [7] (fun i wr => ∃ k : Nat, k ≤ 8 ∧ i = .int .i64 k ∧ J (upto S k) wr) (fun i _ => 8 - (intOf i).toNat)
  case atStart => exact ⟨0, Nat.zero_le _, rfl, h0⟩
  case round =>
    obtain ⟨k, hk, rfl, hJs⟩ := hrel
    by_cases hlt : k < 8
    · obtain ⟨b, hb⟩ := get_some HS.out hlt
      have hix := fun W => run_index_set S k b hlt hb W
      cases b with
      | true =>
        obtain ⟨fn, tmps, assign, body, hy, hR⟩ := hY _ ⟨k, hb⟩ wr hJs (by have := upto_length S k; omega)
        dsimp only at hy
        gi_wp2
        refine hR.mono ?_
        rintro e W3 (⟨rfl, hJ3, _⟩ | ⟨rfl, hJx3⟩)
        · gi_wp2
          go_roundw
          case rel => exact ⟨k + 1, by omega, by simp, by rw [upto_yes hb]; exact hJ3⟩
          case measure => simp [intOf]; omega
        · gi_wp2
          refine bodyPost_ret (results_none rfl _ _ _) rfl ?_
          exact ⟨⟨_, rfl⟩, .inr ⟨_, by rw [← upto_yes hb]; exact upto_prefix S (by omega), hJx3⟩⟩
      | false =>
        gi_wp2
        refine ⟨fun _ h => (by cases h), ?_⟩
        gi_wp2
        go_roundw
        case rel => exact ⟨k + 1, by omega, by simp, by rw [upto_no (by rw [hb]; simp)]; exact hJs⟩
        case measure => simp [intOf]; omega
    · obtain rfl : k = 8 := by omega
      gi_wp2
      go_end0
      exact ⟨⟨_, rfl⟩, .inl ⟨_, rfl, hJs⟩⟩

/-- What All returns ranges over the set. -/
theorem All_stops (F : Fence) (n : Nat) (hF : F.fn 29) (hro : F.round = none) (hn : 1 ≤ n) (g : Nat) (S : BSet) (hS : S.length = 8) (Kp : World → World → Prop) (w : World) (hL : Lies w g S) :
    SeqStopsK F n Try.prog 29 #[.pointer (some ⟨g, 0, none⟩)] (fun x : On S => #[Value.int .i64 (x.1 : Int)]) Kp (fun ys => ys = ones S) (fun pre => pre <+: ones S) 8 w := fun l J Jx W hW _ _ hY h0 =>
  All1_in F n hF hro hn l g S hS Kp J Jx hY W (hL.below hW hL.lt) h0

end Go.Proofs.Ytmenedndchakjaa.Bt
