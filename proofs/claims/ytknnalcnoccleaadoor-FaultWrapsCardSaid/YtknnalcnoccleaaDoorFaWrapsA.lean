/-
  errors.Is at a fault and what it wraps directly; a slice without its first value; the ways of FaultWraps on which nothing is looked at. Conditions: in each.
-/
import Derived.Test.YtknnalcnoccleaaDoorFaTellsL
namespace Go.Proofs.YtknnalcnoccleaaDoor.Fa
open Go.RowKit Go.Deep Go.Extern.Stop Go.Stop Go.Extern
open Pk Sm

theorem eql_other {w : World} {g p : Nat} {cg cp : Array Value} (hg : w.heap[g]? = some (.cells cg 46 (0, 0))) (hp : w.heap[p]? = some (.cells cp 46 (0, 0))) (hne : g ≠ p) :
    (binOp .eql 26 (.iface 41 (.pointer (some ⟨g, 0, none⟩))) (.iface 41 (.pointer (some ⟨p, 0, none⟩)))).run Tryd.prog w = .ok (.bool false) w := by
  obtain ⟨i, hi, hic⟩ := Option.map_eq_some_iff.1 (show (Tryd.prog.info? 41).map (·.comparable) = some true by kernel_rfl)
  obtain ⟨j, hj, hjs⟩ := Option.map_eq_some_iff.1 (show (Tryd.prog.info? 46).map (·.size) = some 3 by kernel_rfl)
  exact run_eql_iface_ptr_other (P := Tryd.prog) w (a := ⟨g, 0, none⟩) (b := ⟨p, 0, none⟩) Tryd.underlying26 Tryd.underlying41 hi hic hj (by omega) (fun h => hne (congrArg Addr.block h)) hg hp
theorem eql_same (p : Nat) (w : World) : (binOp .eql 26 (.iface 41 (.pointer (some ⟨p, 0, none⟩))) (.iface 41 (.pointer (some ⟨p, 0, none⟩)))).run Tryd.prog w = .ok (.bool true) w := by
  obtain ⟨i, hi, hic⟩ := Option.map_eq_some_iff.1 (show (Tryd.prog.info? 41).map (·.comparable) = some true by kernel_rfl)
  obtain ⟨j, hj, _⟩ := Option.map_eq_some_iff.1 (show (Tryd.prog.info? 46).map (·.size) = some 3 by kernel_rfl)
  exact run_eql_iface_ptr_same (P := Tryd.prog) w ⟨p, 0, none⟩ Tryd.underlying26 Tryd.underlying41 hi hic hj

set_option maxHeartbeats 1000000 in
set_option maxRecDepth 100000 in
theorem is_two (g p : Nat) (op : ByteArray) (n : Int) (cp : Array Value) (w : World) (hg : w.heap[g]? = some (.cells #[.string op, .int .i64 n, .iface 41 (.pointer (some ⟨p, 0, none⟩))] 46 (0, 0))) (hp : w.heap[p]? = some (.cells cp 46 (0, 0))) (hne : g ≠ p) :
    Calls Tryd.prog 37 #[.iface 41 (.pointer (some ⟨g, 0, none⟩)), .iface 41 (.pointer (some ⟨p, 0, none⟩)), .bool true] w fun r w' => r = .returned (.bool true) ∧ w' = w := by
  have mU := methodUnwrapF
  have n1 := noIsF
  have n2 := hasUnwrapF
  have h1 := eql_other hg hp hne
  have h2 := eql_same p w
  have HU := hide (Unwrap_any g op n _ w hg)
  clear hg hp hne
  go_enter Tryd.func37, Tryd.ntmps37
  go_wp2_with fail
  refine wp_loop_rounds 2 ?_
  rw [rounds_succ]
  go_wp2_with (go_at_call 21; refine HU.out.mono ?_; rintro r w1 ⟨rfl, rfl⟩)
  rw [rounds_succ]
  go_wp2
  go_ret
  exact ⟨rfl, rfl⟩

set_option maxHeartbeats 1000000 in
theorem Is_two (g p : Nat) (op : ByteArray) (n : Int) (cp : Array Value) (w : World) (hg : w.heap[g]? = some (.cells #[.string op, .int .i64 n, .iface 41 (.pointer (some ⟨p, 0, none⟩))] 46 (0, 0))) (hp : w.heap[p]? = some (.cells cp 46 (0, 0))) (hne : g ≠ p) :
    Calls Tryd.prog 22 #[.iface 41 (.pointer (some ⟨g, 0, none⟩)), .iface 41 (.pointer (some ⟨p, 0, none⟩))] w fun r w' => r = .returned (.bool true) ∧ w' = w := by
  have h36 := ext_typeOf
  have tO := typeOfF
  have mC := methodComparable
  have hc := cmpF
  have HI := hide (is_two g p op n cp w hg hp hne)
  clear hg hp hne
  go_enter Tryd.func22, Tryd.ntmps22
  go_wp2_with (go_at_call 37; refine HI.out.mono ?_; rintro r w' ⟨rfl, rfl⟩)
  go_ret
  exact ⟨rfl, rfl⟩

/-- s[1:] -/
theorem Vec.tail {w : World} {B b o c : Nat} {x : Value} {xs : List Value} (h : Vec w B (some ⟨b, o, none⟩) (x :: xs)) (hc : xs.length + 1 ≤ c) :
    Vec w B (if c = 1 then some ⟨b, o, none⟩ else some ⟨b, o + 1, none⟩) xs := fun hn => by
  obtain ⟨b', o', e, hb, hcell⟩ := h (by simp)
  simp only [Option.some.injEq, Addr.mk.injEq, and_true] at e
  obtain ⟨rfl, rfl⟩ := e
  have hpos : 0 < xs.length := List.length_pos_iff.2 hn
  rw [if_neg (by omega)]
  refine ⟨b, o + 1, rfl, hb, fun j u hu => ?_⟩
  have := hcell (j + 1) u (by simpa using hu)
  rw [Nat.add_assoc, Nat.add_comm 1 j]
  exact this

set_option maxHeartbeats 1000000 in
theorem Wraps_out (A : Option Addr) (n c : Nat) (l : List Pl) (code at_ : Int) (op : ByteArray) (w : World) (hty : Ety w) (hl : l.length = n) (hp : Pls w w.heap.size A l) (hf : Fit l) (hno : ¬ Few l ∨ 200 < op.size ∨ code = 0) :
    Calls Tryd.prog 7 #[.slice A n c, .int .i64 code, .string op, .int .i64 at_] w fun e w' => e = .returned (.bool true) ∧ Below w.heap.size w w' := by
  have HA := hide (awake_any w hty)
  have HF := hide fun (w1 : World) (hb : Below w.heap.size w w1) => few_any A n c l w1 hl ((hp.below hb).more hb.size) hf
  have HA2 := hide fun (w1 : World) (hb : Below w.heap.size w w1) => awake_any w1 (hty.below hb hty.lt)
  have Hno := hide hno
  clear hty hl hp hf hno
  go_enter Tryd.func7, Tryd.ntmps7
  go_wp2_with fail
  refine HA.out.mono ?_
  rintro r w1 ⟨rfl, hb1⟩
  go_wp2_with fail
  refine (HF.out w1 hb1).mono ?_
  rintro r w2 ⟨⟨b, rfl, hb⟩, rfl⟩
  have HB := hide hb1
  have Hb := hide hb
  have HA3 := hide (HA2.out w2 hb1)
  clear hb hb1 HA HF HA2
  cases b with
  | false =>
    go_wp2_with fail
    refine HA3.out.mono ?_
    rintro r w3 ⟨rfl, hb3⟩
    have HB3 := hide (HB.out.trans (hb3.mono HB.out.size))
    clear hb3
    go_wp2
    go_ret
    exact ⟨rfl, HB3.out⟩
  | true =>
    by_cases hs : 200 < op.size
    · go_wp2_with fail
      refine HA3.out.mono ?_
      rintro r w3 ⟨rfl, hb3⟩
      have HB3 := hide (HB.out.trans (hb3.mono HB.out.size))
      clear hb3
      go_wp2
      go_ret
      exact ⟨rfl, HB3.out⟩
    · obtain rfl : code = 0 := by
        rcases Hno.out with h | h | h
        · exact absurd (Hb.out.1 rfl) h
        · exact absurd h hs
        · exact h
      have hs' : decide ((200 : Int) < (op.size : Int)) = false := decide_eq_false (by omega)
      go_wp2_with fail
      refine HA3.out.mono ?_
      rintro r w3 ⟨rfl, hb3⟩
      have HB3 := hide (HB.out.trans (hb3.mono HB.out.size))
      clear hb3
      go_wp2
      go_ret
      exact ⟨rfl, HB3.out⟩

end Go.Proofs.YtknnalcnoccleaaDoor.Fa
