/-
  The contracts of fault.Wrap around a number, gate.failed, New, Frozen, Waiting, Known, Freeze, and of all for a nil gate. Nothing but the gate's own block is changed.
-/
import Derived.Laws.Pointers
import Derived.Great.BuildSlice
import Derived.Test.YtjholhmgainbfaaDoorGaMem
namespace Go.Proofs.YtjholhmgainbfaaDoor.Ga
open Go.RowKit
open Pk Dk

theorem eq_num_in (d : Nat) (a b : Int) (w : World) : (Op.equalIn (d + 2) 40 (.iface 58 (.int .i64 a)) (.iface 58 (.int .i64 b))).run Tryd.prog w = .ok (a == b) w := by
  obtain ⟨i, hi, hic⟩ := Option.map_eq_some_iff.1 (show (Tryd.prog.info? 58).map (·.comparable) = some true by kernel_rfl)
  simp [Op.equalIn, run_underlying Tryd.underlying40, run_underlying Tryd.underlying58, typeInfo, hi, hic]
theorem eq_num (a b : Int) (w : World) : (binOp .eql 40 (.iface 58 (.int .i64 a)) (.iface 58 (.int .i64 b))).run Tryd.prog w = .ok (.bool (a == b)) w := by
  have h : (Op.equalIn 10000 40 (.iface 58 (.int .i64 a)) (.iface 58 (.int .i64 b))).run Tryd.prog w = .ok (a == b) w := eq_num_in 9998 a b w
  simp only [binOp]
  simp [Op.equal, Op.maxDepth, h]

set_option maxRecDepth 100000 in
/-- A fault around a number. -/
theorem Wrap_num (op : ByteArray) (n k : Int) (w : World) (hk : (k == 0) = false) :
    Calls Tryd.prog 29 #[.string op, .int .i64 n, .iface 58 (.int .i64 k)] w fun r w' => r = .returned (.iface 72 (.pointer (some ⟨w.heap.size, 0, none⟩))) ∧ w' = w.alloc (.cells #[.string op, .int .i64 n, .iface 58 (.int .i64 k)] 74) := by
  have hq := eq_num k 0
  rw [hk] at hq
  clear hk
  go_enter Tryd.func29, Tryd.ntmps29
  go_wp2
  go_ret
  exact ⟨rfl, rfl⟩

/-- What is returned beside an error: nothing is changed. -/
def Fails (w : World) (r k : Int) (p : Nat) (w' : World) : Prop := Flt w' p r k ∧ Below w.heap.size w w'
set_option maxRecDepth 100000 in
theorem failed_any (r k : Int) (w : World) (hk : (k == 0) = false) :
    Calls Tryd.prog 24 #[.int .i64 r, .int .i64 k] w fun e w' => ∃ p, e = .returned (.iface 72 (.pointer (some ⟨p, 0, none⟩))) ∧ Fails w r k p w' := by
  have HK := hide hk
  clear hk
  go_enter Tryd.func24, Tryd.ntmps24
  go_wp2_with fail
  refine (Wrap_num _ r k w HK.out).mono ?_
  rintro e w' ⟨rfl, hw⟩
  have HF : Hid (Fails w r k w.heap.size w') := by rw [hw]; exact ⟨heap_alloc_new w _, (Below.refl _ _).alloc (Nat.le_refl _) _⟩
  clear hw
  go_wp2
  go_ret
  exact ⟨_, rfl, HF.out⟩

set_option maxRecDepth 100000 in
theorem Known_any (k : Int) (w : World) :
    Calls Tryd.prog 21 #[.int .i64 k] w fun e w' => e = .returned (.bool (k == 1 || (k == 7 || (k == 9 || k == 10)))) ∧ w = w' := by
  by_cases h1 : k = 1
  · subst h1
    go_enter Tryd.func21, Tryd.ntmps21
    go_wp2
    go_ret
    exact ⟨rfl, rfl⟩
  · have q1 : (k == 1) = false := by simpa using h1
    clear h1
    by_cases h7 : k = 7
    · subst h7
      go_enter Tryd.func21, Tryd.ntmps21
      go_wp2
      go_ret
      exact ⟨rfl, rfl⟩
    · have q7 : (k == 7) = false := by simpa using h7
      clear h7
      by_cases h9 : k = 9
      · subst h9
        go_enter Tryd.func21, Tryd.ntmps21
        go_wp2
        go_ret
        exact ⟨rfl, rfl⟩
      · have q9 : (k == 9) = false := by simpa using h9
        clear h9
        by_cases h10 : k = 10
        · subst h10
          go_enter Tryd.func21, Tryd.ntmps21
          go_wp2
          go_ret
          exact ⟨rfl, rfl⟩
        · have q10 : (k == 10) = false := by simpa using h10
          clear h10
          have HQ := hide (show (k == 1 || (k == 7 || (k == 9 || k == 10))) = false by rw [q1, q7, q9, q10]; rfl)
          go_enter Tryd.func21, Tryd.ntmps21
          go_wp2
          go_ret
          exact ⟨by rw [HQ.out]; rfl, rfl⟩

theorem built_new : Tryd.prog.built 35 [] = some (gcs 0 0 noQ 0).toArray := by kernel_rfl
theorem gate_size : (Tryd.prog.info? 35).map (·.size) = some 15 := by kernel_rfl
/-- A block of zeros is an open gate. -/
theorem Gt.fresh {w : World} {g : Nat} (h : w.heap[g]? = some (.cells (gcs 0 0 noQ 0).toArray 35 (0, 0))) : Gt w g 0 0 noQ 0 :=
  ⟨h, rfl, by omega, by omega, by omega, by omega, by omega, fun _ => rfl, fun h => absurd rfl h⟩
theorem wpList_built {P : Program} {ops : Array Oper} {rest : List Oper} {o : Oper} {a : Act} {w : World} {Q : Exit → Act → World → Prop} (hg : o.guard = none) (t : TypeId) (parts : Array (Nat × Operand)) (ho : o.op = .build t parts)
    (cs : Array Value) (hf : P.built t (parts.map fun (i, x) => (i, a.eval x)).toList = some cs) (h : wpList P ops Q rest (a.put o.dst (.agg cs)) w) : wpList P ops Q (o :: rest) a w :=
  wpList_build hg t parts ho (by rw [hf]; rfl) (by rw [hf]; exact h)
/-- A value laid into a new variable, the world behind it under a name of its own. -/
theorem wpList_box_told {P : Program} {ops : Array Oper} {rest : List Oper} {o : Oper} {a : Act} {w : World} {Q : Exit → Act → World → Prop} (hg : o.guard = none) (t : TypeId) (x : Operand) (ho : o.op = .box t x)
    (z : Array Value) (hz : a.eval x = .agg z)
    (h : ∀ w', Hid (w' = w.alloc (.cells z t)) → wpList P ops Q rest (a.put o.dst (.pointer (some ⟨w.heap.size, 0, none⟩))) w') : wpList P ops Q (o :: rest) a w := by
  refine wpList_plain hg fun K hK => ?_
  unfold Oper.wp execOp
  simp only [ho, hz, Sem.run_bind, Instr.box, newVar, newRow, run_newObj_alloc, Sem.run_pure, Result.andThen_ok, Value.cells]
  exact hK _ _ (h _ rfl)

set_option maxRecDepth 100000 in
set_option maxHeartbeats 1000000 in
theorem New_any (w : World) : Calls Tryd.prog 8 #[] w fun e w' => ∃ g, e = .returned (.pointer (some ⟨g, 0, none⟩)) ∧ Gt w' g 0 0 noQ 0 ∧ w.heap.size ≤ g ∧ Below w.heap.size w w' := by
  go_enter Tryd.func8, Tryd.ntmps8
  go_wp2_with (first | refine wpList_built rfl 35 #[] rfl _ built_new ?_ | refine wpList_box_told rfl 35 (.tmp 1) rfl _ rfl ?_)
  intro w1 Hw1
  have HG : Hid (Gt w1 w.heap.size 0 0 noQ 0) := by rw [Hw1.out]; exact Gt.fresh (heap_alloc_new w _)
  have HB : Hid (Below w.heap.size w w1) := by rw [Hw1.out]; exact (Below.refl _ _).alloc (Nat.le_refl _) _
  clear Hw1
  go_wp2
  go_ret
  exact ⟨_, rfl, HG.out, Nat.le_refl _, HB.out⟩

/-! ### Frozen and Waiting -/
set_option maxRecDepth 100000 in
theorem Frozen_nil (w : World) : Calls Tryd.prog 22 #[.pointer none] w fun e w' => e = .returned (.int .i64 0) ∧ w = w' := by
  go_enter Tryd.func22, Tryd.ntmps22
  go_wp2
  go_ret
  exact ⟨rfl, rfl⟩
set_option maxRecDepth 100000 in
theorem Waiting_nil (w : World) : Calls Tryd.prog 23 #[.pointer none] w fun e w' => e = .returned (.int .i64 0) ∧ w = w' := by
  go_enter Tryd.func23, Tryd.ntmps23
  go_wp2
  go_ret
  exact ⟨rfl, rfl⟩
section
variable {w : World} {g n : Nat} {a l : Int} {Q : List Cl}
set_option maxRecDepth 100000 in
theorem Frozen_any (h : Gt w g a l Q n) : Calls Tryd.prog 22 #[.pointer (some ⟨g, 0, none⟩)] w fun e w' => e = .returned (.int .i64 (rnd a l)) ∧ w = w' := by
  have hc0 := h.c0
  have hc1 := h.c1
  unfold rnd
  clear h
  by_cases h0 : l = 0
  · subst h0
    rw [if_pos rfl]
    go_enter Tryd.func22, Tryd.ntmps22
    go_wp2
    go_ret
    exact ⟨rfl, rfl⟩
  · rw [if_neg h0]
    have q0 : (l == 0) = false := by simpa using h0
    clear h0
    go_enter Tryd.func22, Tryd.ntmps22
    go_wp2
    go_ret
    exact ⟨rfl, rfl⟩
set_option maxRecDepth 100000 in
theorem Waiting_any (h : Gt w g a l Q n) : Calls Tryd.prog 23 #[.pointer (some ⟨g, 0, none⟩)] w fun e w' => e = .returned (.int .i64 (n : Int)) ∧ w = w' := by
  have hc := h.c14
  clear h
  go_enter Tryd.func23, Tryd.ntmps23
  go_wp2
  go_ret
  exact ⟨rfl, rfl⟩

/-! ### Freeze -/
set_option maxRecDepth 100000 in
theorem Freeze_nil (r t : Int) (w : World) : Calls Tryd.prog 9 #[.pointer none, .int .i64 r, .int .i64 t] w fun e w' => ∃ p, e = .returned (.iface 72 (.pointer (some ⟨p, 0, none⟩))) ∧ Fails w 0 9 p w' := by
  go_enter Tryd.func9, Tryd.ntmps9
  go_wp2_with fail
  refine (failed_any 0 9 w rfl).mono ?_
  rintro e w' ⟨p, rfl, hf⟩
  have HF := hide hf
  clear hf
  go_wp2
  go_ret
  exact ⟨_, rfl, HF.out⟩
set_option maxRecDepth 100000 in
theorem Freeze_arg (r t : Int) (w : World) (hr : r < 1 ∨ t < 1) : Calls Tryd.prog 9 #[.pointer (some ⟨g, 0, none⟩), .int .i64 r, .int .i64 t] w fun e w' => ∃ p, e = .returned (.iface 72 (.pointer (some ⟨p, 0, none⟩))) ∧ Fails w r 1 p w' := by
  by_cases h1 : r < 1
  · clear hr
    go_enter Tryd.func9, Tryd.ntmps9
    go_wp2_with fail
    refine (failed_any r 1 w rfl).mono ?_
    rintro e w' ⟨p, rfl, hf⟩
    have HF := hide hf
    clear hf
    go_wp2
    go_ret
    exact ⟨_, rfl, HF.out⟩
  · have h2 : t < 1 := by omega
    clear hr
    go_enter Tryd.func9, Tryd.ntmps9
    go_wp2_with fail
    refine (failed_any r 1 w rfl).mono ?_
    rintro e w' ⟨p, rfl, hf⟩
    have HF := hide hf
    clear hf
    go_wp2
    go_ret
    exact ⟨_, rfl, HF.out⟩
set_option maxRecDepth 100000 in
theorem Freeze_stale (h : Gt w g a l Q n) (r t : Int) (hr : 1 ≤ r) (ht : 1 ≤ t) (hn : r ≠ rnd a l) (ha : r ≤ a) :
    Calls Tryd.prog 9 #[.pointer (some ⟨g, 0, none⟩), .int .i64 r, .int .i64 t] w fun e w' => ∃ p, e = .returned (.iface 72 (.pointer (some ⟨p, 0, none⟩))) ∧ Fails w r 10 p w' := by
  have hc0 := h.c0
  have HG := hide h
  have h1 : ¬ r < 1 := by omega
  have h2 : ¬ t < 1 := by omega
  have q : (r == rnd a l) = false := by simpa using hn
  have q' : (r != rnd a l) = true := by simpa using hn
  clear h hn
  go_enter Tryd.func9, Tryd.ntmps9
  go_wp2_with fail
  refine (Frozen_any HG.out).mono ?_
  rintro e w' ⟨rfl, rfl⟩
  go_wp2_with fail
  refine (failed_any r 10 w rfl).mono ?_
  rintro e w' ⟨p, rfl, hf⟩
  have HF := hide hf
  clear hf
  go_wp2
  go_ret
  exact ⟨_, rfl, HF.out⟩
set_option maxRecDepth 100000 in
theorem Freeze_ok (h : Gt w g a l Q n) (r t : Int) (hr : 1 ≤ r) (ht : 1 ≤ t) (hr64 : r ≤ 9223372036854775807) (ht64 : t ≤ 9223372036854775807) (ho : r = rnd a l ∨ a < r) :
    Calls Tryd.prog 9 #[.pointer (some ⟨g, 0, none⟩), .int .i64 r, .int .i64 t] w fun e w' => e = .returned .nilIface ∧ GP w g r t Q n w' := by
  have hc0 := h.c0
  have hc1 := h.c1
  have hf0 := h.frozen 0
  have hf1 := h.frozen 1
  have HG := hide h
  have h1 : ¬ r < 1 := by omega
  have h2 : ¬ t < 1 := by omega
  have HP : Hid (GP w g r t Q n ((w.setCell ⟨g, 0, none⟩ (.int .i64 r)).setCell ⟨g, 1, none⟩ (.int .i64 t))) :=
    ⟨h.set2 r t hr hr64 ht ht64, ((Kept.refl (· = g) w).store (p := ⟨g, 0, none⟩) rfl _).store (p := ⟨g, 1, none⟩) rfl _⟩
  clear h
  by_cases q : r = rnd a l
  · have q1 : (r == rnd a l) = true := by simpa using q
    have q2 : (r != rnd a l) = false := by simpa using q
    clear ho q
    go_enter Tryd.func9, Tryd.ntmps9
    go_wp2_with fail
    refine (Frozen_any HG.out).mono ?_
    rintro e w' ⟨rfl, rfl⟩
    go_wp2
    go_ret
    exact ⟨rfl, HP.out⟩
  · have q1 : (r == rnd a l) = false := by simpa using q
    have q2 : (r != rnd a l) = true := by simpa using q
    have h3 : ¬ r ≤ a := by omega
    clear ho q
    go_enter Tryd.func9, Tryd.ntmps9
    go_wp2_with fail
    refine (Frozen_any HG.out).mono ?_
    rintro e w' ⟨rfl, rfl⟩
    go_wp2
    go_ret
    exact ⟨rfl, HP.out⟩
end

end Go.Proofs.YtjholhmgainbfaaDoor.Ga
