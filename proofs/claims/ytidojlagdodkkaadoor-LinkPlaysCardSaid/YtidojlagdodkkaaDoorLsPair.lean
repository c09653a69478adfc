/-
  Both links side by side, and a variable of the statement's own: what each call leaves of them. Nothing that was there before is changed.
-/
import Derived.Deep.WholeRow
import Derived.Test.YtidojlagdodkkaaDoorLkErrD
import Derived.Test.YtidojlagdodkkaaDoorLkOp
import Derived.Test.YtidojlagdodkkaaDoorLiAwake
import Derived.Test.YtidojlagdodkkaaDoorLsRef
namespace Go.Proofs.YtidojlagdodkkaaDoor.Ls
open Go.RowKit
open Pk Dk Wn Lk

/-- A variable of the call's own. -/
structure Box (ty : TypeId) (b : Nat) (cs : List Value) (w : World) (G : Nat → Prop) : Prop where
  box : w.heap[b]? = some (.cells cs.toArray ty (0, 0))
  lt : ∀ k, G k → k < w.heap.size
  mine : G b
theorem Box.kept {ty : TypeId} {b : Nat} {cs : List Value} {w w' : World} {G K : Nat → Prop} (h : Box ty b cs w G) (hk : Kept K w w') (hd : ∀ k, G k → ¬ K k) : Box ty b cs w' G :=
  ⟨(hk.block b (h.lt b h.mine) (hd b h.mine)).trans h.box, fun k hk2 => Nat.lt_of_lt_of_le (h.lt k hk2) hk.size, h.mine⟩
def boxT (ty : TypeId) (b : Nat) (cs : List Value) : Thg := ⟨Box ty b cs, fun h hk hd => Box.kept h hk hd, fun h => h.lt⟩
theorem Box.cell {ty : TypeId} {b : Nat} {cs : List Value} {w : World} {G : Nat → Prop} (h : Box ty b cs w G) (j : Nat) : w.cell? ⟨b, j, none⟩ = cs[j]? := by
  rw [cell_of_row w b j _ _ _ h.box]
  simp
/-- A new variable of zeros, the world behind it under a name of its own. -/
theorem wpList_alloc_told {P : Program} {ops : Array Oper} {rest : List Oper} {o : Oper} {a : Act} {w : World} {Q : Exit → Act → World → Prop} (hg : o.guard = none) (t : TypeId) (ho : o.op = .alloc t)
    (z : Array Value) (hz : (P.info? t).map (·.zero) = some (some (.agg z)))
    (h : ∀ w', Hid (w' = w.alloc (.cells z t)) → wpList P ops Q rest (a.put o.dst (.pointer (some ⟨w.heap.size, 0, none⟩))) w') : wpList P ops Q (o :: rest) a w := by
  refine wpList_plain hg fun K hK => ?_
  cases hq : P.info? t with
  | none => simp [hq] at hz
  | some i =>
    have hz' : i.zero = some (.agg z) := by simpa [hq] using hz
    have hrun : (zeroValue t).run P w = .ok (.agg z) w := by simp [zeroValue, typeInfo, hq, hz']
    unfold Oper.wp execOp
    simp only [ho, Sem.run_bind, Instr.alloc, newVar, newRow, run_newObj_alloc, Sem.run_pure, Result.andThen_ok, hrun, Value.cells]
    exact hK _ _ (h _ rfl)
/-- A whole block written anew, likewise. -/
theorem wpList_store_told {P : Program} {ops : Array Oper} {rest : List Oper} {o : Oper} {a : Act} {w : World} {Q : Exit → Act → World → Prop} (hg : o.guard = none) (ty : TypeId) (x y : Operand) (ho : o.op = .store ty x y)
    (b : Nat) (cs : Array Value) (hx : a.eval x = .pointer (some ⟨b, 0, none⟩)) (hy : a.eval y = .agg cs) (old : Array Value) (hb : w.heap[b]? = some (.cells old ty (0, 0)))
    (hi : (P.info? ty).map (·.size) = some cs.size) (hs : old.size = cs.size) (h1 : cs.all (·.oneCell') = true)
    (h : ∀ w', Hid (w' = w.setRow b cs) → wpList P ops Q rest (a.put o.dst undef) w') : wpList P ops Q (o :: rest) a w := by
  refine wpList_plain hg fun K hK => ?_
  have hrun := run_storeVar_row (P := P) w b ty ty old cs hb hi hs h1
  unfold Oper.wp execOp
  simp only [ho, hx, hy, Instr.storeAt, Instr.sureAddr, Sem.run_bind, hrun, Sem.run_pure, Result.andThen_ok]
  exact hK _ _ (h _ rfl)
theorem op_size : (Tryd.prog.info? 30).map (·.size) = some 4 := by kernel_rfl
theorem op_zero : (Tryd.prog.info? 30).map (·.zero) = some (some (.agg #[.int .i64 0, .int .i64 0, .string ⟨#[]⟩, .bool false])) := by kernel_rfl
theorem op_one (o : Oq) : (#[.int .i64 o.kind, .int .i64 o.n, .string o.s, .bool o.on] : Array Value).all (·.oneCell') = true :=
  all_oneCell_toArray (cs := [.int .i64 o.kind, .int .i64 o.n, .string o.s, .bool o.on]) (fun u hu => by
    simp at hu
    rcases hu with rfl | rfl | rfl | rfl <;> rfl)
abbrev opT (b : Nat) (o : Oq) : Thg := boxT 30 b (ocel o)
/-- The link, the document's own, and the Op of this round. -/
abbrev PL (p q R : Nat) (L : List ByteArray) (C : Bool) (L' : List ByteArray) (C' : Bool) (Us : List Thg) : List Thg := lnkT p L R C :: rlkT q L' R C' :: Us
section
variable {w0 w w' : World} {Us : List Thg} {p q R : Nat} {L L' : List ByteArray} {C C' : Bool} {b : Nat} {o : Oq}
theorem P_drop (h : St w0 (PL p q R L C L' C' Us) w) : St w0 (PL p q R L C L' C' []) w := St.weaken (Us := Us) h
theorem P_lens (h : St w0 (PL p q R L C L' C' Us) w) : L.length ≤ R ∧ R ≤ 4096 := lens h (i := 0) rfl
/-- The Op of this round is laid. -/
theorem P_lay {z : Array Value} (h : St w0 (PL p q R L C L' C' []) w) (o : Oq) {b : Nat} {w5 w6 : World} (hb : b = w.heap.size) (h5 : w5 = w.alloc (.cells z 30))
    (h6 : w6 = w5.setRow b #[.int .i64 o.kind, .int .i64 o.n, .string o.s, .bool o.on]) : St w0 (PL p q R L C L' C' [opT b o]) w6 := by
  subst h5 h6 hb
  have hb2 : Below w.heap.size w ((w.alloc (.cells z 30)).setRow w.heap.size #[.int .i64 o.kind, .int .i64 o.n, .string o.s, .bool o.on]) := below_setRow ((Below.refl _ _).alloc (Nat.le_refl _) _) (Nat.le_refl _) _
  exact St.add h hb2 (T := opT w.heap.size o) (G := fun k => k = w.heap.size) ⟨setRow_heap _ _ _ _ _ _ (heap_alloc_new w _), fun k hk => by rw [hk]; simp, rfl⟩ (fun k hk => by rw [hk]; exact Nat.le_refl _)
theorem P_op (h : St w0 (PL p q R L C L' C' (opT b o :: Us)) w) : w.cell? ⟨b, 0, none⟩ = some (.int .i64 o.kind) ∧ w.cell? ⟨b, 1, none⟩ = some (.int .i64 o.n) ∧ w.cell? ⟨b, 2, none⟩ = some (.string o.s) ∧ w.cell? ⟨b, 3, none⟩ = some (.bool o.on) := by
  obtain ⟨G, hp, _, _⟩ := St.opened h (i := 2) rfl
  exact ⟨Box.cell hp 0, Box.cell hp 1, Box.cell hp 2, Box.cell hp 3⟩
theorem P_ref (h : St w0 (PL p q R L C L' C' Us) w) : ∃ G, RLk q L' R C' w G ∧ ∀ w' U, After U w G w' → St w0 (lnkT p L R C :: U :: Us) w' := by
  obtain ⟨G, hp, _, hs⟩ := St.opened h (i := 1) rfl
  exact ⟨G, hp, hs⟩
/-- The document's cells. -/
theorem P_cells (h : St w0 (PL p q R L C L' C' Us) w) : ∃ A n c, n = L'.length ∧ w.cell? ⟨q, 0, none⟩ = some (.slice A n c) ∧ w.frozen? ⟨q, 2, none⟩ = false ∧ w.cell? ⟨q, 2, none⟩ = some (.bool C') := by
  obtain ⟨G, hp, _⟩ := P_ref h
  obtain ⟨A, n, c, _, hn, _, _, _, c0, _, c2, fz⟩ := hp.cells
  exact ⟨A, n, c, hn, c0, fz 2, c2⟩
theorem P_cut (h : St w0 (PL p q R L C L' C' Us) w) (d : Bool) : St w0 (PL p q R L C L' d Us) (w.setCell ⟨q, 2, none⟩ (.bool d)) := by
  obtain ⟨G, hp, hs⟩ := P_ref h
  exact hs _ _ hp.setc
theorem P_rsendY (h : St w0 (PL p q R L C L' C' Us) w) (x : ByteArray) (hf : L'.length < R) : Calls Tryd.prog 12 #[.pointer (some ⟨q, 0, none⟩), .string x] w fun e w' => e = .returned (.int .i64 0) ∧ St w0 (PL p q R L C (L' ++ [x]) C' Us) w' := by
  obtain ⟨G, hp, hs⟩ := P_ref h
  exact (RSend_ok hp hf x).mono fun e w' ⟨he, hA⟩ => ⟨he, hs _ _ hA⟩
theorem P_rsendN (h : St w0 (PL p q R L C L' C' Us) w) (x : ByteArray) (hf : L'.length = R) : Calls Tryd.prog 12 #[.pointer (some ⟨q, 0, none⟩), .string x] w fun e w' => e = .returned (.int .i64 6) ∧ Below w.heap.size w w' := by
  obtain ⟨G, hp, hs⟩ := P_ref h
  exact RSend_full hp hf x
theorem P_rdropY (h : St w0 (PL p q R L C L' C' Us) w) (i : Nat) (hi : i < L'.length) : Calls Tryd.prog 18 #[.pointer (some ⟨q, 0, none⟩), .int .i64 (i : Int)] w fun e w' => e = .returned (.int .i64 0) ∧ St w0 (PL p q R L C (L'.eraseIdx i) C' Us) w' := by
  obtain ⟨G, hp, hs⟩ := P_ref h
  exact (RDrop_ok hp i hi).mono fun e w' ⟨he, hA⟩ => ⟨he, hs _ _ hA⟩
theorem P_rdropN (h : St w0 (PL p q R L C L' C' Us) w) (i : Int) (hi : i < 0 ∨ (L'.length : Int) ≤ i) : Calls Tryd.prog 18 #[.pointer (some ⟨q, 0, none⟩), .int .i64 i] w fun e w' => e = .returned (.int .i64 5) ∧ Below w.heap.size w w' := by
  obtain ⟨G, hp, hs⟩ := P_ref h
  exact RDrop_none hp i hi
theorem P_rdelC (h : St w0 (PL p q R L C L' true Us) w) (i : Int) : Calls Tryd.prog 14 #[.pointer (some ⟨q, 0, none⟩), .int .i64 i] w fun e w' => e = .returned (.tuple #[.string ⟨#[]⟩, .int .i64 11]) ∧ Below w.heap.size w w' := by
  obtain ⟨G, hp, hs⟩ := P_ref h
  exact RDeliver_cut hp i
theorem P_rdelN (h : St w0 (PL p q R L C L' false Us) w) (i : Int) (hi : i < 0 ∨ (L'.length : Int) ≤ i) : Calls Tryd.prog 14 #[.pointer (some ⟨q, 0, none⟩), .int .i64 i] w fun e w' => e = .returned (.tuple #[.string ⟨#[]⟩, .int .i64 5]) ∧ Below w.heap.size w w' := by
  obtain ⟨G, hp, hs⟩ := P_ref h
  exact RDeliver_none hp i hi
theorem P_rdelY (h : St w0 (PL p q R L C L' false Us) w) (i : Nat) (x : ByteArray) (hi : L'[i]? = some x) : Calls Tryd.prog 14 #[.pointer (some ⟨q, 0, none⟩), .int .i64 (i : Int)] w fun e w' => e = .returned (.tuple #[.string x, .int .i64 0]) ∧ St w0 (PL p q R L C (L'.eraseIdx i) false Us) w' := by
  obtain ⟨G, hp, hs⟩ := P_ref h
  exact (RDeliver_ok hp i x hi).mono fun e w' ⟨he, hA⟩ => ⟨he, hs _ _ hA⟩
theorem P_rdblN (h : St w0 (PL p q R L C L' C' Us) w) (i : Int) (hi : i < 0 ∨ (L'.length : Int) ≤ i) : Calls Tryd.prog 16 #[.pointer (some ⟨q, 0, none⟩), .int .i64 i] w fun e w' => e = .returned (.int .i64 5) ∧ Below w.heap.size w w' := by
  obtain ⟨G, hp, hs⟩ := P_ref h
  exact RDouble_none hp i hi
theorem P_rdblF (h : St w0 (PL p q R L C L' C' Us) w) (i : Nat) (x : ByteArray) (hi : L'[i]? = some x) (hf : L'.length = R) : Calls Tryd.prog 16 #[.pointer (some ⟨q, 0, none⟩), .int .i64 (i : Int)] w fun e w' => e = .returned (.int .i64 6) ∧ Below w.heap.size w w' := by
  obtain ⟨G, hp, hs⟩ := P_ref h
  exact RDouble_full hp i x hi hf
theorem P_rdblY (h : St w0 (PL p q R L C L' C' Us) w) (i : Nat) (x : ByteArray) (hi : L'[i]? = some x) (hf : L'.length < R) : Calls Tryd.prog 16 #[.pointer (some ⟨q, 0, none⟩), .int .i64 (i : Int)] w fun e w' => e = .returned (.int .i64 0) ∧ St w0 (PL p q R L C (L' ++ [x]) C' Us) w' := by
  obtain ⟨G, hp, hs⟩ := P_ref h
  exact (RDouble_ok hp i x hi hf).mono fun e w' ⟨he, hA⟩ => ⟨he, hs _ _ hA⟩
theorem RNew_st {Ts : List Thg} (h : St w0 Ts w) (r : Int) : Calls Tryd.prog 10 #[.int .i64 r] w fun e w' => ∃ p, e = .returned (.pointer (some ⟨p, 0, none⟩)) ∧ Hid (St w0 (Ts ++ [rlkT p [] (cap r) false]) w') := by
  refine (RNew_any r w).mono ?_
  rintro e w' ⟨rfl, hl, hb⟩
  exact ⟨_, rfl, h.add hb (T := rlkT w.heap.size [] (cap r) false) hl (fun k hk => by rw [hk]; exact Nat.le_refl _)⟩
end

end Go.Proofs.YtidojlagdodkkaaDoor.Ls
