/-
  An image in memory, beside its disk, among other things: its cells, what a store leaves; a disk as a thing. The contracts of Sectors, Mark, Busy and Blocks. Nothing that was there is changed by these.
-/
import Derived.Deep.MidRow
import Derived.Deep.WholeRow
import Derived.Laws.StructEq
import Derived.ChangeKeysEq
import Derived.Test.YtnmpckhlpkmojaaGreatDoorImA
import Derived.Laws.Pointers
import Derived.Test.YtnmpckhlpkmojaaGreatDoorThAll

/-
  The blocks by value: thirty-two texts, laid in a row; two of them held one against the other. Plain theorems, for every world.
-/
namespace Go.Proofs.YtnmpckhlpkmojaaGreatDoor.Im
open Go.RowKit
open Pk Sm Fa Rc Dk
open Jn (NumN clampN zer zer_no)

abbrev strs (L : List ByteArray) : List Value := L.map Value.string
theorem strs_one (L : List ByteArray) : ∀ v ∈ strs L, v.oneCell' = true := by
  intro v hv
  simp at hv
  obtain ⟨s, _, rfl⟩ := hv
  rfl
abbrev bval (B : List ByteArray) : Value := .agg (strs B).toArray
theorem blks_size : (Tryz.prog.info? 43).map (·.size) = some 32 := by kernel_rfl
theorem blks_zero : (Tryz.prog.info? 43).map (·.zero) = some (some (.agg (strs emp).toArray)) := by kernel_rfl
theorem row_size : (Tryz.prog.info? 41).map (·.size) = some 8 := by kernel_rfl
theorem row_cells : Tryz.prog.cellsOf 41 = 8 := by kernel_rfl
theorem str_cells : Tryz.prog.cellsOf 9 = 1 := by kernel_rfl
theorem str_info : (Tryz.prog.info? 9).isSome = true := by kernel_rfl
theorem row_info : (Tryz.prog.info? 41).isSome = true := by kernel_rfl
theorem blks_guard : Tryz.prog.eqGuardType Tryz.prog.depth 43 = false := by kernel_rfl

theorem part_str (S : List ByteArray) (i : Nat) (h : i < S.length) (w : World) : (part 9 (strs S).toArray (i * 1)).run Tryz.prog w = .ok (.string (S.getD i ⟨#[]⟩)) w := by
  have hg : (isAgg 9).run Tryz.prog w = .ok false w := by
    unfold isAgg
    rw [Sem.run_bind, run_underlying Tryz.underlying9 w]
    rfl
  have hv : (strs S)[i]? = some (.string (S.getD i ⟨#[]⟩)) := by
    simp [strs, List.getD_eq_getElem?_getD, List.getElem?_eq_getElem h]
  simp only [part, Sem.run_bind, hg, Result.andThen_ok]
  simp [hv]
theorem eqItems_strs (d : Nat) (S O : List ByteArray) (hS : S.length = 8) (hO : O.length = 8) (w : World) : ∀ is : List Nat, (∀ i ∈ is, i < 8) →
    (Op.eqItems (d + 1) 9 1 (strs S).toArray (strs O).toArray is).run Tryz.prog w = .ok (is.all fun i => decide (S.getD i ⟨#[]⟩ = O.getD i ⟨#[]⟩)) w
  | [], _ => by simp [Op.eqItems]
  | i :: is, h => by
    have hi := h i (by simp)
    have ih := eqItems_strs d S O hS hO w is (fun j hj => h j (by simp [hj]))
    have hq : ((S.getD i ⟨#[]⟩).toList == (O.getD i ⟨#[]⟩).toList) = decide (S.getD i ⟨#[]⟩ = O.getD i ⟨#[]⟩) := by
      by_cases e : S.getD i ⟨#[]⟩ = O.getD i ⟨#[]⟩
      · rw [e]; simp
      · rw [decide_eq_false e]
        refine beq_eq_false_iff_ne.2 fun e' => e ?_
        rw [ByteArray.toList_eq, ByteArray.toList_eq] at e'
        rw [← str_of (S.getD i ⟨#[]⟩), ← str_of (O.getD i ⟨#[]⟩), e']
    simp only [Op.eqItems, Sem.run_bind, part_str S i (by omega) w, part_str O i (by omega) w, Result.andThen_ok, run_equalIn_string w d 9 _ _ Tryz.underlying9, List.all_cons, hq]
    cases hb : decide (S.getD i ⟨#[]⟩ = O.getD i ⟨#[]⟩)
    · simp
    · simpa using ih
theorem same_of {n : Nat} {S O : List ByteArray} (hS : S.length = n) (hO : O.length = n) (h : ∀ i, i < n → S.getD i ⟨#[]⟩ = O.getD i ⟨#[]⟩) : S = O := by
  apply List.ext_getElem?
  intro i
  rcases Nat.lt_or_ge i n with hi | hi
  · have := h i hi
    rw [List.getD_eq_getElem?_getD, List.getD_eq_getElem?_getD, List.getElem?_eq_getElem (show i < S.length by omega), List.getElem?_eq_getElem (show i < O.length by omega)] at this
    rw [List.getElem?_eq_getElem (show i < S.length by omega), List.getElem?_eq_getElem (show i < O.length by omega)]
    exact congrArg some this
  · rw [List.getElem?_eq_none (by omega), List.getElem?_eq_none (by omega)]
theorem all_same {S O : List ByteArray} (hS : S.length = 8) (hO : O.length = 8) : ((List.range 8).all fun i => decide (S.getD i ⟨#[]⟩ = O.getD i ⟨#[]⟩)) = decide (S = O) := by
  by_cases h : S = O
  · subst h
    rw [decide_eq_true rfl]
    simp
  · rw [decide_eq_false h, List.all_eq_false]
    apply Classical.byContradiction
    intro hn
    refine h (same_of hS hO fun k hk => ?_)
    apply Classical.byContradiction
    intro e
    exact hn ⟨k, by simp [hk], by rw [decide_eq_true_eq]; exact e⟩
theorem row_equal (d : Nat) (S O : List ByteArray) (hS : S.length = 8) (hO : O.length = 8) (W : World) : (Op.equalIn (d + 2) 41 (.agg (strs S).toArray) (.agg (strs O).toArray)).run Tryz.prog W = .ok (decide (S = O)) W := by
  obtain ⟨i, hi⟩ := Option.isSome_iff_exists.1 str_info
  rw [run_equalIn_array W (d + 1) _ _ Tryz.underlying41 hi, str_cells, eqItems_strs d S O hS hO W _ (by simp), all_same hS hO]
/-- The row i. -/
abbrev rw8 (L : List ByteArray) (i : Nat) : List ByteArray := (L.drop (i * 8)).take 8
theorem rw8_length {L : List ByteArray} (h : L.length = 32) {i : Nat} (hi : i < 4) : (rw8 L i).length = 8 := by
  simp only [rw8, List.length_take, List.length_drop]
  omega
theorem part_row (L : List ByteArray) (i : Nat) (w : World) : (part 41 (strs L).toArray (i * 8)).run Tryz.prog w = .ok (.agg (strs (rw8 L i)).toArray) w := by
  have hg : (isAgg 41).run Tryz.prog w = .ok true w := by
    unfold isAgg
    rw [Sem.run_bind, run_underlying Tryz.underlying41 w]
    rfl
  obtain ⟨j, hj⟩ := Option.isSome_iff_exists.1 row_info
  have hs : (sizeOf 41).run Tryz.prog w = .ok 8 w := by
    have := run_sizeOf w hj
    rw [row_cells] at this
    exact this
  simp only [part, Sem.run_bind, hg, Result.andThen_ok, if_true, hs, Sem.run_pure]
  have he : (strs L).toArray.extract (i * 8) (i * 8 + 8) = (strs (rw8 L i)).toArray := by
    rw [List.extract_toArray, List.extract_eq_take_drop]
    simp [rw8, strs, List.map_take, List.map_drop]
  rw [he]
theorem eqItems_rows (d : Nat) (L M : List ByteArray) (hL : L.length = 32) (hM : M.length = 32) (w : World) : ∀ is : List Nat, (∀ i ∈ is, i < 4) →
    (Op.eqItems (d + 2) 41 8 (strs L).toArray (strs M).toArray is).run Tryz.prog w = .ok (is.all fun i => decide (rw8 L i = rw8 M i)) w
  | [], _ => by simp [Op.eqItems]
  | i :: is, h => by
    have hi := h i (by simp)
    have ih := eqItems_rows d L M hL hM w is (fun j hj => h j (by simp [hj]))
    simp only [Op.eqItems, Sem.run_bind, part_row L i w, part_row M i w, Result.andThen_ok, row_equal d _ _ (rw8_length hL hi) (rw8_length hM hi), List.all_cons]
    cases hb : decide (rw8 L i = rw8 M i)
    · simp
    · simpa using ih
theorem rw8_get (L : List ByteArray) {j : Nat} : (rw8 L (j / 8))[j % 8]? = L[j]? := by
  rw [List.getElem?_take, if_pos (Nat.mod_lt _ (by omega)), List.getElem?_drop, show j / 8 * 8 + j % 8 = j by omega]
theorem all_rows {L M : List ByteArray} (hL : L.length = 32) (hM : M.length = 32) : ((List.range 4).all fun i => decide (rw8 L i = rw8 M i)) = decide (L = M) := by
  by_cases h : L = M
  · subst h
    rw [decide_eq_true rfl]
    simp
  · rw [decide_eq_false h, List.all_eq_false]
    apply Classical.byContradiction
    intro hn
    apply h
    apply List.ext_getElem?
    intro j
    rcases Nat.lt_or_ge j 32 with hj | hj
    · have : rw8 L (j / 8) = rw8 M (j / 8) := by
        apply Classical.byContradiction
        intro e
        exact hn ⟨j / 8, by simp; omega, by rw [decide_eq_true_eq]; exact e⟩
      rw [← rw8_get L, ← rw8_get M, this]
    · rw [List.getElem?_eq_none (by omega), List.getElem?_eq_none (by omega)]
theorem blks_equal (L M : List ByteArray) (hL : L.length = 32) (hM : M.length = 32) (W : World) : (Op.equalIn 10000 43 (bval L) (bval M)).run Tryz.prog W = .ok (decide (L = M)) W := by
  obtain ⟨i, hi⟩ := Option.isSome_iff_exists.1 row_info
  rw [run_equalIn_array W 9999 _ _ Tryz.underlying43 hi, row_cells, eqItems_rows 9997 L M hL hM W _ (by simp), all_rows hL hM]
theorem blks_eql (L M : List ByteArray) (hL : L.length = 32) (hM : M.length = 32) (v : Bool) (hv : decide (L = M) = v) (W : World) :
    (binOp .eql 43 (bval L) (bval M)).run Tryz.prog W = .ok (.bool v) W := by
  rw [run_eql_struct, blks_equal L M hL hM, hv]
  rfl
theorem blks_neq (L M : List ByteArray) (hL : L.length = 32) (hM : M.length = 32) (v : Bool) (hv : (!decide (L = M)) = v) (W : World) :
    (binOp .neq 43 (bval L) (bval M)).run Tryz.prog W = .ok (.bool v) W := by
  rw [run_neq_struct, blks_equal L M hL hM, ← hv]
  rfl
theorem blks_eqg (o : BinOp) (x y : Operand) (L M : List ByteArray) (W : World) :
    (eqGuard o 43 x y (bval L) (bval M)).run Tryz.prog W = .ok () W := run_eqGuard_agg W o _ x y _ _ blks_guard

end Go.Proofs.YtnmpckhlpkmojaaGreatDoor.Im

/-
  The fault that an image returns; the contracts of fault.Wrap around a number, and of image.failed. Nothing that was there is changed.
-/
namespace Go.Proofs.YtnmpckhlpkmojaaGreatDoor.Im
open Go.RowKit
open Pk Sm Fa Dk Wn Lk Rc
open Jn (NumN clampN zer zer_no)

def nam : ByteArray := ⟨#[105, 109, 97, 103, 101]⟩
/-- The fault image, r, around the number k, at a block. -/
def Flt (w : World) (p : Nat) (r k : Int) : Prop := w.heap[p]? = some (.cells #[.string nam, .int .i64 r, .iface 71 (.int .i64 k)] 122 (0, 0))
theorem Flt.lt {w : World} {p : Nat} {r k : Int} (h : Flt w p r k) : p < w.heap.size := (Array.getElem?_eq_some_iff.1 h).1
theorem Flt.below {w w' : World} {p : Nat} {r k : Int} (h : Flt w p r k) (hb : Below w.heap.size w w') : Flt w' p r k := (hb.block p h.lt).trans h
theorem eq_num_in (d : Nat) (a b : Int) (w : World) : (Op.equalIn (d + 2) 31 (.iface 71 (.int .i64 a)) (.iface 71 (.int .i64 b))).run Tryz.prog w = .ok (a == b) w := by
  obtain ⟨i, hi, hic⟩ := Option.map_eq_some_iff.1 (show (Tryz.prog.info? 71).map (·.comparable) = some true by kernel_rfl)
  simp [Op.equalIn, run_underlying Tryz.underlying31, run_underlying Tryz.underlying71, typeInfo, hi, hic]
theorem eq_num (a b : Int) (w : World) : (binOp .eql 31 (.iface 71 (.int .i64 a)) (.iface 71 (.int .i64 b))).run Tryz.prog w = .ok (.bool (a == b)) w := by
  have h : (Op.equalIn 10000 31 (.iface 71 (.int .i64 a)) (.iface 71 (.int .i64 b))).run Tryz.prog w = .ok (a == b) w := eq_num_in 9998 a b w
  simp only [binOp]
  simp [Op.equal, Op.maxDepth, h]

set_option maxRecDepth 100000 in
/-- A fault around a number. -/
theorem Wrap_num (op : ByteArray) (n k : Int) (w : World) (hk : (k == 0) = false) :
    Calls Tryz.prog 48 #[.string op, .int .i64 n, .iface 71 (.int .i64 k)] w fun r w' => r = .returned (.iface 120 (.pointer (some ⟨w.heap.size, 0, none⟩))) ∧ w' = w.alloc (.cells #[.string op, .int .i64 n, .iface 71 (.int .i64 k)] 122) := by
  have hq := eq_num k 0
  rw [hk] at hq
  clear hk
  go_enter Tryz.func48, Tryz.ntmps48
  go_wp2
  go_ret
  exact ⟨rfl, rfl⟩

/-- What is returned beside an error: nothing is changed. -/
def Fails (w : World) (r k : Int) (p : Nat) (w' : World) : Prop := Flt w' p r k ∧ Below w.heap.size w w'
set_option maxRecDepth 100000 in
theorem failed_any (r k : Int) (w : World) (hk : (k == 0) = false) :
    Calls Tryz.prog 29 #[.int .i64 r, .int .i64 k] w fun e w' => ∃ p, e = .returned (.iface 120 (.pointer (some ⟨p, 0, none⟩))) ∧ Fails w r k p w' := by
  have HK := hide hk
  clear hk
  go_enter Tryz.func29, Tryz.ntmps29
  go_wp2_with fail
  refine (Wrap_num _ r k w HK.out).mono ?_
  rintro e w' ⟨rfl, hw⟩
  have HF : Hid (Fails w r k w.heap.size w') := by rw [hw]; exact ⟨heap_alloc_new w _, (Below.refl _ _).alloc (Nat.le_refl _) _⟩
  clear hw
  go_wp2
  go_ret
  exact ⟨_, rfl, HF.out⟩

set_option maxRecDepth 100000 in
/-- The same, and the fault's block is new. -/
theorem failed_new (r k : Int) (w : World) (hk : (k == 0) = false) :
    Calls Tryz.prog 29 #[.int .i64 r, .int .i64 k] w fun e w' => ∃ p, e = .returned (.iface 120 (.pointer (some ⟨p, 0, none⟩))) ∧ (Flt w' p r k ∧ w.heap.size ≤ p) ∧ Below w.heap.size w w' := by
  have HK := hide hk
  clear hk
  go_enter Tryz.func29, Tryz.ntmps29
  go_wp2_with fail
  refine (Wrap_num _ r k w HK.out).mono ?_
  rintro e w' ⟨rfl, hw⟩
  have HF : Hid (Fails w r k w.heap.size w') := by rw [hw]; exact ⟨heap_alloc_new w _, (Below.refl _ _).alloc (Nat.le_refl _) _⟩
  clear hw
  go_wp2
  go_ret
  exact ⟨_, rfl, ⟨HF.out.1, Nat.le_refl _⟩, HF.out.2⟩

end Go.Proofs.YtnmpckhlpkmojaaGreatDoor.Im

namespace Go.Proofs.YtnmpckhlpkmojaaGreatDoor.Im
open Go.RowKit
open Pk Sm Fa Rc Dk Wn Lk
open Jn (NumN clampN zer zer_no)

/-! ### A disk among other things -/
def dskT (q : Nat) (S : List Sec) (L : List Wr) : Thg := ⟨fun w G => Dsk w G q S L, fun h hk hd => Dsk.kept h hk hd, fun h => Dsk.lt h⟩
theorem Dsk.after {w w' : World} {G : Nat → Prop} {q : Nat} {S : List Sec} {L : List Wr} (h : Post w G q S L w') : After (dskT q S L) w G w' := h

/-! ### The cells -/
/-- The turn, the marker, the blocks. -/
def scl (i : Img) : List Value := .int .i64 (i.t : Int) :: .int .i64 (i.m : Int) :: strs i.B
def icl (q : Nat) (i n : Img) (k : Nat) : List Value := .pointer (some ⟨q, 0, none⟩) :: (scl i ++ (scl n ++ [.int .i64 (k : Int)]))
abbrev ics (q : Nat) (i n : Img) (k : Nat) : Array Value := (icl q i n k).toArray
structure Sz (i n : Img) : Prop where
  i : i.B.length = 32
  n : n.B.length = 32
section
variable {q k : Nat} {i n : Img}
theorem scl_length (h : i.B.length = 32) : (scl i).length = 34 := by simp [scl, h]
theorem scl_one (i : Img) : ∀ v ∈ scl i, v.oneCell' = true := by
  intro v hv
  simp only [scl, List.mem_cons] at hv
  rcases hv with rfl | rfl | hv
  · rfl
  · rfl
  · exact strs_one _ v hv
theorem icl_length (z : Sz i n) : (icl q i n k).length = 70 := by simp [icl, scl, z.i, z.n]
theorem icl_now {j : Nat} (z : Sz i n) (hj : j < 34) : (icl q i n k)[1 + j]? = (scl i)[j]? := by
  rw [Nat.add_comm, icl, List.getElem?_cons_succ, List.getElem?_append_left (by rw [scl_length z.i]; exact hj)]
theorem icl_next {j : Nat} (z : Sz i n) (hj : j < 34) : (icl q i n k)[35 + j]? = (scl n)[j]? := by
  rw [show 35 + j = (34 + j) + 1 by omega, icl, List.getElem?_cons_succ, List.getElem?_append_right (by rw [scl_length z.i]; omega), scl_length z.i, show 34 + j - 34 = j by omega, List.getElem?_append_left (by rw [scl_length z.n]; exact hj)]
theorem icl_done (z : Sz i n) : (icl q i n k)[69]? = some (.int .i64 (k : Int)) := by
  rw [show 69 = 68 + 1 by rfl, icl, List.getElem?_cons_succ, List.getElem?_append_right (by rw [scl_length z.i]; omega), scl_length z.i, List.getElem?_append_right (by rw [scl_length z.n]; omega), scl_length z.n]
  rfl
theorem scl_blk {j : Nat} {s : ByteArray} (h : i.B[j]? = some s) : (scl i)[2 + j]? = some (.string s) := by
  rw [show 2 + j = j + 1 + 1 by omega, scl, List.getElem?_cons_succ, List.getElem?_cons_succ, List.getElem?_map, h]
  rfl
theorem icl_set_done (z : Sz i n) (x : Nat) : (icl q i n k).set 69 (.int .i64 (x : Int)) = icl q i n x := by
  rw [show 69 = 68 + 1 by rfl, icl, List.set_cons_succ, List.set_append_right _ _ (by rw [scl_length z.i]; omega), scl_length z.i, List.set_append_right _ _ (by rw [scl_length z.n]; omega), scl_length z.n]
  rfl
theorem icl_set_blk (z : Sz i n) {j : Nat} (hj : j < 32) (s : ByteArray) : (icl q i n k).set (3 + j) (.string s) = icl q ⟨i.t, i.m, i.B.set j s⟩ n k := by
  rw [show 3 + j = (2 + j) + 1 by omega, icl, List.set_cons_succ, List.set_append_left _ _ (by rw [scl_length z.i]; omega)]
  congr 2
  rw [show 2 + j = j + 1 + 1 by omega, scl, List.set_cons_succ, List.set_cons_succ]
  simp [scl, strs, List.map_set]
theorem icl_now_row (z : Sz i n) (x : Img) : (icl q i n k).take 1 ++ (scl x ++ (icl q i n k).drop (1 + (scl x).length)) = icl q x n k ∨ x.B.length ≠ 32 := by
  by_cases h : x.B.length = 32
  · left
    rw [scl_length h, show 1 + 34 = 34 + 1 by rfl]
    simp only [icl, List.take_succ_cons, List.take_zero, List.drop_succ_cons]
    rw [List.drop_append_of_le_length (by rw [scl_length z.i]; omega), List.drop_of_length_le (by rw [scl_length z.i]; omega)]
    simp
  · exact Or.inr h
theorem icl_next_row (z : Sz i n) (x : Img) (h : x.B.length = 32) : (icl q i n k).take 35 ++ (scl x ++ (icl q i n k).drop (35 + (scl x).length)) = icl q i x k := by
  rw [scl_length h, show 35 + 34 = (34 + 34) + 1 by rfl]
  simp only [icl, show (35 : Nat) = 34 + 1 by rfl, List.take_succ_cons, List.drop_succ_cons]
  rw [List.take_append_of_le_length (by rw [scl_length z.i]; omega), List.take_of_length_le (by rw [scl_length z.i]; omega), List.drop_append, List.drop_of_length_le (l := scl i) (by rw [scl_length z.i]; omega), List.nil_append, scl_length z.i, show 34 + 34 - 34 = 34 by rfl,
    List.drop_append, List.drop_of_length_le (l := scl n) (by rw [scl_length z.n]; omega), List.nil_append, scl_length z.n]
  simp
end

/-- An image's block. -/
def IB (w : World) (p q : Nat) (i n : Img) (k : Nat) : Prop := w.heap[p]? = some (.cells (ics q i n k) 79 (0, 0))
abbrev imgT (p q : Nat) (i n : Img) (k : Nat) : Thg := blkT p (ics q i n k) 79
section
variable {w w' : World} {p q k : Nat} {i n : Img}
theorem IB.heap (h : IB w p q i n k) : w.heap[p]? = some (.cells (ics q i n k) 79 (0, 0)) := h
theorem IB.lt (h : IB w p q i n k) : p < w.heap.size := (Array.getElem?_eq_some_iff.1 h).1
theorem IB.below (h : IB w p q i n k) (hb : Below w.heap.size w w') : IB w' p q i n k := (hb.block p h.lt).trans h
theorem IB.drew (h : IB w p q i n k) : IB w.drew p q i n k := h
theorem IB.free (h : IB w p q i n k) (j : Nat) : w.frozen? ⟨p, j, none⟩ = false := blk_free h j
theorem IB.cell (h : IB w p q i n k) (j : Nat) : w.cell? ⟨p, j, none⟩ = (icl q i n k)[j]? := by
  rw [cell_of_row w p j _ _ _ h, List.getElem?_toArray]
theorem IB.disk (h : IB w p q i n k) : w.cell? ⟨p, 0, none⟩ = some (.pointer (some ⟨q, 0, none⟩)) := h.cell 0
theorem IB.turn (h : IB w p q i n k) : w.cell? ⟨p, 1, none⟩ = some (.int .i64 (i.t : Int)) := h.cell 1
theorem IB.mark (h : IB w p q i n k) : w.cell? ⟨p, 2, none⟩ = some (.int .i64 (i.m : Int)) := h.cell 2
theorem IB.blk (h : IB w p q i n k) (z : Sz i n) {j : Nat} {s : ByteArray} (hj : i.B[j]? = some s) : w.cell? ⟨p, 3 + j, none⟩ = some (.string s) := by
  have hl : j < 32 := by have := (List.getElem?_eq_some_iff.1 hj).1; have := z.i; omega
  rw [h.cell, show 3 + j = 1 + (2 + j) by omega, icl_now z (by omega), scl_blk hj]
theorem IB.nturn (h : IB w p q i n k) (z : Sz i n) : w.cell? ⟨p, 35, none⟩ = some (.int .i64 (n.t : Int)) := by
  rw [h.cell, show 35 = 35 + 0 by rfl, icl_next z (by omega)]; rfl
theorem IB.nmark (h : IB w p q i n k) (z : Sz i n) : w.cell? ⟨p, 36, none⟩ = some (.int .i64 (n.m : Int)) := by
  rw [h.cell, show 36 = 35 + 1 by rfl, icl_next z (by omega)]; rfl
theorem IB.nblk (h : IB w p q i n k) (z : Sz i n) {j : Nat} {s : ByteArray} (hj : n.B[j]? = some s) : w.cell? ⟨p, 37 + j, none⟩ = some (.string s) := by
  have hl : j < 32 := by have := (List.getElem?_eq_some_iff.1 hj).1; have := z.n; omega
  rw [h.cell, show 37 + j = 35 + (2 + j) by omega, icl_next z (by omega), scl_blk hj]
theorem IB.done (h : IB w p q i n k) (z : Sz i n) : w.cell? ⟨p, 69, none⟩ = some (.int .i64 (k : Int)) := by rw [h.cell, icl_done z]
theorem IB.blocks (h : IB w p q i n k) (z : Sz i n) : w.rangeAt p 3 (strs i.B) := fun j v hv => by
  rw [List.getElem?_map] at hv
  cases hj : i.B[j]? with
  | none => rw [hj] at hv; cases hv
  | some s => rw [hj] at hv; cases hv; exact h.blk z hj
theorem IB.next (h : IB w p q i n k) (z : Sz i n) : w.rangeAt p 35 (scl n) := fun j v hv => by
  have hl : j < 34 := by have := (List.getElem?_eq_some_iff.1 hv).1; rw [scl_length z.n] at this; exact this
  rw [h.cell, icl_next z hl, hv]
theorem ics_done (z : Sz i n) (x : Nat) : (ics q i n k).setIfInBounds 69 (.int .i64 (x : Int)) = ics q i n x := by
  rw [List.setIfInBounds_toArray, icl_set_done z]
theorem ics_blk (z : Sz i n) {j : Nat} (hj : j < 32) (s : ByteArray) : (ics q i n k).setIfInBounds (3 + j) (.string s) = ics q ⟨i.t, i.m, i.B.set j s⟩ n k := by
  rw [List.setIfInBounds_toArray, icl_set_blk z hj]
theorem Blk.row_set {b : Nat} {cs cs' : Array Value} {ty : TypeId} {G : Nat → Prop} (h : Blk b cs ty w G) : After (blkT b cs' ty) w G (w.setRow b cs') := by
  have hsz : (w.setRow b cs').heap.size = w.heap.size := by simp [World.setRow]
  refine ⟨G, ⟨setRow_heap w b _ _ _ _ h.row, h.own⟩, Grew.refl _ _, ⟨rfl, rfl, rfl, by rw [hsz]; exact Nat.le_refl _, fun j _ hn => setRow_other w b j _ (fun e => hn ((h.own j).2 e))⟩⟩
end
section
variable {w0 w : World} {Ts : List Thg} {j p q k : Nat} {i n : Img}
theorem St.ib (h : St w0 Ts w) (hj : Ts[j]? = some (imgT p q i n k)) : IB w p q i n k := by
  obtain ⟨G, hp, _⟩ := St.opened h hj
  exact Blk.row hp
end

/-! ### What only looks -/
theorem Sectors_any (w : World) : Calls Tryz.prog 27 #[] w fun e w' => e = .returned (.int .i64 66) ∧ w = w' := by
  go_enter Tryz.func27, Tryz.ntmps27
  go_wp2
  go_ret
  exact ⟨rfl, rfl⟩
theorem Mark_any {w : World} {p q k : Nat} {i n : Img} (h : IB w p q i n k) : Calls Tryz.prog 21 #[.pointer (some ⟨p, 0, none⟩)] w fun e w' => e = .returned (.int .i64 (i.m : Int)) ∧ w = w' := by
  have hm := h.mark
  clear h
  go_enter Tryz.func21, Tryz.ntmps21
  go_wp2
  go_ret
  exact ⟨rfl, rfl⟩
theorem Mark_nil (w : World) : Calls Tryz.prog 21 #[.pointer none] w fun e w' => e = .returned (.int .i64 0) ∧ w = w' := by
  go_enter Tryz.func21, Tryz.ntmps21
  go_wp2
  go_ret
  exact ⟨rfl, rfl⟩
theorem Busy_any {w : World} {p q k : Nat} {i n : Img} (h : IB w p q i n k) (z : Sz i n) (d : Bool) (hd : decide (0 < n.t) = d) : Calls Tryz.prog 16 #[.pointer (some ⟨p, 0, none⟩)] w fun e w' => e = .returned (.bool d) ∧ w = w' := by
  have hm := h.nturn z
  have hd' := hide hd
  clear h z hd
  go_enter Tryz.func16, Tryz.ntmps16
  go_wp2
  go_ret
  exact ⟨by rw [← hd'.out]; rfl, rfl⟩
theorem Busy_nil (w : World) : Calls Tryz.prog 16 #[.pointer none] w fun e w' => e = .returned (.bool false) ∧ w = w' := by
  go_enter Tryz.func16, Tryz.ntmps16
  go_wp2
  go_ret
  exact ⟨rfl, rfl⟩
set_option maxHeartbeats 1000000 in
theorem Blocks_any {w : World} {p q k : Nat} {i n : Img} (h : IB w p q i n k) (z : Sz i n) : Calls Tryz.prog 23 #[.pointer (some ⟨p, 0, none⟩)] w fun e w' => e = .returned (bval i.B) ∧ Below w.heap.size w w' := by
  have H := hide h
  have Z := hide z
  clear h z
  go_enter Tryz.func23, Tryz.ntmps23
  go_wp2_with (refine wpList_alloc_told rfl 43 rfl _ blks_zero ?_)
  intro w1 H1
  have B1 := hide (show Below w.heap.size w w1 by rw [H1.out]; exact (Below.refl _ _).alloc (Nat.le_refl _) _)
  have Z1 := hide (show w1.heap[w.heap.size]? = some (.cells (strs emp).toArray 43 (0, 0)) by rw [H1.out]; exact heap_alloc_new w _)
  have HR := hide ((H.out.below B1.out).blocks Z.out)
  have Hl : Hid ((strs i.B).length = 32) := by rw [List.length_map]; exact Z.out.i
  clear H1
  go_wp2_with (first | with_reducible refine wpList_load_mid rfl 43 (.tmp 9) rfl p 3 rfl (strs i.B) _ HR.out Tryz.underlying43 rfl (by rw [blks_size, Hl.out]) ?_ | with_reducible refine wpList_store_row rfl 43 (.tmp 2) (.tmp 10) rfl w.heap.size (strs i.B).toArray rfl rfl 43 _ Z1.out (by rw [blks_size, List.size_toArray, Hl.out]) (by rw [List.size_toArray, List.size_toArray, Hl.out]; simp) (all_oneCell_toArray (strs_one _)) ?_)
  refine bodyPost_ret (v := .agg (strs i.B).toArray) (results_cell_row rfl _ _ w.heap.size 43 _ (0, 0) _ rfl (setRow_heap _ _ _ _ _ _ Z1.out) Tryz.underlying43 rfl (by rw [blks_size, List.size_toArray, Hl.out])) rfl ⟨rfl, below_setRow B1.out (by omega) _⟩

end Go.Proofs.YtnmpckhlpkmojaaGreatDoor.Im
