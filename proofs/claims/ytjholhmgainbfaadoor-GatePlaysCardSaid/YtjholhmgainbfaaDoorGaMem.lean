/-
  A gate in memory: its latest round, its ticks, its queue; a slice of calls; the fault that a gate returns. Plain theorems, no premise beyond those in each.
-/
import Derived.Deep.WholeRow
import Derived.Test.YtjholhmgainbfaaDoorDkMem
namespace Go.Proofs.YtjholhmgainbfaaDoor.Dk
open Go.RowKit
theorem Kept.store {w w2 : World} {G : Nat → Prop} (h : Kept G w w2) {p : Addr} (hg : G p.block) (v : Value) : Kept G w (w2.setCell p v) :=
  ⟨h.os, h.tape, h.output, by have := h.size; simpa [World.setCell] using this, fun k hk hn => by rw [heap_setCell_other _ _ _ _ (fun e => hn (by have e' : k = p.block := e; rw [e']; exact hg))]; exact h.block k hk hn⟩
theorem Kept.row {w w2 : World} {G : Nat → Prop} {g : Nat} (h : Kept G w w2) (hg : G g) (cs : Array Value) : Kept G w (w2.setRow g cs) :=
  ⟨h.os, h.tape, h.output, by rw [setRow_size]; exact h.size, fun k hk hn => by rw [setRow_other _ _ _ _ (fun e => hn (by rw [e]; exact hg))]; exact h.block k hk hn⟩
end Go.Proofs.YtjholhmgainbfaaDoor.Dk

namespace Go.Proofs.YtjholhmgainbfaaDoor.Ga
open Go.RowKit
open Pk Dk

/-- A call: Id, Block, Data. -/
structure Cl where
  id : Int
  b : Int
  d : ByteArray
instance : Inhabited Cl := ⟨⟨0, 0, ⟨#[]⟩⟩⟩
def nocl : Cl := ⟨0, 0, ⟨#[]⟩⟩
def ccel (c : Cl) : List Value := [.int .i64 c.id, .int .i64 c.b, .string c.d]
def ccels (Q : List Cl) : List Value := Q.flatMap ccel
theorem ccel_len (Q : List Cl) : ∀ c ∈ Q, (ccel c).length = 3 := fun _ _ => rfl
theorem ccel_one (c : Cl) : ∀ u ∈ ccel c, u.oneCell' = true := by
  intro u hu
  simp [ccel] at hu
  rcases hu with rfl | rfl | rfl <;> rfl
theorem ccels_one (Q : List Cl) : ∀ u ∈ ccels Q, u.oneCell' = true := by
  intro u hu
  obtain ⟨c, _, hc⟩ := List.mem_flatMap.1 hu
  exact ccel_one c u hc
theorem ccels_length (Q : List Cl) : (ccels Q).length = Q.length * 3 := flat_len Q (ccel_len Q)
theorem ccels_take (Q : List Cl) (n : Nat) : ccels (Q.take n) = (ccels Q).take (n * 3) := by
  induction Q generalizing n with
  | nil => simp [ccels]
  | cons a r ih =>
    cases n with
    | zero => simp [ccels]
    | succ n =>
      show ccel a ++ ccels (r.take n) = (ccel a ++ ccels r).take ((n + 1) * 3)
      have hl : (ccel a).length = 3 := rfl
      rw [ih, List.take_append, List.take_of_length_le (l := ccel a) (by rw [hl]; omega), hl, show (n + 1) * 3 - 3 = n * 3 by omega]
/-- A call by value. -/
abbrev cl3 (c : Cl) : Value := .agg #[.int .i64 c.id, .int .i64 c.b, .string c.d]
def noQ : List Cl := [nocl, nocl, nocl, nocl]

/-- A gate's cells: the latest round, the remaining ticks, the queue, how many wait. -/
def gcs (a l : Int) (Q : List Cl) (n : Nat) : List Value := .int .i64 a :: .int .i64 l :: (ccels Q ++ [.int .i64 (n : Int)])
theorem gcs_one (a l : Int) (Q : List Cl) (n : Nat) : ∀ u ∈ gcs a l Q n, u.oneCell' = true := by
  intro u hu
  simp only [gcs, List.mem_cons, List.mem_append, List.not_mem_nil, or_false] at hu
  rcases hu with rfl | rfl | hu | rfl
  · rfl
  · rfl
  · exact ccels_one Q u hu
  · rfl
theorem gcs_length {a l : Int} {Q : List Cl} {n : Nat} (h : Q.length = 4) : (gcs a l Q n).length = 15 := by simp [gcs, ccels_length, h]
theorem gcs_last {a l : Int} {Q : List Cl} {n : Nat} (h : Q.length = 4) : (gcs a l Q n)[14]? = some (.int .i64 (n : Int)) := by
  show (ccels Q ++ [Value.int .i64 (n : Int)])[12]? = _
  rw [List.getElem?_append_right (by rw [ccels_length, h]; exact Nat.le_refl _), ccels_length, h]
  rfl

/-- What is known of the block alone. -/
structure Bx (w : World) (g : Nat) (a l : Int) (Q : List Cl) (n : Nat) : Prop where
  box : w.heap[g]? = some (.cells (gcs a l Q n).toArray 35 (0, 0))
  len : Q.length = 4
  few : n ≤ 4
  a0 : 0 ≤ a
  a64 : a ≤ 9223372036854775807
structure Gt (w : World) (g : Nat) (a l : Int) (Q : List Cl) (n : Nat) : Prop where
  box : w.heap[g]? = some (.cells (gcs a l Q n).toArray 35 (0, 0))
  len : Q.length = 4
  few : n ≤ 4
  a0 : 0 ≤ a
  l0 : 0 ≤ l
  a64 : a ≤ 9223372036854775807
  l64 : l ≤ 9223372036854775807
  idle : l = 0 → n = 0
  on : l ≠ 0 → 1 ≤ a
/-- The round for which it is frozen, or 0. -/
def rnd (a l : Int) : Int := if l = 0 then 0 else a
/-- What a call on a gate leaves: the gate, all else as it was. -/
structure GP (w : World) (g : Nat) (a l : Int) (Q : List Cl) (n : Nat) (w' : World) : Prop where
  gate : Gt w' g a l Q n
  kept : Kept (· = g) w w'

section
variable {w w' w2 : World} {g n : Nat} {a l a' l' : Int} {Q Q' : List Cl} {n' : Nat}
theorem Bx.lt (h : Bx w g a l Q n) : g < w.heap.size := (Array.getElem?_eq_some_iff.1 h.box).1
theorem Bx.cell (h : Bx w g a l Q n) (j : Nat) (v : Value) (hv : (gcs a l Q n)[j]? = some v) : w.cell? ⟨g, j, none⟩ = some v := by
  rw [cell_of_row w g j _ _ _ h.box]
  simpa using hv
theorem Bx.c0 (h : Bx w g a l Q n) : w.cell? ⟨g, 0, none⟩ = some (.int .i64 a) := h.cell 0 _ rfl
theorem Bx.c1 (h : Bx w g a l Q n) : w.cell? ⟨g, 1, none⟩ = some (.int .i64 l) := h.cell 1 _ rfl
theorem Bx.c14 (h : Bx w g a l Q n) : w.cell? ⟨g, 14, none⟩ = some (.int .i64 (n : Int)) := h.cell 14 _ (gcs_last h.len)
theorem Bx.frozen (h : Bx w g a l Q n) (j : Nat) : w.frozen? ⟨g, j, none⟩ = false := by
  have h' := h.box
  simp [World.frozen?, h']
theorem Bx.queue (h : Bx w g a l Q n) : ∀ j u, (ccels (Q.take n))[j]? = some u → w.cell? ((⟨g, 2, none⟩ : Addr).add j) = some u := by
  intro j u hu
  rw [Addr.add_mid]
  refine h.cell (2 + j) u ?_
  rw [ccels_take, List.getElem?_take] at hu
  split at hu
  · rename_i hj
    show (Value.int .i64 a :: Value.int .i64 l :: (ccels Q ++ [Value.int .i64 (n : Int)]))[2 + j]? = _
    rw [show 2 + j = j + 1 + 1 by omega, List.getElem?_cons_succ, List.getElem?_cons_succ, List.getElem?_append_left (by have := (List.getElem?_eq_some_iff.1 hu).1; exact this)]
    exact hu
  · cases hu
theorem Gt.bx (h : Gt w g a l Q n) : Bx w g a l Q n := ⟨h.box, h.len, h.few, h.a0, h.a64⟩
theorem Gt.lt (h : Gt w g a l Q n) : g < w.heap.size := h.bx.lt
theorem Gt.below (h : Gt w g a l Q n) (hb : Below w.heap.size w w') : Gt w' g a l Q n := { h with box := (hb.block g h.lt).trans h.box }
theorem Gt.c0 (h : Gt w g a l Q n) : w.cell? ⟨g, 0, none⟩ = some (.int .i64 a) := h.bx.c0
theorem Gt.c1 (h : Gt w g a l Q n) : w.cell? ⟨g, 1, none⟩ = some (.int .i64 l) := h.bx.c1
theorem Gt.c14 (h : Gt w g a l Q n) : w.cell? ⟨g, 14, none⟩ = some (.int .i64 (n : Int)) := h.bx.c14
theorem Gt.frozen (h : Gt w g a l Q n) (j : Nat) : w.frozen? ⟨g, j, none⟩ = false := h.bx.frozen j
theorem GP.refl (h : Gt w g a l Q n) : GP w g a l Q n w := ⟨h, Kept.refl _ _⟩
theorem GP.of_below (h : Gt w g a l Q n) (hb : Below w.heap.size w w') : GP w g a l Q n w' := ⟨h.below hb, Kept.of_below hb⟩
theorem GP.trans (h : GP w g a l Q n w') (k : GP w' g a' l' Q' n' w2) : GP w g a' l' Q' n' w2 := ⟨k.gate, h.kept.trans (Grew.refl _ _) k.kept⟩
theorem GP.below (h : GP w g a l Q n w') {B : Nat} (hB : B ≤ g) (hw : B ≤ w.heap.size) : Below B w w' := h.kept.below (fun k hk => by rw [hk]; exact hB) hw
/-- The round and the ticks stored. -/
theorem Gt.set2 (h : Gt w g a l Q n) (a' l' : Int) (ha : 1 ≤ a') (ha64 : a' ≤ 9223372036854775807) (hl : 1 ≤ l') (hl64 : l' ≤ 9223372036854775807) : Gt ((w.setCell ⟨g, 0, none⟩ (.int .i64 a')).setCell ⟨g, 1, none⟩ (.int .i64 l')) g a' l' Q n :=
  { h with
    box := by rw [heap_setCell_same _ g 1 _ _ _ (heap_setCell_same w g 0 _ _ _ h.box)]; rfl
    a0 := by omega
    a64 := ha64
    l0 := by omega
    l64 := hl64
    idle := fun e => by omega
    on := fun _ => ha }
/-- The ticks stored. -/
theorem Gt.tick (h : Gt w g a l Q n) (l' : Int) (hl : 1 ≤ l') (hl64 : l' ≤ 9223372036854775807) (hl1 : l ≠ 0) : Gt (w.setCell ⟨g, 1, none⟩ (.int .i64 l')) g a l' Q n :=
  { h with
    box := by rw [heap_setCell_same _ g 1 _ _ _ h.box]; rfl
    l0 := by omega
    l64 := hl64
    idle := fun e => by omega
    on := fun _ => h.on hl1 }
end

/-! ### Slices of calls, and the fault -/
/-- Calls in a slice of one's own. -/
def Rowq (w : World) (base : Nat) (v : Value) (L : List Cl) : Prop := w.ownsRow base 32 3 v L.length (ccels L)
theorem Rowq.nil (w : World) (base : Nat) : Rowq w base (.slice none 0 0) [] := World.ownsRow_nil _ _ _ _
theorem Rowq.form {w : World} {base : Nat} {v : Value} {L : List Cl} (h : Rowq w base v L) :
    ∃ A c, v = .slice A L.length c ∧ L.length ≤ c ∧ c ≤ maxLen ∧ (0 < L.length → ∃ b, A = some ⟨b, 0, none⟩ ∧ base ≤ b ∧ b < w.heap.size ∧ ∀ j x, L[j]? = some x → w.cell? ⟨b, j * 3, none⟩ = some (.int .i64 x.id) ∧ w.cell? ⟨b, j * 3 + 1, none⟩ = some (.int .i64 x.b) ∧ w.cell? ⟨b, j * 3 + 2, none⟩ = some (.string x.d)) := by
  obtain ⟨A, c, rfl, h1, h2, h3⟩ := row_form h
  refine ⟨A, c, rfl, h1, h2, fun h0 => ?_⟩
  obtain ⟨b, rfl, hob, hlt, hr⟩ := h3 h0
  refine ⟨b, rfl, (World.ownsRow.lt h b hob).1, hlt, fun j x hx => ?_⟩
  have hp := range_piece hr (ccel_len L) hx
  exact ⟨hp 0 _ rfl, hp 1 _ rfl, hp 2 _ rfl⟩

def nam : ByteArray := ⟨#[103, 97, 116, 101]⟩
/-- The fault gate, r, around the number k, at a block. -/
def Flt (w : World) (p : Nat) (r k : Int) : Prop := w.heap[p]? = some (.cells #[.string nam, .int .i64 r, .iface 58 (.int .i64 k)] 74 (0, 0))
theorem Flt.lt {w : World} {p : Nat} {r k : Int} (h : Flt w p r k) : p < w.heap.size := (Array.getElem?_eq_some_iff.1 h).1
theorem Flt.below {w w' : World} {p : Nat} {r k : Int} (h : Flt w p r k) (hb : Below w.heap.size w w') : Flt w' p r k := (hb.block p h.lt).trans h

end Go.Proofs.YtjholhmgainbfaaDoor.Ga
