/-
  A table of markers in memory: a map from volumes to sets of numbers; numbers in a slice. Plain theorems on what is in memory; nothing of a call.
-/
import Derived.Maps.OwnSet
import Derived.Maps.RangeWalk
import Derived.Test.YtenenhhijkjjfaaDoorMkMath
import Derived.Test.YtenenhhijkjjfaaDoorThAll
namespace Go.Proofs.YtenenhhijkjjfaaDoor.Mk
open Go.RowKit Go.Maps
open Pk Dk Wn Lk

/-! ### Numbers in a slice -/
def nums (l : List Int) : List Value := l.map (.int .i64)
theorem nums_len (l : List Int) : (nums l).length = l.length := by simp [nums]
theorem nums_get {l : List Int} {j : Nat} {x : Int} (h : l[j]? = some x) : (nums l)[j]? = some (.int .i64 x) := by simp [nums, h]
theorem app_int : AppTy Tryd.prog 23 3 1 8 := AppTy.of Tryd.underlying23 (by kernel_rfl)
/-- Numbers in a slice that a call made. -/
structure Ints (w : World) (B : Nat) (v : Value) (l : List Int) : Prop where
  row : ORow w 3 1 v l.length (nums l)
  own : ∀ k, v.ownBlock = some k → B ≤ k
theorem Ints.below {w w' : World} {B : Nat} {v : Value} {l : List Int} (h : Ints w B v l) (hb : Below w.heap.size w w') : Ints w' B v l := ⟨h.row.below hb, h.own⟩
theorem Ints.form {w : World} {B : Nat} {v : Value} {l : List Int} (h : Ints w B v l) : ∃ A c, v = .slice A l.length c ∧ l.length ≤ c ∧ c ≤ maxLen ∧ Src w A (nums l) := by
  obtain ⟨A, c, rfl, h1, h2, _⟩ := h.row.form
  exact ⟨A, c, rfl, h1, h2, h.row.src⟩
theorem Src.num {w : World} {A : Option Addr} {l : List Int} {j : Nat} {x : Int} (h : Src w A (nums l)) (hx : l[j]? = some x) : ∃ g o, A = some ⟨g, o, none⟩ ∧ g < w.heap.size ∧ w.cell? ⟨g, o + j, none⟩ = some (.int .i64 x) := by
  obtain ⟨g, o, e, hl, hc⟩ := h (by intro e; have := nums_get hx; rw [e] at this; simp at this)
  exact ⟨g, o, e, hl, hc _ _ (nums_get hx)⟩
/-- A new row beside what was made before the call. -/
structure Made (w0 W : World) (g : Nat) (news : List Value) : Prop where
  src : Src W (some ⟨g, 0, none⟩) news
  bel : Below w0.heap.size w0 W
theorem Made.row {w0 wd : World} (hb : Below w0.heap.size w0 wd) (cs : Array Value) (t : TypeId) : Made w0 (wd.alloc (.cells cs t)) wd.heap.size cs.toList :=
  ⟨fun _ => ⟨_, 0, rfl, by simp, fun j u hj => by rw [cell_of_row _ _ _ _ _ _ (heap_alloc_new wd _)]; simpa using hj⟩, hb.alloc hb.size _⟩

/-! ### A set of numbers -/
theorem int_key : Keyed Tryd.prog 3 := int_keyed Tryd.underlying3
theorem key_wf {x : Int} (h : -9223372036854775808 ≤ x ∧ x ≤ 9223372036854775807) : (Lit.int .i64 x).wf = true := by
  exact WalkArith.wf_i64 h
theorem key_of {x : Int} (h : -9223372036854775808 ≤ x ∧ x ≤ 9223372036854775807) : keyOf Tryd.prog 3 (.int .i64 x) = some (.int .i64 x) := keyOf_int_mk Tryd.underlying3 (key_wf h)
/-- Block b holds a set of just these numbers, of at most n entries. -/
def SetAt (w : World) (b n : Nat) (l : List Int) : Prop := ∃ D : DataW Unit, w.ownsMap Tryd.prog 3 unitElem b n D ∧ ∀ x, Maps.has D (.int .i64 x) = decide (x ∈ l)
theorem owns_same {k : TypeId} {R : Value → Option (DataW Unit × List MemPlace)} {w w' : World} {b n : Nat} {D : DataW Unit} (h : w.ownsMap Tryd.prog k R b n D) (hb : w'.heap[b]? = w.heap[b]?) : w'.ownsMap Tryd.prog k R b n D := by
  obtain ⟨es, clock, h1, h2⟩ := h
  exact ⟨es, clock, hb.trans h1, h2⟩
theorem SetAt.same {w w' : World} {b n : Nat} {l : List Int} (h : SetAt w b n l) (hb : w'.heap[b]? = w.heap[b]?) : SetAt w' b n l := by
  obtain ⟨D, h1, h2⟩ := h
  exact ⟨D, owns_same h1 hb, h2⟩
theorem SetAt.mono {w : World} {b n n' : Nat} {l : List Int} (h : SetAt w b n l) (hn : n ≤ n') : SetAt w b n' l := by
  obtain ⟨D, h1, h2⟩ := h
  exact ⟨D, h1.mono hn, h2⟩
theorem SetAt.lt {w : World} {b n : Nat} {l : List Int} (h : SetAt w b n l) : b < w.heap.size := by
  obtain ⟨D, h1, _⟩ := h
  exact h1.lt
theorem lit_ne {x y : Int} (h : x ≠ y) : Lit.int .i64 x ≠ Lit.int .i64 y := by simpa using h

/-! ### The table -/
/-- How an element of the outer map reads: a set's block. -/
def mapElem : Value → Option (DataW Unit × List MemPlace)
  | .map none => some (.nil, [])
  | .map (some b) => some (.lit (.int .i64 (b : Int)), [])
  | _ => none
def elem : Option Nat → DataW Unit
  | none => .nil
  | some b => .lit (.int .i64 (b : Int))
theorem mapElem_mk (o : Option Nat) : mapElem (.map o) = some (elem o, []) := by cases o <;> rfl
theorem mapElem_inv {v : Value} {o : Option Nat} {ps : List MemPlace} (h : mapElem v = some (elem o, ps)) : v = .map o := by
  unfold mapElem at h
  split at h
  · cases o with
    | none => rfl
    | some b => simp [elem] at h
  · cases o with
    | none => simp [elem] at h
    | some b => simp [elem] at h; obtain ⟨h, _⟩ := h; have := Int.ofNat.inj h; subst this; rfl
  · cases h
/-- What the outer map reads as: at each volume its set's block, or none. -/
def Reads (O : DataW Unit) (F : Int → Option Nat) : Prop := ∀ v, O.atKey (.int .i64 v) .nil = elem (F v)
theorem Reads.put {O : DataW Unit} {F : Int → Option Nat} (h : Reads O F) (hO : Maps.IsMap O) (v : Int) (b : Nat) : Reads (O.put (.int .i64 v) (elem (some b))) (fun u => if u = v then some b else F u) := fun u => by
  by_cases e : u = v
  · subst e
    rw [atKey_put_same hO (show WideAt.IsKeyLit (.int .i64 u) from trivial)]
    simp
  · rw [atKey_put_other (lit_ne e), h u]
    simp [e]
theorem Reads.del {O : DataW Unit} {F : Int → Option Nat} (h : Reads O F) (v : Int) : Reads (O.del (.int .i64 v)) (fun u => if u = v then none else F u) := fun u => by
  by_cases e : u = v
  · subst e
    rw [atKey_del_same]
    simp [elem]
  · rw [atKey_del_other (lit_ne e), h u]
    simp [e]
theorem Reads.none : Reads (.map []) (fun _ => .none) := fun _ => rfl

/-- The table's block p, the outer map mb, and each volume's set, F. -/
structure TblF (p : Nat) (mb : Option Nat) (F : Int → Option Nat) (A : Int → List Int) (n : Nat) (w : World) (G : Nat → Prop) : Prop where
  box : w.heap[p]? = some (.cells #[.map mb] 28 (0, 0))
  mine : G p
  lt : ∀ k, G k → k < w.heap.size
  good : Good A
  bare : mb = none → ∀ v, F v = none
  outer : ∀ bo, mb = some bo → G bo ∧ bo ≠ p ∧ ∃ O, w.ownsMap Tryd.prog 3 mapElem bo n O ∧ Reads O F
  inner : ∀ v b, F v = some b → G b ∧ b ≠ p ∧ some b ≠ mb ∧ SetAt w b n (A v)
  lack : ∀ v, F v = none → A v = []
  inj : ∀ u v b, F u = some b → F v = some b → u = v
section
variable {p n : Nat} {mb : Option Nat} {F : Int → Option Nat} {A : Int → List Int} {w w' : World} {G : Nat → Prop}
theorem TblF.same (h : TblF p mb F A n w G) (hk : ∀ k, G k → w'.heap[k]? = w.heap[k]?) (hs : w.heap.size ≤ w'.heap.size) : TblF p mb F A n w' G where
  box := (hk p h.mine).trans h.box
  mine := h.mine
  lt := fun k hg => Nat.lt_of_lt_of_le (h.lt k hg) hs
  good := h.good
  bare := h.bare
  outer := fun bo e => by
    obtain ⟨h1, h2, O, h3, h4⟩ := h.outer bo e
    exact ⟨h1, h2, O, owns_same h3 (hk bo h1), h4⟩
  inner := fun v b e => by
    obtain ⟨h1, h2, h3, h4⟩ := h.inner v b e
    exact ⟨h1, h2, h3, h4.same (hk b h1)⟩
  lack := h.lack
  inj := h.inj
theorem TblF.kept (h : TblF p mb F A n w G) {K : Nat → Prop} (hk : Kept K w w') (hd : ∀ k, G k → ¬ K k) : TblF p mb F A n w' G := h.same (fun k hg => hk.block k (h.lt k hg) (hd k hg)) hk.size
theorem TblF.below (h : TblF p mb F A n w G) (hb : Below w.heap.size w w') : TblF p mb F A n w' G := h.same (fun k hg => hb.block k (h.lt k hg)) hb.size
theorem TblF.mono (h : TblF p mb F A n w G) {n' : Nat} (hn : n ≤ n') : TblF p mb F A n' w G where
  box := h.box
  mine := h.mine
  lt := h.lt
  good := h.good
  bare := h.bare
  outer := fun bo e => by
    obtain ⟨h1, h2, O, h3, h4⟩ := h.outer bo e
    exact ⟨h1, h2, O, h3.mono hn, h4⟩
  inner := fun v b e => by
    obtain ⟨h1, h2, h3, h4⟩ := h.inner v b e
    exact ⟨h1, h2, h3, h4.mono hn⟩
  lack := h.lack
  inj := h.inj
theorem TblF.cell (h : TblF p mb F A n w G) : w.cell? ⟨p, 0, none⟩ = some (.map mb) := by
  rw [cell_of_row w p 0 _ _ _ h.box]
  rfl
theorem TblF.frozen (h : TblF p mb F A n w G) : w.frozen? ⟨p, 0, none⟩ = false := by
  have h' := h.box
  simp [World.frozen?, h']
end
/-- A table in memory, of whatever blocks. -/
def Tbl (p : Nat) (A : Int → List Int) (n : Nat) (w : World) (G : Nat → Prop) : Prop := ∃ mb F, TblF p mb F A n w G
def tblT (p : Nat) (A : Int → List Int) (n : Nat) : Thg := ⟨Tbl p A n, fun ⟨mb, F, h⟩ hk hd => ⟨mb, F, h.kept hk hd⟩, fun ⟨_, _, h⟩ => h.lt⟩
section
variable {p n : Nat} {A : Int → List Int} {w w' : World} {G : Nat → Prop}
theorem Tbl.good (h : Tbl p A n w G) : Good A := by
  obtain ⟨_, _, h⟩ := h
  exact h.good
theorem Tbl.below (h : Tbl p A n w G) (hb : Below w.heap.size w w') : Tbl p A n w' G := by
  obtain ⟨mb, F, h⟩ := h
  exact ⟨mb, F, h.below hb⟩
/-- A new one. -/
theorem Tbl.fresh (w : World) (n : Nat) : Tbl w.heap.size (fun _ => []) n (w.alloc (.cells #[.map none] 28)) (· = w.heap.size) :=
  ⟨none, fun _ => none, heap_alloc_new w _, rfl, fun k hk => (by rw [hk]; simp), Good.none, fun _ _ => rfl, fun _ e => (by cases e), fun _ _ e => (by cases e), fun _ _ => rfl, fun _ _ _ e => (by cases e)⟩
end

end Go.Proofs.YtenenhhijkjjfaaDoor.Mk
