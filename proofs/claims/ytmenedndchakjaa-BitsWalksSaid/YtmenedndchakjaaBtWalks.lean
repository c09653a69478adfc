/-
  BitsWalks at every slice and number: it returns true, and changes nothing that was there.
-/
import Derived.IntWalk
import Derived.Maps.AppendAt
import Derived.Deep.DeepCutAuto
import Derived.Lib.MinMax
import Derived.Test.YtmenedndchakjaaBtTwo
import Derived.Test.YtmenedndchakjaaBtOrder
namespace Go.Proofs.Ytmenedndchakjaa.Bt
open Go.RowKit Go.Shelf
open Pk Sm

attribute [local go_sem] Oper.semAt_some

def vals {S : BSet} (l : List (On S)) : List Int := l.map fun x => (x.1 : Int)
theorem vals_snoc {S : BSet} (l : List (On S)) (x : On S) : vals (l ++ [x]) = vals l ++ [(x.1 : Int)] := by simp [vals]
theorem vals_length {S : BSet} (l : List (On S)) : (vals l).length = l.length := by simp [vals]
theorem of_ones {S : BSet} (hS : S.length = 8) : of (vals (ones S)) = S := by
  have h := orr_empty hS
  rw [orr, setAll] at h
  rw [of, vals, List.foldl_map]
  exact h
def Asc {S : BSet} (l : List (On S)) : Prop := l.Pairwise fun x y => x.1 < y.1
theorem upto_asc (S : BSet) : ∀ k, Asc (upto S k)
  | 0 => List.Pairwise.nil
  | k + 1 => by
    have ih := upto_asc S k
    by_cases h : S[k]? = some true
    · rw [upto_yes h]
      refine List.pairwise_append.2 ⟨ih, List.pairwise_singleton .., fun x hx y hy => ?_⟩
      rw [List.mem_singleton] at hy
      subst hy
      exact (upto_mem S k x).1 hx
    · rw [upto_no h]; exact ih
theorem asc_prefix {S : BSet} {l : List (On S)} (h : l <+: ones S) : Asc l := (upto_asc S 8).sublist h.sublist
theorem not_asc {S : BSet} {l : List (On S)} {y x : On S} (hy : l.getLast? = some y) (h : x.1 ≤ y.1) : ¬ Asc (l ++ [x]) := fun ha => by
  have := (List.pairwise_append.1 ha).2.2 y (List.mem_of_getLast? hy) x (by simp)
  omega

/-! ### What lies in memory between two rounds -/
structure Bx (bm b4 g5 b6 base most : Nat) (S : BSet) (l : List (On S)) (W : World) : Prop where
  m : Boxed W bm 5 (.int .u8 (most : Int))
  r : Boxed W b4 4 (.bool false)
  s : Lies W g5 S
  v : ∃ v, Boxed W b6 22 v ∧ W.ownsRow base 3 1 v l.length ((vals l).map (Value.int .i64)) ∧ (v = .slice none 0 0 ↔ l = [])
section
variable {bm b4 g5 b6 base most : Nat} {S : BSet} {l : List (On S)} {W W' : World}
theorem boxed_grown {B : Nat} {t : TypeId} {v : Value} {row : Option Nat} (h : Boxed W B t v) (hg : W.grownBy W' row) (hr : ∀ r, row = some r → ∃ o : Obj, W.heap[r]? = some o ∧ o.isCells = false) : Boxed W' B t v :=
  h.kept hg fun e => by
    obtain ⟨o, ho, hc⟩ := hr B e.symm
    rw [show W.heap[B]? = _ from h] at ho
    cases ho
    cases hc
theorem bx_own : Own (fun (l : List (On S)) W => Bx bm b4 g5 b6 base most S l W) := fun l X Y row h hg hr =>
  ⟨boxed_grown h.m hg hr, boxed_grown h.r hg hr, h.s.grown hg hr, holdsRow_own base b6 22 3 1 (fun l : List (On S) => l.length) (fun l => (vals l).map (Value.int .i64)) (fun l v => v = .slice none 0 0 ↔ l = []) l X Y row h.v hg hr⟩
theorem boxed_below {B : Nat} {t : TypeId} {v : Value} (h : Boxed W B t v) (hb : Below W.heap.size W W') : Boxed W' B t v := (hb.block B h.lt).trans h
theorem grown_of_below (hb : Below W.heap.size W W') : W.grownBy W' none := ⟨hb.os, hb.tape, hb.output, hb.size, fun k hk _ => hb.block k hk⟩
theorem ownFrom_block {β : Type} {B D : Nat} {o : Obj} (hD : D < B) : OwnFrom B (fun (_ : β) (W : World) => W.heap[D]? = some o) := fun _ X Y row h hg hr =>
  (hg.block D (Array.getElem?_eq_some_iff.1 h).1 (fun e => by have := (hr D e.symm).1; omega)).trans h
theorem Bx.below (h : Bx bm b4 g5 b6 base most S l W) (hb : Below W.heap.size W W') : Bx bm b4 g5 b6 base most S l W' := by
  obtain ⟨v, hv, hr, hn⟩ := h.v
  refine ⟨boxed_below h.m hb, boxed_below h.r hb, h.s.below hb h.s.lt, v, boxed_below hv hb, hr.kept (grown_of_below hb) ?_, hn⟩
  cases v.ownBlock <;> simp
/-- The same, the slice told by its value. -/
structure Bv (bm b4 g5 b6 base most : Nat) (S : BSet) (l : List (On S)) (v : Value) (W : World) : Prop where
  m : Boxed W bm 5 (.int .u8 (most : Int))
  r : Boxed W b4 4 (.bool false)
  s : Lies W g5 S
  b : Boxed W b6 22 v
  o : W.ownsRow base 3 1 v l.length ((vals l).map (Value.int .i64))
theorem bv_kept {v : Value} {row : Option Nat} (h : Bv bm b4 g5 b6 base most S l v W) (hg : W.grownBy W' row) (hr : ∀ r, row = some r → ∃ o : Obj, W.heap[r]? = some o ∧ o.isCells = false) : Bv bm b4 g5 b6 base most S l v W' := by
  obtain ⟨v', hb, ho, rfl⟩ := holdsRow_own base b6 22 3 1 (fun _ : Unit => l.length) (fun _ => (vals l).map (Value.int .i64)) (fun _ v' => v' = v) () W W' row ⟨v, h.b, h.o, rfl⟩ hg hr
  exact ⟨boxed_grown h.m hg hr, boxed_grown h.r hg hr, h.s.grown hg hr, hb, ho⟩
/-- The blocks lie below N. -/
structure Lo (bm b4 g5 b6 N : Nat) (v : Value) : Prop where
  m : bm < N
  r : b4 < N
  s : g5 < N
  b : b6 < N
  o : ∀ k, v.ownBlock = some k → k < N
theorem Bv.lo {v : Value} (h : Bv bm b4 g5 b6 base most S l v W) : Lo bm b4 g5 b6 W.heap.size v := ⟨h.m.lt, h.r.lt, h.s.lt, h.b.lt, fun k hk => (World.ownsRow.lt h.o k hk).2⟩
theorem Bv.set {v u : Value} {N : Nat} (h : Bv bm b4 g5 b6 base most S l v W) (hl : Lo bm b4 g5 b6 N v) : Bv bm b4 g5 b6 base most S l v (W.setCell ⟨N, 0, none⟩ u) := by
  have hk := fun (B : Nat) (hB : B < N) => heap_setCell_other W ⟨N, 0, none⟩ B u (show B ≠ N by omega)
  refine ⟨(hk _ hl.m).trans h.m, (hk _ hl.r).trans h.r, (hk _ hl.s).trans h.s, (hk _ hl.b).trans h.b, h.o.kept (grownBy_setCell' W N u) ?_⟩
  right
  intro e
  have := hl.o N e
  omega
theorem Bv.below {v : Value} (h : Bv bm b4 g5 b6 base most S l v W) (hb : Below W.heap.size W W') : Bv bm b4 g5 b6 base most S l v W' := by
  refine ⟨boxed_below h.m hb, boxed_below h.r hb, h.s.below hb h.s.lt, boxed_below h.b hb, h.o.kept (grown_of_below hb) ?_⟩
  cases v.ownBlock <;> simp
/-- A region that cannot panic, whatever a panic would owe. -/
def noPanic (Q : Exit → Act → World → Prop) : Exit → Act → World → Prop
  | .panic _, _, _ => False
  | e, a, w => Q e a w
theorem wp_noPanic {P : Program} {c : Code} {Q : Exit → Act → World → Prop} {a : Act} {w : World} (h : c.wp P (noPanic Q) a w) : c.wp P Q a w :=
  Code.wp_mono (fun e a w q => by cases e <;> first | exact q | exact q.elim) h
/-- All that is read at the end: the set, the slice, the count, both marks. -/
structure Fin (bm b4 g5 b6 nb base most : Nat) (N : Int) (S : BSet) (l : List (On S)) (v : Value) (D D2 : Nat) (w W : World) : Prop where
  m : Boxed W bm 5 (.int .u8 (most : Int))
  r : ∃ u, Boxed W b4 4 (.bool u)
  s : Lies W g5 S
  b : Boxed W b6 22 v
  o : W.ownsRow base 3 1 v l.length ((vals l).map (Value.int .i64))
  nn : Boxed W nb 3 (.int .i64 N)
  d1 : W.heap[D]? = some (.deferred (some []))
  d2 : W.heap[D2]? = some (.deferred (some []))
  bel : Below w.heap.size w W
  lo : Lo bm b4 g5 b6 nb v
section
variable {nb D D2 : Nat} {N : Int} {v : Value} {w : World}
theorem Fin.below (h : Fin bm b4 g5 b6 nb base most N S l v D D2 w W) (hb : Below W.heap.size W W') : Fin bm b4 g5 b6 nb base most N S l v D D2 w W' := by
  obtain ⟨u, hu⟩ := h.r
  refine ⟨boxed_below h.m hb, ⟨u, boxed_below hu hb⟩, h.s.below hb h.s.lt, boxed_below h.b hb, h.o.kept (grown_of_below hb) ?_, boxed_below h.nn hb, (hb.block D (Array.getElem?_eq_some_iff.1 h.d1).1).trans h.d1, (hb.block D2 (Array.getElem?_eq_some_iff.1 h.d2).1).trans h.d2, h.bel.trans (hb.mono h.bel.size), h.lo⟩
  cases v.ownBlock <;> simp
theorem box_ne {B B' : Nat} {t t' : TypeId} {v v' : Value} (h : Boxed W B t v) (h' : Boxed W B' t' v') (ht : t ≠ t') : B ≠ B' := by
  rintro rfl
  have := (show W.heap[B]? = _ from h).symm.trans (show W.heap[B]? = _ from h')
  simp at this
  exact ht this.2
theorem Fin.set_r (h : Fin bm b4 g5 b6 nb base most N S l v D D2 w W) (x : Value) (u : Bool) (hx : x = .bool u) (hb : w.heap.size ≤ b4 := by omega) : Fin bm b4 g5 b6 nb base most N S l v D D2 w (W.setCell ⟨b4, 0, none⟩ x) := by
  subst hx
  obtain ⟨u0, hu⟩ := h.r
  have hk := fun (B : Nat) (hB : B ≠ b4) => heap_setCell_other W ⟨b4, 0, none⟩ B (.bool u) hB
  have hs : g5 ≠ b4 := by
    rintro rfl
    have := h.s.heap.symm.trans (show W.heap[g5]? = _ from hu)
    simp at this
  have hd : ∀ k : Nat, W.heap[k]? = some (.deferred (some [])) → k ≠ b4 := fun k hd e => by
    subst e
    rw [show W.heap[k]? = _ from hu] at hd
    cases hd
  refine ⟨(hk _ (box_ne h.m hu (by decide))).trans h.m, ⟨u, hu.set _⟩, (hk _ hs).trans h.s, (hk _ (box_ne h.b hu (by decide))).trans h.b, h.o.kept (grownBy_setCell' W b4 (.bool u)) (.inr ?_), (hk _ (box_ne h.nn hu (by decide))).trans h.nn, (hk _ (hd D h.d1)).trans h.d1, (hk _ (hd D2 h.d2)).trans h.d2, h.bel.setCell (p := ⟨b4, 0, none⟩) hb _, h.lo⟩
  exact (hu.not_row (by decide) h.o).symm
end
theorem Of_slice (A : Option Addr) (l : List Int) (n c : Nat) (w : World) (S : BSet) (hS : of l = S) (hl : l.length = n) (hn : n ≤ 1000) (base : Nat) (h : w.ownsRow base 3 1 (.slice A n c) l.length (l.map (Value.int .i64))) :
    Calls Try.prog 10 #[.slice A n c] w fun e w' => e = .returned (val S) ∧ Below w.heap.size w w' := by
  subst hS
  obtain ⟨A', c', e, hI⟩ := row7_form (show Row7 w base (.slice A n c) l from h)
  injection e with e1 e2 e3
  subst e1
  exact Of_any A l n c w hl hI (by unfold maxLen; omega)
/-- A block of another type is not a slice's own row, nor another variable's box. -/
theorem not_row {B : Nat} {cs : Array Value} {t e : TypeId} (h : W.heap[B]? = some (.cells cs t (0, 0))) (hte : t ≠ e) {size k : Nat} {v : Value} {xs : List Value} (hr : W.ownsRow base e size v k xs) : some B ≠ v.ownBlock := by
  rcases hr.2 with ⟨rfl, _⟩ | ⟨g, cap, cur, rfl, _, hgb, _⟩
  · simp [Value.ownBlock]
  · intro e'
    obtain rfl : B = g := by simpa [Value.ownBlock] using e'
    rw [h] at hgb
    simp at hgb
    exact hte hgb.2
theorem other_box {B B' : Nat} {cs : Array Value} {t t' : TypeId} {v : Value} (h : W.heap[B]? = some (.cells cs t (0, 0))) (hb : Boxed W B' t' v) (ht : t ≠ t') : B ≠ B' := by
  rintro rfl
  rw [show W.heap[B]? = _ from hb] at h
  simp at h
  exact ht h.2.symm
theorem set_other {B B' : Nat} {cs : Array Value} {t : TypeId} {v : Value} (h : W.heap[B]? = some (.cells cs t (0, 0))) (hne : B ≠ B') : (W.setCell ⟨B', 0, none⟩ v).heap[B]? = some (.cells cs t (0, 0)) := (heap_setCell_other W ⟨B', 0, none⟩ B v hne).trans h
theorem Bx.appended {w1 : World} {tmp : Obj} {v v' : Value} {x : On S} (h : Bx bm b4 g5 b6 base most S l W) (hv : Boxed W b6 22 v) (hrow : W.ownsRow base 3 1 v l.length ((vals l).map (Value.int .i64)))
    (hgrow : (W.alloc tmp).grownBy w1 v.ownBlock) (h2 : Boxed (w1.setCell ⟨b6, 0, none⟩ v') b6 22 v') (h3 : (w1.setCell ⟨b6, 0, none⟩ v').ownsRow base 3 1 v' (l.length + 1) ((vals l).map (Value.int .i64) ++ [.int .i64 (x.1 : Int)])) :
    Bx bm b4 g5 b6 base most S (l ++ [x]) (w1.setCell ⟨b6, 0, none⟩ v') := by
  have keep : ∀ {B : Nat} {cs : Array Value} {t : TypeId}, W.heap[B]? = some (.cells cs t (0, 0)) → t ≠ 3 → t ≠ 22 → (w1.setCell ⟨b6, 0, none⟩ v').heap[B]? = some (.cells cs t (0, 0)) := fun {B cs t} hB ht ht' => by
    have hlt : B < W.heap.size := (Array.getElem?_eq_some_iff.1 hB).1
    have ha : (W.alloc tmp).heap[B]? = some (.cells cs t (0, 0)) := (Below.heap_alloc _ _ _ hlt).trans hB
    have h1 : w1.heap[B]? = some (.cells cs t (0, 0)) := (hgrow.block B (by simp; omega) (not_row hB ht hrow)).trans ha
    exact set_other h1 (other_box hB hv ht')
  refine ⟨keep h.m (by decide) (by decide), keep h.r (by decide) (by decide), keep h.s.heap (by decide) (by decide), v', h2, by rw [vals_snoc, List.map_append, List.length_append]; exact h3, ?_⟩
  obtain ⟨g, cap, rfl⟩ := ownsRow_succ h3
  simp
end

set_option maxRecDepth 100000 in
set_option maxHeartbeats 2000000 in
theorem Walks_early (A : Option Addr) (n c most : Nat) (w : World) (hn : n ≤ 9223372036854775807) (h100 : 100 < n) :
    Calls Try.prog 4 #[.slice A n c, .int .u8 (most : Int)] w fun e w' => e = .returned (.bool true) ∧ Below w.heap.size w w' := by
  go_enter Try.func4, Try.ntmps4
  go_wp2_with fail
  refine (awake_any _).mono ?_
  rintro e w1 ⟨rfl, hb1⟩
  have bR := Boxed.new (w.alloc (.cells #[.int .u8 (most : Int)] 5)) 4 (.bool false)
  rw [World.size_alloc] at bR
  have hz1 := hb1.size
  simp only [World.size_alloc] at hz1
  have HB1 := hide ((((Below.refl w.heap.size w).alloc (Nat.le_refl _) _).alloc (by simp) _).trans (hb1.mono (by simp; omega)))
  have HR1 := hide (boxed_below bR hb1)
  clear hb1 bR
  go_wp2_with fail
  refine (awake_any _).mono ?_
  rintro e w2 ⟨rfl, hb2⟩
  have HB2 := hide (HB1.out.trans (hb2.mono (by omega)))
  have HR2 := hide (boxed_below HR1.out hb2)
  have hc2 := HR2.out.cell
  have hf2 := HR2.out.frozen
  clear hb2 HB1 HR1
  go_wp2
  have hc3 := (HR2.out.set (.bool true)).cell
  exact bodyPost_ret (v := .bool true) (by simp [results, Try.f4, go_sem, hc3]) rfl ⟨rfl, HB2.out.setCell (p := ⟨w.heap.size + 1, 0, none⟩) (by show w.heap.size ≤ w.heap.size + 1; omega) _⟩

set_option maxRecDepth 100000 in
set_option maxHeartbeats 4000000 in
theorem Walks_main (A : Option Addr) (xs : List Int) (n c most : Nat) (w : World) (hx : xs.length = n) (hA : Ints w w.heap.size A xs) (hn : n ≤ 100) (hmo : most < 256) :
    Calls Try.prog 4 #[.slice A n c, .int .u8 (most : Int)] w fun e w' => e = .returned (.bool true) ∧ Below w.heap.size w w' := by
  have HX := hide hx
  have HA := hide hA
  clear hx hA
  have bM := Boxed.new w 5 (.int .u8 (most : Int))
  have bR := Boxed.new (w.alloc (.cells #[.int .u8 (most : Int)] 5)) 4 (.bool false)
  rw [World.size_alloc] at bR
  have HM0 := hide (bM.alloc (.cells #[.bool false] 4))
  have HR0 := hide bR
  have HB0 := hide (((Below.refl w.heap.size w).alloc (Nat.le_refl _) (.cells #[.int .u8 (most : Int)] 5)).alloc (by simp) (.cells #[.bool false] 4))
  clear bM bR
  refine (callsIn_wide (n := 9)).1 ?_
  have hro : Fence.wide.round = none := rfl
  refine callsIn_of_wp_marks Try.func4 rfl trivial ?_ hro
  simp only [Try.ntmps4, List.size_toArray, List.length_cons, List.length_nil, Nat.reduceAdd, Nat.reduceSub, Array.replicate_succ, Array.replicate_zero, List.push_toArray, List.append_toArray, List.nil_append, List.cons_append]
  gi_wp2
  refine ⟨trivial, ?_⟩
  refine (callsIn_wide.2 (awake_any _)).mono ?_
  rintro e w1 ⟨rfl, hb1⟩
  have HB1 := hide (HB0.out.trans (hb1.mono (by simp; omega)))
  have HM1 := hide (boxed_below HM0.out hb1)
  have HR1 := hide (boxed_below HR0.out hb1)
  have z1 := HB1.out.size
  have HO1 := hide (Of_any A xs n c w1 HX.out ((HA.out.below HB1.out).more z1) (by unfold maxLen; omega))
  clear hb1 HB0 HM0 HR0
  obtain ⟨S, hS⟩ : ∃ S, of xs = S := ⟨_, rfl⟩
  have HS8 : Hid (S.length = 8) := hide (by rw [← hS]; exact of_length _)
  have Hl : Hid ((bcels S).length = 8) := hide (by rw [bcels_length]; exact HS8.out)
  rw [hS] at HO1
  clear hS
  gi_wp2
  refine ⟨trivial, ?_⟩
  refine (callsIn_wide.2 HO1.out).mono ?_
  rintro e w2 ⟨rfl, hb2⟩
  have HB2 := hide (HB1.out.trans (hb2.mono z1))
  have HM2 := hide (boxed_below HM1.out hb2)
  have HR2 := hide (boxed_below HR1.out hb2)
  have z2 := HB2.out.size
  clear hb2 HB1 HM1 HR1 HO1
  gi_wp2_with (refine wpListIn_alloc_told rfl 28 rfl _ set_zero ?_)
  intro w3 H3
  have E3 := hide (show Lies w3 w2.heap.size empty by rw [H3.out]; exact lies_new w2 empty)
  have HB3 := hide (show Below w.heap.size w w3 by rw [H3.out]; exact HB2.out.alloc z2 _)
  have HM3 := hide (show Boxed w3 w.heap.size 5 (.int .u8 (most : Int)) by rw [H3.out]; exact HM2.out.alloc _)
  have HR3 := hide (show Boxed w3 (w.heap.size + 1) 4 (.bool false) by rw [H3.out]; exact HR2.out.alloc _)
  have hne2 : w.heap.size ≠ w2.heap.size ∧ w.heap.size + 1 ≠ w2.heap.size := by have := HR2.out.lt; omega
  clear H3 HB2 HM2 HR2
  gi_wp2_with (with_reducible refine wpListIn_store_told rfl 28 (.tmp 5) (.tmp 18) rfl w2.heap.size (bcels S).toArray rfl rfl _ E3.out.heap (by rw [set_size, List.size_toArray, Hl.out]) (by rw [List.size_toArray, List.size_toArray, Hl.out, bcels_length, empty_length]) (all_oneCell_toArray (bcels_one _)) ?_)
  intro w4 H4
  have HS4 := hide (show Lies w4 w2.heap.size S by rw [H4.out]; exact E3.out.row)
  have HB4 := hide (show Below w.heap.size w w4 by rw [H4.out]; exact below_setRow HB3.out z2 _)
  have HM4 := hide (show Boxed w4 w.heap.size 5 (.int .u8 (most : Int)) by rw [H4.out]; exact (setRow_other _ _ _ _ hne2.1).trans HM3.out)
  have HR4 := hide (show Boxed w4 (w.heap.size + 1) 4 (.bool false) by rw [H4.out]; exact (setRow_other _ _ _ _ hne2.2).trans HR3.out)
  have z4 := HB4.out.size
  clear H4 HB3 HM3 HR3 E3 hne2
  -- out: a variable of its own
  have HV5 := hide (Boxed.new w4 22 (.slice none 0 0))
  have HS5 := hide (HS4.out.alloc (.cells #[.slice none 0 0] 22))
  have HB5 := hide (HB4.out.alloc z4 (.cells #[.slice none 0 0] 22))
  have HM5 := hide (HM4.out.alloc (.cells #[.slice none 0 0] 22))
  have HR5 := hide (HR4.out.alloc (.cells #[.slice none 0 0] 22))
  have HRg := hide HS5.out.range
  clear HS4 HB4 HM4 HR4
  gi_wp2_with (with_reducible refine wpListIn_load_mid rfl 28 (.tmp 5) rfl w2.heap.size 0 rfl (bcels S) _ HRg.out Try.underlying28 rfl (by rw [set_size, Hl.out]) ?_)
  refine ⟨trivial, ?_⟩
  refine (All_in Fence.wide _ trivial hro S _).mono ?_
  rintro e w' ⟨rfl, rfl⟩
  gi_wp2
  obtain ⟨i0, hi, hz0, hz1, hz2⟩ := info_parts int_info
  have e5 := hide (World.size_alloc w4 (.cells #[.slice none 0 0] 22))
  have L6 := hide (lies_new (w4.alloc (.cells #[.slice none 0 0] 22)) S)
  have I6 : Hid (Bx w.heap.size (w.heap.size + 1) w2.heap.size w4.heap.size w.heap.size most S [] ((w4.alloc (.cells #[.slice none 0 0] 22)).alloc (.cells (bcels S).toArray 28))) :=
    hide ⟨HM5.out.alloc _, HR5.out.alloc _, HS5.out.alloc _, _, HV5.out.alloc _, World.ownsRow_nil _ _ _ _, by simp⟩
  have B6 := hide (HB5.out.alloc (by rw [e5.out]; omega) (.cells (bcels S).toArray 28))
  have z6 : w4.heap.size + 1 < ((w4.alloc (.cells #[.slice none 0 0] 22)).alloc (.cells (bcels S).toArray 28)).heap.size := by simp
  rw [e5.out] at L6
  clear e5 HM5 HR5 HS5 HV5 HB5 HRg
  generalize (w4.alloc (.cells #[.slice none 0 0] 22)).alloc (.cells (bcels S).toArray 28) = W0 at *
  refine wpIn_rangeFunc_ownF hro (by omega) (gf := 29) (lb := #[.pointer (some ⟨w4.heap.size + 1, 0, none⟩)]) rfl trivial (enters_of Try.func29 (by kernel_rfl) rfl)
    (All_stops Fence.wide (9 - 1) trivial hro (by omega) (w4.heap.size + 1) S HS8.out (Below w.heap.size) W0 L6.out) belowK_t (belowK_b (by omega)) (Below.refl _ _) (fun _ => rfl)
    (fun pre W => Bx w.heap.size (w.heap.size + 1) w2.heap.size w4.heap.size w.heap.size most S pre W ∧ Below w.heap.size w W)
    (fun c pre _ => c = .ret ∧ ¬ Asc pre)
    (OwnFrom.and (Own.from bx_own _) (ownFrom_below (Nat.le_refl _) (by omega)))
    (fun _ _ _ _ _ hs _ _ => hs)
    ⟨I6.out, B6.out⟩
    (fun x => { tmps := #[.slice A n c, .int .u8 (most : Int), undef, .pointer (some ⟨w.heap.size, 0, none⟩), .pointer (some ⟨w.heap.size + 1, 0, none⟩), .pointer (some ⟨w2.heap.size, 0, none⟩), .pointer (some ⟨w4.heap.size, 0, none⟩), .int .i64 (x.1 : Int), undef, .bool true, .bool false, .bool false, .slice A n c, .int .i64 (n : Int), .bool (decide ((100 : Int) < (n : Int))), .bool (decide ((100 : Int) < (n : Int))), undef, .slice A n c, val S, .agg (bcels S).toArray, .func (.func 29) #[] #[.pointer (some ⟨w4.heap.size + 1, 0, none⟩)], .int .i64 (x.1 : Int), undef, undef, undef, undef, undef, undef, undef, undef, undef, undef, undef, undef, undef, undef, undef, undef, undef, undef, undef, undef, undef, undef, undef, undef, undef, undef, undef, undef, undef, undef, undef, undef, undef, undef, undef, undef, undef, undef, undef, undef, undef, undef, undef, undef, undef, undef, undef, undef, undef, undef, undef, undef, undef, undef, undef], defers := [] }) ?assign ?body ?done ?stop
  case assign =>
    intro l x W K hK
    gi_wp2
    simpa using hK
  case body =>
    rintro l pre x W ⟨hBx, hB⟩ hlt
    obtain ⟨k, hk⟩ := x
    have hk8 : k < 8 := On.lt HS8.out ⟨k, hk⟩
    have HBx := hide hBx
    have HB := hide hB
    have HBs := hide hB.size
    have HRg := hide hBx.s.range
    clear hBx hB
    gi_wp2_with (with_reducible refine wpListIn_load_mid rfl 28 (.tmp 5) rfl w2.heap.size 0 rfl (bcels S) _ HRg.out Try.underlying28 rfl (by rw [set_size, Hl.out]) ?_)
    refine ⟨trivial, ?_⟩
    refine (CallsIn.inRound l (callsIn_wide.2 (Has_in S k true hk8 hk W))).mono ?_
    rintro e W1 ⟨rfl, hb⟩
    have HBx1 := hide (HBx.out.below hb)
    have HBW := hide (HB.out.trans (hb.mono HBs.out))
    have Hb := hide hb
    clear hb HRg
    obtain ⟨v, hV, hrow, hnil⟩ := HBx1.out.v
    have HV1 := hide hV
    have Hrow := hide hrow
    have hc6 := hV.cell
    have hR4 := HBx1.out.r.cell
    have hF4 := HBx1.out.r.frozen
    clear hV
    rcases hp : pre.getLast? with _ | y
    · obtain rfl : pre = [] := List.getLast?_eq_none_iff.1 hp
      obtain rfl := hnil.2 rfl
      clear hnil hp hrow
      gi_wp2_with (gi_at_builtin; refine wpListIn_append_own _ rfl _ _ 22 rfl w.heap.size 3 i0 (.int .i64 0) 1 8 Try.underlying22 hi hz0 hz1 hz2 rfl (by decide) _ _ _ rfl (Hrow.out.alloc _) ⟨W1.heap.size, 0, none⟩ 1 1 [.int .i64 (k : Int)] rfl rfl (cell_one_new _ _ _) (by simp [Value.oneCell']) (by unfold maxLen; omega) (by omega) (by have := HBW.out.size; simp; omega) ?_; intro v' w9 hown' hgrow _; obtain ⟨g', cap', rfl⟩ := ownsRow_succ hown'; obtain ⟨hv1, hv2, hr2, hk2, hb2⟩ := HV1.out.appended (by decide) Hrow.out HBW.out.size z4 hown' hgrow; have HBx9 := hide (HBx1.out.appended (x := ⟨k, hk⟩) HV1.out Hrow.out hgrow hv2 hr2); have Hk2 := hide hk2; have Hb2 := hide hb2; have hc1 := hv1.cell; have hf1 := hv1.frozen; clear hown' hgrow hv2 hr2 hk2 hb2 hv1)
      exact ⟨(keeps_below Hb.out (Nat.le_refl _)).trans Hk2.out, (Hb.out.mono HBs.out).trans Hb2.out, HBx9.out, HBW.out.trans Hb2.out⟩
    · obtain ⟨m, hm⟩ : ∃ m, pre.length = m + 1 := ⟨pre.length - 1, by
        have h0 : pre ≠ [] := by rintro rfl; simp at hp
        have := List.length_pos_iff.2 h0
        omega⟩
      have hy : pre[m]? = some y := by rw [List.getLast?_eq_getElem?, hm] at hp; exact hp
      have hrow2 := hrow
      rw [hm] at hrow2
      obtain ⟨gq, cp, rfl⟩ := ownsRow_succ hrow2
      have hcl : W1.cell? ⟨gq, m, none⟩ = some (.int .i64 (y.1 : Int)) := by
        rw [World.ownsRow.cellAt hrow2 m (by omega)]
        simp [vals, hy]
      have hmb : m < 8 := by omega
      have Hna := hide (fun (h : k ≤ y.1) => not_asc (x := ⟨k, hk⟩) hp h)
      obtain ⟨yv, hyv⟩ := y
      dsimp only at hcl Hna
      clear hrow hrow2 hnil hp hy hm
      by_cases hlt2 : yv < k
      · have d1 : decide ((k : Int) ≤ (yv : Int)) = false := decide_eq_false (by omega)
        have d2 : decide (k ≤ yv) = false := decide_eq_false (by omega)
        gi_wp2_with (gi_at_builtin; refine wpListIn_append_own _ rfl _ _ 22 rfl w.heap.size 3 i0 (.int .i64 0) 1 8 Try.underlying22 hi hz0 hz1 hz2 rfl (by decide) _ _ _ rfl (Hrow.out.alloc _) ⟨W1.heap.size, 0, none⟩ 1 1 [.int .i64 (k : Int)] rfl rfl (cell_one_new _ _ _) (by simp [Value.oneCell']) (by unfold maxLen; omega) (by omega) (by have := HBW.out.size; simp; omega) ?_; intro v' w9 hown' hgrow _; obtain ⟨g', cap', rfl⟩ := ownsRow_succ hown'; obtain ⟨hv1, hv2, hr2, hk2, hb2⟩ := HV1.out.appended (by decide) Hrow.out HBW.out.size z4 hown' hgrow; have HBx9 := hide (HBx1.out.appended (x := ⟨k, hk⟩) HV1.out Hrow.out hgrow hv2 hr2); have Hk2 := hide hk2; have Hb2 := hide hb2; have hc1 := hv1.cell; have hf1 := hv1.frozen; clear hown' hgrow hv2 hr2 hk2 hb2 hv1)
        exact ⟨(keeps_below Hb.out (Nat.le_refl _)).trans Hk2.out, (Hb.out.mono HBs.out).trans Hb2.out, HBx9.out, HBW.out.trans Hb2.out⟩
      · have d1 : decide ((k : Int) ≤ (yv : Int)) = true := decide_eq_true (by omega)
        have d2 : decide (k ≤ yv) = true := decide_eq_true (by omega)
        gi_wp2
        exact ⟨(keeps_below Hb.out (Nat.le_refl _)).trans (KeepsOthers.setCell _ _ _), rfl, Hna.out (by omega)⟩
  case done =>
    rintro D ys W hD rfl ⟨hBx, hB⟩ hK
    have hDlt : D < W.heap.size := (Array.getElem?_eq_some_iff.1 hK).1
    have hwW := hB.size
    have hbm := hBx.m.lt
    obtain ⟨r, hr⟩ : ∃ r : Nat, r = most % 9 := ⟨_, rfl⟩
    have HrE := hide hr
    have hr8 : r ≤ 8 := by omega
    obtain ⟨v, hv1, hv2, _⟩ := hBx.v
    have J0 : Bv w.heap.size (w.heap.size + 1) w2.heap.size w4.heap.size w.heap.size most S (ones S) v W := ⟨hBx.m, hBx.r, hBx.s, hv1, hv2⟩
    have HLo := hide J0.lo
    have J1 := hide (bv_kept J0 (World.grownBy_alloc W (.cells #[.int .i64 0] 3) none) (fun r e => by cases e))
    clear J0 hv1 hv2
    have N1 := hide (Boxed.new W 3 (.int .i64 0))
    have B1 := hide (hB.alloc hwW (.cells #[.int .i64 0] 3))
    have K1 := hide ((Below.heap_alloc W (.cells #[.int .i64 0] 3) D hDlt).trans hK)
    have HRg := hide J1.out.s.range
    clear hBx hB hK hr
    gi_wp2_with (with_reducible refine wpListIn_load_mid rfl 28 (.tmp 5) rfl w2.heap.size 0 rfl (bcels S) _ HRg.out Try.underlying28 rfl (by rw [set_size, Hl.out]) ?_)
    refine ⟨trivial, ?_⟩
    refine (All_in Fence.wide _ trivial hro S _).mono ?_
    rintro e w' ⟨rfl, rfl⟩
    gi_wp2
    have e5 := hide (World.size_alloc W (.cells #[.int .i64 0] 3))
    have L2 := hide (lies_new (W.alloc (.cells #[.int .i64 0] 3)) S)
    have J2 := hide (bv_kept J1.out (World.grownBy_alloc _ (.cells (bcels S).toArray 28) none) (fun r e => by cases e))
    have N2 := hide (N1.out.alloc (.cells (bcels S).toArray 28))
    have B2 := hide (B1.out.alloc (by rw [e5.out]; omega) (.cells (bcels S).toArray 28))
    have K2 := hide ((Below.heap_alloc (W.alloc (.cells #[.int .i64 0] 3)) (.cells (bcels S).toArray 28) D (by rw [e5.out]; omega)).trans K1.out)
    have y2 : W.heap.size + 1 < ((W.alloc (.cells #[.int .i64 0] 3)).alloc (.cells (bcels S).toArray 28)).heap.size := by simp
    rw [e5.out] at L2
    clear e5 J1 N1 B1 K1 HRg
    generalize (W.alloc (.cells #[.int .i64 0] 3)).alloc (.cells (bcels S).toArray 28) = V0 at *
    refine wpIn_rangeFunc_ownF hro (by omega) (gf := 29) (lb := #[.pointer (some ⟨W.heap.size + 1, 0, none⟩)]) rfl trivial (enters_of Try.func29 (by kernel_rfl) rfl)
      (All_stops Fence.wide (9 - 1) trivial hro (by omega) (W.heap.size + 1) S HS8.out (Below w.heap.size) V0 L2.out) belowK_t (belowK_b (by omega)) (Below.refl _ _) (fun _ => rfl)
      (fun pre V => ((Bv w.heap.size (w.heap.size + 1) w2.heap.size w4.heap.size w.heap.size most S (ones S) v V ∧ Boxed V W.heap.size 3 (.int .i64 (pre.length : Int)) ∧ pre.length ≤ r) ∧ V.heap[D]? = some (.deferred (some []))) ∧ Below w.heap.size w V)
      (fun c pre V => ((Bv w.heap.size (w.heap.size + 1) w2.heap.size w4.heap.size w.heap.size most S (ones S) v V ∧ Boxed V W.heap.size 3 (.int .i64 (pre.length : Int)) ∧ pre.length = r + 1 ∧ c = .exit 2) ∧ V.heap[D]? = some (.deferred (some []))) ∧ Below w.heap.size w V)
      (OwnFrom.and (OwnFrom.and (Own.from (fun s A B row hs hg hr => ⟨bv_kept hs.1 hg hr, boxed_grown hs.2.1 hg hr, hs.2.2⟩) _) (ownFrom_block (by omega))) (ownFrom_below (Nat.le_refl _) (by omega)))
      (fun c => OwnFrom.and (OwnFrom.and (Own.from (fun s A B row hs hg hr => ⟨bv_kept hs.1 hg hr, boxed_grown hs.2.1 hg hr, hs.2.2⟩) _) (ownFrom_block (by omega))) (ownFrom_below (Nat.le_refl _) (by omega)))
      ⟨⟨⟨J2.out, N2.out, Nat.zero_le _⟩, K2.out⟩, B2.out⟩
      (fun x => { tmps := #[.slice A n c, .int .u8 (most : Int), undef, .pointer (some ⟨w.heap.size, 0, none⟩), .pointer (some ⟨w.heap.size + 1, 0, none⟩), .pointer (some ⟨w2.heap.size, 0, none⟩), .pointer (some ⟨w4.heap.size, 0, none⟩), undef, .pointer (some ⟨W.heap.size, 0, none⟩), .bool true, .bool false, .bool false, .slice A n c, .int .i64 (n : Int), .bool (decide ((100 : Int) < (n : Int))), .bool (decide ((100 : Int) < (n : Int))), undef, .slice A n c, val S, .agg (bcels S).toArray, .func (.func 29) #[] #[.pointer (some ⟨w4.heap.size + 1, 0, none⟩)], undef, undef, undef, undef, undef, undef, undef, undef, undef, undef, undef, undef, undef, undef, undef, undef, undef, undef, undef, undef, undef, undef, undef, undef, .agg (bcels S).toArray, .func (.func 29) #[] #[.pointer (some ⟨W.heap.size + 1, 0, none⟩)], .int .i64 (x.1 : Int), undef, undef, undef, undef, undef, undef, undef, undef, undef, undef, undef, undef, undef, undef, undef, undef, undef, undef, undef, undef, undef, undef, undef, undef, undef, undef, undef, undef, undef], defers := [] }) ?assign2 ?body2 ?done2 ?stop2
    case assign2 =>
      intro l x W K hK
      gi_wp2
      trace_state
      simpa using hK
    case body2 =>
      rintro l pre x V ⟨⟨⟨hBx, hN, hle⟩, hKD⟩, hB⟩ hlt
      have HBx := hide hBx
      have HN := hide hN
      have HKD := hide hKD
      have HB := hide hB
      have hcn := hN.cell
      have hfn := hN.frozen
      have hcm := hBx.m.cell
      have hne : ¬ W.heap.size = w.heap.size := by omega
      have hne' : ¬ w.heap.size = W.heap.size := by omega
      clear hBx hN hKD hB
      have HBs := hide (HBx.out.set (u := .int .i64 ((pre.length : Int) + 1)) HLo.out)
      have HNs : Hid (Boxed (V.setCell ⟨W.heap.size, 0, none⟩ (.int .i64 ((pre.length : Int) + 1))) W.heap.size 3 (.int .i64 ((pre ++ [x]).length : Int))) := hide (by
        have := HN.out.set (.int .i64 ((pre.length : Int) + 1))
        rw [List.length_append]
        exact this)
      have HKs := hide ((heap_setCell_other V ⟨W.heap.size, 0, none⟩ D (.int .i64 ((pre.length : Int) + 1)) (show D ≠ W.heap.size by omega)).trans HKD.out)
      gi_wp2
      · have h : (most : Int) % 9 < (pre.length : Int) + 1 := by assumption
        have := HrE.out
        exact ⟨KeepsOthers.setCell _ _ _, ⟨⟨HBs.out, HNs.out, by rw [List.length_append, List.length_singleton]; omega, rfl⟩, HKs.out⟩, HB.out.setCell (p := ⟨W.heap.size, 0, none⟩) hwW _⟩
      · have h : (pre.length : Int) + 1 ≤ (most : Int) % 9 := by assumption
        have := HrE.out
        exact ⟨KeepsOthers.setCell _ _ _, (Below.refl w.heap.size V).setCell (p := ⟨W.heap.size, 0, none⟩) hwW _, ⟨⟨HBs.out, HNs.out, by rw [List.length_append, List.length_singleton]; omega⟩, HKs.out⟩, HB.out.setCell (p := ⟨W.heap.size, 0, none⟩) hwW _⟩
    case done2 =>
      rintro D2 ys V hD2 rfl ⟨⟨⟨hBx, hN, hle⟩, hKD⟩, hB⟩ hK2
      obtain ⟨N, hNe⟩ : ∃ N : Int, ((ones S).length : Int) = N ∧ N = (len S : Int) ∧ N ≤ (r : Int) := ⟨_, rfl, rfl, by omega⟩
      rw [hNe.1] at hN
      replace hNe : (N ≤ (r : Int) ∧ N = (len S : Int)) ∨ (N = (r : Int) + 1 ∧ N ≤ (len S : Int)) := Or.inl ⟨hNe.2.2, hNe.2.1⟩
      obtain ⟨A0, c0, hve, hI⟩ := row7_form (show Row7 V w.heap.size v (vals (ones S)) by unfold Row7; rw [vals_length]; exact hBx.o)
      obtain ⟨q, hq⟩ : ∃ q, (vals (ones S)).length = q := ⟨_, rfl⟩
      rw [hq] at hve
      subst hve
      have hqS : len S = q := by rw [← hq, vals_length]; rfl
      have hq8 : q ≤ 8 := by rw [← hqS]; exact len_le S
      have F0 := hide (show Fin w.heap.size (w.heap.size + 1) w2.heap.size w4.heap.size W.heap.size w.heap.size most N S (ones S) (.slice A0 q c0) D D2 w V.drew from ⟨hBx.m, ⟨_, hBx.r⟩, hBx.s, hBx.b, hBx.o, hN, hKD, hK2, hB.drew, HLo.out⟩)
      have HLn := hide (fun X => Len_any S HS8.out (q : Int) (by rw [hqS]) X)
      have HOf := hide (fun (X : World) (h : Fin w.heap.size (w.heap.size + 1) w2.heap.size w4.heap.size W.heap.size w.heap.size most N S (ones S) (.slice A0 q c0) D D2 w X) => Of_slice A0 (vals (ones S)) q c0 X S (of_ones HS8.out) hq (by omega) w.heap.size (show X.ownsRow w.heap.size 3 1 (.slice A0 q c0) (vals (ones S)).length ((vals (ones S)).map (Value.int .i64)) by rw [vals_length]; exact h.o))
      have hqe := fun X => set_eql S S HS8.out HS8.out true (decide_eq_true rfl) X
      have hge := fun o y z X => set_eqg o y z S S X
      have e9 : Int.tmod (most : Int) 9 = (r : Int) := by rw [Int.tmod_eq_emod_of_nonneg (by omega), HrE.out]; omega
      have e9' : (most : Int) % 9 = (r : Int) := by rw [HrE.out]; omega
      have e10 : IntKind.i64.wrap ((r : Int) + 1) = (r : Int) + 1 := IntWalk.i64_in _ (by omega)
      have e11 : IntKind.i64.wrap (r : Int) = (r : Int) := IntWalk.i64_in _ (by omega)
      have e12 : IntKind.i64.wrap (most : Int) = (most : Int) := IntWalk.i64_in _ (by omega)
      have hmin : ∀ X : World, (Builtin.min_ #[3, 3] 3 #[.int .i64 (q : Int), .int .i64 ((r : Int) + 1)]).run Try.prog X = .ok (.int .i64 N) X := fun X => by
        rw [run_min_int2]
        congr 2
        split <;> omega
      have hDD : D < D2 ∧ w.heap.size ≤ D ∧ w.heap.size ≤ D2 := by omega
      clear hBx hN hKD hB hK2 hI hNe hqS hq
      gi_wp2
      refine wpIn_wide.2 (wp_noPanic ?_)
      refine wp_region_held (S := (Fin w.heap.size (w.heap.size + 1) w2.heap.size w4.heap.size W.heap.size w.heap.size most N S (ones S) (.slice A0 q c0) D D2 w)) (by kernel_rfl) ?_
      change wpAnyH _ _ _ _ _ _ _ _ (World.drew _)
      refine wpAnyH_take (i := 0) (oi := ⟨some 55, _, _, _, _, _⟩) (v := .slice A0 q c0) rfl (by kernel_rfl) (by kernel_rfl) (by kernel_rfl) (fun _ _ _ h => h) (Or.inl ⟨by rfl, fun X hSw => (by have hc := hSw.b.cell; clear hSw; go_simp)⟩) F0.out ?_
      simp only [Act.put, List.setIfInBounds_toArray, List.set_cons_zero, List.set_cons_succ]
      refine wpAnyH_take (i := 1) (oi := ⟨some 56, _, _, _, _, _⟩) (v := ?_) rfl (by kernel_rfl) (by kernel_rfl) (by kernel_rfl) (fun _ _ _ h => h) (Or.inl ⟨by rfl, ?_⟩) F0.out ?_
      rotate_left 1
      · (intro w hSw; clear hSw; go_simp; try with_reducible rfl)
      simp only [Act.put, List.setIfInBounds_toArray, List.set_cons_zero, List.set_cons_succ]
      refine wpAnyH_take (i := 2) (oi := ⟨some 57, _, _, _, _, _⟩) (v := val S) rfl (by kernel_rfl) (by kernel_rfl) (by kernel_rfl) (fun _ _ _ h => h) (yields_set (by rfl) (.tmp 5) rfl w2.heap.size rfl S HS8.out (fun X hw => hw.s)) F0.out ?_
      simp only [Act.put, List.setIfInBounds_toArray, List.set_cons_zero, List.set_cons_succ]
      refine wpAnyH_ready (rs := [3]) (by kernel_rfl) (by simp) ?_
      refine AllReadyH.cons (o := ⟨some 58, _, _, _, _, _⟩) rfl (fun K hK => ?_) AllReadyH.nil
      go_simp
      refine (HLn.out _).mono ?_
      rintro r u1 ⟨rfl, hb⟩
      have F1 := hide (F0.out.below hb)
      clear hb
      refine hK.out _ _ F1.out (fun hHeld => ?_)
      clear hK K
      clear hHeld
      refine wpAnyH_take (i := 4) (oi := ⟨some 59, _, _, _, _, _⟩) (v := ?_) rfl (by kernel_rfl) (by kernel_rfl) (by kernel_rfl) (fun _ _ _ h => h) (Or.inl ⟨by rfl, ?_⟩) F1.out ?_
      rotate_left 1
      · (intro w hSw; clear hSw; go_simp; try with_reducible rfl)
      simp only [Act.put, List.setIfInBounds_toArray, List.set_cons_zero, List.set_cons_succ]
      refine wpAnyH_take (i := 5) (oi := ⟨some 60, _, _, _, _, _⟩) (v := ?_) rfl (by kernel_rfl) (by kernel_rfl) (by kernel_rfl) (fun _ _ _ h => h) (Or.inl ⟨by rfl, ?_⟩) F1.out ?_
      rotate_left 1
      · (intro w hSw; clear hSw; go_simp; try with_reducible rfl)
      simp only [Act.put, List.setIfInBounds_toArray, List.set_cons_zero, List.set_cons_succ]
      refine wpAnyH_take (i := 6) (oi := ⟨some 61, _, _, _, _, _⟩) (v := .slice A0 q c0) rfl (by kernel_rfl) (by kernel_rfl) (by kernel_rfl) (fun _ _ _ h => h) (Or.inl ⟨by rfl, fun X hSw => (by have hc := hSw.b.cell; clear hSw; go_simp)⟩) F1.out ?_
      simp only [Act.put, List.setIfInBounds_toArray, List.set_cons_zero, List.set_cons_succ]
      refine wpAnyH_take (i := 8) (oi := ⟨some 63, _, _, _, _, _⟩) (v := val S) rfl (by kernel_rfl) (by kernel_rfl) (by kernel_rfl) (fun _ _ _ h => h) (yields_set (by rfl) (.tmp 5) rfl w2.heap.size rfl S HS8.out (fun X hw => hw.s)) F1.out ?_
      simp only [Act.put, List.setIfInBounds_toArray, List.set_cons_zero, List.set_cons_succ]
      refine wpAnyH_ready (rs := [7]) (by kernel_rfl) (by simp) ?_
      refine AllReadyH.cons (o := ⟨some 62, _, _, _, _, _⟩) rfl (fun K hK => ?_) AllReadyH.nil
      go_simp
      refine (HOf.out _ F1.out).mono ?_
      rintro r u2 ⟨rfl, hb⟩
      have F2 := hide (F1.out.below hb)
      clear hb
      refine hK.out _ _ F2.out (fun hHeld => ?_)
      clear hK K
      clear hHeld
      refine wpAnyH_take (i := 9) (oi := ⟨some 64, _, _, _, _, _⟩) (v := ?_) rfl (by kernel_rfl) (by kernel_rfl) (by kernel_rfl) (fun _ _ _ h => h) (Or.inl ⟨by rfl, ?_⟩) F2.out ?_
      rotate_left 1
      · (intro w hSw; clear hSw; go_simp; try with_reducible rfl)
      simp only [Act.put, List.setIfInBounds_toArray, List.set_cons_zero, List.set_cons_succ]
      refine wpAnyH_take (i := 10) (oi := ⟨some 65, _, _, _, _, _⟩) (v := ?_) rfl (by kernel_rfl) (by kernel_rfl) (by kernel_rfl) (fun _ _ _ h => h) (Or.inl ⟨by rfl, ?_⟩) F2.out ?_
      rotate_left 1
      · (intro w hSw; clear hSw; go_simp; try with_reducible rfl)
      simp only [Act.put, List.setIfInBounds_toArray, List.set_cons_zero, List.set_cons_succ]
      refine wpAnyH_take (i := 11) (oi := ⟨some 66, _, _, _, _, _⟩) (v := ?_) rfl (by kernel_rfl) (by kernel_rfl) (by kernel_rfl) (fun _ _ _ h => h) (Or.inl ⟨by rfl, ?_⟩) F2.out ?_
      rotate_left 1
      · (intro w hSw; clear hSw; go_simp; try with_reducible rfl)
      simp only [Act.put, List.setIfInBounds_toArray, List.set_cons_zero, List.set_cons_succ]
      refine wpAnyH_take (i := 12) (oi := ⟨some 67, _, _, _, _, _⟩) (v := .int .i64 N) rfl (by kernel_rfl) (by kernel_rfl) (by kernel_rfl) (fun _ _ _ h => h) (Or.inl ⟨by rfl, fun X hSw => (by have hc := hSw.nn.cell; clear hSw; go_simp)⟩) F2.out ?_
      simp only [Act.put, List.setIfInBounds_toArray, List.set_cons_zero, List.set_cons_succ]
      refine wpAnyH_take (i := 13) (oi := ⟨some 68, _, _, _, _, _⟩) (v := val S) rfl (by kernel_rfl) (by kernel_rfl) (by kernel_rfl) (fun _ _ _ h => h) (yields_set (by rfl) (.tmp 5) rfl w2.heap.size rfl S HS8.out (fun X hw => hw.s)) F2.out ?_
      simp only [Act.put, List.setIfInBounds_toArray, List.set_cons_zero, List.set_cons_succ]
      refine wpAnyH_take (i := 15) (oi := ⟨some 70, _, _, _, _, _⟩) (v := .int .u8 (most : Int)) rfl (by kernel_rfl) (by kernel_rfl) (by kernel_rfl) (fun _ _ _ h => h) (Or.inl ⟨by rfl, fun X hSw => (by have hc := hSw.m.cell; clear hSw; go_simp)⟩) F2.out ?_
      simp only [Act.put, List.setIfInBounds_toArray, List.set_cons_zero, List.set_cons_succ]
      refine wpAnyH_take (i := 16) (oi := ⟨some 71, _, _, _, _, _⟩) (v := ?_) rfl (by kernel_rfl) (by kernel_rfl) (by kernel_rfl) (fun _ _ _ h => h) (Or.inl ⟨by rfl, ?_⟩) F2.out ?_
      rotate_left 1
      · (intro w hSw; clear hSw; go_simp; try with_reducible rfl)
      simp only [Act.put, List.setIfInBounds_toArray, List.set_cons_zero, List.set_cons_succ]
      refine wpAnyH_take (i := 17) (oi := ⟨some 72, _, _, _, _, _⟩) (v := ?_) rfl (by kernel_rfl) (by kernel_rfl) (by kernel_rfl) (fun _ _ _ h => h) (Or.inl ⟨by rfl, ?_⟩) F2.out ?_
      rotate_left 1
      · (intro w hSw; clear hSw; go_simp; try with_reducible rfl)
      simp only [Act.put, List.setIfInBounds_toArray, List.set_cons_zero, List.set_cons_succ]
      refine wpAnyH_take (i := 18) (oi := ⟨some 73, _, _, _, _, _⟩) (v := ?_) rfl (by kernel_rfl) (by kernel_rfl) (by kernel_rfl) (fun _ _ _ h => h) (Or.inl ⟨by rfl, ?_⟩) F2.out ?_
      rotate_left 1
      · (intro w hSw; clear hSw; go_simp; try with_reducible rfl)
      simp only [Act.put, List.setIfInBounds_toArray, List.set_cons_zero, List.set_cons_succ]
      refine wpAnyH_ready (rs := [14]) (by kernel_rfl) (by simp) ?_
      refine AllReadyH.cons (o := ⟨some 69, _, _, _, _, _⟩) rfl (fun K hK => ?_) AllReadyH.nil
      go_simp
      refine (HLn.out _).mono ?_
      rintro r u3 ⟨rfl, hb⟩
      have F3 := hide (F2.out.below hb)
      clear hb
      refine hK.out _ _ F3.out (fun hHeld => ?_)
      clear hK K
      clear hHeld
      refine wpAnyH_take (i := 19) (oi := ⟨some 74, _, _, _, _, _⟩) (v := ?_) rfl (by kernel_rfl) (by kernel_rfl) (by kernel_rfl) (fun _ _ _ h => h) (Or.inl ⟨by rfl, ?_⟩) F3.out ?_
      rotate_left 1
      · (intro w hSw; clear hSw; go_simp; try with_reducible rfl)
      simp only [Act.put, List.setIfInBounds_toArray, List.set_cons_zero, List.set_cons_succ]
      refine wpAnyH_take (i := 20) (oi := ⟨some 75, _, _, _, _, _⟩) (v := ?_) rfl (by kernel_rfl) (by kernel_rfl) (by kernel_rfl) (fun _ _ _ h => h) (Or.inl ⟨by rfl, ?_⟩) F3.out ?_
      rotate_left 1
      · (intro w hSw; clear hSw; go_simp; try with_reducible rfl)
      simp only [Act.put, List.setIfInBounds_toArray, List.set_cons_zero, List.set_cons_succ]
      refine wpAnyH_take (i := 21) (oi := ⟨some 76, _, _, _, _, _⟩) (v := ?_) rfl (by kernel_rfl) (by kernel_rfl) (by kernel_rfl) (fun _ _ _ h => h) (Or.inl ⟨by rfl, ?_⟩) F3.out ?_
      rotate_left 1
      · (intro w hSw; clear hSw; go_simp; try with_reducible rfl)
      simp only [Act.put, List.setIfInBounds_toArray, List.set_cons_zero, List.set_cons_succ]
      refine wpAnyH_ready (rs := [22]) (by kernel_rfl) (by simp) ?_
      refine AllReadyH.cons (o := ⟨none, _, _, _, _, _⟩) rfl (fun K hK => ?_) AllReadyH.nil
      obtain ⟨uu, hu⟩ := F3.out.r
      have hcr := hu.cell
      have hfr := hu.frozen
      have F4 := hide (F3.out.set_r (.bool true) true rfl)
      have HRf := hide (hu.set (.bool true))
      clear hu
      go_simp
      refine hK.out _ _ F4.out (fun hHeld => ?_)
      clear hK K
      clear hHeld
      refine wpAnyH_done (by kernel_rfl) ?_ _
      dsimp only [noPanic]
      gi_wp2
      have hK1 := F4.out.d2
      have hK0 := F4.out.d1
      have hbel := F4.out.bel
      have hrf := HRf.out
      refine ⟨by simp, .inl ⟨_, _, rfl, run_takeDeferred hK1, by simp, .inl ⟨_, _, rfl, run_takeDeferred ((World.putObj_heap_other (show D ≠ D2 by omega)).trans hK0), ?_⟩⟩⟩
      have hr1 := boxed_grown hrf (grownBy_putObj' _ D2 (.deferred none)) (fun r e => by cases e; exact ⟨_, hK1, rfl⟩)
      have hr2 := boxed_grown hr1 (grownBy_putObj' _ D (.deferred none)) (fun r e => by cases e; exact ⟨_, (World.putObj_heap_other (show D ≠ D2 by omega)).trans hK0, rfl⟩)
      have hc5 := hr2.cell
      exact ⟨.bool true, by simp [results, Try.f4, go_sem, hc5], rfl, (hbel.trans (belowK_b (w := w) (Nat.le_refl _) _ D2 _ _ (by omega) hK1 rfl rfl)).trans (belowK_b (w := w) (Nat.le_refl _) _ D _ _ (by omega) ((World.putObj_heap_other (show D ≠ D2 by omega)).trans hK0) rfl rfl)⟩
    case stop2 =>
      rintro D2 c pre V hD2 hp ⟨⟨⟨hBx, hN, he, rfl⟩, hKD⟩, hB⟩ hK2
      have hpl : pre.length ≤ len S := hp.length_le
      obtain ⟨N, hNe⟩ : ∃ N : Int, (pre.length : Int) = N ∧ N = (r : Int) + 1 ∧ N ≤ (len S : Int) := ⟨_, rfl, by omega, by omega⟩
      rw [hNe.1] at hN
      replace hNe : (N ≤ (r : Int) ∧ N = (len S : Int)) ∨ (N = (r : Int) + 1 ∧ N ≤ (len S : Int)) := Or.inr ⟨hNe.2.1, hNe.2.2⟩
      clear hp hpl he
      obtain ⟨A0, c0, hve, hI⟩ := row7_form (show Row7 V w.heap.size v (vals (ones S)) by unfold Row7; rw [vals_length]; exact hBx.o)
      obtain ⟨q, hq⟩ : ∃ q, (vals (ones S)).length = q := ⟨_, rfl⟩
      rw [hq] at hve
      subst hve
      have hqS : len S = q := by rw [← hq, vals_length]; rfl
      have hq8 : q ≤ 8 := by rw [← hqS]; exact len_le S
      have F0 := hide (show Fin w.heap.size (w.heap.size + 1) w2.heap.size w4.heap.size W.heap.size w.heap.size most N S (ones S) (.slice A0 q c0) D D2 w V.drew from ⟨hBx.m, ⟨_, hBx.r⟩, hBx.s, hBx.b, hBx.o, hN, hKD, hK2, hB.drew, HLo.out⟩)
      have HLn := hide (fun X => Len_any S HS8.out (q : Int) (by rw [hqS]) X)
      have HOf := hide (fun (X : World) (h : Fin w.heap.size (w.heap.size + 1) w2.heap.size w4.heap.size W.heap.size w.heap.size most N S (ones S) (.slice A0 q c0) D D2 w X) => Of_slice A0 (vals (ones S)) q c0 X S (of_ones HS8.out) hq (by omega) w.heap.size (show X.ownsRow w.heap.size 3 1 (.slice A0 q c0) (vals (ones S)).length ((vals (ones S)).map (Value.int .i64)) by rw [vals_length]; exact h.o))
      have hqe := fun X => set_eql S S HS8.out HS8.out true (decide_eq_true rfl) X
      have hge := fun o y z X => set_eqg o y z S S X
      have e9 : Int.tmod (most : Int) 9 = (r : Int) := by rw [Int.tmod_eq_emod_of_nonneg (by omega), HrE.out]; omega
      have e9' : (most : Int) % 9 = (r : Int) := by rw [HrE.out]; omega
      have e10 : IntKind.i64.wrap ((r : Int) + 1) = (r : Int) + 1 := IntWalk.i64_in _ (by omega)
      have e11 : IntKind.i64.wrap (r : Int) = (r : Int) := IntWalk.i64_in _ (by omega)
      have e12 : IntKind.i64.wrap (most : Int) = (most : Int) := IntWalk.i64_in _ (by omega)
      have hmin : ∀ X : World, (Builtin.min_ #[3, 3] 3 #[.int .i64 (q : Int), .int .i64 ((r : Int) + 1)]).run Try.prog X = .ok (.int .i64 N) X := fun X => by
        rw [run_min_int2]
        congr 2
        split <;> omega
      have hDD : D < D2 ∧ w.heap.size ≤ D ∧ w.heap.size ≤ D2 := by omega
      clear hBx hN hKD hB hK2 hI hNe hqS hq
      gi_wp2
      refine wpIn_wide.2 (wp_noPanic ?_)
      refine wp_region_held (S := (Fin w.heap.size (w.heap.size + 1) w2.heap.size w4.heap.size W.heap.size w.heap.size most N S (ones S) (.slice A0 q c0) D D2 w)) (by kernel_rfl) ?_
      change wpAnyH _ _ _ _ _ _ _ _ (World.drew _)
      refine wpAnyH_take (i := 0) (oi := ⟨some 55, _, _, _, _, _⟩) (v := .slice A0 q c0) rfl (by kernel_rfl) (by kernel_rfl) (by kernel_rfl) (fun _ _ _ h => h) (Or.inl ⟨by rfl, fun X hSw => (by have hc := hSw.b.cell; clear hSw; go_simp)⟩) F0.out ?_
      simp only [Act.put, List.setIfInBounds_toArray, List.set_cons_zero, List.set_cons_succ]
      refine wpAnyH_take (i := 1) (oi := ⟨some 56, _, _, _, _, _⟩) (v := ?_) rfl (by kernel_rfl) (by kernel_rfl) (by kernel_rfl) (fun _ _ _ h => h) (Or.inl ⟨by rfl, ?_⟩) F0.out ?_
      rotate_left 1
      · (intro w hSw; clear hSw; go_simp; try with_reducible rfl)
      simp only [Act.put, List.setIfInBounds_toArray, List.set_cons_zero, List.set_cons_succ]
      refine wpAnyH_take (i := 2) (oi := ⟨some 57, _, _, _, _, _⟩) (v := val S) rfl (by kernel_rfl) (by kernel_rfl) (by kernel_rfl) (fun _ _ _ h => h) (yields_set (by rfl) (.tmp 5) rfl w2.heap.size rfl S HS8.out (fun X hw => hw.s)) F0.out ?_
      simp only [Act.put, List.setIfInBounds_toArray, List.set_cons_zero, List.set_cons_succ]
      refine wpAnyH_ready (rs := [3]) (by kernel_rfl) (by simp) ?_
      refine AllReadyH.cons (o := ⟨some 58, _, _, _, _, _⟩) rfl (fun K hK => ?_) AllReadyH.nil
      go_simp
      refine (HLn.out _).mono ?_
      rintro r u1 ⟨rfl, hb⟩
      have F1 := hide (F0.out.below hb)
      clear hb
      refine hK.out _ _ F1.out (fun hHeld => ?_)
      clear hK K
      clear hHeld
      refine wpAnyH_take (i := 4) (oi := ⟨some 59, _, _, _, _, _⟩) (v := ?_) rfl (by kernel_rfl) (by kernel_rfl) (by kernel_rfl) (fun _ _ _ h => h) (Or.inl ⟨by rfl, ?_⟩) F1.out ?_
      rotate_left 1
      · (intro w hSw; clear hSw; go_simp; try with_reducible rfl)
      simp only [Act.put, List.setIfInBounds_toArray, List.set_cons_zero, List.set_cons_succ]
      refine wpAnyH_take (i := 5) (oi := ⟨some 60, _, _, _, _, _⟩) (v := ?_) rfl (by kernel_rfl) (by kernel_rfl) (by kernel_rfl) (fun _ _ _ h => h) (Or.inl ⟨by rfl, ?_⟩) F1.out ?_
      rotate_left 1
      · (intro w hSw; clear hSw; go_simp; try with_reducible rfl)
      simp only [Act.put, List.setIfInBounds_toArray, List.set_cons_zero, List.set_cons_succ]
      refine wpAnyH_take (i := 6) (oi := ⟨some 61, _, _, _, _, _⟩) (v := .slice A0 q c0) rfl (by kernel_rfl) (by kernel_rfl) (by kernel_rfl) (fun _ _ _ h => h) (Or.inl ⟨by rfl, fun X hSw => (by have hc := hSw.b.cell; clear hSw; go_simp)⟩) F1.out ?_
      simp only [Act.put, List.setIfInBounds_toArray, List.set_cons_zero, List.set_cons_succ]
      refine wpAnyH_take (i := 8) (oi := ⟨some 63, _, _, _, _, _⟩) (v := val S) rfl (by kernel_rfl) (by kernel_rfl) (by kernel_rfl) (fun _ _ _ h => h) (yields_set (by rfl) (.tmp 5) rfl w2.heap.size rfl S HS8.out (fun X hw => hw.s)) F1.out ?_
      simp only [Act.put, List.setIfInBounds_toArray, List.set_cons_zero, List.set_cons_succ]
      refine wpAnyH_ready (rs := [7]) (by kernel_rfl) (by simp) ?_
      refine AllReadyH.cons (o := ⟨some 62, _, _, _, _, _⟩) rfl (fun K hK => ?_) AllReadyH.nil
      go_simp
      refine (HOf.out _ F1.out).mono ?_
      rintro r u2 ⟨rfl, hb⟩
      have F2 := hide (F1.out.below hb)
      clear hb
      refine hK.out _ _ F2.out (fun hHeld => ?_)
      clear hK K
      clear hHeld
      refine wpAnyH_take (i := 9) (oi := ⟨some 64, _, _, _, _, _⟩) (v := ?_) rfl (by kernel_rfl) (by kernel_rfl) (by kernel_rfl) (fun _ _ _ h => h) (Or.inl ⟨by rfl, ?_⟩) F2.out ?_
      rotate_left 1
      · (intro w hSw; clear hSw; go_simp; try with_reducible rfl)
      simp only [Act.put, List.setIfInBounds_toArray, List.set_cons_zero, List.set_cons_succ]
      refine wpAnyH_take (i := 10) (oi := ⟨some 65, _, _, _, _, _⟩) (v := ?_) rfl (by kernel_rfl) (by kernel_rfl) (by kernel_rfl) (fun _ _ _ h => h) (Or.inl ⟨by rfl, ?_⟩) F2.out ?_
      rotate_left 1
      · (intro w hSw; clear hSw; go_simp; try with_reducible rfl)
      simp only [Act.put, List.setIfInBounds_toArray, List.set_cons_zero, List.set_cons_succ]
      refine wpAnyH_take (i := 11) (oi := ⟨some 66, _, _, _, _, _⟩) (v := ?_) rfl (by kernel_rfl) (by kernel_rfl) (by kernel_rfl) (fun _ _ _ h => h) (Or.inl ⟨by rfl, ?_⟩) F2.out ?_
      rotate_left 1
      · (intro w hSw; clear hSw; go_simp; try with_reducible rfl)
      simp only [Act.put, List.setIfInBounds_toArray, List.set_cons_zero, List.set_cons_succ]
      refine wpAnyH_take (i := 12) (oi := ⟨some 67, _, _, _, _, _⟩) (v := .int .i64 N) rfl (by kernel_rfl) (by kernel_rfl) (by kernel_rfl) (fun _ _ _ h => h) (Or.inl ⟨by rfl, fun X hSw => (by have hc := hSw.nn.cell; clear hSw; go_simp)⟩) F2.out ?_
      simp only [Act.put, List.setIfInBounds_toArray, List.set_cons_zero, List.set_cons_succ]
      refine wpAnyH_take (i := 13) (oi := ⟨some 68, _, _, _, _, _⟩) (v := val S) rfl (by kernel_rfl) (by kernel_rfl) (by kernel_rfl) (fun _ _ _ h => h) (yields_set (by rfl) (.tmp 5) rfl w2.heap.size rfl S HS8.out (fun X hw => hw.s)) F2.out ?_
      simp only [Act.put, List.setIfInBounds_toArray, List.set_cons_zero, List.set_cons_succ]
      refine wpAnyH_take (i := 15) (oi := ⟨some 70, _, _, _, _, _⟩) (v := .int .u8 (most : Int)) rfl (by kernel_rfl) (by kernel_rfl) (by kernel_rfl) (fun _ _ _ h => h) (Or.inl ⟨by rfl, fun X hSw => (by have hc := hSw.m.cell; clear hSw; go_simp)⟩) F2.out ?_
      simp only [Act.put, List.setIfInBounds_toArray, List.set_cons_zero, List.set_cons_succ]
      refine wpAnyH_take (i := 16) (oi := ⟨some 71, _, _, _, _, _⟩) (v := ?_) rfl (by kernel_rfl) (by kernel_rfl) (by kernel_rfl) (fun _ _ _ h => h) (Or.inl ⟨by rfl, ?_⟩) F2.out ?_
      rotate_left 1
      · (intro w hSw; clear hSw; go_simp; try with_reducible rfl)
      simp only [Act.put, List.setIfInBounds_toArray, List.set_cons_zero, List.set_cons_succ]
      refine wpAnyH_take (i := 17) (oi := ⟨some 72, _, _, _, _, _⟩) (v := ?_) rfl (by kernel_rfl) (by kernel_rfl) (by kernel_rfl) (fun _ _ _ h => h) (Or.inl ⟨by rfl, ?_⟩) F2.out ?_
      rotate_left 1
      · (intro w hSw; clear hSw; go_simp; try with_reducible rfl)
      simp only [Act.put, List.setIfInBounds_toArray, List.set_cons_zero, List.set_cons_succ]
      refine wpAnyH_take (i := 18) (oi := ⟨some 73, _, _, _, _, _⟩) (v := ?_) rfl (by kernel_rfl) (by kernel_rfl) (by kernel_rfl) (fun _ _ _ h => h) (Or.inl ⟨by rfl, ?_⟩) F2.out ?_
      rotate_left 1
      · (intro w hSw; clear hSw; go_simp; try with_reducible rfl)
      simp only [Act.put, List.setIfInBounds_toArray, List.set_cons_zero, List.set_cons_succ]
      refine wpAnyH_ready (rs := [14]) (by kernel_rfl) (by simp) ?_
      refine AllReadyH.cons (o := ⟨some 69, _, _, _, _, _⟩) rfl (fun K hK => ?_) AllReadyH.nil
      go_simp
      refine (HLn.out _).mono ?_
      rintro r u3 ⟨rfl, hb⟩
      have F3 := hide (F2.out.below hb)
      clear hb
      refine hK.out _ _ F3.out (fun hHeld => ?_)
      clear hK K
      clear hHeld
      refine wpAnyH_take (i := 19) (oi := ⟨some 74, _, _, _, _, _⟩) (v := ?_) rfl (by kernel_rfl) (by kernel_rfl) (by kernel_rfl) (fun _ _ _ h => h) (Or.inl ⟨by rfl, ?_⟩) F3.out ?_
      rotate_left 1
      · (intro w hSw; clear hSw; go_simp; try with_reducible rfl)
      simp only [Act.put, List.setIfInBounds_toArray, List.set_cons_zero, List.set_cons_succ]
      refine wpAnyH_take (i := 20) (oi := ⟨some 75, _, _, _, _, _⟩) (v := ?_) rfl (by kernel_rfl) (by kernel_rfl) (by kernel_rfl) (fun _ _ _ h => h) (Or.inl ⟨by rfl, ?_⟩) F3.out ?_
      rotate_left 1
      · (intro w hSw; clear hSw; go_simp; try with_reducible rfl)
      simp only [Act.put, List.setIfInBounds_toArray, List.set_cons_zero, List.set_cons_succ]
      refine wpAnyH_take (i := 21) (oi := ⟨some 76, _, _, _, _, _⟩) (v := ?_) rfl (by kernel_rfl) (by kernel_rfl) (by kernel_rfl) (fun _ _ _ h => h) (Or.inl ⟨by rfl, ?_⟩) F3.out ?_
      rotate_left 1
      · (intro w hSw; clear hSw; go_simp; try with_reducible rfl)
      simp only [Act.put, List.setIfInBounds_toArray, List.set_cons_zero, List.set_cons_succ]
      refine wpAnyH_ready (rs := [22]) (by kernel_rfl) (by simp) ?_
      refine AllReadyH.cons (o := ⟨none, _, _, _, _, _⟩) rfl (fun K hK => ?_) AllReadyH.nil
      obtain ⟨uu, hu⟩ := F3.out.r
      have hcr := hu.cell
      have hfr := hu.frozen
      have F4 := hide (F3.out.set_r (.bool true) true rfl)
      have HRf := hide (hu.set (.bool true))
      clear hu
      go_simp
      refine hK.out _ _ F4.out (fun hHeld => ?_)
      clear hK K
      clear hHeld
      refine wpAnyH_done (by kernel_rfl) ?_ _
      dsimp only [noPanic]
      gi_wp2
      have hK1 := F4.out.d2
      have hK0 := F4.out.d1
      have hbel := F4.out.bel
      have hrf := HRf.out
      refine ⟨by simp, .inl ⟨_, _, rfl, run_takeDeferred hK1, by simp, .inl ⟨_, _, rfl, run_takeDeferred ((World.putObj_heap_other (show D ≠ D2 by omega)).trans hK0), ?_⟩⟩⟩
      have hr1 := boxed_grown hrf (grownBy_putObj' _ D2 (.deferred none)) (fun r e => by cases e; exact ⟨_, hK1, rfl⟩)
      have hr2 := boxed_grown hr1 (grownBy_putObj' _ D (.deferred none)) (fun r e => by cases e; exact ⟨_, (World.putObj_heap_other (show D ≠ D2 by omega)).trans hK0, rfl⟩)
      have hc5 := hr2.cell
      exact ⟨.bool true, by simp [results, Try.f4, go_sem, hc5], rfl, (hbel.trans (belowK_b (w := w) (Nat.le_refl _) _ D2 _ _ (by omega) hK1 rfl rfl)).trans (belowK_b (w := w) (Nat.le_refl _) _ D _ _ (by omega) ((World.putObj_heap_other (show D ≠ D2 by omega)).trans hK0) rfl rfl)⟩
  case stop =>
    rintro D c pre W _ hp ⟨_, hn⟩ _
    exact absurd (asc_prefix hp) hn

theorem Walks_any (A : Option Addr) (xs : List Int) (n c most : Nat) (w : World) (hx : xs.length = n) (hA : Ints w w.heap.size A xs) (hn : n ≤ maxLen) (hmo : most < 256) :
    Calls Try.prog 4 #[.slice A n c, .int .u8 (most : Int)] w fun e w' => e = .returned (.bool true) ∧ Below w.heap.size w w' := by
  by_cases h : 100 < n
  · exact Walks_early A n c most w hn h
  · exact Walks_main A xs n c most w hx hA (by omega) hmo

end Go.Proofs.Ytmenedndchakjaa.Bt
