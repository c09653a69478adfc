/-
  The contracts of bits.Len, Or and But: ranges over the iterator of All. Nothing that was there is changed.
-/
import Derived.Test.YtmenedndchakjaaBtAll
namespace Go.Proofs.Ytmenedndchakjaa.Bt
open Go.RowKit Go.Shelf
open Pk Sm

attribute [local go_sem] Oper.semAt_some

theorem cell_new_l (W : World) (v : Value) (t : TypeId) : (W.alloc (.cells #[v] t)).cell? ⟨W.heap.size, 0, none⟩ = some v ∧ (W.alloc (.cells #[v] t)).frozen? ⟨W.heap.size, 0, none⟩ = false := by
  have h : (W.alloc (.cells #[v] t)).heap[W.heap.size]? = some (.cells #[v] t (0, 0)) := World.alloc_heap_new W _
  exact ⟨by simp only [World.cell?]; rw [h]; rfl, by simp only [World.frozen?]; rw [h]; rfl⟩
theorem cell_alloc_l {W : World} {a : Addr} {v : Value} (o : Obj) (h : W.cell? a = some v) : (W.alloc o).cell? a = some v := cell_kept h (World.grownBy_alloc W o none) (fun r e => by cases e)
theorem frozen_alloc_l {W : World} {a : Addr} {v : Value} (o : Obj) (h : W.cell? a = some v) (hf : W.frozen? a = false) : (W.alloc o).frozen? a = false := (frozen_kept h (World.grownBy_alloc W o none) (fun r e => by cases e)).trans hf

theorem val_box {w : World} {S : BSet} : Lies (w.alloc (.cells (bcels S).toArray 28)) w.heap.size S := lies_new w S

set_option maxRecDepth 100000 in
set_option maxHeartbeats 2000000 in
theorem Len_in (F : Fence) (n : Nat) (hL : F.fn 21) (hA : F.fn 25) (hF : F.fn 29) (hro : F.round = none) (hn : 3 ≤ n) (S : BSet) (hS : S.length = 8) (w : World) :
    CallsIn F n Try.prog 21 #[val S] w fun e W' => e = .returned (.int .i64 (len S)) ∧ Below w.heap.size w W' := by
  have h1 : 1 ≤ n := by omega
  have HS := hide hS
  have Hl : Hid ((bcels S).length = 8) := by rw [bcels_length]; exact hS
  clear hS
  unfold val
  refine callsIn_of_wp_marks Try.func21 rfl hL ?_ hro
  simp only [Try.ntmps21, List.size_toArray, List.length_cons, List.length_nil, Nat.reduceAdd, Nat.reduceSub, Array.replicate_succ, Array.replicate_zero, List.push_toArray, List.append_toArray, List.nil_append, List.cons_append]
  gi_wp2_with (refine wpListIn_box_told rfl 28 (.tmp 0) rfl _ rfl ?_)
  intro w1 H1
  have L1 := hide (show Lies w1 w.heap.size S by rw [H1.out]; exact lies_new w S)
  have B1 := hide (show Below w.heap.size w w1 by rw [H1.out]; exact (Below.refl _ _).alloc (Nat.le_refl _) _)
  have hz1 : w.heap.size < w1.heap.size := L1.out.lt
  clear H1
  have L2 := hide (L1.out.alloc (.cells #[.int .i64 0] 3))
  have B2 := hide (B1.out.alloc (Nat.le_of_lt hz1) (.cells #[.int .i64 0] 3))
  have hc2 := cell_new_l w1 (.int .i64 0) 3
  have HC2 := hide hc2
  clear hc2
  have HR := hide L2.out.range
  gi_wp2_with (first | with_reducible refine wpListIn_load_mid rfl 28 (.tmp 1) rfl w.heap.size 0 rfl (bcels S) _ HR.out Try.underlying28 rfl (by rw [set_size, Hl.out]) ?_ | (gi_at_call 25; refine (All_in F (n - 1) hA hro S _).mono ?_; rintro e w' ⟨rfl, rfl⟩))
  have H0 := hide (show _ = _ from rfl : (w1.alloc (.cells #[.int .i64 0] 3)).alloc (.cells (bcels S).toArray 28) = (w1.alloc (.cells #[.int .i64 0] 3)).alloc (.cells (bcels S).toArray 28))
  have L3 := hide (lies_new (w1.alloc (.cells #[.int .i64 0] 3)) S)
  have B3 := hide (B2.out.alloc (by simp; omega) (.cells (bcels S).toArray 28))
  have C3 := hide (And.intro (cell_alloc_l (.cells (bcels S).toArray 28) HC2.out.1) (frozen_alloc_l (.cells (bcels S).toArray 28) HC2.out.1 HC2.out.2))
  have z3 : w1.heap.size < ((w1.alloc (.cells #[.int .i64 0] 3)).alloc (.cells (bcels S).toArray 28)).heap.size := by simp; omega
  have e3 := hide (World.size_alloc w1 (.cells #[.int .i64 0] 3))
  rw [e3.out] at L3
  generalize (w1.alloc (.cells #[.int .i64 0] 3)).alloc (.cells (bcels S).toArray 28) = W0 at *
  clear H0 e3 HC2 L2 B2 HR L1 B1
  refine wpIn_rangeFunc_ownF hro h1 (gf := 29) (lb := #[.pointer (some ⟨w1.heap.size + 1, 0, none⟩)]) rfl hF (enters_of Try.func29 (by kernel_rfl) rfl)
    (All_stops F (n - 1) hF hro (by omega) (w1.heap.size + 1) S HS.out (Below w.heap.size) W0 L3.out) belowK_t (belowK_b (by omega)) (Below.refl _ _) (fun _ => rfl)
    (fun pre W => (W.cell? ⟨w1.heap.size, 0, none⟩ = some (.int .i64 (pre.length : Int)) ∧ W.frozen? ⟨w1.heap.size, 0, none⟩ = false) ∧ Below w.heap.size w W)
    (fun _ _ _ => False)
    (OwnFrom.and (Own.from (fun s A B row hs hg hr => ⟨cell_kept hs.1 hg hr, (frozen_kept hs.1 hg hr).trans hs.2⟩) _) (ownFrom_below (Nat.le_refl _) (by omega)))
    (fun _ _ _ _ _ hs _ _ => hs)
    ⟨C3.out, B3.out⟩
    (fun x => { tmps := #[.agg (bcels S).toArray, .pointer (some ⟨w.heap.size, 0, none⟩), .int .i64 0, .pointer (some ⟨w1.heap.size, 0, none⟩), .agg (bcels S).toArray, .func (.func 29) #[] #[.pointer (some ⟨w1.heap.size + 1, 0, none⟩)], .int .i64 (x.1 : Int), undef, undef, undef], defers := [] }) ?assign ?body ?done ?stop
  case assign =>
    intro l x W K hK
    gi_wp2
    simpa using hK
  case body =>
    rintro l pre x W ⟨⟨hc, hf⟩, hB⟩ hlt
    have HB := hide hB
    clear hB
    gi_wp2
    exact ⟨KeepsOthers.setCell _ _ _, (Below.refl w.heap.size W).setCell (p := ⟨w1.heap.size, 0, none⟩) (Nat.le_of_lt hz1) _, ⟨by rw [List.length_append]; exact World.cell?_setCell_same' _ _ _ (by rw [hc]; rfl), by rw [World.frozen?_setCell]; exact hf⟩, HB.out.setCell (p := ⟨w1.heap.size, 0, none⟩) (Nat.le_of_lt hz1) _⟩
  case done =>
    rintro D ys W hD rfl ⟨⟨hc, _⟩, hB⟩ hK
    have HB := hide hB
    clear hB
    gi_wp2
    refine ⟨by simp, .inl ⟨_, _, rfl, run_takeDeferred hK, ?_⟩⟩
    exact ⟨_, results_tmp rfl _ _ _, rfl, HB.out.trans (belowK_b (w := w) (Nat.le_refl _) W D _ _ (by have := B3.out.size; omega) hK rfl rfl)⟩
  case stop =>
    rintro D c pre W _ _ h _
    exact h.elim

end Go.Proofs.Ytmenedndchakjaa.Bt
