/-
  The contracts of bits.Or and But: ranges over the iterator of the other set. Nothing that was there is changed.
-/
import Derived.Test.YtmenedndchakjaaBtLen
namespace Go.Proofs.Ytmenedndchakjaa.Bt
open Go.RowKit Go.Shelf
open Pk Sm

attribute [local go_sem] Oper.semAt_some

theorem Lies.grown {w w' : World} {g : Nat} {S : BSet} {row : Option Nat} (h : Lies w g S) (hg : w.grownBy w' row) (hr : ∀ r, row = some r → ∃ o : Obj, w.heap[r]? = some o ∧ o.isCells = false) : Lies w' g S := by
  have hne : some g ≠ row := by
    rintro rfl
    obtain ⟨o, ho, hc⟩ := hr g rfl
    rw [h.heap] at ho
    cases ho
    cases hc
  exact (hg.block g h.lt hne).trans h
theorem Lies.row {w : World} {g : Nat} {S O : BSet} (h : Lies w g S) : Lies (w.setRow g (bcels O).toArray) g O := setRow_heap w g _ _ _ _ h.heap
theorem Lies.row_other {w : World} {g k : Nat} {S : BSet} (h : Lies w g S) (hk : g ≠ k) (cs : Array Value) : Lies (w.setRow k cs) g S := (setRow_other w k g cs hk).trans h
theorem keeps_below {B : Nat} {W W' : World} (hb : Below B W W') (hB : W.heap.size ≤ B) : KeepsOthers W W' :=
  ⟨hb.size, fun k _ hk _ => (hb.block k (Nat.lt_of_lt_of_le (Array.getElem?_eq_some_iff.1 hk).1 hB)).trans hk⟩
theorem keeps_row {W : World} {g : Nat} {S : BSet} (h : Lies W g S) (cs : Array Value) : KeepsOthers W (W.setRow g cs) := by
  refine ⟨by simp [World.setRow], fun k o hk ho => ?_⟩
  by_cases e : k = g
  · subst e
    rw [h.heap] at hk
    cases hk
    cases ho
  · exact (setRow_other W g k cs e).trans hk
theorem below_row {B g : Nat} {W : World} (hg : B ≤ g) (cs : Array Value) : Below B W (W.setRow g cs) := below_setRow (Below.refl B W) hg cs

set_option maxRecDepth 100000 in
set_option maxHeartbeats 2000000 in
theorem Or_any (S O : BSet) (hS : S.length = 8) (hO : O.length = 8) (w : World) : Calls Try.prog 16 #[val S, val O] w fun e w' => e = .returned (val (orr S O)) ∧ Below w.heap.size w w' := by
  have HS := hide hS
  have HO := hide hO
  have HlS : Hid ((bcels S).length = 8) := by rw [bcels_length]; exact hS
  have HlO : Hid ((bcels O).length = 8) := by rw [bcels_length]; exact hO
  have HW := hide (fun (x : On O) (xs : List (On O)) W => With_any (setAll true S xs) (by rw [setAll_length]; exact hS) (x.1 : Int) W)
  clear hS hO
  unfold val
  refine (callsIn_wide (n := 9)).1 ?_
  have hro : Fence.wide.round = none := rfl
  refine callsIn_of_wp_marks Try.func16 rfl trivial ?_ hro
  simp only [Try.ntmps16, List.size_toArray, List.length_cons, List.length_nil, Nat.reduceAdd, Nat.reduceSub, Array.replicate_succ, Array.replicate_zero, List.push_toArray, List.append_toArray, List.nil_append, List.cons_append]
  gi_wp2_with (refine wpListIn_box_told rfl 28 (.tmp 0) rfl _ rfl ?_)
  intro w1 H1
  have L1 := hide (show Lies w1 w.heap.size S by rw [H1.out]; exact lies_new w S)
  have B1 := hide (show Below w.heap.size w w1 by rw [H1.out]; exact (Below.refl _ _).alloc (Nat.le_refl _) _)
  have hz1 : w.heap.size < w1.heap.size := L1.out.lt
  gi_wp2_with (refine wpListIn_box_told rfl 28 (.tmp 1) rfl _ rfl ?_)
  intro w2 H2
  have L2 := hide (show Lies w2 w.heap.size S by rw [H2.out]; exact L1.out.alloc _)
  have O2 := hide (show Lies w2 w1.heap.size O by rw [H2.out]; exact lies_new w1 O)
  have B2 := hide (show Below w.heap.size w w2 by rw [H2.out]; exact B1.out.alloc (by omega) _)
  have hz2 : w1.heap.size < w2.heap.size := O2.out.lt
  gi_wp2_with (refine wpListIn_alloc_told rfl 28 rfl _ set_zero ?_)
  intro w3 H3
  have L3 := hide (show Lies w3 w.heap.size S by rw [H3.out]; exact L2.out.alloc _)
  have O3 := hide (show Lies w3 w1.heap.size O by rw [H3.out]; exact O2.out.alloc _)
  have Z3 := hide (show Lies w3 w2.heap.size empty by rw [H3.out]; exact lies_new w2 empty)
  have B3 := hide (show Below w.heap.size w w3 by rw [H3.out]; exact B2.out.alloc (by omega) _)
  have hz3 : w2.heap.size < w3.heap.size := Z3.out.lt
  clear H1 H2 H3 L1 B1 L2 O2 B2
  have HR := hide O3.out.range
  gi_wp2_with (first | with_reducible refine wpListIn_load_mid rfl 28 (.tmp 3) rfl w1.heap.size 0 rfl (bcels O) _ HR.out Try.underlying28 rfl (by rw [set_size, HlO.out]) ?_)
  refine ⟨trivial, ?_⟩
  refine (All_in Fence.wide _ trivial hro O _).mono ?_
  rintro e w' ⟨rfl, rfl⟩
  gi_wp2
  have L4 := hide (L3.out.alloc (.cells (bcels O).toArray 28))
  have Z4 := hide (Z3.out.alloc (.cells (bcels O).toArray 28))
  have O4 := hide (lies_new w3 O)
  have B4 := hide (B3.out.alloc (by omega) (.cells (bcels O).toArray 28))
  generalize w3.alloc (.cells (bcels O).toArray 28) = W0 at *
  have hz4 : w3.heap.size < W0.heap.size := O4.out.lt
  clear HR L3 O3 Z3 B3
  refine wpIn_rangeFunc_ownF hro (by omega) (gf := 29) (lb := #[.pointer (some ⟨w3.heap.size, 0, none⟩)]) rfl trivial (enters_of Try.func29 (by kernel_rfl) rfl)
    (All_stops Fence.wide (9 - 1) trivial hro (by omega) w3.heap.size O HO.out (Below w.heap.size) W0 O4.out) belowK_t (belowK_b (by omega)) (Below.refl _ _) (fun _ => rfl)
    (fun pre W => (Lies W w.heap.size (setAll true S pre) ∧ Lies W w2.heap.size empty) ∧ Below w.heap.size w W)
    (fun _ _ _ => False)
    (OwnFrom.and (Own.from (fun s A B row hs hg hr => ⟨hs.1.grown hg hr, hs.2.grown hg hr⟩) _) (ownFrom_below (Nat.le_refl _) (by omega)))
    (fun _ _ _ _ _ hs _ _ => hs)
    ⟨⟨L4.out, Z4.out⟩, B4.out⟩
    (fun x => { tmps := #[.agg (bcels S).toArray, .agg (bcels O).toArray, .pointer (some ⟨w.heap.size, 0, none⟩), .pointer (some ⟨w1.heap.size, 0, none⟩), .pointer (some ⟨w2.heap.size, 0, none⟩), .int .i64 (x.1 : Int), .agg (bcels O).toArray, .func (.func 29) #[] #[.pointer (some ⟨w3.heap.size, 0, none⟩)], .int .i64 (x.1 : Int), undef, undef, undef, undef], defers := [] }) ?assign ?body ?done ?stop
  case assign =>
    intro l x W K hK
    gi_wp2
    simpa using hK
  case body =>
    rintro l pre x W ⟨⟨hL, hZ⟩, hB⟩ hlt
    have HL := hide hL
    have HZ := hide hZ
    have HB := hide hB
    have Hl : Hid ((bcels (setAll true S pre)).length = 8) := by rw [bcels_length, setAll_length]; exact HS.out
    have Hl2 : Hid ((bcels (put (setAll true S pre) (x.1 : Int) true)).length = 8) := by rw [bcels_length, put_length, setAll_length]; exact HS.out
    have HR := hide hL.range
    have hlt1 := hL.lt
    have hlt2 := hZ.lt
    clear hL hZ hB hlt
    gi_wp2_with (first | with_reducible refine wpListIn_load_mid rfl 28 (.tmp 2) rfl w.heap.size 0 rfl (bcels (setAll true S pre)) _ HR.out Try.underlying28 rfl (by rw [set_size, Hl.out]) ?_)
    refine ⟨trivial, ?_⟩
    refine (CallsIn.inRound l (callsIn_wide.2 (HW.out x pre W))).mono ?_
    rintro e W1 ⟨rfl, hb⟩
    have HL1 := hide (HL.out.below hb hlt1)
    have HZ1 := hide (HZ.out.below hb hlt2)
    have HBB := hide hb
    clear hb
    unfold val
    gi_wp2_with (with_reducible refine wpListIn_store_told rfl 28 (.tmp 2) (.tmp 11) rfl w.heap.size (bcels (put (setAll true S pre) (x.1 : Int) true)).toArray rfl rfl _ HL1.out.heap (by rw [set_size, List.size_toArray, Hl2.out]) (by rw [List.size_toArray, List.size_toArray, Hl2.out, Hl.out]) (all_oneCell_toArray (bcels_one _)) ?_)
    intro W2 HW2
    gi_wp2
    rw [HW2.out]
    have hbw := HBB.out.mono (Nat.le_of_lt hlt1)
    exact ⟨(keeps_below HBB.out (Nat.le_refl _)).trans (keeps_row HL1.out _), hbw.trans (below_row (Nat.le_refl _) _), ⟨by rw [setAll_snoc]; exact HL1.out.row, HZ1.out.row_other (by omega) _⟩, (HB.out.trans hbw).trans (below_row (Nat.le_refl _) _)⟩
  case done =>
    rintro D ys W hD rfl ⟨⟨hL, hZ⟩, hB⟩ hK
    have HL := hide hL
    have HZ := hide hZ
    have HB := hide hB
    have Hl : Hid ((bcels (orr S O)).length = 8) := by rw [bcels_length, orr_length]; exact HS.out
    have HR := hide hL.range
    have HK := hide hK
    have e : Hid (setAll true S (ones O) = orr S O) := hide rfl
    rw [e.out] at HL HR
    clear hL hZ hB hK
    gi_wp2_with (first | with_reducible refine wpListIn_load_mid rfl 28 (.tmp 2) rfl w.heap.size 0 rfl (bcels (orr S O)) _ HR.out Try.underlying28 rfl (by rw [set_size, Hl.out]) ?_ | with_reducible refine wpListIn_store_told rfl 28 (.tmp 4) (.tmp 12) rfl w2.heap.size (bcels (orr S O)).toArray rfl rfl _ HZ.out.heap (by rw [set_size, List.size_toArray, Hl.out]) (by rw [List.size_toArray, List.size_toArray, Hl.out, bcels_length, empty_length]) (all_oneCell_toArray (bcels_one _)) ?_)
    intro W2 HW2
    gi_wp2
    have HZ2 : Lies W2 w2.heap.size (orr S O) := by rw [HW2.out]; exact HZ.out.row
    have HB2 : Below w.heap.size w W2 := by rw [HW2.out]; exact HB.out.trans (below_row (by omega) _)
    have hK2 : W2.heap[D]? = some (.deferred (some [])) := by rw [HW2.out]; exact (keeps_row HZ.out _).same D _ HK.out rfl
    refine ⟨by simp, .inl ⟨_, _, rfl, run_takeDeferred hK2, ?_⟩⟩
    exact ⟨.agg (bcels (orr S O)).toArray, results_cell_row rfl _ _ w2.heap.size 28 _ (0, 0) _ rfl ((World.putObj_heap_other (by omega)).trans HZ2.heap) Try.underlying28 rfl (by rw [set_size, List.size_toArray, Hl.out]), rfl, HB2.trans (belowK_b (w := w) (Nat.le_refl _) W2 D _ _ (by omega) hK2 rfl rfl)⟩
  case stop =>
    rintro D c pre W _ _ h _
    exact h.elim

set_option maxRecDepth 100000 in
set_option maxHeartbeats 2000000 in
theorem But_any (S O : BSet) (hS : S.length = 8) (hO : O.length = 8) (w : World) : Calls Try.prog 18 #[val S, val O] w fun e w' => e = .returned (val (but S O)) ∧ Below w.heap.size w w' := by
  have HS := hide hS
  have HO := hide hO
  have HlS : Hid ((bcels S).length = 8) := by rw [bcels_length]; exact hS
  have HlO : Hid ((bcels O).length = 8) := by rw [bcels_length]; exact hO
  have HW := hide (fun (x : On O) (xs : List (On O)) W => Without_any (setAll false S xs) (by rw [setAll_length]; exact hS) (x.1 : Int) W)
  clear hS hO
  unfold val
  refine (callsIn_wide (n := 9)).1 ?_
  have hro : Fence.wide.round = none := rfl
  refine callsIn_of_wp_marks Try.func18 rfl trivial ?_ hro
  simp only [Try.ntmps18, List.size_toArray, List.length_cons, List.length_nil, Nat.reduceAdd, Nat.reduceSub, Array.replicate_succ, Array.replicate_zero, List.push_toArray, List.append_toArray, List.nil_append, List.cons_append]
  gi_wp2_with (refine wpListIn_box_told rfl 28 (.tmp 0) rfl _ rfl ?_)
  intro w1 H1
  have L1 := hide (show Lies w1 w.heap.size S by rw [H1.out]; exact lies_new w S)
  have B1 := hide (show Below w.heap.size w w1 by rw [H1.out]; exact (Below.refl _ _).alloc (Nat.le_refl _) _)
  have hz1 : w.heap.size < w1.heap.size := L1.out.lt
  gi_wp2_with (refine wpListIn_box_told rfl 28 (.tmp 1) rfl _ rfl ?_)
  intro w2 H2
  have L2 := hide (show Lies w2 w.heap.size S by rw [H2.out]; exact L1.out.alloc _)
  have O2 := hide (show Lies w2 w1.heap.size O by rw [H2.out]; exact lies_new w1 O)
  have B2 := hide (show Below w.heap.size w w2 by rw [H2.out]; exact B1.out.alloc (by omega) _)
  have hz2 : w1.heap.size < w2.heap.size := O2.out.lt
  gi_wp2_with (refine wpListIn_alloc_told rfl 28 rfl _ set_zero ?_)
  intro w3 H3
  have L3 := hide (show Lies w3 w.heap.size S by rw [H3.out]; exact L2.out.alloc _)
  have O3 := hide (show Lies w3 w1.heap.size O by rw [H3.out]; exact O2.out.alloc _)
  have Z3 := hide (show Lies w3 w2.heap.size empty by rw [H3.out]; exact lies_new w2 empty)
  have B3 := hide (show Below w.heap.size w w3 by rw [H3.out]; exact B2.out.alloc (by omega) _)
  have hz3 : w2.heap.size < w3.heap.size := Z3.out.lt
  clear H1 H2 H3 L1 B1 L2 O2 B2
  have HR := hide O3.out.range
  gi_wp2_with (first | with_reducible refine wpListIn_load_mid rfl 28 (.tmp 3) rfl w1.heap.size 0 rfl (bcels O) _ HR.out Try.underlying28 rfl (by rw [set_size, HlO.out]) ?_)
  refine ⟨trivial, ?_⟩
  refine (All_in Fence.wide _ trivial hro O _).mono ?_
  rintro e w' ⟨rfl, rfl⟩
  gi_wp2
  have L4 := hide (L3.out.alloc (.cells (bcels O).toArray 28))
  have Z4 := hide (Z3.out.alloc (.cells (bcels O).toArray 28))
  have O4 := hide (lies_new w3 O)
  have B4 := hide (B3.out.alloc (by omega) (.cells (bcels O).toArray 28))
  generalize w3.alloc (.cells (bcels O).toArray 28) = W0 at *
  have hz4 : w3.heap.size < W0.heap.size := O4.out.lt
  clear HR L3 O3 Z3 B3
  refine wpIn_rangeFunc_ownF hro (by omega) (gf := 29) (lb := #[.pointer (some ⟨w3.heap.size, 0, none⟩)]) rfl trivial (enters_of Try.func29 (by kernel_rfl) rfl)
    (All_stops Fence.wide (9 - 1) trivial hro (by omega) w3.heap.size O HO.out (Below w.heap.size) W0 O4.out) belowK_t (belowK_b (by omega)) (Below.refl _ _) (fun _ => rfl)
    (fun pre W => (Lies W w.heap.size (setAll false S pre) ∧ Lies W w2.heap.size empty) ∧ Below w.heap.size w W)
    (fun _ _ _ => False)
    (OwnFrom.and (Own.from (fun s A B row hs hg hr => ⟨hs.1.grown hg hr, hs.2.grown hg hr⟩) _) (ownFrom_below (Nat.le_refl _) (by omega)))
    (fun _ _ _ _ _ hs _ _ => hs)
    ⟨⟨L4.out, Z4.out⟩, B4.out⟩
    (fun x => { tmps := #[.agg (bcels S).toArray, .agg (bcels O).toArray, .pointer (some ⟨w.heap.size, 0, none⟩), .pointer (some ⟨w1.heap.size, 0, none⟩), .pointer (some ⟨w2.heap.size, 0, none⟩), .int .i64 (x.1 : Int), .agg (bcels O).toArray, .func (.func 29) #[] #[.pointer (some ⟨w3.heap.size, 0, none⟩)], .int .i64 (x.1 : Int), undef, undef, undef, undef], defers := [] }) ?assign ?body ?done ?stop
  case assign =>
    intro l x W K hK
    gi_wp2
    simpa using hK
  case body =>
    rintro l pre x W ⟨⟨hL, hZ⟩, hB⟩ hlt
    have HL := hide hL
    have HZ := hide hZ
    have HB := hide hB
    have Hl : Hid ((bcels (setAll false S pre)).length = 8) := by rw [bcels_length, setAll_length]; exact HS.out
    have Hl2 : Hid ((bcels (put (setAll false S pre) (x.1 : Int) false)).length = 8) := by rw [bcels_length, put_length, setAll_length]; exact HS.out
    have HR := hide hL.range
    have hlt1 := hL.lt
    have hlt2 := hZ.lt
    clear hL hZ hB hlt
    gi_wp2_with (first | with_reducible refine wpListIn_load_mid rfl 28 (.tmp 2) rfl w.heap.size 0 rfl (bcels (setAll false S pre)) _ HR.out Try.underlying28 rfl (by rw [set_size, Hl.out]) ?_)
    refine ⟨trivial, ?_⟩
    refine (CallsIn.inRound l (callsIn_wide.2 (HW.out x pre W))).mono ?_
    rintro e W1 ⟨rfl, hb⟩
    have HL1 := hide (HL.out.below hb hlt1)
    have HZ1 := hide (HZ.out.below hb hlt2)
    have HBB := hide hb
    clear hb
    unfold val
    gi_wp2_with (with_reducible refine wpListIn_store_told rfl 28 (.tmp 2) (.tmp 11) rfl w.heap.size (bcels (put (setAll false S pre) (x.1 : Int) false)).toArray rfl rfl _ HL1.out.heap (by rw [set_size, List.size_toArray, Hl2.out]) (by rw [List.size_toArray, List.size_toArray, Hl2.out, Hl.out]) (all_oneCell_toArray (bcels_one _)) ?_)
    intro W2 HW2
    gi_wp2
    rw [HW2.out]
    have hbw := HBB.out.mono (Nat.le_of_lt hlt1)
    exact ⟨(keeps_below HBB.out (Nat.le_refl _)).trans (keeps_row HL1.out _), hbw.trans (below_row (Nat.le_refl _) _), ⟨by rw [setAll_snoc]; exact HL1.out.row, HZ1.out.row_other (by omega) _⟩, (HB.out.trans hbw).trans (below_row (Nat.le_refl _) _)⟩
  case done =>
    rintro D ys W hD rfl ⟨⟨hL, hZ⟩, hB⟩ hK
    have HL := hide hL
    have HZ := hide hZ
    have HB := hide hB
    have Hl : Hid ((bcels (but S O)).length = 8) := by rw [bcels_length, but_length]; exact HS.out
    have HR := hide hL.range
    have HK := hide hK
    have e : Hid (setAll false S (ones O) = but S O) := hide rfl
    rw [e.out] at HL HR
    clear hL hZ hB hK
    gi_wp2_with (first | with_reducible refine wpListIn_load_mid rfl 28 (.tmp 2) rfl w.heap.size 0 rfl (bcels (but S O)) _ HR.out Try.underlying28 rfl (by rw [set_size, Hl.out]) ?_ | with_reducible refine wpListIn_store_told rfl 28 (.tmp 4) (.tmp 12) rfl w2.heap.size (bcels (but S O)).toArray rfl rfl _ HZ.out.heap (by rw [set_size, List.size_toArray, Hl.out]) (by rw [List.size_toArray, List.size_toArray, Hl.out, bcels_length, empty_length]) (all_oneCell_toArray (bcels_one _)) ?_)
    intro W2 HW2
    gi_wp2
    have HZ2 : Lies W2 w2.heap.size (but S O) := by rw [HW2.out]; exact HZ.out.row
    have HB2 : Below w.heap.size w W2 := by rw [HW2.out]; exact HB.out.trans (below_row (by omega) _)
    have hK2 : W2.heap[D]? = some (.deferred (some [])) := by rw [HW2.out]; exact (keeps_row HZ.out _).same D _ HK.out rfl
    refine ⟨by simp, .inl ⟨_, _, rfl, run_takeDeferred hK2, ?_⟩⟩
    exact ⟨.agg (bcels (but S O)).toArray, results_cell_row rfl _ _ w2.heap.size 28 _ (0, 0) _ rfl ((World.putObj_heap_other (by omega)).trans HZ2.heap) Try.underlying28 rfl (by rw [set_size, List.size_toArray, Hl.out]), rfl, HB2.trans (belowK_b (w := w) (Nat.le_refl _) W2 D _ _ (by omega) hK2 rfl rfl)⟩
  case stop =>
    rintro D c pre W _ _ h _
    exact h.elim

end Go.Proofs.Ytmenedndchakjaa.Bt
