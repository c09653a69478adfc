/-
  The contract of bits.Text: a digit for each block. Nothing that was there is changed.
-/
import Derived.Laws.IdiomStrings
import Derived.Test.YtmenedndchakjaaBtShelf
import Derived.Test.YtmenedndchakjaaBtOr
namespace Go.Proofs.Ytmenedndchakjaa.Bt
open Go.RowKit Go.Shelf
open Pk Sm

attribute [local go_sem] Oper.semAt_some

theorem wpListIn_convert_told {F : Fence} {n : Nat} {P : Program} {ops : Array Oper} {rest : List Oper} {o : Oper} {a : Act} {w w' : World} {Q : Exit → Act → World → Prop} (hg : o.guard = none) (t u : TypeId) (x : Operand) (ho : o.op = .convert t u x)
    (v : Value) (hx : a.eval x = v) {r : Value} (hrun : (convert t u v).run P w = .ok r w') (h : wpListIn F n P ops Q rest (a.put o.dst r) w') : wpListIn F n P ops Q (o :: rest) a w := by
  refine wpListIn_plain hg fun K hK => ?_
  unfold Oper.wpIn
  refine ⟨by simp [Oper.about, ho], ?_⟩
  rw [Oper.semAt_plain F _ _ (by rw [ho]; intro c hc'; cases hc')]
  simp only [execOp, ho, hx, Sem.run_bind, hrun, Sem.run_pure, Result.andThen_ok]
  exact hK _ _ h

/-- A row of digits that may be written. -/
def Digs (W : World) (g : Nat) (S : BSet) : Prop := (∀ k x, (digs S)[k]? = some x → W.cell? ⟨g, k, none⟩ = some (cel x)) ∧ ∀ k, k < S.length → W.frozen? ⟨g, k, none⟩ = false
theorem Digs.grown {W W' : World} {g : Nat} {S : BSet} {row : Option Nat} (h : Digs W g S) (hg : W.grownBy W' row) (hr : ∀ r, row = some r → ∃ o : Obj, W.heap[r]? = some o ∧ o.isCells = false) : Digs W' g S := by
  refine ⟨fun k x hx => cell_kept (h.1 k x hx) hg hr, fun k hk => ?_⟩
  have hc := h.1 k _ (List.getElem?_eq_getElem (by rw [digs_length]; exact hk))
  exact (frozen_kept hc hg hr).trans (h.2 k hk)
theorem Digs.alloc {W : World} {g : Nat} {S : BSet} (h : Digs W g S) (o : Obj) : Digs (W.alloc o) g S := h.grown (World.grownBy_alloc W o none) (fun r e => by cases e)
theorem Digs.set {W : World} {g k : Nat} {S : BSet} (h : Digs W g S) (hk : k < S.length) : Digs (W.setCell ⟨g, k, none⟩ (.int .u8 49)) g (S.set k true) := by
  refine ⟨fun j x hx => ?_, fun j hj => ?_⟩
  · have hx' : ((digs S).set k 49)[j]? = some x := by
      rw [← hx, digs, digs, List.map_set]
      rfl
    by_cases e : j = k
    · subst e
      rw [List.getElem?_set_self (by rw [digs_length]; exact hk)] at hx'
      cases hx'
      have hc := h.1 j _ (List.getElem?_eq_getElem (by rw [digs_length]; exact hk))
      exact World.cell?_setCell_same' _ _ _ (by rw [hc]; rfl)
    · rw [List.getElem?_set_ne (Ne.symm e)] at hx'
      rw [World.cell?_setCell_other]
      · exact h.1 j x hx'
      · intro e'
        simp only [Addr.mk.injEq, true_and, and_true] at e'
        exact e e'.symm
  · rw [World.frozen?_setCell]
    exact h.2 j (by rwa [List.length_set] at hj)
theorem Digs.cell_other {W : World} {g : Nat} {S : BSet} (h : Digs W g S) (p : Addr) (v : Value) (hp : p.block ≠ g) : Digs (W.setCell p v) g S := by
  refine ⟨fun j x hx => ?_, fun j hj => by rw [World.frozen?_setCell]; exact h.2 j hj⟩
  rw [World.cell?_setCell_other]
  · exact h.1 j x hx
  · rintro rfl
    exact hp rfl
theorem Digs.byt {W : World} {g : Nat} {S : BSet} (h : Digs W g S) (hg : g < W.heap.size) : Byt W W.heap.size (some ⟨g, 0, none⟩) (digs S) := fun _ =>
  ⟨g, 0, rfl, hg, fun j u hu => by rw [Nat.zero_add]; exact h.1 j u hu⟩

def zeros : ByteArray := ⟨(Lib.repeatL [48] 8).toArray⟩
theorem zeros_digs : zeros.data.toList = digs empty := rfl
theorem zeros_size : zeros.size = 8 := rfl
/-- []byte of eight zeros. -/
theorem zeros_row (w : World) : ∃ (w' : World) (c : Nat), 8 ≤ c ∧ c ≤ 9223372036854775807 ∧ (convert 9 51 (.string zeros)).run Try.prog w = .ok (.slice (some ⟨w.heap.size, 0, none⟩) 8 c) w' ∧ Digs w' w.heap.size empty ∧ Below w.heap.size w w' ∧ w.heap.size < w'.heap.size := by
  have hr := run_bytes_of_string w 9 51 5 zeros Try.underlying9 Try.underlying51 Try.underlying5
  have hge := grownCap_ge w zeros.size 0 5
  have hle := grownCap_le_maxLen w zeros.size 0 5 (by rw [zeros_size]; unfold maxLen; omega)
  rw [zeros_size] at hr hge hle
  generalize hc : grownCap w 8 0 5 = c at *
  have hsz : (bytesRow zeros c).size = c := by
    have : zeros.data.size = 8 := zeros_size
    simp only [bytesRow, Array.size_append, Array.size_map, Array.size_replicate, zeros_size, this]
    omega
  have hcell : ∀ k x, (digs empty)[k]? = some x → (bytesRow zeros c)[k]? = some (cel x) := fun k x hx => by
    have hk : k < 8 := (List.getElem?_eq_some_iff.1 hx).1
    have hz : zeros.data[k]? = some x := by rw [← Array.getElem?_toList, zeros_digs]; exact hx
    rw [bytesRow, Array.getElem?_append_left (by rw [Array.size_map]; exact hk), Array.getElem?_map, hz]
    rfl
  have hh : (w.drew.alloc (.cells (bytesRow zeros c) 5 ((bytesRow zeros c).size, (bytesRow zeros c).size + 1))).heap[w.heap.size]? = some (.cells (bytesRow zeros c) 5 ((bytesRow zeros c).size, (bytesRow zeros c).size + 1)) := World.alloc_heap_new w.drew _
  refine ⟨_, c, hge, Nat.le_trans hle (by unfold maxLen; omega), hr, ⟨fun k x hx => ?_, fun k hk => ?_⟩, ((Below.refl _ w).drew).alloc (Nat.le_refl _) _, by simp⟩
  · simp only [World.cell?]
    rw [hh]
    exact hcell k x hx
  · have hk8 : k < 8 := hk
    simp only [World.frozen?]
    rw [hh]
    simp [hsz]
    omega

set_option maxRecDepth 100000 in
set_option maxHeartbeats 2000000 in
theorem Text_any (S : BSet) (hS : S.length = 8) (w : World) : Calls Try.prog 20 #[val S] w fun e w' => e = .returned (.string (txt S)) ∧ Below w.heap.size w w' := by
  have HS := hide hS
  have Hl : Hid ((bcels S).length = 8) := by rw [bcels_length]; exact hS
  have HRep : Hid (∀ W, Calls Try.prog 28 #[.string ⟨#[48]⟩, .int .i64 8] W fun e w' => e = .returned (.string zeros) ∧ Below W.heap.size W w') := hide (fun W => Try.strings_Repeat ⟨#[48]⟩ 8 W (by omega) (by decide))
  clear hS
  unfold val
  refine (callsIn_wide (n := 9)).1 ?_
  have hro : Fence.wide.round = none := rfl
  refine callsIn_of_wp_marks Try.func20 rfl trivial ?_ hro
  simp only [Try.ntmps20, List.size_toArray, List.length_cons, List.length_nil, Nat.reduceAdd, Nat.reduceSub, Array.replicate_succ, Array.replicate_zero, List.push_toArray, List.append_toArray, List.nil_append, List.cons_append]
  gi_wp2_with (refine wpListIn_box_told rfl 28 (.tmp 0) rfl _ rfl ?_)
  intro w1 H1
  have L1 := hide (show Lies w1 w.heap.size S by rw [H1.out]; exact lies_new w S)
  have B1 := hide (show Below w.heap.size w w1 by rw [H1.out]; exact (Below.refl _ _).alloc (Nat.le_refl _) _)
  have hz1 : w.heap.size < w1.heap.size := L1.out.lt
  clear H1
  gi_wp2
  refine ⟨trivial, ?_⟩
  refine (callsIn_wide.2 (HRep.out w1)).mono ?_
  rintro e w2 ⟨rfl, hb2⟩
  have L2 := hide (L1.out.below hb2 hz1)
  have B2 := hide (B1.out.trans (hb2.mono (Nat.le_of_lt hz1)))
  have hz2 := hb2.size
  clear hb2 L1 B1 HRep
  obtain ⟨w3, c, hc8, hc63, hrun, hD, hb3, hz3⟩ := zeros_row w2
  have HRun := hide hrun
  have L3 := hide (L2.out.below hb3 (by omega))
  have B3 := hide (B2.out.trans (hb3.mono (by omega)))
  have D3 := hide hD
  clear hrun hD hb3 L2 B2
  have L4 := hide (L3.out.alloc (.cells #[.slice (some ⟨w2.heap.size, 0, none⟩) 8 c] 51))
  have D4 := hide (D3.out.alloc (.cells #[.slice (some ⟨w2.heap.size, 0, none⟩) 8 c] 51))
  have B4 := hide (B3.out.alloc (by omega) (.cells #[.slice (some ⟨w2.heap.size, 0, none⟩) 8 c] 51))
  have C4 := hide (cell_new_l w3 (.slice (some ⟨w2.heap.size, 0, none⟩) 8 c) 51)
  have HR := hide L4.out.range
  clear L3 D3 B3
  gi_wp2_with (first | with_reducible refine wpListIn_convert_told rfl 9 51 (.tmp 5) rfl (.string zeros) rfl HRun.out ?_ | with_reducible refine wpListIn_load_mid rfl 28 (.tmp 1) rfl w.heap.size 0 rfl (bcels S) _ HR.out Try.underlying28 rfl (by rw [set_size, Hl.out]) ?_)
  refine ⟨trivial, ?_⟩
  refine (All_in Fence.wide _ trivial hro S _).mono ?_
  rintro e w' ⟨rfl, rfl⟩
  gi_wp2
  have e4 := hide (World.size_alloc w3 (.cells #[.slice (some ⟨w2.heap.size, 0, none⟩) 8 c] 51))
  have D5 := hide (D4.out.alloc (.cells (bcels S).toArray 28))
  have L5 := hide (lies_new (w3.alloc (.cells #[.slice (some ⟨w2.heap.size, 0, none⟩) 8 c] 51)) S)
  have B5 := hide (B4.out.alloc (by rw [e4.out]; omega) (.cells (bcels S).toArray 28))
  have C5 := hide (cell_alloc_l (.cells (bcels S).toArray 28) C4.out.1)
  rw [e4.out] at L5
  have z5 : w3.heap.size + 1 < ((w3.alloc (.cells #[.slice (some ⟨w2.heap.size, 0, none⟩) 8 c] 51)).alloc (.cells (bcels S).toArray 28)).heap.size := by simp
  clear e4 D4 B4 C4 L4 HR
  generalize (w3.alloc (.cells #[.slice (some ⟨w2.heap.size, 0, none⟩) 8 c] 51)).alloc (.cells (bcels S).toArray 28) = W0 at *
  refine wpIn_rangeFunc_ownF hro (by omega) (gf := 29) (lb := #[.pointer (some ⟨w3.heap.size + 1, 0, none⟩)]) rfl trivial (enters_of Try.func29 (by kernel_rfl) rfl)
    (All_stops Fence.wide (9 - 1) trivial hro (by omega) (w3.heap.size + 1) S HS.out (Below w.heap.size) W0 L5.out) belowK_t (belowK_b (by omega)) (Below.refl _ _) (fun _ => rfl)
    (fun pre W => (Digs W w2.heap.size (setAll true empty pre) ∧ W.cell? ⟨w3.heap.size, 0, none⟩ = some (.slice (some ⟨w2.heap.size, 0, none⟩) 8 c)) ∧ Below w.heap.size w W)
    (fun _ _ _ => False)
    (OwnFrom.and (Own.from (fun s A B row hs hg hr => ⟨hs.1.grown hg hr, cell_kept hs.2 hg hr⟩) _) (ownFrom_below (Nat.le_refl _) (by omega)))
    (fun _ _ _ _ _ hs _ _ => hs)
    ⟨⟨D5.out, C5.out⟩, B5.out⟩
    (fun x => { tmps := #[.agg (bcels S).toArray, .pointer (some ⟨w.heap.size, 0, none⟩), .string ⟨#[]⟩, .pointer (some ⟨w3.heap.size, 0, none⟩), .int .i64 (x.1 : Int), .string zeros, .slice (some ⟨w2.heap.size, 0, none⟩) 8 c, .agg (bcels S).toArray, .func (.func 29) #[] #[.pointer (some ⟨w3.heap.size + 1, 0, none⟩)], .int .i64 (x.1 : Int), undef, undef, undef, undef, undef], defers := [] }) ?assign ?body ?done ?stop
  case assign =>
    intro l x W K hK
    gi_wp2
    simpa using hK
  case body =>
    rintro l pre x W ⟨⟨hD, hc⟩, hB⟩ hlt
    obtain ⟨k, hk⟩ := x
    have hk8 : k < 8 := On.lt HS.out ⟨k, hk⟩
    have hl8 : (setAll true empty pre).length = 8 := setAll_length true pre empty
    obtain ⟨cv, hcell⟩ : ∃ cv, W.cell? ⟨w2.heap.size, k, none⟩ = some (cel cv) := ⟨_, hD.1 k _ (List.getElem?_eq_getElem (by rw [digs_length, hl8]; exact hk8))⟩
    have hfr := hD.2 k (by rw [hl8]; exact hk8)
    have HD2 := hide (hD.set (k := k) (by rw [hl8]; exact hk8))
    have HP : Hid (setAll true empty (pre ++ [⟨k, hk⟩]) = (setAll true empty pre).set k true) := by
      rw [setAll_snoc]
      exact put_in _ k true hk8
    have HC := hide ((World.cell?_setCell_other W ⟨w2.heap.size, k, none⟩ ⟨w3.heap.size, 0, none⟩ (.int .u8 49) (by intro e; simp only [Addr.mk.injEq] at e; omega)).trans hc)
    have HB := hide hB
    clear hD hB hlt hl8
    gi_wp2
    exact ⟨KeepsOthers.setCell _ _ _, (Below.refl w.heap.size W).setCell (p := ⟨w2.heap.size, k, none⟩) (by show w.heap.size ≤ w2.heap.size; omega) _, ⟨by rw [HP.out]; exact HD2.out, HC.out⟩, HB.out.setCell (p := ⟨w2.heap.size, k, none⟩) (by show w.heap.size ≤ w2.heap.size; omega) _⟩
  case done =>
    rintro D ys W hD rfl ⟨⟨hd, hc⟩, hB⟩ hK
    have HB := hide hB
    have e : Hid (setAll true empty (ones S) = S) := hide (orr_empty HS.out)
    rw [e.out] at hd
    have hsz := hB.size
    have hrun := run_str W W.heap.size (some ⟨w2.heap.size, 0, none⟩) (digs S) 8 c (by rw [digs_length]; exact HS.out) (hd.byt (by have := (Array.getElem?_eq_some_iff.1 hK).1; omega))
    have HRun2 := hide hrun
    clear hB hd hrun
    gi_wp2_with (with_reducible refine wpListIn_convert_told rfl 51 9 (.tmp 13) rfl (.slice (some ⟨w2.heap.size, 0, none⟩) 8 c) rfl HRun2.out ?_)
    refine ⟨by simp, .inl ⟨_, _, rfl, run_takeDeferred hK, ?_⟩⟩
    exact ⟨_, results_tmp rfl _ _ _, rfl, HB.out.trans (belowK_b (w := w) (Nat.le_refl _) W D _ _ (by omega) hK rfl rfl)⟩
  case stop =>
    rintro D c pre W _ _ h _
    exact h.elim

end Go.Proofs.Ytmenedndchakjaa.Bt
