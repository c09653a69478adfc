/-
  The contracts of gate's Thaw, Tick and Enter, also of a nil gate. Nothing but the gate's own block is changed.
-/
import Derived.Test.YtjholhmgainbfaaDoorGaAfter
namespace Go.Proofs.YtjholhmgainbfaaDoor.Ga
open Go.RowKit
open Pk Dk

theorem call_size : (Tryd.prog.info? 32).map (·.size) = some 3 := by kernel_rfl
theorem gcs_set {a l : Int} {Q : List Cl} {n k : Nat} (c : Cl) (hk : k < Q.length) :
    (gcs a l Q n).take (2 + k * 3) ++ (ccel c ++ (gcs a l Q n).drop (2 + k * 3 + 3)) = gcs a l (Q.set k c) n := by
  have hl := ccels_length Q
  have h1 : (gcs a l Q n).take (2 + k * 3) = .int .i64 a :: .int .i64 l :: (ccels Q).take (k * 3) := by
    show List.take (2 + k * 3) (_ :: _ :: (ccels Q ++ _)) = _
    rw [show 2 + k * 3 = k * 3 + 1 + 1 by omega, List.take_succ_cons, List.take_succ_cons, List.take_append_of_le_length (by omega)]
  have h2 : (gcs a l Q n).drop (2 + k * 3 + 3) = (ccels Q).drop (k * 3 + 3) ++ [.int .i64 (n : Int)] := by
    show List.drop (2 + k * 3 + 3) (_ :: _ :: (ccels Q ++ _)) = _
    rw [show 2 + k * 3 + 3 = k * 3 + 3 + 1 + 1 by omega, List.drop_succ_cons, List.drop_succ_cons, List.drop_append_of_le_length (by omega)]
  rw [h1, h2]
  have h3 := flat_set Q (ccel_len Q) k c hk rfl
  show _ :: _ :: ((ccels Q).take (k * 3) ++ (ccel c ++ ((ccels Q).drop (k * 3 + 3) ++ _))) = _ :: _ :: (ccels (Q.set k c) ++ _)
  rw [← List.append_assoc (ccel c), ← List.append_assoc]
  exact congrArg (fun x => Value.int .i64 a :: Value.int .i64 l :: (x ++ [Value.int .i64 (n : Int)])) h3

section
variable {w w' w2 : World} {g n : Nat} {a l : Int} {Q : List Cl}
theorem Bx.stored (h : Bx w g a l Q n) (hn : n < 4) (c : Cl) : Bx (w.setRow g ((gcs a l Q n).toArray.toList.take (2 + n * 3) ++ (ccel c ++ (gcs a l Q n).toArray.toList.drop (2 + n * 3 + (ccel c).length))).toArray) g a l (Q.set n c) n :=
  { h with
    box := by
      have e := gcs_set (a := a) (l := l) (n := n) (k := n) c (Q := Q) (by rw [h.len]; exact hn)
      rw [setRow_heap _ _ _ _ _ _ h.box]
      show some (Obj.cells ((gcs a l Q n).take (2 + n * 3) ++ (ccel c ++ (gcs a l Q n).drop (2 + n * 3 + 3))).toArray _ _) = _
      rw [e]
    len := by rw [List.length_set]; exact h.len }
theorem gcs_count {a l : Int} {Q : List Cl} {n m : Nat} (h : Q.length = 4) : (gcs a l Q n).toArray.setIfInBounds 14 (.int .i64 (m : Int)) = (gcs a l Q m).toArray := by
  match Q, h with
  | [q0, q1, q2, q3], _ => rfl
theorem Gt.more {c : Cl} (h : Gt w g a l Q n) (hb : Bx w2 g a l (Q.set n c) n) (hn : n < 4) (hl : l ≠ 0) : Gt (w2.setCell ⟨g, 14, none⟩ (.int .i64 ((n + 1 : Nat) : Int))) g a l (Q.set n c) (n + 1) :=
  { h with
    box := by rw [heap_setCell_same _ g 14 _ _ _ hb.box, gcs_count hb.len]
    len := hb.len
    few := by omega
    idle := fun e => absurd e hl }

/-! ### Thaw -/
set_option maxRecDepth 100000 in
theorem Thaw_nil (r : Int) (w : World) : Calls Tryd.prog 11 #[.pointer none, .int .i64 r] w fun e w' => ∃ p, e = .returned (.tuple #[.slice none 0 0, .iface 72 (.pointer (some ⟨p, 0, none⟩))]) ∧ Fails w 0 9 p w' := by
  go_enter Tryd.func11, Tryd.ntmps11
  go_wp2_with fail
  refine (failed_any 0 9 w rfl).mono ?_
  rintro e w' ⟨p, rfl, hf⟩
  have HF := hide hf
  clear hf
  go_wp2
  go_ret2
  exact ⟨_, rfl, HF.out⟩
set_option maxRecDepth 100000 in
theorem Thaw_bad (h : Gt w g a l Q n) (r : Int) (hr : rnd a l = 0 ∨ rnd a l ≠ r) :
    Calls Tryd.prog 11 #[.pointer (some ⟨g, 0, none⟩), .int .i64 r] w fun e w' => ∃ p, e = .returned (.tuple #[.slice none 0 0, .iface 72 (.pointer (some ⟨p, 0, none⟩))]) ∧ Fails w r 9 p w' := by
  have HG := hide h
  clear h
  by_cases h0 : rnd a l = 0
  · have HF0 := hide (show Calls Tryd.prog 22 #[.pointer (some ⟨g, 0, none⟩)] w fun e w' => e = .returned (.int .i64 0) ∧ w = w' by have := Frozen_any HG.out; rw [h0] at this; exact this)
    clear h0 hr
    go_enter Tryd.func11, Tryd.ntmps11
    go_wp2_with fail
    refine HF0.out.mono ?_
    rintro e w' ⟨rfl, rfl⟩
    go_wp2_with fail
    refine (failed_any r 9 w rfl).mono ?_
    rintro e w' ⟨p, rfl, hf⟩
    have HF := hide hf
    clear hf HF0
    go_wp2
    go_ret2
    exact ⟨_, rfl, HF.out⟩
  · have q0 : (rnd a l == 0) = false := by simpa using h0
    have q1 : (rnd a l != r) = true := by simpa using hr.resolve_left h0
    have HF0 := hide (Frozen_any HG.out)
    clear h0 hr
    go_enter Tryd.func11, Tryd.ntmps11
    go_wp2_with fail
    refine HF0.out.mono ?_
    rintro e w' ⟨rfl, rfl⟩
    go_wp2_with fail
    refine HF0.out.mono ?_
    rintro e w' ⟨rfl, rfl⟩
    go_wp2_with fail
    refine (failed_any r 9 w rfl).mono ?_
    rintro e w' ⟨p, rfl, hf⟩
    have HF := hide hf
    clear hf HF0
    go_wp2
    go_ret2
    exact ⟨_, rfl, HF.out⟩
set_option maxRecDepth 100000 in
theorem Thaw_ok (h : Gt w g a l Q n) (hl : l ≠ 0) :
    Calls Tryd.prog 11 #[.pointer (some ⟨g, 0, none⟩), .int .i64 a] w fun e w' => ∃ v, e = .returned (.tuple #[v, .nilIface]) ∧ Rowq w' w.heap.size v (Q.take n) ∧ GP w g a 0 noQ 0 w' := by
  have HG := hide h
  have h1 := h.on hl
  have hr : rnd a l = a := by unfold rnd; rw [if_neg hl]
  have HF0 := hide (show Calls Tryd.prog 22 #[.pointer (some ⟨g, 0, none⟩)] w fun e w' => e = .returned (.int .i64 a) ∧ w = w' by have := Frozen_any h; rw [hr] at this; exact this)
  have q0 : (a == 0) = false := by simp; omega
  have q1 : (a != a) = false := by simp
  clear h hl hr h1
  go_enter Tryd.func11, Tryd.ntmps11
  go_wp2_with fail
  refine HF0.out.mono ?_
  rintro e w' ⟨rfl, rfl⟩
  go_wp2_with fail
  refine HF0.out.mono ?_
  rintro e w' ⟨rfl, rfl⟩
  go_wp2_with fail
  refine (after_thaw HG.out).mono ?_
  rintro e w' ⟨v, rfl, hr, hp⟩
  have HR := hide hr
  have HP := hide hp
  clear hr hp HF0
  go_wp2
  go_ret2
  exact ⟨_, rfl, HR.out, HP.out⟩

/-! ### Tick -/
set_option maxRecDepth 100000 in
theorem Tick_nil (w : World) : Calls Tryd.prog 17 #[.pointer none] w fun e w' => e = .returned (.slice none 0 0) ∧ w = w' := by
  go_enter Tryd.func17, Tryd.ntmps17
  go_wp2_with fail
  refine (Frozen_nil w).mono ?_
  rintro e w' ⟨rfl, rfl⟩
  go_wp2
  go_ret
  exact ⟨rfl, rfl⟩
set_option maxRecDepth 100000 in
theorem Tick_open (h : Gt w g a 0 Q n) : Calls Tryd.prog 17 #[.pointer (some ⟨g, 0, none⟩)] w fun e w' => e = .returned (.slice none 0 0) ∧ w = w' := by
  have HF0 := hide (show Calls Tryd.prog 22 #[.pointer (some ⟨g, 0, none⟩)] w fun e w' => e = .returned (.int .i64 0) ∧ w = w' from Frozen_any h)
  clear h
  go_enter Tryd.func17, Tryd.ntmps17
  go_wp2_with fail
  refine HF0.out.mono ?_
  rintro e w' ⟨rfl, rfl⟩
  go_wp2
  go_ret
  exact ⟨rfl, rfl⟩
set_option maxRecDepth 100000 in
theorem Tick_less (h : Gt w g a l Q n) (hl : 2 ≤ l) : Calls Tryd.prog 17 #[.pointer (some ⟨g, 0, none⟩)] w fun e w' => e = .returned (.slice none 0 0) ∧ GP w g a (l - 1) Q n w' := by
  have HG := hide h
  have hl0 : l ≠ 0 := by omega
  have h1 := h.on hl0
  have hr : rnd a l = a := by unfold rnd; rw [if_neg hl0]
  have HF0 := hide (show Calls Tryd.prog 22 #[.pointer (some ⟨g, 0, none⟩)] w fun e w' => e = .returned (.int .i64 a) ∧ w = w' by have := Frozen_any h; rw [hr] at this; exact this)
  have q0 : (a == 0) = false := by simp; omega
  have Hl := hide hl
  clear h hl hr h1 hl0
  go_enter Tryd.func17, Tryd.ntmps17
  go_wp2_with fail
  refine HF0.out.mono ?_
  rintro e w' ⟨rfl, rfl⟩
  go_wp2_with fail
  refine (after_less HG.out Hl.out).mono ?_
  rintro e w' ⟨rfl, hp⟩
  have HP := hide hp
  clear hp HF0
  go_wp2
  go_ret
  exact ⟨rfl, HP.out⟩
set_option maxRecDepth 100000 in
theorem Tick_last (h : Gt w g a 1 Q n) : Calls Tryd.prog 17 #[.pointer (some ⟨g, 0, none⟩)] w fun e w' => ∃ v, e = .returned v ∧ Rowq w' w.heap.size v (Q.take n) ∧ GP w g a 0 noQ 0 w' := by
  have HG := hide h
  have h1 := h.on (by omega)
  have HF0 := hide (show Calls Tryd.prog 22 #[.pointer (some ⟨g, 0, none⟩)] w fun e w' => e = .returned (.int .i64 a) ∧ w = w' from Frozen_any h)
  have q0 : (a == 0) = false := by simp; omega
  clear h h1
  go_enter Tryd.func17, Tryd.ntmps17
  go_wp2_with fail
  refine HF0.out.mono ?_
  rintro e w' ⟨rfl, rfl⟩
  go_wp2_with fail
  refine (after_last HG.out).mono ?_
  rintro e w' ⟨v, rfl, hr, hp⟩
  have HR := hide hr
  have HP := hide hp
  clear hr hp HF0
  go_wp2
  go_ret
  exact ⟨_, rfl, HR.out, HP.out⟩

/-! ### Enter -/
set_option maxRecDepth 100000 in
theorem Enter_nil (c : Cl) (w : World) : Calls Tryd.prog 15 #[.pointer none, cl3 c] w fun e w' => ∃ p, e = .returned (.tuple #[.bool false, .iface 72 (.pointer (some ⟨p, 0, none⟩))]) ∧ Fails w 0 9 p w' := by
  go_enter Tryd.func15, Tryd.ntmps15
  go_wp2_with (refine wpList_box_told rfl 32 (.tmp 1) rfl _ rfl ?_)
  intro w1 Hw1
  have HB1 : Hid (Below w.heap.size w w1) := by rw [Hw1.out]; exact (Below.refl _ _).alloc (Nat.le_refl _) _
  clear Hw1
  go_wp2_with fail
  refine (failed_any 0 9 w1 rfl).mono ?_
  rintro e w' ⟨p, rfl, hf⟩
  have HF : Hid (Fails w 0 9 p w') := ⟨hf.1, HB1.out.trans (hf.2.mono HB1.out.size)⟩
  clear hf
  go_wp2
  go_ret2
  exact ⟨_, rfl, HF.out⟩
set_option maxRecDepth 100000 in
theorem Enter_open (h : Gt w g a 0 Q n) (c : Cl) : Calls Tryd.prog 15 #[.pointer (some ⟨g, 0, none⟩), cl3 c] w fun e w' => e = .returned (.tuple #[.bool true, .nilIface]) ∧ Below w.heap.size w w' := by
  have HG := hide h
  clear h
  go_enter Tryd.func15, Tryd.ntmps15
  go_wp2_with (refine wpList_box_told rfl 32 (.tmp 1) rfl _ rfl ?_)
  intro w1 Hw1
  have HB1 : Hid (Below w.heap.size w w1) := by rw [Hw1.out]; exact (Below.refl _ _).alloc (Nat.le_refl _) _
  clear Hw1
  go_wp2_with fail
  refine (show Calls Tryd.prog 22 #[.pointer (some ⟨g, 0, none⟩)] w1 fun e w' => e = .returned (.int .i64 0) ∧ w1 = w' from Frozen_any (HG.out.below HB1.out)).mono ?_
  rintro e w' ⟨rfl, rfl⟩
  go_wp2
  go_ret2
  exact ⟨rfl, HB1.out⟩
set_option maxRecDepth 100000 in
theorem Enter_full (h : Gt w g a l Q 4) (c : Cl) : Calls Tryd.prog 15 #[.pointer (some ⟨g, 0, none⟩), cl3 c] w fun e w' => ∃ p, e = .returned (.tuple #[.bool false, .iface 72 (.pointer (some ⟨p, 0, none⟩))]) ∧ Fails w a 7 p w' := by
  have HG := hide h
  have hl0 : l ≠ 0 := fun e => by have := h.idle e; omega
  have h1 := h.on hl0
  have hr : rnd a l = a := by unfold rnd; rw [if_neg hl0]
  have HF0 := hide (fun (W : World) (hW : Gt W g a l Q 4) => show Calls Tryd.prog 22 #[.pointer (some ⟨g, 0, none⟩)] W fun e w' => e = .returned (.int .i64 a) ∧ W = w' by have := Frozen_any hW; rw [hr] at this; exact this)
  have q0 : (a == 0) = false := by simp; omega
  clear h hr h1 hl0
  go_enter Tryd.func15, Tryd.ntmps15
  go_wp2_with (refine wpList_box_told rfl 32 (.tmp 1) rfl _ rfl ?_)
  intro w1 Hw1
  have HB1 : Hid (Below w.heap.size w w1) := by rw [Hw1.out]; exact (Below.refl _ _).alloc (Nat.le_refl _) _
  clear Hw1
  have HG1 := hide (HG.out.below HB1.out)
  have hc14 : w1.cell? ⟨g, 14, none⟩ = some (.int .i64 4) := HG1.out.c14
  go_wp2_with fail
  refine (HF0.out w1 HG1.out).mono ?_
  rintro e w' ⟨rfl, rfl⟩
  go_wp2_with fail
  refine (HF0.out w1 HG1.out).mono ?_
  rintro e w' ⟨rfl, rfl⟩
  go_wp2_with fail
  refine (failed_any a 7 w1 rfl).mono ?_
  rintro e w' ⟨p, rfl, hf⟩
  have HF : Hid (Fails w a 7 p w') := ⟨hf.1, HB1.out.trans (hf.2.mono HB1.out.size)⟩
  clear hf HF0
  go_wp2
  go_ret2
  exact ⟨_, rfl, HF.out⟩

set_option maxRecDepth 100000 in
set_option maxHeartbeats 2000000 in
theorem Enter_in (h : Gt w g a l Q n) (hl : l ≠ 0) (hn : n < 4) (c : Cl) : Calls Tryd.prog 15 #[.pointer (some ⟨g, 0, none⟩), cl3 c] w fun e w' => e = .returned (.tuple #[.bool false, .nilIface]) ∧ GP w g a l (Q.set n c) (n + 1) w' := by
  have HG := hide h
  have h1 := h.on hl
  have hr : rnd a l = a := by unfold rnd; rw [if_neg hl]
  have HF0 := hide (fun (W : World) (hW : Gt W g a l Q n) => show Calls Tryd.prog 22 #[.pointer (some ⟨g, 0, none⟩)] W fun e w' => e = .returned (.int .i64 a) ∧ W = w' by have := Frozen_any hW; rw [hr] at this; exact this)
  have q0 : (a == 0) = false := by simp; omega
  have hni : (n : Int) < 4 := by omega
  have hn0 : (0 : Int) ≤ (n : Int) := by omega
  have q4 : ((n : Int) == 4) = false := by simp; omega
  have Hn := hide hn
  have Hl0 := hide hl
  have Hft := hide (show 2 + n * 3 + (ccel c).length ≤ (gcs a l Q n).toArray.size by rw [List.size_toArray, gcs_length h.len]; show 2 + n * 3 + 3 ≤ 15; omega)
  clear h hr h1 hl hn
  go_enter Tryd.func15, Tryd.ntmps15
  go_wp2_with (refine wpList_box_told rfl 32 (.tmp 1) rfl _ rfl ?_)
  intro w1 Hw1
  have HB1 : Hid (Below w.heap.size w w1) := by rw [Hw1.out]; exact (Below.refl _ _).alloc (Nat.le_refl _) _
  have hx : ∀ j u, (ccel c)[j]? = some u → w1.drew.cell? ⟨w.heap.size, j, none⟩ = some u := fun j u hu => by
    have hh : w1.drew.heap[w.heap.size]? = some (.cells #[.int .i64 c.id, .int .i64 c.b, .string c.d] 32 (0, 0)) := by rw [Hw1.out]; exact heap_alloc_new w _
    rw [cell_of_row _ _ j _ _ _ hh]
    exact List.getElem?_toArray.trans hu
  have hx0 := hx 0 _ rfl
  have hx1 := hx 1 _ rfl
  have hx2 := hx 2 _ rfl
  clear Hw1 hx
  have HG1 := hide (HG.out.below HB1.out)
  have HB := hide HG1.out.bx
  have hc14 := HG1.out.c14
  go_wp2_with fail
  refine (HF0.out w1 HG1.out).mono ?_
  rintro e w' ⟨rfl, rfl⟩
  clear HF0
  go_wp2
  have hc14 : w1.drew.cell? ⟨g, 14, none⟩ = some (.int .i64 (n : Int)) := HB.out.drew.c14
  refine wp_region_any (by kernel_rfl) ?_
  change wpAny _ _ _ _ _ _ _ (World.drew _)
  refine wpAny_take (i := 0) (oi := ⟨some 23, _, _, _, _, _⟩) (v := ?_) rfl (by kernel_rfl) (by kernel_rfl) (by kernel_rfl) (fun _ _ _ h => h) (Or.inl ⟨by rfl, ?_⟩) ?_
  rotate_left 1
  · (intro w; go_simp; try with_reducible rfl)
  simp only [Act.put, List.setIfInBounds_toArray, List.set_cons_zero, List.set_cons_succ]
  refine wpAny_take (i := 1) (oi := ⟨some 24, _, _, _, _, _⟩) (v := ?_) rfl (by kernel_rfl) (by kernel_rfl) (by kernel_rfl) (fun _ _ _ h => h) (Or.inl ⟨by rfl, ?_⟩) ?_
  rotate_left 1
  · (intro w; go_simp; try with_reducible rfl)
  simp only [Act.put, List.setIfInBounds_toArray, List.set_cons_zero, List.set_cons_succ]
  refine wpAny_take (i := 2) (oi := ⟨some 25, _, _, _, _, _⟩) (v := ?_) rfl (by kernel_rfl) (by kernel_rfl) (by kernel_rfl) (fun _ _ _ h => h) (Or.inl ⟨by rfl, ?_⟩) ?_
  rotate_left 1
  · (intro w; go_simp; try with_reducible rfl)
  simp only [Act.put, List.setIfInBounds_toArray, List.set_cons_zero, List.set_cons_succ]
  refine wpAny_take (i := 3) (oi := ⟨some 26, _, _, _, _, _⟩) (v := ?_) rfl (by kernel_rfl) (by kernel_rfl) (by kernel_rfl) (fun _ _ _ h => h) (Or.inl ⟨by rfl, ?_⟩) ?_
  rotate_left 1
  · (intro w; go_simp; try with_reducible rfl)
  simp only [Act.put, List.setIfInBounds_toArray, List.set_cons_zero, List.set_cons_succ]
  refine wpAny_take (i := 6) (oi := ⟨some 29, _, _, _, _, _⟩) (v := ?_) rfl (by kernel_rfl) (by kernel_rfl) (by kernel_rfl) (fun _ _ _ h => h) (Or.inl ⟨by rfl, ?_⟩) ?_
  rotate_left 1
  · (intro w; go_simp; try with_reducible rfl)
  simp only [Act.put, List.setIfInBounds_toArray, List.set_cons_zero, List.set_cons_succ]
  refine wpAny_take (i := 7) (oi := ⟨some 30, _, _, _, _, _⟩) (v := ?_) rfl (by kernel_rfl) (by kernel_rfl) (by kernel_rfl) (fun _ _ _ h => h) (Or.inl ⟨by rfl, ?_⟩) ?_
  rotate_left 1
  · (intro w; go_simp; try with_reducible rfl)
  simp only [Act.put, List.setIfInBounds_toArray, List.set_cons_zero, List.set_cons_succ]
  refine wpAny_ready (rs := [4, 5]) (by kernel_rfl) (by simp) ?_
  refine AllReady.cons (o := ⟨some 27, _, _, _, _, _⟩) rfl (fun K hK => ?_) (AllReady.cons (o := ⟨some 28, _, _, _, _, _⟩) rfl (fun K hK => ?_) AllReady.nil)
  · go_simp
    refine hK _ _ ?_
    clear hK K
    refine wpAny_ready (rs := [5]) (by kernel_rfl) (by simp) ?_
    refine AllReady.cons (o := ⟨some 28, _, _, _, _, _⟩) rfl (fun K hK => ?_) AllReady.nil
    go_simp
    refine hK _ _ ?_
    clear hK K
    refine wpAny_take (i := 8) (oi := ⟨some 31, _, _, _, _, _⟩) (v := ?_) rfl (by kernel_rfl) (by kernel_rfl) (by kernel_rfl) (fun _ _ _ h => h) (Or.inl ⟨by rfl, ?_⟩) ?_
    rotate_left 1
    · (intro w; go_simp; try with_reducible rfl)
    simp only [Act.put, List.setIfInBounds_toArray, List.set_cons_zero, List.set_cons_succ]
    refine wpAny_ready (rs := [9]) (by kernel_rfl) (by simp) ?_
    refine AllReady.cons (o := ⟨none, _, _, _, _, _⟩) rfl (fun K hK => ?_) AllReady.nil
    refine step_wp rfl (wp_store_at 32 (.tmp 31) (.tmp 28) rfl g (2 + n * 3) (ccel c) rfl rfl 35 (gcs a l Q n).toArray HB.out.drew.box call_size Hft.out (ccel_one c) ?_)
    refine hK _ _ ?_
    clear hK K
    refine wpAny_done (by kernel_rfl) ?_ _
    have HB2 := hide (HB.out.drew.stored Hn.out c)
    have HK2 := hide ((Kept.trans (Kept.of_below HB1.out) (Grew.refl _ _) ((Kept.of_below (G := (· = g)) (Below.refl w1.heap.size w1).drew).row (g := g) rfl ((gcs a l Q n).toArray.toList.take (2 + n * 3) ++ (ccel c ++ (gcs a l Q n).toArray.toList.drop (2 + n * 3 + (ccel c).length))).toArray)))
    generalize w1.drew.setRow g _ = w2 at *
    have hc14' := HB2.out.c14
    have hf14' := HB2.out.frozen 14
    clear hc14 HB
    have HP : Hid (GP w g a l (Q.set n c) (n + 1) (w2.setCell ⟨g, 14, none⟩ (.int .i64 ((n + 1 : Nat) : Int)))) := ⟨HG.out.more HB2.out Hn.out Hl0.out, HK2.out.store (p := ⟨g, 14, none⟩) rfl _⟩
    have e : ((n + 1 : Nat) : Int) = (n : Int) + 1 := by omega
    rw [e] at HP
    clear e
    go_wp2
    go_ret2
    exact ⟨rfl, HP.out⟩
  · go_simp
    refine hK _ _ ?_
    clear hK K
    refine wpAny_ready (rs := [4]) (by kernel_rfl) (by simp) ?_
    refine AllReady.cons (o := ⟨some 27, _, _, _, _, _⟩) rfl (fun K hK => ?_) AllReady.nil
    go_simp
    refine hK _ _ ?_
    clear hK K
    refine wpAny_take (i := 8) (oi := ⟨some 31, _, _, _, _, _⟩) (v := ?_) rfl (by kernel_rfl) (by kernel_rfl) (by kernel_rfl) (fun _ _ _ h => h) (Or.inl ⟨by rfl, ?_⟩) ?_
    rotate_left 1
    · (intro w; go_simp; try with_reducible rfl)
    simp only [Act.put, List.setIfInBounds_toArray, List.set_cons_zero, List.set_cons_succ]
    refine wpAny_ready (rs := [9]) (by kernel_rfl) (by simp) ?_
    refine AllReady.cons (o := ⟨none, _, _, _, _, _⟩) rfl (fun K hK => ?_) AllReady.nil
    refine step_wp rfl (wp_store_at 32 (.tmp 31) (.tmp 28) rfl g (2 + n * 3) (ccel c) rfl rfl 35 (gcs a l Q n).toArray HB.out.drew.box call_size Hft.out (ccel_one c) ?_)
    refine hK _ _ ?_
    clear hK K
    refine wpAny_done (by kernel_rfl) ?_ _
    have HB2 := hide (HB.out.drew.stored Hn.out c)
    have HK2 := hide ((Kept.trans (Kept.of_below HB1.out) (Grew.refl _ _) ((Kept.of_below (G := (· = g)) (Below.refl w1.heap.size w1).drew).row (g := g) rfl ((gcs a l Q n).toArray.toList.take (2 + n * 3) ++ (ccel c ++ (gcs a l Q n).toArray.toList.drop (2 + n * 3 + (ccel c).length))).toArray)))
    generalize w1.drew.setRow g _ = w2 at *
    have hc14' := HB2.out.c14
    have hf14' := HB2.out.frozen 14
    clear hc14 HB
    have HP : Hid (GP w g a l (Q.set n c) (n + 1) (w2.setCell ⟨g, 14, none⟩ (.int .i64 ((n + 1 : Nat) : Int)))) := ⟨HG.out.more HB2.out Hn.out Hl0.out, HK2.out.store (p := ⟨g, 14, none⟩) rfl _⟩
    have e : ((n + 1 : Nat) : Int) = (n : Int) + 1 := by omega
    rw [e] at HP
    clear e
    go_wp2
    go_ret2
    exact ⟨rfl, HP.out⟩

end

end Go.Proofs.YtjholhmgainbfaaDoor.Ga
