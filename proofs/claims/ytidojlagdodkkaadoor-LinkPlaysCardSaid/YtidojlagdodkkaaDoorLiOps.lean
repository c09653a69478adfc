/-
  The contracts of New, Len, full, has, Send, remove, Deliver, Double, Drop and Cut of a link, of one that is nil too. Nothing but the link's own blocks is changed.
-/
import Derived.Test.YtidojlagdodkkaaDoorLkErr
import Derived.Test.YtidojlagdodkkaaDoorLiMem
namespace Go.Proofs.YtidojlagdodkkaaDoor.Li
open Go.RowKit
open Pk Dk Wn Lk

theorem wrap_id {n : Int} (h1 : -1000000 ≤ n) (h2 : n ≤ 1000000) : IntKind.i64.wrap n = n := by rw [IntKind.wrap_i64]; omega
theorem wpList_box_told {P : Program} {ops : Array Oper} {rest : List Oper} {o : Oper} {a : Act} {w : World} {Q : Exit → Act → World → Prop} (hg : o.guard = none) (t : TypeId) (x : Operand) (ho : o.op = .box t x)
    (z : Array Value) (hz : a.eval x = .agg z)
    (h : ∀ w', Hid (w' = w.alloc (.cells z t)) → wpList P ops Q rest (a.put o.dst (.pointer (some ⟨w.heap.size, 0, none⟩))) w') : wpList P ops Q (o :: rest) a w := by
  refine wpList_plain hg fun K hK => ?_
  unfold Oper.wp execOp
  simp only [ho, hz, Sem.run_bind, Instr.box, newVar, newRow, run_newObj_alloc, Sem.run_pure, Result.andThen_ok, Value.cells]
  exact hK _ _ (h _ rfl)
/-- The capacity that New makes of a number. -/
def cap (r : Int) : Nat := (min (max r 0) 4096).toNat
theorem cap_le (r : Int) : cap r ≤ 4096 := by unfold cap; omega
set_option maxRecDepth 100000 in
theorem New_any (r : Int) (w : World) : Calls Tryd.prog 23 #[.int .i64 r] w fun e w' => e = .returned (.pointer (some ⟨w.heap.size, 0, none⟩)) ∧ Lnk w.heap.size [] (cap r) false w' (· = w.heap.size) ∧ Below w.heap.size w w' := by
  obtain ⟨q, hq⟩ : ∃ q, cap r = q := ⟨_, rfl⟩
  have hqw : min (max r 0) 4096 = (q : Int) := by rw [← hq]; unfold cap; omega
  have HQ := hide (show q ≤ 4096 by rw [← hq]; exact cap_le r)
  rw [hq]
  clear hq
  go_enter Tryd.func23, Tryd.ntmps23
  go_wp2_with (refine wpList_box_told rfl 72 (.tmp 6) rfl #[.slice none 0 0, .int .i64 (q : Int), .bool false] ?_ ?_)
  · go_simp
  · intro w1 Hw1
    have HL : Hid (Lnk w.heap.size [] q false w1 (· = w.heap.size) ∧ Below w.heap.size w w1) := by
      rw [Hw1.out]
      exact ⟨Lnk.fresh w q HQ.out, (Below.refl _ _).alloc (Nat.le_refl _) _⟩
    clear Hw1
    go_wp2
    go_ret
    exact ⟨rfl, HL.out⟩

/-! ### A nil link -/
set_option maxRecDepth 100000 in
theorem Len_nil (w : World) : Calls Tryd.prog 26 #[.pointer none] w fun e w' => e = .returned (.int .i64 0) ∧ Below w.heap.size w w' := by
  have HB := hide (Below.refl w.heap.size w)
  go_enter Tryd.func26, Tryd.ntmps26
  go_wp2
  go_ret
  exact ⟨rfl, HB.out⟩
set_option maxRecDepth 100000 in
theorem Send_nil (x : Int) (w : World) : Calls Tryd.prog 24 #[.pointer none, .int .i64 x] w fun e w' => ∃ q, e = .returned (.iface 67 (.pointer (some ⟨q, 0, none⟩))) ∧ Fails w 0 11 q w' := by
  go_enter Tryd.func24, Tryd.ntmps24
  go_wp2_with fail
  refine (absent_any w).mono ?_
  rintro e w' ⟨q, rfl, hf⟩
  have HF := hide hf
  clear hf
  go_wp2
  go_ret
  exact ⟨_, rfl, HF.out⟩
set_option maxRecDepth 100000 in
theorem Deliver_nil (i : Int) (w : World) : Calls Tryd.prog 27 #[.pointer none, .int .i64 i] w fun e w' => ∃ q, e = .returned (.tuple #[.int .i64 0, .iface 67 (.pointer (some ⟨q, 0, none⟩))]) ∧ Fails w 0 11 q w' := by
  go_enter Tryd.func27, Tryd.ntmps27
  go_wp2_with fail
  refine (absent_any w).mono ?_
  rintro e w' ⟨q, rfl, hf⟩
  have HF := hide hf
  clear hf
  go_wp2
  go_ret2
  exact ⟨_, rfl, HF.out⟩
set_option maxRecDepth 100000 in
theorem Double_nil (i : Int) (w : World) : Calls Tryd.prog 25 #[.pointer none, .int .i64 i] w fun e w' => ∃ q, e = .returned (.iface 67 (.pointer (some ⟨q, 0, none⟩))) ∧ Fails w 0 11 q w' := by
  go_enter Tryd.func25, Tryd.ntmps25
  go_wp2_with fail
  refine (absent_any w).mono ?_
  rintro e w' ⟨q, rfl, hf⟩
  have HF := hide hf
  clear hf
  go_wp2
  go_ret
  exact ⟨_, rfl, HF.out⟩
section
variable {w : World} {G : Nat → Prop} {p R : Nat} {C : Bool} {L : List Int}
set_option maxRecDepth 100000 in
theorem Len_any (h : Lnk p L R C w G) : Calls Tryd.prog 26 #[.pointer (some ⟨p, 0, none⟩)] w fun e w' => e = .returned (.int .i64 (L.length : Int)) ∧ Below w.heap.size w w' := by
  obtain ⟨A, n, c, _, hn, _, _, _, c0, _⟩ := h.cells
  rw [← hn]
  have HB := hide (Below.refl w.heap.size w)
  clear h hn
  go_enter Tryd.func26, Tryd.ntmps26
  go_wp2
  go_ret
  exact ⟨rfl, HB.out⟩
set_option maxRecDepth 100000 in
theorem full_any (h : Lnk p L R C w G) : Calls Tryd.prog 36 #[.pointer (some ⟨p, 0, none⟩)] w fun e w' => e = .returned (.bool (decide (R ≤ L.length))) ∧ Below w.heap.size w w' := by
  obtain ⟨A, n, c, _, hn, _, _, _, c0, c1, _⟩ := h.cells
  rw [← hn]
  clear h hn
  go_enter Tryd.func36, Tryd.ntmps36
  go_wp2_with fail
  go_quiet (fail)
  go_wp2
  go_ret
  exact ⟨rfl, ⟨rfl, rfl, rfl, Nat.le_refl _, fun _ _ => rfl⟩⟩
set_option maxRecDepth 100000 in
theorem has_yes (h : Lnk p L R C w G) (i : Nat) (hi : i < L.length) : Calls Tryd.prog 37 #[.pointer (some ⟨p, 0, none⟩), .int .i64 (i : Int)] w fun e w' => e = .returned (.bool true) ∧ Below w.heap.size w w' := by
  obtain ⟨A, n, c, _, hn, _, _, _, c0, _⟩ := h.cells
  rw [← hn] at hi
  have hin : (i : Int) < (n : Int) := by omega
  have hi0 : (0 : Int) ≤ (i : Int) := by omega
  have HB := hide (Below.refl w.heap.size w)
  clear h hn
  go_enter Tryd.func37, Tryd.ntmps37
  go_wp2
  go_ret
  exact ⟨by first | rfl | simp | simp [hi], HB.out⟩
set_option maxRecDepth 100000 in
theorem has_no (h : Lnk p L R C w G) (i : Int) (hi : i < 0 ∨ (L.length : Int) ≤ i) : Calls Tryd.prog 37 #[.pointer (some ⟨p, 0, none⟩), .int .i64 i] w fun e w' => e = .returned (.bool false) ∧ Below w.heap.size w w' := by
  obtain ⟨A, n, c, _, hn, _, _, _, c0, _⟩ := h.cells
  rw [← hn] at hi
  have HB := hide (Below.refl w.heap.size w)
  by_cases h1 : i < 0
  · have h2 : ¬ (0 : Int) ≤ i := by omega
    clear h hn hi
    go_enter Tryd.func37, Tryd.ntmps37
    go_wp2
    go_ret
    exact ⟨by first | rfl | simp [h1, h2], HB.out⟩
  · have h2 : (0 : Int) ≤ i := by omega
    have h3 : ¬ i < (n : Int) := by omega
    clear h hn hi
    go_enter Tryd.func37, Tryd.ntmps37
    go_wp2
    go_ret
    exact ⟨by first | rfl | simp [h3, h2], HB.out⟩

/-! ### Send -/
set_option maxRecDepth 100000 in
theorem Send_full (h : Lnk p L R C w G) (hf : L.length = R) (x : Int) : Calls Tryd.prog 24 #[.pointer (some ⟨p, 0, none⟩), .int .i64 x] w fun e w' => ∃ q, e = .returned (.iface 67 (.pointer (some ⟨q, 0, none⟩))) ∧ Fails w (L.length : Int) 6 q w' := by
  have HH := hide h
  have hd : decide (R ≤ L.length) = true := by rw [hf]; simp
  have HD := hide hd
  obtain ⟨n, hn⟩ : ∃ n, L.length = n := ⟨_, rfl⟩
  have HN := hide hn
  rw [hn]
  clear h hf hd hn
  go_enter Tryd.func24, Tryd.ntmps24
  go_wp2_with fail
  refine (full_any HH.out).mono ?_
  rintro e w1 ⟨rfl, hb1⟩
  rw [HD.out]
  have HB1 := hide hb1
  have HH1 := hide (HH.out.below hb1)
  clear hb1
  go_wp2_with fail
  refine (Len_any HH1.out).mono ?_
  rintro e w2 ⟨rfl, hb2⟩
  rw [HN.out]
  have HB2 := hide (HB1.out.trans (hb2.mono HB1.out.size))
  clear hb2
  go_wp2_with fail
  refine (failed_any (n : Int) 6 w2 rfl).mono ?_
  rintro e w3 ⟨q, rfl, hf⟩
  have HF : Hid (Fails w (n : Int) 6 q w3) := ⟨hf.1, HB2.out.trans (hf.2.mono HB2.out.size)⟩
  clear hf
  go_wp2
  go_ret
  exact ⟨_, rfl, HF.out⟩
set_option maxRecDepth 100000 in
set_option maxHeartbeats 1000000 in
theorem Send_ok (h : Lnk p L R C w G) (hf : L.length < R) (x : Int) : Calls Tryd.prog 24 #[.pointer (some ⟨p, 0, none⟩), .int .i64 x] w fun e w' => e = .returned .nilIface ∧ After (lnkT p (L ++ [x]) R C) w G w' := by
  have HH := hide h
  have hd : decide (R ≤ L.length) = false := by simp; omega
  have HD := hide hd
  have Hf := hide hf
  clear h hf hd
  go_enter Tryd.func24, Tryd.ntmps24
  go_wp2_with fail
  refine (full_any HH.out).mono ?_
  rintro e w1 ⟨rfl, hb1⟩
  rw [HD.out]
  have HB1 := hide hb1
  have HH1 := hide (HH.out.below hb1)
  obtain ⟨A, m, c, hx, hm, _, _, _, c0, _, _, _⟩ := HH1.out.cells
  obtain ⟨hb, hsrc⟩ := made_msg (Below.refl w1.heap.size w1) x
  have HO := hide (hx.row.below hb)
  have HM := hide hsrc
  have Hm1 := hide (show m + 1 ≤ maxLen by have := Hf.out; have := HH1.out.room; unfold maxLen; omega)
  have Hm2 := hide (show (m + 1) * 8 ≤ 140737488355328 by have := Hf.out; have := HH1.out.room; omega)
  have HS := hide (fun (v : Value) (W : World) (hg : Grown (w1.alloc (.cells #[.int .i64 x] 3)) 3 1 (.slice A m c) (m + 1) (vals L ++ cel x) v W) => (⟨(hx.cell' (hx.p_same hb hg) 0), hx.frozen' (hx.p_same hb hg) 0, Lnk.of (L := L ++ [x]) (hx.put hb hg) (by rw [List.length_append, ← hm]; rfl) (by rw [vals_append, vals_one1]; rfl) (by rw [List.length_append]; exact Hf.out) HH1.out.room⟩ : W.cell? ⟨p, 0, none⟩ = some (.slice A m c) ∧ W.frozen? ⟨p, 0, none⟩ = false ∧ After (lnkT p (L ++ [x]) R C) w1 G (W.setCell ⟨p, 0, none⟩ v)))
  clear hb1 hx hm hb hsrc
  go_wp2_with (at_builtin; go_must (refine wpList_app app_el rfl (.tmp 19) (.tmp 21) rfl (.slice A m c) m (vals L) rfl HO.out _ 1 1 (cel x) rfl rfl HM.out (cel_one _) (by decide) Hm1.out Hm2.out ?_))
  intro v w' hg
  obtain ⟨s0, s1, s2⟩ := HS.out v w' hg.out
  have HA := hide (s2.from HB1.out)
  obtain ⟨A', c', rfl, _, _, _⟩ := hg.out.row.form
  clear s2 hg HS HO HM c0
  go_wp2
  go_ret
  exact ⟨rfl, HA.out⟩

/-! ### A message goes -/
set_option maxRecDepth 100000 in
set_option maxHeartbeats 4000000 in
theorem remove_any (h : Lnk p L R C w G) (i : Nat) (hi : i < L.length) : Calls Tryd.prog 38 #[.pointer (some ⟨p, 0, none⟩), .int .i64 (i : Int)] w fun e w' => e = .returned (.tuple #[]) ∧ After (lnkT p (L.eraseIdx i) R C) w G w' := by
  obtain ⟨A, n, c, hx, hn, hnc, hcm, hs, c0, _, _, _⟩ := h.cells
  obtain ⟨g, o, rfl, hgl, _⟩ := hs (by
    intro e
    have := vals_len L
    rw [e] at this
    simp only [List.length_nil] at this
    omega)
  obtain ⟨d, hd⟩ : ∃ d, n = i + 1 + d := ⟨n - (i + 1), by omega⟩
  obtain ⟨q, hq⟩ : ∃ q, q = i + d := ⟨_, rfl⟩
  obtain ⟨j, hj⟩ : ∃ j, j = i + 1 := ⟨_, rfl⟩
  have h1 := h.len
  have h2 := h.room
  have hji : (i : Int) + 1 = (j : Int) := by omega
  have hjw : IntKind.i64.wrap (j : Int) = (j : Int) := wrap_id (by omega) (by omega)
  have hqi : (i : Int) + (d : Int) = (q : Int) := by omega
  have hqw : IntKind.i64.wrap (q : Int) = (q : Int) := wrap_id (by omega) (by omega)
  have b1 : (i : Int) ≤ (n : Int) := by omega
  have b2 : (j : Int) ≤ (n : Int) := by omega
  have b3 : (q : Int) ≤ (n : Int) := by omega
  have b4 : (i : Int) ≤ (c : Int) := by omega
  have b5 : (j : Int) ≤ (c : Int) := by omega
  have b6 : (q : Int) ≤ (c : Int) := by omega
  have b7 : (n : Int) ≤ (c : Int) := by omega
  have bb1 : i ≤ n := by omega
  have bb2 : j ≤ n := by omega
  have bb3 : q ≤ n := by omega
  have bb4 : i ≤ c := by omega
  have bb5 : j ≤ c := by omega
  have bb6 : q ≤ c := by omega
  have bc1 : ¬ c = i := by omega
  have bc2 : ¬ c = q := by omega
  have hcx : c ≤ 9223372036854775807 := by unfold maxLen at hcm; omega
  have hne : p ≠ g := fun e => (hx.own g rfl).2 e.symm
  have hgG := (hx.own g rfl).1
  have hpl := hx.lt p hx.mine
  -- what copy, clear and the store leave
  have HC : Hid (∀ W : World, Below w.heap.size w W → W.cell? ⟨p, 0, none⟩ = some (.slice (some ⟨g, o, none⟩) n c)) := fun W hW => (hW.cell (p := ⟨p, 0, none⟩) hpl).trans c0
  have HG : Hid (∀ (W : World) (ty : TypeId) (S : Value), Below w.heap.size w W → S = .slice (if c = j then some ⟨g, o, none⟩ else some ⟨g, o + j, none⟩) (n - j) (c - j) →
      ∃ w1, (Builtin.copy_ #[70, 70] ty #[.slice (some ⟨g, o + i, none⟩) (n - i) (c - i), S]).run Tryd.prog W = .ok (.int .i64 (d : Int)) w1 ∧ w1.cell? ⟨p, 0, none⟩ = some (.slice (some ⟨g, o, none⟩) n c) ∧
        ∀ ty', ∃ w2, (Builtin.clear_ #[70] ty' #[.slice (some ⟨g, o + q, none⟩) (n - q) (c - q)]).run Tryd.prog w1 = .ok (.tuple #[]) w2 ∧ w2.cell? ⟨p, 0, none⟩ = some (.slice (some ⟨g, o, none⟩) n c) ∧ w2.frozen? ⟨p, 0, none⟩ = false ∧
          After (lnkT p (L.eraseIdx i) R C) w G (w2.setCell ⟨p, 0, none⟩ (.slice (some ⟨g, o, none⟩) q c))) := fun W ty S hW hS => by
    have hr := hx.row.below hW
    obtain ⟨w1, ys, r1, r2, r3, r4⟩ := run_copy_gap app_el W ty hr (vals_one L) hd S (by
      rw [hS, hj]
      split
      · rename_i hc
        rw [show n - (i + 1) = 0 by omega, show c - (i + 1) = 0 by omega]
      · simp only [Nat.mul_one])
    have hp1 : w1.heap[p]? = w.heap[p]? := (r4.block p (Nat.lt_of_lt_of_le hpl hW.size) hne).trans (hW.block p hpl)
    refine ⟨w1, by simpa only [Nat.mul_one] using r1, (hx.cell' hp1 0), fun ty' => ?_⟩
    obtain ⟨w2, t1, t2, t3⟩ := run_clear_from app_el one_el (by decide) w1 ty' r2 (show q < n by omega)
    have hl1 := r4.size
    have hp2 : w2.heap[p]? = w.heap[p]? := (t3.block p (by have := hW.size; omega) hne).trans hp1
    refine ⟨w2, by simpa only [Nat.mul_one] using t1, hx.cell' hp2 0, hx.frozen' hp2 0, ?_⟩
    have hkk : Kept G w w2 := by
      refine ⟨t3.os.trans (r4.os.trans hW.os), t3.tape.trans (r4.tape.trans hW.tape), t3.output.trans (r4.output.trans hW.output), by have := hW.size; have := t3.size; omega, fun k hk hnk => ?_⟩
      have hkg : ¬ k = g := fun e => hnk (by rw [e]; exact hgG)
      rw [t3.block k (by have := hW.size; omega) hkg, r4.block k (by have := hW.size; omega) hkg, hW.block k hk]
    have hlen : (L.eraseIdx i).length = q := by rw [List.length_eraseIdx_of_lt hi]; omega
    rw [hq, r3, ← vals_erase] at t2
    rw [← hq] at t2
    refine Lnk.of (hx.put0 hkk hp2 t2 fun k hk => Or.inl hk) hlen.symm rfl (by omega) h2
  have K0 : Hid (Below w.heap.size w w.drew) := (Below.refl _ _).drew
  clear h hx hn hd hq hj h1 h2 hs hcm hgl hgG hpl hne hnc hi
  by_cases he : c = j
  · subst he
    go_enter Tryd.func38, Tryd.ntmps38
    go_wp2_with fail
    refine wp_region_any (by kernel_rfl) ?_
    change wpAny _ _ _ _ _ _ _ (World.drew _)
    generalize World.drew w = wd at *
    refine wpAny_take (i := 0) (oi := ⟨some 5, _, _, _, _, _⟩) (v := ?_) rfl (by kernel_rfl) (by kernel_rfl) (by kernel_rfl) (fun _ _ _ h => h) (Or.inl ⟨by rfl, ?_⟩) ?_
    rotate_left 1
    · (intro w; go_simp; try with_reducible rfl)
    simp only [Act.put, List.setIfInBounds_toArray, List.set_cons_zero, List.set_cons_succ]
    refine wpAny_take (i := 1) (oi := ⟨some 6, _, _, _, _, _⟩) (v := ?_) rfl (by kernel_rfl) (by kernel_rfl) (by kernel_rfl) (fun _ _ _ h => h) (Or.inl ⟨by rfl, ?_⟩) ?_
    rotate_left 1
    · (intro w; go_simp; try with_reducible rfl)
    simp only [Act.put, List.setIfInBounds_toArray, List.set_cons_zero, List.set_cons_succ]
    refine wpAny_take (i := 2) (oi := ⟨some 7, _, _, _, _, _⟩) (v := ?_) rfl (by kernel_rfl) (by kernel_rfl) (by kernel_rfl) (fun _ _ _ h => h) (Or.inl ⟨by rfl, ?_⟩) ?_
    rotate_left 1
    · (intro w; go_simp; try with_reducible rfl)
    simp only [Act.put, List.setIfInBounds_toArray, List.set_cons_zero, List.set_cons_succ]
    refine wpAny_take (i := 3) (oi := ⟨some 8, _, _, _, _, _⟩) (v := ?_) rfl (by kernel_rfl) (by kernel_rfl) (by kernel_rfl) (fun _ _ _ h => h) (Or.inl ⟨by rfl, ?_⟩) ?_
    rotate_left 1
    · (intro w; go_simp; try with_reducible rfl)
    simp only [Act.put, List.setIfInBounds_toArray, List.set_cons_zero, List.set_cons_succ]
    refine wpAny_take (i := 5) (oi := ⟨some 10, _, _, _, _, _⟩) (v := ?_) rfl (by kernel_rfl) (by kernel_rfl) (by kernel_rfl) (fun _ _ _ h => h) (Or.inl ⟨by rfl, ?_⟩) ?_
    rotate_left 1
    · (intro w; go_simp; try with_reducible rfl)
    simp only [Act.put, List.setIfInBounds_toArray, List.set_cons_zero, List.set_cons_succ]
    refine wpAny_take (i := 7) (oi := ⟨some 12, _, _, _, _, _⟩) (v := ?_) rfl (by kernel_rfl) (by kernel_rfl) (by kernel_rfl) (fun _ _ _ h => h) (Or.inl ⟨by rfl, ?_⟩) ?_
    rotate_left 1
    · (intro w; go_simp; try with_reducible rfl)
    simp only [Act.put, List.setIfInBounds_toArray, List.set_cons_zero, List.set_cons_succ]
    refine wpAny_take (i := 8) (oi := ⟨some 13, _, _, _, _, _⟩) (v := ?_) rfl (by kernel_rfl) (by kernel_rfl) (by kernel_rfl) (fun _ _ _ h => h) (Or.inl ⟨by rfl, ?_⟩) ?_
    rotate_left 1
    · (intro w; go_simp; try with_reducible rfl)
    simp only [Act.put, List.setIfInBounds_toArray, List.set_cons_zero, List.set_cons_succ]
    refine wpAny_take (i := 9) (oi := ⟨some 14, _, _, _, _, _⟩) (v := ?_) rfl (by kernel_rfl) (by kernel_rfl) (by kernel_rfl) (fun _ _ _ h => h) (Or.inl ⟨by rfl, ?_⟩) ?_
    rotate_left 1
    · (intro w; go_simp; try with_reducible rfl)
    simp only [Act.put, List.setIfInBounds_toArray, List.set_cons_zero, List.set_cons_succ]
    refine wpAny_take (i := 11) (oi := ⟨some 16, _, _, _, _, _⟩) (v := ?_) rfl (by kernel_rfl) (by kernel_rfl) (by kernel_rfl) (fun _ _ _ h => h) (Or.inl ⟨by rfl, ?_⟩) ?_
    rotate_left 1
    · (intro w; go_simp; try with_reducible rfl)
    simp only [Act.put, List.setIfInBounds_toArray, List.set_cons_zero, List.set_cons_succ]
    refine wpAny_take (i := 12) (oi := ⟨some 17, _, _, _, _, _⟩) (v := ?_) rfl (by kernel_rfl) (by kernel_rfl) (by kernel_rfl) (fun _ _ _ h => h) (Or.inl ⟨by rfl, ?_⟩) ?_
    rotate_left 1
    · (intro w; go_simp; try with_reducible rfl)
    simp only [Act.put, List.setIfInBounds_toArray, List.set_cons_zero, List.set_cons_succ]
    refine wpAny_ready (rs := [4, 10]) (by kernel_rfl) (by simp) ?_
    refine AllReady.cons (o := ⟨some 9, _, _, _, _, _⟩) rfl (fun K hK => ?_) (AllReady.cons (o := ⟨some 15, _, _, _, _, _⟩) rfl (fun K hK => ?_) AllReady.nil)
    · have hq := HC.out _ K0.out
      go_simp
      clear hq
      refine hK _ _ ?_
      clear hK K
      refine wpAny_take (i := 6) (oi := ⟨some 11, _, _, _, _, _⟩) (v := ?_) rfl (by kernel_rfl) (by kernel_rfl) (by kernel_rfl) (fun _ _ _ h => h) (Or.inl ⟨by rfl, ?_⟩) ?_
      rotate_left 1
      · (intro w; go_simp; try with_reducible rfl)
      simp only [Act.put, List.setIfInBounds_toArray, List.set_cons_zero, List.set_cons_succ]
      refine wpAny_ready (rs := [10]) (by kernel_rfl) (by simp) ?_
      refine AllReady.cons (o := ⟨some 15, _, _, _, _, _⟩) rfl (fun K hK => ?_) AllReady.nil
      have hq := HC.out _ K0.out
      go_simp
      clear hq
      refine hK _ _ ?_
      clear hK K
      refine wpAny_take (i := 13) (oi := ⟨some 18, _, _, _, _, _⟩) (v := ?_) rfl (by kernel_rfl) (by kernel_rfl) (by kernel_rfl) (fun _ _ _ h => h) (Or.inl ⟨by rfl, ?_⟩) ?_
      rotate_left 1
      · (intro w; go_simp; try with_reducible rfl)
      simp only [Act.put, List.setIfInBounds_toArray, List.set_cons_zero, List.set_cons_succ]
      refine wpAny_ready (rs := [14]) (by kernel_rfl) (by simp) ?_
      refine AllReady.cons (o := ⟨some 19, _, _, _, _, _⟩) rfl (fun K hK => ?_) AllReady.nil
      obtain ⟨w1, r1, r2, r3⟩ := HG.out _ 3 (.slice (some ⟨g, o, none⟩) (n - c) 0) K0.out (by simp)
      have HR := hide r3
      clear r3
      refine step_copy (by rfl) (.tmp 11) (.tmp 18) rfl rfl rfl r1 ?_
      clear r1
      refine hK _ _ ?_
      clear hK K
      refine wpAny_take (i := 15) (oi := ⟨some 20, _, _, _, _, _⟩) (v := ?_) rfl (by kernel_rfl) (by kernel_rfl) (by kernel_rfl) (fun _ _ _ h => h) (Or.inl ⟨by rfl, ?_⟩) ?_
      rotate_left 1
      · (intro w; go_simp; try with_reducible rfl)
      simp only [Act.put, List.setIfInBounds_toArray, List.set_cons_zero, List.set_cons_succ]
      refine wpAny_take (i := 16) (oi := ⟨some 4, _, _, _, _, _⟩) (v := ?_) rfl (by kernel_rfl) (by kernel_rfl) (by kernel_rfl) (fun _ _ _ h => h) (Or.inl ⟨by rfl, ?_⟩) ?_
      rotate_left 1
      · (intro w; go_simp; try with_reducible rfl)
      simp only [Act.put, List.setIfInBounds_toArray, List.set_cons_zero, List.set_cons_succ]
      refine wpAny_done (by kernel_rfl) ?_ _
      have hcl := HR.out 0
      obtain ⟨w2, hcl, c2, f2, hA⟩ := hcl
      have HA := hide hA
      clear hA HR
      go_wp2
      go_end0
      exact ⟨rfl, HA.out⟩
    · have hq := HC.out _ K0.out
      go_simp
      clear hq
      refine hK _ _ ?_
      clear hK K
      refine wpAny_take (i := 13) (oi := ⟨some 18, _, _, _, _, _⟩) (v := ?_) rfl (by kernel_rfl) (by kernel_rfl) (by kernel_rfl) (fun _ _ _ h => h) (Or.inl ⟨by rfl, ?_⟩) ?_
      rotate_left 1
      · (intro w; go_simp; try with_reducible rfl)
      simp only [Act.put, List.setIfInBounds_toArray, List.set_cons_zero, List.set_cons_succ]
      refine wpAny_ready (rs := [4]) (by kernel_rfl) (by simp) ?_
      refine AllReady.cons (o := ⟨some 9, _, _, _, _, _⟩) rfl (fun K hK => ?_) AllReady.nil
      have hq := HC.out _ K0.out
      go_simp
      clear hq
      refine hK _ _ ?_
      clear hK K
      refine wpAny_take (i := 6) (oi := ⟨some 11, _, _, _, _, _⟩) (v := ?_) rfl (by kernel_rfl) (by kernel_rfl) (by kernel_rfl) (fun _ _ _ h => h) (Or.inl ⟨by rfl, ?_⟩) ?_
      rotate_left 1
      · (intro w; go_simp; try with_reducible rfl)
      simp only [Act.put, List.setIfInBounds_toArray, List.set_cons_zero, List.set_cons_succ]
      refine wpAny_ready (rs := [14]) (by kernel_rfl) (by simp) ?_
      refine AllReady.cons (o := ⟨some 19, _, _, _, _, _⟩) rfl (fun K hK => ?_) AllReady.nil
      obtain ⟨w1, r1, r2, r3⟩ := HG.out _ 3 (.slice (some ⟨g, o, none⟩) (n - c) 0) K0.out (by simp)
      have HR := hide r3
      clear r3
      refine step_copy (by rfl) (.tmp 11) (.tmp 18) rfl rfl rfl r1 ?_
      clear r1
      refine hK _ _ ?_
      clear hK K
      refine wpAny_take (i := 15) (oi := ⟨some 20, _, _, _, _, _⟩) (v := ?_) rfl (by kernel_rfl) (by kernel_rfl) (by kernel_rfl) (fun _ _ _ h => h) (Or.inl ⟨by rfl, ?_⟩) ?_
      rotate_left 1
      · (intro w; go_simp; try with_reducible rfl)
      simp only [Act.put, List.setIfInBounds_toArray, List.set_cons_zero, List.set_cons_succ]
      refine wpAny_take (i := 16) (oi := ⟨some 4, _, _, _, _, _⟩) (v := ?_) rfl (by kernel_rfl) (by kernel_rfl) (by kernel_rfl) (fun _ _ _ h => h) (Or.inl ⟨by rfl, ?_⟩) ?_
      rotate_left 1
      · (intro w; go_simp; try with_reducible rfl)
      simp only [Act.put, List.setIfInBounds_toArray, List.set_cons_zero, List.set_cons_succ]
      refine wpAny_done (by kernel_rfl) ?_ _
      have hcl := HR.out 0
      obtain ⟨w2, hcl, c2, f2, hA⟩ := hcl
      have HA := hide hA
      clear hA HR
      go_wp2
      go_end0
      exact ⟨rfl, HA.out⟩
  · go_enter Tryd.func38, Tryd.ntmps38
    go_wp2_with fail
    refine wp_region_any (by kernel_rfl) ?_
    change wpAny _ _ _ _ _ _ _ (World.drew _)
    generalize World.drew w = wd at *
    refine wpAny_take (i := 0) (oi := ⟨some 5, _, _, _, _, _⟩) (v := ?_) rfl (by kernel_rfl) (by kernel_rfl) (by kernel_rfl) (fun _ _ _ h => h) (Or.inl ⟨by rfl, ?_⟩) ?_
    rotate_left 1
    · (intro w; go_simp; try with_reducible rfl)
    simp only [Act.put, List.setIfInBounds_toArray, List.set_cons_zero, List.set_cons_succ]
    refine wpAny_take (i := 1) (oi := ⟨some 6, _, _, _, _, _⟩) (v := ?_) rfl (by kernel_rfl) (by kernel_rfl) (by kernel_rfl) (fun _ _ _ h => h) (Or.inl ⟨by rfl, ?_⟩) ?_
    rotate_left 1
    · (intro w; go_simp; try with_reducible rfl)
    simp only [Act.put, List.setIfInBounds_toArray, List.set_cons_zero, List.set_cons_succ]
    refine wpAny_take (i := 2) (oi := ⟨some 7, _, _, _, _, _⟩) (v := ?_) rfl (by kernel_rfl) (by kernel_rfl) (by kernel_rfl) (fun _ _ _ h => h) (Or.inl ⟨by rfl, ?_⟩) ?_
    rotate_left 1
    · (intro w; go_simp; try with_reducible rfl)
    simp only [Act.put, List.setIfInBounds_toArray, List.set_cons_zero, List.set_cons_succ]
    refine wpAny_take (i := 3) (oi := ⟨some 8, _, _, _, _, _⟩) (v := ?_) rfl (by kernel_rfl) (by kernel_rfl) (by kernel_rfl) (fun _ _ _ h => h) (Or.inl ⟨by rfl, ?_⟩) ?_
    rotate_left 1
    · (intro w; go_simp; try with_reducible rfl)
    simp only [Act.put, List.setIfInBounds_toArray, List.set_cons_zero, List.set_cons_succ]
    refine wpAny_take (i := 5) (oi := ⟨some 10, _, _, _, _, _⟩) (v := ?_) rfl (by kernel_rfl) (by kernel_rfl) (by kernel_rfl) (fun _ _ _ h => h) (Or.inl ⟨by rfl, ?_⟩) ?_
    rotate_left 1
    · (intro w; go_simp; try with_reducible rfl)
    simp only [Act.put, List.setIfInBounds_toArray, List.set_cons_zero, List.set_cons_succ]
    refine wpAny_take (i := 7) (oi := ⟨some 12, _, _, _, _, _⟩) (v := ?_) rfl (by kernel_rfl) (by kernel_rfl) (by kernel_rfl) (fun _ _ _ h => h) (Or.inl ⟨by rfl, ?_⟩) ?_
    rotate_left 1
    · (intro w; go_simp; try with_reducible rfl)
    simp only [Act.put, List.setIfInBounds_toArray, List.set_cons_zero, List.set_cons_succ]
    refine wpAny_take (i := 8) (oi := ⟨some 13, _, _, _, _, _⟩) (v := ?_) rfl (by kernel_rfl) (by kernel_rfl) (by kernel_rfl) (fun _ _ _ h => h) (Or.inl ⟨by rfl, ?_⟩) ?_
    rotate_left 1
    · (intro w; go_simp; try with_reducible rfl)
    simp only [Act.put, List.setIfInBounds_toArray, List.set_cons_zero, List.set_cons_succ]
    refine wpAny_take (i := 9) (oi := ⟨some 14, _, _, _, _, _⟩) (v := ?_) rfl (by kernel_rfl) (by kernel_rfl) (by kernel_rfl) (fun _ _ _ h => h) (Or.inl ⟨by rfl, ?_⟩) ?_
    rotate_left 1
    · (intro w; go_simp; try with_reducible rfl)
    simp only [Act.put, List.setIfInBounds_toArray, List.set_cons_zero, List.set_cons_succ]
    refine wpAny_take (i := 11) (oi := ⟨some 16, _, _, _, _, _⟩) (v := ?_) rfl (by kernel_rfl) (by kernel_rfl) (by kernel_rfl) (fun _ _ _ h => h) (Or.inl ⟨by rfl, ?_⟩) ?_
    rotate_left 1
    · (intro w; go_simp; try with_reducible rfl)
    simp only [Act.put, List.setIfInBounds_toArray, List.set_cons_zero, List.set_cons_succ]
    refine wpAny_take (i := 12) (oi := ⟨some 17, _, _, _, _, _⟩) (v := ?_) rfl (by kernel_rfl) (by kernel_rfl) (by kernel_rfl) (fun _ _ _ h => h) (Or.inl ⟨by rfl, ?_⟩) ?_
    rotate_left 1
    · (intro w; go_simp; try with_reducible rfl)
    simp only [Act.put, List.setIfInBounds_toArray, List.set_cons_zero, List.set_cons_succ]
    refine wpAny_ready (rs := [4, 10]) (by kernel_rfl) (by simp) ?_
    refine AllReady.cons (o := ⟨some 9, _, _, _, _, _⟩) rfl (fun K hK => ?_) (AllReady.cons (o := ⟨some 15, _, _, _, _, _⟩) rfl (fun K hK => ?_) AllReady.nil)
    · have hq := HC.out _ K0.out
      go_simp
      clear hq
      refine hK _ _ ?_
      clear hK K
      refine wpAny_take (i := 6) (oi := ⟨some 11, _, _, _, _, _⟩) (v := ?_) rfl (by kernel_rfl) (by kernel_rfl) (by kernel_rfl) (fun _ _ _ h => h) (Or.inl ⟨by rfl, ?_⟩) ?_
      rotate_left 1
      · (intro w; go_simp; try with_reducible rfl)
      simp only [Act.put, List.setIfInBounds_toArray, List.set_cons_zero, List.set_cons_succ]
      refine wpAny_ready (rs := [10]) (by kernel_rfl) (by simp) ?_
      refine AllReady.cons (o := ⟨some 15, _, _, _, _, _⟩) rfl (fun K hK => ?_) AllReady.nil
      have hq := HC.out _ K0.out
      go_simp
      clear hq
      refine hK _ _ ?_
      clear hK K
      refine wpAny_take (i := 13) (oi := ⟨some 18, _, _, _, _, _⟩) (v := ?_) rfl (by kernel_rfl) (by kernel_rfl) (by kernel_rfl) (fun _ _ _ h => h) (Or.inl ⟨by rfl, ?_⟩) ?_
      rotate_left 1
      · (intro w; go_simp; try with_reducible rfl)
      simp only [Act.put, List.setIfInBounds_toArray, List.set_cons_zero, List.set_cons_succ]
      refine wpAny_ready (rs := [14]) (by kernel_rfl) (by simp) ?_
      refine AllReady.cons (o := ⟨some 19, _, _, _, _, _⟩) rfl (fun K hK => ?_) AllReady.nil
      obtain ⟨w1, r1, r2, r3⟩ := HG.out _ 3 (.slice (some ⟨g, o + j, none⟩) (n - j) (c - j)) K0.out (by rw [if_neg he])
      have HR := hide r3
      clear r3
      refine step_copy (by rfl) (.tmp 11) (.tmp 18) rfl rfl rfl r1 ?_
      clear r1
      refine hK _ _ ?_
      clear hK K
      refine wpAny_take (i := 15) (oi := ⟨some 20, _, _, _, _, _⟩) (v := ?_) rfl (by kernel_rfl) (by kernel_rfl) (by kernel_rfl) (fun _ _ _ h => h) (Or.inl ⟨by rfl, ?_⟩) ?_
      rotate_left 1
      · (intro w; go_simp; try with_reducible rfl)
      simp only [Act.put, List.setIfInBounds_toArray, List.set_cons_zero, List.set_cons_succ]
      refine wpAny_take (i := 16) (oi := ⟨some 4, _, _, _, _, _⟩) (v := ?_) rfl (by kernel_rfl) (by kernel_rfl) (by kernel_rfl) (fun _ _ _ h => h) (Or.inl ⟨by rfl, ?_⟩) ?_
      rotate_left 1
      · (intro w; go_simp; try with_reducible rfl)
      simp only [Act.put, List.setIfInBounds_toArray, List.set_cons_zero, List.set_cons_succ]
      refine wpAny_done (by kernel_rfl) ?_ _
      have hcl := HR.out 0
      obtain ⟨w2, hcl, c2, f2, hA⟩ := hcl
      have HA := hide hA
      clear hA HR
      go_wp2
      go_end0
      exact ⟨rfl, HA.out⟩
    · have hq := HC.out _ K0.out
      go_simp
      clear hq
      refine hK _ _ ?_
      clear hK K
      refine wpAny_take (i := 13) (oi := ⟨some 18, _, _, _, _, _⟩) (v := ?_) rfl (by kernel_rfl) (by kernel_rfl) (by kernel_rfl) (fun _ _ _ h => h) (Or.inl ⟨by rfl, ?_⟩) ?_
      rotate_left 1
      · (intro w; go_simp; try with_reducible rfl)
      simp only [Act.put, List.setIfInBounds_toArray, List.set_cons_zero, List.set_cons_succ]
      refine wpAny_ready (rs := [4]) (by kernel_rfl) (by simp) ?_
      refine AllReady.cons (o := ⟨some 9, _, _, _, _, _⟩) rfl (fun K hK => ?_) AllReady.nil
      have hq := HC.out _ K0.out
      go_simp
      clear hq
      refine hK _ _ ?_
      clear hK K
      refine wpAny_take (i := 6) (oi := ⟨some 11, _, _, _, _, _⟩) (v := ?_) rfl (by kernel_rfl) (by kernel_rfl) (by kernel_rfl) (fun _ _ _ h => h) (Or.inl ⟨by rfl, ?_⟩) ?_
      rotate_left 1
      · (intro w; go_simp; try with_reducible rfl)
      simp only [Act.put, List.setIfInBounds_toArray, List.set_cons_zero, List.set_cons_succ]
      refine wpAny_ready (rs := [14]) (by kernel_rfl) (by simp) ?_
      refine AllReady.cons (o := ⟨some 19, _, _, _, _, _⟩) rfl (fun K hK => ?_) AllReady.nil
      obtain ⟨w1, r1, r2, r3⟩ := HG.out _ 3 (.slice (some ⟨g, o + j, none⟩) (n - j) (c - j)) K0.out (by rw [if_neg he])
      have HR := hide r3
      clear r3
      refine step_copy (by rfl) (.tmp 11) (.tmp 18) rfl rfl rfl r1 ?_
      clear r1
      refine hK _ _ ?_
      clear hK K
      refine wpAny_take (i := 15) (oi := ⟨some 20, _, _, _, _, _⟩) (v := ?_) rfl (by kernel_rfl) (by kernel_rfl) (by kernel_rfl) (fun _ _ _ h => h) (Or.inl ⟨by rfl, ?_⟩) ?_
      rotate_left 1
      · (intro w; go_simp; try with_reducible rfl)
      simp only [Act.put, List.setIfInBounds_toArray, List.set_cons_zero, List.set_cons_succ]
      refine wpAny_take (i := 16) (oi := ⟨some 4, _, _, _, _, _⟩) (v := ?_) rfl (by kernel_rfl) (by kernel_rfl) (by kernel_rfl) (fun _ _ _ h => h) (Or.inl ⟨by rfl, ?_⟩) ?_
      rotate_left 1
      · (intro w; go_simp; try with_reducible rfl)
      simp only [Act.put, List.setIfInBounds_toArray, List.set_cons_zero, List.set_cons_succ]
      refine wpAny_done (by kernel_rfl) ?_ _
      have hcl := HR.out 0
      obtain ⟨w2, hcl, c2, f2, hA⟩ := hcl
      have HA := hide hA
      clear hA HR
      go_wp2
      go_end0
      exact ⟨rfl, HA.out⟩
set_option maxRecDepth 100000 in
theorem Deliver_cut (h : Lnk p L R true w G) (i : Int) : Calls Tryd.prog 27 #[.pointer (some ⟨p, 0, none⟩), .int .i64 i] w fun e w' => ∃ q, e = .returned (.tuple #[.int .i64 0, .iface 67 (.pointer (some ⟨q, 0, none⟩))]) ∧ Fails w i 11 q w' := by
  obtain ⟨_, _, _, _, _, _, _, _, _, _, c2, _⟩ := h.cells
  clear h
  go_enter Tryd.func27, Tryd.ntmps27
  go_wp2_with fail
  refine (failed_any i 11 w rfl).mono ?_
  rintro e w3 ⟨q, rfl, hf⟩
  have HF := hide hf
  clear hf
  go_wp2
  go_ret2
  exact ⟨_, rfl, HF.out⟩
set_option maxRecDepth 100000 in
theorem Deliver_none (h : Lnk p L R false w G) (i : Int) (hi : i < 0 ∨ (L.length : Int) ≤ i) : Calls Tryd.prog 27 #[.pointer (some ⟨p, 0, none⟩), .int .i64 i] w fun e w' => ∃ q, e = .returned (.tuple #[.int .i64 0, .iface 67 (.pointer (some ⟨q, 0, none⟩))]) ∧ Fails w i 5 q w' := by
  obtain ⟨_, _, _, _, _, _, _, _, _, _, c2, _⟩ := h.cells
  have HH := hide h
  have Hi := hide hi
  clear h hi
  go_enter Tryd.func27, Tryd.ntmps27
  go_wp2_with fail
  refine (has_no HH.out i Hi.out).mono ?_
  rintro e w1 ⟨rfl, hb1⟩
  have HB1 := hide hb1
  clear hb1
  go_wp2_with fail
  refine (failed_any i 5 w1 rfl).mono ?_
  rintro e w3 ⟨q, rfl, hf⟩
  have HF : Hid (Fails w i 5 q w3) := ⟨hf.1, HB1.out.trans (hf.2.mono HB1.out.size)⟩
  clear hf
  go_wp2
  go_ret2
  exact ⟨_, rfl, HF.out⟩
set_option maxRecDepth 100000 in
set_option maxHeartbeats 1000000 in
theorem Deliver_ok (h : Lnk p L R false w G) (i : Nat) (x : Int) (hi : L[i]? = some x) : Calls Tryd.prog 27 #[.pointer (some ⟨p, 0, none⟩), .int .i64 (i : Int)] w fun e w' => e = .returned (.tuple #[.int .i64 x, .nilIface]) ∧ After (lnkT p (L.eraseIdx i) R false) w G w' := by
  obtain ⟨_, _, _, _, _, _, _, _, _, _, c2, _⟩ := h.cells
  have HH := hide h
  have hil := (List.getElem?_eq_some_iff.1 hi).1
  have Hi := hide hi
  have Hil := hide hil
  clear h hi hil
  go_enter Tryd.func27, Tryd.ntmps27
  go_wp2_with fail
  refine (has_yes HH.out i Hil.out).mono ?_
  rintro e w1 ⟨rfl, hb1⟩
  have HB1 := hide hb1
  have HH1 := hide (HH.out.below hb1)
  obtain ⟨A, n, c, _, hn, hnc, _, hs, c0, _, _, _⟩ := HH1.out.cells
  obtain ⟨g, o, rfl, _, hcell⟩ := Src.msg hs Hi.out
  have hin : i < n := by rw [hn]; exact Hil.out
  have hini : (i : Int) < (n : Int) := by omega
  clear hb1 hn hs c2
  go_wp2_with fail
  refine (remove_any HH1.out i Hil.out).mono ?_
  rintro e w2 ⟨rfl, hA⟩
  have HA := hide (hA.from HB1.out)
  clear hA
  go_wp2
  go_ret2
  exact ⟨rfl, HA.out⟩

/-! ### Double -/
set_option maxRecDepth 100000 in
theorem Double_none (h : Lnk p L R C w G) (i : Int) (hi : i < 0 ∨ (L.length : Int) ≤ i) : Calls Tryd.prog 25 #[.pointer (some ⟨p, 0, none⟩), .int .i64 i] w fun e w' => ∃ q, e = .returned (.iface 67 (.pointer (some ⟨q, 0, none⟩))) ∧ Fails w i 5 q w' := by
  have HH := hide h
  have Hi := hide hi
  clear h hi
  go_enter Tryd.func25, Tryd.ntmps25
  go_wp2_with fail
  refine (has_no HH.out i Hi.out).mono ?_
  rintro e w1 ⟨rfl, hb1⟩
  have HB1 := hide hb1
  clear hb1
  go_wp2_with fail
  refine (failed_any i 5 w1 rfl).mono ?_
  rintro e w3 ⟨q, rfl, hf⟩
  have HF : Hid (Fails w i 5 q w3) := ⟨hf.1, HB1.out.trans (hf.2.mono HB1.out.size)⟩
  clear hf
  go_wp2
  go_ret
  exact ⟨_, rfl, HF.out⟩
set_option maxRecDepth 100000 in
theorem Double_full (h : Lnk p L R C w G) (hf : L.length = R) (i : Nat) (hi : i < L.length) : Calls Tryd.prog 25 #[.pointer (some ⟨p, 0, none⟩), .int .i64 (i : Int)] w fun e w' => ∃ q, e = .returned (.iface 67 (.pointer (some ⟨q, 0, none⟩))) ∧ Fails w (i : Int) 6 q w' := by
  have HH := hide h
  have Hi := hide hi
  have hd : decide (R ≤ L.length) = true := by rw [hf]; simp
  have HD := hide hd
  clear h hi hd hf
  go_enter Tryd.func25, Tryd.ntmps25
  go_wp2_with fail
  refine (has_yes HH.out i Hi.out).mono ?_
  rintro e w1 ⟨rfl, hb1⟩
  have HB1 := hide hb1
  have HH1 := hide (HH.out.below hb1)
  clear hb1
  go_wp2_with fail
  refine (full_any HH1.out).mono ?_
  rintro e w2 ⟨rfl, hb2⟩
  rw [HD.out]
  have HB2 := hide (HB1.out.trans (hb2.mono HB1.out.size))
  clear hb2
  go_wp2_with fail
  refine (failed_any (i : Int) 6 w2 rfl).mono ?_
  rintro e w3 ⟨q, rfl, hf⟩
  have HF : Hid (Fails w (i : Int) 6 q w3) := ⟨hf.1, HB2.out.trans (hf.2.mono HB2.out.size)⟩
  clear hf
  go_wp2
  go_ret
  exact ⟨_, rfl, HF.out⟩
set_option maxRecDepth 100000 in
set_option maxHeartbeats 4000000 in
theorem Double_ok (h : Lnk p L R C w G) (hf : L.length < R) (i : Nat) (x : Int) (hi : L[i]? = some x) : Calls Tryd.prog 25 #[.pointer (some ⟨p, 0, none⟩), .int .i64 (i : Int)] w fun e w' => e = .returned .nilIface ∧ After (lnkT p (L ++ [x]) R C) w G w' := by
  have HH := hide h
  have hil := (List.getElem?_eq_some_iff.1 hi).1
  have Hi := hide hi
  have Hil := hide hil
  have hd : decide (R ≤ L.length) = false := by simp; omega
  have HD := hide hd
  have Hf := hide hf
  clear h hi hd hf hil
  go_enter Tryd.func25, Tryd.ntmps25
  go_wp2_with fail
  refine (has_yes HH.out i Hil.out).mono ?_
  rintro e w1 ⟨rfl, hb1⟩
  have HB1 := hide hb1
  have HH1 := hide (HH.out.below hb1)
  clear hb1
  go_wp2_with fail
  refine (full_any HH1.out).mono ?_
  rintro e w2 ⟨rfl, hb2⟩
  rw [HD.out]
  have HB2 := hide (HB1.out.trans (hb2.mono HB1.out.size))
  have HH2 := hide (HH1.out.below hb2)
  obtain ⟨A, m, c, hx, hm, hmc, _, hs, c0, _, _, _⟩ := HH2.out.cells
  obtain ⟨g, o, rfl, hgl, hcell⟩ := Src.msg hs Hi.out
  have him : i < m := by rw [hm]; exact Hil.out
  have himi : (i : Int) < (m : Int) := by omega
  have hpl := hx.lt p hx.mine
  have Hm1 := hide (show m + 1 ≤ maxLen by have := Hf.out; have := HH1.out.room; unfold maxLen; omega)
  have Hm2 := hide (show (m + 1) * 8 ≤ 140737488355328 by have := Hf.out; have := HH1.out.room; omega)
  have HO : Hid (∀ W, Below w2.heap.size w2 W → ORow W 3 1 (.slice (some ⟨g, o, none⟩) m c) m (vals L)) := fun W hW => hx.row.below hW
  have HC : Hid (∀ W : World, Below w2.heap.size w2 W → W.cell? ⟨p, 0, none⟩ = some (.slice (some ⟨g, o, none⟩) m c) ∧ W.cell? ⟨g, o + i, none⟩ = some (.int .i64 x)) := fun W hW =>
    ⟨(hW.cell (p := ⟨p, 0, none⟩) hpl).trans c0, (hW.cell (p := ⟨g, o + i, none⟩) hgl).trans hcell⟩
  have HS := hide (fun (W W2 : World) (v : Value) (hW : Below w2.heap.size w2 W) (hg : Grown W 3 1 (.slice (some ⟨g, o, none⟩) m c) (m + 1) (vals L ++ cel x) v W2) => (⟨(hx.cell' (hx.p_same hW hg) 0), hx.frozen' (hx.p_same hW hg) 0, Lnk.of (L := L ++ [x]) (hx.put hW hg) (by rw [List.length_append, ← hm]; rfl) (by rw [vals_append, vals_one1]; rfl) (by rw [List.length_append]; exact Hf.out) HH1.out.room⟩ : W2.cell? ⟨p, 0, none⟩ = some (.slice (some ⟨g, o, none⟩) m c) ∧ W2.frozen? ⟨p, 0, none⟩ = false ∧ After (lnkT p (L ++ [x]) R C) w2 G (W2.setCell ⟨p, 0, none⟩ v)))
  have K0 : Hid (Below w2.heap.size w2 w2.drew) := (Below.refl _ _).drew
  clear hb2 hx hm hs c0 hcell hgl hpl hmc
  go_wp2_with fail
  refine wp_region_any (by kernel_rfl) ?_
  change wpAny _ _ _ _ _ _ _ (World.drew _)
  generalize World.drew w2 = wd at *
  refine wpAny_take (i := 0) (oi := ⟨some 21, _, _, _, _, _⟩) (v := ?_) rfl (by kernel_rfl) (by kernel_rfl) (by kernel_rfl) (fun _ _ _ h => h) (Or.inl ⟨by rfl, ?_⟩) ?_
  rotate_left 1
  · (intro w; go_simp; try with_reducible rfl)
  simp only [Act.put, List.setIfInBounds_toArray, List.set_cons_zero, List.set_cons_succ]
  refine wpAny_take (i := 1) (oi := ⟨some 22, _, _, _, _, _⟩) (v := ?_) rfl (by kernel_rfl) (by kernel_rfl) (by kernel_rfl) (fun _ _ _ h => h) (Or.inl ⟨by rfl, ?_⟩) ?_
  rotate_left 1
  · (intro w; go_simp; try with_reducible rfl)
  simp only [Act.put, List.setIfInBounds_toArray, List.set_cons_zero, List.set_cons_succ]
  refine wpAny_take (i := 2) (oi := ⟨some 23, _, _, _, _, _⟩) (v := ?_) rfl (by kernel_rfl) (by kernel_rfl) (by kernel_rfl) (fun _ _ _ h => h) (Or.inl ⟨by rfl, ?_⟩) ?_
  rotate_left 1
  · (intro w; go_simp; try with_reducible rfl)
  simp only [Act.put, List.setIfInBounds_toArray, List.set_cons_zero, List.set_cons_succ]
  refine wpAny_take (i := 3) (oi := ⟨some 24, _, _, _, _, _⟩) (v := ?_) rfl (by kernel_rfl) (by kernel_rfl) (by kernel_rfl) (fun _ _ _ h => h) (Or.inl ⟨by rfl, ?_⟩) ?_
  rotate_left 1
  · (intro w; go_simp; try with_reducible rfl)
  simp only [Act.put, List.setIfInBounds_toArray, List.set_cons_zero, List.set_cons_succ]
  refine wpAny_take (i := 5) (oi := ⟨some 26, _, _, _, _, _⟩) (v := ?_) rfl (by kernel_rfl) (by kernel_rfl) (by kernel_rfl) (fun _ _ _ h => h) (Or.inl ⟨by rfl, ?_⟩) ?_
  rotate_left 1
  · (intro w; go_simp; try with_reducible rfl)
  simp only [Act.put, List.setIfInBounds_toArray, List.set_cons_zero, List.set_cons_succ]
  refine wpAny_take (i := 6) (oi := ⟨some 27, _, _, _, _, _⟩) (v := ?_) rfl (by kernel_rfl) (by kernel_rfl) (by kernel_rfl) (fun _ _ _ h => h) (Or.inl ⟨by rfl, ?_⟩) ?_
  rotate_left 1
  · (intro w; go_simp; try with_reducible rfl)
  simp only [Act.put, List.setIfInBounds_toArray, List.set_cons_zero, List.set_cons_succ]
  refine wpAny_take (i := 7) (oi := ⟨some 28, _, _, _, _, _⟩) (v := ?_) rfl (by kernel_rfl) (by kernel_rfl) (by kernel_rfl) (fun _ _ _ h => h) (Or.inl ⟨by rfl, ?_⟩) ?_
  rotate_left 1
  · (intro w; go_simp; try with_reducible rfl)
  simp only [Act.put, List.setIfInBounds_toArray, List.set_cons_zero, List.set_cons_succ]
  refine wpAny_take (i := 9) (oi := ⟨some 30, _, _, _, _, _⟩) (v := ?_) rfl (by kernel_rfl) (by kernel_rfl) (by kernel_rfl) (fun _ _ _ h => h) (Or.inl ⟨by rfl, ?_⟩) ?_
  rotate_left 1
  · (intro w; go_simp; try with_reducible rfl)
  simp only [Act.put, List.setIfInBounds_toArray, List.set_cons_zero, List.set_cons_succ]
  refine wpAny_ready (rs := [4, 8]) (by kernel_rfl) (by simp) ?_
  refine AllReady.cons (o := ⟨some 25, _, _, _, _, _⟩) rfl (fun K hK => ?_) (AllReady.cons (o := ⟨some 29, _, _, _, _, _⟩) rfl (fun K hK => ?_) AllReady.nil)
  · have hq := (HC.out _ K0.out).1
    go_simp
    clear hq
    refine hK _ _ ?_
    clear hK K
    refine wpAny_ready (rs := [8]) (by kernel_rfl) (by simp) ?_
    refine AllReady.cons (o := ⟨some 29, _, _, _, _, _⟩) rfl (fun K hK => ?_) AllReady.nil
    have hq := (HC.out _ K0.out).1
    go_simp
    clear hq
    refine hK _ _ ?_
    clear hK K
    refine wpAny_take (i := 10) (oi := ⟨some 31, _, _, _, _, _⟩) (v := ?_) rfl (by kernel_rfl) (by kernel_rfl) (by kernel_rfl) (fun _ _ _ h => h) (Or.inl ⟨by rfl, ?_⟩) ?_
    rotate_left 1
    · (intro w; go_simp; try with_reducible rfl)
    simp only [Act.put, List.setIfInBounds_toArray, List.set_cons_zero, List.set_cons_succ]
    refine wpAny_ready (rs := [11]) (by kernel_rfl) (by simp) ?_
    refine AllReady.cons (o := ⟨some 32, _, _, _, _, _⟩) rfl (fun K hK => ?_) AllReady.nil
    have hq := (HC.out _ K0.out).2
    go_simp
    clear hq
    refine hK _ _ ?_
    clear hK K
    refine wpAny_ready (rs := [12]) (by kernel_rfl) (by simp) ?_
    refine AllReady.cons (o := ⟨some 33, _, _, _, _, _⟩) rfl (fun K hK => ?_) AllReady.nil
    go_simp
    obtain ⟨hb, hsrc⟩ := made_msg K0.out x
    have HM := hide hsrc
    have K1 := hide hb
    clear hb hsrc
    generalize World.alloc _ _ = W1 at *
    refine hK _ _ ?_
    clear hK K
    refine wpAny_ready (rs := [13]) (by kernel_rfl) (by simp) ?_
    refine AllReady.cons (o := ⟨some 34, _, _, _, _, _⟩) rfl (fun K hK => ?_) AllReady.nil
    refine step_app app_el (by rfl) (.tmp 25) (.tmp 33) rfl (.slice (some ⟨g, o, none⟩) m c) m (vals L) rfl (HO.out _ K1.out) _ 1 1 (cel x) rfl rfl HM.out (cel_one _) (by decide) Hm1.out Hm2.out ?_
    intro v3 w3 hg
    obtain ⟨s0, s1, s2⟩ := HS.out _ _ _ K1.out hg.out
    have HA := hide (s2.from HB2.out)
    obtain ⟨A2, c2, rfl, _, _, _⟩ := hg.out.row.form
    clear hg s2
    refine hK _ _ ?_
    clear hK K
    refine wpAny_take (i := 14) (oi := ⟨some 35, _, _, _, _, _⟩) (v := ?_) rfl (by kernel_rfl) (by kernel_rfl) (by kernel_rfl) (fun _ _ _ h => h) (Or.inl ⟨by rfl, ?_⟩) ?_
    rotate_left 1
    · (intro w; go_simp; try with_reducible rfl)
    simp only [Act.put, List.setIfInBounds_toArray, List.set_cons_zero, List.set_cons_succ]
    refine wpAny_take (i := 15) (oi := ⟨some 36, _, _, _, _, _⟩) (v := ?_) rfl (by kernel_rfl) (by kernel_rfl) (by kernel_rfl) (fun _ _ _ h => h) (Or.inl ⟨by rfl, ?_⟩) ?_
    rotate_left 1
    · (intro w; go_simp; try with_reducible rfl)
    simp only [Act.put, List.setIfInBounds_toArray, List.set_cons_zero, List.set_cons_succ]
    refine wpAny_ready (rs := [16]) (by kernel_rfl) (by simp) ?_
    refine AllReady.cons (o := ⟨none, _, _, _, _, _⟩) rfl (fun K hK => ?_) AllReady.nil
    go_simp
    clear s0 s1
    generalize World.setCell _ _ _ = w4 at *
    refine hK _ _ ?_
    clear hK K
    refine wpAny_done (by kernel_rfl) ?_ _
    go_wp2
    go_ret
    exact ⟨rfl, HA.out⟩
  · have hq := (HC.out _ K0.out).1
    go_simp
    clear hq
    refine hK _ _ ?_
    clear hK K
    refine wpAny_take (i := 10) (oi := ⟨some 31, _, _, _, _, _⟩) (v := ?_) rfl (by kernel_rfl) (by kernel_rfl) (by kernel_rfl) (fun _ _ _ h => h) (Or.inl ⟨by rfl, ?_⟩) ?_
    rotate_left 1
    · (intro w; go_simp; try with_reducible rfl)
    simp only [Act.put, List.setIfInBounds_toArray, List.set_cons_zero, List.set_cons_succ]
    refine wpAny_ready (rs := [4, 11]) (by kernel_rfl) (by simp) ?_
    refine AllReady.cons (o := ⟨some 25, _, _, _, _, _⟩) rfl (fun K hK => ?_) (AllReady.cons (o := ⟨some 32, _, _, _, _, _⟩) rfl (fun K hK => ?_) AllReady.nil)
    · have hq := (HC.out _ K0.out).1
      go_simp
      clear hq
      refine hK _ _ ?_
      clear hK K
      refine wpAny_ready (rs := [11]) (by kernel_rfl) (by simp) ?_
      refine AllReady.cons (o := ⟨some 32, _, _, _, _, _⟩) rfl (fun K hK => ?_) AllReady.nil
      have hq := (HC.out _ K0.out).2
      go_simp
      clear hq
      refine hK _ _ ?_
      clear hK K
      refine wpAny_ready (rs := [12]) (by kernel_rfl) (by simp) ?_
      refine AllReady.cons (o := ⟨some 33, _, _, _, _, _⟩) rfl (fun K hK => ?_) AllReady.nil
      go_simp
      obtain ⟨hb, hsrc⟩ := made_msg K0.out x
      have HM := hide hsrc
      have K1 := hide hb
      clear hb hsrc
      generalize World.alloc _ _ = W1 at *
      refine hK _ _ ?_
      clear hK K
      refine wpAny_ready (rs := [13]) (by kernel_rfl) (by simp) ?_
      refine AllReady.cons (o := ⟨some 34, _, _, _, _, _⟩) rfl (fun K hK => ?_) AllReady.nil
      refine step_app app_el (by rfl) (.tmp 25) (.tmp 33) rfl (.slice (some ⟨g, o, none⟩) m c) m (vals L) rfl (HO.out _ K1.out) _ 1 1 (cel x) rfl rfl HM.out (cel_one _) (by decide) Hm1.out Hm2.out ?_
      intro v3 w3 hg
      obtain ⟨s0, s1, s2⟩ := HS.out _ _ _ K1.out hg.out
      have HA := hide (s2.from HB2.out)
      obtain ⟨A2, c2, rfl, _, _, _⟩ := hg.out.row.form
      clear hg s2
      refine hK _ _ ?_
      clear hK K
      refine wpAny_take (i := 14) (oi := ⟨some 35, _, _, _, _, _⟩) (v := ?_) rfl (by kernel_rfl) (by kernel_rfl) (by kernel_rfl) (fun _ _ _ h => h) (Or.inl ⟨by rfl, ?_⟩) ?_
      rotate_left 1
      · (intro w; go_simp; try with_reducible rfl)
      simp only [Act.put, List.setIfInBounds_toArray, List.set_cons_zero, List.set_cons_succ]
      refine wpAny_take (i := 15) (oi := ⟨some 36, _, _, _, _, _⟩) (v := ?_) rfl (by kernel_rfl) (by kernel_rfl) (by kernel_rfl) (fun _ _ _ h => h) (Or.inl ⟨by rfl, ?_⟩) ?_
      rotate_left 1
      · (intro w; go_simp; try with_reducible rfl)
      simp only [Act.put, List.setIfInBounds_toArray, List.set_cons_zero, List.set_cons_succ]
      refine wpAny_ready (rs := [16]) (by kernel_rfl) (by simp) ?_
      refine AllReady.cons (o := ⟨none, _, _, _, _, _⟩) rfl (fun K hK => ?_) AllReady.nil
      go_simp
      clear s0 s1
      generalize World.setCell _ _ _ = w4 at *
      refine hK _ _ ?_
      clear hK K
      refine wpAny_done (by kernel_rfl) ?_ _
      go_wp2
      go_ret
      exact ⟨rfl, HA.out⟩
    · have hq := (HC.out _ K0.out).2
      go_simp
      clear hq
      refine hK _ _ ?_
      clear hK K
      refine wpAny_ready (rs := [4, 12]) (by kernel_rfl) (by simp) ?_
      refine AllReady.cons (o := ⟨some 25, _, _, _, _, _⟩) rfl (fun K hK => ?_) (AllReady.cons (o := ⟨some 33, _, _, _, _, _⟩) rfl (fun K hK => ?_) AllReady.nil)
      · have hq := (HC.out _ K0.out).1
        go_simp
        clear hq
        refine hK _ _ ?_
        clear hK K
        refine wpAny_ready (rs := [12]) (by kernel_rfl) (by simp) ?_
        refine AllReady.cons (o := ⟨some 33, _, _, _, _, _⟩) rfl (fun K hK => ?_) AllReady.nil
        go_simp
        obtain ⟨hb, hsrc⟩ := made_msg K0.out x
        have HM := hide hsrc
        have K1 := hide hb
        clear hb hsrc
        generalize World.alloc _ _ = W1 at *
        refine hK _ _ ?_
        clear hK K
        refine wpAny_ready (rs := [13]) (by kernel_rfl) (by simp) ?_
        refine AllReady.cons (o := ⟨some 34, _, _, _, _, _⟩) rfl (fun K hK => ?_) AllReady.nil
        refine step_app app_el (by rfl) (.tmp 25) (.tmp 33) rfl (.slice (some ⟨g, o, none⟩) m c) m (vals L) rfl (HO.out _ K1.out) _ 1 1 (cel x) rfl rfl HM.out (cel_one _) (by decide) Hm1.out Hm2.out ?_
        intro v3 w3 hg
        obtain ⟨s0, s1, s2⟩ := HS.out _ _ _ K1.out hg.out
        have HA := hide (s2.from HB2.out)
        obtain ⟨A2, c2, rfl, _, _, _⟩ := hg.out.row.form
        clear hg s2
        refine hK _ _ ?_
        clear hK K
        refine wpAny_take (i := 14) (oi := ⟨some 35, _, _, _, _, _⟩) (v := ?_) rfl (by kernel_rfl) (by kernel_rfl) (by kernel_rfl) (fun _ _ _ h => h) (Or.inl ⟨by rfl, ?_⟩) ?_
        rotate_left 1
        · (intro w; go_simp; try with_reducible rfl)
        simp only [Act.put, List.setIfInBounds_toArray, List.set_cons_zero, List.set_cons_succ]
        refine wpAny_take (i := 15) (oi := ⟨some 36, _, _, _, _, _⟩) (v := ?_) rfl (by kernel_rfl) (by kernel_rfl) (by kernel_rfl) (fun _ _ _ h => h) (Or.inl ⟨by rfl, ?_⟩) ?_
        rotate_left 1
        · (intro w; go_simp; try with_reducible rfl)
        simp only [Act.put, List.setIfInBounds_toArray, List.set_cons_zero, List.set_cons_succ]
        refine wpAny_ready (rs := [16]) (by kernel_rfl) (by simp) ?_
        refine AllReady.cons (o := ⟨none, _, _, _, _, _⟩) rfl (fun K hK => ?_) AllReady.nil
        go_simp
        clear s0 s1
        generalize World.setCell _ _ _ = w4 at *
        refine hK _ _ ?_
        clear hK K
        refine wpAny_done (by kernel_rfl) ?_ _
        go_wp2
        go_ret
        exact ⟨rfl, HA.out⟩
      · go_simp
        obtain ⟨hb, hsrc⟩ := made_msg K0.out x
        have HM := hide hsrc
        have K1 := hide hb
        clear hb hsrc
        generalize World.alloc _ _ = W1 at *
        refine hK _ _ ?_
        clear hK K
        refine wpAny_ready (rs := [4]) (by kernel_rfl) (by simp) ?_
        refine AllReady.cons (o := ⟨some 25, _, _, _, _, _⟩) rfl (fun K hK => ?_) AllReady.nil
        have hq := (HC.out _ K1.out).1
        go_simp
        clear hq
        refine hK _ _ ?_
        clear hK K
        refine wpAny_ready (rs := [13]) (by kernel_rfl) (by simp) ?_
        refine AllReady.cons (o := ⟨some 34, _, _, _, _, _⟩) rfl (fun K hK => ?_) AllReady.nil
        refine step_app app_el (by rfl) (.tmp 25) (.tmp 33) rfl (.slice (some ⟨g, o, none⟩) m c) m (vals L) rfl (HO.out _ K1.out) _ 1 1 (cel x) rfl rfl HM.out (cel_one _) (by decide) Hm1.out Hm2.out ?_
        intro v3 w3 hg
        obtain ⟨s0, s1, s2⟩ := HS.out _ _ _ K1.out hg.out
        have HA := hide (s2.from HB2.out)
        obtain ⟨A2, c2, rfl, _, _, _⟩ := hg.out.row.form
        clear hg s2
        refine hK _ _ ?_
        clear hK K
        refine wpAny_take (i := 14) (oi := ⟨some 35, _, _, _, _, _⟩) (v := ?_) rfl (by kernel_rfl) (by kernel_rfl) (by kernel_rfl) (fun _ _ _ h => h) (Or.inl ⟨by rfl, ?_⟩) ?_
        rotate_left 1
        · (intro w; go_simp; try with_reducible rfl)
        simp only [Act.put, List.setIfInBounds_toArray, List.set_cons_zero, List.set_cons_succ]
        refine wpAny_take (i := 15) (oi := ⟨some 36, _, _, _, _, _⟩) (v := ?_) rfl (by kernel_rfl) (by kernel_rfl) (by kernel_rfl) (fun _ _ _ h => h) (Or.inl ⟨by rfl, ?_⟩) ?_
        rotate_left 1
        · (intro w; go_simp; try with_reducible rfl)
        simp only [Act.put, List.setIfInBounds_toArray, List.set_cons_zero, List.set_cons_succ]
        refine wpAny_ready (rs := [16]) (by kernel_rfl) (by simp) ?_
        refine AllReady.cons (o := ⟨none, _, _, _, _, _⟩) rfl (fun K hK => ?_) AllReady.nil
        go_simp
        clear s0 s1
        generalize World.setCell _ _ _ = w4 at *
        refine hK _ _ ?_
        clear hK K
        refine wpAny_done (by kernel_rfl) ?_ _
        go_wp2
        go_ret
        exact ⟨rfl, HA.out⟩
end

/-! ### Cut -/
end Go.Proofs.YtidojlagdodkkaaDoor.Li
