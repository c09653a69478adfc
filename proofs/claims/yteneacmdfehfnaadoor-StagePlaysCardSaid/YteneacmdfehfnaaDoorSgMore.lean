/-
  The contracts of UpTo, Take and Marks of a stage; what Drop refuses. Nothing but the stage's own blocks is changed.
-/
import Derived.Deep.RegionHeld3
import Derived.Test.YteneacmdfehfnaaDoorRcRight
import Derived.Test.YteneacmdfehfnaaDoorSgCut
namespace Go.Proofs.YteneacmdfehfnaaDoor.Sg
open Go.RowKit
open Pk Dk Wn Lk Rc Fa

theorem drew_below' {w w' : World} (h : Below w.drew.heap.size w.drew w') : Below w.heap.size w w' := (Below.refl _ w).drew.trans h
/-- What append leaves of a slice that has no room. -/
structure Anew (w : World) (e : TypeId) (size : Nat) (v : Value) (n : Nat) (xs : List Value) (w' : World) : Prop where
  row : ORow w' e size v n xs
  own : ∀ k, v.ownBlock = some k → w.heap.size ≤ k
  bel : Below w.heap.size w w'
theorem run_app0 {P : Program} {w : World} {t e : TypeId} {size bytes : Nat} (hA : AppTy P t e size bytes) (ty : TypeId) (a0 : Addr)
    (A : Option Addr) (m c : Nat) (news : List Value) (hl : news.length = m * size) (hs : Src w A news) (h1 : ∀ u ∈ news, u.oneCell' = true) (hm : 0 < m * size)
    (h63 : m ≤ maxLen) (hbytes : m * bytes ≤ 140737488355328) :
    ∃ v' w', (Builtin.append_ #[t, t] ty #[.slice (some a0) 0 0, .slice A m c]).run P w = .ok v' w' ∧ Anew w e size v' m news w' := by
  obtain ⟨ht, i, z, hi, hz, hsize, hby, hzs⟩ := hA
  subst hsize hby
  obtain ⟨g, o, rfl, _, hc⟩ := hs (by rintro rfl; simp at hl; omega)
  have h0 : 0 < m := Nat.pos_of_ne_zero fun e => by subst e; simp at hm
  have hsmall : m ≤ 9223372036854775807 := by simp only [maxLen] at h63; omega
  have hr := run_append_grow (P := P) w t ty e i z ht hi hz a0 0 0 [] (by simp) (fun j u hj => by simp at hj) ⟨g, o, none⟩ m c news hl (fun j u hj => by rw [Addr.add_lit]; exact hc j u hj) (by omega) (by omega) (growslice_fits (by omega) (by rw [Nat.zero_add]; exact hbytes))
  have hge := grownCap_ge w (0 + m) 0 e
  have hcm : grownCap w (0 + m) 0 e ≤ maxLen := grownCap_le_maxLen w (0 + m) 0 e (by omega)
  rw [Nat.zero_add] at hr hge hcm
  refine ⟨_, _, hr, ⟨hl, Or.inr ⟨w.heap.size, 0, _, _, rfl, heap_alloc_new w.drew _, hge, hcm, ?_, ?_⟩⟩, fun k hk => ?_, ((Below.refl _ w).drew).alloc (Nat.le_refl _) _⟩
  · simp only [Array.size_append, List.size_toArray, size_zeroCells, hzs, hl, List.length_nil]
    rw [Nat.zero_add, Nat.zero_add, ← Nat.add_mul]
    exact Nat.mul_le_mul_right _ (by omega)
  · simp only [Array.toList_append, List.nil_append, List.drop_zero]
    rw [← hl]
    exact List.take_left
  · have hk' : w.heap.size = k := by simpa [Value.ownBlock] using hk
    omega
theorem step_app0 {P : Program} {w : World} {t e : TypeId} {size bytes : Nat} {ops : Array Oper} {o : Oper} {a : Act} {K : Act → World → Prop} {Q : Exit → Act → World → Prop} {E : Prop} (hA : AppTy P t e size bytes) (hgd : o.guard = none) (s x : Operand)
    (ho : o.op = .call { callee := .builtin .append, args := #[s, x], argTypes := #[t, t] })
    (a0 : Addr) (hs : a.eval s = .slice (some a0) 0 0)
    (A : Option Addr) (m c : Nat) (news : List Value) (hx : a.eval x = .slice A m c) (hl : news.length = m * size) (hsrc : Src w A news) (h1 : ∀ u ∈ news, u.oneCell' = true) (h0 : 0 < m * size)
    (h63 : m ≤ maxLen) (hbytes : m * bytes ≤ 140737488355328)
    (h : ∀ v' w', Hid (Anew w e size v' m news w') → K (a.put o.dst v') w') :
    if Region.wanted o (yielded ops a.tmps) = true then Oper.wp P o a w K Q else E := by
  have hw : Region.wanted o (yielded ops a.tmps) = true := by simp [Region.wanted, hgd]
  rw [if_pos hw]
  obtain ⟨v', w', hr, hg⟩ := run_app0 hA o.type a0 A m c news hl hsrc h1 h0 h63 hbytes
  unfold Oper.wp execOp
  simp only [ho, resolve, invoke, builtin, Sem.run_bind, Sem.run_pure, Result.andThen_ok, List.map_toArray, List.map_cons, List.map_nil, hs, hx, hr]
  exact h v' w' hg

section
variable {w w1 : World} {G : Nat → Prop} {p f b : Nat} {m : Int} {L : List Rd}
set_option maxRecDepth 100000 in
set_option maxHeartbeats 1000000 in
theorem UpTo_none (h : Stg p L f b m w G) (mark : Int) (hk : reach mark (L.take f) = 0) : Calls Tryd.prog 15 #[.pointer (some ⟨p, 0, none⟩), .int .i64 mark] w fun e w' => e = .returned (.tuple #[.slice none 0 0, .bool false]) ∧ Below w.heap.size w w' := by
  have HR := hide (reach_any h mark hk)
  clear h hk
  go_enter Tryd.func15, Tryd.ntmps15
  go_wp2_with fail
  refine HR.out.mono ?_
  rintro e w2 ⟨rfl, hb2⟩
  have HB2 := hide hb2
  clear hb2 HR
  go_wp2
  go_ret2
  exact ⟨rfl, HB2.out⟩
set_option maxRecDepth 100000 in
set_option maxHeartbeats 4000000 in
theorem UpTo_some (h : Stg p L f b m w G) (mark : Int) {k : Nat} (hk : reach mark (L.take f) = k) (h0 : 0 < k) : Calls Tryd.prog 15 #[.pointer (some ⟨p, 0, none⟩), .int .i64 mark] w fun e w' => ∃ v, e = .returned (.tuple #[v, .bool true]) ∧ ORow w' 30 5 v k (rcels (L.take k)) ∧ (∀ i, v.ownBlock = some i → w.heap.size ≤ i) ∧ Below w.heap.size w w' := by
  have HR := hide (reach_any h mark hk)
  have hkf : k ≤ f := by
    have := reach_le mark (L.take f)
    rw [hk, List.length_take] at this
    omega
  have HH := hide h
  have Hk := hide (show 0 < k * 5 by omega)
  have Hkf := hide hkf
  have hk0 : ((k : Int) == 0) = false := by simp; omega
  clear h hk h0 hkf
  go_enter Tryd.func15, Tryd.ntmps15
  go_wp2_with fail
  refine HR.out.mono ?_
  rintro e w2 ⟨rfl, hb2⟩
  have HB2 := hide hb2
  have hh := HH.out.below hb2
  obtain ⟨A, n, c, hx, hn, hnc, hcm, hs, hp, c0, _, _, _, _⟩ := hh.cells
  have hfl := hh.fl
  have hfew := hh.few
  rw [← hn] at hfl hfew
  have hkf := Hkf.out
  have hkn : k ≤ n := by omega
  obtain ⟨g, o, rfl, hgl, _⟩ := hs (by
    intro e
    have := rcels_len L
    rw [e, ← hn] at this
    have := Hk.out
    simp at *
    omega)
  have HL : Hid ((rcels (L.take k)).length = k * 5) := by
    show _ = _
    rw [rcels_len, List.length_take]
    omega
  have HSr : Hid (∀ W, Below w2.heap.size w2 W → Src W (some ⟨g, o, none⟩) (rcels (L.take k))) := fun W hW => by
    rw [← rcels_take]
    exact Lk.Src.take (hs.below hW) _
  have Hm1 := hide (show k ≤ maxLen by omega)
  have Hm2 := hide (show k * 48 ≤ 140737488355328 by omega)
  have hc63 : c ≤ 9223372036854775807 := by unfold maxLen at hcm; omega
  have e1 : (k : Int) ≤ (c : Int) := by omega
  have e2 : k ≤ c := by omega
  have e3 : (0 : Int) ≤ (c : Int) := by omega
  have HS3 : Hid (∀ W, Below w2.drew.heap.size w2.drew W → W.cell? ⟨p, 0, none⟩ = some (.slice (some ⟨g, o, none⟩) n c) ∧ Below w2.heap.size w2 W) := fun W hW => ⟨((drew_below' hW).cell (p := ⟨p, 0, none⟩) hp).trans c0, drew_below' hW⟩
  have hS0 : (fun W : World => W.cell? ⟨p, 0, none⟩ = some (.slice (some ⟨g, o, none⟩) n c) ∧ Below w2.heap.size w2 W) w2.drew := ⟨c0, (Below.refl _ _).drew⟩
  clear hb2 hh hx hn hnc hcm hs hp hfl hfew hkf hkn hgl HR HH c0
  go_wp2_with fail
  refine wp_region_held (S := (fun W => W.cell? ⟨p, 0, none⟩ = some (.slice (some ⟨g, o, none⟩) n c) ∧ Below w2.heap.size w2 W)) (by kernel_rfl) ?_
  change wpAnyH _ _ _ _ _ _ _ _ (World.drew _)
  refine wpAnyH_take (i := 0) (oi := ⟨some 12, _, _, _, _, _⟩) (v := ?_) rfl (by kernel_rfl) (by kernel_rfl) (by kernel_rfl) (fun _ _ _ h => h) (Or.inl ⟨by rfl, ?_⟩) hS0 ?_
  rotate_left 1
  · (intro w hSw; obtain ⟨hSw1, hSw2⟩ := hSw; go_simp; try with_reducible rfl)
  simp only [Act.put, List.setIfInBounds_toArray, List.set_cons_zero, List.set_cons_succ]
  refine wpAnyH_take (i := 1) (oi := ⟨some 13, _, _, _, _, _⟩) (v := ?_) rfl (by kernel_rfl) (by kernel_rfl) (by kernel_rfl) (fun _ _ _ h => h) (Or.inl ⟨by rfl, ?_⟩) hS0 ?_
  rotate_left 1
  · (intro w hSw; obtain ⟨hSw1, hSw2⟩ := hSw; go_simp; try with_reducible rfl)
  simp only [Act.put, List.setIfInBounds_toArray, List.set_cons_zero, List.set_cons_succ]
  refine wpAnyH_take (i := 2) (oi := ⟨some 14, _, _, _, _, _⟩) (v := ?_) rfl (by kernel_rfl) (by kernel_rfl) (by kernel_rfl) (fun _ _ _ h => h) (Or.inl ⟨by rfl, ?_⟩) hS0 ?_
  rotate_left 1
  · (intro w hSw; obtain ⟨hSw1, hSw2⟩ := hSw; go_simp; try with_reducible rfl)
  simp only [Act.put, List.setIfInBounds_toArray, List.set_cons_zero, List.set_cons_succ]
  refine wpAnyH_take (i := 3) (oi := ⟨some 15, _, _, _, _, _⟩) (v := ?_) rfl (by kernel_rfl) (by kernel_rfl) (by kernel_rfl) (fun _ _ _ h => h) (Or.inl ⟨by rfl, ?_⟩) hS0 ?_
  rotate_left 1
  · (intro w hSw; obtain ⟨hSw1, hSw2⟩ := hSw; go_simp; try with_reducible rfl)
  simp only [Act.put, List.setIfInBounds_toArray, List.set_cons_zero, List.set_cons_succ]
  refine wpAnyH_take (i := 4) (oi := ⟨some 16, _, _, _, _, _⟩) (v := ?_) rfl (by kernel_rfl) (by kernel_rfl) (by kernel_rfl) (fun _ _ _ h => h) (Or.inl ⟨by rfl, ?_⟩) hS0 ?_
  rotate_left 1
  · (intro w hSw; obtain ⟨hSw1, hSw2⟩ := hSw; go_simp; try with_reducible rfl)
  simp only [Act.put, List.setIfInBounds_toArray, List.set_cons_zero, List.set_cons_succ]
  refine wpAnyH_take (i := 5) (oi := ⟨some 17, _, _, _, _, _⟩) (v := ?_) rfl (by kernel_rfl) (by kernel_rfl) (by kernel_rfl) (fun _ _ _ h => h) (Or.inl ⟨by rfl, ?_⟩) hS0 ?_
  rotate_left 1
  · (intro w hSw; obtain ⟨hSw1, hSw2⟩ := hSw; go_simp; try with_reducible rfl)
  simp only [Act.put, List.setIfInBounds_toArray, List.set_cons_zero, List.set_cons_succ]
  refine wpAnyH_take (i := 6) (oi := ⟨some 18, _, _, _, _, _⟩) (v := ?_) rfl (by kernel_rfl) (by kernel_rfl) (by kernel_rfl) (fun _ _ _ h => h) (Or.inl ⟨by rfl, ?_⟩) hS0 ?_
  rotate_left 1
  · (intro w hSw; obtain ⟨hSw1, hSw2⟩ := hSw; go_simp; try with_reducible rfl)
  simp only [Act.put, List.setIfInBounds_toArray, List.set_cons_zero, List.set_cons_succ]
  refine wpAnyH_take (i := 7) (oi := ⟨some 19, _, _, _, _, _⟩) (v := ?_) rfl (by kernel_rfl) (by kernel_rfl) (by kernel_rfl) (fun _ _ _ h => h) (Or.inl ⟨by rfl, ?_⟩) hS0 ?_
  rotate_left 1
  · (intro w hSw; obtain ⟨hSw1, hSw2⟩ := hSw; go_simp; try with_reducible rfl)
  simp only [Act.put, List.setIfInBounds_toArray, List.set_cons_zero, List.set_cons_succ]
  refine wpAnyH_take (i := 8) (oi := ⟨some 20, _, _, _, _, _⟩) (v := ?_) rfl (by kernel_rfl) (by kernel_rfl) (by kernel_rfl) (fun _ _ _ h => h) (Or.inl ⟨by rfl, ?_⟩) hS0 ?_
  rotate_left 1
  · (intro w hSw; obtain ⟨hSw1, hSw2⟩ := hSw; go_simp; try with_reducible rfl)
  simp only [Act.put, List.setIfInBounds_toArray, List.set_cons_zero, List.set_cons_succ]
  refine wpAnyH_take (i := 9) (oi := ⟨some 21, _, _, _, _, _⟩) (v := ?_) rfl (by kernel_rfl) (by kernel_rfl) (by kernel_rfl) (fun _ _ _ h => h) (Or.inl ⟨by rfl, ?_⟩) hS0 ?_
  rotate_left 1
  · (intro w hSw; obtain ⟨hSw1, hSw2⟩ := hSw; go_simp; try with_reducible rfl)
  simp only [Act.put, List.setIfInBounds_toArray, List.set_cons_zero, List.set_cons_succ]
  refine wpAnyH_take (i := 10) (oi := ⟨some 22, _, _, _, _, _⟩) (v := ?_) rfl (by kernel_rfl) (by kernel_rfl) (by kernel_rfl) (fun _ _ _ h => h) (Or.inl ⟨by rfl, ?_⟩) hS0 ?_
  rotate_left 1
  · (intro w hSw; obtain ⟨hSw1, hSw2⟩ := hSw; go_simp; try with_reducible rfl)
  simp only [Act.put, List.setIfInBounds_toArray, List.set_cons_zero, List.set_cons_succ]
  refine wpAnyH_ready (rs := [11]) (by kernel_rfl) (by simp) ?_
  refine AllReadyH.cons (o := ⟨some 23, _, _, _, _, _⟩) rfl (fun K hK => ?_) AllReadyH.nil
  refine step_app0 app_rc (by rfl) (.tmp 16) (.tmp 22) rfl _ rfl (some ⟨g, o, none⟩) k c (rcels (L.take k)) rfl HL.out (HSr.out _ (Below.refl _ _).drew) (rcels_ones _) Hk.out Hm1.out Hm2.out ?_
  intro v w3 hg
  have hb3 := hg.out.bel
  have HG := hide hg.out
  have hS1 : (fun W : World => W.cell? ⟨p, 0, none⟩ = some (.slice (some ⟨g, o, none⟩) n c) ∧ Below w2.heap.size w2 W) w3 := HS3.out w3 hb3
  refine hK.out _ _ hS1 (fun hHeld => ?_)
  clear hK K
  clear hHeld
  refine wpAnyH_take (i := 12) (oi := ⟨some 4, _, _, _, _, _⟩) (v := ?_) rfl (by kernel_rfl) (by kernel_rfl) (by kernel_rfl) (fun _ _ _ h => h) (Or.inl ⟨by rfl, ?_⟩) hS1 ?_
  rotate_left 1
  · (intro w hSw; obtain ⟨hSw1, hSw2⟩ := hSw; go_simp; try with_reducible rfl)
  simp only [Act.put, List.setIfInBounds_toArray, List.set_cons_zero, List.set_cons_succ]
  refine wpAnyH_take (i := 13) (oi := ⟨some 5, _, _, _, _, _⟩) (v := ?_) rfl (by kernel_rfl) (by kernel_rfl) (by kernel_rfl) (fun _ _ _ h => h) (Or.inl ⟨by rfl, ?_⟩) hS1 ?_
  rotate_left 1
  · (intro w hSw; obtain ⟨hSw1, hSw2⟩ := hSw; go_simp; try with_reducible rfl)
  simp only [Act.put, List.setIfInBounds_toArray, List.set_cons_zero, List.set_cons_succ]
  refine wpAnyH_done (by kernel_rfl) ?_ _
  obtain ⟨VA, vc, rfl, _, _, _⟩ := HG.out.row.form
  clear hS1 hb3 hg
  have HB3 := hide (HB2.out.trans ((drew_below' HG.out.bel).mono HB2.out.size))
  have HO := hide (fun i hi => Nat.le_trans HB2.out.size (HG.out.own i hi))
  go_wp2
  go_ret2
  exact ⟨_, rfl, HG.out.row, HO.out, HB3.out⟩

/-! ### Take -/
theorem wpList_box_told {P : Program} {ops : Array Oper} {rest : List Oper} {o : Oper} {a : Act} {w : World} {Q : Exit → Act → World → Prop} (hg : o.guard = none) (t : TypeId) (x : Operand) (ho : o.op = .box t x)
    (z : Array Value) (hz : a.eval x = .agg z)
    (h : ∀ w', Hid (w' = w.alloc (.cells z t)) → wpList P ops Q rest (a.put o.dst (.pointer (some ⟨w.heap.size, 0, none⟩))) w') : wpList P ops Q (o :: rest) a w := by
  refine wpList_plain hg fun K hK => ?_
  unfold Oper.wp execOp
  simp only [ho, hz, Sem.run_bind, Instr.box, newVar, newRow, run_newObj_alloc, Sem.run_pure, Result.andThen_ok, Value.cells]
  exact hK _ _ (h _ rfl)
/-- A row of one that was just made. -/
structure Made (w0 W : World) (g : Nat) (news : List Value) : Prop where
  bel : Below w0.heap.size w0 W
  src : Src W (some ⟨g, 0, none⟩) news
theorem Made.row {w0 wd : World} (hb : Below w0.heap.size w0 wd) (cs : Array Value) (t : TypeId) : Made w0 (wd.alloc (.cells cs t)) wd.heap.size cs.toList :=
  ⟨hb.alloc hb.size _, fun _ => ⟨wd.heap.size, 0, rfl, by simp, fun j u hu => by rw [Nat.zero_add, cell_of_row _ _ j _ _ _ (heap_alloc_new _ _), ← Array.getElem?_toList]; exact hu⟩⟩
theorem Made.rcd {w0 wd : World} (hb : Below w0.heap.size w0 wd) (r : Rd) : Made w0 (wd.alloc (.cells #[.int .i64 r.s, .int .i64 r.k, .int .i64 r.b, .string r.d, .int .i64 r.m] 30)) wd.heap.size (rcel r) := Made.row hb _ _
theorem box_told {w w1 : World} {r : Rd} (h : w1 = w.alloc (.cells #[.int .i64 r.s, .int .i64 r.k, .int .i64 r.b, .string r.d, .int .i64 r.m] 30)) : Below w.heap.size w w1 ∧ w.heap.size < w1.heap.size ∧ RAt w1 w.heap.size 0 r := by
  subst h
  have hq := heap_alloc_new w (.cells #[.int .i64 r.s, .int .i64 r.k, .int .i64 r.b, .string r.d, .int .i64 r.m] 30)
  refine ⟨(Below.refl _ _).alloc (Nat.le_refl _) _, by simp, ?_, ?_, ?_, ?_, ?_⟩
  · rw [cell_of_row _ _ 0 _ _ _ hq]; rfl
  · rw [cell_of_row _ _ _ _ _ _ hq]; rfl
  · rw [cell_of_row _ _ _ _ _ _ hq]; rfl
  · rw [cell_of_row _ _ _ _ _ _ hq]; rfl
  · rw [cell_of_row _ _ _ _ _ _ hq]; rfl
/-- Whether it is taken. -/
def fits (r : Rd) (t : Nat) : Prop := r.s = (t : Int) + 1 ∧ Rgt r.s r.k r.b r.d.size r.m
set_option maxRecDepth 100000 in
set_option maxHeartbeats 4000000 in
theorem Take_no (h : Stg p L f b m w G) (r : Rd) (hd : r.d.size ≤ 9223372036854775807) {t : Nat} (ht : b + L.length = t) (hr : ¬ fits r t) : Calls Tryd.prog 10 #[.pointer (some ⟨p, 0, none⟩), r.val] w fun e w' => e = .returned (.int .i64 (t : Int)) ∧ Below w.heap.size w w' := by
  obtain ⟨rs, rk, rb, rd, rm⟩ := r
  show Calls Tryd.prog 10 #[.pointer (some ⟨p, 0, none⟩), .agg #[.int .i64 rs, .int .i64 rk, .int .i64 rb, .string rd, .int .i64 rm]] w _
  have HH := hide h
  have Ht := hide ht
  have Hd := hide hd
  have hs := h.run.sum h.bb
  rw [ht] at hs
  have e1 : IntKind.i64.wrap ((t : Int) + 1) = (t : Int) + 1 := wrap_id (by omega) (by omega)
  have Hr := hide hr
  clear h ht hd hs hr
  go_enter Tryd.func10, Tryd.ntmps10
  go_wp2_with (refine wpList_box_told rfl 30 (.tmp 1) rfl _ rfl ?_)
  intro w1 Hw1
  obtain ⟨hb1, hl1, c0, c1, c2, c3, c4⟩ := box_told (r := ⟨rs, rk, rb, rd, rm⟩) Hw1.out
  have HB1 := hide hb1
  have HL := hide (Last_any (HH.out.below hb1) Ht.out rfl)
  have HRt : Hid (RAt w1 w.heap.size 0 ⟨rs, rk, rb, rd, rm⟩) := ⟨c0, c1, c2, c3, c4⟩
  have Hl1 := hide hl1
  clear Hw1 hb1 hl1 c0 c1 c2 c3 c4
  go_wp2_with fail
  refine HL.out.mono ?_
  rintro e w2 ⟨rfl, hb2⟩
  obtain ⟨c0, c1, c2, c3, c4⟩ := HRt.out.below Hl1.out hb2
  rw [Nat.zero_add] at c1 c2 c3 c4
  have HB2 := hide (HB1.out.trans (hb2.mono HB1.out.size))
  clear hb2 HL HRt Hl1
  by_cases h1 : rs = (t : Int) + 1
  · subst h1
    go_wp2_with fail
    refine (Right_any _ rk rb rd rm w2 Hd.out).mono ?_
    rintro e w3 ⟨⟨B, rfl, hB⟩, hb3⟩
    have HB3 := hide (HB2.out.trans (hb3.mono HB2.out.size))
    cases B with
    | true => exact absurd ⟨rfl, hB.1 rfl⟩ Hr.out
    | false =>
      clear hb3 hB c0 c1 c2 c3 c4
      go_wp2
      go_ret
      exact ⟨rfl, HB3.out⟩
  · have h1' : (rs == (t : Int) + 1) = false := by simpa using h1
    have h1'' : (rs != (t : Int) + 1) = true := by simpa using h1
    clear h1
    go_wp2
    go_ret
    exact ⟨rfl, HB2.out⟩
set_option maxRecDepth 100000 in
set_option maxHeartbeats 4000000 in
theorem Take_yes (h : Stg p L f b m w G) (r : Rd) (hd : r.d.size ≤ 9223372036854775807) {t : Nat} (ht : b + L.length = t) (hr : fits r t) (hf : L.length < 100000) : Calls Tryd.prog 10 #[.pointer (some ⟨p, 0, none⟩), r.val] w fun e w' => e = .returned (.int .i64 ((t : Int) + 1)) ∧ After (stgT p (L ++ [r]) f b m) w G w' := by
  obtain ⟨rs, rk, rb, rd, rm⟩ := r
  show Calls Tryd.prog 10 #[.pointer (some ⟨p, 0, none⟩), .agg #[.int .i64 rs, .int .i64 rk, .int .i64 rb, .string rd, .int .i64 rm]] w _
  have h1 : rs = (t : Int) + 1 := hr.1
  subst h1
  have HH := hide h
  have Ht := hide ht
  have Hd := hide hd
  have hs := h.run.sum h.bb
  rw [ht] at hs
  have e1 : IntKind.i64.wrap ((t : Int) + 1) = (t : Int) + 1 := wrap_id (by omega) (by omega)
  have Hr := hide hr
  have Hf := hide hf
  clear h ht hd hs hr hf
  go_enter Tryd.func10, Tryd.ntmps10
  go_wp2_with (refine wpList_box_told rfl 30 (.tmp 1) rfl _ rfl ?_)
  intro w1 Hw1
  obtain ⟨hb1, hl1, c0, c1, c2, c3, c4⟩ := box_told (r := ⟨(t : Int) + 1, rk, rb, rd, rm⟩) Hw1.out
  have HB1 := hide hb1
  have HL := hide (Last_any (HH.out.below hb1) Ht.out rfl)
  have HRt : Hid (RAt w1 w.heap.size 0 ⟨(t : Int) + 1, rk, rb, rd, rm⟩) := ⟨c0, c1, c2, c3, c4⟩
  have Hl1 := hide hl1
  clear Hw1 hb1 hl1 c0 c1 c2 c3 c4
  go_wp2_with fail
  refine HL.out.mono ?_
  rintro e w2 ⟨rfl, hb2⟩
  have hat := HRt.out.below Hl1.out hb2
  have Hat := hide hat
  obtain ⟨c0, c1, c2, c3, c4⟩ := hat
  rw [Nat.zero_add] at c1 c2 c3 c4
  have HB2 := hide (HB1.out.trans (hb2.mono HB1.out.size))
  have Hl2 := hide (Nat.lt_of_lt_of_le Hl1.out hb2.size)
  clear hb2 HL HRt Hl1
  go_wp2_with fail
  refine (Right_any _ rk rb rd rm w2 Hd.out).mono ?_
  rintro e w3 ⟨⟨B, rfl, hB⟩, hb3⟩
  obtain rfl : B = true := hB.2 Hr.out.2
  have HB3 := hide (HB2.out.trans (hb3.mono HB2.out.size))
  have hat3 := Hat.out.below Hl2.out hb3
  have hl3 := Nat.lt_of_lt_of_le Hl2.out hb3.size
  obtain ⟨A, n, c, hx, hn, hnc, hcm, _, hp, d0, _, _, _, _⟩ := (HH.out.below HB3.out).cells
  have Hn := hide hn
  have HC : Hid (∀ W : World, Below w3.heap.size w3 W → W.cell? ⟨p, 0, none⟩ = some (.slice A n c) ∧ W.cell? ⟨w.heap.size, 0, none⟩ = some (.int .i64 ((t : Int) + 1)) ∧ W.cell? ⟨w.heap.size, 1, none⟩ = some (.int .i64 rk) ∧ W.cell? ⟨w.heap.size, 2, none⟩ = some (.int .i64 rb) ∧ W.cell? ⟨w.heap.size, 3, none⟩ = some (.string rd) ∧ W.cell? ⟨w.heap.size, 4, none⟩ = some (.int .i64 rm)) := fun W hW => by
    have := hat3.below hl3 hW
    unfold RAt at this
    simp only [Nat.zero_add] at this
    exact ⟨(hW.cell (p := ⟨p, 0, none⟩) hp).trans d0, this⟩
  have HO : Hid (∀ W, Below w3.heap.size w3 W → ORow W 30 5 (.slice A n c) n (rcels L)) := fun W hW => hx.row.below hW
  have Hm1 := hide (show n + 1 ≤ maxLen by have := Hf.out; unfold maxLen; omega)
  have Hm2 := hide (show (n + 1) * 48 ≤ 140737488355328 by have := Hf.out; omega)
  have HS := hide (fun (W W2 : World) (v : Value) (hW : Below w3.heap.size w3 W) (hg : Grown W 30 5 (.slice A n c) (n + 1) (rcels L ++ rcel ⟨(t : Int) + 1, rk, rb, rd, rm⟩) v W2) => (⟨hx.cell' (hx.p_same hW hg) 0, hx.frozen' (hx.p_same hW hg) 0, by
    refine Stg.of (hx.put hW hg) (by rw [List.length_append, ← hn]; rfl) (by rw [rcels_append, rcels_one]) (by have := HH.out.fl; rw [List.length_append]; omega) (by have := Hf.out; rw [List.length_append]; simp; omega) HH.out.bb (HH.out.run.snoc ?_ Hr.out.2)
    rw [Ht.out]
    show (t : Int) + 1 = ((t + 1 : Nat) : Int)
    omega⟩ : W2.cell? ⟨p, 0, none⟩ = some (.slice A n c) ∧ W2.frozen? ⟨p, 0, none⟩ = false ∧ After (stgT p (L ++ [⟨(t : Int) + 1, rk, rb, rd, rm⟩]) f b m) w3 G (W2.setCell ⟨p, 0, none⟩ v)))
  have K0 : Hid (Below w3.heap.size w3 w3.drew) := (Below.refl _ _).drew
  clear c0 c1 c2 c3 c4 hx hn hnc hcm hp d0 hat3 hl3 hb3 hB
  go_wp2_with fail
  refine wp_region_any (by kernel_rfl) ?_
  change wpAny _ _ _ _ _ _ _ (World.drew _)
  generalize World.drew _ = wd at *
  refine wpAny_take (i := 0) (oi := ⟨some 27, _, _, _, _, _⟩) (v := ?_) rfl (by kernel_rfl) (by kernel_rfl) (by kernel_rfl) (fun _ _ _ h => h) (Or.inl ⟨by rfl, ?_⟩) ?_
  rotate_left 1
  · (intro w; go_simp; try with_reducible rfl)
  simp only [Act.put, List.setIfInBounds_toArray, List.set_cons_zero, List.set_cons_succ]
  refine wpAny_take (i := 1) (oi := ⟨some 28, _, _, _, _, _⟩) (v := ?_) rfl (by kernel_rfl) (by kernel_rfl) (by kernel_rfl) (fun _ _ _ h => h) (Or.inl ⟨by rfl, ?_⟩) ?_
  rotate_left 1
  · (intro w; go_simp; try with_reducible rfl)
  simp only [Act.put, List.setIfInBounds_toArray, List.set_cons_zero, List.set_cons_succ]
  refine wpAny_take (i := 2) (oi := ⟨some 29, _, _, _, _, _⟩) (v := ?_) rfl (by kernel_rfl) (by kernel_rfl) (by kernel_rfl) (fun _ _ _ h => h) (Or.inl ⟨by rfl, ?_⟩) ?_
  rotate_left 1
  · (intro w; go_simp; try with_reducible rfl)
  simp only [Act.put, List.setIfInBounds_toArray, List.set_cons_zero, List.set_cons_succ]
  refine wpAny_take (i := 3) (oi := ⟨some 30, _, _, _, _, _⟩) (v := ?_) rfl (by kernel_rfl) (by kernel_rfl) (by kernel_rfl) (fun _ _ _ h => h) (Or.inl ⟨by rfl, ?_⟩) ?_
  rotate_left 1
  · (intro w; go_simp; try with_reducible rfl)
  simp only [Act.put, List.setIfInBounds_toArray, List.set_cons_zero, List.set_cons_succ]
  refine wpAny_ready (rs := [4, 5]) (by kernel_rfl) (by simp) ?_
  refine AllReady.cons (o := ⟨some 31, _, _, _, _, _⟩) rfl (fun K hK => ?_) (AllReady.cons (o := ⟨some 32, _, _, _, _, _⟩) rfl (fun K hK => ?_) AllReady.nil)
  · have hq := (HC.out _ K0.out).1
    go_simp
    clear hq
    refine hK _ _ ?_
    clear hK K
    refine wpAny_ready (rs := [5]) (by kernel_rfl) (by simp) ?_
    refine AllReady.cons (o := ⟨some 32, _, _, _, _, _⟩) rfl (fun K hK => ?_) AllReady.nil
    obtain ⟨hq0, hq1, hq2, hq3, hq4⟩ := (HC.out _ K0.out).2
    go_simp
    clear hq0 hq1 hq2 hq3 hq4
    refine hK _ _ ?_
    clear hK K
    refine wpAny_ready (rs := [6]) (by kernel_rfl) (by simp) ?_
    refine AllReady.cons (o := ⟨some 33, _, _, _, _, _⟩) rfl (fun K hK => ?_) AllReady.nil
    go_simp
    have HM := hide (Made.rcd K0.out ⟨(t : Int) + 1, rk, rb, rd, rm⟩)
    have K1 := hide HM.out.bel
    generalize World.alloc _ _ = W1 at *
    refine hK _ _ ?_
    clear hK K
    refine wpAny_ready (rs := [7]) (by kernel_rfl) (by simp) ?_
    refine AllReady.cons (o := ⟨some 34, _, _, _, _, _⟩) rfl (fun K hK => ?_) AllReady.nil
    refine step_app app_rc (by rfl) (.tmp 31) (.tmp 33) rfl (.slice A n c) n (rcels L) rfl (HO.out _ K1.out) _ 1 1 (rcel ⟨(t : Int) + 1, rk, rb, rd, rm⟩) rfl rfl HM.out.src (rcel_ones _) (by decide) Hm1.out Hm2.out ?_
    intro v2 w2 hg
    obtain ⟨s0, s1, s2⟩ := HS.out _ _ _ K1.out hg.out
    have HA := hide s2
    obtain ⟨A2, c2, rfl, _, _, _⟩ := hg.out.row.form
    clear hg s2
    refine hK _ _ ?_
    clear hK K
    refine wpAny_take (i := 8) (oi := ⟨some 35, _, _, _, _, _⟩) (v := ?_) rfl (by kernel_rfl) (by kernel_rfl) (by kernel_rfl) (fun _ _ _ h => h) (Or.inl ⟨by rfl, ?_⟩) ?_
    rotate_left 1
    · (intro w; go_simp; try with_reducible rfl)
    simp only [Act.put, List.setIfInBounds_toArray, List.set_cons_zero, List.set_cons_succ]
    refine wpAny_take (i := 9) (oi := ⟨some 36, _, _, _, _, _⟩) (v := ?_) rfl (by kernel_rfl) (by kernel_rfl) (by kernel_rfl) (fun _ _ _ h => h) (Or.inl ⟨by rfl, ?_⟩) ?_
    rotate_left 1
    · (intro w; go_simp; try with_reducible rfl)
    simp only [Act.put, List.setIfInBounds_toArray, List.set_cons_zero, List.set_cons_succ]
    refine wpAny_ready (rs := [10]) (by kernel_rfl) (by simp) ?_
    refine AllReady.cons (o := ⟨none, _, _, _, _, _⟩) rfl (fun K hK => ?_) AllReady.nil
    go_simp
    generalize World.setCell _ _ _ = w3 at *
    refine hK _ _ ?_
    clear hK K
    refine wpAny_done (by kernel_rfl) ?_ _
    clear s0 s1
    go_wp2
    go_ret
    exact ⟨by first | rfl | simp, HA.out.from HB3.out⟩
  · obtain ⟨hq0, hq1, hq2, hq3, hq4⟩ := (HC.out _ K0.out).2
    go_simp
    clear hq0 hq1 hq2 hq3 hq4
    refine hK _ _ ?_
    clear hK K
    refine wpAny_ready (rs := [4, 6]) (by kernel_rfl) (by simp) ?_
    refine AllReady.cons (o := ⟨some 31, _, _, _, _, _⟩) rfl (fun K hK => ?_) (AllReady.cons (o := ⟨some 33, _, _, _, _, _⟩) rfl (fun K hK => ?_) AllReady.nil)
    · have hq := (HC.out _ K0.out).1
      go_simp
      clear hq
      refine hK _ _ ?_
      clear hK K
      refine wpAny_ready (rs := [6]) (by kernel_rfl) (by simp) ?_
      refine AllReady.cons (o := ⟨some 33, _, _, _, _, _⟩) rfl (fun K hK => ?_) AllReady.nil
      go_simp
      have HM := hide (Made.rcd K0.out ⟨(t : Int) + 1, rk, rb, rd, rm⟩)
      have K1 := hide HM.out.bel
      generalize World.alloc _ _ = W1 at *
      refine hK _ _ ?_
      clear hK K
      refine wpAny_ready (rs := [7]) (by kernel_rfl) (by simp) ?_
      refine AllReady.cons (o := ⟨some 34, _, _, _, _, _⟩) rfl (fun K hK => ?_) AllReady.nil
      refine step_app app_rc (by rfl) (.tmp 31) (.tmp 33) rfl (.slice A n c) n (rcels L) rfl (HO.out _ K1.out) _ 1 1 (rcel ⟨(t : Int) + 1, rk, rb, rd, rm⟩) rfl rfl HM.out.src (rcel_ones _) (by decide) Hm1.out Hm2.out ?_
      intro v2 w2 hg
      obtain ⟨s0, s1, s2⟩ := HS.out _ _ _ K1.out hg.out
      have HA := hide s2
      obtain ⟨A2, c2, rfl, _, _, _⟩ := hg.out.row.form
      clear hg s2
      refine hK _ _ ?_
      clear hK K
      refine wpAny_take (i := 8) (oi := ⟨some 35, _, _, _, _, _⟩) (v := ?_) rfl (by kernel_rfl) (by kernel_rfl) (by kernel_rfl) (fun _ _ _ h => h) (Or.inl ⟨by rfl, ?_⟩) ?_
      rotate_left 1
      · (intro w; go_simp; try with_reducible rfl)
      simp only [Act.put, List.setIfInBounds_toArray, List.set_cons_zero, List.set_cons_succ]
      refine wpAny_take (i := 9) (oi := ⟨some 36, _, _, _, _, _⟩) (v := ?_) rfl (by kernel_rfl) (by kernel_rfl) (by kernel_rfl) (fun _ _ _ h => h) (Or.inl ⟨by rfl, ?_⟩) ?_
      rotate_left 1
      · (intro w; go_simp; try with_reducible rfl)
      simp only [Act.put, List.setIfInBounds_toArray, List.set_cons_zero, List.set_cons_succ]
      refine wpAny_ready (rs := [10]) (by kernel_rfl) (by simp) ?_
      refine AllReady.cons (o := ⟨none, _, _, _, _, _⟩) rfl (fun K hK => ?_) AllReady.nil
      go_simp
      generalize World.setCell _ _ _ = w3 at *
      refine hK _ _ ?_
      clear hK K
      refine wpAny_done (by kernel_rfl) ?_ _
      clear s0 s1
      go_wp2
      go_ret
      exact ⟨by first | rfl | simp, HA.out.from HB3.out⟩
    · go_simp
      have HM := hide (Made.rcd K0.out ⟨(t : Int) + 1, rk, rb, rd, rm⟩)
      have K1 := hide HM.out.bel
      generalize World.alloc _ _ = W1 at *
      refine hK _ _ ?_
      clear hK K
      refine wpAny_ready (rs := [4]) (by kernel_rfl) (by simp) ?_
      refine AllReady.cons (o := ⟨some 31, _, _, _, _, _⟩) rfl (fun K hK => ?_) AllReady.nil
      have hq := (HC.out _ K1.out).1
      go_simp
      clear hq
      refine hK _ _ ?_
      clear hK K
      refine wpAny_ready (rs := [7]) (by kernel_rfl) (by simp) ?_
      refine AllReady.cons (o := ⟨some 34, _, _, _, _, _⟩) rfl (fun K hK => ?_) AllReady.nil
      refine step_app app_rc (by rfl) (.tmp 31) (.tmp 33) rfl (.slice A n c) n (rcels L) rfl (HO.out _ K1.out) _ 1 1 (rcel ⟨(t : Int) + 1, rk, rb, rd, rm⟩) rfl rfl HM.out.src (rcel_ones _) (by decide) Hm1.out Hm2.out ?_
      intro v2 w2 hg
      obtain ⟨s0, s1, s2⟩ := HS.out _ _ _ K1.out hg.out
      have HA := hide s2
      obtain ⟨A2, c2, rfl, _, _, _⟩ := hg.out.row.form
      clear hg s2
      refine hK _ _ ?_
      clear hK K
      refine wpAny_take (i := 8) (oi := ⟨some 35, _, _, _, _, _⟩) (v := ?_) rfl (by kernel_rfl) (by kernel_rfl) (by kernel_rfl) (fun _ _ _ h => h) (Or.inl ⟨by rfl, ?_⟩) ?_
      rotate_left 1
      · (intro w; go_simp; try with_reducible rfl)
      simp only [Act.put, List.setIfInBounds_toArray, List.set_cons_zero, List.set_cons_succ]
      refine wpAny_take (i := 9) (oi := ⟨some 36, _, _, _, _, _⟩) (v := ?_) rfl (by kernel_rfl) (by kernel_rfl) (by kernel_rfl) (fun _ _ _ h => h) (Or.inl ⟨by rfl, ?_⟩) ?_
      rotate_left 1
      · (intro w; go_simp; try with_reducible rfl)
      simp only [Act.put, List.setIfInBounds_toArray, List.set_cons_zero, List.set_cons_succ]
      refine wpAny_ready (rs := [10]) (by kernel_rfl) (by simp) ?_
      refine AllReady.cons (o := ⟨none, _, _, _, _, _⟩) rfl (fun K hK => ?_) AllReady.nil
      go_simp
      generalize World.setCell _ _ _ = w3 at *
      refine hK _ _ ?_
      clear hK K
      refine wpAny_done (by kernel_rfl) ?_ _
      clear s0 s1
      go_wp2
      go_ret
      exact ⟨by first | rfl | simp, HA.out.from HB3.out⟩
end

/-! ### What Drop refuses -/
/-- "stage" -/
abbrev snam : ByteArray := ⟨#[115, 116, 97, 103, 101]⟩
/-- The fault stage, n, around ErrNone, in memory. -/
def SFlt (w : World) (v : Value) (n : Int) : Prop := ∃ p, v = .iface 64 (.pointer (some ⟨p, 0, none⟩)) ∧ Chain w [(p, snam, n)] v (.iface 48 (.int .i64 8))
section
variable {w w1 : World} {G : Nat → Prop} {p f b : Nat} {m : Int} {L : List Rd}
set_option maxRecDepth 100000 in
set_option maxHeartbeats 1000000 in
theorem Drop_none (h : Stg p L f b m w G) (mark : Int) (hk : reach mark (L.take f) = 0) : Calls Tryd.prog 18 #[.pointer (some ⟨p, 0, none⟩), .int .i64 mark] w fun e w' => ∃ q, e = .returned (.iface 64 (.pointer (some ⟨q, 0, none⟩))) ∧ SFlt w' (.iface 64 (.pointer (some ⟨q, 0, none⟩))) mark ∧ Below w.heap.size w w' := by
  have HR := hide (reach_any h mark hk)
  clear h hk
  go_enter Tryd.func18, Tryd.ntmps18
  go_wp2_with fail
  refine HR.out.mono ?_
  rintro e w2 ⟨rfl, hb2⟩
  have HB2 := hide hb2
  have HW := hide (Wrap_real snam mark (.iface 48 (.int .i64 8)) w2 (Real.num (by decide)))
  clear hb2 HR
  go_wp2_with fail
  refine HW.out.mono ?_
  rintro e w3 ⟨rfl, hw3⟩
  have HB3 : Hid (Below w.heap.size w w3) := by rw [hw3]; exact HB2.out.alloc HB2.out.size _
  have HF : Hid (SFlt w3 (.iface 64 (.pointer (some ⟨w2.heap.size, 0, none⟩))) mark) := by
    rw [hw3]
    exact ⟨_, rfl, Chain.wrap (fs := []) (w := w2) (e := .iface 48 (.int .i64 8)) rfl snam mark⟩
  clear hw3 HW
  go_wp2
  go_ret
  exact ⟨_, rfl, HF.out, HB3.out⟩
end

/-! ### Marks -/
def nums (l : List Int) : List Value := l.map (.int .i64)
theorem nums_len (l : List Int) : (nums l).length = l.length := by simp [nums]
theorem nums_get {l : List Int} {j : Nat} {x : Int} (h : l[j]? = some x) : (nums l)[j]? = some (.int .i64 x) := by simp [nums, h]
theorem app_int : AppTy Tryd.prog 53 3 1 8 := AppTy.of Tryd.underlying53 (by kernel_rfl)
/-- Numbers in a slice that a call made. -/
structure Ints (w : World) (B : Nat) (v : Value) (l : List Int) : Prop where
  row : ORow w 3 1 v l.length (nums l)
  own : ∀ k, v.ownBlock = some k → B ≤ k
theorem Ints.below {w w' : World} {B : Nat} {v : Value} {l : List Int} (h : Ints w B v l) (hb : Below w.heap.size w w') : Ints w' B v l := ⟨h.row.below hb, h.own⟩
theorem Ints.form {w : World} {B : Nat} {v : Value} {l : List Int} (h : Ints w B v l) : ∃ A c, v = .slice A l.length c ∧ l.length ≤ c ∧ c ≤ maxLen ∧ Src w A (nums l) := by
  obtain ⟨A, c, rfl, h1, h2, _⟩ := h.row.form
  exact ⟨A, c, rfl, h1, h2, h.row.src⟩
theorem Src.num {w : World} {A : Option Addr} {l : List Int} {j : Nat} {x : Int} (h : Src w A (nums l)) (hx : l[j]? = some x) : ∃ g o, A = some ⟨g, o, none⟩ ∧ g < w.heap.size ∧ w.cell? ⟨g, o + j, none⟩ = some (.int .i64 x) := by
  obtain ⟨g, o, e, hl, hc⟩ := h (by intro e; have := nums_get hx; rw [e] at this; simp at this)
  exact ⟨g, o, e, hl, hc _ _ (nums_get hx)⟩
section
variable {w w1 : World} {G : Nat → Prop} {p f b : Nat} {m : Int} {L : List Rd}
set_option maxRecDepth 100000 in
set_option maxHeartbeats 4000000 in
theorem Marks_any (h : Stg p L f b m w G) : Calls Tryd.prog 26 #[.pointer (some ⟨p, 0, none⟩)] w fun e w' => ∃ v, e = .returned v ∧ Ints w' w.heap.size v (marks (L.take f)) ∧ Below w.heap.size w w' := by
  obtain ⟨A, n, c, hx, hn, hnc, hcm, hs, hp, c0, c1, _, _, _⟩ := h.cells
  have hfl := h.fl
  have hfew := h.few
  rw [← hn] at hfl hfew
  have HSa := hide (safe_any c0 c1 hfl hnc hcm)
  have Hs := hide (show Src w A (rcels (L.take f)) by rw [← rcels_take]; exact Lk.Src.take hs _)
  have Hl := hide (show (L.take f).length = f by rw [List.length_take]; omega)
  have Hf := hide (show f ≤ 100000 by omega)
  have hfi : (f : Int) ≤ 100000 := by omega
  generalize L.take f = M at *
  clear h hx hn hnc hcm hs hp c0 c1 hfl hfew
  go_enter Tryd.func26, Tryd.ntmps26
  go_wp2_with fail
  refine HSa.out.mono ?_
  rintro e w2 ⟨rfl, hb2⟩
  have HB2 := hide hb2
  clear hb2 HSa
  go_wp2_with fail
  go_loopw [3, 5, 9] (fun v _ j wr => ∃ k : Nat, k ≤ f ∧ j = .int .i64 (k : Int) ∧ Hid (Ints wr w.heap.size v (marks (M.take k))) ∧ Hid (Below w.heap.size w wr)) (fun _ _ j _ => f - (intOf j).toNat)
  case atStart => exact ⟨0, Nat.zero_le _, rfl, ⟨ORow.nil _ _ _, fun k hk => by simp [Value.ownBlock] at hk⟩, HB2.out⟩
  case round =>
    obtain ⟨k, hk, rfl, hv, hb⟩ := hrel
    rcases Nat.lt_or_ge k f with hlt | hge
    · have Hlt := hide hlt
      have hki : (k : Int) < (f : Int) := by omega
      obtain ⟨r, hr⟩ : ∃ r, M[k]? = some r := ⟨_, List.getElem?_eq_getElem (by rw [Hl.out]; exact hlt)⟩
      obtain ⟨g, o, rfl, hgl, hat⟩ := Src.rcd (Hs.out.below hb.out) hr
      have HT := hide (show marks (M.take (k + 1)) = marks (M.take k) ++ marks [r] by rw [List.take_add_one, hr]; exact marks_append _ _)
      obtain ⟨rs, rk, rb, rd, rm⟩ := r
      obtain ⟨c0, c1, c2, c3, c4⟩ := hat
      obtain ⟨q, hq⟩ : ∃ q, (marks (M.take k)).length = q := ⟨_, rfl⟩
      have hq1 : q ≤ k := by
        have := marks_len (M.take k)
        rw [hq, List.length_take] at this
        omega
      obtain ⟨VA, vc, rfl, _, _, _⟩ := hv.out.form
      have hb4 : Below wr.heap.size wr (wr.alloc (.cells #[.int .i64 rs, .int .i64 rk, .int .i64 rb, .string rd, .int .i64 rm] 30)) := (Below.refl _ _).alloc (Nat.le_refl _) _
      have HB4 := hide (hb.out.trans (hb4.mono hb.out.size))
      have HV4 := hide (hv.out.below hb4)
      by_cases h2 : rk = 2
      · subst h2
        have hb5 : Below wr.heap.size wr ((wr.alloc (.cells #[.int .i64 rs, .int .i64 2, .int .i64 rb, .string rd, .int .i64 rm] 30)).alloc (.cells #[.int .i64 rm] 3)) := hb4.alloc hb4.size _
        have hvr := (hv.out.below hb5).row
        rw [hq] at hvr ⊢
        have HO := hide hvr
        have HM : Hid (Src ((wr.alloc (.cells #[.int .i64 rs, .int .i64 2, .int .i64 rb, .string rd, .int .i64 rm] 30)).alloc (.cells #[.int .i64 rm] 3)) (some ⟨wr.heap.size + 1, 0, none⟩) (nums [rm])) := by
          have := (Made.row (Below.refl _ (wr.alloc (.cells #[.int .i64 rs, .int .i64 2, .int .i64 rb, .string rd, .int .i64 rm] 30))) #[.int .i64 rm] 3).src
          rw [show (wr.alloc (.cells #[.int .i64 rs, .int .i64 2, .int .i64 rb, .string rd, .int .i64 rm] 30)).heap.size = wr.heap.size + 1 by simp] at this
          exact this
        have HG : Hid (∀ (W2 : World) (v2 : Value), Grown ((wr.alloc (.cells #[.int .i64 rs, .int .i64 2, .int .i64 rb, .string rd, .int .i64 rm] 30)).alloc (.cells #[.int .i64 rm] 3)) 3 1 (.slice VA q vc) (q + 1) (nums (marks (M.take k)) ++ nums [rm]) v2 W2 → Ints W2 w.heap.size v2 (marks (M.take (k + 1))) ∧ Below w.heap.size w W2) := fun W2 v2 hg => by
          have hkp := hg.kept (G := fun i => w.heap.size ≤ i) hb5 (fun i hi => hv.out.own i (by rw [hq]; exact hi))
          refine ⟨⟨?_, fun i hi => ?_⟩, hb.out.trans (hkp.below (fun _ h => h) hb.out.size)⟩
          · rw [HT.out]
            have := hg.row
            simpa [nums, marks, hq] using this
          · rcases hg.own i hi with h1 | h1
            · exact hv.out.own i (by rw [hq]; exact h1)
            · have := hb5.size
              have := hb.out.size
              omega
        have Hm1 := hide (show q + 1 ≤ maxLen by have := Hf.out; unfold maxLen; omega)
        have Hm2 := hide (show (q + 1) * 8 ≤ 140737488355328 by have := Hf.out; omega)
        clear hvr hb5 hb4 hq hq1 hv hb hr hgl hlt HT HV4 HB4
        go_wp2_with (at_builtin; go_must (refine wpList_app app_int rfl (.tmp 16) (.tmp 19) rfl (.slice VA q vc) q (nums (marks (M.take k))) rfl HO.out _ 1 1 (nums [rm]) rfl rfl HM.out (fun u hu => by simp [nums] at hu; subst hu; rfl) (by decide) Hm1.out Hm2.out ?_))
        intro v2 W2 hg
        obtain ⟨hI, hB⟩ := HG.out _ _ hg.out
        have HI := hide hI
        have HB := hide hB
        clear hI hB hg HG HO HM
        go_wp2
        go_roundw
        case rel => exact ⟨k + 1, Hlt.out, by go_num, HI.out, HB.out⟩
        case measure => have := Hlt.out; simp [intOf]; omega
      · have h2' : (rk == 2) = false := by simpa using h2
        have HI := hide (show Ints (wr.alloc (.cells #[.int .i64 rs, .int .i64 rk, .int .i64 rb, .string rd, .int .i64 rm] 30)) w.heap.size (.slice VA (marks (M.take k)).length vc) (marks (M.take (k + 1))) by
          have e : marks (M.take (k + 1)) = marks (M.take k) := by rw [HT.out]; simp [marks, h2]
          rw [e]
          exact HV4.out)
        rw [hq] at HI ⊢
        clear hb4 hq hq1 hv hb hr hgl hlt HT HV4 h2
        go_wp2
        go_roundw
        case rel => exact ⟨k + 1, Hlt.out, by go_num, HI.out, HB4.out⟩
        case measure => have := Hlt.out; simp [intOf]; omega
    · obtain rfl : k = f := by omega
      have HI := hide hv.out
      rw [List.take_of_length_le (by rw [Hl.out]; exact Nat.le_refl _)] at HI
      clear hv hge hk
      go_wp2
      go_ret
      exact ⟨_, rfl, HI.out, hb.out⟩
end

end Go.Proofs.YteneacmdfehfnaaDoor.Sg
