/-
  The contracts of Counts, Push, packets, Send, Resend of a sender, of one that is nil too. Nothing but the sender's own blocks is changed.
-/
import Derived.Test.YtidojlagdodkkabWnErr
import Derived.Test.YtidojlagdodkkabWiMem
namespace Go.Proofs.Ytidojlagdodkkab.Wi
open Go.RowKit
open Pk Dk Wn

theorem wrap_id {n : Int} (h1 : 0 ≤ n) (h2 : n ≤ 1000000) : IntKind.i64.wrap n = n := by rw [IntKind.wrap_i64]; omega
set_option maxRecDepth 100000 in
theorem Counts_nil (w : World) : Calls Try.prog 15 #[.pointer none] w fun e w' => e = .returned (.tuple #[.int .i64 0, .int .i64 0, .int .i64 0]) ∧ Below w.heap.size w w' := by
  have HB := hide (Below.refl w.heap.size w)
  go_enter Try.func15, Try.ntmps15
  go_wp2
  go_ret3
  exact ⟨rfl, HB.out⟩
set_option maxRecDepth 100000 in
theorem Push_nil (x : Int) (w : World) : Calls Try.prog 5 #[.pointer none, .int .i64 x] w fun e w' => e = .returned (.tuple #[]) ∧ Below w.heap.size w w' := by
  have HB := hide (Below.refl w.heap.size w)
  go_enter Try.func5, Try.ntmps5
  go_wp2
  go_end0
  exact ⟨rfl, HB.out⟩
set_option maxRecDepth 100000 in
theorem Send_nil (w : World) : Calls Try.prog 7 #[.pointer none] w fun e w' => e = .returned (.slice none 0 0) ∧ Below w.heap.size w w' := by
  have HB := hide (Below.refl w.heap.size w)
  go_enter Try.func7, Try.ntmps7
  go_wp2
  go_ret
  exact ⟨rfl, HB.out⟩
section
variable {w : World} {G : Nat → Prop} {p n a : Nat} {L : List Int}
set_option maxRecDepth 100000 in
set_option maxHeartbeats 1000000 in
theorem Counts_any (h : Snd p L n a w G) : Calls Try.prog 15 #[.pointer (some ⟨p, 0, none⟩)] w fun e w' => e = .returned (.tuple #[.int .i64 (L.length : Int), .int .i64 (n : Int), .int .i64 (a : Int)]) ∧ Below w.heap.size w w' := by
  obtain ⟨A, m, c, _, hm, _, _, _, c0, c1, c2, _⟩ := h.cells
  obtain ⟨ll, hl⟩ : ∃ ll, L.length = ll := ⟨_, rfl⟩
  rw [hl] at hm ⊢
  have h1 := h.an
  have h2 := h.nl
  have h3 := h.few
  rw [hl] at h2 h3
  have hsum : (a : Int) + (m : Int) = (ll : Int) := by omega
  have hw : IntKind.i64.wrap (ll : Int) = (ll : Int) := wrap_id (by omega) (by omega)
  clear h hm h1 h2 h3 hl
  go_enter Try.func15, Try.ntmps15
  go_wp2_with fail
  go_quiet (fail)
  go_wp2
  go_ret3
  exact ⟨rfl, ⟨rfl, rfl, rfl, Nat.le_refl _, fun _ _ => rfl⟩⟩

set_option maxRecDepth 100000 in
set_option maxHeartbeats 1000000 in
theorem Push_any (h : Snd p L n a w G) (hf : L.length < 100000) (x : Int) : Calls Try.prog 5 #[.pointer (some ⟨p, 0, none⟩), .int .i64 x] w fun e w' => e = .returned (.tuple #[]) ∧ After (sndT p (L ++ [x]) n a) w G w' := by
  obtain ⟨A, m, c, hx, hm, _, _, _, c0, _, _, _⟩ := h.cells
  have hb : Below w.heap.size w (w.alloc (.cells #[.int .i64 x] 3)) := (Below.refl _ _).alloc (Nat.le_refl _) _
  have HO := hide (hx.row.below hb)
  have HM := hide (Made.el (Below.refl w.heap.size w) x).src
  have Hm1 := hide (show m + 1 ≤ maxLen by unfold maxLen; omega)
  have Hm2 := hide (show (m + 1) * 8 ≤ 140737488355328 by omega)
  have HS := hide (fun (v : Value) (W : World) (hg : Grown (w.alloc (.cells #[.int .i64 x] 3)) 3 1 (.slice A m c) (m + 1) (vals (L.drop a) ++ vals [x]) v W) => (⟨(hx.cell' (hx.p_same hb hg) 0), hx.frozen' (hx.p_same hb hg) 0, Snd.of (L := L ++ [x]) (hx.put hb hg) (by have := h.an; have := h.nl; simp; omega) (by rw [← vals_append, List.drop_append_of_le_length (by have := h.an; have := h.nl; omega)]) h.an (by have := h.nl; simp; omega) h.win (by simp; omega)⟩ : W.cell? ⟨p, 0, none⟩ = some (.slice A m c) ∧ W.frozen? ⟨p, 0, none⟩ = false ∧ After (sndT p (L ++ [x]) n a) w G (W.setCell ⟨p, 0, none⟩ v)))
  clear hx hm hb h
  go_enter Try.func5, Try.ntmps5
  go_wp2_with (at_builtin; go_must (refine wpList_app app_el rfl (.tmp 10) (.tmp 12) rfl (.slice A m c) m (vals (L.drop a)) rfl HO.out _ 1 1 (vals [x]) rfl rfl HM.out (vals_one _) (by decide) Hm1.out Hm2.out ?_))
  intro v w' hg
  obtain ⟨s0, s1, s2⟩ := HS.out v w' hg.out
  have HA := hide s2
  obtain ⟨A', c', rfl, _, _, _⟩ := hg.out.row.form
  clear s2 hg HS HO HM c0
  go_wp2
  go_end0
  exact ⟨rfl, HA.out⟩

set_option maxRecDepth 100000 in
set_option maxHeartbeats 4000000 in
theorem packets_any (h : Snd p L n a w G) (b l : Nat) (hab : a ≤ b) (hbl : b ≤ l) (hlL : l ≤ L.length) : Calls Try.prog 16 #[.pointer (some ⟨p, 0, none⟩), .int .i64 (b : Int), .int .i64 (l : Int)] w fun e w' => ∃ v, e = .returned v ∧ Pkts w' w.heap.size v (upTo L b l) ∧ Below w.heap.size w w' := by
  have Hh := hide h
  have hf := h.few
  have Hl := hide hlL
  have Hf := hide hf
  have Hab := hide hab
  have hli : (l : Int) ≤ 100000 := by omega
  have hbi : (b : Int) ≤ (l : Int) := by omega
  have HP0 : Hid (Pkts w w.heap.size (.slice none 0 0) (upTo L b b)) := by rw [upTo_self]; exact Pkts.nil _ _
  clear h hf hlL hab
  go_enter Try.func16, Try.ntmps16
  go_wp2
  go_loopw [7, 8] (fun v j wr => ∃ k : Nat, b ≤ k ∧ k ≤ l ∧ j = .int .i64 ((k : Int) + 1) ∧ Hid (Pkts wr w.heap.size v (upTo L b k)) ∧ Hid (Below w.heap.size w wr)) (fun _ j _ => l + 1 - (intOf j).toNat)
  case atStart => exact ⟨b, Nat.le_refl _, hbl, by go_num, HP0, Below.refl _ _⟩
  case round =>
    clear HP0
    obtain ⟨k, hbk, hkl, rfl, hp, hb⟩ := hrel
    have hki : (k : Int) ≤ (l : Int) := by omega
    rcases Nat.lt_or_ge k l with hlt | hge
    · have Hlt := hide hlt
      have hlti : (k : Int) + 1 ≤ (l : Int) := by omega
      obtain ⟨A, m, c, hx, hm, _, _, hs, c0, _, c2, _⟩ := (Hh.out.below hb.out).cells
      obtain ⟨x, hxk⟩ : ∃ x, L[k]? = some x := ⟨_, List.getElem?_eq_getElem (by have := Hl.out; omega)⟩
      obtain ⟨d, hd⟩ : ∃ d, k = a + d := ⟨k - a, by have := Hab.out; omega⟩
      have hxd : (L.drop a)[d]? = some x := by rw [List.getElem?_drop, ← hd]; exact hxk
      obtain ⟨g, o, rfl, hgl, hce⟩ := Src.el hs hxd
      have hq1 : (k : Int) + 1 - (a : Int) = (d : Int) + 1 := by omega
      have hq2 : IntKind.i64.wrap (d : Int) = (d : Int) := wrap_id (by omega) (by omega)
      have hq3 : IntKind.i64.wrap ((d : Int) + 1) = (d : Int) + 1 := wrap_id (by omega) (by omega)
      have hdm : (d : Int) < (m : Int) := by have := Hl.out; omega
      have hdm' : d < m := by omega
      have hpl := hx.lt p hx.mine
      obtain ⟨q, hq⟩ : ∃ q, (upTo L b k).length = q := ⟨_, rfl⟩
      have hqk : q = k - b := by rw [← hq]; exact upTo_len (by have := Hl.out; omega)
      have Hm1 := hide (show q + 1 ≤ maxLen by have := Hl.out; have := Hf.out; unfold maxLen; omega)
      have Hm2 := hide (show (q + 1) * 16 ≤ 140737488355328 by have := Hl.out; have := Hf.out; omega)
      obtain ⟨VA, vc, rfl, _, _, _⟩ := hp.out.form
      have hq' := hp.out.row
      rw [hq] at hq'
      rw [hq]
      have HO : Hid (∀ W, Below wr.heap.size wr W → ORow W 33 2 (.slice VA q vc) q (pcels (upTo L b k))) := fun W hW => hq'.below hW
      have HC : Hid (∀ W : World, Below wr.heap.size wr W → W.cell? ⟨p, 0, none⟩ = some (.slice (some ⟨g, o, none⟩) m c) ∧ W.cell? ⟨p, 2, none⟩ = some (.int .i64 (a : Int)) ∧ W.cell? ⟨g, o + d, none⟩ = some (.int .i64 x)) := fun W hW =>
        ⟨(hW.cell (p := ⟨p, 0, none⟩) hpl).trans c0, (hW.cell (p := ⟨p, 2, none⟩) hpl).trans c2, (hW.cell (p := ⟨g, o + d, none⟩) hgl).trans hce⟩
      have HB1 : Hid (∀ (W1 W2 : World) (v2 : Value), Below wr.heap.size wr W1 → Grown W1 33 2 (.slice VA q vc) (q + 1) (pcels (upTo L b k) ++ pcel ((k : Int) + 1, x)) v2 W2 → Below w.heap.size w W2) := fun W1 W2 v2 hW hg => by
        have hk := hg.kept (G := fun i => w.heap.size ≤ i) hW (fun i hi => hp.out.own i (by rw [hq]; exact hi))
        exact hb.out.trans (hk.below (fun _ h => h) hb.out.size)
      have HP : Hid (∀ (W1 W2 : World) (v2 : Value), Below wr.heap.size wr W1 → Grown W1 33 2 (.slice VA q vc) (q + 1) (pcels (upTo L b k) ++ pcel ((k : Int) + 1, x)) v2 W2 → Pkts W2 w.heap.size v2 (upTo L b (k + 1))) := fun W1 W2 v2 hW hg => by
        have he : upTo L b (k + 1) = upTo L b k ++ [((k : Int) + 1, x)] := by rw [upTo_snoc hbk hxk]; simp
        refine ⟨?_, fun i hi => ?_⟩
        · rw [he, pcels_append, List.length_append, hq]
          have := hg.row
          simpa [pcels] using this
        · rcases hg.own i hi with h1 | h1
          · exact hp.out.own i (by rw [hq]; exact h1)
          · have := hW.size
            have := hb.out.size
            omega
      have K0 : Hid (Below wr.heap.size wr wr.drew) := (Below.refl _ _).drew
      clear hx hm hs c0 c2 hxk hd hxd hgl hce hq hqk hp hb hq' hpl hlt hkl
      go_wp2_with fail
      refine wp_region_any (by kernel_rfl) ?_
      change wpAny _ _ _ _ _ _ _ (World.drew _)
      generalize World.drew wr = wd at *
      refine wpAny_take (i := 0) (oi := ⟨some 16, _, _, _, _, _⟩) (v := ?_) rfl (by kernel_rfl) (by kernel_rfl) (by kernel_rfl) (fun _ _ _ h => h) (Or.inl ⟨by rfl, ?_⟩) ?_
      rotate_left 1
      · (intro w; go_simp; try with_reducible rfl)
      simp only [Act.put, List.setIfInBounds_toArray, List.set_cons_zero, List.set_cons_succ]
      refine wpAny_take (i := 1) (oi := ⟨some 17, _, _, _, _, _⟩) (v := ?_) rfl (by kernel_rfl) (by kernel_rfl) (by kernel_rfl) (fun _ _ _ h => h) (Or.inl ⟨by rfl, ?_⟩) ?_
      rotate_left 1
      · (intro w; go_simp; try with_reducible rfl)
      simp only [Act.put, List.setIfInBounds_toArray, List.set_cons_zero, List.set_cons_succ]
      refine wpAny_take (i := 2) (oi := ⟨some 18, _, _, _, _, _⟩) (v := ?_) rfl (by kernel_rfl) (by kernel_rfl) (by kernel_rfl) (fun _ _ _ h => h) (Or.inl ⟨by rfl, ?_⟩) ?_
      rotate_left 1
      · (intro w; go_simp; try with_reducible rfl)
      simp only [Act.put, List.setIfInBounds_toArray, List.set_cons_zero, List.set_cons_succ]
      refine wpAny_take (i := 3) (oi := ⟨some 19, _, _, _, _, _⟩) (v := ?_) rfl (by kernel_rfl) (by kernel_rfl) (by kernel_rfl) (fun _ _ _ h => h) (Or.inl ⟨by rfl, ?_⟩) ?_
      rotate_left 1
      · (intro w; go_simp; try with_reducible rfl)
      simp only [Act.put, List.setIfInBounds_toArray, List.set_cons_zero, List.set_cons_succ]
      refine wpAny_take (i := 4) (oi := ⟨some 20, _, _, _, _, _⟩) (v := ?_) rfl (by kernel_rfl) (by kernel_rfl) (by kernel_rfl) (fun _ _ _ h => h) (Or.inl ⟨by rfl, ?_⟩) ?_
      rotate_left 1
      · (intro w; go_simp; try with_reducible rfl)
      simp only [Act.put, List.setIfInBounds_toArray, List.set_cons_zero, List.set_cons_succ]
      refine wpAny_take (i := 6) (oi := ⟨some 22, _, _, _, _, _⟩) (v := ?_) rfl (by kernel_rfl) (by kernel_rfl) (by kernel_rfl) (fun _ _ _ h => h) (Or.inl ⟨by rfl, ?_⟩) ?_
      rotate_left 1
      · (intro w; go_simp; try with_reducible rfl)
      simp only [Act.put, List.setIfInBounds_toArray, List.set_cons_zero, List.set_cons_succ]
      refine wpAny_take (i := 7) (oi := ⟨some 23, _, _, _, _, _⟩) (v := ?_) rfl (by kernel_rfl) (by kernel_rfl) (by kernel_rfl) (fun _ _ _ h => h) (Or.inl ⟨by rfl, ?_⟩) ?_
      rotate_left 1
      · (intro w; go_simp; try with_reducible rfl)
      simp only [Act.put, List.setIfInBounds_toArray, List.set_cons_zero, List.set_cons_succ]
      refine wpAny_take (i := 8) (oi := ⟨some 24, _, _, _, _, _⟩) (v := ?_) rfl (by kernel_rfl) (by kernel_rfl) (by kernel_rfl) (fun _ _ _ h => h) (Or.inl ⟨by rfl, ?_⟩) ?_
      rotate_left 1
      · (intro w; go_simp; try with_reducible rfl)
      simp only [Act.put, List.setIfInBounds_toArray, List.set_cons_zero, List.set_cons_succ]
      refine wpAny_take (i := 9) (oi := ⟨some 25, _, _, _, _, _⟩) (v := ?_) rfl (by kernel_rfl) (by kernel_rfl) (by kernel_rfl) (fun _ _ _ h => h) (Or.inl ⟨by rfl, ?_⟩) ?_
      rotate_left 1
      · (intro w; go_simp; try with_reducible rfl)
      simp only [Act.put, List.setIfInBounds_toArray, List.set_cons_zero, List.set_cons_succ]
      refine wpAny_ready (rs := [5, 10]) (by kernel_rfl) (by simp) ?_
      refine AllReady.cons (o := ⟨some 21, _, _, _, _, _⟩) rfl (fun K hK => ?_) (AllReady.cons (o := ⟨some 26, _, _, _, _, _⟩) rfl (fun K hK => ?_) AllReady.nil)
      · have hq := (HC.out _ K0.out).1
        go_simp
        clear hq
        refine hK _ _ ?_
        clear hK K
        refine wpAny_ready (rs := [10]) (by kernel_rfl) (by simp) ?_
        refine AllReady.cons (o := ⟨some 26, _, _, _, _, _⟩) rfl (fun K hK => ?_) AllReady.nil
        have hq := (HC.out _ K0.out).2.1
        go_simp
        clear hq
        refine hK _ _ ?_
        clear hK K
        refine wpAny_take (i := 11) (oi := ⟨some 27, _, _, _, _, _⟩) (v := ?_) rfl (by kernel_rfl) (by kernel_rfl) (by kernel_rfl) (fun _ _ _ h => h) (Or.inl ⟨by rfl, ?_⟩) ?_
        rotate_left 1
        · (intro w; go_simp; try with_reducible rfl)
        simp only [Act.put, List.setIfInBounds_toArray, List.set_cons_zero, List.set_cons_succ]
        refine wpAny_take (i := 12) (oi := ⟨some 28, _, _, _, _, _⟩) (v := ?_) rfl (by kernel_rfl) (by kernel_rfl) (by kernel_rfl) (fun _ _ _ h => h) (Or.inl ⟨by rfl, ?_⟩) ?_
        rotate_left 1
        · (intro w; go_simp; try with_reducible rfl)
        simp only [Act.put, List.setIfInBounds_toArray, List.set_cons_zero, List.set_cons_succ]
        refine wpAny_take (i := 13) (oi := ⟨some 29, _, _, _, _, _⟩) (v := ?_) rfl (by kernel_rfl) (by kernel_rfl) (by kernel_rfl) (fun _ _ _ h => h) (Or.inl ⟨by rfl, ?_⟩) ?_
        rotate_left 1
        · (intro w; go_simp; try with_reducible rfl)
        simp only [Act.put, List.setIfInBounds_toArray, List.set_cons_zero, List.set_cons_succ]
        refine wpAny_ready (rs := [14]) (by kernel_rfl) (by simp) ?_
        refine AllReady.cons (o := ⟨some 30, _, _, _, _, _⟩) rfl (fun K hK => ?_) AllReady.nil
        have hq := (HC.out _ K0.out).2.2
        go_simp
        clear hq
        refine hK _ _ ?_
        clear hK K
        refine wpAny_take (i := 15) (oi := ⟨some 31, _, _, _, _, _⟩) (v := ?_) rfl (by kernel_rfl) (by kernel_rfl) (by kernel_rfl) (fun _ _ _ h => h) (Or.inl ⟨by rfl, ?_⟩) ?_
        rotate_left 1
        · (intro w; go_simp; try with_reducible rfl)
        simp only [Act.put, List.setIfInBounds_toArray, List.set_cons_zero, List.set_cons_succ]
        refine wpAny_ready (rs := [16]) (by kernel_rfl) (by simp) ?_
        refine AllReady.cons (o := ⟨some 32, _, _, _, _, _⟩) rfl (fun K hK => ?_) AllReady.nil
        go_simp
        have HM := hide (Made.pkt K0.out ((k : Int) + 1) x)
        have K1 := hide HM.out.bel
        generalize World.alloc _ _ = W1 at *
        refine hK _ _ ?_
        clear hK K
        refine wpAny_ready (rs := [17]) (by kernel_rfl) (by simp) ?_
        refine AllReady.cons (o := ⟨some 33, _, _, _, _, _⟩) rfl (fun K hK => ?_) AllReady.nil
        refine step_app app_pk (by rfl) (.tmp 16) (.tmp 32) rfl (.slice VA q vc) q (pcels (upTo L b k)) rfl (HO.out _ K1.out) _ 1 1 (pcel ((k : Int) + 1, x)) rfl rfl HM.out.src (pcel_one _) (by decide) Hm1.out Hm2.out ?_
        intro v2 w2 hg
        have HB2 := hide (HB1.out _ _ _ K1.out hg.out)
        have HP2 := hide (HP.out _ _ _ K1.out hg.out)
        clear hg
        refine hK _ _ ?_
        clear hK K
        refine wpAny_take (i := 18) (oi := ⟨some 7, _, _, _, _, _⟩) (v := ?_) rfl (by kernel_rfl) (by kernel_rfl) (by kernel_rfl) (fun _ _ _ h => h) (Or.inl ⟨by rfl, ?_⟩) ?_
        rotate_left 1
        · (intro w; go_simp; try with_reducible rfl)
        simp only [Act.put, List.setIfInBounds_toArray, List.set_cons_zero, List.set_cons_succ]
        refine wpAny_done (by kernel_rfl) ?_ _
        go_wp2
        go_roundw
        case rel => exact ⟨k + 1, by omega, Hlt.out, by go_num, HP2.out, HB2.out⟩
        case measure => have := Hlt.out; simp [intOf]; omega
      · have hq := (HC.out _ K0.out).2.1
        go_simp
        clear hq
        refine hK _ _ ?_
        clear hK K
        refine wpAny_take (i := 11) (oi := ⟨some 27, _, _, _, _, _⟩) (v := ?_) rfl (by kernel_rfl) (by kernel_rfl) (by kernel_rfl) (fun _ _ _ h => h) (Or.inl ⟨by rfl, ?_⟩) ?_
        rotate_left 1
        · (intro w; go_simp; try with_reducible rfl)
        simp only [Act.put, List.setIfInBounds_toArray, List.set_cons_zero, List.set_cons_succ]
        refine wpAny_take (i := 12) (oi := ⟨some 28, _, _, _, _, _⟩) (v := ?_) rfl (by kernel_rfl) (by kernel_rfl) (by kernel_rfl) (fun _ _ _ h => h) (Or.inl ⟨by rfl, ?_⟩) ?_
        rotate_left 1
        · (intro w; go_simp; try with_reducible rfl)
        simp only [Act.put, List.setIfInBounds_toArray, List.set_cons_zero, List.set_cons_succ]
        refine wpAny_ready (rs := [5]) (by kernel_rfl) (by simp) ?_
        refine AllReady.cons (o := ⟨some 21, _, _, _, _, _⟩) rfl (fun K hK => ?_) AllReady.nil
        have hq := (HC.out _ K0.out).1
        go_simp
        clear hq
        refine hK _ _ ?_
        clear hK K
        refine wpAny_take (i := 13) (oi := ⟨some 29, _, _, _, _, _⟩) (v := ?_) rfl (by kernel_rfl) (by kernel_rfl) (by kernel_rfl) (fun _ _ _ h => h) (Or.inl ⟨by rfl, ?_⟩) ?_
        rotate_left 1
        · (intro w; go_simp; try with_reducible rfl)
        simp only [Act.put, List.setIfInBounds_toArray, List.set_cons_zero, List.set_cons_succ]
        refine wpAny_ready (rs := [14]) (by kernel_rfl) (by simp) ?_
        refine AllReady.cons (o := ⟨some 30, _, _, _, _, _⟩) rfl (fun K hK => ?_) AllReady.nil
        have hq := (HC.out _ K0.out).2.2
        go_simp
        clear hq
        refine hK _ _ ?_
        clear hK K
        refine wpAny_take (i := 15) (oi := ⟨some 31, _, _, _, _, _⟩) (v := ?_) rfl (by kernel_rfl) (by kernel_rfl) (by kernel_rfl) (fun _ _ _ h => h) (Or.inl ⟨by rfl, ?_⟩) ?_
        rotate_left 1
        · (intro w; go_simp; try with_reducible rfl)
        simp only [Act.put, List.setIfInBounds_toArray, List.set_cons_zero, List.set_cons_succ]
        refine wpAny_ready (rs := [16]) (by kernel_rfl) (by simp) ?_
        refine AllReady.cons (o := ⟨some 32, _, _, _, _, _⟩) rfl (fun K hK => ?_) AllReady.nil
        go_simp
        have HM := hide (Made.pkt K0.out ((k : Int) + 1) x)
        have K1 := hide HM.out.bel
        generalize World.alloc _ _ = W1 at *
        refine hK _ _ ?_
        clear hK K
        refine wpAny_ready (rs := [17]) (by kernel_rfl) (by simp) ?_
        refine AllReady.cons (o := ⟨some 33, _, _, _, _, _⟩) rfl (fun K hK => ?_) AllReady.nil
        refine step_app app_pk (by rfl) (.tmp 16) (.tmp 32) rfl (.slice VA q vc) q (pcels (upTo L b k)) rfl (HO.out _ K1.out) _ 1 1 (pcel ((k : Int) + 1, x)) rfl rfl HM.out.src (pcel_one _) (by decide) Hm1.out Hm2.out ?_
        intro v2 w2 hg
        have HB2 := hide (HB1.out _ _ _ K1.out hg.out)
        have HP2 := hide (HP.out _ _ _ K1.out hg.out)
        clear hg
        refine hK _ _ ?_
        clear hK K
        refine wpAny_take (i := 18) (oi := ⟨some 7, _, _, _, _, _⟩) (v := ?_) rfl (by kernel_rfl) (by kernel_rfl) (by kernel_rfl) (fun _ _ _ h => h) (Or.inl ⟨by rfl, ?_⟩) ?_
        rotate_left 1
        · (intro w; go_simp; try with_reducible rfl)
        simp only [Act.put, List.setIfInBounds_toArray, List.set_cons_zero, List.set_cons_succ]
        refine wpAny_done (by kernel_rfl) ?_ _
        go_wp2
        go_roundw
        case rel => exact ⟨k + 1, by omega, Hlt.out, by go_num, HP2.out, HB2.out⟩
        case measure => have := Hlt.out; simp [intOf]; omega
    · obtain rfl : k = l := by omega
      have HP := hide hp.out
      have HB := hide hb.out
      clear hp hb hge hkl
      go_wp2
      go_ret
      exact ⟨_, rfl, HP.out, HB.out⟩

/-- How many are sent at most. -/
def room (a l : Nat) : Nat := if l ≤ a + 4 then l else a + 4
set_option maxRecDepth 100000 in
set_option maxHeartbeats 4000000 in
theorem Send_any (h : Snd p L n a w G) : Calls Try.prog 7 #[.pointer (some ⟨p, 0, none⟩)] w fun e w' => ∃ v, e = .returned v ∧ Pkts w' w.heap.size v (upTo L n (room a L.length)) ∧ After (sndT p L (room a L.length) a) w G w' := by
  obtain ⟨A, m, c, hx, hm, _, _, _, c0, c1, c2, fz⟩ := h.cells
  obtain ⟨ll, hl⟩ : ∃ ll, L.length = ll := ⟨_, rfl⟩
  have h1 := h.an
  have h2 := h.nl
  have h3 := h.few
  have h4 := h.win
  rw [hl] at h2 h3 ⊢
  obtain ⟨q, hq⟩ : ∃ q, room a ll = q := ⟨_, rfl⟩
  have hnq : n ≤ q := by rw [← hq]; unfold room; split <;> omega
  have hql : q ≤ ll := by rw [← hq]; unfold room; split <;> omega
  have hqa : q ≤ a + 4 := by rw [← hq]; unfold room; split <;> omega
  have hmin : IntKind.i64.wrap ((a : Int) + 4) = (a : Int) + 4 := wrap_id (by omega) (by omega)
  rw [hq]
  have hqw : min (ll : Int) ((a : Int) + 4) = (q : Int) := by
    rw [← hq]; unfold room
    split <;> omega
  have HH := hide h
  have HL := hide hl
  have Hn := hide hnq
  have Hq := hide hql
  have Hqa := hide hqa
  have Han := hide h1
  have Hpl := hide (hx.lt p hx.mine)
  clear h hx hm c0 c2 fz h1 h2 h3 h4 hnq hql hqa hq hl
  go_enter Try.func7, Try.ntmps7
  go_wp2_with fail
  refine (Counts_any HH.out).mono ?_
  rintro e w1 ⟨rfl, hb1⟩
  have HB1 := hide hb1
  rw [HL.out]
  have HH1 := hide (HH.out.below hb1)
  obtain ⟨_, _, _, _, _, _, _, _, _, _, _, fz1⟩ := HH1.out.cells
  have hf1 := fz1 1
  have HA : Hid (After (sndT p L q a) w1 G (w1.setCell ⟨p, 1, none⟩ (.int .i64 (q : Int)))) := HH1.out.setn Hn.out (by rw [HL.out]; exact Hq.out) Hqa.out
  have hc1 : w1.cell? ⟨p, 1, none⟩ = some (.int .i64 (n : Int)) := (hb1.cell (p := ⟨p, 1, none⟩) Hpl.out).trans c1
  clear hb1 fz1
  go_wp2_with fail
  generalize World.setCell _ _ _ = w2 at *
  have hs2' := HA.out.size
  obtain ⟨G2, hs2, _⟩ := HA.out
  have HP := hide (packets_any hs2 n q Han.out Hn.out (by rw [HL.out]; exact Hq.out))
  have hc2 : w2.cell? ⟨p, 1, none⟩ = some (.int .i64 (q : Int)) := by
    obtain ⟨_, _, _, _, _, _, _, _, _, c1', _⟩ := hs2.cells
    exact c1'
  have HZ := hide (Nat.le_trans HB1.out.size hs2')
  clear hs2 hs2'
  go_wp2_with fail
  refine HP.out.mono ?_
  rintro e w3 ⟨v, rfl, hp, hb⟩
  have HV : Hid (Pkts w3 w.heap.size v (upTo L n q)) := ⟨hp.row, fun k hk => Nat.le_trans HZ.out (hp.own k hk)⟩
  have HAA := hide ((HA.out.from HB1.out).below hb)
  clear hp hb
  go_wp2
  go_ret
  exact ⟨v, rfl, HV.out, HAA.out⟩

set_option maxRecDepth 100000 in
theorem Resend_any (h : Snd p L n a w G) : Calls Try.prog 6 #[.pointer (some ⟨p, 0, none⟩)] w fun e w' => ∃ v, e = .returned v ∧ Pkts w' w.heap.size v (upTo L a n) ∧ Below w.heap.size w w' := by
  have HH := hide h
  clear h
  go_enter Try.func6, Try.ntmps6
  go_wp2_with fail
  refine (Counts_any HH.out).mono ?_
  rintro e w1 ⟨rfl, hb1⟩
  have HB1 := hide hb1
  have HH1 := hide (HH.out.below hb1)
  clear hb1
  go_wp2_with fail
  refine (packets_any HH1.out a n (Nat.le_refl _) HH1.out.an HH1.out.nl).mono ?_
  rintro e w2 ⟨v, rfl, hp, hb⟩
  have HV : Hid (Pkts w2 w.heap.size v (upTo L a n)) := ⟨hp.row, fun k hk => Nat.le_trans HB1.out.size (hp.own k hk)⟩
  have HB2 := hide (HB1.out.trans (hb.mono HB1.out.size))
  clear hp hb
  go_wp2
  go_ret
  exact ⟨v, rfl, HV.out, HB2.out⟩
end
set_option maxRecDepth 100000 in
set_option maxHeartbeats 4000000 in
/-- Of a nil sender no packet is made. -/
theorem packets_nil (w : World) : Calls Try.prog 16 #[.pointer none, .int .i64 0, .int .i64 0] w fun e w' => e = .returned (.slice none 0 0) ∧ Below w.heap.size w w' := by
  have HB := hide (Below.refl w.heap.size w)
  go_enter Try.func16, Try.ntmps16
  go_wp2
  go_loopw [7, 8] (fun v j wr => v = .slice none 0 0 ∧ j = .int .i64 1 ∧ wr = w) (fun _ _ _ => 0)
  case atStart => exact ⟨rfl, rfl, rfl⟩
  case round =>
    obtain ⟨rfl, rfl, rfl⟩ := hrel
    go_wp2
    go_ret
    exact ⟨rfl, HB.out⟩
set_option maxRecDepth 100000 in
theorem Resend_nil (w : World) : Calls Try.prog 6 #[.pointer none] w fun e w' => e = .returned (.slice none 0 0) ∧ Below w.heap.size w w' := by
  go_enter Try.func6, Try.ntmps6
  go_wp2_with fail
  refine (Counts_nil w).mono ?_
  rintro e w1 ⟨rfl, hb1⟩
  have HB1 := hide hb1
  clear hb1
  go_wp2_with fail
  refine (packets_nil w1).mono ?_
  rintro e w2 ⟨rfl, hb⟩
  have HB2 := hide (HB1.out.trans (hb.mono HB1.out.size))
  clear hb
  go_wp2
  go_ret
  exact ⟨rfl, HB2.out⟩

end Go.Proofs.Ytidojlagdodkkab.Wi
