/-
  The reference's Path at a slice of places: their texts, the last one first. Nothing below is changed. Conditions: at most 50 places, whose names have at most 200 bytes and whose numbers are an int's.
-/
import Derived.Test.YtknnalcnoccleaaDoorFaRefs2
import Derived.Deep.AppendLies
namespace Go.Proofs.YtknnalcnoccleaaDoor.Fa
open Go.RowKit Go.Deep
open Pk Sm

theorem own_drew {w : World} {B e size n : Nat} {v : Value} {xs : List Value} (h : w.ownsRow B e size v n xs) : w.drew.ownsRow B e size v n xs := h
theorem plcs_snoc {l : List Pl} {k : Nat} {q : Pl} (h : l[k]? = some q) : plcs (l.drop k).reverse = plcs (l.drop (k + 1)).reverse ++ [.string (str (plc q.1 q.2))] := by
  rw [drop_rev h]
  simp [plcs]

/-- A slice of the places' texts is returned. -/
def Pth (l : List Pl) (n : Nat) (w : World) (r : Ending) (w' : World) : Prop := ∃ A c, r = .returned (.slice A n c) ∧ n ≤ c ∧ c ≤ maxLen ∧ Vec w' w'.heap.size A (plcs l.reverse) ∧ Below w.heap.size w w'

set_option maxHeartbeats 2000000 in
set_option maxRecDepth 100000 in
theorem RPath_any (A : Option Addr) (n c : Nat) (l : List Pl) (w : World) (hl : l.length = n) (hn : n ≤ 50) (hp : Pls w w.heap.size A l) (hg : Good l) :
    Calls Tryd.prog 19 #[.slice A n c] w fun r w' => Pth l n w r w' := by
  obtain ⟨i0, hi0, hz0, hz1, hz2⟩ := info_parts str_info
  have Hl := hide hl
  have Hp := hide hp
  have Hg := hide hg
  clear hl hp hg
  go_enter Tryd.func19, Tryd.ntmps19
  go_wp2_with fail
  go_loopw [3, 4] (fun v j wr => ∃ (k m : Nat) (x : Int), k ≤ n ∧ x = (k : Int) - 1 ∧ j = .int .i64 x ∧ Hid (m + k = n) ∧ Hid (wr.ownsRow w.heap.size 9 1 v m (plcs (l.drop k).reverse)) ∧ Hid (Below w.heap.size w wr)) (fun _ j _ => (intOf j + 1).toNat)
  case atStart => exact ⟨n, 0, _, Nat.le_refl _, rfl, rfl, Nat.zero_add n, by rw [List.drop_eq_nil_of_le (by rw [Hl.out]; exact Nat.le_refl _)]; exact ⟨rfl, Or.inl ⟨rfl, rfl⟩⟩, Below.refl _ _⟩
  case round =>
    obtain ⟨k, m, x, hk, hx, rfl, hm, how, hbel⟩ := hrel
    cases k with
    | zero =>
      have hx0 : x < 0 := by omega
      have hown := how.out
      have hmn : m = n := hm.out
      rw [List.drop_zero, hmn] at hown
      obtain ⟨A', c', rfl, h1, h2, h3⟩ := vec_own hown
      have HV := hide h3
      have H1 := hide h1
      have H2 := hide h2
      clear how hown h1 h2 h3 hx hmn hm hk
      go_wp2
      go_ret
      exact ⟨A', c', rfl, H1.out, H2.out, HV.out, hbel.out⟩
    | succ k =>
      obtain rfl : x = (k : Int) := by omega
      obtain ⟨q, hqk⟩ : ∃ q, l[k]? = some q := ⟨_, List.getElem?_eq_getElem (by rw [Hl.out]; omega)⟩
      have hmem : q ∈ l := List.mem_of_getElem? hqk
      have hmn : m ≤ 50 := by have := hm.out; omega
      have Hmn := hide hmn
      clear hmn
      have hgq := Hg.out q hmem
      have hp0 := Hp.out.below hbel.out
      obtain ⟨b, o, rfl, hlt, hcells⟩ := hp0 (by rintro rfl; simp at hqk)
      obtain ⟨hc0, hc1⟩ := hcells k q hqk
      have hlt2 : b < wr.heap.size := Nat.lt_of_lt_of_le hlt hbel.out.size
      have hil := Lib.itoa_length_le q.2 hgq.2.1 hgq.2.2
      obtain ⟨S1, h1⟩ : ∃ T, T = str (q.1.data.toList ++ [32]) := ⟨_, rfl⟩
      obtain ⟨SD, hD⟩ : ∃ T, T = str (Lib.itoa q.2) := ⟨_, rfl⟩
      obtain ⟨SP, h3⟩ : ∃ T, T = str (plc q.1 q.2) := ⟨_, rfl⟩
      have hsz : q.1.data.toList.length ≤ 200 := by rw [size_eq]; exact hgq.1
      have hadd1 : ∀ W : World, (Op.stringOp .add q.1 ⟨#[32]⟩).run Tryd.prog W = .ok (.string S1) W := fun W => by
        rw [h1]
        exact run_add q.1.data.toList [32] (by simp only [List.length_cons, List.length_nil]; omega) W
      have hadd2 : ∀ W : World, (Op.stringOp .add S1 SD).run Tryd.prog W = .ok (.string SP) W := fun W => by
        rw [h1, hD, h3]
        exact run_add _ _ (by simp only [List.length_append, List.length_cons, List.length_nil]; omega) W
      have HPS := hide (plcs_snoc hqk)
      rw [← h3] at HPS
      have HD := hide (Digits_any q.2 hgq.2 wr.drew)
      rw [← hD] at HD
      have Hlt := hide hlt2
      have hb0 : (0 : Int) ≤ (k : Int) := by omega
      have hbn : (k : Int) < (n : Int) := by omega
      clear hil h1 hD h3 hsz hqk hmem hgq hp0 hcells hlt hlt2 hx
      go_wp2_with fail
      refine wp_region_any (by kernel_rfl) ?_
      change wpAny _ _ _ _ _ _ _ (World.drew _)
      refine wpAny_take (i := 0) (oi := ⟨some 12, _, _, _, _, _⟩) (v := ?_) rfl (by kernel_rfl) (by kernel_rfl) (by kernel_rfl) (fun _ _ _ h => h) (Or.inl ⟨by rfl, ?_⟩) ?_
      rotate_left 1
      · (intro w; go_simp; try with_reducible rfl)
      simp only [Act.put, List.setIfInBounds_toArray, List.set_cons_zero, List.set_cons_succ]
      refine wpAny_take (i := 1) (oi := ⟨some 13, _, _, _, _, _⟩) (v := ?_) rfl (by kernel_rfl) (by kernel_rfl) (by kernel_rfl) (fun _ _ _ h => h) (Or.inl ⟨by rfl, ?_⟩) ?_
      rotate_left 1
      · (intro w; go_simp; try with_reducible rfl)
      simp only [Act.put, List.setIfInBounds_toArray, List.set_cons_zero, List.set_cons_succ]
      refine wpAny_take (i := 2) (oi := ⟨some 14, _, _, _, _, _⟩) (v := ?_) rfl (by kernel_rfl) (by kernel_rfl) (by kernel_rfl) (fun _ _ _ h => h) (Or.inl ⟨by rfl, ?_⟩) ?_
      rotate_left 1
      · (intro w; go_simp; try with_reducible rfl)
      simp only [Act.put, List.setIfInBounds_toArray, List.set_cons_zero, List.set_cons_succ]
      refine wpAny_take (i := 3) (oi := ⟨some 15, _, _, _, _, _⟩) (v := ?_) rfl (by kernel_rfl) (by kernel_rfl) (by kernel_rfl) (fun _ _ _ h => h) (Or.inl ⟨by rfl, ?_⟩) ?_
      rotate_left 1
      · (intro w; go_simp; try with_reducible rfl)
      simp only [Act.put, List.setIfInBounds_toArray, List.set_cons_zero, List.set_cons_succ]
      refine wpAny_take (i := 4) (oi := ⟨some 16, _, _, _, _, _⟩) (v := ?_) rfl (by kernel_rfl) (by kernel_rfl) (by kernel_rfl) (fun _ _ _ h => h) (Or.inl ⟨by rfl, ?_⟩) ?_
      rotate_left 1
      · (intro w; go_simp; try with_reducible rfl)
      simp only [Act.put, List.setIfInBounds_toArray, List.set_cons_zero, List.set_cons_succ]
      refine wpAny_take (i := 7) (oi := ⟨some 19, _, _, _, _, _⟩) (v := ?_) rfl (by kernel_rfl) (by kernel_rfl) (by kernel_rfl) (fun _ _ _ h => h) (Or.inl ⟨by rfl, ?_⟩) ?_
      rotate_left 1
      · (intro w; go_simp; try with_reducible rfl)
      simp only [Act.put, List.setIfInBounds_toArray, List.set_cons_zero, List.set_cons_succ]
      refine wpAny_take (i := 8) (oi := ⟨some 20, _, _, _, _, _⟩) (v := ?_) rfl (by kernel_rfl) (by kernel_rfl) (by kernel_rfl) (fun _ _ _ h => h) (Or.inl ⟨by rfl, ?_⟩) ?_
      rotate_left 1
      · (intro w; go_simp; try with_reducible rfl)
      simp only [Act.put, List.setIfInBounds_toArray, List.set_cons_zero, List.set_cons_succ]
      refine wpAny_take (i := 9) (oi := ⟨some 21, _, _, _, _, _⟩) (v := ?_) rfl (by kernel_rfl) (by kernel_rfl) (by kernel_rfl) (fun _ _ _ h => h) (Or.inl ⟨by rfl, ?_⟩) ?_
      rotate_left 1
      · (intro w; go_simp; try with_reducible rfl)
      simp only [Act.put, List.setIfInBounds_toArray, List.set_cons_zero, List.set_cons_succ]
      refine wpAny_take (i := 10) (oi := ⟨some 22, _, _, _, _, _⟩) (v := ?_) rfl (by kernel_rfl) (by kernel_rfl) (by kernel_rfl) (fun _ _ _ h => h) (Or.inl ⟨by rfl, ?_⟩) ?_
      rotate_left 1
      · (intro w; go_simp; try with_reducible rfl)
      simp only [Act.put, List.setIfInBounds_toArray, List.set_cons_zero, List.set_cons_succ]
      refine wpAny_ready (rs := [5, 11]) (by kernel_rfl) (by simp) ?_
      refine AllReady.cons (o := ⟨some 17, _, _, _, _, _⟩) rfl (fun K hK => ?_) (AllReady.cons (o := ⟨some 23, _, _, _, _, _⟩) rfl (fun K hK => ?_) AllReady.nil)
      · go_simp
        refine hK _ _ ?_
        clear hK K
        refine wpAny_take (i := 6) (oi := ⟨some 18, _, _, _, _, _⟩) (v := ?_) rfl (by kernel_rfl) (by kernel_rfl) (by kernel_rfl) (fun _ _ _ h => h) (Or.inl ⟨by rfl, ?_⟩) ?_
        rotate_left 1
        · (intro w; go_simp; try with_reducible rfl)
        simp only [Act.put, List.setIfInBounds_toArray, List.set_cons_zero, List.set_cons_succ]
        refine wpAny_ready (rs := [11]) (by kernel_rfl) (by simp) ?_
        refine AllReady.cons (o := ⟨some 23, _, _, _, _, _⟩) rfl (fun K hK => ?_) AllReady.nil
        go_simp
        refine hK _ _ ?_
        clear hK K
        refine wpAny_ready (rs := [12]) (by kernel_rfl) (by simp) ?_
        refine AllReady.cons (o := ⟨some 24, _, _, _, _, _⟩) rfl (fun K hK => ?_) AllReady.nil
        go_simp
        refine HD.out.mono ?_
        rintro r w1 ⟨rfl, hb1⟩
        have hc2 : w1.cell? ⟨b, o + k * 2, none⟩ = some (.string q.1) := (hb1.cell (p := ⟨b, o + k * 2, none⟩) Hlt.out).trans hc0
        have HO1 := hide (own_below (own_drew how.out) hb1)
        have HB1 := hide (hbel.out.trans ((drew_below hb1).mono hbel.out.size))
        clear hb1
        refine hK _ _ ?_
        clear hK K
        refine wpAny_take (i := 13) (oi := ⟨some 25, _, _, _, _, _⟩) (v := ?_) rfl (by kernel_rfl) (by kernel_rfl) (by kernel_rfl) (fun _ _ _ h => h) (Or.inl ⟨by rfl, ?_⟩) ?_
        rotate_left 1
        · (intro w; go_simp; try with_reducible rfl)
        simp only [Act.put, List.setIfInBounds_toArray, List.set_cons_zero, List.set_cons_succ]
        refine wpAny_ready (rs := [14]) (by kernel_rfl) (by simp) ?_
        refine AllReady.cons (o := ⟨some 26, _, _, _, _, _⟩) rfl (fun K hK => ?_) AllReady.nil
        go_simp
        refine hK _ _ ?_
        clear hK K
        refine wpAny_ready (rs := [15]) (by kernel_rfl) (by simp) ?_
        refine AllReady.cons (o := ⟨some 27, _, _, _, _, _⟩) rfl (fun K hK => ?_) AllReady.nil
        refine step_append_lies _ rfl (.tmp 12) (.tmp 26) 30 rfl w.heap.size 9 i0 (.string ⟨#[]⟩) 1 16 Tryd.underlying30 hi0 hz0 hz1 hz2 rfl (by decide) _ _ _ rfl (World.ownsRow.alloc HO1.out _) ⟨w1.heap.size, 0, none⟩ 1 1 [.string SP] rfl rfl (cell_new1 _ _ _) (by intro u hu; simp at hu; subst hu; rfl) (by decide) (by have := Hmn.out; unfold maxLen; omega) (by have := Hmn.out; omega) (by have := HB1.out.size; simp; omega) _ rfl ?_
        intro g cap w2 hown2 hgr2 _ _
        have HO2 := hide (show w2.ownsRow w.heap.size 9 1 (.slice (some ⟨g, 0, none⟩) (m + 1) cap) (m + 1) (plcs (l.drop k).reverse) by rw [HPS.out]; exact hown2)
        have HB2 := hide ((HB1.out.alloc HB1.out.size _).grown hgr2 (by have := HB1.out.size; simp; omega) (fun j hj => (World.ownsRow.lt HO1.out j hj).1))
        clear hown2 hgr2
        refine hK _ _ ?_
        clear hK K
        refine wpAny_take (i := 16) (oi := ⟨some 3, _, _, _, _, _⟩) (v := ?_) rfl (by kernel_rfl) (by kernel_rfl) (by kernel_rfl) (fun _ _ _ h => h) (Or.inl ⟨by rfl, ?_⟩) ?_
        rotate_left 1
        · (intro w; go_simp; try with_reducible rfl)
        simp only [Act.put, List.setIfInBounds_toArray, List.set_cons_zero, List.set_cons_succ]
        refine wpAny_done (by kernel_rfl) ?_ _
        go_wp2
        go_roundw
        case rel => exact ⟨k, m + 1, _, by omega, rfl, by go_num, by have := hm.out; show m + 1 + k = n; omega, HO2.out, HB2.out⟩
        case measure => simp [intOf]
      · go_simp
        refine hK _ _ ?_
        clear hK K
        refine wpAny_ready (rs := [5, 12]) (by kernel_rfl) (by simp) ?_
        refine AllReady.cons (o := ⟨some 17, _, _, _, _, _⟩) rfl (fun K hK => ?_) (AllReady.cons (o := ⟨some 24, _, _, _, _, _⟩) rfl (fun K hK => ?_) AllReady.nil)
        · go_simp
          refine hK _ _ ?_
          clear hK K
          refine wpAny_take (i := 6) (oi := ⟨some 18, _, _, _, _, _⟩) (v := ?_) rfl (by kernel_rfl) (by kernel_rfl) (by kernel_rfl) (fun _ _ _ h => h) (Or.inl ⟨by rfl, ?_⟩) ?_
          rotate_left 1
          · (intro w; go_simp; try with_reducible rfl)
          simp only [Act.put, List.setIfInBounds_toArray, List.set_cons_zero, List.set_cons_succ]
          refine wpAny_ready (rs := [12]) (by kernel_rfl) (by simp) ?_
          refine AllReady.cons (o := ⟨some 24, _, _, _, _, _⟩) rfl (fun K hK => ?_) AllReady.nil
          go_simp
          refine HD.out.mono ?_
          rintro r w1 ⟨rfl, hb1⟩
          have hc2 : w1.cell? ⟨b, o + k * 2, none⟩ = some (.string q.1) := (hb1.cell (p := ⟨b, o + k * 2, none⟩) Hlt.out).trans hc0
          have HO1 := hide (own_below (own_drew how.out) hb1)
          have HB1 := hide (hbel.out.trans ((drew_below hb1).mono hbel.out.size))
          clear hb1
          refine hK _ _ ?_
          clear hK K
          refine wpAny_take (i := 13) (oi := ⟨some 25, _, _, _, _, _⟩) (v := ?_) rfl (by kernel_rfl) (by kernel_rfl) (by kernel_rfl) (fun _ _ _ h => h) (Or.inl ⟨by rfl, ?_⟩) ?_
          rotate_left 1
          · (intro w; go_simp; try with_reducible rfl)
          simp only [Act.put, List.setIfInBounds_toArray, List.set_cons_zero, List.set_cons_succ]
          refine wpAny_ready (rs := [14]) (by kernel_rfl) (by simp) ?_
          refine AllReady.cons (o := ⟨some 26, _, _, _, _, _⟩) rfl (fun K hK => ?_) AllReady.nil
          go_simp
          refine hK _ _ ?_
          clear hK K
          refine wpAny_ready (rs := [15]) (by kernel_rfl) (by simp) ?_
          refine AllReady.cons (o := ⟨some 27, _, _, _, _, _⟩) rfl (fun K hK => ?_) AllReady.nil
          refine step_append_lies _ rfl (.tmp 12) (.tmp 26) 30 rfl w.heap.size 9 i0 (.string ⟨#[]⟩) 1 16 Tryd.underlying30 hi0 hz0 hz1 hz2 rfl (by decide) _ _ _ rfl (World.ownsRow.alloc HO1.out _) ⟨w1.heap.size, 0, none⟩ 1 1 [.string SP] rfl rfl (cell_new1 _ _ _) (by intro u hu; simp at hu; subst hu; rfl) (by decide) (by have := Hmn.out; unfold maxLen; omega) (by have := Hmn.out; omega) (by have := HB1.out.size; simp; omega) _ rfl ?_
          intro g cap w2 hown2 hgr2 _ _
          have HO2 := hide (show w2.ownsRow w.heap.size 9 1 (.slice (some ⟨g, 0, none⟩) (m + 1) cap) (m + 1) (plcs (l.drop k).reverse) by rw [HPS.out]; exact hown2)
          have HB2 := hide ((HB1.out.alloc HB1.out.size _).grown hgr2 (by have := HB1.out.size; simp; omega) (fun j hj => (World.ownsRow.lt HO1.out j hj).1))
          clear hown2 hgr2
          refine hK _ _ ?_
          clear hK K
          refine wpAny_take (i := 16) (oi := ⟨some 3, _, _, _, _, _⟩) (v := ?_) rfl (by kernel_rfl) (by kernel_rfl) (by kernel_rfl) (fun _ _ _ h => h) (Or.inl ⟨by rfl, ?_⟩) ?_
          rotate_left 1
          · (intro w; go_simp; try with_reducible rfl)
          simp only [Act.put, List.setIfInBounds_toArray, List.set_cons_zero, List.set_cons_succ]
          refine wpAny_done (by kernel_rfl) ?_ _
          go_wp2
          go_roundw
          case rel => exact ⟨k, m + 1, _, by omega, rfl, by go_num, by have := hm.out; show m + 1 + k = n; omega, HO2.out, HB2.out⟩
          case measure => simp [intOf]
        · go_simp
          refine HD.out.mono ?_
          rintro r w1 ⟨rfl, hb1⟩
          have hc2 : w1.cell? ⟨b, o + k * 2, none⟩ = some (.string q.1) := (hb1.cell (p := ⟨b, o + k * 2, none⟩) Hlt.out).trans hc0
          have HO1 := hide (own_below (own_drew how.out) hb1)
          have HB1 := hide (hbel.out.trans ((drew_below hb1).mono hbel.out.size))
          clear hb1
          refine hK _ _ ?_
          clear hK K
          refine wpAny_ready (rs := [5]) (by kernel_rfl) (by simp) ?_
          refine AllReady.cons (o := ⟨some 17, _, _, _, _, _⟩) rfl (fun K hK => ?_) AllReady.nil
          go_simp
          refine hK _ _ ?_
          clear hK K
          refine wpAny_take (i := 6) (oi := ⟨some 18, _, _, _, _, _⟩) (v := ?_) rfl (by kernel_rfl) (by kernel_rfl) (by kernel_rfl) (fun _ _ _ h => h) (Or.inl ⟨by rfl, ?_⟩) ?_
          rotate_left 1
          · (intro w; go_simp; try with_reducible rfl)
          simp only [Act.put, List.setIfInBounds_toArray, List.set_cons_zero, List.set_cons_succ]
          refine wpAny_take (i := 13) (oi := ⟨some 25, _, _, _, _, _⟩) (v := ?_) rfl (by kernel_rfl) (by kernel_rfl) (by kernel_rfl) (fun _ _ _ h => h) (Or.inl ⟨by rfl, ?_⟩) ?_
          rotate_left 1
          · (intro w; go_simp; try with_reducible rfl)
          simp only [Act.put, List.setIfInBounds_toArray, List.set_cons_zero, List.set_cons_succ]
          refine wpAny_ready (rs := [14]) (by kernel_rfl) (by simp) ?_
          refine AllReady.cons (o := ⟨some 26, _, _, _, _, _⟩) rfl (fun K hK => ?_) AllReady.nil
          go_simp
          refine hK _ _ ?_
          clear hK K
          refine wpAny_ready (rs := [15]) (by kernel_rfl) (by simp) ?_
          refine AllReady.cons (o := ⟨some 27, _, _, _, _, _⟩) rfl (fun K hK => ?_) AllReady.nil
          refine step_append_lies _ rfl (.tmp 12) (.tmp 26) 30 rfl w.heap.size 9 i0 (.string ⟨#[]⟩) 1 16 Tryd.underlying30 hi0 hz0 hz1 hz2 rfl (by decide) _ _ _ rfl (World.ownsRow.alloc HO1.out _) ⟨w1.heap.size, 0, none⟩ 1 1 [.string SP] rfl rfl (cell_new1 _ _ _) (by intro u hu; simp at hu; subst hu; rfl) (by decide) (by have := Hmn.out; unfold maxLen; omega) (by have := Hmn.out; omega) (by have := HB1.out.size; simp; omega) _ rfl ?_
          intro g cap w2 hown2 hgr2 _ _
          have HO2 := hide (show w2.ownsRow w.heap.size 9 1 (.slice (some ⟨g, 0, none⟩) (m + 1) cap) (m + 1) (plcs (l.drop k).reverse) by rw [HPS.out]; exact hown2)
          have HB2 := hide ((HB1.out.alloc HB1.out.size _).grown hgr2 (by have := HB1.out.size; simp; omega) (fun j hj => (World.ownsRow.lt HO1.out j hj).1))
          clear hown2 hgr2
          refine hK _ _ ?_
          clear hK K
          refine wpAny_take (i := 16) (oi := ⟨some 3, _, _, _, _, _⟩) (v := ?_) rfl (by kernel_rfl) (by kernel_rfl) (by kernel_rfl) (fun _ _ _ h => h) (Or.inl ⟨by rfl, ?_⟩) ?_
          rotate_left 1
          · (intro w; go_simp; try with_reducible rfl)
          simp only [Act.put, List.setIfInBounds_toArray, List.set_cons_zero, List.set_cons_succ]
          refine wpAny_done (by kernel_rfl) ?_ _
          go_wp2
          go_roundw
          case rel => exact ⟨k, m + 1, _, by omega, rfl, by go_num, by have := hm.out; show m + 1 + k = n; omega, HO2.out, HB2.out⟩
          case measure => simp [intOf]

end Go.Proofs.YtknnalcnoccleaaDoor.Fa
