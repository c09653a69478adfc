/-
  The contract of disk's Crash and Flush: of the loose writes those that are kept are done, in their order; nothing but the disk's own memory is changed.
-/
import Derived.Test.YtnmpckhlpkmojaaGreatDoorDkWrite
namespace Go.Proofs.YtnmpckhlpkmojaaGreatDoor.Dk
open Go.RowKit
open Pk Sm Fa

theorem wpList_store_row_told {P : Program} {ops : Array Oper} {rest : List Oper} {o : Oper} {a : Act} {w : World} {Q : Exit → Act → World → Prop} (hgd : o.guard = none) (ty : TypeId) (x y : Operand) (ho : o.op = .store ty x y)
    (g : Nat) (cells : Array Value) (hx : a.eval x = .pointer (some ⟨g, 0, none⟩)) (hy : a.eval y = .agg cells)
    (t : TypeId) (old : Array Value) (hg : w.heap[g]? = some (.cells old t (0, 0))) (hi : (P.info? ty).map (·.size) = some cells.size)
    (hold : old.size = cells.size) (h1 : cells.all (·.oneCell') = true)
    (h : ∀ w', Hid (w' = w.setRow g cells) → wpList P ops Q rest (a.put o.dst undef) w') : wpList P ops Q (o :: rest) a w :=
  wpList_store_row hgd ty x y ho g cells hx hy t old hg hi hold h1 (h _ rfl)

section
variable {w w' : World} {G G2 : Nat → Prop} {p : Nat} {S : List Sec} {L : List Wr} {F X : Value}
theorem DskAt.kept (h : DskAt w G p S L F X) (hk : Kept G2 w w') (hd : ∀ k, G k → ¬ G2 k) : DskAt w' G p S L F X := by
  obtain ⟨h1, h2, h3, h4, h5, h6, h7, h8⟩ := h
  exact ⟨(hk.block p (h7 p h4) (hd p h4)).trans h1, own_same h2 (fun k hb => hk.block k (h7 k (h5 k hb).1) (hd k (h5 k hb).1)), own_same h3 (fun k hb => hk.block k (h7 k (h6 k hb).1) (hd k (h6 k hb).1)), h4, h5, h6, fun k hg => Nat.lt_of_lt_of_le (h7 k hg) hk.size, h8⟩
theorem DskAt.below (h : DskAt w G p S L F X) (hb : Below w.heap.size w w') : DskAt w' G p S L F X :=
  h.kept (Kept.of_below (G := fun _ => False) hb) (fun _ _ h => h)
theorem take_put {T U : List Value} {n i : Nat} {b : List Value} (hU : T.take (n * 64) = U) (hi : i < n) (hb : b.length = 64) (hT : n * 64 ≤ T.length) :
    (T.take (i * 64) ++ (b ++ T.drop (i * 64 + 64))).take (n * 64) = U.take (i * 64) ++ (b ++ U.drop (i * 64 + 64)) := by
  subst hU
  have h1 : i * 64 + 64 ≤ n * 64 := by omega
  rw [List.take_append, List.take_append, List.take_take, List.take_take, List.length_take, hb]
  rw [show min (n * 64) (i * 64) = i * 64 by omega, show min (i * 64) (n * 64) = i * 64 by omega, show min (i * 64) T.length = i * 64 by omega]
  rw [List.take_of_length_le (l := b) (by omega), List.drop_take, show n * 64 - i * 64 - 64 = n * 64 - (i * 64 + 64) by omega]
theorem DskAt.put {g n c i : Nat} {cur : Array Value} {b : Sec} (h : DskAt w G p S L (.slice (some ⟨g, 0, none⟩) n c) X) (hg : w.heap[g]? = some (.cells cur 98 (0, 0))) (hi : i < S.length) (hb : b.length = 64) :
    DskAt (w.setRow g (cur.toList.take (i * 64) ++ (cels b ++ cur.toList.drop (i * 64 + (cels b).length))).toArray) G p (S.set i b) L (.slice (some ⟨g, 0, none⟩) n c) X := by
  obtain ⟨h1, h2, h3, h4, h5, h6, h7, h8, h9⟩ := h
  have hgp := (h5 g rfl).2
  have hcb : (cels b).length = 64 := by rw [cels_length, hb]
  refine ⟨by rw [setRow_other _ _ _ _ (Ne.symm hgp)]; exact h1, ?_, own_same h3 (fun k hk => setRow_other _ _ _ _ (fun e => (h6 k hk).2.2 (by rw [e]; rfl))), h4, h5, h6, fun k hk => by rw [setRow_size]; exact h7 k hk, h8.set i hb, by rw [List.length_set]; exact h9⟩
  have hlen : (scels S).length = S.length * 64 := flat_len S h8.cels
  rcases h2.2 with ⟨e, _⟩ | ⟨g', cap, cur', e, _, hg', hn, hm, hs, htk⟩
  · cases e
  · obtain ⟨rfl, rfl, rfl⟩ : g = g' ∧ n = S.length ∧ c = cap := by
      simp only [Value.slice.injEq, Option.some.injEq, Addr.mk.injEq, and_true] at e
      exact e
    obtain rfl : cur = cur' := by
      have := hg.symm.trans hg'
      simpa using this
    have hcl : cur.toList.length = c * 64 := by rw [Array.length_toList, hs]
    refine ⟨?_, Or.inr ⟨g, c, _, by rw [List.length_set], Nat.zero_le _, setRow_heap _ _ _ _ _ _ hg, by rw [List.length_set]; exact hn, hm, ?_, ?_⟩⟩
    · rw [List.length_set]
      rw [show scels (S.set i b) = (S.set i b).flatMap cels from rfl, flat_len (m := 64) _ (h8.set i hb).cels, List.length_set]
    · rw [hcb]
      simp [hcb]
      omega
    · rw [List.length_set, hcb, List.toList_toArray, take_put htk hi hcb (by rw [hcl]; omega)]
      exact flat_set S h8.cels i b hi hcb
end

theorem Kept.setRow {w w2 : World} {G : Nat → Prop} {g : Nat} (h : Kept G w w2) (hg : G g) (cs : Array Value) : Kept G w (w2.drew.setRow g cs) :=
  ⟨h.os, h.tape, h.output, by rw [setRow_size]; exact h.size, fun k hk hn => by rw [setRow_other _ _ _ _ (fun e => hn (by rw [e]; exact hg))]; exact h.block k hk hn⟩
theorem DskAt.clear {w : World} {G : Nat → Prop} {p : Nat} {S : List Sec} {L : List Wr} {F X : Value} (h : DskAt w G p S L F X) : DskAt (w.setCell ⟨p, 1, none⟩ (.slice none 0 0)) G p S [] F (.slice none 0 0) := by
  obtain ⟨h1, h2, h3, h4, h5, h6, h7, h8, h9⟩ := h
  refine ⟨by rw [heap_setCell_same w p 1 _ _ _ h1]; rfl, own_same h2 (fun k hk => heap_setCell_other _ _ _ _ (h5 k hk).2), World.ownsRow_nil _ _ _ _, h4, h5, fun k hk => by simp [Value.ownBlock] at hk, fun k hk => ?_, h8, fun x hx => by cases hx⟩
  have := h7 k hk
  simpa [World.setCell] using this
theorem Kept.clear {w w2 : World} {G : Nat → Prop} {p : Nat} (h : Kept G w w2) (hg : G p) (v : Value) : Kept G w (w2.setCell ⟨p, 1, none⟩ v) :=
  ⟨h.os, h.tape, h.output, by have := h.size; simpa [World.setCell] using this, fun k hk hn => by rw [heap_setCell_other _ _ _ _ (fun e => hn (by have e' : k = p := e; rw [e']; exact hg))]; exact h.block k hk hn⟩
theorem bit_and64 (t j : Nat) (h : t < 18446744073709551616) : bits .and .u64 ((t : Int) / 2 ^ j) 1 = if t.testBit j then 1 else 0 := by
  have h2 : t / 2 ^ j < 18446744073709551616 := Nat.lt_of_le_of_lt (Nat.div_le_self _ _) h
  have h1 : ((t : Int) / 2 ^ j) = ((t / 2 ^ j : Nat) : Int) := by norm_cast
  have h3 := u64_and_nat (t / 2 ^ j) 1 h2 (by omega)
  rw [nat_mask1] at h3
  rw [h1]
  refine h3.trans ?_
  rw [Nat.testBit_eq_decide_div_mod_eq]
  have h4 : t / 2 ^ j % 2 < 2 := Nat.mod_lt _ (by omega)
  by_cases h5 : t / 2 ^ j % 2 = 1
  · simp [h5]
  · have h6 : t / 2 ^ j % 2 = 0 := by omega
    simp [h6]
theorem crash_yes {K k : Nat} {x : Wr} {L : List Wr} {S : List Sec} (h : K.testBit (k % 64) = true) : crash K k (x :: L) S = crash K (k + 1) L (done S x) := by
  show crash K (k + 1) L (if K.testBit (k % 64) then done S x else S) = _
  rw [if_pos h]
theorem crash_no {K k : Nat} {x : Wr} {L : List Wr} {S : List Sec} (h : K.testBit (k % 64) = false) : crash K k (x :: L) S = crash K (k + 1) L S := by
  show crash K (k + 1) L (if K.testBit (k % 64) then done S x else S) = _
  rw [if_neg (by rw [h]; exact Bool.false_ne_true)]
theorem crash_all : ∀ (L : List Wr) (k : Nat) (S : List Sec), crash 18446744073709551615 k L S = all S L
  | [], _, _ => rfl
  | x :: L, k, S => by
    rw [crash_yes (by rw [show (18446744073709551615 : Nat) = 2 ^ 64 - 1 by decide, Nat.testBit_two_pow_sub_one]; simp; omega), crash_all L]
    rfl

set_option maxRecDepth 100000 in
set_option maxHeartbeats 2000000 in
theorem Crash_any (w : World) (G : Nat → Prop) (p K : Nat) (S : List Sec) (L : List Wr) (h : Dsk w G p S L) (hK : K < 18446744073709551616) (hL : L.length ≤ 1000000) :
    Calls Tryz.prog 19 #[.pointer (some ⟨p, 0, none⟩), .int .u64 K] w fun e w' => e = .returned (.tuple #[]) ∧ Post w G p (crash K 0 L S) [] w' := by
  obtain ⟨F, X, hd⟩ := h
  obtain ⟨B, d, rfl, hn2, hc2, hX⟩ := row_form hd.2.2.1
  obtain ⟨A, c, rfl, _, _, _⟩ := row_form hd.2.1
  obtain ⟨m, hm⟩ : ∃ m, L.length = m := ⟨_, rfl⟩
  obtain ⟨n, hn⟩ : ∃ n, S.length = n := ⟨_, rfl⟩
  rw [hm] at hd hL hn2 hX
  rw [hn] at hd
  have hp1 : w.cell? ⟨p, 1, none⟩ = some (.slice B m d) := by simp [World.cell?, hd.1]
  have HD := hide hd
  have HM := hide hm
  have HN := hide hn
  have HLm := hide hL
  have HK := hide hK
  clear hd hX hm hn2 hc2 hL hn hK
  go_enter Tryz.func19, Tryz.ntmps19
  go_wp2
  clear hp1
  go_loopw [13] (fun j wr => ∃ (k : Nat) (Sk : List Sec), k ≤ m ∧ j = .int .i64 k ∧ Hid (crash K k (L.drop k) Sk = crash K 0 L S) ∧ Hid (Sk.length = n) ∧ Hid (DskAt wr G p Sk L (.slice A n c) (.slice B m d)) ∧ Hid (Kept G w wr)) (fun j _ => m - (intOf j).toNat)
  case atStart => exact ⟨0, S, Nat.zero_le _, rfl, rfl, HN.out, HD.out, Kept.refl _ _⟩
  case round =>
    obtain ⟨k, Sk, hk, rfl, hcr, hlen, hdk, hkept⟩ := hrel
    rcases Nat.lt_or_ge k m with hlt | hge
    · obtain ⟨x, hx⟩ : ∃ x, L[k]? = some x := ⟨_, List.getElem?_eq_getElem (by rw [HM.out]; exact hlt)⟩
      obtain ⟨B', d', e, _, _, hX⟩ := row_form hdk.out.2.2.1
      simp only [Value.slice.injEq] at e
      obtain ⟨rfl, -, rfl⟩ := e
      obtain ⟨b, rfl, _, hblt, hrg⟩ := hX (by rw [HM.out]; omega)
      have Hfit := hide (hdk.out.2.2.2.2.2.2.2.2 x (List.mem_of_getElem? hx))
      obtain ⟨A', c', e, _, _, hF⟩ := row_form hdk.out.2.1
      simp only [Value.slice.injEq] at e
      obtain ⟨rfl, -, rfl⟩ := e
      obtain ⟨g, rfl, _, hglt, _⟩ := hF (by have := Hfit.out.1; omega)
      have hxn : (x.1 : Int) < (n : Int) := by have := Hfit.out.1; rw [hlen.out] at this; omega
      have HR := hide (range_piece hrg hdk.out.2.2.2.2.2.2.2.2.cels hx)
      have Hwl := hide (show (wcel x).length = 65 by simp [wcel, cels_length, Hfit.out.2])
      have hkm : (k : Int) < (m : Int) := by omega
      have Hlt := hide hlt
      have hlim : (k : Int) < 1000001 := by have := HLm.out; omega
      have Hsz := hide (show (Tryz.prog.info? 100).map (·.size) = some (wcel x).length by rw [wr_size, Hwl.out])
      have Hsz2 := hide (show (Tryz.prog.info? 100).map (·.size) = some (wcel x).toArray.size by rw [List.size_toArray, wr_size, Hwl.out])
      have Hst := hide (show (wcel (0, zero)).toArray.size = (wcel x).toArray.size by simp [Hwl.out]; simp [wcel, n64])
      have Hs64 := hide (show (Tryz.prog.info? 98).map (·.size) = some (cels x.2).length by rw [sec_size, cels_length, Hfit.out.2])
      have Hdr := hide (drop_cons hx)
      clear hx hrg hblt hX hF hglt
      go_wp2_with (first | with_reducible refine wpList_load_mid rfl 100 (.tmp 16) rfl b (k * 65) rfl (wcel x) _ HR.out Tryz.underlying100 rfl Hsz.out ?_ | refine wpList_alloc_told rfl 100 rfl _ wr_zero ?_)
      intro w1 Hw1
      have HB1 : Hid (Below wr.heap.size wr w1) := by rw [Hw1.out]; exact (Below.refl _ _).alloc (Nat.le_refl _) _
      have HG1 : Hid (w1.heap[wr.heap.size]? = some (.cells (wcel (0, zero)).toArray 100 (0, 0))) := by rw [Hw1.out]; exact heap_alloc_new wr _
      clear Hw1
      go_wp2_with (with_reducible refine wpList_store_row_told rfl 100 (.tmp 5) (.tmp 17) rfl wr.heap.size (wcel x).toArray rfl rfl 100 _ HG1.out Hsz2.out Hst.out (all_oneCell_toArray (wcel_one x)) ?_)
      intro w2 Hw2
      have HB2 : Hid (Below wr.heap.size wr w2) := by rw [Hw2.out]; exact below_setRow HB1.out (Nat.le_refl _) _
      have HG2 : Hid (w2.heap[wr.heap.size]? = some (.cells (wcel x).toArray 100 (0, 0))) := by rw [Hw2.out]; exact setRow_heap _ _ _ _ _ _ HG1.out
      have HD2 := hide (hdk.out.below HB2.out)
      have HK2 := hide (hkept.out.trans (Grew.refl _ _) (Kept.of_below HB2.out))
      have he := bit_and64 K (k % 64) HK.out
      clear Hw2 HG1 HB1 hdk hkept
      cases hb : K.testBit (k % 64) with
      | false =>
        rw [hb, if_neg (by exact Bool.false_ne_true)] at he
        have Hcr2 := hide (show crash K (k + 1) (L.drop (k + 1)) Sk = crash K 0 L S by rw [← hcr.out, Hdr.out, crash_no hb])
        clear hb
        go_wp2
        go_roundw
        case rel => exact ⟨k + 1, Sk, Hlt.out, by go_num, Hcr2.out, hlen.out, HD2.out, HK2.out⟩
        case measure => have := Hlt.out; simp [intOf]; omega
      | true =>
        rw [hb, if_pos rfl] at he
        have Hcr2 := hide (show crash K (k + 1) (L.drop (k + 1)) (done Sk x) = crash K 0 L S by rw [← hcr.out, Hdr.out, crash_yes hb])
        have Hlen2 := hide (show (done Sk x).length = n by rw [done, List.length_set]; exact hlen.out)
        have hp0 : w2.cell? ⟨p, 0, none⟩ = some (.slice (some ⟨g, 0, none⟩) n c) := by simp [World.cell?, HD2.out.1]
        have hat : w2.cell? ⟨wr.heap.size, 0, none⟩ = some (.int .i64 (x.1 : Int)) := by simp [World.cell?, HG2.out, wcel]
        have HT : Hid (w2.drew.rangeAt wr.heap.size 1 (cels x.2)) := fun j u hu => by
          show w2.cell? _ = _
          rw [cell_of_row w2 _ _ _ _ _ HG2.out]
          simpa [wcel, Nat.add_comm 1] using hu
        obtain ⟨cur, hcur, hcs⟩ : ∃ cur, w2.heap[g]? = some (.cells cur 98 (0, 0)) ∧ n * 64 ≤ cur.size := by
          rcases HD2.out.2.1.2 with ⟨e, _⟩ | ⟨g', cap, cur, e, _, hg', h3, h4, h5, h6⟩
          · cases e
          · simp only [Value.slice.injEq, Option.some.injEq, Addr.mk.injEq, and_true] at e
            obtain ⟨rfl, h7, rfl⟩ := e
            exact ⟨cur, hg', by rw [h5, h7]; exact Nat.mul_le_mul_right _ h3⟩
        have HGg := hide hcur
        have Hft := hide (show x.1 * 64 + (cels x.2).length ≤ cur.size by rw [cels_length, Hfit.out.2]; omega)
        have HP := hide (DskAt.put (w := w2.drew) (i := x.1) (b := x.2) HD2.out hcur Hfit.out.1 Hfit.out.2)
        have HKP := hide (HK2.out.setRow (HD2.out.2.2.2.2.1 g rfl).1 (cur.toList.take (x.1 * 64) ++ (cels x.2 ++ cur.toList.drop (x.1 * 64 + (cels x.2).length))).toArray)
        clear hb hcur hcs
        go_wp2
        refine wp_region_any (by kernel_rfl) ?_
        change wpAny _ _ _ _ _ _ _ (World.drew _)
        refine wpAny_take (i := 0) (oi := ⟨some 24, _, _, _, _, _⟩) (v := ?_) rfl (by kernel_rfl) (by kernel_rfl) (by kernel_rfl) (fun _ _ _ h => h) (Or.inl ⟨by rfl, ?_⟩) ?_
        rotate_left 1
        · (intro w; go_simp; try with_reducible rfl)
        simp only [Act.put, List.setIfInBounds_toArray, List.set_cons_zero, List.set_cons_succ]
        refine wpAny_take (i := 1) (oi := ⟨some 25, _, _, _, _, _⟩) (v := ?_) rfl (by kernel_rfl) (by kernel_rfl) (by kernel_rfl) (fun _ _ _ h => h) (Or.inl ⟨by rfl, ?_⟩) ?_
        rotate_left 1
        · (intro w; go_simp; try with_reducible rfl)
        simp only [Act.put, List.setIfInBounds_toArray, List.set_cons_zero, List.set_cons_succ]
        refine wpAny_take (i := 2) (oi := ⟨some 26, _, _, _, _, _⟩) (v := ?_) rfl (by kernel_rfl) (by kernel_rfl) (by kernel_rfl) (fun _ _ _ h => h) (Or.inl ⟨by rfl, ?_⟩) ?_
        rotate_left 1
        · (intro w; go_simp; try with_reducible rfl)
        simp only [Act.put, List.setIfInBounds_toArray, List.set_cons_zero, List.set_cons_succ]
        refine wpAny_take (i := 4) (oi := ⟨some 28, _, _, _, _, _⟩) (v := ?_) rfl (by kernel_rfl) (by kernel_rfl) (by kernel_rfl) (fun _ _ _ h => h) (Or.inl ⟨by rfl, ?_⟩) ?_
        rotate_left 1
        · (intro w; go_simp; try with_reducible rfl)
        simp only [Act.put, List.setIfInBounds_toArray, List.set_cons_zero, List.set_cons_succ]
        refine wpAny_take (i := 6) (oi := ⟨some 30, _, _, _, _, _⟩) (v := ?_) rfl (by kernel_rfl) (by kernel_rfl) (by kernel_rfl) (fun _ _ _ h => h) (Or.inl ⟨by rfl, ?_⟩) ?_
        rotate_left 1
        · (intro w; go_simp; try with_reducible rfl)
        simp only [Act.put, List.setIfInBounds_toArray, List.set_cons_zero, List.set_cons_succ]
        refine wpAny_ready (rs := [3, 5, 7]) (by kernel_rfl) (by simp) ?_
        refine AllReady.cons (o := ⟨some 27, _, _, _, _, _⟩) rfl (fun K hK => ?_) (AllReady.cons (o := ⟨some 29, _, _, _, _, _⟩) rfl (fun K hK => ?_) (AllReady.cons (o := ⟨some 31, _, _, _, _, _⟩) rfl (fun K hK => ?_) AllReady.nil))
        · go_simp
          refine hK _ _ ?_
          clear hK K
          refine wpAny_ready (rs := [5, 7]) (by kernel_rfl) (by simp) ?_
          refine AllReady.cons (o := ⟨some 29, _, _, _, _, _⟩) rfl (fun K hK => ?_) (AllReady.cons (o := ⟨some 31, _, _, _, _, _⟩) rfl (fun K hK => ?_) AllReady.nil)
          · go_simp
            refine hK _ _ ?_
            clear hK K
            refine wpAny_ready (rs := [7]) (by kernel_rfl) (by simp) ?_
            refine AllReady.cons (o := ⟨some 31, _, _, _, _, _⟩) rfl (fun K hK => ?_) AllReady.nil
            refine step_wp rfl (wp_load_mid 98 (.tmp 30) rfl wr.heap.size 1 rfl (cels x.2) _ HT.out Tryz.underlying98 rfl Hs64.out ?_)
            refine hK _ _ ?_
            clear hK K
            refine wpAny_take (i := 8) (oi := ⟨some 32, _, _, _, _, _⟩) (v := ?_) rfl (by kernel_rfl) (by kernel_rfl) (by kernel_rfl) (fun _ _ _ h => h) (Or.inl ⟨by rfl, ?_⟩) ?_
            rotate_left 1
            · (intro w; go_simp; try with_reducible rfl)
            simp only [Act.put, List.setIfInBounds_toArray, List.set_cons_zero, List.set_cons_succ]
            refine wpAny_ready (rs := [9]) (by kernel_rfl) (by simp) ?_
            refine AllReady.cons (o := ⟨none, _, _, _, _, _⟩) rfl (fun K hK => ?_) AllReady.nil
            refine step_wp rfl (wp_store_at 98 (.tmp 32) (.tmp 31) rfl g (x.1 * 64) (cels x.2) rfl rfl 98 cur HGg.out Hs64.out Hft.out (cels_one _) ?_)
            refine hK _ _ ?_
            clear hK K
            refine wpAny_done (by kernel_rfl) ?_ _
            go_wp2
            go_roundw
            case rel => exact ⟨k + 1, done Sk x, Hlt.out, by go_num, Hcr2.out, Hlen2.out, HP.out, HKP.out⟩
            case measure => have := Hlt.out; simp [intOf]; omega
          · refine step_wp rfl (wp_load_mid 98 (.tmp 30) rfl wr.heap.size 1 rfl (cels x.2) _ HT.out Tryz.underlying98 rfl Hs64.out ?_)
            refine hK _ _ ?_
            clear hK K
            refine wpAny_ready (rs := [5]) (by kernel_rfl) (by simp) ?_
            refine AllReady.cons (o := ⟨some 29, _, _, _, _, _⟩) rfl (fun K hK => ?_) AllReady.nil
            go_simp
            refine hK _ _ ?_
            clear hK K
            refine wpAny_take (i := 8) (oi := ⟨some 32, _, _, _, _, _⟩) (v := ?_) rfl (by kernel_rfl) (by kernel_rfl) (by kernel_rfl) (fun _ _ _ h => h) (Or.inl ⟨by rfl, ?_⟩) ?_
            rotate_left 1
            · (intro w; go_simp; try with_reducible rfl)
            simp only [Act.put, List.setIfInBounds_toArray, List.set_cons_zero, List.set_cons_succ]
            refine wpAny_ready (rs := [9]) (by kernel_rfl) (by simp) ?_
            refine AllReady.cons (o := ⟨none, _, _, _, _, _⟩) rfl (fun K hK => ?_) AllReady.nil
            refine step_wp rfl (wp_store_at 98 (.tmp 32) (.tmp 31) rfl g (x.1 * 64) (cels x.2) rfl rfl 98 cur HGg.out Hs64.out Hft.out (cels_one _) ?_)
            refine hK _ _ ?_
            clear hK K
            refine wpAny_done (by kernel_rfl) ?_ _
            go_wp2
            go_roundw
            case rel => exact ⟨k + 1, done Sk x, Hlt.out, by go_num, Hcr2.out, Hlen2.out, HP.out, HKP.out⟩
            case measure => have := Hlt.out; simp [intOf]; omega
        · go_simp
          refine hK _ _ ?_
          clear hK K
          refine wpAny_ready (rs := [3, 7]) (by kernel_rfl) (by simp) ?_
          refine AllReady.cons (o := ⟨some 27, _, _, _, _, _⟩) rfl (fun K hK => ?_) (AllReady.cons (o := ⟨some 31, _, _, _, _, _⟩) rfl (fun K hK => ?_) AllReady.nil)
          · go_simp
            refine hK _ _ ?_
            clear hK K
            refine wpAny_ready (rs := [7]) (by kernel_rfl) (by simp) ?_
            refine AllReady.cons (o := ⟨some 31, _, _, _, _, _⟩) rfl (fun K hK => ?_) AllReady.nil
            refine step_wp rfl (wp_load_mid 98 (.tmp 30) rfl wr.heap.size 1 rfl (cels x.2) _ HT.out Tryz.underlying98 rfl Hs64.out ?_)
            refine hK _ _ ?_
            clear hK K
            refine wpAny_take (i := 8) (oi := ⟨some 32, _, _, _, _, _⟩) (v := ?_) rfl (by kernel_rfl) (by kernel_rfl) (by kernel_rfl) (fun _ _ _ h => h) (Or.inl ⟨by rfl, ?_⟩) ?_
            rotate_left 1
            · (intro w; go_simp; try with_reducible rfl)
            simp only [Act.put, List.setIfInBounds_toArray, List.set_cons_zero, List.set_cons_succ]
            refine wpAny_ready (rs := [9]) (by kernel_rfl) (by simp) ?_
            refine AllReady.cons (o := ⟨none, _, _, _, _, _⟩) rfl (fun K hK => ?_) AllReady.nil
            refine step_wp rfl (wp_store_at 98 (.tmp 32) (.tmp 31) rfl g (x.1 * 64) (cels x.2) rfl rfl 98 cur HGg.out Hs64.out Hft.out (cels_one _) ?_)
            refine hK _ _ ?_
            clear hK K
            refine wpAny_done (by kernel_rfl) ?_ _
            go_wp2
            go_roundw
            case rel => exact ⟨k + 1, done Sk x, Hlt.out, by go_num, Hcr2.out, Hlen2.out, HP.out, HKP.out⟩
            case measure => have := Hlt.out; simp [intOf]; omega
          · refine step_wp rfl (wp_load_mid 98 (.tmp 30) rfl wr.heap.size 1 rfl (cels x.2) _ HT.out Tryz.underlying98 rfl Hs64.out ?_)
            refine hK _ _ ?_
            clear hK K
            refine wpAny_ready (rs := [3]) (by kernel_rfl) (by simp) ?_
            refine AllReady.cons (o := ⟨some 27, _, _, _, _, _⟩) rfl (fun K hK => ?_) AllReady.nil
            go_simp
            refine hK _ _ ?_
            clear hK K
            refine wpAny_take (i := 8) (oi := ⟨some 32, _, _, _, _, _⟩) (v := ?_) rfl (by kernel_rfl) (by kernel_rfl) (by kernel_rfl) (fun _ _ _ h => h) (Or.inl ⟨by rfl, ?_⟩) ?_
            rotate_left 1
            · (intro w; go_simp; try with_reducible rfl)
            simp only [Act.put, List.setIfInBounds_toArray, List.set_cons_zero, List.set_cons_succ]
            refine wpAny_ready (rs := [9]) (by kernel_rfl) (by simp) ?_
            refine AllReady.cons (o := ⟨none, _, _, _, _, _⟩) rfl (fun K hK => ?_) AllReady.nil
            refine step_wp rfl (wp_store_at 98 (.tmp 32) (.tmp 31) rfl g (x.1 * 64) (cels x.2) rfl rfl 98 cur HGg.out Hs64.out Hft.out (cels_one _) ?_)
            refine hK _ _ ?_
            clear hK K
            refine wpAny_done (by kernel_rfl) ?_ _
            go_wp2
            go_roundw
            case rel => exact ⟨k + 1, done Sk x, Hlt.out, by go_num, Hcr2.out, Hlen2.out, HP.out, HKP.out⟩
            case measure => have := Hlt.out; simp [intOf]; omega
        · refine step_wp rfl (wp_load_mid 98 (.tmp 30) rfl wr.heap.size 1 rfl (cels x.2) _ HT.out Tryz.underlying98 rfl Hs64.out ?_)
          refine hK _ _ ?_
          clear hK K
          refine wpAny_ready (rs := [3, 5]) (by kernel_rfl) (by simp) ?_
          refine AllReady.cons (o := ⟨some 27, _, _, _, _, _⟩) rfl (fun K hK => ?_) (AllReady.cons (o := ⟨some 29, _, _, _, _, _⟩) rfl (fun K hK => ?_) AllReady.nil)
          · go_simp
            refine hK _ _ ?_
            clear hK K
            refine wpAny_ready (rs := [5]) (by kernel_rfl) (by simp) ?_
            refine AllReady.cons (o := ⟨some 29, _, _, _, _, _⟩) rfl (fun K hK => ?_) AllReady.nil
            go_simp
            refine hK _ _ ?_
            clear hK K
            refine wpAny_take (i := 8) (oi := ⟨some 32, _, _, _, _, _⟩) (v := ?_) rfl (by kernel_rfl) (by kernel_rfl) (by kernel_rfl) (fun _ _ _ h => h) (Or.inl ⟨by rfl, ?_⟩) ?_
            rotate_left 1
            · (intro w; go_simp; try with_reducible rfl)
            simp only [Act.put, List.setIfInBounds_toArray, List.set_cons_zero, List.set_cons_succ]
            refine wpAny_ready (rs := [9]) (by kernel_rfl) (by simp) ?_
            refine AllReady.cons (o := ⟨none, _, _, _, _, _⟩) rfl (fun K hK => ?_) AllReady.nil
            refine step_wp rfl (wp_store_at 98 (.tmp 32) (.tmp 31) rfl g (x.1 * 64) (cels x.2) rfl rfl 98 cur HGg.out Hs64.out Hft.out (cels_one _) ?_)
            refine hK _ _ ?_
            clear hK K
            refine wpAny_done (by kernel_rfl) ?_ _
            go_wp2
            go_roundw
            case rel => exact ⟨k + 1, done Sk x, Hlt.out, by go_num, Hcr2.out, Hlen2.out, HP.out, HKP.out⟩
            case measure => have := Hlt.out; simp [intOf]; omega
          · go_simp
            refine hK _ _ ?_
            clear hK K
            refine wpAny_ready (rs := [3]) (by kernel_rfl) (by simp) ?_
            refine AllReady.cons (o := ⟨some 27, _, _, _, _, _⟩) rfl (fun K hK => ?_) AllReady.nil
            go_simp
            refine hK _ _ ?_
            clear hK K
            refine wpAny_take (i := 8) (oi := ⟨some 32, _, _, _, _, _⟩) (v := ?_) rfl (by kernel_rfl) (by kernel_rfl) (by kernel_rfl) (fun _ _ _ h => h) (Or.inl ⟨by rfl, ?_⟩) ?_
            rotate_left 1
            · (intro w; go_simp; try with_reducible rfl)
            simp only [Act.put, List.setIfInBounds_toArray, List.set_cons_zero, List.set_cons_succ]
            refine wpAny_ready (rs := [9]) (by kernel_rfl) (by simp) ?_
            refine AllReady.cons (o := ⟨none, _, _, _, _, _⟩) rfl (fun K hK => ?_) AllReady.nil
            refine step_wp rfl (wp_store_at 98 (.tmp 32) (.tmp 31) rfl g (x.1 * 64) (cels x.2) rfl rfl 98 cur HGg.out Hs64.out Hft.out (cels_one _) ?_)
            refine hK _ _ ?_
            clear hK K
            refine wpAny_done (by kernel_rfl) ?_ _
            go_wp2
            go_roundw
            case rel => exact ⟨k + 1, done Sk x, Hlt.out, by go_num, Hcr2.out, Hlen2.out, HP.out, HKP.out⟩
            case measure => have := Hlt.out; simp [intOf]; omega
    · obtain rfl : k = m := by omega
      have Hcr := hide (show Sk = crash K 0 L S by rw [← hcr.out, List.drop_of_length_le (by rw [HM.out]; exact Nat.le_refl _)]; rfl)
      have hp1 : wr.cell? ⟨p, 1, none⟩ = some (.slice B k d) := by simp [World.cell?, hdk.out.1]
      have hf1 : wr.frozen? ⟨p, 1, none⟩ = false := by simp [World.frozen?, hdk.out.1]
      have HP := hide (show Post w G p (crash K 0 L S) [] (wr.setCell ⟨p, 1, none⟩ (.slice none 0 0)) from ⟨G, ⟨_, _, by rw [← Hcr.out]; exact hdk.out.clear⟩, Grew.refl _ _, hkept.out.clear hdk.out.2.2.2.1 _⟩)
      clear hcr hdk hkept
      go_wp2
      go_end0
      exact ⟨rfl, HP.out⟩

set_option maxRecDepth 100000 in
theorem Flush_any (w : World) (G : Nat → Prop) (p : Nat) (S : List Sec) (L : List Wr) (h : Dsk w G p S L) (hL : L.length ≤ 1000000) :
    Calls Tryz.prog 61 #[.pointer (some ⟨p, 0, none⟩)] w fun e w' => e = .returned (.tuple #[]) ∧ Post w G p (all S L) [] w' := by
  have hC := Crash_any w G p 18446744073709551615 S L h (by decide) hL
  rw [crash_all] at hC
  have HC := hide hC
  clear hC h hL
  go_enter Tryz.func61, Tryz.ntmps61
  go_wp2_with fail
  refine HC.out.mono ?_
  rintro e w1 ⟨rfl, hp⟩
  have HP := hide hp
  clear hp HC
  go_wp2
  go_end0
  exact ⟨rfl, HP.out⟩

theorem Crash_nil (K : Int) (w : World) : Calls Tryz.prog 19 #[.pointer none, .int .u64 K] w fun e w' => e = .returned (.tuple #[]) ∧ w = w' := by
  go_enter Tryz.func19, Tryz.ntmps19
  go_wp2
  exact bodyPost_ret (results_none rfl _ _ _) rfl ⟨rfl, rfl⟩
theorem Flush_nil (w : World) : Calls Tryz.prog 61 #[.pointer none] w fun e w' => e = .returned (.tuple #[]) ∧ w = w' := by
  have HC := hide (Crash_nil 18446744073709551615 w)
  go_enter Tryz.func61, Tryz.ntmps61
  go_wp2_with fail
  refine HC.out.mono ?_
  rintro e w1 ⟨rfl, rfl⟩
  go_wp2
  go_end0
  exact ⟨rfl, rfl⟩

end Go.Proofs.YtnmpckhlpkmojaaGreatDoor.Dk
