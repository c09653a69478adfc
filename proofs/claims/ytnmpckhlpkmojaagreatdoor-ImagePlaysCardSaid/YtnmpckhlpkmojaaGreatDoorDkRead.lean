/-
  The contract of disk's current and Read: the contents of a sector, in memory of the call's own. Nothing that was there is changed.
-/
import Derived.Test.YtnmpckhlpkmojaaGreatDoorDkCalls
namespace Go.Proofs.YtnmpckhlpkmojaaGreatDoor.Dk
open Go.RowKit
open Pk Sm Fa

theorem sec_size : (Tryz.prog.info? 98).map (·.size) = some 64 := by kernel_rfl
theorem wr_size : (Tryz.prog.info? 100).map (·.size) = some 65 := by kernel_rfl
theorem u8_one : (Tryz.prog.info? 5).map (·.size) = some 1 := by kernel_rfl
def zero : Sec := List.replicate 64 0
theorem zero_length : zero.length = 64 := List.length_replicate
theorem sec_zero : (Tryz.prog.info? 98).map (·.zero) = some (some (.agg (cels zero).toArray)) := by kernel_rfl
theorem wr_zero : (Tryz.prog.info? 100).map (·.zero) = some (some (.agg (wcel (0, zero)).toArray)) := by kernel_rfl

/-- A new variable of zeros, the world behind it under a name of its own. -/
theorem wpList_alloc_told {P : Program} {ops : Array Oper} {rest : List Oper} {o : Oper} {a : Act} {w : World} {Q : Exit → Act → World → Prop} (hg : o.guard = none) (t : TypeId) (ho : o.op = .alloc t)
    (z : Array Value) (hz : (P.info? t).map (·.zero) = some (some (.agg z)))
    (h : ∀ w', Hid (w' = w.alloc (.cells z t)) → wpList P ops Q rest (a.put o.dst (.pointer (some ⟨w.heap.size, 0, none⟩))) w') : wpList P ops Q (o :: rest) a w := by
  refine wpList_plain hg fun K hK => ?_
  cases hq : P.info? t with
  | none => simp [hq] at hz
  | some i =>
    have hz' : i.zero = some (.agg z) := by simpa [hq] using hz
    have hrun : (zeroValue t).run P w = .ok (.agg z) w := by simp [zeroValue, typeInfo, hq, hz']
    unfold Oper.wp execOp
    simp only [ho, Sem.run_bind, Instr.alloc, newVar, newRow, run_newObj_alloc, Sem.run_pure, Result.andThen_ok, hrun, Value.cells]
    exact hK _ _ (h _ rfl)

theorem drop_cons {α : Type} {l : List α} {k : Nat} {x : α} (h : l[k]? = some x) : l.drop k = x :: l.drop (k + 1) := by
  obtain ⟨h1, h2⟩ := List.getElem?_eq_some_iff.1 h
  rw [List.drop_eq_getElem_cons h1, h2]
theorem range_tail {w : World} {g o : Nat} {v : Value} {cs : List Value} (h : w.rangeAt g o (v :: cs)) : w.rangeAt g (o + 1) cs := fun j u hu => by
  have := h (j + 1) u (by simpa using hu)
  rwa [show o + (j + 1) = o + 1 + j by omega] at this

set_option maxRecDepth 100000 in
set_option maxHeartbeats 1000000 in
theorem current_any (w : World) (G : Nat → Prop) (p i : Nat) (S : List Sec) (L : List Wr) (s : Sec) (h : Dsk w G p S L) (hs : (all S L)[i]? = some s) (hi : i < S.length) (hL : L.length ≤ 1000000) :
    Calls Tryz.prog 65 #[.pointer (some ⟨p, 0, none⟩), .int .i64 i] w fun e w' => e = .returned (.agg (cels s).toArray) ∧ Below w.heap.size w w' := by
  have HD := hide h
  have HS := hide hs
  have HI := hide hi
  clear h hs hi
  go_enter Tryz.func65, Tryz.ntmps65
  go_wp2_with (refine wpList_alloc_told rfl 98 rfl _ sec_zero ?_)
  intro w1 Hw1
  have hb1 : Below w.heap.size w w1 := by rw [Hw1.out]; exact (Below.refl _ _).alloc (Nat.le_refl _) _
  have hg1 : w1.heap[w.heap.size]? = some (.cells (cels zero).toArray 98 (0, 0)) := by rw [Hw1.out]; exact heap_alloc_new w _
  obtain ⟨F, X, h1, h2, h3, h4, h5, h6, h7, h8, h9⟩ := HD.out.below hb1
  obtain ⟨A, c, rfl, hn1, hc1, hF⟩ := row_form h2
  obtain ⟨g, rfl, _, hglt, hFr⟩ := hF (by have := HI.out; omega)
  obtain ⟨B, d, rfl, hn2, hc2, hX⟩ := row_form h3
  generalize hm : L.length = m at *
  generalize hn : S.length = n at *
  have hp0 : w1.cell? ⟨p, 0, none⟩ = some (.slice (some ⟨g, 0, none⟩) n c) := by simp [World.cell?, h1]
  have hp1 : w1.cell? ⟨p, 1, none⟩ = some (.slice B m d) := by simp [World.cell?, h1]
  have HX := hide hX
  have HF := hide hFr
  have HG1 := hide hg1
  have HB1 := hide hb1
  have Hm := hide hm
  have Hn := hide hn
  have Hfull := hide h8
  have Hfit := hide h9
  clear h1 h2 h3 h4 h5 h6 h7 h8 h9 hX hFr hg1 hb1 hm hn hF hn1 hn2 hc1 hc2 hglt
  go_wp2
  go_loop [5] (fun j => ∃ k : Nat, k ≤ m ∧ j = .int .i64 ((k : Int) - 1) ∧ Hid (∀ x ∈ L.drop k, x.1 ≠ i)) (fun j => (intOf j + 1).toNat)
  case atStart => exact ⟨m, Nat.le_refl _, rfl, by rw [← Hm.out, List.drop_length]; exact fun x hx => by cases hx⟩
  case round =>
    obtain ⟨k, hk, rfl, hd⟩ := hrel
    rcases Nat.eq_zero_or_pos k with rfl | hpos
    · have hsi : S[i]? = some s := by rw [← HS.out, all_other (fun x hx => hd.out x (by simpa using hx))]
      have HR := hide (range_piece HF.out Hfull.out.cels hsi)
      have hls : (cels s).length = 64 := Hfull.out.cels s (List.mem_of_getElem? hsi)
      have hii : (i : Int) < (n : Int) := by have := HI.out; omega
      have Hls := hide hls
      clear hls hsi
      go_wp2_with (first | with_reducible refine wpList_load_mid rfl 98 (.tmp 39) rfl g (i * 64) rfl (cels s) _ HR.out Tryz.underlying98 rfl (by rw [sec_size, Hls.out]) ?_ | with_reducible refine wpList_store_row rfl 98 (.tmp 4) (.tmp 40) rfl w.heap.size (cels s).toArray rfl rfl 98 _ HG1.out (by rw [sec_size, List.size_toArray, Hls.out]) (by rw [List.size_toArray, List.size_toArray, Hls.out, cels_length, zero_length]) (all_oneCell_toArray (cels_one s)) ?_)
      refine bodyPost_ret (v := .agg (cels s).toArray) (results_cell_row rfl _ _ w.heap.size 98 _ (0, 0) _ rfl (setRow_heap w1 _ _ _ _ _ HG1.out) Tryz.underlying98 rfl (by rw [sec_size, List.size_toArray, Hls.out])) rfl ⟨rfl, below_setRow HB1.out (Nat.le_refl _) _⟩
    · obtain ⟨k, rfl⟩ : ∃ j, k = j + 1 := ⟨k - 1, by omega⟩
      obtain ⟨x, hx⟩ : ∃ x, L[k]? = some x := ⟨_, List.getElem?_eq_getElem (by rw [Hm.out]; omega)⟩
      obtain ⟨b, rfl, _, hblt, hrg⟩ := HX.out (by omega)
      have hr := range_piece hrg Hfit.out.cels hx
      have hc0 := hr 0 _ rfl
      have HR := hide hr
      clear hr hrg hblt
      rw [Nat.add_zero] at hc0
      have hxl := (Hfit.out x (List.mem_of_getElem? hx)).2
      obtain ⟨xi, xb⟩ := x
      have HL := hide (show L = L.take k ++ (xi, xb) :: L.drop (k + 1) by rw [← (List.getElem?_eq_some_iff.1 hx).2, List.getElem_cons_drop, List.take_append_drop])
      have hkm : (k : Int) < (m : Int) := by omega
      rw [show ((k + 1 : Nat) : Int) - 1 = (k : Int) by omega]
      have HDk := hide (drop_cons hx)
      clear hx
      by_cases hxi : xi = i
      · obtain rfl : i = xi := hxi.symm
        clear hxi
        have hsb : s = xb := by
          have := HS.out
          rw [HL.out, all_last (by rw [Hn.out]; exact HI.out) hd.out] at this
          exact (Option.some.inj this).symm
        subst hsb
        have Hls : Hid ((cels s).length = 64) := by rw [cels_length]; exact hxl
        have HT : Hid (w1.rangeAt b (k * 65 + 1) (cels s)) := range_tail HR.out
        clear hxl
        go_wp2_with (first | with_reducible refine wpList_load_mid rfl 98 (.tmp 32) rfl b (k * 65 + 1) rfl (cels s) _ HT.out Tryz.underlying98 rfl (by rw [sec_size, Hls.out]) ?_ | with_reducible refine wpList_store_row rfl 98 (.tmp 4) (.tmp 33) rfl w.heap.size (cels s).toArray rfl rfl 98 _ HG1.out (by rw [sec_size, List.size_toArray, Hls.out]) (by rw [List.size_toArray, List.size_toArray, Hls.out, cels_length, zero_length]) (all_oneCell_toArray (cels_one s)) ?_)
        refine bodyPost_ret (v := .agg (cels s).toArray) (results_cell_row rfl _ _ w.heap.size 98 _ (0, 0) _ rfl (setRow_heap w1 _ _ _ _ _ HG1.out) Tryz.underlying98 rfl (by rw [sec_size, List.size_toArray, Hls.out])) rfl ⟨rfl, below_setRow HB1.out (Nat.le_refl _) _⟩
      · have hne : ¬ ((xi : Int) = (i : Int)) := by omega
        have Hne := hide hxi
        clear hxi hxl
        go_wp2
        go_round
        case rel =>
          refine ⟨k, by omega, by go_num, ?_⟩
          show ∀ x ∈ L.drop k, x.1 ≠ i
          rw [HDk.out]
          intro x hx
          rcases List.mem_cons.1 hx with rfl | hx
          · exact Hne.out
          · exact hd.out x hx
        case measure => simp [intOf]

/-- make, the world behind it under a name of its own. -/
theorem wpList_make_told {P : Program} {ops : Array Oper} {rest : List Oper} {o : Oper} {a : Act} {w : World} {Q : Exit → Act → World → Prop} (hg : o.guard = none) (t : TypeId) (x y : Operand) (ho : o.op = .makeSlice t x y)
    (e : TypeId) (i : TypeInfo) (z : Value) (ht : P.underlying t = some (.slice e)) (hi : P.info? e = some i) (hz : i.zero = some z) (kl kc : IntKind) (l c : Nat) (hx : a.eval x = .int kl (l : Int)) (hy : a.eval y = .int kc (c : Int))
    (hlc : l ≤ c) (hbytes : (i.bytes : Int) * (c : Int) ≤ 281474976710656) (h63 : c ≤ 9223372036854775807)
    (n : Nat) (hn : i.size = n)
    (h : ∀ w', Hid (w' = w.alloc (.cells (madeCells z.cells (c * n)) e)) → wpList P ops Q rest (a.put o.dst (.slice (some ⟨w.heap.size, 0, none⟩) l c)) w') : wpList P ops Q (o :: rest) a w := by
  subst hn
  refine wpList_plain hg fun K hK => ?_
  have hrun := run_make (P := P) w t e i z ht hi hz kl kc l c (by omega) (by omega) hbytes (by omega)
  unfold Oper.wp execOp
  simp only [ho, hx, hy, Sem.run_bind, hrun, Sem.run_pure, Result.andThen_ok, Int.toNat_natCast]
  exact hK _ _ (h _ rfl)

theorem splice_all {α : Type} (l m : List α) (h : m.length = l.length) : splice l 0 m = m := by
  simp [splice, h]
theorem n64 : (cels zero).length = 64 := by rw [cels_length, zero_length]
theorem made_zero : (madeCells #[.int .u8 0] 64).toList = cels zero := by kernel_rfl

set_option maxRecDepth 100000 in
set_option maxHeartbeats 1000000 in
theorem Read_any (w : World) (G : Nat → Prop) (p i : Nat) (S : List Sec) (L : List Wr) (s : Sec) (h : Dsk w G p S L) (hs : (all S L)[i]? = some s) (hi : i < S.length) (hL : L.length ≤ 1000000) :
    Calls Tryz.prog 44 #[.pointer (some ⟨p, 0, none⟩), .int .i64 i] w fun e w' => ∃ g, e = .returned (.tuple #[.slice (some ⟨g, 0, none⟩) 64 64, .nilIface]) ∧ w.heap.size ≤ g ∧ Hid (w'.heap[g]? = some (.cells (cels s).toArray 5 (0, 0))) ∧ Below w.heap.size w w' := by
  obtain ⟨i0, hi0, hz0, hz1, hz2⟩ := info_parts u8_info
  have HH := hide (has_yes (.pointer (some ⟨p, 0, none⟩)) i S.length w (Len_any h) (by omega) (by omega))
  have HC := hide (current_any w G p i S L s h hs hi hL)
  have Hls : Hid ((cels s).length = 64) := by rw [cels_length]; exact (h.full.all h.fits) s (List.mem_of_getElem? hs)
  have Hz := hide hz1
  have Hz2 := hide hz2
  clear h hs hi hL hz1 hz2
  go_enter Tryz.func44, Tryz.ntmps44
  go_wp2_with fail
  refine HH.out.mono ?_
  rintro e w0 ⟨rfl, rfl⟩
  go_wp2_with fail
  refine HC.out.mono ?_
  rintro e w1 ⟨rfl, hb1⟩
  have HB1 := hide hb1
  clear HH HC hb1
  go_wp2_with (refine wpList_alloc_told rfl 98 rfl _ sec_zero ?_)
  intro w2 Hw2
  have HB2 : Hid (Below w.heap.size w w2) := by rw [Hw2.out]; exact HB1.out.alloc HB1.out.size _
  have HG2 : Hid (w2.heap[w1.heap.size]? = some (.cells (cels zero).toArray 98 (0, 0))) := by rw [Hw2.out]; exact heap_alloc_new w1 _
  go_wp2_with (first | with_reducible refine wpList_store_row rfl 98 (.tmp 6) (.tmp 16) rfl w1.heap.size (cels s).toArray rfl rfl 98 _ HG2.out (by rw [sec_size, List.size_toArray, Hls.out]) (by rw [List.size_toArray, List.size_toArray, Hls.out, cels_length, zero_length]) (all_oneCell_toArray (cels_one s)) ?_ | with_reducible refine wpList_make_told rfl 60 _ _ rfl 5 i0 _ Tryz.underlying60 hi0 hz0 .i64 .i64 64 64 rfl rfl (by omega) (by rw [Hz2.out]; decide) (by omega) 1 Hz.out ?_)
  intro w3 Hw3
  have HB3 : Hid (Below w.heap.size w w3) := by rw [Hw3.out]; exact (below_setRow HB2.out HB1.out.size _).alloc (by have := HB2.out.size; simp; omega) _
  have hs2 : w2.heap.size = w1.heap.size + 1 := by rw [Hw2.out]; simp
  have HG3 : Hid (w3.heap[w1.heap.size]? = some (.cells (cels s).toArray 98 (0, 0))) := by
    rw [Hw3.out]
    exact (Below.heap_alloc _ _ _ (by rw [setRow_size]; omega)).trans (setRow_heap w2 _ _ _ _ _ HG2.out)
  have HN3 : Hid (w3.heap[w2.heap.size]? = some (.cells (cels zero).toArray 5 (0, 0))) := by
    rw [Hw3.out]
    have := heap_alloc_new (w2.setRow w1.heap.size (cels s).toArray) (.cells (madeCells #[.int .u8 0] 64) 5)
    rw [setRow_size] at this
    refine this.trans ?_
    rw [← made_zero, Array.toArray_toList]
  have hle := HB1.out.size
  have Hle := hide hle
  have Hs2 := hide hs2
  clear hle Hw2 Hw3 HG2 hs2
  go_wp2_with (with_reducible refine wpList_copy_splice rfl (.tmp 18) (.tmp 19) 60 60 rfl 5 Tryz.underlying60 u8_one (some ⟨w2.heap.size, 0, none⟩) (some ⟨w1.heap.size, 0, none⟩) 64 64 64 64 rfl rfl w2.heap.size 0 (cels zero) 5 HN3.out (cels s) ?h2 ?h3 ?h4 (cels_one s) w.heap.size w HB3.out (by have := Hle.out; have := Hs2.out; omega) ?h6)
  case h2 => rw [Hls.out]; rfl
  case h3 =>
    intro _ j u hu
    rw [cell_of_row w3 _ j _ _ _ HG3.out]
    simpa using hu
  case h4 => rw [Hls.out, n64]; exact Nat.le_refl _
  case h6 =>
    intro w4 hg4 hb4
    have HG4 : Hid (w4.heap[w2.heap.size]? = some (.cells (cels s).toArray 5 (0, 0))) := by
      have := hg4.out
      rw [splice_all _ _ (by rw [Hls.out, n64])] at this
      exact this
    have HB4 := hide hb4
    clear hg4 hb4 HG3 HN3
    go_wp2
    go_ret2
    exact ⟨_, rfl, by have := Hle.out; have := Hs2.out; omega, HG4, HB4.out⟩

end Go.Proofs.YtnmpckhlpkmojaaGreatDoor.Dk
