/-
  The contract of disk's Write where it writes: the write is appended to the loose ones; nothing but the disk's own memory is changed.
-/
import Derived.Great.BuildSlice
import Derived.Test.YtnmpckhlpkmojaaGreatDoorDkRead
namespace Go.Proofs.YtnmpckhlpkmojaaGreatDoor.Dk
open Go.RowKit
open Pk Sm Fa

theorem fold_set : ∀ (l : List Value) (k : Nat) (acc : Array Value), k + l.length ≤ acc.size → ((l.zipIdx k).foldl (fun a (p : Value × Nat) => a.setIfInBounds (0 + p.2) p.1) acc).toList = acc.toList.take k ++ (l ++ acc.toList.drop (k + l.length))
  | [], k, acc, h => by simp
  | v :: r, k, acc, h => by
    simp only [List.length_cons] at h
    rw [List.zipIdx_cons, List.foldl_cons, fold_set r (k + 1) _ (by simp; omega)]
    have e := list_seg_step acc.toList k v r (by simp; omega)
    simpa [Array.toList_setIfInBounds, Nat.add_assoc, Nat.add_comm 1] using e
theorem fill_whole (n : Nat) (base : Array Value) (cs : List Value) (hb : base.size = n) (hc : cs.length = n) : Instr.fill (fun i => some (i * n, n)) base [(0, .agg cs.toArray)] = some cs.toArray := by
  have e := fold_set cs 0 base (by omega)
  rw [List.take_zero, List.nil_append, Nat.zero_add, List.drop_of_length_le (by simp; omega), List.append_nil] at e
  have e2 : (cs.zipIdx.foldl (fun a (p : Value × Nat) => a.setIfInBounds (0 + p.2) p.1) base) = cs.toArray := by
    apply Array.toList_inj.1
    rw [e]
  simp only [Instr.fill, Value.cells, List.size_toArray, Nat.zero_mul]
  rw [if_neg (by simp; omega)]
  have e3 : cs.toArray.zipIdx.foldl (fun (a : Array Value) (p : Value × Nat) => a.setIfInBounds (0 + p.2) p.1) base = cs.toArray := by rw [← Array.foldl_toList, Array.toList_zipIdx]; exact e2
  exact congrArg some e3
theorem built_wr (i : Int) : Tryz.prog.built 100 [(0, .int .i64 i)] = some (Value.int .i64 i :: cels zero).toArray := by kernel_rfl
theorem wr_info : (Tryz.prog.info? 100).map (fun i => (i.zero, i.size, i.bytes)) = some (some (.agg (wcel (0, zero)).toArray), 65, 72) := by kernel_rfl
theorem wpList_built {P : Program} {ops : Array Oper} {rest : List Oper} {o : Oper} {a : Act} {w : World} {Q : Exit → Act → World → Prop} (hg : o.guard = none) (t : TypeId) (parts : Array (Nat × Operand)) (ho : o.op = .build t parts)
    (cs : Array Value) (hf : P.built t (parts.map fun (i, x) => (i, a.eval x)).toList = some cs) (h : wpList P ops Q rest (a.put o.dst (.agg cs)) w) : wpList P ops Q (o :: rest) a w :=
  wpList_build hg t parts ho (by rw [hf]; rfl) (by rw [hf]; exact h)
theorem splice_tail {α : Type} (v : α) (l m : List α) (h : m.length = l.length) : splice (v :: l) 1 m = v :: m := by
  simp [splice, h, Nat.add_comm 1]

section
variable {w W w5 : World} {G : Nat → Prop} {p : Nat} {S : List Sec} {L : List Wr} {F X : Value}
theorem hp5 (h : DskAt w G p S L F X) (hb : Below w.heap.size w W) (hgr : W.grownBy w5 X.ownBlock) : w5.heap[p]? = some (.cells #[F, X] 66 (0, 0)) := by
  obtain ⟨h1, h2, h3, h4, h5, h6, h7, h8, h9⟩ := h
  rw [hgr.block p (Nat.lt_of_lt_of_le (h7 p h4) hb.size) (fun e => (h6 p e.symm).2.1 rfl), hb.block p (h7 p h4)]
  exact h1
theorem wrote {g cap i m : Nat} {s : Sec} (h : DskAt w G p S L F X) (hb : Below w.heap.size w W) (hgr : W.grownBy w5 X.ownBlock)
    (hown : w5.ownsRow 0 100 65 (.slice (some ⟨g, 0, none⟩) (m + 1) cap) (m + 1) (wcels L ++ wcel (i, s))) (hor : X.ownBlock = some g ∨ g = W.heap.size) (hm : L.length = m) (hi : i < S.length) (hs : s.length = 64) :
    Post w G p S (L ++ [(i, s)]) (w5.setCell ⟨p, 1, none⟩ (.slice (some ⟨g, 0, none⟩) (m + 1) cap)) := by
  have hp := hp5 h hb hgr
  have hh := h
  obtain ⟨h1, h2, h3, h4, h5, h6, h7, h8, h9⟩ := h
  have hsz : (w5.setCell ⟨p, 1, none⟩ (.slice (some ⟨g, 0, none⟩) (m + 1) cap)).heap.size = w5.heap.size := by simp [World.setCell]
  have hgs := hgr.size
  have hbs := hb.size
  have hgp : g ≠ p := by
    rcases hor with h | h
    · exact (h6 g h).2.1
    · have := h7 p h4; omega
  have hgl : g < w5.heap.size := (World.ownsRow.lt hown g rfl).2
  refine ⟨fun k => G k ∨ (w.heap.size ≤ k ∧ k < w5.heap.size), ⟨F, .slice (some ⟨g, 0, none⟩) (m + 1) cap, ?_, ?_, ?_, Or.inl h4, fun k hk => ⟨Or.inl (h5 k hk).1, (h5 k hk).2⟩, ?_, ?_, h8, h9.snoc hi hs⟩, fun k hk => hk.imp id fun x => x.1, ?_⟩
  · rw [heap_setCell_same w5 p 1 _ _ _ hp]; rfl
  · refine own_same h2 fun k hk => ?_
    have hkG := h5 k hk
    have hkl := h7 k hkG.1
    rw [heap_setCell_other _ _ _ _ hkG.2, hgr.block k (by omega) (fun e => (h6 k e.symm).2.2 hk), hb.block k hkl]
  · rw [List.length_append, hm, wcels_snoc]
    exact own_same hown fun k hk => by
      have : g = k := by simpa [Value.ownBlock] using hk
      rw [heap_setCell_other _ _ _ _ (by rw [← this]; exact hgp)]
  · intro k hk
    have hk' : g = k := by simpa [Value.ownBlock] using hk
    subst hk'
    refine ⟨?_, hgp, ?_⟩
    · rcases hor with h | h
      · exact Or.inl (h6 g h).1
      · exact Or.inr ⟨by omega, hgl⟩
    · intro hF
      rcases hor with h | h
      · exact (h6 g h).2.2 hF
      · have := h7 g (h5 g hF).1
        omega
  · intro k hk
    rw [hsz]
    rcases hk with hk | hk
    · have := h7 k hk; omega
    · exact hk.2
  · refine ⟨hgr.os.trans hb.os, hgr.tape.trans hb.tape, hgr.output.trans hb.output, by rw [hsz]; omega, fun k hk hn => ?_⟩
    rw [heap_setCell_other _ _ _ _ (fun e => hn (by have e' : k = p := e; rw [e']; exact h4)), hgr.block k (by omega) (fun e => hn (h6 k e.symm).1), hb.block k hk]
end

set_option maxRecDepth 100000 in
set_option maxHeartbeats 2000000 in
theorem Write_any (w : World) (G : Nat → Prop) (p i c : Nat) (A : Option Addr) (S : List Sec) (L : List Wr) (s : Sec) (h : Dsk w G p S L) (hi : i < S.length) (hb : Byt w w.heap.size A s) (hs : s.length = 64) (hL : L.length ≤ 900000) :
    Calls Tryz.prog 25 #[.pointer (some ⟨p, 0, none⟩), .int .i64 i, .slice A 64 c] w fun e w' => e = .returned .nilIface ∧ Post w G p S (L ++ [(i, s)]) w' := by
  obtain ⟨i0, hi0, hz0, hz1, hz2⟩ := info_parts wr_info
  have HH := hide (has_yes (.pointer (some ⟨p, 0, none⟩)) i S.length w (Len_any h) (by omega) (by omega))
  obtain ⟨F, X, hd⟩ := h
  obtain ⟨B, d, rfl, hn2, hc2, _⟩ := row_form hd.2.2.1
  have Hi := hide hi
  have Hb := hide hb
  have Hs := hide hs
  have HbL := built_wr (i : Int)
  have Hcs : Hid ((cels s).length = 64) := by rw [cels_length]; exact hs
  obtain ⟨m, hm⟩ : ∃ m, L.length = m := ⟨_, rfl⟩
  rw [hm] at hd hL hn2
  have HD := hide hd
  have HM := hide hm
  have HLm := hide hL
  have hp1 : w.cell? ⟨p, 1, none⟩ = some (.slice B m d) := by simp [World.cell?, hd.1]
  have hpl : p < w.heap.size := hd.2.2.2.2.2.2.1 p hd.2.2.2.1
  have HO0 := hide hd.2.2.1
  have Hp1 := hide hp1
  have Hpl := hide hpl
  have Hz1 := hide hz1
  have Hz2 := hide hz2
  have Hz3 := hide (show (Value.agg (wcel (0, zero)).toArray).cells.size = 65 by simp [Value.cells, wcel, n64])
  have Hwl := hide (show (wcel (i, s)).length = 65 by simp [wcel, Hcs.out])
  have Hst1 := hide (show (Tryz.prog.info? 100).map (·.size) = some (Value.int .i64 i :: cels zero).toArray.size by rw [wr_size]; simp [n64])
  have Hst2 := hide (show (wcel (0, zero)).toArray.size = (Value.int .i64 i :: cels zero).toArray.size by simp [wcel])
  have Hst3 := hide (show (Value.int .i64 i :: cels zero).toArray.all (·.oneCell') = true from all_oneCell_toArray (fun v hv => by rcases List.mem_cons.1 hv with rfl | hv; rfl; exact cels_one _ v hv))
  clear hd hb hi hs hL hm hn2 hc2 HbL hp1 hpl hz1 hz2
  go_enter Tryz.func25, Tryz.ntmps25
  go_wp2_with fail
  refine HH.out.mono ?_
  rintro e w0 ⟨rfl, rfl⟩
  clear HH
  go_wp2_with (first | refine wpList_built rfl 100 #[(0, .tmp 19)] rfl _ (built_wr _) ?_ | refine wpList_alloc_told rfl 100 rfl _ wr_zero ?_)
  intro w1 Hw1
  have HB1 : Hid (Below w.heap.size w w1) := by rw [Hw1.out]; exact (Below.refl _ _).alloc (Nat.le_refl _) _
  have HG1 : Hid (w1.heap[w.heap.size]? = some (.cells (wcel (0, zero)).toArray 100 (0, 0))) := by rw [Hw1.out]; exact heap_alloc_new w _
  clear Hw1
  go_wp2_with (first | with_reducible refine wpList_store_row rfl 100 (.tmp 7) (.tmp 20) rfl w.heap.size (Value.int .i64 i :: cels zero).toArray rfl rfl 100 _ HG1.out Hst1.out Hst2.out Hst3.out ?_ | with_reducible refine wpList_copy_splice rfl (.tmp 22) (.tmp 23) 60 60 rfl 5 Tryz.underlying60 u8_one (some ⟨w.heap.size, 1, none⟩) A 64 64 64 c rfl rfl w.heap.size 1 (Value.int .i64 i :: cels zero) 100 ?k1 (cels s) ?k2 ?k3 ?k4 (cels_one s) w.heap.size w ?k5 (Nat.le_refl _) ?k6)
  case k1 => exact setRow_heap w1 _ _ _ _ _ HG1.out
  case k2 => rw [Hcs.out]; rfl
  case k3 =>
    intro h0
    obtain ⟨b, o, rfl, hbb, hc⟩ := Hb.out (by rintro rfl; simp [cels] at h0)
    first | refine ⟨rfl, _, rfl, fun j u hu => ?_⟩ | refine ⟨_, rfl, fun j u hu => ?_⟩ | refine fun j u hu => ?_
    obtain ⟨x, hx, rfl⟩ := cels_get s j u hu
    try rw [Addr.add_mid]
    rw [cell_setRow_other _ _ _ _ (by exact Nat.ne_of_lt hbb), HB1.out.cell hbb]
    exact hc j x hx
  case k4 => simp [Hcs.out, n64]
  case k5 => exact below_setRow HB1.out (Nat.le_refl _) _
  case k6 =>
    intro w4 hg4 hb4
    have hg4' := hg4.out
    rw [splice_tail _ _ _ (by rw [Hcs.out, n64])] at hg4'
    have HG4 : Hid (w4.heap[w.heap.size]? = some (.cells (wcel (i, s)).toArray 100 (0, 0))) := hg4'
    have HB4 := hide hb4
    have HR : Hid (w4.drew.rangeAt w.heap.size 0 (wcel (i, s))) := fun j u hu => by
      show w4.cell? _ = _
      rw [Nat.zero_add, cell_of_row w4 _ j _ _ _ HG4.out]
      simpa using hu
    have hp4 : w4.cell? ⟨p, 1, none⟩ = some (.slice B m d) := (hb4.cell (p := ⟨p, 1, none⟩) Hpl.out).trans Hp1.out
    have HBW : Hid (Below w.heap.size w (w4.drew.alloc (.cells (wcel (i, s)).toArray 100))) := (Below.drew hb4).alloc hb4.size _
    have hp4' : (w4.alloc (.cells (wcel (i, s)).toArray 100)).cell? ⟨p, 1, none⟩ = some (.slice B m d) := by rw [World.cell?_alloc_lt _ _ _ (Nat.lt_of_lt_of_le Hpl.out hb4.size)]; exact hp4
    have HO : Hid ((w4.drew.alloc (.cells (wcel (i, s)).toArray 100)).ownsRow 0 100 65 (.slice B m d) m (wcels L)) := by
      have := own_below HO0.out HBW.out
      rw [HM.out] at this
      exact this
    have Hsz := hide (show (Tryz.prog.info? 100).map (·.size) = some (wcel (i, s)).length by rw [wr_size, Hwl.out])
    have Hn1 := hide (show ¬ 1 * i0.size > 2 ^ 24 by rw [Hz1.out]; decide)
    have Hn2 := hide (show ¬ 1 * i0.size = 0 by rw [Hz1.out]; decide)
    have Hfl := hide (show Instr.fill (fun i => some (i * i0.size, i0.size)) ((Array.range (1 * i0.size)).map ((Value.agg (wcel (0, zero)).toArray).cells[· % (Value.agg (wcel (0, zero)).toArray).cells.size]!)) [(0, .agg (wcel (i, s)).toArray)] = some (wcel (i, s)).toArray by rw [Hz1.out]; exact fill_whole 65 _ _ (by simp) Hwl.out)
    have Hl1 : Hid ((wcel (i, s)).length = 1 * 65) := Hwl.out
    have HN : Hid (∀ j u, (wcel (i, s))[j]? = some u → (w4.drew.alloc (.cells (wcel (i, s)).toArray 100)).cell? ((⟨w4.heap.size, 0, none⟩ : Addr).add j) = some u) := fun j u hu => by
      rw [Addr.add_mid, Nat.zero_add]
      show (w4.drew.alloc _).cell? ⟨w4.drew.heap.size, j, none⟩ = _
      rw [cell_of_row _ _ j _ _ _ (heap_alloc_new w4.drew _)]
      simpa using hu
    have Hm1 : Hid (m + 1 ≤ maxLen) := by have := HLm.out; show m + 1 ≤ maxLen; unfold maxLen; omega
    have Hm2 : Hid ((m + 1) * 72 ≤ 140737488355328) := by have := HLm.out; show (m + 1) * 72 ≤ _; omega
    clear hg4 hg4' hb4 HG1 HB1 HG4
    go_wp2
    refine wp_region_any (by kernel_rfl) ?_
    change wpAny _ _ _ _ _ _ _ (World.drew _)
    refine wpAny_take (i := 0) (oi := ⟨some 25, _, _, _, _, _⟩) (v := ?_) rfl (by kernel_rfl) (by kernel_rfl) (by kernel_rfl) (fun _ _ _ h => h) (Or.inl ⟨by rfl, ?_⟩) ?_
    rotate_left 1
    · (intro w; go_simp; try with_reducible rfl)
    simp only [Act.put, List.setIfInBounds_toArray, List.set_cons_zero, List.set_cons_succ]
    refine wpAny_take (i := 1) (oi := ⟨some 26, _, _, _, _, _⟩) (v := ?_) rfl (by kernel_rfl) (by kernel_rfl) (by kernel_rfl) (fun _ _ _ h => h) (Or.inl ⟨by rfl, ?_⟩) ?_
    rotate_left 1
    · (intro w; go_simp; try with_reducible rfl)
    simp only [Act.put, List.setIfInBounds_toArray, List.set_cons_zero, List.set_cons_succ]
    refine wpAny_take (i := 2) (oi := ⟨some 27, _, _, _, _, _⟩) (v := ?_) rfl (by kernel_rfl) (by kernel_rfl) (by kernel_rfl) (fun _ _ _ h => h) (Or.inl ⟨by rfl, ?_⟩) ?_
    rotate_left 1
    · (intro w; go_simp; try with_reducible rfl)
    simp only [Act.put, List.setIfInBounds_toArray, List.set_cons_zero, List.set_cons_succ]
    refine wpAny_take (i := 3) (oi := ⟨some 28, _, _, _, _, _⟩) (v := ?_) rfl (by kernel_rfl) (by kernel_rfl) (by kernel_rfl) (fun _ _ _ h => h) (Or.inl ⟨by rfl, ?_⟩) ?_
    rotate_left 1
    · (intro w; go_simp; try with_reducible rfl)
    simp only [Act.put, List.setIfInBounds_toArray, List.set_cons_zero, List.set_cons_succ]
    refine wpAny_ready (rs := [4, 5]) (by kernel_rfl) (by simp) ?_
    refine AllReady.cons (o := ⟨some 29, _, _, _, _, _⟩) rfl (fun K hK => ?_) (AllReady.cons (o := ⟨some 30, _, _, _, _, _⟩) rfl (fun K hK => ?_) AllReady.nil)
    · go_simp
      refine hK _ _ ?_
      clear hK K
      refine wpAny_ready (rs := [5]) (by kernel_rfl) (by simp) ?_
      refine AllReady.cons (o := ⟨some 30, _, _, _, _, _⟩) rfl (fun K hK => ?_) AllReady.nil
      refine step_wp rfl (wp_load_mid 100 (.tmp 7) rfl w.heap.size 0 rfl (wcel (i, s)) _ HR.out Tryz.underlying100 rfl Hsz.out ?_)
      refine hK _ _ ?_
      clear hK K
      refine wpAny_ready (rs := [6]) (by kernel_rfl) (by simp) ?_
      refine AllReady.cons (o := ⟨some 31, _, _, _, _, _⟩) rfl (fun K hK => ?_) AllReady.nil
      refine step_wp rfl (wp_buildSlice 64 100 1 #[(0, .tmp 30)] rfl (wcel (i, s)).toArray i0 (.agg (wcel (0, zero)).toArray) Tryz.underlying64 hi0 hz0 Hn1.out Hn2.out (by simp only [List.map_toArray, List.map_cons, List.map_nil]; exact Hfl.out) ?_)
      refine hK _ _ ?_
      clear hK K
      refine wpAny_ready (rs := [7]) (by kernel_rfl) (by simp) ?_
      refine AllReady.cons (o := ⟨some 32, _, _, _, _, _⟩) rfl (fun K hK => ?_) AllReady.nil
      refine step_append_lies _ rfl (.tmp 29) (.tmp 31) 64 rfl 0 100 i0 (.agg (wcel (0, zero)).toArray) 65 72 Tryz.underlying64 hi0 hz0 Hz1.out Hz2.out Hz3.out (by decide) (.slice B m d) m (wcels L) rfl HO.out ⟨w4.heap.size, 0, none⟩ 1 1 (wcel (i, s)) rfl Hl1.out HN.out (wcel_one _) (by decide) Hm1.out Hm2.out (Nat.zero_le _) _ rfl ?_
      intro g2 cap w5 hown5 hgr5 hor5 hlt5
      have HP := hide (wrote HD.out HBW.out hgr5 hown5 hor5 HM.out Hi.out Hs.out)
      have hc5 : w5.cell? ⟨p, 1, none⟩ = some (.slice B m d) := by simp [World.cell?, hp5 HD.out HBW.out hgr5]
      have hf5 : w5.frozen? ⟨p, 1, none⟩ = false := by simp [World.frozen?, hp5 HD.out HBW.out hgr5]
      clear hown5 hgr5 hor5 hlt5
      refine hK _ _ ?_
      clear hK K
      refine wpAny_take (i := 8) (oi := ⟨some 33, _, _, _, _, _⟩) (v := ?_) rfl (by kernel_rfl) (by kernel_rfl) (by kernel_rfl) (fun _ _ _ h => h) (Or.inl ⟨by rfl, ?_⟩) ?_
      rotate_left 1
      · (intro w; go_simp; try with_reducible rfl)
      simp only [Act.put, List.setIfInBounds_toArray, List.set_cons_zero, List.set_cons_succ]
      refine wpAny_take (i := 9) (oi := ⟨some 34, _, _, _, _, _⟩) (v := ?_) rfl (by kernel_rfl) (by kernel_rfl) (by kernel_rfl) (fun _ _ _ h => h) (Or.inl ⟨by rfl, ?_⟩) ?_
      rotate_left 1
      · (intro w; go_simp; try with_reducible rfl)
      simp only [Act.put, List.setIfInBounds_toArray, List.set_cons_zero, List.set_cons_succ]
      refine wpAny_ready (rs := [10]) (by kernel_rfl) (by simp) ?_
      refine AllReady.cons (o := ⟨none, _, _, _, _, _⟩) rfl (fun K hK => ?_) AllReady.nil
      go_simp
      refine hK _ _ ?_
      clear hK K
      refine wpAny_done (by kernel_rfl) ?_ _
      go_wp2
      go_ret
      exact ⟨rfl, HP.out⟩
    · refine step_wp rfl (wp_load_mid 100 (.tmp 7) rfl w.heap.size 0 rfl (wcel (i, s)) _ HR.out Tryz.underlying100 rfl Hsz.out ?_)
      refine hK _ _ ?_
      clear hK K
      refine wpAny_ready (rs := [4, 6]) (by kernel_rfl) (by simp) ?_
      refine AllReady.cons (o := ⟨some 29, _, _, _, _, _⟩) rfl (fun K hK => ?_) (AllReady.cons (o := ⟨some 31, _, _, _, _, _⟩) rfl (fun K hK => ?_) AllReady.nil)
      · go_simp
        refine hK _ _ ?_
        clear hK K
        refine wpAny_ready (rs := [6]) (by kernel_rfl) (by simp) ?_
        refine AllReady.cons (o := ⟨some 31, _, _, _, _, _⟩) rfl (fun K hK => ?_) AllReady.nil
        refine step_wp rfl (wp_buildSlice 64 100 1 #[(0, .tmp 30)] rfl (wcel (i, s)).toArray i0 (.agg (wcel (0, zero)).toArray) Tryz.underlying64 hi0 hz0 Hn1.out Hn2.out (by simp only [List.map_toArray, List.map_cons, List.map_nil]; exact Hfl.out) ?_)
        refine hK _ _ ?_
        clear hK K
        refine wpAny_ready (rs := [7]) (by kernel_rfl) (by simp) ?_
        refine AllReady.cons (o := ⟨some 32, _, _, _, _, _⟩) rfl (fun K hK => ?_) AllReady.nil
        refine step_append_lies _ rfl (.tmp 29) (.tmp 31) 64 rfl 0 100 i0 (.agg (wcel (0, zero)).toArray) 65 72 Tryz.underlying64 hi0 hz0 Hz1.out Hz2.out Hz3.out (by decide) (.slice B m d) m (wcels L) rfl HO.out ⟨w4.heap.size, 0, none⟩ 1 1 (wcel (i, s)) rfl Hl1.out HN.out (wcel_one _) (by decide) Hm1.out Hm2.out (Nat.zero_le _) _ rfl ?_
        intro g2 cap w5 hown5 hgr5 hor5 hlt5
        have HP := hide (wrote HD.out HBW.out hgr5 hown5 hor5 HM.out Hi.out Hs.out)
        have hc5 : w5.cell? ⟨p, 1, none⟩ = some (.slice B m d) := by simp [World.cell?, hp5 HD.out HBW.out hgr5]
        have hf5 : w5.frozen? ⟨p, 1, none⟩ = false := by simp [World.frozen?, hp5 HD.out HBW.out hgr5]
        clear hown5 hgr5 hor5 hlt5
        refine hK _ _ ?_
        clear hK K
        refine wpAny_take (i := 8) (oi := ⟨some 33, _, _, _, _, _⟩) (v := ?_) rfl (by kernel_rfl) (by kernel_rfl) (by kernel_rfl) (fun _ _ _ h => h) (Or.inl ⟨by rfl, ?_⟩) ?_
        rotate_left 1
        · (intro w; go_simp; try with_reducible rfl)
        simp only [Act.put, List.setIfInBounds_toArray, List.set_cons_zero, List.set_cons_succ]
        refine wpAny_take (i := 9) (oi := ⟨some 34, _, _, _, _, _⟩) (v := ?_) rfl (by kernel_rfl) (by kernel_rfl) (by kernel_rfl) (fun _ _ _ h => h) (Or.inl ⟨by rfl, ?_⟩) ?_
        rotate_left 1
        · (intro w; go_simp; try with_reducible rfl)
        simp only [Act.put, List.setIfInBounds_toArray, List.set_cons_zero, List.set_cons_succ]
        refine wpAny_ready (rs := [10]) (by kernel_rfl) (by simp) ?_
        refine AllReady.cons (o := ⟨none, _, _, _, _, _⟩) rfl (fun K hK => ?_) AllReady.nil
        go_simp
        refine hK _ _ ?_
        clear hK K
        refine wpAny_done (by kernel_rfl) ?_ _
        go_wp2
        go_ret
        exact ⟨rfl, HP.out⟩
      · refine step_wp rfl (wp_buildSlice 64 100 1 #[(0, .tmp 30)] rfl (wcel (i, s)).toArray i0 (.agg (wcel (0, zero)).toArray) Tryz.underlying64 hi0 hz0 Hn1.out Hn2.out (by simp only [List.map_toArray, List.map_cons, List.map_nil]; exact Hfl.out) ?_)
        refine hK _ _ ?_
        clear hK K
        refine wpAny_ready (rs := [4]) (by kernel_rfl) (by simp) ?_
        refine AllReady.cons (o := ⟨some 29, _, _, _, _, _⟩) rfl (fun K hK => ?_) AllReady.nil
        go_simp
        refine hK _ _ ?_
        clear hK K
        refine wpAny_ready (rs := [7]) (by kernel_rfl) (by simp) ?_
        refine AllReady.cons (o := ⟨some 32, _, _, _, _, _⟩) rfl (fun K hK => ?_) AllReady.nil
        refine step_append_lies _ rfl (.tmp 29) (.tmp 31) 64 rfl 0 100 i0 (.agg (wcel (0, zero)).toArray) 65 72 Tryz.underlying64 hi0 hz0 Hz1.out Hz2.out Hz3.out (by decide) (.slice B m d) m (wcels L) rfl HO.out ⟨w4.heap.size, 0, none⟩ 1 1 (wcel (i, s)) rfl Hl1.out HN.out (wcel_one _) (by decide) Hm1.out Hm2.out (Nat.zero_le _) _ rfl ?_
        intro g2 cap w5 hown5 hgr5 hor5 hlt5
        have HP := hide (wrote HD.out HBW.out hgr5 hown5 hor5 HM.out Hi.out Hs.out)
        have hc5 : w5.cell? ⟨p, 1, none⟩ = some (.slice B m d) := by simp [World.cell?, hp5 HD.out HBW.out hgr5]
        have hf5 : w5.frozen? ⟨p, 1, none⟩ = false := by simp [World.frozen?, hp5 HD.out HBW.out hgr5]
        clear hown5 hgr5 hor5 hlt5
        refine hK _ _ ?_
        clear hK K
        refine wpAny_take (i := 8) (oi := ⟨some 33, _, _, _, _, _⟩) (v := ?_) rfl (by kernel_rfl) (by kernel_rfl) (by kernel_rfl) (fun _ _ _ h => h) (Or.inl ⟨by rfl, ?_⟩) ?_
        rotate_left 1
        · (intro w; go_simp; try with_reducible rfl)
        simp only [Act.put, List.setIfInBounds_toArray, List.set_cons_zero, List.set_cons_succ]
        refine wpAny_take (i := 9) (oi := ⟨some 34, _, _, _, _, _⟩) (v := ?_) rfl (by kernel_rfl) (by kernel_rfl) (by kernel_rfl) (fun _ _ _ h => h) (Or.inl ⟨by rfl, ?_⟩) ?_
        rotate_left 1
        · (intro w; go_simp; try with_reducible rfl)
        simp only [Act.put, List.setIfInBounds_toArray, List.set_cons_zero, List.set_cons_succ]
        refine wpAny_ready (rs := [10]) (by kernel_rfl) (by simp) ?_
        refine AllReady.cons (o := ⟨none, _, _, _, _, _⟩) rfl (fun K hK => ?_) AllReady.nil
        go_simp
        refine hK _ _ ?_
        clear hK K
        refine wpAny_done (by kernel_rfl) ?_ _
        go_wp2
        go_ret
        exact ⟨rfl, HP.out⟩

end Go.Proofs.YtnmpckhlpkmojaaGreatDoor.Dk
