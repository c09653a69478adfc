/-
  The contract of a table's Newest: the newest marker of the volumes, as a new slice of them, sorted and each once, is asked; nothing that was there is changed. The library's slices.Clone, slices.Sort and slices.Compact are taken by the guide's contracts.
-/
import Derived.Test.YtenenhhijkjjfaaDoorMkShelf
import Derived.Test.YtenenhhijkjjfaaDoorMkPutOk
import Derived.Test.YtenenhhijkjjfaaDoorMkLacks
namespace Go.Proofs.YtenenhhijkjjfaaDoor.Mk
open Go.RowKit Go.Maps Go.Sort Go.Shelf
open Pk Dk Wn Lk

/-! ### Clone, Sort, Compact -/
/-- Numbers from a block's first cell on, in a block that was made since w. -/
structure RowAt (w : World) (g cap : Nat) (l : List Int) (w' : World) : Prop where
  new : w.heap.size ≤ g
  cells : ∃ cur, w'.heap[g]? = some (.cells cur 3 (0, 0)) ∧ cur.size = cap ∧ cur.toList.take l.length = nums l
  cap : l.length ≤ cap
  bel : Below w.heap.size w w'
section
variable {w w1 w' : World} {g cap : Nat} {l : List Int}
theorem RowAt.holds (h : RowAt w g cap l w') : Holds encZ w' g 0 l.toArray := by
  obtain ⟨cur, h1, _, h3⟩ := h.cells
  exact holds_of_block_i h1 h3
theorem RowAt.lt (h : RowAt w g cap l w') : g < w'.heap.size := by
  obtain ⟨cur, h1, _, _⟩ := h.cells
  exact (Array.getElem?_eq_some_iff.1 h1).1
theorem RowAt.src (h : RowAt w g cap l w') : Src w' (some ⟨g, 0, none⟩) (nums l) := fun _ => by
  obtain ⟨cur, h1, _, h3⟩ := h.cells
  refine ⟨g, 0, rfl, h.lt, fun j u hj => ?_⟩
  rw [← h3] at hj
  have hlt := (List.getElem?_eq_some_iff.1 hj).1
  rw [List.getElem?_take, if_pos (by simp at hlt; omega)] at hj
  rw [cell_of_row w' g (0 + j) _ _ _ h1, Nat.zero_add, ← Array.getElem?_toList]
  exact hj
/-- Other numbers are laid from the first cell on. -/
theorem RowAt.laid (h : RowAt w g cap l w1) {n : Nat} {os : Array Obj} {d ts : List Int} (hd : ts = d.take ts.length) (hdl : d.length = l.length) : RowAt w g cap ts (grow (putRow encZ (Sort.ahead w1 n) g 0 d.toArray) os) := by
  obtain ⟨cur, h1, h2, h3⟩ := h.cells
  have hc := h.cap
  have htl : ts.length ≤ d.length := by rw [hd, List.length_take]; omega
  refine ⟨h.new, ⟨_, heap_sorted_i _ h1, by simp [putCells, h2], ?_⟩, by omega, ?_⟩
  · have ht := take_putCells_i cur d (by omega)
    have e : (putCells encZ 0 d.toArray cur).toList.take ts.length = ((putCells encZ 0 d.toArray cur).toList.take d.length).take ts.length := by
      rw [List.take_take, Nat.min_eq_left htl]
    rw [e, ht, ← List.map_take, ← hd]
    rfl
  · have hg := grownBy_sorted_i (w := w1) (g := g) (n := n) (os := os) d.toArray
    exact ⟨hg.os.trans h.bel.os, hg.tape.trans h.bel.tape, hg.output.trans h.bel.output, Nat.le_trans h.bel.size hg.size, fun k hk => (hg.block k (Nat.lt_of_lt_of_le hk h.bel.size) (fun e => by have := h.new; simp at e; omega)).trans (h.bel.block k hk)⟩
theorem Clone_any {VA : Option Addr} {N c : Nat} {vs : List Int} (hn : vs.length = N) (h0 : vs ≠ []) (hlim : N ≤ 100000) (hs : Src w VA (nums vs)) :
    Calls Tryd.prog 28 #[.slice VA N c] w fun e w' => ∃ g cap, e = .returned (.slice (some ⟨g, 0, none⟩) N cap) ∧ RowAt w g cap vs w' := by
  obtain ⟨b, o, rfl, _, hc⟩ := hs (by intro e; apply h0; simpa [nums] using e)
  refine (AnyG.slices_Clone_int Tryd.cloneA b o N c vs w (by omega) (by omega) fun j hj => ?_).mono ?_
  · refine hc j _ ?_
    simp [nums, List.getElem?_eq_getElem hj, List.getD]
  · rintro e w' ⟨v', rfl, hrow, hne, hb⟩
    rcases hrow.2 with ⟨rfl, _⟩ | ⟨g, cap, cur, rfl, hbase, hgb, h1, h2, h3, h4⟩
    · exact absurd rfl hne
    · refine ⟨g, cap, rfl, hbase, ⟨cur, hgb, by simpa using h3, ?_⟩, by omega, hb⟩
      rw [Nat.mul_one] at h4
      rw [hn, h4, ← hn, List.take_length]
      rfl
theorem Sort_any (h : RowAt w g cap l w1) (hlim : l.length ≤ 100000) :
    Calls Tryd.prog 29 #[.slice (some ⟨g, 0, none⟩) l.length cap] w1 fun e w' => e = .returned (.tuple #[]) ∧ RowAt w g cap (l.mergeSort leI) w' := by
  refine (AnyM.slices_Sort_int Tryd.sortA g 0 cap l w1 h.holds h.lt (by omega)).mono ?_
  rintro e w' ⟨rfl, n, os, rfl⟩
  exact ⟨rfl, h.laid (d := l.mergeSort leI) (by rw [List.take_length]) (by simp)⟩
theorem compact_len (l : List Int) : (Lib.compact l).length ≤ l.length := by
  unfold Lib.compact Lib.compactUpTo
  rw [List.length_map]
  exact Nat.le_trans (List.length_filter_le _ _) (by simp)
theorem Compact_any (h : RowAt w g cap l w1) (hlim : l.length ≤ 100000) :
    Calls Tryd.prog 30 #[.slice (some ⟨g, 0, none⟩) l.length cap] w1 fun e w' => e = .returned (.slice (some ⟨g, 0, none⟩) (Lib.compact l).length cap) ∧ RowAt w g cap (Lib.compact l) w' := by
  refine (AnyG.slices_Compact_int Tryd.compactA g 0 cap l w1 h.holds (by omega) h.cap).mono ?_
  rintro e w' ⟨rfl, n, rfl⟩
  have hl := compact_len l
  have := h.laid (n := n) (os := #[]) (d := Lib.compact l ++ List.replicate (l.length - (Lib.compact l).length) 0) (ts := Lib.compact l) (by simp) (by simp; omega)
  rw [grow_empty] at this
  exact ⟨rfl, this⟩
theorem mem_upTo (d : Array Int) (x : Int) : ∀ m, x ∈ Lib.compactUpTo d m ↔ ∃ j, j < m ∧ d[j]! = x
  | 0 => by simp [Lib.compactUpTo]
  | m + 1 => by
    rw [Lib.compactUpTo_succ, List.mem_append, mem_upTo d x m]
    by_cases hk : Lib.keeps d m = true
    · rw [if_pos hk]
      constructor
      · rintro (⟨j, hj, e⟩ | h)
        · exact ⟨j, by omega, e⟩
        · exact ⟨m, by omega, (List.mem_singleton.1 h).symm⟩
      · rintro ⟨j, hj, e⟩
        by_cases h : j = m
        · right; subst h; simp [e]
        · exact Or.inl ⟨j, by omega, e⟩
    · rw [if_neg hk]
      have hk' : ¬ (m = 0 ∨ d[m]! ≠ d[m - 1]!) := by simpa [Lib.keeps] using hk
      constructor
      · rintro (⟨j, hj, e⟩ | h)
        · exact ⟨j, by omega, e⟩
        · cases h
      · rintro ⟨j, hj, e⟩
        by_cases h : j = m
        · subst h
          refine Or.inl ⟨j - 1, by omega, ?_⟩
          rw [← e]
          exact Decidable.byContradiction fun hn => hk' (Or.inr (Ne.symm hn))
        · exact Or.inl ⟨j, by omega, e⟩
theorem mem_compact {l : List Int} {x : Int} : x ∈ Lib.compact l ↔ x ∈ l := by
  unfold Lib.compact
  rw [mem_upTo, List.mem_iff_getElem]
  constructor
  · rintro ⟨j, hj, e⟩
    exact ⟨j, hj, by simpa [hj] using e⟩
  · rintro ⟨j, hj, e⟩
    exact ⟨j, hj, by simpa [hj] using e⟩
/-- What is asked. -/
def asked (vs : List Int) : List Int := Lib.compact (vs.mergeSort leI)
theorem mem_asked {vs : List Int} {x : Int} : x ∈ asked vs ↔ x ∈ vs := by
  unfold asked
  rw [mem_compact]
  exact (List.mergeSort_perm vs leI).mem_iff
theorem asked_len (vs : List Int) : (asked vs).length ≤ vs.length := by
  have := compact_len (vs.mergeSort leI)
  simpa [asked] using this
end

/-! ### Newest -/
/-- The newest of those that have come. -/
structure Part (A : Int → List Int) (vs : List Int) (l : List Int) (left : Lit → Bool) (r : Int) : Prop where
  low : 0 ≤ r
  hit : r = 0 ∨ Com A vs r
  top : ∀ x, x ∈ l → left (.int .i64 x) = false → Com A vs x → x ≤ r
theorem Part.start {A : Int → List Int} {vs l : List Int} {D : DataW Unit} (h : ∀ x, Maps.has D (.int .i64 x) = decide (x ∈ l)) : Part A vs l (Maps.has D) 0 :=
  ⟨Int.le_refl _, Or.inl rfl, fun x hx hl _ => by rw [h x] at hl; simp [hx] at hl⟩
theorem Part.keeps {A : Int → List Int} {vs l : List Int} {left : Lit → Bool} {r x : Int} (h : Part A vs l left r) (hx : Com A vs x → x ≤ r) : Part A vs l (fun z => left z && !z.sameKey (.int .i64 x)) r :=
  ⟨h.low, h.hit, fun y hy hl hc => by
    by_cases e : y = x
    · subst e; exact hx hc
    · exact h.top y hy (by simpa [Lit.sameKey, e] using hl) hc⟩
theorem Part.turns {A : Int → List Int} {vs l : List Int} {left : Lit → Bool} {r x : Int} (h : Part A vs l left r) (hx : Com A vs x) (hr : r < x) : Part A vs l (fun z => left z && !z.sameKey (.int .i64 x)) x :=
  ⟨by have := h.low; omega, Or.inr hx, fun y hy hl hc => by
    by_cases e : y = x
    · rw [e]; exact Int.le_refl _
    · have := h.top y hy (by simpa [Lit.sameKey, e] using hl) hc
      omega⟩
theorem Part.all {A : Int → List Int} {vs us : List Int} {a : Int} {left : Lit → Bool} {r : Int} (h : Part A us (A a) left r) (hl : ∀ k, left k = false) (ha : a ∈ us) (hm : ∀ v, v ∈ us ↔ v ∈ vs) : New A vs r := by
  have hne' : us ≠ [] := List.ne_nil_of_mem ha
  exact New.congr (vs := us) ⟨h.low, h.hit.imp id fun h => ⟨hne', h⟩, fun _ m hc => h.top m (hc a ha) (hl _) hc⟩ hm
/-- What Newest returns. -/
def NewR (A : Int → List Int) (vs : List Int) (e : Ending) : Prop := ∃ r, e = .returned (.int .i64 r) ∧ New A vs r
set_option maxRecDepth 100000 in
theorem Newest_empty (T : Value) (A : Int → List Int) (VA : Option Addr) (c : Nat) (w : World) :
    Calls Tryd.prog 15 #[T, .slice VA 0 c] w fun e w' => NewR A [] e ∧ w' = w := by
  go_enter Tryd.func15, Tryd.ntmps15
  go_wp2
  go_ret
  exact ⟨⟨0, rfl, Int.le_refl _, Or.inl rfl, fun h => absurd rfl h⟩, rfl⟩
section
variable {p n : Nat} {mb : Option Nat} {F : Int → Option Nat} {A : Int → List Int} {w w' : World} {G : Nat → Prop}
set_option maxRecDepth 100000 in
set_option maxHeartbeats 4000000 in
/-- The first volume that is asked has no markers. -/
theorem Newest_none (T : Value) (VA : Option Addr) (N c : Nat) (vs : List Int) (hn : vs.length = N) (h0 : vs ≠ []) (hlim : N ≤ 100000) (hs : Src w VA (nums vs)) {a : Int} (ha : (asked vs)[0]? = some a)
    (hof : ∀ wr, Below w.heap.size w wr → Calls Tryd.prog 25 #[T, .int .i64 a] wr fun e w' => e = .returned (.map none) ∧ w' = wr) (hA : A a = []) :
    Calls Tryd.prog 15 #[T, .slice VA N c] w fun e w' => NewR A vs e ∧ Below w.heap.size w w' := by
  have HN : Hid (New A vs 0) := ⟨Int.le_refl _, Or.inl rfl, fun _ m hc => by
    have := hc a (mem_asked.1 (List.mem_of_getElem? ha))
    rw [hA] at this
    cases this⟩
  have HC := hide (Clone_any (c := c) hn h0 hlim hs)
  have Hof := hide hof
  have Ha := hide ha
  have Hn := hide hn
  have hn0 : ¬ N = 0 := by
    intro e
    apply h0
    exact List.eq_nil_of_length_eq_zero (by omega)
  have hn0i : ¬ (N : Int) = 0 := by omega
  have hn0b : ((N : Int) == 0) = false := by simpa using hn0i
  have Hlim := hide hlim
  clear hn h0 hlim hs ha hof hA
  go_enter Tryd.func15, Tryd.ntmps15
  go_wp2_with fail
  refine HC.out.mono ?_
  rintro e w1 ⟨g, cap, rfl, hR⟩
  have HS := hide (Sort_any hR (by rw [Hn.out]; exact Hlim.out))
  rw [Hn.out] at HS
  clear hR HC
  go_wp2_with fail
  refine HS.out.mono ?_
  rintro e w2 ⟨rfl, hR⟩
  have hl2 : (vs.mergeSort leI).length = N := by rw [List.length_mergeSort, Hn.out]
  have HP := Compact_any hR (by rw [hl2]; exact Hlim.out)
  rw [hl2] at HP
  have HP2 := hide HP
  clear hR HS hl2 HP
  go_wp2_with fail
  refine HP2.out.mono ?_
  rintro e w3 ⟨rfl, hR⟩
  have hl3 : ∃ q, (Lib.compact (vs.mergeSort leI)).length = q + 1 := by
    have := (List.getElem?_eq_some_iff.1 Ha.out).1
    unfold asked at this
    exact ⟨(Lib.compact (vs.mergeSort leI)).length - 1, by omega⟩
  obtain ⟨q, hq⟩ := hl3
  rw [hq]
  obtain ⟨g', o', e1, _, c0⟩ := Src.num hR.src (l := Lib.compact (vs.mergeSort leI)) (j := 0) (x := a) Ha.out
  obtain ⟨rfl, rfl⟩ : g' = g ∧ o' = 0 := by simpa using e1.symm
  simp only [Nat.add_zero] at c0
  have hqi : (0 : Int) < ((q + 1 : Nat) : Int) := by omega
  have HO := hide (Hof.out w3 hR.bel)
  have HB := hide hR.bel
  clear hR HP2 e1 hq
  go_wp2_with fail
  refine HO.out.mono ?_
  rintro e w4 ⟨rfl, rfl⟩
  have hrg := run_range_nilMap (P := Tryd.prog) w4 55 3 56 Tryd.underlying55
  have hnx : ∀ ty, (Instr.next (.pointer (some ⟨w4.heap.size, 0, none⟩)) false ty).run Tryd.prog (w4.alloc (.mapIter none 0 #[] 0)) = _ := fun ty => run_next_nilMap w4 ty 0 0 #[]
  have HB2 := hide (HB.out.alloc HB.out.size (.mapIter none 0 #[] 0))
  clear HO HB c0 hqi
  go_wp2
  refine wp_loop_rounds 1 ?_
  rw [rounds_succ]
  go_wp2
  go_ret
  exact ⟨⟨0, rfl, HN.out⟩, HB2.out⟩
set_option maxRecDepth 100000 in
set_option maxHeartbeats 4000000 in
/-- The first volume that is asked has a set. -/
theorem Newest_some (h : TblF p mb F A n w G) (VA : Option Addr) (N c : Nat) (vs : List Int) (hn : vs.length = N) (h0 : vs ≠ []) (hlim : N ≤ 100000) (hs : Src w VA (nums vs)) (hf : Fits vs) {a : Int} (ha : (asked vs)[0]? = some a) {b : Nat} (hF : F a = some b) :
    Calls Tryd.prog 15 #[.pointer (some ⟨p, 0, none⟩), .slice VA N c] w fun e w' => NewR A vs e ∧ Below w.heap.size w w' := by
  have H := hide h
  have HF := hide hF
  have Hfa := hide (show Fits (asked vs) from fun v hv => hf v (mem_asked.1 hv))
  have HC := hide (Clone_any (c := c) hn h0 hlim hs)
  have Ha := hide ha
  have Hn := hide hn
  have hn0 : ¬ N = 0 := by
    intro e
    apply h0
    exact List.eq_nil_of_length_eq_zero (by omega)
  have hn0i : ¬ (N : Int) = 0 := by omega
  have hn0b : ((N : Int) == 0) = false := by simpa using hn0i
  have Hlim := hide hlim
  clear hn h0 hlim hs ha h hF hf
  go_enter Tryd.func15, Tryd.ntmps15
  go_wp2_with fail
  refine HC.out.mono ?_
  rintro e w1 ⟨g, cap, rfl, hR⟩
  have HS := hide (Sort_any hR (by rw [Hn.out]; exact Hlim.out))
  rw [Hn.out] at HS
  clear hR HC
  go_wp2_with fail
  refine HS.out.mono ?_
  rintro e w2 ⟨rfl, hR⟩
  have hl2 : (vs.mergeSort leI).length = N := by rw [List.length_mergeSort, Hn.out]
  have HP := Compact_any hR (by rw [hl2]; exact Hlim.out)
  rw [hl2] at HP
  have HP2 := hide HP
  clear hR HS hl2 HP
  go_wp2_with fail
  refine HP2.out.mono ?_
  rintro e w3 ⟨rfl, hR⟩
  have hl3 : ∃ q, (asked vs).length = q + 1 := by
    have := (List.getElem?_eq_some_iff.1 Ha.out).1
    exact ⟨(asked vs).length - 1, by omega⟩
  obtain ⟨q, hq⟩ := hl3
  have hq2 : (Lib.compact (vs.mergeSort leI)).length = q + 1 := hq
  rw [hq2]
  obtain ⟨g', o', e1, _, c0⟩ := Src.num hR.src (l := Lib.compact (vs.mergeSort leI)) (j := 0) (x := a) Ha.out
  obtain ⟨rfl, rfl⟩ : g' = g ∧ o' = 0 := by simpa using e1.symm
  simp only [Nat.add_zero] at c0
  have hqi : (0 : Int) < ((q + 1 : Nat) : Int) := by omega
  have hq3 := asked_len vs
  have Hql := hide (show q + 1 ≤ 100000 by have := Hlim.out; have := Hn.out; omega)
  have Hq := hide hq
  have H3 := hide (H.out.below hR.bel)
  have hof := of_any H3.out (Hfa.out a (List.mem_of_getElem? Ha.out))
  rw [HF.out] at hof
  have HO := hide hof
  have HB := hide hR.bel
  have HSr := hide (show Src w3 (some ⟨g', 0, none⟩) (nums (asked vs)) from hR.src)
  clear hR HP2 e1 hq hq2 hq3 hof
  go_wp2_with fail
  refine HO.out.mono ?_
  rintro e w4 ⟨rfl, rfl⟩
  clear HO c0 hqi
  obtain ⟨_, _, _, D, hD, hh⟩ := H3.out.inner a b HF.out
  have HD := hide hD
  have Hh := hide hh
  clear hD hh
  go_wp2_with (at_range; refine wpList_range_own _ rfl _ 55 rfl 3 56 int_key Tryd.underlying55 _ b n _ rfl HD.out ?_)
  intro w0 hrg0 hg0 hs0
  have HR0 := hide hrg0
  have HG0 := hide (show Below w4.heap.size w4 w0 from ⟨hg0.os, hg0.tape, hg0.output, hg0.size, fun k hk => hg0.block k hk (by simp)⟩)
  clear hrg0 hg0 hs0
  go_wp2_with fail
  go_loopw [6, 7] (fun nw _ wr => ∃ (left : Lit → Bool) (cnt : Nat) (r : Int), nw = .int .i64 r ∧ Hid (wr.ranges Tryd.prog 3 unitElem b w4.heap.size n D left cnt) ∧ Hid (Part A (asked vs) (A a) left r) ∧ Hid (Below w4.heap.size w4 wr))
    (fun _ _ wr => wr.rangeLeft b w4.heap.size)
  case atStart => exact ⟨_, _, 0, rfl, HR0.out, Part.start Hh.out, HG0.out⟩
  case round =>
    obtain ⟨left, cnt, r, rfl, hrg, hpt, hbl⟩ := hrel
    go_wp2_with (at_next; refine wpList_next_ranges _ rfl _ rfl 3 int_key unitElem encZ id (fun key kl hk => by obtain ⟨x, hx, _⟩ := Maps.keyOf_i64 Tryd.underlying3 hk; exact ⟨x, hx⟩) (fun v _ _ => ⟨v, rfl⟩) b w4.heap.size n _ _ _ rfl hrg.out ?_ ?_)
    · intro _ hl0
      have HN := hide (hpt.out.all hl0 (List.mem_of_getElem? Ha.out) (fun v => mem_asked (vs := vs)))
      have HE := hide (HB.out.trans (hbl.out.mono HB.out.size))
      clear hrg hpt hbl hl0
      go_wp2
      go_ret
      exact ⟨⟨r, rfl, HN.out⟩, HE.out⟩
    · intro x c kl yd yp w2 cnt2 hkey hlk hv hat hrg2 hlt hg2 hs2 hen
      obtain ⟨x', ex, rfl, hwx⟩ := Maps.keyOf_i64 Tryd.underlying3 hkey
      obtain rfl : x = x' := encZ_inj ex
      have HB2 := hide (show Below w4.heap.size w4 w2 from ⟨hg2.os.trans hbl.out.os, hg2.tape.trans hbl.out.tape, hg2.output.trans hbl.out.output, Nat.le_trans hbl.out.size hg2.size, fun k hk => (hg2.block k (Nat.lt_of_lt_of_le hk hbl.out.size) (fun e => by simp at e; omega)).trans (hbl.out.block k hk)⟩)
      have HR2 := hide hrg2
      have Hlt := hide hlt
      have HX := hide (show I64 x by
        have : Maps.has D (.int .i64 x) = true := has_true_of_atKey hat
        rw [Hh.out x] at this
        exact I64.mark (H.out.good.low a x (of_decide_eq_true this)))
      clear hs2 hg2 hkey hv hat hwx hrg2 ex hlt hlk
      by_cases hx : r < x
      · have HC2 := hide (common_any (H3.out.below HB2.out) HX.out (some ⟨g', 0, none⟩) (q + 1) cap (asked vs) Hq.out Hql.out (HSr.out.below HB2.out) Hfa.out)
        have Hx := hide hx
        go_wp2_with fail
        refine HC2.out.mono ?_
        rintro e w5 ⟨⟨d, rfl, hsg⟩, hb5⟩
        have HR5 := hide (HR2.out.kept (show w2.grownBy w5 none from ⟨hb5.os, hb5.tape, hb5.output, hb5.size, fun k hk _ => hb5.block k hk⟩) (by simp) (by simp))
        have HB5 := hide (HB2.out.trans (hb5.mono HB2.out.size))
        have Hsg := hide hsg
        clear hb5 hsg HC2 hbl HR2 HB2
        cases d with
        | true =>
          have HP := hide (hpt.out.turns (Sgn.yes Hsg.out) Hx.out)
          clear hx
          go_wp2
          go_roundw
          case rel => exact ⟨_, cnt2, x, rfl, HR5.out, HP.out, HB5.out⟩
          case measure => rw [HR5.out.left_eq, hrg.out.left_eq]; exact Hlt.out
        | false =>
          have HP := hide (hpt.out.keeps (x := x) (fun hc => absurd hc (Sgn.no Hsg.out)))
          clear hx
          go_wp2
          go_roundw
          case rel => exact ⟨_, cnt2, r, rfl, HR5.out, HP.out, HB5.out⟩
          case measure => rw [HR5.out.left_eq, hrg.out.left_eq]; exact Hlt.out
      · have HP := hide (hpt.out.keeps (x := x) (fun _ => by omega))
        go_wp2
        go_roundw
        case rel => exact ⟨_, cnt2, r, rfl, HR2.out, HP.out, HB2.out⟩
        case measure => rw [HR2.out.left_eq, hrg.out.left_eq]; exact Hlt.out
/-- The newest marker of any volumes. -/
theorem Newest_any (h : Tbl p A n w G) (VA : Option Addr) (N c : Nat) (vs : List Int) (hn : vs.length = N) (hlim : N ≤ 100000) (hs : Src w VA (nums vs)) (hf : Fits vs) :
    Calls Tryd.prog 15 #[.pointer (some ⟨p, 0, none⟩), .slice VA N c] w fun e w' => NewR A vs e ∧ Below w.heap.size w w' := by
  by_cases h0 : vs = []
  · subst h0
    obtain rfl : N = 0 := by simpa using hn.symm
    exact (Newest_empty _ A VA c w).mono fun e w' ⟨h1, h2⟩ => ⟨h1, by rw [h2]; exact Below.refl _ _⟩
  · obtain ⟨a, ha⟩ : ∃ a, (asked vs)[0]? = some a := by
      obtain ⟨x, hx⟩ := List.exists_mem_of_ne_nil _ h0
      have := List.length_pos_of_mem (mem_asked.2 hx)
      exact ⟨_, List.getElem?_eq_getElem this⟩
    obtain ⟨mb, F, h⟩ := h
    cases e : F a with
    | some b => exact Newest_some h VA N c vs hn h0 hlim hs hf ha e
    | none =>
      refine Newest_none _ VA N c vs hn h0 hlim hs ha (fun wr hb => ?_) (h.lack a e)
      have := of_any (h.below hb) (hf a (mem_asked.1 (List.mem_of_getElem? ha)))
      rwa [e] at this
theorem Newest_nil (VA : Option Addr) (N c : Nat) (vs : List Int) (hn : vs.length = N) (hlim : N ≤ 100000) (hs : Src w VA (nums vs)) :
    Calls Tryd.prog 15 #[.pointer none, .slice VA N c] w fun e w' => e = .returned (.int .i64 0) ∧ Below w.heap.size w w' := by
  have zero : ∀ r, New (fun _ => []) vs r → r = 0 := fun r h => by
    rcases h.hit with h1 | ⟨hne, hc⟩
    · exact h1
    · obtain ⟨x, hx⟩ := List.exists_mem_of_ne_nil _ hne
      have := hc x hx
      cases this
  by_cases h0 : vs = []
  · subst h0
    obtain rfl : N = 0 := by simpa using hn.symm
    exact (Newest_empty _ (fun _ => []) VA c w).mono fun e w' ⟨⟨r, h1, h3⟩, h2⟩ => ⟨by rw [h1, zero r h3], by rw [h2]; exact Below.refl _ _⟩
  · obtain ⟨a, ha⟩ : ∃ a, (asked vs)[0]? = some a := by
      obtain ⟨x, hx⟩ := List.exists_mem_of_ne_nil _ h0
      have := List.length_pos_of_mem (mem_asked.2 hx)
      exact ⟨_, List.getElem?_eq_getElem this⟩
    exact (Newest_none (A := fun _ => []) _ VA N c vs hn h0 hlim hs ha (fun wr _ => of_nil a wr) rfl).mono fun e w' ⟨⟨r, h1, h3⟩, h2⟩ => ⟨by rw [h1, zero r h3], h2⟩
end

end Go.Proofs.YtenenhhijkjjfaaDoor.Mk
