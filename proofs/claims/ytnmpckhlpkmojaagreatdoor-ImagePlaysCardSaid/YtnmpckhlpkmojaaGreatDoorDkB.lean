/-
  The document's own disk, the rest: what its Read, Flush and Crash return and leave. Nothing but its own memory is changed.
-/
import Derived.Test.YtnmpckhlpkmojaaGreatDoorDkNew
import Derived.StillTailTactics

/-
  Several disks side by side: whose block is whose; what a call on one disk leaves of the others. Plain theorems, no premise beyond those in each.
-/
namespace Go.Proofs.YtnmpckhlpkmojaaGreatDoor.Dk
open Go.RowKit
open Pk Sm Fa

theorem Dsk.congr {w : World} {G G' : Nat → Prop} {p : Nat} {S : List Sec} {L : List Wr} (h : Dsk w G p S L) (hG : ∀ k, G k ↔ G' k) : Dsk w G' p S L := by
  have : G = G' := funext fun k => propext (hG k)
  exact this ▸ h

/-- Disk number i, whose blocks are those that C gives to i. -/
def At (C : Nat → Option Nat) (w : World) (i p : Nat) (S : List Sec) (L : List Wr) : Prop := Dsk w (fun k => C k = some i) p S L
/-- All blocks that are given away lie from B on. -/
def From (C : Nat → Option Nat) (B : Nat) : Prop := ∀ k i, C k = some i → B ≤ k
/-- What else was there is kept: the disks but i, and all blocks that are not i's. -/
def Others (C C' : Nat → Option Nat) (i : Nat) (w w' : World) : Prop := ∀ j q T M, j ≠ i → At C w j q T M → At C' w' j q T M

theorem At.below {C : Nat → Option Nat} {w w' : World} {i p : Nat} {S : List Sec} {L : List Wr} (h : At C w i p S L) (hb : Below w.heap.size w w') : At C w' i p S L := Dsk.below h hb

open Classical in
theorem At.step {C : Nat → Option Nat} {w w' : World} {i p B : Nat} {S : List Sec} {L : List Wr} (h : Post w (fun k => C k = some i) p S L w') (hF : From C B) (hB : B ≤ w.heap.size) :
    ∃ C', At C' w' i p S L ∧ Others C C' i w w' ∧ From C' B ∧ Below B w w' ∧ Kept (fun k => C k = some i) w w' := by
  obtain ⟨G', hd, hg, hk⟩ := h
  refine ⟨fun k => if G' k then some i else if C k = some i then none else C k, hd.congr fun k => ?_, ?_, ?_, hk.below (fun k hk => hF k i hk) hB, hk⟩
  · by_cases h1 : G' k
    · simp [h1]
    · by_cases h2 : C k = some i
      · simp [h1, h2]
      · simp [h1, h2]
  · intro j q T M hj hq
    refine (Dsk.kept hq hk fun k h1 h2 => hj (Option.some.inj (h1.symm.trans h2))).congr fun k => ?_
    have hne : (some j : Option Nat) ≠ some i := fun e => hj (Option.some.inj e)
    by_cases h1 : G' k
    · have h3 : ¬ C k = some j := fun h3 => by
        rcases hg k h1 with h4 | h4
        · exact hne (h3.symm.trans h4)
        · have := Dsk.lt hq k h3
          omega
      simp [h1, h3, Ne.symm hj]
    · by_cases h2 : C k = some i
      · simp [h1, h2, Ne.symm hj]
      · simp [h1, h2]
  · intro k j hkj
    by_cases h1 : G' k
    · exact (hg.from (fun k hk => hF k i hk) hB) k h1
    · by_cases h2 : C k = some i
      · simp [h1, h2] at hkj
      · simp only [h1, h2, if_false] at hkj
        exact hF k j hkj

open Classical in
theorem At.fresh {C : Nat → Option Nat} {w w' : World} {i n B : Nat} {e : Ending} (h : Made w n e w') (hi : ∀ k, C k ≠ some i) (hF : From C B) (hB : B ≤ w.heap.size) :
    ∃ p C', e = .returned (.pointer (some ⟨p, 0, none⟩)) ∧ At C' w' i p (List.replicate n zero) [] ∧ Others C C' i w w' ∧ From C' B ∧ Below w.heap.size w w' ∧ (∀ k j, C' k = some j → j = i ∨ C k = some j) := by
  obtain ⟨p, G, he, hd, hG, hb⟩ := h
  refine ⟨p, fun k => if G k then some i else C k, he, hd.congr fun k => ?_, ?_, ?_, hb, ?_⟩
  · by_cases h1 : G k
    · simp [h1]
    · simp [h1, hi k]
  · intro j q T M hj hq
    refine (Dsk.below hq hb).congr fun k => ?_
    by_cases h1 : G k
    · have h3 : ¬ C k = some j := fun h3 => by have := Dsk.lt hq k h3; have := hG k h1; omega
      simp [h1, h3, Ne.symm hj]
    · simp [h1]
  · intro k j hkj
    by_cases h1 : G k
    · have := hG k h1
      omega
    · simp only [h1, if_false] at hkj
      exact hF k j hkj
  · intro k j hkj
    by_cases h1 : G k
    · simp only [h1, if_true] at hkj
      exact Or.inl (Option.some.inj hkj).symm
    · simp only [h1, if_false] at hkj
      exact Or.inr hkj

/-- No disk yet. -/
def none0 : Nat → Option Nat := fun _ => none
theorem none0_ne (i k : Nat) : none0 k ≠ some i := fun h => by cases h
theorem none0_from (B : Nat) : From none0 B := fun _ _ h => by cases h

end Go.Proofs.YtnmpckhlpkmojaaGreatDoor.Dk

/-
  The document's own disk (the statements' reference): its memory, and what its New, Write, Read, Flush and Crash return and leave. Nothing but its own memory is changed.
-/
namespace Go.Proofs.YtnmpckhlpkmojaaGreatDoor.Dk
open Go.RowKit
open Pk Sm Fa

theorem wp_convert_told {P : Program} {op : Oper} {a : Act} {w : World} {K : Act → World → Prop} {Q : Exit → Act → World → Prop} (t u : TypeId) (x : Operand) (ho : op.op = .convert t u x)
    (v : Value) (hx : a.eval x = v) {r : Value} (hrun : (convert t u v).run P w = .ok r w) (h : K (a.put op.dst r) w) : op.wp P a w K Q := by
  unfold Oper.wp execOp
  simp only [ho, hx, Sem.run_bind, hrun, Sem.run_pure, Result.andThen_ok]
  exact h
theorem step_wp2 {P : Program} {ops : Array Oper} {o : Oper} {a : Act} {w : World} {K : Act → World → Prop} {Q : Exit → Act → World → Prop} {E : Prop} (hw : Region.wanted o (yielded ops a.tmps) = true) (h : o.wp P a w K Q) :
    if Region.wanted o (yielded ops a.tmps) = true then Oper.wp P o a w K Q else E := by
  rw [if_pos hw]
  exact h

theorem poke_size (w : World) (a : Addr) (v : Value) : (w.setCell a v).heap.size = w.heap.size := by simp [World.setCell]

def rS (S : List Sec) : List Value := S.map fun s => .string (str s)
def rcel (x : Wr) : List Value := [.int .i64 (x.1 : Int), .string (str x.2)]
def rL (L : List Wr) : List Value := L.flatMap rcel
theorem rL_snoc (L : List Wr) (x : Wr) : rL (L ++ [x]) = rL L ++ rcel x := by simp [rL]
theorem rcel_length (L : List Wr) : ∀ x ∈ L, (rcel x).length = 2 := fun _ _ => rfl
theorem rcel_one (x : Wr) : ∀ u ∈ rcel x, u.oneCell' = true := by
  intro u hu
  simp [rcel] at hu
  rcases hu with rfl | rfl <;> rfl

def RDskAt (w : World) (G : Nat → Prop) (p : Nat) (S : List Sec) (L : List Wr) (F X : Value) : Prop :=
  w.heap[p]? = some (.cells #[F, X] 69 (0, 0)) ∧ w.ownsRow 0 9 1 F S.length (rS S) ∧ w.ownsRow 0 103 2 X L.length (rL L) ∧
    G p ∧ (∀ k, F.ownBlock = some k → G k ∧ k ≠ p) ∧ (∀ k, X.ownBlock = some k → G k ∧ k ≠ p ∧ F.ownBlock ≠ some k) ∧ (∀ k, G k → k < w.heap.size) ∧ Fits S.length L
def RDsk (w : World) (G : Nat → Prop) (p : Nat) (S : List Sec) (L : List Wr) : Prop := ∃ F X, RDskAt w G p S L F X
def RPost (w : World) (G : Nat → Prop) (p : Nat) (S : List Sec) (L : List Wr) (w' : World) : Prop := ∃ G', RDsk w' G' p S L ∧ Grew w G G' ∧ Kept G w w'
section
variable {w w' : World} {G G2 : Nat → Prop} {p : Nat} {S : List Sec} {L : List Wr} {F X : Value}
theorem RDskAt.kept (h : RDskAt w G p S L F X) (hk : Kept G2 w w') (hd : ∀ k, G k → ¬ G2 k) : RDskAt w' G p S L F X := by
  obtain ⟨h1, h2, h3, h4, h5, h6, h7, h8⟩ := h
  exact ⟨(hk.block p (h7 p h4) (hd p h4)).trans h1, own_same h2 (fun k hb => hk.block k (h7 k (h5 k hb).1) (hd k (h5 k hb).1)), own_same h3 (fun k hb => hk.block k (h7 k (h6 k hb).1) (hd k (h6 k hb).1)), h4, h5, h6, fun k hg => Nat.lt_of_lt_of_le (h7 k hg) hk.size, h8⟩
theorem RDsk.kept (h : RDsk w G p S L) (hk : Kept G2 w w') (hd : ∀ k, G k → ¬ G2 k) : RDsk w' G p S L := by
  obtain ⟨F, X, h⟩ := h
  exact ⟨F, X, h.kept hk hd⟩
theorem RDsk.below (h : RDsk w G p S L) (hb : Below w.heap.size w w') : RDsk w' G p S L := h.kept (Kept.of_below (G := fun _ => False) hb) (fun _ _ h => h)
theorem RDsk.lt (h : RDsk w G p S L) : ∀ k, G k → k < w.heap.size := by
  obtain ⟨F, X, h1, h2, h3, h4, h5, h6, h7, h8⟩ := h
  exact h7
end

theorem fill_one (v : Value) (hv : v.cells = #[v]) (base : Array Value) (hb : base.size = 1) : Instr.fill (fun i => some (i * 1, 1)) base [(0, v)] = some #[v] := by
  obtain ⟨l⟩ := base
  match l, hb with
  | [b], _ => simp [Instr.fill, hv]
theorem string_info : (Tryz.prog.info? 9).map (fun i => (i.zero, i.size, i.bytes)) = some (some (.string ⟨#[]⟩), 1, 16) := by kernel_rfl
theorem rwr_info : (Tryz.prog.info? 103).map (fun i => (i.zero, i.size, i.bytes)) = some (some (.agg #[.int .i64 0, .string ⟨#[]⟩]), 2, 24) := by kernel_rfl
theorem made_at {w w2 : World} (h : w2 = w.alloc (.cells (madeCells #[.int .u8 0] 64) 5)) : w2.heap[w.heap.size]? = some (.cells (cels zero).toArray 5 (0, 0)) := by
  rw [h]
  refine (heap_alloc_new w _).trans ?_
  rw [← made_zero, Array.toArray_toList]
theorem wp_make_told {P : Program} {o : Oper} {a : Act} {w : World} {K : Act → World → Prop} {Q : Exit → Act → World → Prop} (t : TypeId) (x y : Operand) (ho : o.op = .makeSlice t x y)
    (e : TypeId) (i : TypeInfo) (z : Value) (ht : P.underlying t = some (.slice e)) (hi : P.info? e = some i) (hz : i.zero = some z) (kl kc : IntKind) (l c : Nat) (hx : a.eval x = .int kl (l : Int)) (hy : a.eval y = .int kc (c : Int))
    (hlc : l ≤ c) (hbytes : (i.bytes : Int) * (c : Int) ≤ 281474976710656) (h63 : c ≤ 9223372036854775807) (n : Nat) (hn : i.size = n)
    (h : ∀ w', Hid (w' = w.alloc (.cells (madeCells z.cells (c * n)) e)) → K (a.put o.dst (.slice (some ⟨w.heap.size, 0, none⟩) l c)) w') : o.wp P a w K Q := by
  subst hn
  have hrun := run_make (P := P) w t e i z ht hi hz kl kc l c (by omega) (by omega) hbytes (by omega)
  unfold Oper.wp execOp
  simp only [ho, hx, hy, Sem.run_bind, hrun, Sem.run_pure, Result.andThen_ok, Int.toNat_natCast]
  exact h _ rfl

/-- What New's loop keeps: k strings so far. -/
def RNw (w : World) (k : Nat) (v : Value) (wr : World) : Prop := wr.heap[w.heap.size]? = some (.cells #[v, .slice none 0 0] 69 (0, 0)) ∧ wr.ownsRow (w.heap.size + 1) 9 1 v k (rS (List.replicate k zero)) ∧ Below w.heap.size w wr
theorem ref_grow {w wr W w5 : World} {k g cap : Nat} {v : Value} (hb : Below w.heap.size w wr) (hW : Below wr.heap.size wr W) (hgr : W.grownBy w5 v.ownBlock) (hown : w5.ownsRow (w.heap.size + 1) 9 1 (.slice (some ⟨g, 0, none⟩) (k + 1) cap) (k + 1) (rS (List.replicate k zero) ++ [.string (str zero)]))
    (hp : w5.heap[w.heap.size]? = some (.cells #[v, .slice none 0 0] 69 (0, 0))) (ho : wr.ownsRow (w.heap.size + 1) 9 1 v k (rS (List.replicate k zero))) :
    RNw w (k + 1) (.slice (some ⟨g, 0, none⟩) (k + 1) cap) (w5.setCell ⟨w.heap.size, 0, none⟩ (.slice (some ⟨g, 0, none⟩) (k + 1) cap)) := by
  have hg := (World.ownsRow.lt hown g rfl).1
  refine ⟨?_, ?_, ?_⟩
  · rw [heap_setCell_same w5 _ 0 _ _ _ hp]; rfl
  · rw [List.replicate_succ', rS, List.map_append]
    exact own_same hown fun i hi => by
      have : g = i := by simpa [Value.ownBlock] using hi
      rw [heap_setCell_other _ _ _ _ (by show i ≠ w.heap.size; omega)]
  · refine ((hb.trans (hW.mono hb.size)).grown hgr (Nat.le_trans hb.size hW.size) (fun i hi => by have := (World.ownsRow.lt ho i hi).1; omega)).setCell (Nat.le_refl _) _
theorem ref_made {w wr : World} {n : Nat} {v : Value} (h : RNw w n v wr) : ∃ p G, (Value.pointer (some ⟨w.heap.size, 0, none⟩)) = .pointer (some ⟨p, 0, none⟩) ∧ RDsk wr G p (List.replicate n zero) [] ∧ (∀ k, G k → w.heap.size ≤ k) ∧ Below w.heap.size w wr := by
  obtain ⟨h1, h2, h3⟩ := h
  refine ⟨w.heap.size, fun k => w.heap.size ≤ k ∧ k < wr.heap.size, rfl, ⟨v, _, h1, ?_, World.ownsRow_nil _ _ _ _, ⟨Nat.le_refl _, heap_lt h1⟩, fun k hk => ?_, fun k hk => by simp [Value.ownBlock] at hk, fun k hk => hk.2, fun x hx => by cases hx⟩, fun k hk => hk.1, h3⟩
  · rw [List.length_replicate]
    refine ⟨h2.1, ?_⟩
    rcases h2.2 with h | ⟨g, cap, cur, e, _, hr⟩
    · exact Or.inl h
    · exact Or.inr ⟨g, cap, cur, e, Nat.zero_le _, hr⟩
  · have := World.ownsRow.lt h2 k hk
    exact ⟨⟨by omega, this.2⟩, by omega⟩

set_option maxRecDepth 100000 in
set_option maxHeartbeats 4000000 in
theorem RNew_any (n : Nat) (w : World) (hn : n ≤ 1000) :
    Calls Tryz.prog 8 #[.int .i64 n] w fun e w' => ∃ p G, e = .returned (.pointer (some ⟨p, 0, none⟩)) ∧ RDsk w' G p (List.replicate n zero) [] ∧ (∀ k, G k → w.heap.size ≤ k) ∧ Below w.heap.size w w' := by
  obtain ⟨i0, hi0, hz0, hz1, hz2⟩ := info_parts u8_info
  obtain ⟨j0, hj0, hy0, hy1, hy2⟩ := info_parts string_info
  have Hz1 := hide hz1
  have Hbb := hide (show (i0.bytes : Int) * ((64 : Nat) : Int) ≤ 281474976710656 by rw [hz2]; decide)
  have Hy1 := hide hy1
  have Hy2 := hide hy2
  have Hn := hide hn
  have Hn1 := hide (show ¬ 1 * j0.size > 2 ^ 24 by rw [hy1]; decide)
  have Hn2 := hide (show ¬ 1 * j0.size = 0 by rw [hy1]; decide)
  have Hfl := hide (show Instr.fill (fun i => some (i * j0.size, j0.size)) ((Array.range (1 * j0.size)).map ((Value.string ⟨#[]⟩).cells[· % (Value.string ⟨#[]⟩).cells.size]!)) [(0, .string (str zero))] = some #[.string (str zero)] by rw [hy1]; exact fill_one _ rfl _ (by simp))
  have H0 : Hid (RNw w 0 (.slice none 0 0) (w.alloc (.cells #[.slice none 0 0, .slice none 0 0] 69))) := ⟨heap_alloc_new w _, World.ownsRow_nil _ _ _ _, (Below.refl _ _).alloc (Nat.le_refl _) _⟩
  clear hz1 hz2 hy1 hy2 hn
  go_enter Tryz.func8, Tryz.ntmps8
  go_wp2
  go_loopw [4] (fun j wr => ∃ (k : Nat) (v : Value), k ≤ n ∧ j = .int .i64 k ∧ Hid (RNw w k v wr)) (fun j _ => n - (intOf j).toNat)
  case atStart => exact ⟨0, _, Nat.zero_le _, rfl, H0.out⟩
  case round =>
    clear H0
    obtain ⟨k, v, hk, rfl, hnw⟩ := hrel
    have hn20 := Hn.out
    rcases Nat.lt_or_ge k n with hlt | hge
    · have Hlt := hide hlt
      have hkn : (k : Int) < (n : Int) := by omega
      have hki : (k : Int) < 1024 := by omega
      have Hp0 := hide hnw.out.1
      have Hown := hide hnw.out.2.1
      have Hb := hide hnw.out.2.2
      have Hplt := hide (show (⟨w.heap.size, 0, none⟩ : Addr).block < wr.heap.size from heap_lt hnw.out.1)
      have hp0 : wr.cell? ⟨w.heap.size, 0, none⟩ = some v := by simp [World.cell?, hnw.out.1]
      have Hm1 := hide (show k + 1 ≤ maxLen by unfold maxLen; omega)
      have Hm2 := hide (show (k + 1) * 16 ≤ 140737488355328 by omega)
      clear hlt hnw hn20 hk
      go_wp2
      refine wp_region_any (by kernel_rfl) ?_
      change wpAny _ _ _ _ _ _ _ (World.drew _)
      refine wpAny_take (i := 0) (oi := ⟨some 16, _, _, _, _, _⟩) (v := ?_) rfl (by kernel_rfl) (by kernel_rfl) (by kernel_rfl) (fun _ _ _ h => h) (Or.inl ⟨by rfl, ?_⟩) ?_
      rotate_left 1
      · (intro w; go_simp; try with_reducible rfl)
      simp only [Act.put, List.setIfInBounds_toArray, List.set_cons_zero, List.set_cons_succ]
      refine wpAny_take (i := 1) (oi := ⟨some 17, _, _, _, _, _⟩) (v := ?_) rfl (by kernel_rfl) (by kernel_rfl) (by kernel_rfl) (fun _ _ _ h => h) (Or.inl ⟨by rfl, ?_⟩) ?_
      rotate_left 1
      · (intro w; go_simp; try with_reducible rfl)
      simp only [Act.put, List.setIfInBounds_toArray, List.set_cons_zero, List.set_cons_succ]
      refine wpAny_take (i := 2) (oi := ⟨some 18, _, _, _, _, _⟩) (v := ?_) rfl (by kernel_rfl) (by kernel_rfl) (by kernel_rfl) (fun _ _ _ h => h) (Or.inl ⟨by rfl, ?_⟩) ?_
      rotate_left 1
      · (intro w; go_simp; try with_reducible rfl)
      simp only [Act.put, List.setIfInBounds_toArray, List.set_cons_zero, List.set_cons_succ]
      refine wpAny_take (i := 3) (oi := ⟨some 19, _, _, _, _, _⟩) (v := ?_) rfl (by kernel_rfl) (by kernel_rfl) (by kernel_rfl) (fun _ _ _ h => h) (Or.inl ⟨by rfl, ?_⟩) ?_
      rotate_left 1
      · (intro w; go_simp; try with_reducible rfl)
      simp only [Act.put, List.setIfInBounds_toArray, List.set_cons_zero, List.set_cons_succ]
      refine wpAny_ready (rs := [4, 5]) (by kernel_rfl) (by simp) ?_
      refine AllReady.cons (o := ⟨some 20, _, _, _, _, _⟩) rfl (fun K hK => ?_) (AllReady.cons (o := ⟨some 21, _, _, _, _, _⟩) rfl (fun K hK => ?_) AllReady.nil)
      · go_simp
        refine hK _ _ ?_
        clear hK K
        refine wpAny_ready (rs := [5]) (by kernel_rfl) (by simp) ?_
        refine AllReady.cons (o := ⟨some 21, _, _, _, _, _⟩) rfl (fun K hK => ?_) AllReady.nil
        refine step_wp rfl (wp_make_told 60 _ _ rfl 5 i0 _ Tryz.underlying60 hi0 hz0 .i64 .i64 64 64 rfl rfl (by omega) Hbb.out (by omega) 1 Hz1.out ?_)
        intro w2 Hw2
        have HB2 : Hid (Below wr.heap.size wr w2) := by rw [Hw2.out]; exact (Below.refl _ _).drew.alloc (Nat.le_refl _) _
        have Hrun := hide (run_str w2 _ _ _ 64 64 zero_length (byt_row (made_at Hw2.out)))
        have hp2 : w2.cell? ⟨w.heap.size, 0, none⟩ = some v := (HB2.out.cell (p := ⟨w.heap.size, 0, none⟩) Hplt.out).trans hp0
        clear Hw2
        refine hK _ _ ?_
        clear hK K
        refine wpAny_ready (rs := [6]) (by kernel_rfl) (by simp) ?_
        refine AllReady.cons (o := ⟨some 22, _, _, _, _, _⟩) rfl (fun K hK => ?_) AllReady.nil
        refine step_wp2 (by rfl) (wp_convert_told 60 9 (.tmp 21) rfl _ rfl Hrun.out ?_)
        refine hK _ _ ?_
        clear hK K
        refine wpAny_ready (rs := [7]) (by kernel_rfl) (by simp) ?_
        refine AllReady.cons (o := ⟨some 23, _, _, _, _, _⟩) rfl (fun K hK => ?_) AllReady.nil
        refine step_wp rfl (wp_buildSlice 37 9 1 #[(0, .tmp 22)] rfl #[.string (str zero)] j0 (.string ⟨#[]⟩) Tryz.underlying37 hj0 hy0 Hn1.out Hn2.out (by simp only [List.map_toArray, List.map_cons, List.map_nil]; exact Hfl.out) ?_)
        have HB3 := hide (HB2.out.alloc HB2.out.size (.cells #[.string (str zero)] 9))
        have hp3 : (w2.alloc (.cells #[.string (str zero)] 9)).cell? ⟨w.heap.size, 0, none⟩ = some v := (HB3.out.cell (p := ⟨w.heap.size, 0, none⟩) Hplt.out).trans hp0
        refine hK _ _ ?_
        clear hK K
        refine wpAny_ready (rs := [8]) (by kernel_rfl) (by simp) ?_
        refine AllReady.cons (o := ⟨some 24, _, _, _, _, _⟩) rfl (fun K hK => ?_) AllReady.nil
        refine step_append_lies _ rfl (.tmp 20) (.tmp 23) 37 rfl (w.heap.size + 1) 9 j0 (.string ⟨#[]⟩) 1 16 Tryz.underlying37 hj0 hy0 Hy1.out Hy2.out rfl (by decide) v k (rS (List.replicate k zero)) rfl (own_below Hown.out HB3.out) ⟨w2.heap.size, 0, none⟩ 1 1 [.string (str zero)] rfl rfl (cell_new1 _ _ _) (fun u hu => by simp at hu; subst hu; rfl) (by decide) Hm1.out Hm2.out (by have := HB2.out.size; have := Hplt.out; simp; omega) _ rfl ?_
        intro g2 cap w5 hown5 hgr5 hor5 hlt5
        have hp5 : w5.heap[w.heap.size]? = some (.cells #[v, .slice none 0 0] 69 (0, 0)) := (hgr5.block _ (by have := HB3.out.size; have := Hplt.out; omega) (fun e => by have := (World.ownsRow.lt Hown.out _ e.symm).1; omega)).trans ((HB3.out.block _ Hplt.out).trans Hp0.out)
        have HN := hide (ref_grow Hb.out HB3.out hgr5 hown5 hp5 Hown.out)
        have hc5 : w5.cell? ⟨w.heap.size, 0, none⟩ = some v := by simp [World.cell?, hp5]
        have hf5 : w5.frozen? ⟨w.heap.size, 0, none⟩ = false := by simp [World.frozen?, hp5]
        clear hown5 hgr5 hor5 hlt5 hp5
        refine hK _ _ ?_
        clear hK K
        refine wpAny_take (i := 9) (oi := ⟨some 25, _, _, _, _, _⟩) (v := ?_) rfl (by kernel_rfl) (by kernel_rfl) (by kernel_rfl) (fun _ _ _ h => h) (Or.inl ⟨by rfl, ?_⟩) ?_
        rotate_left 1
        · (intro w; go_simp; try with_reducible rfl)
        simp only [Act.put, List.setIfInBounds_toArray, List.set_cons_zero, List.set_cons_succ]
        refine wpAny_take (i := 10) (oi := ⟨some 26, _, _, _, _, _⟩) (v := ?_) rfl (by kernel_rfl) (by kernel_rfl) (by kernel_rfl) (fun _ _ _ h => h) (Or.inl ⟨by rfl, ?_⟩) ?_
        rotate_left 1
        · (intro w; go_simp; try with_reducible rfl)
        simp only [Act.put, List.setIfInBounds_toArray, List.set_cons_zero, List.set_cons_succ]
        refine wpAny_ready (rs := [11]) (by kernel_rfl) (by simp) ?_
        refine AllReady.cons (o := ⟨none, _, _, _, _, _⟩) rfl (fun K hK => ?_) AllReady.nil
        go_simp
        refine hK _ _ ?_
        clear hK K
        refine wpAny_done (by kernel_rfl) ?_ _
        go_wp2
        go_roundw
        case rel => exact ⟨k + 1, _, Hlt.out, by go_num, HN.out⟩
        case measure => have := Hlt.out; simp [intOf]; omega
      · refine step_wp rfl (wp_make_told 60 _ _ rfl 5 i0 _ Tryz.underlying60 hi0 hz0 .i64 .i64 64 64 rfl rfl (by omega) Hbb.out (by omega) 1 Hz1.out ?_)
        intro w2 Hw2
        have HB2 : Hid (Below wr.heap.size wr w2) := by rw [Hw2.out]; exact (Below.refl _ _).drew.alloc (Nat.le_refl _) _
        have Hrun := hide (run_str w2 _ _ _ 64 64 zero_length (byt_row (made_at Hw2.out)))
        have hp2 : w2.cell? ⟨w.heap.size, 0, none⟩ = some v := (HB2.out.cell (p := ⟨w.heap.size, 0, none⟩) Hplt.out).trans hp0
        clear Hw2
        refine hK _ _ ?_
        clear hK K
        refine wpAny_ready (rs := [4, 6]) (by kernel_rfl) (by simp) ?_
        refine AllReady.cons (o := ⟨some 20, _, _, _, _, _⟩) rfl (fun K hK => ?_) (AllReady.cons (o := ⟨some 22, _, _, _, _, _⟩) rfl (fun K hK => ?_) AllReady.nil)
        · go_simp
          refine hK _ _ ?_
          clear hK K
          refine wpAny_ready (rs := [6]) (by kernel_rfl) (by simp) ?_
          refine AllReady.cons (o := ⟨some 22, _, _, _, _, _⟩) rfl (fun K hK => ?_) AllReady.nil
          refine step_wp2 (by rfl) (wp_convert_told 60 9 (.tmp 21) rfl _ rfl Hrun.out ?_)
          refine hK _ _ ?_
          clear hK K
          refine wpAny_ready (rs := [7]) (by kernel_rfl) (by simp) ?_
          refine AllReady.cons (o := ⟨some 23, _, _, _, _, _⟩) rfl (fun K hK => ?_) AllReady.nil
          refine step_wp rfl (wp_buildSlice 37 9 1 #[(0, .tmp 22)] rfl #[.string (str zero)] j0 (.string ⟨#[]⟩) Tryz.underlying37 hj0 hy0 Hn1.out Hn2.out (by simp only [List.map_toArray, List.map_cons, List.map_nil]; exact Hfl.out) ?_)
          have HB3 := hide (HB2.out.alloc HB2.out.size (.cells #[.string (str zero)] 9))
          have hp3 : (w2.alloc (.cells #[.string (str zero)] 9)).cell? ⟨w.heap.size, 0, none⟩ = some v := (HB3.out.cell (p := ⟨w.heap.size, 0, none⟩) Hplt.out).trans hp0
          refine hK _ _ ?_
          clear hK K
          refine wpAny_ready (rs := [8]) (by kernel_rfl) (by simp) ?_
          refine AllReady.cons (o := ⟨some 24, _, _, _, _, _⟩) rfl (fun K hK => ?_) AllReady.nil
          refine step_append_lies _ rfl (.tmp 20) (.tmp 23) 37 rfl (w.heap.size + 1) 9 j0 (.string ⟨#[]⟩) 1 16 Tryz.underlying37 hj0 hy0 Hy1.out Hy2.out rfl (by decide) v k (rS (List.replicate k zero)) rfl (own_below Hown.out HB3.out) ⟨w2.heap.size, 0, none⟩ 1 1 [.string (str zero)] rfl rfl (cell_new1 _ _ _) (fun u hu => by simp at hu; subst hu; rfl) (by decide) Hm1.out Hm2.out (by have := HB2.out.size; have := Hplt.out; simp; omega) _ rfl ?_
          intro g2 cap w5 hown5 hgr5 hor5 hlt5
          have hp5 : w5.heap[w.heap.size]? = some (.cells #[v, .slice none 0 0] 69 (0, 0)) := (hgr5.block _ (by have := HB3.out.size; have := Hplt.out; omega) (fun e => by have := (World.ownsRow.lt Hown.out _ e.symm).1; omega)).trans ((HB3.out.block _ Hplt.out).trans Hp0.out)
          have HN := hide (ref_grow Hb.out HB3.out hgr5 hown5 hp5 Hown.out)
          have hc5 : w5.cell? ⟨w.heap.size, 0, none⟩ = some v := by simp [World.cell?, hp5]
          have hf5 : w5.frozen? ⟨w.heap.size, 0, none⟩ = false := by simp [World.frozen?, hp5]
          clear hown5 hgr5 hor5 hlt5 hp5
          refine hK _ _ ?_
          clear hK K
          refine wpAny_take (i := 9) (oi := ⟨some 25, _, _, _, _, _⟩) (v := ?_) rfl (by kernel_rfl) (by kernel_rfl) (by kernel_rfl) (fun _ _ _ h => h) (Or.inl ⟨by rfl, ?_⟩) ?_
          rotate_left 1
          · (intro w; go_simp; try with_reducible rfl)
          simp only [Act.put, List.setIfInBounds_toArray, List.set_cons_zero, List.set_cons_succ]
          refine wpAny_take (i := 10) (oi := ⟨some 26, _, _, _, _, _⟩) (v := ?_) rfl (by kernel_rfl) (by kernel_rfl) (by kernel_rfl) (fun _ _ _ h => h) (Or.inl ⟨by rfl, ?_⟩) ?_
          rotate_left 1
          · (intro w; go_simp; try with_reducible rfl)
          simp only [Act.put, List.setIfInBounds_toArray, List.set_cons_zero, List.set_cons_succ]
          refine wpAny_ready (rs := [11]) (by kernel_rfl) (by simp) ?_
          refine AllReady.cons (o := ⟨none, _, _, _, _, _⟩) rfl (fun K hK => ?_) AllReady.nil
          go_simp
          refine hK _ _ ?_
          clear hK K
          refine wpAny_done (by kernel_rfl) ?_ _
          go_wp2
          go_roundw
          case rel => exact ⟨k + 1, _, Hlt.out, by go_num, HN.out⟩
          case measure => have := Hlt.out; simp [intOf]; omega
        · refine step_wp2 (by rfl) (wp_convert_told 60 9 (.tmp 21) rfl _ rfl Hrun.out ?_)
          refine hK _ _ ?_
          clear hK K
          refine wpAny_ready (rs := [4, 7]) (by kernel_rfl) (by simp) ?_
          refine AllReady.cons (o := ⟨some 20, _, _, _, _, _⟩) rfl (fun K hK => ?_) (AllReady.cons (o := ⟨some 23, _, _, _, _, _⟩) rfl (fun K hK => ?_) AllReady.nil)
          · go_simp
            refine hK _ _ ?_
            clear hK K
            refine wpAny_ready (rs := [7]) (by kernel_rfl) (by simp) ?_
            refine AllReady.cons (o := ⟨some 23, _, _, _, _, _⟩) rfl (fun K hK => ?_) AllReady.nil
            refine step_wp rfl (wp_buildSlice 37 9 1 #[(0, .tmp 22)] rfl #[.string (str zero)] j0 (.string ⟨#[]⟩) Tryz.underlying37 hj0 hy0 Hn1.out Hn2.out (by simp only [List.map_toArray, List.map_cons, List.map_nil]; exact Hfl.out) ?_)
            have HB3 := hide (HB2.out.alloc HB2.out.size (.cells #[.string (str zero)] 9))
            have hp3 : (w2.alloc (.cells #[.string (str zero)] 9)).cell? ⟨w.heap.size, 0, none⟩ = some v := (HB3.out.cell (p := ⟨w.heap.size, 0, none⟩) Hplt.out).trans hp0
            refine hK _ _ ?_
            clear hK K
            refine wpAny_ready (rs := [8]) (by kernel_rfl) (by simp) ?_
            refine AllReady.cons (o := ⟨some 24, _, _, _, _, _⟩) rfl (fun K hK => ?_) AllReady.nil
            refine step_append_lies _ rfl (.tmp 20) (.tmp 23) 37 rfl (w.heap.size + 1) 9 j0 (.string ⟨#[]⟩) 1 16 Tryz.underlying37 hj0 hy0 Hy1.out Hy2.out rfl (by decide) v k (rS (List.replicate k zero)) rfl (own_below Hown.out HB3.out) ⟨w2.heap.size, 0, none⟩ 1 1 [.string (str zero)] rfl rfl (cell_new1 _ _ _) (fun u hu => by simp at hu; subst hu; rfl) (by decide) Hm1.out Hm2.out (by have := HB2.out.size; have := Hplt.out; simp; omega) _ rfl ?_
            intro g2 cap w5 hown5 hgr5 hor5 hlt5
            have hp5 : w5.heap[w.heap.size]? = some (.cells #[v, .slice none 0 0] 69 (0, 0)) := (hgr5.block _ (by have := HB3.out.size; have := Hplt.out; omega) (fun e => by have := (World.ownsRow.lt Hown.out _ e.symm).1; omega)).trans ((HB3.out.block _ Hplt.out).trans Hp0.out)
            have HN := hide (ref_grow Hb.out HB3.out hgr5 hown5 hp5 Hown.out)
            have hc5 : w5.cell? ⟨w.heap.size, 0, none⟩ = some v := by simp [World.cell?, hp5]
            have hf5 : w5.frozen? ⟨w.heap.size, 0, none⟩ = false := by simp [World.frozen?, hp5]
            clear hown5 hgr5 hor5 hlt5 hp5
            refine hK _ _ ?_
            clear hK K
            refine wpAny_take (i := 9) (oi := ⟨some 25, _, _, _, _, _⟩) (v := ?_) rfl (by kernel_rfl) (by kernel_rfl) (by kernel_rfl) (fun _ _ _ h => h) (Or.inl ⟨by rfl, ?_⟩) ?_
            rotate_left 1
            · (intro w; go_simp; try with_reducible rfl)
            simp only [Act.put, List.setIfInBounds_toArray, List.set_cons_zero, List.set_cons_succ]
            refine wpAny_take (i := 10) (oi := ⟨some 26, _, _, _, _, _⟩) (v := ?_) rfl (by kernel_rfl) (by kernel_rfl) (by kernel_rfl) (fun _ _ _ h => h) (Or.inl ⟨by rfl, ?_⟩) ?_
            rotate_left 1
            · (intro w; go_simp; try with_reducible rfl)
            simp only [Act.put, List.setIfInBounds_toArray, List.set_cons_zero, List.set_cons_succ]
            refine wpAny_ready (rs := [11]) (by kernel_rfl) (by simp) ?_
            refine AllReady.cons (o := ⟨none, _, _, _, _, _⟩) rfl (fun K hK => ?_) AllReady.nil
            go_simp
            refine hK _ _ ?_
            clear hK K
            refine wpAny_done (by kernel_rfl) ?_ _
            go_wp2
            go_roundw
            case rel => exact ⟨k + 1, _, Hlt.out, by go_num, HN.out⟩
            case measure => have := Hlt.out; simp [intOf]; omega
          · refine step_wp rfl (wp_buildSlice 37 9 1 #[(0, .tmp 22)] rfl #[.string (str zero)] j0 (.string ⟨#[]⟩) Tryz.underlying37 hj0 hy0 Hn1.out Hn2.out (by simp only [List.map_toArray, List.map_cons, List.map_nil]; exact Hfl.out) ?_)
            have HB3 := hide (HB2.out.alloc HB2.out.size (.cells #[.string (str zero)] 9))
            have hp3 : (w2.alloc (.cells #[.string (str zero)] 9)).cell? ⟨w.heap.size, 0, none⟩ = some v := (HB3.out.cell (p := ⟨w.heap.size, 0, none⟩) Hplt.out).trans hp0
            refine hK _ _ ?_
            clear hK K
            refine wpAny_ready (rs := [4]) (by kernel_rfl) (by simp) ?_
            refine AllReady.cons (o := ⟨some 20, _, _, _, _, _⟩) rfl (fun K hK => ?_) AllReady.nil
            go_simp
            refine hK _ _ ?_
            clear hK K
            refine wpAny_ready (rs := [8]) (by kernel_rfl) (by simp) ?_
            refine AllReady.cons (o := ⟨some 24, _, _, _, _, _⟩) rfl (fun K hK => ?_) AllReady.nil
            refine step_append_lies _ rfl (.tmp 20) (.tmp 23) 37 rfl (w.heap.size + 1) 9 j0 (.string ⟨#[]⟩) 1 16 Tryz.underlying37 hj0 hy0 Hy1.out Hy2.out rfl (by decide) v k (rS (List.replicate k zero)) rfl (own_below Hown.out HB3.out) ⟨w2.heap.size, 0, none⟩ 1 1 [.string (str zero)] rfl rfl (cell_new1 _ _ _) (fun u hu => by simp at hu; subst hu; rfl) (by decide) Hm1.out Hm2.out (by have := HB2.out.size; have := Hplt.out; simp; omega) _ rfl ?_
            intro g2 cap w5 hown5 hgr5 hor5 hlt5
            have hp5 : w5.heap[w.heap.size]? = some (.cells #[v, .slice none 0 0] 69 (0, 0)) := (hgr5.block _ (by have := HB3.out.size; have := Hplt.out; omega) (fun e => by have := (World.ownsRow.lt Hown.out _ e.symm).1; omega)).trans ((HB3.out.block _ Hplt.out).trans Hp0.out)
            have HN := hide (ref_grow Hb.out HB3.out hgr5 hown5 hp5 Hown.out)
            have hc5 : w5.cell? ⟨w.heap.size, 0, none⟩ = some v := by simp [World.cell?, hp5]
            have hf5 : w5.frozen? ⟨w.heap.size, 0, none⟩ = false := by simp [World.frozen?, hp5]
            clear hown5 hgr5 hor5 hlt5 hp5
            refine hK _ _ ?_
            clear hK K
            refine wpAny_take (i := 9) (oi := ⟨some 25, _, _, _, _, _⟩) (v := ?_) rfl (by kernel_rfl) (by kernel_rfl) (by kernel_rfl) (fun _ _ _ h => h) (Or.inl ⟨by rfl, ?_⟩) ?_
            rotate_left 1
            · (intro w; go_simp; try with_reducible rfl)
            simp only [Act.put, List.setIfInBounds_toArray, List.set_cons_zero, List.set_cons_succ]
            refine wpAny_take (i := 10) (oi := ⟨some 26, _, _, _, _, _⟩) (v := ?_) rfl (by kernel_rfl) (by kernel_rfl) (by kernel_rfl) (fun _ _ _ h => h) (Or.inl ⟨by rfl, ?_⟩) ?_
            rotate_left 1
            · (intro w; go_simp; try with_reducible rfl)
            simp only [Act.put, List.setIfInBounds_toArray, List.set_cons_zero, List.set_cons_succ]
            refine wpAny_ready (rs := [11]) (by kernel_rfl) (by simp) ?_
            refine AllReady.cons (o := ⟨none, _, _, _, _, _⟩) rfl (fun K hK => ?_) AllReady.nil
            go_simp
            refine hK _ _ ?_
            clear hK K
            refine wpAny_done (by kernel_rfl) ?_ _
            go_wp2
            go_roundw
            case rel => exact ⟨k + 1, _, Hlt.out, by go_num, HN.out⟩
            case measure => have := Hlt.out; simp [intOf]; omega
    · obtain rfl : k = n := by omega
      have HM := hide (ref_made hnw.out)
      clear hnw hn20 hk hge
      go_wp2
      go_ret
      obtain ⟨p, G, e, h⟩ := HM.out
      exact ⟨p, G, by rw [← e]; rfl, h⟩

section
variable {w W w5 : World} {G : Nat → Prop} {p : Nat} {S : List Sec} {L : List Wr} {F X : Value}
theorem rp5 (h : RDskAt w G p S L F X) (hb : Below w.heap.size w W) (hgr : W.grownBy w5 X.ownBlock) : w5.heap[p]? = some (.cells #[F, X] 69 (0, 0)) := by
  obtain ⟨h1, h2, h3, h4, h5, h6, h7, h8⟩ := h
  rw [hgr.block p (Nat.lt_of_lt_of_le (h7 p h4) hb.size) (fun e => (h6 p e.symm).2.1 rfl), hb.block p (h7 p h4)]
  exact h1
theorem rwrote {g cap i m : Nat} {s : Sec} (h : RDskAt w G p S L F X) (hb : Below w.heap.size w W) (hgr : W.grownBy w5 X.ownBlock)
    (hown : w5.ownsRow 0 103 2 (.slice (some ⟨g, 0, none⟩) (m + 1) cap) (m + 1) (rL L ++ rcel (i, s))) (hor : X.ownBlock = some g ∨ g = W.heap.size) (hm : L.length = m) (hi : i < S.length) (hs : s.length = 64) :
    RPost w G p S (L ++ [(i, s)]) (w5.setCell ⟨p, 1, none⟩ (.slice (some ⟨g, 0, none⟩) (m + 1) cap)) := by
  have hp := rp5 h hb hgr
  obtain ⟨h1, h2, h3, h4, h5, h6, h7, h9⟩ := h
  have hsz : (w5.setCell ⟨p, 1, none⟩ (.slice (some ⟨g, 0, none⟩) (m + 1) cap)).heap.size = w5.heap.size := by simp [World.setCell]
  have hgs := hgr.size
  have hbs := hb.size
  have hgp : g ≠ p := by
    rcases hor with h | h
    · exact (h6 g h).2.1
    · have := h7 p h4; omega
  have hgl : g < w5.heap.size := (World.ownsRow.lt hown g rfl).2
  refine ⟨fun k => G k ∨ (w.heap.size ≤ k ∧ k < w5.heap.size), ⟨F, .slice (some ⟨g, 0, none⟩) (m + 1) cap, ?_, ?_, ?_, Or.inl h4, fun k hk => ⟨Or.inl (h5 k hk).1, (h5 k hk).2⟩, ?_, ?_, h9.snoc hi hs⟩, fun k hk => hk.imp id fun x => x.1, ?_⟩
  · rw [heap_setCell_same w5 p 1 _ _ _ hp]; rfl
  · refine own_same h2 fun k hk => ?_
    have hkG := h5 k hk
    have hkl := h7 k hkG.1
    rw [heap_setCell_other _ _ _ _ hkG.2, hgr.block k (by omega) (fun e => (h6 k e.symm).2.2 hk), hb.block k hkl]
  · rw [List.length_append, hm, rL_snoc]
    exact own_same hown fun k hk => by
      have : g = k := by simpa [Value.ownBlock] using hk
      rw [heap_setCell_other _ _ _ _ (by rw [← this]; exact hgp)]
  · intro k hk
    have hk' : g = k := by simpa [Value.ownBlock] using hk
    subst hk'
    refine ⟨?_, hgp, ?_⟩
    · rcases hor with h | h
      · exact Or.inl (h6 g h).1
      · exact Or.inr ⟨by omega, hgl⟩
    · intro hF
      rcases hor with h | h
      · exact (h6 g h).2.2 hF
      · have := h7 g (h5 g hF).1
        omega
  · intro k hk
    rw [hsz]
    rcases hk with hk | hk
    · have := h7 k hk; omega
    · exact hk.2
  · refine ⟨hgr.os.trans hb.os, hgr.tape.trans hb.tape, hgr.output.trans hb.output, by rw [hsz]; omega, fun k hk hn => ?_⟩
    rw [heap_setCell_other _ _ _ _ (fun e => hn (by have e' : k = p := e; rw [e']; exact h4)), hgr.block k (by omega) (fun e => hn (h6 k e.symm).1), hb.block k hk]
theorem RDskAt.put {g n c i : Nat} {b : Sec} (h : RDskAt w G p S L (.slice (some ⟨g, 0, none⟩) n c) X) :
    RDskAt (w.setCell ⟨g, i, none⟩ (.string (str b))) G p (S.set i b) L (.slice (some ⟨g, 0, none⟩) n c) X := by
  obtain ⟨h1, h2, h3, h4, h5, h6, h7, h9⟩ := h
  have hgp := (h5 g rfl).2
  refine ⟨by rw [heap_setCell_other _ _ _ _ (Ne.symm hgp)]; exact h1, ?_, own_same h3 (fun k hk => heap_setCell_other _ _ _ _ (fun e => (h6 k hk).2.2 (by have e' : k = g := e; rw [e']; rfl))), h4, h5, h6, fun k hk => by rw [poke_size]; exact h7 k hk, by rw [List.length_set]; exact h9⟩
  rcases h2.2 with ⟨e, _⟩ | ⟨g', cap, cur, e, _, hg', hn, hm, hs, htk⟩
  · cases e
  · obtain ⟨rfl, rfl, rfl⟩ : g = g' ∧ n = S.length ∧ c = cap := by
      simp only [Value.slice.injEq, Option.some.injEq, Addr.mk.injEq, and_true] at e
      exact e
    refine ⟨by simp [rS], Or.inr ⟨g, c, _, by rw [List.length_set], Nat.zero_le _, heap_setCell_same w g i _ _ _ hg', by rw [List.length_set]; exact hn, hm, by simpa using hs, ?_⟩⟩
    rw [List.length_set, Array.toList_setIfInBounds, List.take_set, htk]
    simp [rS, List.map_set]
theorem RDskAt.clear (h : RDskAt w G p S L F X) : RDskAt (w.setCell ⟨p, 1, none⟩ (.slice none 0 0)) G p S [] F (.slice none 0 0) := by
  obtain ⟨h1, h2, h3, h4, h5, h6, h7, h9⟩ := h
  refine ⟨by rw [heap_setCell_same w p 1 _ _ _ h1]; rfl, own_same h2 (fun k hk => heap_setCell_other _ _ _ _ (h5 k hk).2), World.ownsRow_nil _ _ _ _, h4, h5, fun k hk => by simp [Value.ownBlock] at hk, fun k hk => ?_, fun x hx => by cases hx⟩
  have := h7 k hk
  simpa [World.setCell] using this
theorem Kept.poke {w2 : World} {g i : Nat} (h : Kept G w w2) (hg : G g) (v : Value) : Kept G w (w2.setCell ⟨g, i, none⟩ v) :=
  ⟨h.os, h.tape, h.output, by have := h.size; simpa [World.setCell] using this, fun k hk hn => by rw [heap_setCell_other _ _ _ _ (fun e => hn (by have e' : k = g := e; rw [e']; exact hg))]; exact h.block k hk hn⟩
end

theorem RWrite_out (p n c : Nat) (A : Option Addr) (X : Value) (j : Int) (s : ByteArray) (w : World) (hp : w.heap[p]? = some (.cells #[.slice A n c, X] 69 (0, 0))) (hj : ¬ (0 ≤ j ∧ j < (n : Int))) :
    Calls Tryz.prog 26 #[.pointer (some ⟨p, 0, none⟩), .int .i64 j, .string s] w fun e w' => e = .returned (.int .i64 5) ∧ w = w' := by
  have hc : w.cell? ⟨p, 0, none⟩ = some (.slice A n c) := by simp [World.cell?, hp]
  clear hp
  rcases Int.lt_or_le j 0 with h | h
  · go_enter Tryz.func26, Tryz.ntmps26
    go_wp2
    go_ret
    exact ⟨rfl, rfl⟩
  · have h2 : (n : Int) ≤ j := by omega
    clear hj
    go_enter Tryz.func26, Tryz.ntmps26
    go_wp2
    go_ret
    exact ⟨rfl, rfl⟩
theorem RWrite_bad (p n c : Nat) (A : Option Addr) (X : Value) (j : Int) (s : ByteArray) (w : World) (hp : w.heap[p]? = some (.cells #[.slice A n c, X] 69 (0, 0))) (h0 : 0 ≤ j) (h1 : j < (n : Int)) (hs : ¬ ((s.size : Int) = 64)) :
    Calls Tryz.prog 26 #[.pointer (some ⟨p, 0, none⟩), .int .i64 j, .string s] w fun e w' => e = .returned (.int .i64 1) ∧ w = w' := by
  have hc : w.cell? ⟨p, 0, none⟩ = some (.slice A n c) := by simp [World.cell?, hp]
  clear hp
  go_enter Tryz.func26, Tryz.ntmps26
  go_wp2
  go_ret
  exact ⟨rfl, rfl⟩
theorem RRead_out (p n c : Nat) (A : Option Addr) (X : Value) (j : Int) (w : World) (hp : w.heap[p]? = some (.cells #[.slice A n c, X] 69 (0, 0))) (hj : ¬ (0 ≤ j ∧ j < (n : Int))) :
    Calls Tryz.prog 32 #[.pointer (some ⟨p, 0, none⟩), .int .i64 j] w fun e w' => e = .returned (.tuple #[.string ⟨#[]⟩, .int .i64 5]) ∧ w = w' := by
  have hc : w.cell? ⟨p, 0, none⟩ = some (.slice A n c) := by simp [World.cell?, hp]
  clear hp
  rcases Int.lt_or_le j 0 with h | h
  · go_enter Tryz.func32, Tryz.ntmps32
    go_wp2
    go_ret2
    exact ⟨rfl, rfl⟩
  · have h2 : (n : Int) ≤ j := by omega
    clear hj
    go_enter Tryz.func32, Tryz.ntmps32
    go_wp2
    go_ret2
    exact ⟨rfl, rfl⟩

set_option maxRecDepth 100000 in
set_option maxHeartbeats 2000000 in
theorem RWrite_any (w : World) (G : Nat → Prop) (p i : Nat) (S : List Sec) (L : List Wr) (s : ByteArray) (h : RDsk w G p S L) (hi : i < S.length) (hs : s.size = 64) (hL : L.length ≤ 900000) :
    Calls Tryz.prog 26 #[.pointer (some ⟨p, 0, none⟩), .int .i64 i, .string s] w fun e w' => e = .returned (.int .i64 0) ∧ RPost w G p S (L ++ [(i, s.data.toList)]) w' := by
  obtain ⟨i0, hi0, hz0, hz1, hz2⟩ := info_parts rwr_info
  obtain ⟨F, X, hd⟩ := h
  obtain ⟨B, d, rfl, _, _, _⟩ := row_form hd.2.2.1
  obtain ⟨A, c, rfl, _, _, _⟩ := row_form hd.2.1
  obtain ⟨m, hm⟩ : ∃ m, L.length = m := ⟨_, rfl⟩
  obtain ⟨n, hn⟩ : ∃ n, S.length = n := ⟨_, rfl⟩
  have HO0 := hide hd.2.2.1
  rw [hm] at hd hL HO0
  rw [hn] at hd
  have hp0 : w.cell? ⟨p, 0, none⟩ = some (.slice A n c) := by simp [World.cell?, hd.1]
  have hp1 : w.cell? ⟨p, 1, none⟩ = some (.slice B m d) := by simp [World.cell?, hd.1]
  have hin : (i : Int) < (n : Int) := by omega
  have hs64 : (s.size : Int) = 64 := by omega
  have HD := hide hd
  have HM := hide hm
  have Hi := hide hi
  have Hs := hide (show s.data.toList.length = 64 by rw [size_eq]; exact hs)
  have Hz1 := hide hz1
  have Hz2 := hide hz2
  have Hm1 := hide (show m + 1 ≤ maxLen by unfold maxLen; omega)
  have Hm2 := hide (show (m + 1) * 24 ≤ 140737488355328 by omega)
  have HBW := hide (show Below w.heap.size w (w.alloc (.cells #[.int .i64 (i : Int), .string s] 103)) from (Below.refl _ _).alloc (Nat.le_refl _) _)
  have HO := hide (own_below HO0.out HBW.out)
  have HN : Hid (∀ j u, (rcel (i, s.data.toList))[j]? = some u → (w.alloc (.cells #[.int .i64 (i : Int), .string s] 103)).cell? ((⟨w.heap.size, 0, none⟩ : Addr).add j) = some u) := fun j u hu => by
    rw [Addr.add_mid, Nat.zero_add, cell_of_row _ _ j _ _ _ (heap_alloc_new w _)]
    exact List.getElem?_toArray.trans hu
  clear hd hm hn hi hs hL hz1 hz2 HO0
  go_enter Tryz.func26, Tryz.ntmps26
  go_wp2_with (at_builtin; refine wpList_append_lies _ rfl (.tmp 25) (.tmp 29) 67 rfl 0 103 i0 _ 2 24 Tryz.underlying67 hi0 hz0 Hz1.out Hz2.out rfl (by decide) (.slice B m d) m (rL L) rfl HO.out ⟨w.heap.size, 0, none⟩ 1 1 (rcel (i, s.data.toList)) rfl rfl HN.out (rcel_one _) (by decide) Hm1.out Hm2.out (Nat.zero_le _) _ rfl ?_)
  intro g2 cap w5 hown5 hgr5 hor5 hlt5
  have HP := hide (rwrote HD.out HBW.out hgr5 hown5 (hor5.imp id fun h => by rw [h]; simp) HM.out Hi.out Hs.out)
  have hc5 : w5.cell? ⟨p, 1, none⟩ = some (.slice B m d) := by simp [World.cell?, rp5 HD.out HBW.out hgr5]
  have hf5 : w5.frozen? ⟨p, 1, none⟩ = false := by simp [World.frozen?, rp5 HD.out HBW.out hgr5]
  clear hown5 hgr5 hor5 hlt5
  go_wp2
  go_ret
  exact ⟨rfl, HP.out⟩


end Go.Proofs.YtnmpckhlpkmojaaGreatDoor.Dk

namespace Go.Proofs.YtnmpckhlpkmojaaGreatDoor.Dk
open Go.RowKit
open Pk Sm Fa
set_option maxRecDepth 100000 in
set_option maxHeartbeats 2000000 in
theorem RRead_any (w : World) (G : Nat → Prop) (p i : Nat) (S : List Sec) (L : List Wr) (s : Sec) (h : RDsk w G p S L) (hs : (all S L)[i]? = some s) (hi : i < S.length) (hL : L.length ≤ 1000000) :
    Calls Tryz.prog 32 #[.pointer (some ⟨p, 0, none⟩), .int .i64 i] w fun e w' => e = .returned (.tuple #[.string (str s), .int .i64 0]) ∧ w = w' := by
  obtain ⟨F, X, hd⟩ := h
  obtain ⟨B, d, rfl, _, _, hX⟩ := row_form hd.2.2.1
  obtain ⟨A, c, rfl, _, _, hF⟩ := row_form hd.2.1
  obtain ⟨g, rfl, _, _, hFr⟩ := hF (by omega)
  obtain ⟨m, hm⟩ : ∃ m, L.length = m := ⟨_, rfl⟩
  obtain ⟨n, hn⟩ : ∃ n, S.length = n := ⟨_, rfl⟩
  rw [hm] at hd hL hX
  rw [hn] at hd
  have hp0 : w.cell? ⟨p, 0, none⟩ = some (.slice (some ⟨g, 0, none⟩) n c) := by simp [World.cell?, hd.1]
  have hp1 : w.cell? ⟨p, 1, none⟩ = some (.slice B m d) := by simp [World.cell?, hd.1]
  have hin : (i : Int) < (n : Int) := by omega
  have hin0 : ¬ ((i : Int) < 0) := by omega
  have hinN : ¬ (n ≤ i) := by omega
  obtain ⟨s0, hs0⟩ : ∃ s0, S[i]? = some s0 := ⟨_, List.getElem?_eq_getElem hi⟩
  have hc0 : w.cell? ⟨g, i, none⟩ = some (.string (str s0)) := by
    have := hFr i (.string (str s0)) (by simp [rS, hs0])
    rwa [Nat.zero_add] at this
  have HX := hide hX
  have HM := hide hm
  have HS := hide hs
  have HS0 := hide hs0
  have HLm := hide hL
  have HI := hide hi
  clear hd hm hn hi hs hL hX hF hFr hs0
  go_enter Tryz.func32, Tryz.ntmps32
  go_wp2
  clear hc0
  go_loop [6, 31] (fun sv j => ∃ (k : Nat) (t : Sec), k ≤ m ∧ j = .int .i64 k ∧ sv = .string (str t) ∧ Hid ((all S (L.take k))[i]? = some t)) (fun _ j => m - (intOf j).toNat)
  case atStart => exact ⟨0, s0, Nat.zero_le _, rfl, rfl, HS0.out⟩
  case round =>
    obtain ⟨k, t, hk, rfl, rfl, ht⟩ := hrel
    rcases Nat.lt_or_ge k m with hlt | hge
    · obtain ⟨x, hx⟩ : ∃ x, L[k]? = some x := ⟨_, List.getElem?_eq_getElem (by rw [HM.out]; exact hlt)⟩
      obtain ⟨b, rfl, _, _, hrg⟩ := HX.out (by omega)
      have hr := range_piece hrg (rcel_length L) hx
      have hx0 : w.cell? ⟨b, k * 2, none⟩ = some (.int .i64 (x.1 : Int)) := by have := hr 0 _ rfl; rwa [Nat.add_zero] at this
      have hx1 : w.cell? ⟨b, k * 2 + 1, none⟩ = some (.string (str x.2)) := hr 1 _ rfl
      have Hlt := hide hlt
      have hkm : (k : Int) < (m : Int) := by omega
      have hlim : (k : Int) < 1000001 := by have := HLm.out; omega
      have Htk := hide (show all S (L.take (k + 1)) = done (all S (L.take k)) x by rw [take_snoc L k x hx, all_append]; rfl)
      clear hx hrg hr hlt hk
      obtain ⟨xi, xb⟩ := x
      by_cases hxi : xi = i
      · have hxe : ((xi : Int) == (i : Int)) = true := by rw [beq_iff_eq]; omega
        have HT := hide (show (all S (L.take (k + 1)))[i]? = some xb by rw [Htk.out, done, hxi, List.getElem?_set_self (by rw [all_length]; exact HI.out)])
        clear hxi
        go_wp2
        go_round
        case rel => exact ⟨k + 1, xb, Hlt.out, by go_num, rfl, HT.out⟩
        case measure => have := Hlt.out; simp [intOf]; omega
      · have hxe : ((xi : Int) == (i : Int)) = false := by rw [beq_eq_false_iff_ne]; omega
        have HT := hide (show (all S (L.take (k + 1)))[i]? = some t by rw [Htk.out, done, List.getElem?_set_ne hxi]; exact ht.out)
        clear hxi
        go_wp2
        go_round
        case rel => exact ⟨k + 1, t, Hlt.out, by go_num, rfl, HT.out⟩
        case measure => have := Hlt.out; simp [intOf]; omega
    · obtain rfl : k = m := by omega
      have HE := hide (show t = s by
        have h1 := ht.out
        rw [List.take_of_length_le (by rw [HM.out]; exact Nat.le_refl _), HS.out] at h1
        exact (Option.some.inj h1).symm)
      clear ht hk hge
      go_wp2
      go_ret2
      exact ⟨by rw [HE.out]; rfl, rfl⟩

set_option maxRecDepth 100000 in
set_option maxHeartbeats 4000000 in
theorem RFlush_any (w : World) (G : Nat → Prop) (p : Nat) (S : List Sec) (L : List Wr) (h : RDsk w G p S L) (hL : L.length ≤ 1000000) :
    Calls Tryz.prog 42 #[.pointer (some ⟨p, 0, none⟩)] w fun e w' => e = .returned (.tuple #[]) ∧ RPost w G p (all S L) [] w' := by
  obtain ⟨F, X, hd⟩ := h
  obtain ⟨B, d, rfl, _, _, _⟩ := row_form hd.2.2.1
  obtain ⟨A, c, rfl, _, _, _⟩ := row_form hd.2.1
  obtain ⟨m, hm⟩ : ∃ m, L.length = m := ⟨_, rfl⟩
  obtain ⟨n, hn⟩ : ∃ n, S.length = n := ⟨_, rfl⟩
  rw [hm] at hd hL
  rw [hn] at hd
  have hp1 : w.cell? ⟨p, 1, none⟩ = some (.slice B m d) := by simp [World.cell?, hd.1]
  have HD := hide hd
  have HM := hide hm
  have HN := hide hn
  have HLm := hide hL
  
  clear hd hm hL hn
  go_enter Tryz.func42, Tryz.ntmps42
  go_wp2
  clear hp1
  go_loopw [8] (fun j wr => ∃ (k : Nat) (Sk : List Sec), k ≤ m ∧ j = .int .i64 k ∧ Hid (all Sk (L.drop k) = all S L) ∧ Hid (Sk.length = n) ∧ Hid (RDskAt wr G p Sk L (.slice A n c) (.slice B m d)) ∧ Hid (Kept G w wr)) (fun j _ => m - (intOf j).toNat)
  case atStart => exact ⟨0, S, Nat.zero_le _, rfl, rfl, HN.out, HD.out, Kept.refl _ _⟩
  case round =>
    obtain ⟨k, Sk, hk, rfl, hcr, hlen, hdk, hkept⟩ := hrel
    rcases Nat.lt_or_ge k m with hlt | hge
    · obtain ⟨x, hx⟩ : ∃ x, L[k]? = some x := ⟨_, List.getElem?_eq_getElem (by rw [HM.out]; exact hlt)⟩
      obtain ⟨B', d', e, _, _, hX⟩ := row_form hdk.out.2.2.1
      simp only [Value.slice.injEq] at e
      obtain ⟨rfl, -, rfl⟩ := e
      obtain ⟨b, rfl, _, _, hrg⟩ := hX (by rw [HM.out]; omega)
      have Hfit := hide (hdk.out.2.2.2.2.2.2.2 x (List.mem_of_getElem? hx))
      obtain ⟨A', c', e, _, _, hF⟩ := row_form hdk.out.2.1
      simp only [Value.slice.injEq] at e
      obtain ⟨rfl, -, rfl⟩ := e
      obtain ⟨g, rfl, _, hglt, hFr⟩ := hF (by have := Hfit.out.1; omega)
      have hxn : (x.1 : Int) < (n : Int) := by have := Hfit.out.1; rw [hlen.out] at this; omega
      have hr := range_piece hrg (rcel_length L) hx
      have hx0 : wr.cell? ⟨b, k * 2, none⟩ = some (.int .i64 (x.1 : Int)) := by have := hr 0 _ rfl; rwa [Nat.add_zero] at this
      have hx1 : wr.cell? ⟨b, k * 2 + 1, none⟩ = some (.string (str x.2)) := hr 1 _ rfl
      have hkm : (k : Int) < (m : Int) := by omega
      have Hlt := hide hlt
      have hlim : (k : Int) < 1000001 := by have := HLm.out; omega
      have hp0 : wr.cell? ⟨p, 0, none⟩ = some (.slice (some ⟨g, 0, none⟩) n c) := by simp [World.cell?, hdk.out.1]
      have hp1 : wr.cell? ⟨p, 1, none⟩ = some (.slice (some ⟨b, 0, none⟩) m d) := by simp [World.cell?, hdk.out.1]
      obtain ⟨y, hy⟩ : ∃ y, Sk[x.1]? = some y := ⟨_, List.getElem?_eq_getElem Hfit.out.1⟩
      have hg0 : wr.cell? ⟨g, x.1, none⟩ = some (.string (str y)) := by
        have := hFr x.1 (.string (str y)) (by simp [rS, hy])
        rwa [Nat.zero_add] at this
      have hgf : wr.frozen? ⟨g, x.1, none⟩ = false := by
        rcases hdk.out.2.1.2 with ⟨e, _⟩ | ⟨g', cap, cur, e, _, hg', _⟩
        · cases e
        · simp only [Value.slice.injEq, Option.some.injEq, Addr.mk.injEq, and_true] at e
          obtain ⟨rfl, _, rfl⟩ := e
          simp [World.frozen?, hg']
      have Hdr := hide (drop_cons hx)
      have HP := hide (RDskAt.put (w := wr.drew) (i := x.1) (b := x.2) hdk.out)
      have HKP := hide (show Kept G w (wr.drew.setCell ⟨g, x.1, none⟩ (.string (str x.2))) from Kept.poke (w2 := wr.drew) ⟨hkept.out.os, hkept.out.tape, hkept.out.output, hkept.out.size, hkept.out.block⟩ (hdk.out.2.2.2.2.1 g rfl).1 _)
      have Hlen2 := hide (show (done Sk x).length = n by rw [done, List.length_set]; exact hlen.out)
      have HD2 := hide hdk.out
      have HK2 := hide hkept.out
      clear hx hrg hX hF hglt hFr hr hy hdk hkept
      have Hcr2 := hide (show all (done Sk x) (L.drop (k + 1)) = all S L by rw [← hcr.out, Hdr.out]; rfl)
      go_wp2
      go_still_tail 20, (by kernel_rfl)
      go_wp2
      go_roundw
      case rel => exact ⟨k + 1, done Sk x, Hlt.out, by go_num, Hcr2.out, Hlen2.out, HP.out, HKP.out⟩
      case measure => have := Hlt.out; simp [intOf]; omega
    · obtain rfl : k = m := by omega
      have Hcr := hide (show Sk = all S L by rw [← hcr.out, List.drop_of_length_le (by rw [HM.out]; exact Nat.le_refl _)]; rfl)
      have hp1 : wr.cell? ⟨p, 1, none⟩ = some (.slice B k d) := by simp [World.cell?, hdk.out.1]
      have hf1 : wr.frozen? ⟨p, 1, none⟩ = false := by simp [World.frozen?, hdk.out.1]
      have HP := hide (show RPost w G p (all S L) [] (wr.setCell ⟨p, 1, none⟩ (.slice none 0 0)) from ⟨G, ⟨_, _, by rw [← Hcr.out]; exact hdk.out.clear⟩, Grew.refl _ _, hkept.out.poke hdk.out.2.2.2.1 _⟩)
      clear hcr hdk hkept
      go_wp2
      go_end0
      exact ⟨rfl, HP.out⟩

theorem bit_rem64 (t j : Nat) : ((t : Int) / 2 ^ j).tmod 2 = if t.testBit j then 1 else 0 := by
  have h1 : ((t : Int) / 2 ^ j) = ((t / 2 ^ j : Nat) : Int) := by norm_cast
  rw [h1, Int.tmod_eq_emod_of_nonneg (Int.natCast_nonneg _), Nat.testBit_eq_decide_div_mod_eq]
  have h4 : t / 2 ^ j % 2 < 2 := Nat.mod_lt _ (by omega)
  by_cases h5 : t / 2 ^ j % 2 = 1
  · simp only [h5, decide_true, if_true]; omega
  · have h6 : t / 2 ^ j % 2 = 0 := by omega
    simp only [h6]; simp; omega

set_option maxRecDepth 100000 in
set_option maxHeartbeats 4000000 in
theorem RCrash_any (w : World) (G : Nat → Prop) (p K : Nat) (S : List Sec) (L : List Wr) (h : RDsk w G p S L) (hK : K < 18446744073709551616) (hL : L.length ≤ 1000000) :
    Calls Tryz.prog 20 #[.pointer (some ⟨p, 0, none⟩), .int .u64 K] w fun e w' => e = .returned (.tuple #[]) ∧ RPost w G p (crash K 0 L S) [] w' := by
  obtain ⟨F, X, hd⟩ := h
  obtain ⟨B, d, rfl, _, _, _⟩ := row_form hd.2.2.1
  obtain ⟨A, c, rfl, _, _, _⟩ := row_form hd.2.1
  obtain ⟨m, hm⟩ : ∃ m, L.length = m := ⟨_, rfl⟩
  obtain ⟨n, hn⟩ : ∃ n, S.length = n := ⟨_, rfl⟩
  rw [hm] at hd hL
  rw [hn] at hd
  have hp1 : w.cell? ⟨p, 1, none⟩ = some (.slice B m d) := by simp [World.cell?, hd.1]
  have HD := hide hd
  have HM := hide hm
  have HN := hide hn
  have HLm := hide hL
  have HK := hide hK
  clear hK
  clear hd hm hL hn
  go_enter Tryz.func20, Tryz.ntmps20
  go_wp2
  clear hp1
  go_loopw [10] (fun j wr => ∃ (k : Nat) (Sk : List Sec), k ≤ m ∧ j = .int .i64 k ∧ Hid (crash K k (L.drop k) Sk = crash K 0 L S) ∧ Hid (Sk.length = n) ∧ Hid (RDskAt wr G p Sk L (.slice A n c) (.slice B m d)) ∧ Hid (Kept G w wr)) (fun j _ => m - (intOf j).toNat)
  case atStart => exact ⟨0, S, Nat.zero_le _, rfl, rfl, HN.out, HD.out, Kept.refl _ _⟩
  case round =>
    obtain ⟨k, Sk, hk, rfl, hcr, hlen, hdk, hkept⟩ := hrel
    rcases Nat.lt_or_ge k m with hlt | hge
    · obtain ⟨x, hx⟩ : ∃ x, L[k]? = some x := ⟨_, List.getElem?_eq_getElem (by rw [HM.out]; exact hlt)⟩
      obtain ⟨B', d', e, _, _, hX⟩ := row_form hdk.out.2.2.1
      simp only [Value.slice.injEq] at e
      obtain ⟨rfl, -, rfl⟩ := e
      obtain ⟨b, rfl, _, _, hrg⟩ := hX (by rw [HM.out]; omega)
      have Hfit := hide (hdk.out.2.2.2.2.2.2.2 x (List.mem_of_getElem? hx))
      obtain ⟨A', c', e, _, _, hF⟩ := row_form hdk.out.2.1
      simp only [Value.slice.injEq] at e
      obtain ⟨rfl, -, rfl⟩ := e
      obtain ⟨g, rfl, _, hglt, hFr⟩ := hF (by have := Hfit.out.1; omega)
      have hxn : (x.1 : Int) < (n : Int) := by have := Hfit.out.1; rw [hlen.out] at this; omega
      have hr := range_piece hrg (rcel_length L) hx
      have hx0 : wr.cell? ⟨b, k * 2, none⟩ = some (.int .i64 (x.1 : Int)) := by have := hr 0 _ rfl; rwa [Nat.add_zero] at this
      have hx1 : wr.cell? ⟨b, k * 2 + 1, none⟩ = some (.string (str x.2)) := hr 1 _ rfl
      have hkm : (k : Int) < (m : Int) := by omega
      have Hlt := hide hlt
      have hlim : (k : Int) < 1000001 := by have := HLm.out; omega
      have hp0 : wr.cell? ⟨p, 0, none⟩ = some (.slice (some ⟨g, 0, none⟩) n c) := by simp [World.cell?, hdk.out.1]
      have hp1 : wr.cell? ⟨p, 1, none⟩ = some (.slice (some ⟨b, 0, none⟩) m d) := by simp [World.cell?, hdk.out.1]
      obtain ⟨y, hy⟩ : ∃ y, Sk[x.1]? = some y := ⟨_, List.getElem?_eq_getElem Hfit.out.1⟩
      have hg0 : wr.cell? ⟨g, x.1, none⟩ = some (.string (str y)) := by
        have := hFr x.1 (.string (str y)) (by simp [rS, hy])
        rwa [Nat.zero_add] at this
      have hgf : wr.frozen? ⟨g, x.1, none⟩ = false := by
        rcases hdk.out.2.1.2 with ⟨e, _⟩ | ⟨g', cap, cur, e, _, hg', _⟩
        · cases e
        · simp only [Value.slice.injEq, Option.some.injEq, Addr.mk.injEq, and_true] at e
          obtain ⟨rfl, _, rfl⟩ := e
          simp [World.frozen?, hg']
      have Hdr := hide (drop_cons hx)
      have HP := hide (RDskAt.put (w := wr.drew) (i := x.1) (b := x.2) hdk.out)
      have HKP := hide (show Kept G w (wr.drew.setCell ⟨g, x.1, none⟩ (.string (str x.2))) from Kept.poke (w2 := wr.drew) ⟨hkept.out.os, hkept.out.tape, hkept.out.output, hkept.out.size, hkept.out.block⟩ (hdk.out.2.2.2.2.1 g rfl).1 _)
      have Hlen2 := hide (show (done Sk x).length = n by rw [done, List.length_set]; exact hlen.out)
      have HD2 := hide hdk.out
      have HK2 := hide hkept.out
      clear hx hrg hX hF hglt hFr hr hy hdk hkept
      have he := bit_rem64 K (k % 64)
      cases hb : K.testBit (k % 64) with
      | false =>
        rw [hb, if_neg (by exact Bool.false_ne_true)] at he
        have Hcr2 := hide (show crash K (k + 1) (L.drop (k + 1)) Sk = crash K 0 L S by rw [← hcr.out, Hdr.out, crash_no hb])
        clear hb
        go_wp2
        go_roundw
        case rel => exact ⟨k + 1, Sk, Hlt.out, by go_num, Hcr2.out, hlen.out, HD2.out, HK2.out⟩
        case measure => have := Hlt.out; simp [intOf]; omega
      | true =>
        rw [hb, if_pos rfl] at he
        have Hcr2 := hide (show crash K (k + 1) (L.drop (k + 1)) (done Sk x) = crash K 0 L S by rw [← hcr.out, Hdr.out]; rw [crash_yes hb])
        go_wp2
        go_still_tail 20, (by kernel_rfl)
        go_wp2
        go_roundw
        case rel => exact ⟨k + 1, done Sk x, Hlt.out, by go_num, Hcr2.out, Hlen2.out, HP.out, HKP.out⟩
        case measure => have := Hlt.out; simp [intOf]; omega
    · obtain rfl : k = m := by omega
      have Hcr := hide (show Sk = crash K 0 L S by rw [← hcr.out, List.drop_of_length_le (by rw [HM.out]; exact Nat.le_refl _)]; rfl)
      have hp1 : wr.cell? ⟨p, 1, none⟩ = some (.slice B k d) := by simp [World.cell?, hdk.out.1]
      have hf1 : wr.frozen? ⟨p, 1, none⟩ = false := by simp [World.frozen?, hdk.out.1]
      have HP := hide (show RPost w G p (crash K 0 L S) [] (wr.setCell ⟨p, 1, none⟩ (.slice none 0 0)) from ⟨G, ⟨_, _, by rw [← Hcr.out]; exact hdk.out.clear⟩, Grew.refl _ _, hkept.out.poke hdk.out.2.2.2.1 _⟩)
      clear hcr hdk hkept
      go_wp2
      go_end0
      exact ⟨rfl, HP.out⟩

end Go.Proofs.YtnmpckhlpkmojaaGreatDoor.Dk
