/-
  The document's own journal in memory, beside the document's own disk: what a store, and a call on the disk, leave of it. Plain theorems, no premise beyond those in each.
-/
import Derived.Test.YtapiogcoipeinaaGreatDoorU19
import Derived.Test.YtapiogcoipeinaaGreatDoorU22
import Derived.Test.YtapiogcoipeinaaGreatDoorU20
namespace Go.Proofs.YtapiogcoipeinaaGreatDoor.Jn
open Go.RowKit
open Pk Sm Fa Rc Dk
def gcels (E : List Ent) : List Value := E.map fun e => .int .i64 (e.g : Int)
theorem gcels_snoc (E : List Ent) (e : Ent) : gcels (E ++ [e]) = gcels E ++ [.int .i64 (e.g : Int)] := by simp [gcels]
abbrev rjs (q n : Nat) (h : Hd) (X Y : Value) : Array Value := #[.pointer (some ⟨q, 0, none⟩), .int .i64 (n : Int), .int .i64 (h.t : Int), .int .i64 (h.f : Int), .int .i64 (h.g : Int), .int .i64 (h.l : Int), X, Y]
structure RjAt (w : World) (J : Nat → Prop) (p q n : Nat) (h : Hd) (E F : List Ent) (X Y : Value) : Prop where
 box : w.heap[p]? = some (.cells (rjs q n h X Y) 59 (0, 0))
 rows : ORow w 100 5 X E.length (rcels E)
 gens : ORow w 3 1 Y F.length (gcels F)
 mine : J p
 row : ∀ k, X.ownBlock = some k → J k ∧ k ≠ p
 gen : ∀ k, Y.ownBlock = some k → J k ∧ k ≠ p ∧ X.ownBlock ≠ some k
 lt : ∀ k, J k → k < w.heap.size
def Rj (w : World) (G : Nat → Prop) (p q : Nat) (S : List Sec) (L : List Wr) (n : Nat) (h : Hd) (E : List Ent) : Prop :=
 ∃ D J X Y, RDsk w D q S L ∧ RjAt w J p q n h E E X Y ∧ (∀ k, D k → ¬ J k) ∧ (∀ k, G k ↔ D k ∨ J k)
def RjPost (w : World) (G : Nat → Prop) (p q : Nat) (S : List Sec) (L : List Wr) (n : Nat) (h : Hd) (E : List Ent) (w' : World) : Prop := ∃ G', Rj w' G' p q S L n h E ∧ Grew w G G' ∧ Kept G w w'
section
variable {w w' : World} {G J : Nat → Prop} {p q n : Nat} {S : List Sec} {L : List Wr} {h : Hd} {E F : List Ent} {X Y : Value}
theorem RjAt.kept (j : RjAt w J p q n h E F X Y) {K : Nat → Prop} (hk : Kept K w w') (hd : ∀ k, J k → ¬ K k) : RjAt w' J p q n h E F X Y where
 box := (hk.block p (j.lt p j.mine) (hd p j.mine)).trans j.box
 rows := j.rows.kept hk fun k hb => hd k (j.row k hb).1
 gens := j.gens.kept hk fun k hb => hd k (j.gen k hb).1
 mine := j.mine
 row := j.row
 gen := j.gen
 lt := fun k hk2 => Nat.lt_of_lt_of_le (j.lt k hk2) hk.size
theorem RjAt.below (j : RjAt w J p q n h E F X Y) (hb : Below w.heap.size w w') : RjAt w' J p q n h E F X Y := j.kept (Kept.of_below (G := fun _ => False) hb) fun _ _ h => h
theorem Rj.lt (j : Rj w G p q S L n h E) : ∀ k, G k → k < w.heap.size := by
 obtain ⟨D, J, X, Y, hd, hj, _, hg⟩ := j
 intro k hk
 rcases (hg k).1 hk with h1 | h1
 ·exact hd.lt k h1
 ·exact hj.lt k h1
theorem Rj.kept (j : Rj w G p q S L n h E) {K : Nat → Prop} (hk : Kept K w w') (hd : ∀ k, G k → ¬ K k) : Rj w' G p q S L n h E := by
 obtain ⟨D, J, X, Y, h1, h2, h3, h4⟩ := j
 exact ⟨D, J, X, Y, h1.kept hk fun k hk => hd k ((h4 k).2 (Or.inl hk)), h2.kept hk fun k hk => hd k ((h4 k).2 (Or.inr hk)), h3, h4⟩
theorem Rj.below (j : Rj w G p q S L n h E) (hb : Below w.heap.size w w') : Rj w' G p q S L n h E := j.kept (Kept.of_below (G := fun _ => False) hb) fun _ _ h => h
theorem Rj.post (j : Rj w G p q S L n h E) (hb : Below w.heap.size w w') : RjPost w G p q S L n h E w' := ⟨G, j.below hb, Grew.refl _ _, Kept.of_below hb⟩
theorem RjPost.then {S' S'' : List Sec} {L' L'' : List Wr} {h' h'' : Hd} {E' E'' : List Ent} {w'' : World} (a : RjPost w G p q S' L' n h' E' w')
 (b : ∀ G', Rj w' G' p q S' L' n h' E' → RjPost w' G' p q S'' L'' n h'' E'' w'') : RjPost w G p q S'' L'' n h'' E'' w'' := by
 obtain ⟨G', j, hg, hk⟩ := a
 obtain ⟨G'', j2, hg2, hk2⟩ := b G' j
 exact ⟨G'', j2, hg.trans hk.size hg2, hk.trans hg hk2⟩
theorem RjPost.below {w'' : World} (a : RjPost w G p q S L n h E w') (hb : Below w'.heap.size w' w'') : RjPost w G p q S L n h E w'' := a.then fun _ j => j.post hb
theorem RjPost.of {G1 : Nat → Prop} {w1 : World} (hg : Grew w G G1) (hk : Kept G w w1) (b : RjPost w1 G1 p q S L n h E w') : RjPost w G p q S L n h E w' := by
 obtain ⟨G2, j, hg2, hk2⟩ := b
 exact ⟨G2, j, hg.trans hk.size hg2, hk.trans hg hk2⟩
theorem RjPost.after {w1 : World} (hb : Below w.heap.size w w1) (b : RjPost w1 G p q S L n h E w') : RjPost w G p q S L n h E w' := RjPost.of (Grew.refl _ _) (Kept.of_below hb) b
theorem RjAt.set {i : Nat} {v : Value} {h' : Hd} (j : RjAt w J p q n h E F X Y) (hc : (rjs q n h X Y).setIfInBounds i v = rjs q n h' X Y) : RjAt (w.setCell ⟨p, i, none⟩ v) J p q n h' E F X Y where
 box := by rw [heap_setCell_same w p i _ _ v j.box, hc]
 rows := j.rows.same fun k hb => heap_setCell_other _ _ _ _ (j.row k hb).2
 gens := j.gens.same fun k hb => heap_setCell_other _ _ _ _ (j.gen k hb).2.1
 mine := j.mine
 row := j.row
 gen := j.gen
 lt := fun k hk => by have := j.lt k hk; simpa [World.setCell] using this
theorem Rj.set {i : Nat} {v : Value} {h' : Hd} (j : Rj w G p q S L n h E) (hc : ∀ X Y, (rjs q n h X Y).setIfInBounds i v = rjs q n h' X Y) : RjPost w G p q S L n h' E (w.setCell ⟨p, i, none⟩ v) := by
 obtain ⟨D, J, X, Y, h1, h2, h3, h4⟩ := j
 have hk := Kept.set (Kept.refl J w) h2.mine i v
 exact ⟨G, ⟨D, J, X, Y, h1.kept hk fun k hk => h3 k hk, h2.set (hc X Y), h3, h4⟩, Grew.refl _ _, Kept.set (Kept.refl G w) ((h4 p).2 (Or.inr h2.mine)) i v⟩
theorem Rj.disk {D : Nat → Prop} {S' : List Sec} {L' : List Wr} (h2 : RjAt w J p q n h E E X Y) (h3 : ∀ k, D k → ¬ J k) (h4 : ∀ k, G k ↔ D k ∨ J k) (hp : RPost w D q S' L' w') : RjPost w G p q S' L' n h E w' := by
 obtain ⟨D', hd, hg, hk⟩ := hp
 refine ⟨fun k => D' k ∨ J k, ⟨D', J, X, Y, hd, h2.kept hk fun k hj hD => h3 k hD hj, fun k hD' hj => ?_, fun k => Iff.rfl⟩, fun k hk' => ?_, ⟨hk.os, hk.tape, hk.output, hk.size, fun k hlt hn => hk.block k hlt fun hD => hn ((h4 k).2 (Or.inl hD))⟩⟩
 ·rcases hg k hD' with h5 | h5
  ·exact h3 k h5 hj
  ·have := h2.lt k hj
   omega
 ·rcases hk' with h5 | h5
  ·exact (hg k h5).imp (fun h6 => (h4 k).2 (Or.inl h6)) id
  ·exact Or.inl ((h4 k).2 (Or.inr h5))
theorem Rj.mine {D J' : Nat → Prop} {h' : Hd} {E' : List Ent} {X' Y' : Value} (h1 : RDsk w D q S L) (h3 : ∀ k, D k → ¬ J k) (h4 : ∀ k, G k ↔ D k ∨ J k) (hg : Grew w J J') (hk : Kept J w w') (hn : RjAt w' J' p q n h' E' E' X' Y') : RjPost w G p q S L n h' E' w' := by
 refine ⟨fun k => D k ∨ J' k, ⟨D, J', X', Y', h1.kept hk h3, hn, fun k hD hj => ?_, fun k => Iff.rfl⟩, fun k hk' => ?_, ⟨hk.os, hk.tape, hk.output, hk.size, fun k hlt hn => hk.block k hlt fun hJ => hn ((h4 k).2 (Or.inr hJ))⟩⟩
 ·rcases hg k hj with h5 | h5
  ·exact h3 k hD h5
  ·have := h1.lt k hD
   omega
 ·rcases hk' with h5 | h5
  ·exact Or.inl ((h4 k).2 (Or.inl h5))
  ·exact (hg k h5).imp (fun h6 => (h4 k).2 (Or.inr h6)) id
theorem RjAt.cells (j : RjAt w J p q n h E F X Y) : ∃ A c B d, X = .slice A E.length c ∧ Y = .slice B F.length d ∧ w.cell? ⟨p, 0, none⟩ = some (.pointer (some ⟨q, 0, none⟩)) ∧ w.cell? ⟨p, 1, none⟩ = some (.int .i64 (n : Int)) ∧ w.cell? ⟨p, 2, none⟩ = some (.int .i64 (h.t : Int)) ∧
 w.cell? ⟨p, 3, none⟩ = some (.int .i64 (h.f : Int)) ∧ w.cell? ⟨p, 4, none⟩ = some (.int .i64 (h.g : Int)) ∧ w.cell? ⟨p, 5, none⟩ = some (.int .i64 (h.l : Int)) ∧ w.cell? ⟨p, 6, none⟩ = some (.slice A E.length c) ∧ w.cell? ⟨p, 7, none⟩ = some (.slice B F.length d) ∧ (∀ i, w.frozen? ⟨p, i, none⟩ = false) := by
 obtain ⟨A, c, rfl, _⟩ := j.rows.form
 obtain ⟨B, d, rfl, _⟩ := j.gens.form
 refine ⟨A, c, B, d, rfl, rfl, ?_, ?_, ?_, ?_, ?_, ?_, ?_, ?_, fun i => blk_free j.box i⟩ <;> simp [World.cell?, j.box]
/-! ### Changes of its own rows -/
section
variable {w5 W w6 : World} {g o cap m : Nat} {y : Ent}
theorem RjAt.box6 (j : RjAt w5 J p q n h E F X Y) (hb : Below w5.heap.size w5 W) {v : Value} (hv : v = X ∨ v = Y) (hgr : W.grownBy w6 v.ownBlock) : w6.heap[p]? = some (.cells (rjs q n h X Y) 59 (0, 0)) := by
 have hl := j.lt p j.mine
 rw [hgr.block p (Nat.lt_of_lt_of_le hl hb.size) (fun e => by rcases hv with rfl | rfl; exact (j.row p e.symm).2 rfl; exact (j.gen p e.symm).2.1 rfl), hb.block p hl]
 exact j.box
theorem RjAt.appendedL (j : RjAt w5 J p q n h E F X Y) (hb : Below w5.heap.size w5 W) (hgr : W.grownBy w6 X.ownBlock)
 (hown : ORow w6 100 5 (.slice (some ⟨g, o, none⟩) (m + 1) cap) (m + 1) (rcels E ++ rcel y)) (hor : X.ownBlock = some g ∨ g = W.heap.size) (hm : E.length = m) :
 RjAt (w6.setCell ⟨p, 6, none⟩ (.slice (some ⟨g, o, none⟩) (m + 1) cap)) (fun k => J k ∨ (w5.heap.size ≤ k ∧ k < w6.heap.size)) p q n h (E ++ [y]) F (.slice (some ⟨g, o, none⟩) (m + 1) cap) Y ∧ Kept J w5 (w6.setCell ⟨p, 6, none⟩ (.slice (some ⟨g, o, none⟩) (m + 1) cap)) := by
 have hp := j.box6 hb (Or.inl rfl) hgr
 have hsz : (w6.setCell ⟨p, 6, none⟩ (.slice (some ⟨g, o, none⟩) (m + 1) cap)).heap.size = w6.heap.size := by simp [World.setCell]
 have hgs := hgr.size
 have hbs := hb.size
 have hgp : g ≠ p := by
  rcases hor with h | h
  ·exact (j.row g h).2
  ·have := j.lt p j.mine; omega
 have hgl : g < w6.heap.size := hown.lt g rfl
 have hk : Kept J w5 (w6.setCell ⟨p, 6, none⟩ (.slice (some ⟨g, o, none⟩) (m + 1) cap)) := by
  refine ⟨hgr.os.trans hb.os, hgr.tape.trans hb.tape, hgr.output.trans hb.output, by rw [hsz]; omega, fun k hk hn => ?_⟩
  rw [heap_setCell_other _ _ _ _ (fun e => hn (by have e' : k = p := e; rw [e']; exact j.mine)), hgr.block k (by omega) (fun e => hn (j.row k e.symm).1), hb.block k hk]
 refine ⟨⟨?_, ?_, ?_, Or.inl j.mine, ?_, ?_, ?_⟩, hk⟩
 ·rw [heap_setCell_same w6 p 6 _ _ _ hp]; rfl
 ·rw [List.length_append, hm, rcels_snoc]
  exact hown.same fun k hk => by
   have : g = k := by simpa [Value.ownBlock] using hk
   rw [heap_setCell_other _ _ _ _ (by rw [← this]; exact hgp)]
 ·exact j.gens.same fun k hk => by
   have hj := j.gen k hk
   have hl := j.lt k hj.1
   rw [heap_setCell_other _ _ _ _ hj.2.1, hgr.block k (by omega) (fun e => hj.2.2 e.symm), hb.block k hl]
 ·intro k hk
  have hk' : g = k := by simpa [Value.ownBlock] using hk
  subst hk'
  refine ⟨?_, hgp⟩
  rcases hor with h | h
  ·exact Or.inl (j.row g h).1
  ·exact Or.inr ⟨by omega, hgl⟩
 ·intro k hk
  have hj := j.gen k hk
  refine ⟨Or.inl hj.1, hj.2.1, fun e => ?_⟩
  have e' : g = k := by simpa [Value.ownBlock] using e
  subst e'
  rcases hor with h | h
  ·exact hj.2.2 h
  ·have := j.lt g hj.1; omega
 ·intro k hk
  rw [hsz]
  rcases hk with hk | hk
  ·have := j.lt k hk; omega
  ·exact hk.2
theorem RjAt.appendedG (j : RjAt w5 J p q n h E F X Y) (hb : Below w5.heap.size w5 W) (hgr : W.grownBy w6 Y.ownBlock)
 (hown : ORow w6 3 1 (.slice (some ⟨g, o, none⟩) (m + 1) cap) (m + 1) (gcels F ++ [.int .i64 (y.g : Int)])) (hor : Y.ownBlock = some g ∨ g = W.heap.size) (hm : F.length = m) :
 RjAt (w6.setCell ⟨p, 7, none⟩ (.slice (some ⟨g, o, none⟩) (m + 1) cap)) (fun k => J k ∨ (w5.heap.size ≤ k ∧ k < w6.heap.size)) p q n h E (F ++ [y]) X (.slice (some ⟨g, o, none⟩) (m + 1) cap) ∧ Kept J w5 (w6.setCell ⟨p, 7, none⟩ (.slice (some ⟨g, o, none⟩) (m + 1) cap)) := by
 have hp := j.box6 hb (Or.inr rfl) hgr
 have hsz : (w6.setCell ⟨p, 7, none⟩ (.slice (some ⟨g, o, none⟩) (m + 1) cap)).heap.size = w6.heap.size := by simp [World.setCell]
 have hgs := hgr.size
 have hbs := hb.size
 have hgp : g ≠ p := by
  rcases hor with h | h
  ·exact (j.gen g h).2.1
  ·have := j.lt p j.mine; omega
 have hgl : g < w6.heap.size := hown.lt g rfl
 have hk : Kept J w5 (w6.setCell ⟨p, 7, none⟩ (.slice (some ⟨g, o, none⟩) (m + 1) cap)) := by
  refine ⟨hgr.os.trans hb.os, hgr.tape.trans hb.tape, hgr.output.trans hb.output, by rw [hsz]; omega, fun k hk hn => ?_⟩
  rw [heap_setCell_other _ _ _ _ (fun e => hn (by have e' : k = p := e; rw [e']; exact j.mine)), hgr.block k (by omega) (fun e => hn (j.gen k e.symm).1), hb.block k hk]
 refine ⟨⟨?_, ?_, ?_, Or.inl j.mine, ?_, ?_, ?_⟩, hk⟩
 ·rw [heap_setCell_same w6 p 7 _ _ _ hp]; rfl
 ·exact j.rows.same fun k hk => by
   have hj := j.row k hk
   have hl := j.lt k hj.1
   rw [heap_setCell_other _ _ _ _ hj.2, hgr.block k (by omega) (fun e => (j.gen k e.symm).2.2 hk), hb.block k hl]
 ·rw [List.length_append, hm, gcels_snoc]
  exact hown.same fun k hk => by
   have : g = k := by simpa [Value.ownBlock] using hk
   rw [heap_setCell_other _ _ _ _ (by rw [← this]; exact hgp)]
 ·intro k hk
  exact ⟨Or.inl (j.row k hk).1, (j.row k hk).2⟩
 ·intro k hk
  have hk' : g = k := by simpa [Value.ownBlock] using hk
  subst hk'
  refine ⟨?_, hgp, fun e => ?_⟩
  ·rcases hor with h | h
   ·exact Or.inl (j.gen g h).1
   ·exact Or.inr ⟨by omega, hgl⟩
  ·rcases hor with h | h
   ·exact (j.gen g h).2.2 e
   ·have := j.lt g (j.row g e).1; omega
 ·intro k hk
  rw [hsz]
  rcases hk with hk | hk
  ·have := j.lt k hk; omega
  ·exact hk.2
end
theorem RjAt.fresh (w : World) (q n : Nat) : RjAt (w.alloc (.cells (rjs q n ⟨0, 1, 0, 0⟩ (.slice none 0 0) (.slice none 0 0)) 59)) (fun k => k = w.heap.size) w.heap.size q n ⟨0, 1, 0, 0⟩ [] [] (.slice none 0 0) (.slice none 0 0) where
 box := heap_alloc_new w _
 rows := ORow.nil _ _ _
 gens := ORow.nil _ _ _
 mine := rfl
 row := fun k hk => by simp [Value.ownBlock] at hk
 gen := fun k hk => by simp [Value.ownBlock] at hk
 lt := fun k hk => by rw [hk]; simp
end
end Go.Proofs.YtapiogcoipeinaaGreatDoor.Jn
