/-
  A block known whole among other things in memory (a variable that holds a struct); one contract for a call among things. Plain theorems, no program of the project.
-/
import Derived.Test.YtmbhnhfnimijcaaDoorLkSt
namespace Go.Proofs.YtmbhnhfnimijcaaDoor.Lk
open Go.RowKit
open Pk Dk Wn

/-- A block known whole. -/
structure Blk (b : Nat) (cs : Array Value) (ty : TypeId) (w : World) (G : Nat → Prop) : Prop where
  row : w.heap[b]? = some (.cells cs ty (0, 0))
  own : ∀ k, G k ↔ k = b
theorem Blk.lt' {b : Nat} {cs : Array Value} {ty : TypeId} {w : World} {G : Nat → Prop} (h : Blk b cs ty w G) : b < w.heap.size := (Array.getElem?_eq_some_iff.1 h.row).1
theorem Blk.kept {b : Nat} {cs : Array Value} {ty : TypeId} {w w' : World} {G K : Nat → Prop} (h : Blk b cs ty w G) (hk : Kept K w w') (hd : ∀ k, G k → ¬ K k) : Blk b cs ty w' G :=
  ⟨(hk.block b h.lt' (hd b ((h.own b).2 rfl))).trans h.row, h.own⟩
def blkT (b : Nat) (cs : Array Value) (ty : TypeId) : Thg := ⟨Blk b cs ty, fun h hk hd => Blk.kept h hk hd, fun h k hk => by rw [(h.own k).1 hk]; exact h.lt'⟩
section
variable {w0 w w' : World} {Ts : List Thg} {i b : Nat} {cs : Array Value} {ty : TypeId} {G : Nat → Prop}
theorem Blk.set (h : Blk b cs ty w G) (j : Nat) (v : Value) : After (blkT b (cs.setIfInBounds j v) ty) w G (w.setCell ⟨b, j, none⟩ v) := by
  have hsz : (w.setCell ⟨b, j, none⟩ v).heap.size = w.heap.size := by simp [World.setCell]
  refine ⟨G, ⟨heap_setCell_same w b j _ _ v h.row, h.own⟩, Grew.refl _ _, ⟨rfl, rfl, rfl, by rw [hsz]; exact Nat.le_refl _, fun k _ hn => heap_setCell_other _ _ _ _ (fun e => hn ((h.own k).2 e))⟩⟩
/-- A new one. -/
theorem St.blk_new (h : St w0 Ts w) (cs : Array Value) (ty : TypeId) : St w0 (Ts ++ [blkT w.heap.size cs ty]) (w.alloc (.cells cs ty)) :=
  h.add ((Below.refl _ _).alloc (Nat.le_refl _) _) (T := blkT w.heap.size cs ty) (G := (· = w.heap.size)) ⟨heap_alloc_new w _, fun _ => Iff.rfl⟩ fun k hk => by rw [hk]; exact Nat.le_refl _
/-- Its cells, and what a store leaves. -/
theorem St.blk (h : St w0 Ts w) (hi : Ts[i]? = some (blkT b cs ty)) : (∀ j, w.cell? ⟨b, j, none⟩ = cs[j]?) ∧ (∀ j, w.frozen? ⟨b, j, none⟩ = false) ∧ b < w.heap.size ∧ ∀ j v, St w0 (Ts.set i (blkT b (cs.setIfInBounds j v) ty)) (w.setCell ⟨b, j, none⟩ v) := by
  obtain ⟨G, hp, _, hs⟩ := St.opened h hi
  have hp' : Blk b cs ty w G := hp
  have hr := hp'.row
  exact ⟨fun j => cell_of_row w b j _ _ _ hr, fun j => by simp [World.frozen?, hr], hp'.lt', fun j v => hs _ _ (hp'.set j v)⟩
end
section
variable {P : Program} {w0 w : World} {Ts : List Thg} {T T' : Thg} {i fn : Nat} {args : Array Value} {R : Ending → World → Prop}
/-- A call that changes one of the things. -/
theorem St.call (h : St w0 Ts w) (hi : Ts[i]? = some T) (hc : ∀ G, T.P w G → (∀ k, G k → w0.heap.size ≤ k) → Calls P fn args w fun e w' => R e w' ∧ After T' w G w') : Calls P fn args w fun e w' => R e w' ∧ St w0 (Ts.set i T') w' := by
  obtain ⟨G, hp, hG, hs⟩ := St.opened h hi
  exact (hc G hp hG).mono fun e w' ⟨h1, h2⟩ => ⟨h1, hs w' T' h2⟩
/-- A call that changes none of them. -/
theorem St.read (h : St w0 Ts w) (hi : Ts[i]? = some T) (hc : ∀ G, T.P w G → Calls P fn args w fun e w' => R e w' ∧ Below w.heap.size w w') : Calls P fn args w fun e w' => R e w' ∧ St w0 Ts w' := by
  obtain ⟨G, hp, hG, hs⟩ := St.opened h hi
  exact (hc G hp).mono fun e w' ⟨h1, h2⟩ => ⟨h1, h.below h2⟩
end
theorem After.next {T' : Thg} {w w1 w2 : World} {G G' : Nat → Prop} (hg : Grew w G G') (hk : Kept G w w1) (h : After T' w1 G' w2) : After T' w G w2 := by
  obtain ⟨G2, hp, hg2, hk2⟩ := h
  exact ⟨G2, hp, Grew.trans hk.size hg hg2, hk.trans hg hk2⟩

end Go.Proofs.YtmbhnhfnimijcaaDoor.Lk
