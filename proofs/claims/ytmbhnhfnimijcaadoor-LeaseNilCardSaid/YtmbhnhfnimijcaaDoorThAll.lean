/-
  Several things as one (a struct and what it points to), a thing whose shape is not told. Plain theorems, no program of the project.
-/
import Derived.Test.YtmbhnhfnimijcaaDoorThBlk
namespace Go.Proofs.YtmbhnhfnimijcaaDoor.Lk
open Go.RowKit
open Pk Dk Wn

/-- Several things, each in blocks of its own, as one. -/
structure All (Us : List Thg) (w : World) (G : Nat → Prop) : Prop where
  ex : ∃ C : Nat → Nat, (∀ k, G k ↔ C k ≠ 0) ∧ (∀ k, C k ≠ 0 → k < w.heap.size) ∧ ∀ (i : Nat) (T : Thg), Us[i]? = some T → T.P w (fun k => C k = i + 1)
theorem All.kept {Us : List Thg} {w w' : World} {G K : Nat → Prop} (h : All Us w G) (hk : Kept K w w') (hd : ∀ k, G k → ¬ K k) : All Us w' G := by
  obtain ⟨C, h1, h2, h3⟩ := h.ex
  exact ⟨C, h1, fun k hC => Nat.lt_of_lt_of_le (h2 k hC) hk.size, fun i T hi => T.kept (h3 i T hi) hk fun k hC => hd k ((h1 k).2 (by omega))⟩
theorem All.lt {Us : List Thg} {w : World} {G : Nat → Prop} (h : All Us w G) : ∀ k, G k → k < w.heap.size := by
  obtain ⟨C, h1, h2, _⟩ := h.ex
  exact fun k hk => h2 k ((h1 k).1 hk)
def allT (Us : List Thg) : Thg := ⟨All Us, fun h hk hd => All.kept h hk hd, fun h => h.lt⟩
/-- A thing of some shape. -/
def exT {α : Type} (F : α → Thg) : Thg := ⟨fun w G => ∃ a, (F a).P w G, fun ⟨a, h⟩ hk hd => ⟨a, (F a).kept h hk hd⟩, fun ⟨a, h⟩ => (F a).lt h⟩
section
variable {w0 w w' : World} {Ts Us : List Thg} {T T' : Thg} {i j : Nat} {G : Nat → Prop}
/-- One of them is looked at, and something becomes of it. -/
theorem All.opened (h : All Us w G) (hj : Us[j]? = some T) : ∃ Gj, T.P w Gj ∧ (∀ k, Gj k → G k) ∧ ∀ w' T', After T' w Gj w' → After (allT (Us.set j T')) w G w' := by
  obtain ⟨C, h1, h2, h3⟩ := h.ex
  refine ⟨fun k => C k = j + 1, h3 j T hj, fun k hk => (h1 k).2 (by omega), fun w' T' ⟨G', hp, hg, hk⟩ => ?_⟩
  have hjl : j < Us.length := (List.getElem?_eq_some_iff.1 hj).1
  classical
  refine ⟨fun k => (if G' k then j + 1 else if C k = j + 1 then 0 else C k) ≠ 0, ⟨⟨_, fun k => Iff.rfl, fun k hC => ?_, fun i U hi => ?_⟩⟩, fun k hC => ?_, ?_⟩
  · by_cases c1 : G' k
    · exact T'.lt hp k c1
    · by_cases c2 : C k = j + 1
      · simp [c1, c2] at hC
      · simp only [c1, c2, if_false] at hC
        exact Nat.lt_of_lt_of_le (h2 k hC) hk.size
  · rw [List.getElem?_set] at hi
    by_cases c1 : j = i
    · subst c1
      simp only [if_true, hjl, Option.some.injEq] at hi
      subst hi
      have : (fun k => (if G' k then j + 1 else if C k = j + 1 then 0 else C k) = j + 1) = G' := by
        funext k
        by_cases c1 : G' k
        · simp [c1]
        · by_cases c2 : C k = j + 1
          · simp [c1, c2]
          · simp [c1, c2]
      rw [this]
      exact hp
    · rw [if_neg c1] at hi
      have hU := U.kept (h3 i U hi) hk (fun k e1 e2 => c1 (by omega))
      have : (fun k => (if G' k then j + 1 else if C k = j + 1 then 0 else C k) = i + 1) = fun k => C k = i + 1 := by
        funext k
        have c4 : ¬ j = i := c1
        by_cases c2 : G' k
        · have c3 : C k ≠ i + 1 := by
            intro c3
            rcases hg k c2 with c4 | c4
            · omega
            · have := h2 k (by omega)
              omega
          simp [c2, c3, c4]
        · by_cases c3 : C k = j + 1
          · have c5 : ¬ C k = i + 1 := by omega
            simp [c2, c3, c4]
          · simp [c2, c3]
      rw [this]
      exact hU
  · by_cases c1 : G' k
    · rcases hg k c1 with c2 | c2
      · exact Or.inl ((h1 k).2 (by omega))
      · exact Or.inr c2
    · by_cases c2 : C k = j + 1
      · simp [c1, c2] at hC
      · simp only [c1, c2, if_false] at hC
        exact Or.inl ((h1 k).2 hC)
  · exact ⟨hk.os, hk.tape, hk.output, hk.size, fun k hl hn => hk.block k hl fun e => hn ((h1 k).2 (by omega))⟩
/-- Things side by side, as one. -/
theorem St.all (h : St w0 Ts w) : ∃ G, (allT Ts).P w G ∧ (∀ k, G k → w0.heap.size ≤ k) := by
  obtain ⟨C, h1, h2⟩ := h.ex
  exact ⟨fun k => C k ≠ 0, ⟨C, fun k => Iff.rfl, fun k hk => (h1 k hk).2, h2⟩, fun k hk => (h1 k hk).1⟩
/-- What was made is one thing more. -/
theorem St.pack (h : St w0 Ts w) (h2 : St w Us w') : St w0 (Ts ++ [allT Us]) w' := by
  obtain ⟨G, hp, hG⟩ := Lk.St.all h2
  exact h.add h2.bel (T := allT Us) hp hG
theorem St.imp (h : St w0 Ts w) (hi : Ts[i]? = some T) (f : ∀ G, T.P w G → T'.P w G) : St w0 (Ts.set i T') w := by
  obtain ⟨G, hp, _, hs⟩ := St.opened h hi
  exact hs w T' ⟨G, f G hp, Grew.refl _ _, Kept.refl _ _⟩
/-- A thing inside of one of them. -/
theorem St.inner (h : St w0 Ts w) (hi : Ts[i]? = some (allT Us)) (hj : Us[j]? = some T) : ∃ G, T.P w G ∧ (∀ k, G k → w0.heap.size ≤ k) ∧ ∀ w' T', After T' w G w' → St w0 (Ts.set i (allT (Us.set j T'))) w' := by
  obtain ⟨G, hp, hG, hs⟩ := St.opened h hi
  obtain ⟨Gj, hpj, hGj, hsj⟩ := All.opened hp hj
  exact ⟨Gj, hpj, fun k hk => hG k (hGj k hk), fun w' T' hA => hs w' _ (hsj w' T' hA)⟩
theorem St.inner_call {P : Program} {fn : Nat} {args : Array Value} {R : Ending → World → Prop} (h : St w0 Ts w) (hi : Ts[i]? = some (allT Us)) (hj : Us[j]? = some T) (hc : ∀ G, T.P w G → (∀ k, G k → w0.heap.size ≤ k) → Calls P fn args w fun e w' => R e w' ∧ After T' w G w') : Calls P fn args w fun e w' => R e w' ∧ St w0 (Ts.set i (allT (Us.set j T'))) w' := by
  obtain ⟨G, hp, hG, hs⟩ := St.inner h hi hj
  exact (hc G hp hG).mono fun e w' ⟨h1, h2⟩ => ⟨h1, hs w' T' h2⟩
theorem St.inner_read {P : Program} {fn : Nat} {args : Array Value} {R : Ending → World → Prop} (h : St w0 Ts w) (hi : Ts[i]? = some (allT Us)) (hj : Us[j]? = some T) (hc : ∀ G, T.P w G → Calls P fn args w fun e w' => R e w' ∧ Below w.heap.size w w') : Calls P fn args w fun e w' => R e w' ∧ St w0 Ts w' := by
  obtain ⟨G, hp, hG, hs⟩ := St.inner h hi hj
  exact (hc G hp).mono fun e w' ⟨h1, h2⟩ => ⟨h1, h.below h2⟩
end
section
variable {w w' w1 : World} {T : Thg} {G : Nat → Prop}
theorem Thg.below (h : T.P w G) (hb : Below w.heap.size w w') : T.P w' G := T.kept h (Kept.of_below (G := fun _ => False) hb) fun _ _ h => h
theorem Thg.after (h : T.P w G) (hb : Below w.heap.size w w') : After T w G w' := ⟨G, Thg.below h hb, Grew.refl _ _, Kept.of_below hb⟩
/-- Another thing of the same blocks. -/
theorem After.imp {T' : Thg} (h : After T w G w') (f : ∀ G', T.P w' G' → T'.P w' G') : After T' w G w' := by
  obtain ⟨G', hp, hg, hk⟩ := h
  exact ⟨G', f G' hp, hg, hk⟩
/-- One step behind another. -/
theorem After.then {T' : Thg} (h : After T w G w1) (f : ∀ G1, T.P w1 G1 → After T' w1 G1 w') : After T' w G w' := by
  obtain ⟨G1, hp, hg, hk⟩ := h
  exact After.next hg hk (f G1 hp)
end

/-! ### A struct with one slice of its own -/
section
variable {w W w2 : World} {G : Nat → Prop} {q n n' : Nat} {cs : Array Value} {ty e : TypeId} {size : Nat} {X v : Value} {xs ys : List Value}
def oneT (q : Nat) (cs : Array Value) (ty e : TypeId) (size : Nat) (X : Value) (n : Nat) (xs : List Value) : Thg := allT [blkT q cs ty, rowT e size X n xs]
theorem One.box (h : (oneT q cs ty e size X n xs).P w G) : w.heap[q]? = some (.cells cs ty (0, 0)) := by
  obtain ⟨G0, hp, _, _⟩ := All.opened h (j := 0) rfl
  exact Blk.row hp
theorem One.row (h : (oneT q cs ty e size X n xs).P w G) : ORow w e size X n xs := by
  obtain ⟨G0, hp, _, _⟩ := All.opened h (j := 1) rfl
  exact Row.row hp
theorem One.lt (h : (oneT q cs ty e size X n xs).P w G) : q < w.heap.size := (Array.getElem?_eq_some_iff.1 (One.box h)).1
theorem One.cell (h : (oneT q cs ty e size X n xs).P w G) (j : Nat) : w.cell? ⟨q, j, none⟩ = cs[j]? := cell_of_row w q j _ _ _ (One.box h)
theorem One.frozen (h : (oneT q cs ty e size X n xs).P w G) (j : Nat) : w.frozen? ⟨q, j, none⟩ = false := by
  have := One.box h
  simp [World.frozen?, this]
theorem One.set (h : (oneT q cs ty e size X n xs).P w G) (j : Nat) (u : Value) : After (oneT q (cs.setIfInBounds j u) ty e size X n xs) w G (w.setCell ⟨q, j, none⟩ u) := by
  obtain ⟨G0, hp, _, hs⟩ := All.opened h (j := 0) rfl
  exact hs _ (blkT q (cs.setIfInBounds j u) ty) (Blk.set hp j u)
/-- Another slice is put in its place. -/
theorem One.store (h : After (allT [blkT q cs ty, rowT e size v n' ys]) w G w2) (j : Nat) : w2.heap[q]? = some (.cells cs ty (0, 0)) ∧ After (oneT q (cs.setIfInBounds j v) ty e size v n' ys) w G (w2.setCell ⟨q, j, none⟩ v) := by
  refine ⟨?_, After.then h fun G1 h1 => One.set h1 j v⟩
  obtain ⟨G1, h1, _, _⟩ := h
  exact One.box h1
theorem One.put (h : (oneT q cs ty e size X n xs).P w G) (hb : Below w.heap.size w W) (hg : Grown W e size X n' ys v w2) (j : Nat) : w2.heap[q]? = some (.cells cs ty (0, 0)) ∧ After (oneT q (cs.setIfInBounds j v) ty e size v n' ys) w G (w2.setCell ⟨q, j, none⟩ v) := by
  refine One.store ?_ j
  obtain ⟨G1, hp, _, hs⟩ := All.opened h (j := 1) rfl
  exact hs w2 (rowT e size v n' ys) (Row.app hp hb hg)
theorem One.same (h : (oneT q cs ty e size X n xs).P w G) (hb : Below w.heap.size w w2) (hr : ORow w2 e size v n' ys) (ho : ∀ k, v.ownBlock = some k → X.ownBlock = some k) (j : Nat) : w2.heap[q]? = some (.cells cs ty (0, 0)) ∧ After (oneT q (cs.setIfInBounds j v) ty e size v n' ys) w G (w2.setCell ⟨q, j, none⟩ v) := by
  refine One.store ?_ j
  obtain ⟨G1, hp, _, hs⟩ := All.opened h (j := 1) rfl
  have hp' : Row e size X n xs w G1 := hp
  exact hs w2 (rowT e size v n' ys) ⟨G1, ⟨hr, fun k hk => hp'.own k (ho k hk), fun k hk => Nat.lt_of_lt_of_le (hp'.lt k hk) hb.size⟩, Grew.refl _ _, Kept.of_below hb⟩
theorem One.renew (h : (oneT q cs ty e size X n xs).P w G) (hb : Below w.heap.size w w2) (hr : ORow w2 e size v n' ys) (ho : ∀ k, v.ownBlock = some k → w.heap.size ≤ k) (j : Nat) : w2.heap[q]? = some (.cells cs ty (0, 0)) ∧ After (oneT q (cs.setIfInBounds j v) ty e size v n' ys) w G (w2.setCell ⟨q, j, none⟩ v) := by
  refine One.store ?_ j
  obtain ⟨G1, hp, _, hs⟩ := All.opened h (j := 1) rfl
  exact hs w2 (rowT e size v n' ys) ⟨fun k => v.ownBlock = some k, ⟨hr, fun k hk => hk, fun k hk => hr.lt k hk⟩, fun k hk => Or.inr (ho k hk), Kept.of_below hb⟩
theorem One.fresh (w : World) (cs : Array Value) (ty e : TypeId) (size : Nat) : ∃ G, (oneT w.heap.size cs ty e size (.slice none 0 0) 0 []).P (w.alloc (.cells cs ty)) G ∧ ∀ k, G k → w.heap.size ≤ k := by
  have h := St.blk_new (St.start w) cs ty
  have h2 := h.add (Below.refl _ _) (T := rowT e size (.slice none 0 0) 0 []) (G := fun _ => False) (Row.nil _ _ _) (fun _ h => h.elim)
  exact Lk.St.all h2
end

end Go.Proofs.YtmbhnhfnimijcaaDoor.Lk
