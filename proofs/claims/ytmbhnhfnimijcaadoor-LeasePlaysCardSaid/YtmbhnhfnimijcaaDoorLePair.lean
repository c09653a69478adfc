/-
  A call of the document's leaves every other block as it is: so the error that was answered before it is the same behind it. Plain consequences of the calls' own contracts.
-/
import Derived.Test.YtmbhnhfnimijcaaDoorLeRef
import Derived.Test.YtmbhnhfnimijcaaDoorLeWalk
namespace Go.Proofs.YtmbhnhfnimijcaaDoor.Le
open Go.RowKit
open Pk Sm Fa Dk Wn Lk

/-- A world with nothing in it. -/
def emp (w : World) : World := { w with heap := #[] }
/-- All blocks of a world but one. -/
def restT (w : World) (q : Nat) : Thg :=
  ⟨fun w' G => w.heap.size ≤ w'.heap.size ∧ (∀ k, G k ↔ k < w.heap.size ∧ k ≠ q) ∧ ∀ k, k < w.heap.size → k ≠ q → w'.heap[k]? = w.heap[k]?,
   fun ⟨h1, h2, h3⟩ hk hd => ⟨Nat.le_trans h1 hk.size, h2, fun k hk1 hk2 => (hk.block k (Nat.lt_of_lt_of_le hk1 h1) (hd k ((h2 k).2 ⟨hk1, hk2⟩))).trans (h3 k hk1 hk2)⟩,
   fun ⟨h1, h2, _⟩ k hk => Nat.lt_of_lt_of_le ((h2 k).1 hk).1 h1⟩
theorem St.bare {w : World} {q : Nat} {cs : Array Value} {ty : TypeId} (h : w.heap[q]? = some (.cells cs ty (0, 0))) : St (emp w) [blkT q cs ty, restT w q] w := by
  have hq : q < w.heap.size := (Array.getElem?_eq_some_iff.1 h).1
  refine ⟨⟨fun k => if k = q then 1 else if k < w.heap.size then 2 else 0, fun k hk => ⟨Nat.zero_le _, ?_⟩, fun i T hi => ?_⟩, ⟨rfl, rfl, rfl, Nat.zero_le _, fun k hk => absurd hk (Nat.not_lt_zero k)⟩⟩
  · by_cases h1 : k = q
    · rw [h1]; exact hq
    · simp only [h1, if_false] at hk
      by_cases h2 : k < w.heap.size
      · exact h2
      · simp [h2] at hk
  · rcases i with _ | _ | i
    · simp only [List.getElem?_cons_zero, Option.some.injEq] at hi
      subst hi
      refine ⟨h, fun k => ?_⟩
      by_cases h1 : k = q
      · simp [h1]
      · by_cases h2 : k < w.heap.size <;> simp [h1, h2]
    · simp only [List.getElem?_cons_succ, List.getElem?_cons_zero, Option.some.injEq] at hi
      subst hi
      refine ⟨Nat.le_refl _, fun k => ?_, fun _ _ _ => rfl⟩
      by_cases h1 : k = q
      · simp [h1]
      · by_cases h2 : k < w.heap.size <;> simp [h1, h2]
    · simp at hi
theorem St.un_bare {w w' : World} {q : Nat} {cs : Array Value} {ty : TypeId} {G : Nat → Prop} (hG : ∀ k, G k ↔ k = q) (h : St (emp w) [blkT q cs ty, restT w q] w') : After (blkT q cs ty) w G w' ∧ ∀ k, k < w.heap.size → k ≠ q → w'.heap[k]? = w.heap[k]? := by
  obtain ⟨G0, hp, _, _⟩ := St.opened h (i := 0) rfl
  obtain ⟨G1, hr, _, _⟩ := St.opened h (i := 1) rfl
  have hp' : Blk q cs ty w' G0 := hp
  obtain ⟨h1, _, h3⟩ := hr
  have hb := h.bel
  refine ⟨⟨G, ⟨hp'.row, hG⟩, Grew.refl _ _, ⟨hb.os, hb.tape, hb.output, h1, fun k hk hn => h3 k hk fun e => hn ((hG k).2 e)⟩⟩, h3⟩
theorem Err.keep {w w' : World} {q : Nat} {cs : Array Value} {ty : TypeId} (h : w.heap[q]? = some (.cells cs ty (0, 0))) (hty : ty ≠ 74) (hk : ∀ k, k < w.heap.size → k ≠ q → w'.heap[k]? = w.heap[k]?) {v : Value} {r k : Int} (hE : Err w v r k) : Err w' v r k := by
  rcases hE with hE | ⟨h1, p, h2, h3⟩
  · exact Or.inl hE
  · refine Or.inr ⟨h1, p, h2, (hk p h3.lt fun e => ?_).trans h3⟩
    subst e
    have h3' : w.heap[p]? = _ := h3
    rw [h] at h3'
    simp only [Option.some.injEq, Obj.cells.injEq] at h3'
    exact hty h3'.2.1
/-- A contract for a call on a block, among any things: what it leaves as it is. -/
theorem Calls.frame {P : Program} {w0 w : World} {Ts : List Thg} {i q fn : Nat} {args : Array Value} {cs cs' : Array Value} {ty : TypeId} {R : Ending → Prop}
    (hc : ∀ (w0 : World) (Ts : List Thg) (i : Nat), St w0 Ts w → Ts[i]? = some (blkT q cs ty) → Calls P fn args w fun e w' => R e ∧ St w0 (Ts.set i (blkT q cs' ty)) w')
    (hty : ty ≠ 74) (h : St w0 Ts w) (hi : Ts[i]? = some (blkT q cs ty)) :
    Calls P fn args w fun e w' => R e ∧ St w0 (Ts.set i (blkT q cs' ty)) w' ∧ ∀ v r k, Err w v r k → Err w' v r k := by
  obtain ⟨G, hp, _, hs⟩ := St.opened h hi
  have hp' : Blk q cs ty w G := hp
  refine (hc (emp w) [blkT q cs ty, restT w q] 0 (St.bare hp'.row) rfl).mono ?_
  rintro e w' ⟨hR, hS⟩
  obtain ⟨hA, hk⟩ := St.un_bare hp'.own (cs := cs') hS
  exact ⟨hR, hs _ _ hA, fun v r k hE => hE.keep hp'.row hty hk⟩
section
variable {w0 w : World} {Ts : List Thg} {i q : Nat}
theorem K_grant (h : St w0 Ts w) {s : Sit} (hi : Ts[i]? = some (rsitT q s)) (hs : s.Ok) (e n : Int) :
    Calls Tryd.prog 12 #[.pointer (some ⟨q, 0, none⟩), .int .i64 e, .int .i64 n] w fun r w' => r = .returned (.int .i64 (s.gE e)) ∧ St w0 (Ts.set i (rsitT q (s.grant e n))) w' ∧ ∀ v r k, Err w v r k → Err w' v r k :=
  Calls.frame (cs := rscs s) (fun _ _ _ h hi => R_grant h hi hs e n) (by decide) h hi
theorem K_check (h : St w0 Ts w) {s : Sit} (hi : Ts[i]? = some (rsitT q s)) (e n : Int) :
    Calls Tryd.prog 14 #[.pointer (some ⟨q, 0, none⟩), .int .i64 e, .int .i64 n] w fun r w' => r = .returned (.int .i64 (s.cE e n)) ∧ St w0 (Ts.set i (rsitT q (s.tick n))) w' ∧ ∀ v r k, Err w v r k → Err w' v r k :=
  Calls.frame (cs := rscs s) (fun _ _ _ h hi => R_check h hi e n) (by decide) h hi
theorem K_renew (h : St w0 Ts w) {s : Fen} (hi : Ts[i]? = some (rfenT q s)) (hs : s.Ok) (e n : Int) :
    Calls Tryd.prog 18 #[.pointer (some ⟨q, 0, none⟩), .int .i64 e, .int .i64 n] w fun r w' => r = .returned (.int .i64 (s.rE e n)) ∧ St w0 (Ts.set i (rfenT q (s.renew e n))) w' ∧ ∀ v r k, Err w v r k → Err w' v r k :=
  Calls.frame (cs := rfcs s) (fun _ _ _ h hi => R_renew h hi hs e n) (by decide) h hi
theorem K_prom_ok (h : St w0 Ts w) {s : Fen} (hi : Ts[i]? = some (rfenT q s)) (hs : s.Ok) (n : Int) (hl : s.l < 1073741824) :
    Calls Tryd.prog 16 #[.pointer (some ⟨q, 0, none⟩), .int .i64 n] w fun r w' => r = .returned (.tuple #[.int .i64 (s.l + 1), .int .i64 (max (tk s.t n) s.u), .int .i64 0]) ∧ St w0 (Ts.set i (rfenT q (s.prom n))) w' ∧ ∀ v r k, Err w v r k → Err w' v r k :=
  Calls.frame (cs := rfcs s) (fun _ _ _ h hi => R_prom_ok h hi hs n hl) (by decide) h hi
theorem K_prom_no (h : St w0 Ts w) {s : Fen} (hi : Ts[i]? = some (rfenT q s)) (hs : s.Ok) (n : Int) (hl : 1073741824 ≤ s.l) :
    Calls Tryd.prog 16 #[.pointer (some ⟨q, 0, none⟩), .int .i64 n] w fun r w' => r = .returned (.tuple #[.int .i64 0, .int .i64 0, .int .i64 6]) ∧ St w0 (Ts.set i (rfenT q (s.prom n))) w' ∧ ∀ v r k, Err w v r k → Err w' v r k :=
  Calls.frame (cs := rfcs s) (fun _ _ _ h hi => R_prom_no h hi hs n hl) (by decide) h hi
/-- Both sites and both fences, made one behind the other. -/
theorem St.new_four (w : World) : St w [sitT w.heap.size s0, rsitT (w.heap.size + 1) s0, fenT (w.heap.size + 1 + 1) f0, rfenT (w.heap.size + 1 + 1 + 1) f0]
    ((((w.alloc (.cells #[.int .i64 0, .int .i64 0, .int .i64 0] 28)).alloc (.cells #[.int .i64 0, .int .i64 0, .int .i64 0] 31)).alloc (.cells #[.int .i64 0, .int .i64 0, .int .i64 0, .int .i64 0] 34)).alloc (.cells #[.int .i64 0, .int .i64 0, .int .i64 0, .int .i64 0] 37)) := by
  have h := Lk.St.blk_new (Lk.St.blk_new (Lk.St.blk_new (Lk.St.blk_new (St.start w) (scs s0) 28) (rscs s0) 31) (fcs f0) 34) (rfcs f0) 37
  simp only [World.size_alloc, List.nil_append, List.cons_append] at h
  exact h
end

end Go.Proofs.YtmbhnhfnimijcaaDoor.Le
