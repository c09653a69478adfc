/-
  A table among other things in memory: one contract for each of its calls. Plain consequences of the calls' own contracts.
-/
import Derived.Test.YtenenhhijkjjfaaDoorMkForget
import Derived.Test.YtenenhhijkjjfaaDoorMkOf
import Derived.Test.YtenenhhijkjjfaaDoorMkNewest
namespace Go.Proofs.YtenenhhijkjjfaaDoor.Mk
open Go.RowKit Go.Maps
open Pk Dk Wn Lk

/-- What a Put leaves, whatever is put. -/
def step (A : Int → List Int) (v m : Int) : Int → List Int := if (0 ≤ v ∧ v < 4) ∧ 1 ≤ m then put A v m else A
theorem mem_step {A : Int → List Int} {v m u x : Int} : x ∈ step A v m u ↔ (((0 ≤ v ∧ v < 4) ∧ 1 ≤ m) ∧ u = v ∧ x = m) ∨ x ∈ A u := by
  unfold step
  by_cases h : (0 ≤ v ∧ v < 4) ∧ 1 ≤ m
  · rw [if_pos h, mem_put]
    simp [h]
  · rw [if_neg h]
    simp [h]
section
variable {w0 w w' : World} {Ts : List Thg} {i p n : Nat} {A : Int → List Int}
theorem St.tbl_new (h : St w0 Ts w) : St w0 (Ts ++ [tblT w.heap.size (fun _ => []) 0]) (w.alloc (.cells #[.map none] 28)) :=
  h.add ((Below.refl _ _).alloc (Nat.le_refl _) _) (T := tblT w.heap.size (fun _ => []) 0) (Tbl.fresh w 0) fun k hk => (by rw [hk]; exact Nat.le_refl _)
theorem S_good (h : St w0 Ts w) (hi : Ts[i]? = some (tblT p A n)) : Good A := by
  obtain ⟨G, hp, _, _⟩ := St.opened h hi
  exact Tbl.good hp
/-- What a call returns besides. -/
def Some1 (e : Ending) : Prop := ∃ x, e = .returned x
theorem S_put (h : St w0 Ts w) (hi : Ts[i]? = some (tblT p A n)) {v m : Int} (hm : I64 m) (hn : n < 1000000) :
    Calls Tryd.prog 6 #[.pointer (some ⟨p, 0, none⟩), .int .i64 v, .int .i64 m] w fun e w' => Some1 e ∧ St w0 (Ts.set i (tblT p (step A v m) (n + 2))) w' := by
  refine Lk.St.call h hi fun G hp _ => ?_
  unfold step
  have keep : ∀ w', Below w.heap.size w w' → After (tblT p A (n + 2)) w G w' := fun w' hb => ⟨G, by
    obtain ⟨mb, F, h1⟩ := Tbl.below (show Tbl p A n w G from hp) hb
    exact ⟨mb, F, h1.mono (by omega)⟩, Grew.refl _ _, Kept.of_below hb⟩
  by_cases hv : 0 ≤ v ∧ v < 4
  · by_cases h1 : 1 ≤ m
    · rw [if_pos ⟨hv, h1⟩]
      exact (Put_ok hp hv ⟨h1, hm.2⟩ hn).mono fun e w' ⟨h2, h3⟩ => ⟨⟨_, h2⟩, h3⟩
    · rw [if_neg (fun h => h1 h.2)]
      exact (Put_arg hv (by omega) w).mono fun e w' ⟨q, h2, h3⟩ => ⟨⟨_, h2⟩, keep w' h3.2⟩
  · rw [if_neg (fun h => hv h.1)]
    exact (Put_range hv m w).mono fun e w' ⟨q, h2, h3⟩ => ⟨⟨_, h2⟩, keep w' h3.2⟩
theorem S_put_ok (h : St w0 Ts w) (hi : Ts[i]? = some (tblT p A n)) {v m : Int} (hv : 0 ≤ v ∧ v < 4) (hm : 1 ≤ m ∧ m ≤ 9223372036854775807) (hn : n < 1000000) :
    Calls Tryd.prog 6 #[.pointer (some ⟨p, 0, none⟩), .int .i64 v, .int .i64 m] w fun e w' => e = .returned .nilIface ∧ St w0 (Ts.set i (tblT p (put A v m) (n + 2))) w' :=
  Lk.St.call (R := fun e _ => e = .returned .nilIface) h hi fun _ hp _ => Put_ok hp hv hm hn
theorem S_forget (h : St w0 Ts w) (hi : Ts[i]? = some (tblT p A n)) {u : Int} (hu : I64 u) (t : Int) :
    Calls Tryd.prog 10 #[.pointer (some ⟨p, 0, none⟩), .int .i64 u, .int .i64 t] w fun e w' => e = .returned (.tuple #[]) ∧ St w0 (Ts.set i (tblT p (drop A u t) n)) w' :=
  Lk.St.call (R := fun e _ => e = .returned (.tuple #[])) h hi fun _ hp _ => Forget_any hp hu t
theorem S_newest (h : St w0 Ts w) (hi : Ts[i]? = some (tblT p A n)) (VA : Option Addr) (N c : Nat) (vs : List Int) (hn : vs.length = N) (hlim : N ≤ 100000) (hs : Src w VA (nums vs)) (hf : Fits vs) :
    Calls Tryd.prog 15 #[.pointer (some ⟨p, 0, none⟩), .slice VA N c] w fun e w' => NewR A vs e ∧ St w0 Ts w' :=
  Lk.St.read (R := fun e _ => NewR A vs e) h hi fun _ hp => Newest_any hp VA N c vs hn hlim hs hf
/-- A slice that a call made is a thing more. -/
theorem St.ints {v : Value} {l : List Int} (h : St w0 Ts w) (hI : Ints w' w.heap.size v l) (hb : Below w.heap.size w w') : ∃ VA c, v = .slice VA l.length c ∧ St w0 (Ts ++ [rowT 3 1 (.slice VA l.length c) l.length (nums l)]) w' := by
  obtain ⟨VA, c, rfl, _, _, _⟩ := hI.form
  exact ⟨VA, c, rfl, h.add hb (T := rowT 3 1 (.slice VA l.length c) l.length (nums l)) (G := fun k => (Value.slice VA l.length c).ownBlock = some k) ⟨hI.row, fun k hk => hk, fun k hk => hI.row.lt k hk⟩ fun k hk => hI.own k hk⟩
/-- What a call that makes a slice returns, and the slice among the things. -/
def RowR (w0 : World) (Ts : List Thg) (l : List Int) (e : Ending) (w' : World) : Prop := ∃ VA c, e = .returned (.slice VA l.length c) ∧ St w0 (Ts ++ [rowT 3 1 (.slice VA l.length c) l.length (nums l)]) w'
theorem S_of (h : St w0 Ts w) (hi : Ts[i]? = some (tblT p A n)) (hn : n ≤ 1000000) {u : Int} (hu : I64 u) :
    Calls Tryd.prog 13 #[.pointer (some ⟨p, 0, none⟩), .int .i64 u] w fun e w' => RowR w0 Ts (A u) e w' := by
  obtain ⟨G, hp, _, _⟩ := St.opened h hi
  refine (Of_any (show Tbl p A n w G from hp) (by omega) hu).mono ?_
  rintro e w' ⟨v, rfl, hI, hb⟩
  obtain ⟨VA, c, rfl, hS⟩ := St.ints h hI hb
  exact ⟨VA, c, rfl, hS⟩
theorem S_lacks (h : St w0 Ts w) (hi : Ts[i]? = some (tblT p A n)) {x : Int} (hx : I64 x) (VA : Option Addr) (N c : Nat) (vs : List Int) (hn : vs.length = N) (hlim : N ≤ 100000) (hs : Src w VA (nums vs)) (hf : Fits vs) :
    Calls Tryd.prog 17 #[.pointer (some ⟨p, 0, none⟩), .int .i64 x, .slice VA N c] w fun e w' => RowR w0 Ts (lack A x vs) e w' := by
  obtain ⟨G, hp, _, _⟩ := St.opened h hi
  refine (Lacks_any (show Tbl p A n w G from hp) hx VA N c vs hn hlim hs hf).mono ?_
  rintro e w' ⟨v, rfl, hI, hb⟩
  obtain ⟨VB, d, rfl, hS⟩ := St.ints h hI hb
  exact ⟨VB, d, rfl, hS⟩
end

end Go.Proofs.YtenenhhijkjjfaaDoor.Mk
