/-
  Both tables among other things in memory: one contract for each of their calls, the error's number told. Plain consequences of the calls' own contracts.
-/
import Derived.Test.YtenenhhijkjjfaaDoorMkErrD
import Derived.Test.YtenenhhijkjjfaaDoorMkRefD
namespace Go.Proofs.YtenenhhijkjjfaaDoor.Mk
open Go.RowKit Go.Maps
open Pk Dk Wn Lk Fa

theorem code_zero {v m : Int} : code v m = 0 ↔ (0 ≤ v ∧ v < 4) ∧ 1 ≤ m := by
  unfold code
  by_cases hv : 0 ≤ v ∧ v < 4
  · rw [if_pos hv]
    by_cases h1 : m < 1
    · rw [if_pos h1]
      omega
    · rw [if_neg h1]
      omega
  · rw [if_neg hv]
    omega
/-- No list is longer than that. -/
def Lens (A : Int → List Int) (k : Nat) : Prop := ∀ u, (A u).length ≤ k
theorem Lens.step {A : Int → List Int} {k : Nat} (h : Lens A k) (v m : Int) : Lens (step A v m) (k + 1) := fun u => by
  unfold Mk.step
  by_cases h1 : (0 ≤ v ∧ v < 4) ∧ 1 ≤ m
  · rw [if_pos h1]
    unfold put
    by_cases e : u = v
    · rw [if_pos e]
      exact Nat.le_trans ins_length (by have := h v; omega)
    · rw [if_neg e]
      have := h u
      omega
  · rw [if_neg h1]
    have := h u
    omega
theorem Lens.drop {A : Int → List Int} {k : Nat} (h : Lens A k) (v t : Int) : Lens (drop A v t) (k + 1) := fun u => by
  unfold Mk.drop
  by_cases e : u = v
  · rw [if_pos e]
    have := List.length_filter_le (fun m => decide (t < m)) (A v)
    have := h v
    omega
  · rw [if_neg e]
    have := h u
    omega
theorem Lens.wide {A : Int → List Int} {k : Nat} (h : Lens A k) : Lens A (k + 1) := fun u => Nat.le_succ_of_le (h u)
section
variable {w0 w w' : World} {Ts : List Thg} {i p q n : Nat} {A : Int → List Int}
theorem S_wide (h : St w0 Ts w) (hi : Ts[i]? = some (tblT p A n)) {n' : Nat} (hn : n ≤ n') : St w0 (Ts.set i (tblT p A n')) w :=
  St.imp h hi fun _ ⟨mb, F, hp⟩ => ⟨mb, F, hp.mono hn⟩
theorem S_put_yes (h : St w0 Ts w) (hi : Ts[i]? = some (tblT p A n)) {v m : Int} (hm : I64 m) (hc : code v m = 0) (hn : n < 1000000) :
    Calls Tryd.prog 6 #[.pointer (some ⟨p, 0, none⟩), .int .i64 v, .int .i64 m] w fun e w' => e = .returned .nilIface ∧ St w0 (Ts.set i (tblT p (step A v m) (n + 2))) w' := by
  have h1 := code_zero.1 hc
  unfold step
  rw [if_pos h1]
  exact S_put_ok h hi h1.1 ⟨h1.2, hm.2⟩ hn
theorem S_put_no (h : St w0 Ts w) (hi : Ts[i]? = some (tblT p A n)) {v m : Int} (hc : code v m ≠ 0) :
    Calls Tryd.prog 6 #[.pointer (some ⟨p, 0, none⟩), .int .i64 v, .int .i64 m] w fun e w' => ∃ b, e = .returned (.iface 60 (.pointer (some ⟨b, 0, none⟩))) ∧ Flt w' b v (code v m) ∧ St w0 (Ts.set i (tblT p (step A v m) (n + 2))) w' := by
  have h1 : ¬ ((0 ≤ v ∧ v < 4) ∧ 1 ≤ m) := fun h => hc (code_zero.2 h)
  have e : step A v m = A := by unfold step; rw [if_neg h1]
  rw [e]
  have keep : ∀ w', Below w.heap.size w w' → St w0 (Ts.set i (tblT p A (n + 2))) w' := fun w' hb => (S_wide h hi (Nat.le_add_right n 2)).below hb
  unfold code
  by_cases hv : 0 ≤ v ∧ v < 4
  · rw [if_pos hv, if_pos (by omega)]
    exact (Put_arg hv (by omega) w).mono fun e w' ⟨b, h2, h3⟩ => ⟨b, h2, h3.1, keep w' h3.2⟩
  · rw [if_neg hv]
    exact (Put_range hv m w).mono fun e w' ⟨b, h2, h3⟩ => ⟨b, h2, h3.1, keep w' h3.2⟩
theorem R_put (h : St w0 Ts w) (hi : Ts[i]? = some (rtbT q A)) {k : Nat} (hA : Lens A k) (hk : k ≤ 100000) (v : Int) {m : Int} (hm : I64 m) :
    Calls Tryd.prog 9 #[.pointer (some ⟨q, 0, none⟩), .int .i64 v, .int .i64 m] w fun e w' => e = .returned (.int .i64 (code v m)) ∧ St w0 (Ts.set i (rtbT q (step A v m))) w' :=
  Lk.St.call (R := fun e _ => e = .returned (.int .i64 (code v m))) h hi fun _ ⟨_, hp⟩ _ => RPut_any hp (fun u => Nat.le_trans (hA u) hk) v hm
theorem R_forget (h : St w0 Ts w) (hi : Ts[i]? = some (rtbT q A)) {k : Nat} (hA : Lens A k) (hk : k ≤ 100000) (u t : Int) :
    Calls Tryd.prog 11 #[.pointer (some ⟨q, 0, none⟩), .int .i64 u, .int .i64 t] w fun e w' => e = .returned (.tuple #[]) ∧ St w0 (Ts.set i (rtbT q (drop A u t))) w' :=
  Lk.St.call (R := fun e _ => e = .returned (.tuple #[])) h hi fun _ ⟨_, hp⟩ _ => RForget_any hp (fun u => Nat.le_trans (hA u) hk) u t
theorem R_of (h : St w0 Ts w) (hi : Ts[i]? = some (rtbT q A)) (u : Int) :
    Calls Tryd.prog 14 #[.pointer (some ⟨q, 0, none⟩), .int .i64 u] w fun e w' => (∃ RA c, e = .returned (.slice RA (A u).length c) ∧ Src w RA (nums (A u))) ∧ w' = w := by
  obtain ⟨G, ⟨s, hp⟩, _, _⟩ := St.opened h hi
  exact ROf_any hp u
theorem R_newest (h : St w0 Ts w) (hi : Ts[i]? = some (rtbT q A)) {k : Nat} (hA : Lens A k) (hk : k ≤ 100000) (VA : Option Addr) (N c : Nat) (vs : List Int) (hn : vs.length = N) (hlim : N ≤ 100000) (hs : Src w VA (nums vs)) :
    Calls Tryd.prog 16 #[.pointer (some ⟨q, 0, none⟩), .slice VA N c] w fun e w' => NewR A vs e ∧ St w0 Ts w' :=
  Lk.St.read (R := fun e _ => NewR A vs e) h hi fun _ ⟨_, hp⟩ => RNewest_any hp (fun u => Nat.le_trans (hA u) hk) VA N c vs hn hlim hs
theorem R_lacks (h : St w0 Ts w) (hi : Ts[i]? = some (rtbT q A)) {k : Nat} (hA : Lens A k) (hk : k ≤ 100000) (x : Int) (VA : Option Addr) (N c : Nat) (vs : List Int) (hn : vs.length = N) (hlim : N ≤ 100000) (hs : Src w VA (nums vs)) :
    Calls Tryd.prog 18 #[.pointer (some ⟨q, 0, none⟩), .int .i64 x, .slice VA N c] w fun e w' => RowR w0 Ts (lack A x vs) e w' := by
  obtain ⟨G, ⟨s, hp⟩, _, _⟩ := St.opened h hi
  refine (RLacks_any hp (fun u => Nat.le_trans (hA u) hk) x VA N c vs hn hlim hs).mono ?_
  rintro e w' ⟨v, rfl, hI, hb⟩
  obtain ⟨VB, d, rfl, hS⟩ := St.ints h hI hb
  exact ⟨VB, d, rfl, hS⟩
theorem St.rtb_new (h : St w0 Ts w) : St w0 (Ts ++ [rtbT w.heap.size (fun _ => [])]) (w.alloc (.cells #[.slice none 0 0, .slice none 0 0, .slice none 0 0, .slice none 0 0] 32)) :=
  h.add ((Below.refl _ _).alloc (Nat.le_refl _) _) (T := rtbT w.heap.size (fun _ => [])) (RtbA.fresh w) fun k hk => (by rw [hk]; exact Nat.le_refl _)
end

end Go.Proofs.YtenenhhijkjjfaaDoor.Mk
