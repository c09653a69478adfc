/-
  Leases in plain numbers: the clock, a site, a fence, what each call answers and leaves; a site and a fence in memory. Plain theorems, no premise beyond those in each.
-/
import Derived.Test.YtmbhnhfnimijcaaDoorThAll
namespace Go.Proofs.YtmbhnhfnimijcaaDoor.Le
open Go.RowKit
open Pk Dk Wn Lk

def I64 (n : Int) : Prop := -9223372036854775808 ≤ n ∧ n ≤ 9223372036854775807
/-- The time of a call. -/
def tk (T n : Int) : Int := max T (min n 1152921504606846976)
theorem tk_ge (T n : Int) : T ≤ tk T n := by unfold tk; omega
theorem tk_le {T n : Int} (h : T ≤ 1152921504606846976) : tk T n ≤ 1152921504606846976 := by unfold tk; omega
theorem tk_now {T n : Int} (h : T ≤ n) (hn : n ≤ 1152921504606846976) : tk T n = n := by unfold tk; omega
theorem tk_old {T n : Int} (h : n ≤ T) : tk T n = T := by unfold tk; omega

/-- A site: the latest time, the epoch, until when it may acknowledge. -/
structure Sit where
  t : Int
  e : Int
  u : Int
/-- A fence: the latest time, the last epoch, from when on it is in effect, until when leases last. -/
structure Fen where
  t : Int
  l : Int
  f : Int
  u : Int
structure Sit.Ok (s : Sit) : Prop where
  t0 : 0 ≤ s.t
  t1 : s.t ≤ 1152921504606846976
  e0 : 0 ≤ s.e
  e1 : s.e ≤ 9223372036854775807
  u0 : 0 ≤ s.u
  u1 : s.u ≤ 1152921504606846986
structure Fen.Ok (s : Fen) : Prop where
  t0 : 0 ≤ s.t
  t1 : s.t ≤ 1152921504606846976
  l0 : 0 ≤ s.l
  l1 : s.l ≤ 1073741824
  f0 : 0 ≤ s.f
  f1 : s.f ≤ 1152921504606846986
  u0 : 0 ≤ s.u
  u1 : s.u ≤ 1152921504606846986
def Sit.tick (s : Sit) (n : Int) : Sit := ⟨tk s.t n, s.e, s.u⟩
def Sit.gE (s : Sit) (e : Int) : Int := if e < 1 then 1 else if e < s.e then 10 else 0
def Sit.grant (s : Sit) (e n : Int) : Sit := if s.gE e = 0 then ⟨tk s.t n, e, tk s.t n + 10⟩ else s.tick n
def Sit.cE (s : Sit) (e n : Int) : Int := if e ≠ s.e ∨ s.e = 0 then 10 else if s.u ≤ tk s.t n then 11 else 0
def Fen.tick (s : Fen) (n : Int) : Fen := ⟨tk s.t n, s.l, s.f, s.u⟩
def Fen.rE (s : Fen) (e n : Int) : Int := if e ≠ s.l ∨ s.l = 0 then 10 else if tk s.t n < s.f then 9 else 0
def Fen.renew (s : Fen) (e n : Int) : Fen := if s.rE e n = 0 then ⟨tk s.t n, s.l, s.f, tk s.t n + 10⟩ else s.tick n
def Fen.pE (s : Fen) : Int := if 1073741824 ≤ s.l then 6 else 0
def Fen.prom (s : Fen) (n : Int) : Fen := if s.pE = 0 then ⟨tk s.t n, s.l + 1, max (tk s.t n) s.u, s.u⟩ else s.tick n
def Fen.hold (s : Fen) (n : Int) : Int := if tk s.t n < s.f then 0 else s.l
def s0 : Sit := ⟨0, 0, 0⟩
def f0 : Fen := ⟨0, 0, 0, 0⟩
theorem s0_ok : s0.Ok := by constructor <;> decide
theorem f0_ok : f0.Ok := by constructor <;> decide
theorem tk_ok {T n : Int} (h0 : 0 ≤ T) (h1 : T ≤ 1152921504606846976) : 0 ≤ tk T n ∧ tk T n ≤ 1152921504606846976 := by unfold tk; omega
theorem Sit.Ok.tick {s : Sit} (h : s.Ok) (n : Int) : (s.tick n).Ok := ⟨(tk_ok h.t0 h.t1).1, (tk_ok h.t0 h.t1).2, h.e0, h.e1, h.u0, h.u1⟩
theorem Sit.gE_ok {s : Sit} {e : Int} (h : s.gE e = 0) : 1 ≤ e ∧ s.e ≤ e := by
  unfold Sit.gE at h
  split at h
  · omega
  · split at h <;> omega
theorem Sit.Ok.grant {s : Sit} (h : s.Ok) (e n : Int) (he : e ≤ 9223372036854775807) : (s.grant e n).Ok := by
  have ht := tk_ok (n := n) h.t0 h.t1
  unfold Sit.grant
  split
  · rename_i hg
    have := Sit.gE_ok hg
    exact ⟨ht.1, ht.2, by simp only; omega, he, by simp only; omega, by simp only; omega⟩
  · exact h.tick n
theorem Fen.Ok.tick {s : Fen} (h : s.Ok) (n : Int) : (s.tick n).Ok := ⟨(tk_ok h.t0 h.t1).1, (tk_ok h.t0 h.t1).2, h.l0, h.l1, h.f0, h.f1, h.u0, h.u1⟩
theorem Fen.Ok.renew {s : Fen} (h : s.Ok) (e n : Int) : (s.renew e n).Ok := by
  have ht := tk_ok (n := n) h.t0 h.t1
  unfold Fen.renew
  split
  · exact ⟨ht.1, ht.2, h.l0, h.l1, h.f0, h.f1, by simp only; omega, by simp only; omega⟩
  · exact h.tick n
theorem Fen.pE_ok {s : Fen} (h : s.pE = 0) : s.l < 1073741824 := by
  unfold Fen.pE at h
  split at h <;> omega
theorem Fen.prom_ok {s : Fen} {n : Int} (h : s.l < 1073741824) : s.prom n = ⟨tk s.t n, s.l + 1, max (tk s.t n) s.u, s.u⟩ := by
  unfold Fen.prom
  rw [if_pos (by unfold Fen.pE; rw [if_neg (by omega)])]
theorem Fen.prom_no {s : Fen} {n : Int} (h : 1073741824 ≤ s.l) : s.prom n = s.tick n := by
  unfold Fen.prom
  rw [if_neg (by unfold Fen.pE; rw [if_pos h]; decide)]
theorem Fen.Ok.prom {s : Fen} (h : s.Ok) (n : Int) : (s.prom n).Ok := by
  have ht := tk_ok (n := n) h.t0 h.t1
  have h0 := h.u0
  have h1 := h.u1
  have h2 := h.l0
  unfold Fen.prom
  split
  · rename_i hp
    have := Fen.pE_ok hp
    exact ⟨ht.1, ht.2, by simp only; omega, by simp only; omega, by simp only; omega, by simp only; omega, h0, h1⟩
  · exact h.tick n

/-- A site in memory, and a fence. -/
def scs (s : Sit) : Array Value := #[.int .i64 s.t, .int .i64 s.e, .int .i64 s.u]
def fcs (s : Fen) : Array Value := #[.int .i64 s.t, .int .i64 s.l, .int .i64 s.f, .int .i64 s.u]
def sitT (q : Nat) (s : Sit) : Thg := blkT q (scs s) 28
def fenT (q : Nat) (s : Fen) : Thg := blkT q (fcs s) 34

section
variable {w0 w w' : World} {Ts : List Thg} {i q : Nat}
theorem St.same {T : Thg} (h : St w0 Ts w) (hi : Ts[i]? = some T) (hb : Below w.heap.size w w') : St w0 (Ts.set i T) w' := by
  obtain ⟨G, hp, _, hs⟩ := St.opened h hi
  exact hs _ _ (Lk.Thg.after hp hb)
theorem St.site (h : St w0 Ts w) {s : Sit} (hi : Ts[i]? = some (sitT q s)) : w.cell? ⟨q, 0, none⟩ = some (.int .i64 s.t) ∧ w.cell? ⟨q, 1, none⟩ = some (.int .i64 s.e) ∧ w.cell? ⟨q, 2, none⟩ = some (.int .i64 s.u) ∧ (∀ j, w.frozen? ⟨q, j, none⟩ = false) ∧ q < w.heap.size := by
  obtain ⟨h1, h2, h3, _⟩ := Lk.St.blk h hi
  exact ⟨h1 0, h1 1, h1 2, h2, h3⟩
theorem St.fence (h : St w0 Ts w) {s : Fen} (hi : Ts[i]? = some (fenT q s)) : w.cell? ⟨q, 0, none⟩ = some (.int .i64 s.t) ∧ w.cell? ⟨q, 1, none⟩ = some (.int .i64 s.l) ∧ w.cell? ⟨q, 2, none⟩ = some (.int .i64 s.f) ∧ w.cell? ⟨q, 3, none⟩ = some (.int .i64 s.u) ∧ (∀ j, w.frozen? ⟨q, j, none⟩ = false) ∧ q < w.heap.size := by
  obtain ⟨h1, h2, h3, _⟩ := Lk.St.blk h hi
  exact ⟨h1 0, h1 1, h1 2, h1 3, h2, h3⟩
end

end Go.Proofs.YtmbhnhfnimijcaaDoor.Le
