/-
  The calls of a site and of a fence where it is known what they answer and leave. Plain consequences of the calls' own contracts.
-/
import Derived.Test.YtmbhnhfnimijcaaDoorLePlace
namespace Go.Proofs.YtmbhnhfnimijcaaDoor.Le
open Go.RowKit
open Pk Sm Fa Dk Wn Lk

theorem Sit.gE_zero {s : Sit} {e : Int} (h1 : 1 ≤ e) (h2 : s.e ≤ e) : s.gE e = 0 := by
  unfold Sit.gE
  rw [if_neg (by omega), if_neg (by omega)]
theorem Sit.grant_ok {s : Sit} {e n : Int} (h1 : 1 ≤ e) (h2 : s.e ≤ e) : s.grant e n = ⟨tk s.t n, e, tk s.t n + 10⟩ := by
  unfold Sit.grant
  rw [if_pos (Sit.gE_zero h1 h2)]
theorem Sit.cE_zero {s : Sit} {n : Int} (h1 : s.e ≠ 0) (h2 : tk s.t n < s.u) : s.cE s.e n = 0 := by
  unfold Sit.cE
  rw [if_neg (by intro h; rcases h with h | h; · exact h rfl
                 · exact h1 h), if_neg (by omega)]
theorem Sit.cE_stale {s : Sit} {e n : Int} (h : e ≠ s.e) : s.cE e n = 10 := by
  unfold Sit.cE
  rw [if_pos (Or.inl h)]
theorem Sit.cE_late {s : Sit} {n : Int} (h1 : s.e ≠ 0) (h2 : s.u ≤ tk s.t n) : s.cE s.e n = 11 := by
  unfold Sit.cE
  rw [if_neg (by intro h; rcases h with h | h; · exact h rfl
                 · exact h1 h), if_pos h2]
theorem Fen.rE_zero {s : Fen} {n : Int} (h1 : s.l ≠ 0) (h2 : s.f ≤ tk s.t n) : s.rE s.l n = 0 := by
  unfold Fen.rE
  rw [if_neg (by intro h; rcases h with h | h; · exact h rfl
                 · exact h1 h), if_neg (by omega)]
theorem Fen.renew_ok {s : Fen} {n : Int} (h1 : s.l ≠ 0) (h2 : s.f ≤ tk s.t n) : s.renew s.l n = ⟨tk s.t n, s.l, s.f, tk s.t n + 10⟩ := by
  unfold Fen.renew
  rw [if_pos (Fen.rE_zero h1 h2)]
theorem Fen.rE_stale {s : Fen} {e n : Int} (h : e ≠ s.l) : s.rE e n = 10 := by
  unfold Fen.rE
  rw [if_pos (Or.inl h)]
theorem Fen.rE_early {s : Fen} {n : Int} (h1 : s.l ≠ 0) (h2 : tk s.t n < s.f) : s.rE s.l n = 9 := by
  unfold Fen.rE
  rw [if_neg (by intro h; rcases h with h | h; · exact h rfl
                 · exact h1 h), if_pos h2]
theorem Fen.renew_no {s : Fen} {e n : Int} (h : s.rE e n ≠ 0) : s.renew e n = s.tick n := by
  unfold Fen.renew
  rw [if_neg h]

section
variable {w0 w : World} {Ts : List Thg} {i q : Nat}
theorem S_grant_is (h : St w0 Ts w) {s s' : Sit} (hi : Ts[i]? = some (sitT q s)) (hs : s.Ok) (e n : Int) {k : Int} (hk : s.gE e = k) (hg : s.grant e n = s') :
    Calls Tryd.prog 11 #[.pointer (some ⟨q, 0, none⟩), .int .i64 e, .int .i64 n] w fun r w' => Ans w0 (Ts.set i (sitT q s')) e k r w' := by
  subst hk hg
  exact S_grant h hi hs e n
theorem S_check_is (h : St w0 Ts w) {s s' : Sit} (hi : Ts[i]? = some (sitT q s)) (e n : Int) {k : Int} (hk : s.cE e n = k) (hg : s.tick n = s') :
    Calls Tryd.prog 13 #[.pointer (some ⟨q, 0, none⟩), .int .i64 e, .int .i64 n] w fun r w' => Ans w0 (Ts.set i (sitT q s')) e k r w' := by
  subst hk hg
  exact S_check h hi e n
theorem S_renew_is (h : St w0 Ts w) {s s' : Fen} (hi : Ts[i]? = some (fenT q s)) (hs : s.Ok) (e n : Int) {k : Int} (hk : s.rE e n = k) (hg : s.renew e n = s') :
    Calls Tryd.prog 17 #[.pointer (some ⟨q, 0, none⟩), .int .i64 e, .int .i64 n] w fun r w' => Ans w0 (Ts.set i (fenT q s')) e k r w' := by
  subst hk hg
  exact S_renew h hi hs e n
theorem S_holds_is (h : St w0 Ts w) {s s' : Fen} (hi : Ts[i]? = some (fenT q s)) (n : Int) {k : Int} (hk : s.hold n = k) (hg : s.tick n = s') :
    Calls Tryd.prog 19 #[.pointer (some ⟨q, 0, none⟩), .int .i64 n] w fun r w' => r = .returned (.int .i64 k) ∧ St w0 (Ts.set i (fenT q s')) w' := by
  subst hk hg
  exact S_holds h hi n
theorem S_prom_is (h : St w0 Ts w) {s s' : Fen} (hi : Ts[i]? = some (fenT q s)) (hs : s.Ok) (n : Int) (hl : s.l < 1073741824) {a b : Int} (ha : s.l + 1 = a) (hb : max (tk s.t n) s.u = b) (hg : s.prom n = s') :
    Calls Tryd.prog 15 #[.pointer (some ⟨q, 0, none⟩), .int .i64 n] w fun r w' => r = .returned (.tuple #[.int .i64 a, .int .i64 b, .nilIface]) ∧ St w0 (Ts.set i (fenT q s')) w' := by
  subst ha hb hg
  refine (S_prom_ok h hi hs n hl).mono ?_
  rintro r w' ⟨v, rfl, hE, hS⟩
  obtain rfl := hE.ok
  exact ⟨rfl, hS⟩
/-- A call whose answer is no error. -/
theorem Calls.ok {fn : Nat} {args : Array Value} {r : Int} (h : Calls Tryd.prog fn args w fun e w' => Ans w0 Ts r 0 e w') : Calls Tryd.prog fn args w fun e w' => e = .returned .nilIface ∧ St w0 Ts w' :=
  h.mono fun e w' ⟨v, he, hE, hS⟩ => by
    obtain rfl := hE.ok
    exact ⟨he, hS⟩
/-- A call whose answer is an error. -/
theorem Calls.no {fn : Nat} {args : Array Value} {r k : Int} (h : Calls Tryd.prog fn args w fun e w' => Ans w0 Ts r k e w') (hk : k ≠ 0) : Calls Tryd.prog fn args w fun e w' => ∃ p, e = .returned (.iface 72 (.pointer (some ⟨p, 0, none⟩))) ∧ Flt w' p r k ∧ St w0 Ts w' :=
  h.mono fun e w' ⟨v, he, hE, hS⟩ => by
    obtain ⟨p, rfl, hF⟩ := hE.no hk
    exact ⟨p, he, hF, hS⟩
/-- fault.Code of an error, among things. -/
theorem S_code (h : St w0 Ts w) (hty : Ety w) {v : Value} {r k : Int} (hE : Err w v r k) :
    Calls Tryd.prog 22 #[v] w fun e w' => e = .returned (.int .i64 k) ∧ St w0 Ts w' :=
  (Code_err hty hE).mono fun _ _ ⟨h1, h2⟩ => ⟨h1, h.below h2⟩
theorem St.new_site (h : St w0 Ts w) : St w0 (Ts ++ [sitT w.heap.size s0]) (w.alloc (.cells #[.int .i64 0, .int .i64 0, .int .i64 0] 28)) := Lk.St.blk_new h (scs s0) 28
theorem St.new_fence (h : St w0 Ts w) : St w0 (Ts ++ [fenT w.heap.size f0]) (w.alloc (.cells #[.int .i64 0, .int .i64 0, .int .i64 0, .int .i64 0] 34)) := Lk.St.blk_new h (fcs f0) 34
/-- A site and a fence, made one behind the other. -/
theorem St.new_both (w : World) : St w [sitT w.heap.size s0, fenT (w.heap.size + 1) f0] ((w.alloc (.cells #[.int .i64 0, .int .i64 0, .int .i64 0] 28)).alloc (.cells #[.int .i64 0, .int .i64 0, .int .i64 0, .int .i64 0] 34)) := by
  have h := St.new_fence (St.new_site (St.start w))
  rw [show (World.alloc w (.cells #[.int .i64 0, .int .i64 0, .int .i64 0] 28)).heap.size = w.heap.size + 1 by simp] at h
  exact h
end

end Go.Proofs.YtmbhnhfnimijcaaDoor.Le
