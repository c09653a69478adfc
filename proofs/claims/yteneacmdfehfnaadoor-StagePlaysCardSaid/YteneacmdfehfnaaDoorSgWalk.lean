/-
  A stage among other things in memory: one contract for each call. What the statements' walks share.
-/
import Derived.Test.YteneacmdfehfnaaDoorSgAwake
import Derived.Test.YteneacmdfehfnaaDoorSgOp
namespace Go.Proofs.YteneacmdfehfnaaDoor.Sg
open Go.RowKit
open Pk Dk Wn Lk Rc

section
variable {w0 w : World} {Ts : List Thg} {i p f b : Nat} {m : Int} {L : List Rd}
theorem S_new (h : St w0 Ts w) (first : Int) : Calls Tryd.prog 7 #[.int .i64 first] w fun e w' => e = .returned (.pointer (some ⟨w.heap.size, 0, none⟩)) ∧ St w0 (Ts ++ [stgT w.heap.size [] 0 (beg first) 0]) w' :=
  (New_any first w).mono fun e w' ⟨h1, h2, h3⟩ => ⟨h1, h.add h3 (T := stgT w.heap.size [] 0 (beg first) 0) h2 fun k hk => by rw [hk]; exact Nat.le_refl _⟩
theorem S_last (h : St w0 Ts w) (hi : Ts[i]? = some (stgT p L f b m)) {t u : Nat} (ht : b + L.length = t) (hu : b + f = u) : Calls Tryd.prog 23 #[.pointer (some ⟨p, 0, none⟩)] w fun e w' => e = .returned (.tuple #[.int .i64 (t : Int), .int .i64 (u : Int)]) ∧ St w0 Ts w' :=
  Lk.St.read (R := fun e _ => e = .returned (.tuple #[.int .i64 (t : Int), .int .i64 (u : Int)])) h hi fun _ hp => Last_any hp ht hu
theorem S_dropped (h : St w0 Ts w) (hi : Ts[i]? = some (stgT p L f b m)) : Calls Tryd.prog 24 #[.pointer (some ⟨p, 0, none⟩)] w fun e w' => e = .returned (.tuple #[.int .i64 (b : Int), .int .i64 m]) ∧ St w0 Ts w' :=
  Lk.St.read (R := fun e _ => e = .returned (.tuple #[.int .i64 (b : Int), .int .i64 m])) h hi fun _ hp => Dropped_any hp
theorem S_flush (h : St w0 Ts w) (hi : Ts[i]? = some (stgT p L f b m)) : Calls Tryd.prog 12 #[.pointer (some ⟨p, 0, none⟩)] w fun e w' => e = .returned (.tuple #[]) ∧ St w0 (Ts.set i (stgT p L L.length b m)) w' :=
  Lk.St.call (R := fun e _ => e = .returned (.tuple #[])) h hi fun _ hp _ => Flush_any hp
theorem S_crash (h : St w0 Ts w) (hi : Ts[i]? = some (stgT p L f b m)) (keep : Int) {q : Nat} (hq : left keep f L.length = q) : Calls Tryd.prog 13 #[.pointer (some ⟨p, 0, none⟩), .int .i64 keep] w fun e w' => e = .returned (.tuple #[]) ∧ St w0 (Ts.set i (stgT p (L.take q) q b m)) w' :=
  Lk.St.call (R := fun e _ => e = .returned (.tuple #[])) h hi fun _ hp _ => Crash_any hp keep hq
theorem S_cut (h : St w0 Ts w) (hi : Ts[i]? = some (stgT p L f b m)) : Calls Tryd.prog 22 #[.pointer (some ⟨p, 0, none⟩)] w fun e w' => e = .returned (.int .i64 (L.length : Int)) ∧ St w0 (Ts.set i (stgT p [] 0 b m)) w' :=
  Lk.St.call (R := fun e _ => e = .returned (.int .i64 (L.length : Int))) h hi fun _ hp _ => Cut_any hp
theorem S_take (h : St w0 Ts w) (hi : Ts[i]? = some (stgT p L f b m)) (r : Rd) (hd : r.d.size ≤ 9223372036854775807) {t : Nat} (ht : b + L.length = t) (hr : fits r t) (hf : L.length < 100000) : Calls Tryd.prog 10 #[.pointer (some ⟨p, 0, none⟩), r.val] w fun e w' => e = .returned (.int .i64 ((t : Int) + 1)) ∧ St w0 (Ts.set i (stgT p (L ++ [r]) f b m)) w' :=
  Lk.St.call (R := fun e _ => e = .returned (.int .i64 ((t : Int) + 1))) h hi fun _ hp _ => Take_yes hp r hd ht hr hf
theorem S_refuse (h : St w0 Ts w) (hi : Ts[i]? = some (stgT p L f b m)) (r : Rd) (hd : r.d.size ≤ 9223372036854775807) {t : Nat} (ht : b + L.length = t) (hr : ¬ fits r t) : Calls Tryd.prog 10 #[.pointer (some ⟨p, 0, none⟩), r.val] w fun e w' => e = .returned (.int .i64 (t : Int)) ∧ St w0 Ts w' :=
  Lk.St.read (R := fun e _ => e = .returned (.int .i64 (t : Int))) h hi fun _ hp => Take_no hp r hd ht hr
theorem S_marks (h : St w0 Ts w) (hi : Ts[i]? = some (stgT p L f b m)) : Calls Tryd.prog 26 #[.pointer (some ⟨p, 0, none⟩)] w fun e w' => (∃ v, e = .returned v ∧ Ints w' w.heap.size v (marks (L.take f))) ∧ St w0 Ts w' :=
  Lk.St.read (R := fun e w' => ∃ v, e = .returned v ∧ Ints w' w.heap.size v (marks (L.take f))) h hi fun _ hp => (Marks_any hp).mono fun _ _ ⟨v, h1, h2, h3⟩ => ⟨⟨v, h1, h2⟩, h3⟩
theorem S_upto_none (h : St w0 Ts w) (hi : Ts[i]? = some (stgT p L f b m)) (mark : Int) (hk : reach mark (L.take f) = 0) : Calls Tryd.prog 15 #[.pointer (some ⟨p, 0, none⟩), .int .i64 mark] w fun e w' => e = .returned (.tuple #[.slice none 0 0, .bool false]) ∧ St w0 Ts w' :=
  Lk.St.read (R := fun e _ => e = .returned (.tuple #[.slice none 0 0, .bool false])) h hi fun _ hp => UpTo_none hp mark hk
theorem S_upto (h : St w0 Ts w) (hi : Ts[i]? = some (stgT p L f b m)) (mark : Int) {k : Nat} (hk : reach mark (L.take f) = k) (h0 : 0 < k) : Calls Tryd.prog 15 #[.pointer (some ⟨p, 0, none⟩), .int .i64 mark] w fun e w' => ∃ A c, e = .returned (.tuple #[.slice A k c, .bool true]) ∧ k ≤ c ∧ c ≤ maxLen ∧ St w0 (Ts ++ [rowT 30 5 (.slice A k c) k (rcels (L.take k))]) w' := by
  obtain ⟨G, hp, hG, hset⟩ := St.opened h hi
  refine (UpTo_some (show Stg p L f b m w G from hp) mark hk h0).mono fun e w' ⟨v, h1, h2, h3, h4⟩ => ?_
  obtain ⟨A, c, rfl, h5, h6, _⟩ := h2.form
  exact ⟨A, c, h1, h5, h6, h.add h4 (T := rowT 30 5 (.slice A k c) k (rcels (L.take k))) (G := fun j => (Value.slice A k c).ownBlock = some j) ⟨h2, fun _ hk => hk, fun j hj => h2.lt j hj⟩ h3⟩
theorem S_drop_none (h : St w0 Ts w) (hi : Ts[i]? = some (stgT p L f b m)) (mark : Int) (hk : reach mark (L.take f) = 0) : Calls Tryd.prog 18 #[.pointer (some ⟨p, 0, none⟩), .int .i64 mark] w fun e w' => (∃ q, e = .returned (.iface 64 (.pointer (some ⟨q, 0, none⟩))) ∧ SFlt w' (.iface 64 (.pointer (some ⟨q, 0, none⟩))) mark) ∧ St w0 Ts w' :=
  Lk.St.read (R := fun e w' => ∃ q, e = .returned (.iface 64 (.pointer (some ⟨q, 0, none⟩))) ∧ SFlt w' (.iface 64 (.pointer (some ⟨q, 0, none⟩))) mark) h hi fun _ hp => (Drop_none hp mark hk).mono fun _ _ ⟨v, h1, h2, h3⟩ => ⟨⟨v, h1, h2⟩, h3⟩
theorem S_drop (h : St w0 Ts w) (hi : Ts[i]? = some (stgT p L f b m)) (mark : Int) {k : Nat} (hk : reach mark (L.take f) = k) (h0 : 0 < k) : Calls Tryd.prog 18 #[.pointer (some ⟨p, 0, none⟩), .int .i64 mark] w fun e w' => e = .returned .nilIface ∧ St w0 (Ts.set i (stgT p (L.drop k) (f - k) (b + k) mark)) w' :=
  Lk.St.call (R := fun e _ => e = .returned .nilIface) h hi fun _ hp _ => Drop_ok hp mark hk h0
theorem S_facts (h : St w0 Ts w) (hi : Ts[i]? = some (stgT p L f b m)) : f ≤ L.length ∧ L.length ≤ 100000 ∧ b + L.length ≤ 1152921504606846975 ∧ Run b L := by
  obtain ⟨G, hp, _, _⟩ := St.opened h hi
  have hp' : Stg p L f b m w G := hp
  exact ⟨hp'.fl, hp'.few, hp'.run.sum hp'.bb, hp'.run⟩
end

end Go.Proofs.YteneacmdfehfnaaDoor.Sg
