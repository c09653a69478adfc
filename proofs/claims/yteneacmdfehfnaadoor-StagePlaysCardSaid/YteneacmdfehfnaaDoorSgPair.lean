/-
  The document's stage among other things in memory: one contract for each call. What the walk of StagePlays asks.
-/
import Derived.Deep.DeepCutAuto
import Derived.Test.YteneacmdfehfnaaDoorSgSame
import Derived.Test.YteneacmdfehfnaaDoorSgErrD
import Derived.Test.YteneacmdfehfnaaDoorSgWalk
namespace Go.Proofs.YteneacmdfehfnaaDoor.Sg
open Go.RowKit
open Pk Dk Wn Lk Rc Fa

section
variable {w0 w : World} {Ts : List Thg} {i q f b : Nat} {m : Int} {L : List Rd}
theorem R_new (h : St w0 Ts w) (first : Int) : Calls Tryd.prog 8 #[.int .i64 first] w fun e w' => e = .returned (.pointer (some ⟨w.heap.size, 0, none⟩)) ∧ St w0 (Ts ++ [rstT w.heap.size [] 0 (beg first) 0]) w' :=
  (RNew_any first w).mono fun _ _ ⟨h1, ⟨_, h2, h3⟩, h4⟩ => ⟨h1, h.add h4 (T := rstT w.heap.size [] 0 (beg first) 0) h2 h3⟩
theorem R_taken (h : St w0 Ts w) (hi : Ts[i]? = some (rstT q L f b m)) {t : Nat} (ht : b + L.length = t) (htl : t ≤ 1152921504606846975) : Calls Tryd.prog 9 #[.pointer (some ⟨q, 0, none⟩)] w fun e w' => e = .returned (.int .i64 (t : Int)) ∧ St w0 Ts w' :=
  Lk.St.read (R := fun e _ => e = .returned (.int .i64 (t : Int))) h hi fun _ hp => RTaken_any hp ht htl
theorem R_take (h : St w0 Ts w) (hi : Ts[i]? = some (rstT q L f b m)) (r : Rd) (hd : r.d.size ≤ 9223372036854775807) {t : Nat} (ht : b + L.length = t) (htl : t ≤ 1152921504606846975) (hr : fits r t) (hf : L.length < 100000) : Calls Tryd.prog 11 #[.pointer (some ⟨q, 0, none⟩), r.val] w fun e w' => e = .returned (.int .i64 ((t : Int) + 1)) ∧ St w0 (Ts.set i (rstT q (L ++ [r]) f b m)) w' :=
  Lk.St.call (R := fun e _ => e = .returned (.int .i64 ((t : Int) + 1))) h hi fun _ hp _ => RTake_yes hp r hd ht htl hr hf
theorem R_refuse (h : St w0 Ts w) (hi : Ts[i]? = some (rstT q L f b m)) (r : Rd) (hd : r.d.size ≤ 9223372036854775807) {t : Nat} (ht : b + L.length = t) (htl : t ≤ 1152921504606846975) (hr : ¬ fits r t) : Calls Tryd.prog 11 #[.pointer (some ⟨q, 0, none⟩), r.val] w fun e w' => e = .returned (.int .i64 (t : Int)) ∧ St w0 Ts w' :=
  Lk.St.read (R := fun e _ => e = .returned (.int .i64 (t : Int))) h hi fun _ hp => by
    by_cases h1 : Rgt r.s r.k r.b r.d.size r.m
    · exact RTake_skip hp r hd ht htl ⟨fun e => hr ⟨e, h1⟩, h1⟩
    · exact RTake_bad hp r hd ht htl h1
theorem R_crash (h : St w0 Ts w) (hi : Ts[i]? = some (rstT q L f b m)) (keep : Int) {z : Nat} (hfl : f ≤ L.length) (hfew : L.length ≤ 100000) (hz : left keep f L.length = z) : Calls Tryd.prog 14 #[.pointer (some ⟨q, 0, none⟩), .int .i64 keep] w fun e w' => e = .returned (.tuple #[]) ∧ St w0 (Ts.set i (rstT q (L.take z) z b m)) w' :=
  Lk.St.call (R := fun e _ => e = .returned (.tuple #[])) h hi fun _ hp _ => RCrash_any hp keep hfl hfew hz
theorem R_upto (h : St w0 Ts w) (hi : Ts[i]? = some (rstT q L f b m)) (mark : Int) {k : Nat} (hfl : f ≤ L.length) (hfew : L.length ≤ 100000) (hk : reach mark (L.take f) = k) {z : Int} (hz : z = if k = 0 then -1 else (k : Int)) : Calls Tryd.prog 16 #[.pointer (some ⟨q, 0, none⟩), .int .i64 mark] w fun e w' => e = .returned (.int .i64 z) ∧ St w0 Ts w' :=
  Lk.St.read (R := fun e _ => e = .returned (.int .i64 z)) h hi fun _ hp => (RUpTo_any hp mark hfl hfew hk hz).mono fun _ _ ⟨h1, h2⟩ => ⟨h1, by rw [h2]; exact Below.refl _ _⟩
theorem R_drop_none (h : St w0 Ts w) (hi : Ts[i]? = some (rstT q L f b m)) (mark : Int) (hfl : f ≤ L.length) (hfew : L.length ≤ 100000) (hk : reach mark (L.take f) = 0) : Calls Tryd.prog 21 #[.pointer (some ⟨q, 0, none⟩), .int .i64 mark] w fun e w' => e = .returned (.int .i64 8) ∧ St w0 Ts w' :=
  Lk.St.read (R := fun e _ => e = .returned (.int .i64 8)) h hi fun _ hp => RDrop_none hp mark hfl hfew hk
theorem R_drop (h : St w0 Ts w) (hi : Ts[i]? = some (rstT q L f b m)) (mark : Int) {k : Nat} (hfl : f ≤ L.length) (hfew : L.length ≤ 100000) (hbb : b + L.length ≤ 1152921504606846975) (hk : reach mark (L.take f) = k) (h0 : 0 < k) : Calls Tryd.prog 21 #[.pointer (some ⟨q, 0, none⟩), .int .i64 mark] w fun e w' => e = .returned (.int .i64 0) ∧ St w0 (Ts.set i (rstT q (L.drop k) (f - k) (b + k) mark)) w' :=
  Lk.St.call (R := fun e _ => e = .returned (.int .i64 0)) h hi fun _ hp _ => RDrop_ok hp mark hfl hfew hbb hk h0
theorem ints_add {w' : World} {v : Value} {l : List Int} (h : St w0 Ts w) (hb : Below w.heap.size w w') (hv : Ints w' w.heap.size v l) : ∃ A c, v = .slice A l.length c ∧ St w0 (Ts ++ [rowT 3 1 (.slice A l.length c) l.length (nums l)]) w' := by
  obtain ⟨A, c, rfl, _, _, _⟩ := hv.form
  exact ⟨A, c, rfl, h.add hb (T := rowT 3 1 (.slice A l.length c) l.length (nums l)) (G := fun j => (Value.slice A l.length c).ownBlock = some j) ⟨hv.row, fun _ hk => hk, fun j hj => hv.row.lt j hj⟩ hv.own⟩
theorem S_marks2 {p : Nat} (h : St w0 Ts w) (hi : Ts[i]? = some (stgT p L f b m)) : Calls Tryd.prog 26 #[.pointer (some ⟨p, 0, none⟩)] w fun e w' => ∃ A c, e = .returned (.slice A (marks (L.take f)).length c) ∧ St w0 (Ts ++ [rowT 3 1 (.slice A (marks (L.take f)).length c) (marks (L.take f)).length (nums (marks (L.take f)))]) w' := by
  obtain ⟨G, hp, _, _⟩ := St.opened h hi
  refine (Marks_any (show Stg p L f b m w G from hp)).mono fun e w' ⟨v, h1, h2, h3⟩ => ?_
  obtain ⟨A, c, rfl, h4⟩ := ints_add h h3 h2
  exact ⟨A, c, h1, h4⟩
theorem R_marks2 (h : St w0 Ts w) (hi : Ts[i]? = some (rstT q L f b m)) (hfl : f ≤ L.length) (hfew : L.length ≤ 100000) : Calls Tryd.prog 27 #[.pointer (some ⟨q, 0, none⟩)] w fun e w' => ∃ A c, e = .returned (.slice A (marks (L.take f)).length c) ∧ St w0 (Ts ++ [rowT 3 1 (.slice A (marks (L.take f)).length c) (marks (L.take f)).length (nums (marks (L.take f)))]) w' := by
  obtain ⟨G, hp, _, _⟩ := St.opened h hi
  refine (RMarks_any (show (rstT q L f b m).P w G from hp) hfl hfew).mono fun e w' ⟨v, h1, h2, h3⟩ => ?_
  obtain ⟨A, c, rfl, h4⟩ := ints_add h h3 h2
  exact ⟨A, c, h1, h4⟩
/-- Its cells, and what a store leaves. -/
theorem R_view (h : St w0 Ts w) (hi : Ts[i]? = some (rstT q L f b m)) : ∃ A n c, n = L.length ∧ n ≤ c ∧ c ≤ maxLen ∧ Src w A (rcels L) ∧ w.cell? ⟨q, 0, none⟩ = some (.int .i64 ((b : Int) + 1)) ∧ w.cell? ⟨q, 1, none⟩ = some (.int .i64 (f : Int)) ∧ w.cell? ⟨q, 2, none⟩ = some (.int .i64 m) ∧ w.cell? ⟨q, 3, none⟩ = some (.slice A n c) ∧ (∀ j, w.frozen? ⟨q, j, none⟩ = false) ∧
    (∀ f' : Nat, St w0 (Ts.set i (rstT q L f' b m)) (w.setCell ⟨q, 1, none⟩ (.int .i64 (f' : Int)))) ∧ St w0 (Ts.set i (rstT q [] 0 b m)) ((w.setCell ⟨q, 3, none⟩ (.slice none 0 0)).setCell ⟨q, 1, none⟩ (.int .i64 0)) := by
  obtain ⟨G, hp, _, hs⟩ := St.opened h hi
  obtain ⟨A, n, c, h1, h2, h3, h4, h5, h6, h7, h8, h9, h10, h11⟩ := Rst.view (show (rstT q L f b m).P w G from hp)
  refine ⟨A, n, c, h2, h3, h4, h5, h7, h8, h9, h10, h11, fun f' => hs _ _ (Rst.of (X := .slice A n c) (One.set h1 1 (.int .i64 (f' : Int)))), hs _ _ ?_⟩
  have e1 := (One.same h1 (Below.refl _ _) (ORow.nil w 30 5) (fun k hk => by simp [Value.ownBlock] at hk) 3).2
  exact Rst.of (X := .slice none 0 0) (After.then e1 fun G1 hp1 => One.set hp1 1 (.int .i64 0))
end

section
variable {w0 w : World} {Ts : List Thg} {i q f b : Nat} {m : Int} {L : List Rd}
/-- Its slice told. -/
theorem R_open (h : St w0 Ts w) (hi : Ts[i]? = some (rstT q L f b m)) : ∃ A n c, n = L.length ∧ n ≤ c ∧ c ≤ maxLen ∧ St w0 (Ts.set i (rst1 q L f b m (.slice A n c))) w := by
  obtain ⟨G, hp, _, hs⟩ := St.opened h hi
  obtain ⟨A, n, c, h1, h2, h3, h4, _⟩ := Rst.view (show (rstT q L f b m).P w G from hp)
  exact ⟨A, n, c, h2, h3, h4, hs w _ ⟨G, h1, Grew.refl _ _, Kept.refl _ _⟩⟩
theorem R_cell {X : Value} (h : St w0 Ts w) (hi : Ts[i]? = some (rst1 q L f b m X)) : w.cell? ⟨q, 3, none⟩ = some X := by
  obtain ⟨G, hp, _, _⟩ := St.opened h hi
  exact One.cell (show (rst1 q L f b m X).P w G from hp) 3
theorem R_close {X : Value} (h : St w0 Ts w) (hi : Ts[i]? = some (rst1 q L f b m X)) : St w0 (Ts.set i (rstT q L f b m)) w := Lk.St.imp h hi fun _ hp => ⟨X, hp⟩
end

/-! ### An Op in a variable -/
abbrev oarr (q : Oq) : Array Value := #[.int .i64 q.kind, .int .i64 q.n, .int .i64 q.r.s, .int .i64 q.r.k, .int .i64 q.r.b, .string q.r.d, .int .i64 q.r.m, .bool q.next]
/-- The variable at a block. -/
def opT (g : Nat) (q : Oq) : Thg := blkT g (oarr q) 32
/-- With the next number. -/
def Oq.at (q : Oq) (t : Nat) : Oq := if q.next = true then { q with r := { q.r with s := (t : Int) + 1 } } else q
theorem Oq.at_kind (q : Oq) (t : Nat) : (q.at t).kind = q.kind := by unfold Oq.at; split <;> rfl
theorem Oq.at_n (q : Oq) (t : Nat) : (q.at t).n = q.n := by unfold Oq.at; split <;> rfl
theorem Oq.at_d (q : Oq) (t : Nat) : (q.at t).r.d = q.r.d := by unfold Oq.at; split <;> rfl
section
variable {w0 w : World} {Ts : List Thg} {i g : Nat} {o : Oq}
theorem O_view (h : St w0 Ts w) (hi : Ts[i]? = some (opT g o)) : w.cell? ⟨g, 0, none⟩ = some (.int .i64 o.kind) ∧ w.cell? ⟨g, 1, none⟩ = some (.int .i64 o.n) ∧ w.cell? ⟨g, 2, none⟩ = some (.int .i64 o.r.s) ∧ w.cell? ⟨g, 3, none⟩ = some (.int .i64 o.r.k) ∧ w.cell? ⟨g, 4, none⟩ = some (.int .i64 o.r.b) ∧ w.cell? ⟨g, 5, none⟩ = some (.string o.r.d) ∧ w.cell? ⟨g, 6, none⟩ = some (.int .i64 o.r.m) ∧ w.cell? ⟨g, 7, none⟩ = some (.bool o.next) ∧ ∀ j, w.frozen? ⟨g, j, none⟩ = false := by
  obtain ⟨h1, h2, _, _⟩ := St.blk h hi
  exact ⟨h1 0, h1 1, h1 2, h1 3, h1 4, h1 5, h1 6, h1 7, h2⟩
end

end Go.Proofs.YteneacmdfehfnaaDoor.Sg
