/-
  A link among other things in memory: what each call leaves of all of them. Nothing that was there before is changed.
-/
import Derived.Test.YtidojlagdodkkaaDoorLsOps
namespace Go.Proofs.YtidojlagdodkkaaDoor.Ls
open Go.RowKit
open Pk Dk Wn Lk

section
variable {w0 w : World} {Ts : List Thg} {i p R : Nat} {C : Bool} {L : List ByteArray}
/-- A new one is the last thing. -/
theorem New_st (h : St w0 Ts w) (r : Int) : Calls Tryd.prog 9 #[.int .i64 r] w fun e w' => ∃ p, e = .returned (.pointer (some ⟨p, 0, none⟩)) ∧ Hid (St w0 (Ts ++ [lnkT p [] (cap r) false]) w') := by
  refine (New_any r w).mono ?_
  rintro e w' ⟨rfl, hl, hb⟩
  exact ⟨_, rfl, h.add hb (T := lnkT w.heap.size [] (cap r) false) hl (fun k hk => by rw [hk]; exact Nat.le_refl _)⟩
theorem lens (h : St w0 Ts w) (hi : Ts[i]? = some (lnkT p L R C)) : L.length ≤ R ∧ R ≤ 4096 := by
  obtain ⟨G, hp, _, _⟩ := St.opened h hi
  exact ⟨Lnk.len hp, Lnk.room hp⟩
theorem Len_st (h : St w0 Ts w) (hi : Ts[i]? = some (lnkT p L R C)) : Calls Tryd.prog 22 #[.pointer (some ⟨p, 0, none⟩)] w fun e w' => e = .returned (.int .i64 (L.length : Int)) ∧ Below w.heap.size w w' := by
  obtain ⟨G, hp, _, _⟩ := St.opened h hi
  exact Len_any hp
theorem Send_st (h : St w0 Ts w) (hi : Ts[i]? = some (lnkT p L R C)) (x : ByteArray) : Calls Tryd.prog 11 #[.pointer (some ⟨p, 0, none⟩), .string x] w fun e w' =>
    (L.length < R ∧ e = .returned .nilIface ∧ Hid (St w0 (Ts.set i (lnkT p (L ++ [x]) R C)) w')) ∨
    (L.length = R ∧ ∃ q, e = .returned (.iface 67 (.pointer (some ⟨q, 0, none⟩))) ∧ Hid (Fails w (L.length : Int) 6 q w')) := by
  have hl := (lens h hi).1
  obtain ⟨G, hp, _, hs⟩ := St.opened h hi
  by_cases hf : L.length < R
  · refine (Send_ok hp hf x).mono ?_
    rintro e w' ⟨rfl, hA⟩
    exact Or.inl ⟨hf, rfl, hs _ _ hA⟩
  · refine (Send_full hp (by omega) x).mono ?_
    rintro e w' ⟨q, rfl, hF⟩
    exact Or.inr ⟨by omega, q, rfl, hF⟩
/-- With room. -/
theorem Send_room (h : St w0 Ts w) (hi : Ts[i]? = some (lnkT p L R C)) (x : ByteArray) (hf : L.length < R) : Calls Tryd.prog 11 #[.pointer (some ⟨p, 0, none⟩), .string x] w fun e w' => e = .returned .nilIface ∧ Hid (St w0 (Ts.set i (lnkT p (L ++ [x]) R C)) w') := by
  obtain ⟨G, hp, _, hs⟩ := St.opened h hi
  refine (Send_ok hp hf x).mono ?_
  rintro e w' ⟨rfl, hA⟩
  exact ⟨rfl, hs _ _ hA⟩
/-- Without. -/
theorem Send_none (h : St w0 Ts w) (hi : Ts[i]? = some (lnkT p L R C)) (x : ByteArray) (hf : L.length = R) : Calls Tryd.prog 11 #[.pointer (some ⟨p, 0, none⟩), .string x] w fun e w' => ∃ q, e = .returned (.iface 67 (.pointer (some ⟨q, 0, none⟩))) ∧ Hid (Fails w (L.length : Int) 6 q w') := by
  obtain ⟨G, hp, _, hs⟩ := St.opened h hi
  exact Send_full hp hf x
theorem index_cases (L : List ByteArray) (j : Int) : (∃ (k : Nat) (x : ByteArray), j = (k : Int) ∧ L[k]? = some x) ∨ (j < 0 ∨ (L.length : Int) ≤ j) := by
  by_cases h : j < 0 ∨ (L.length : Int) ≤ j
  · exact Or.inr h
  · refine Or.inl ⟨j.toNat, L[j.toNat]'(by omega), by omega, List.getElem?_eq_getElem (by omega)⟩
theorem Deliver_st (h : St w0 Ts w) (hi : Ts[i]? = some (lnkT p L R C)) (j : Int) : Calls Tryd.prog 13 #[.pointer (some ⟨p, 0, none⟩), .int .i64 j] w fun e w' =>
    (∃ (k : Nat) (x : ByteArray), j = (k : Int) ∧ C = false ∧ L[k]? = some x ∧ e = .returned (.tuple #[.string x, .nilIface]) ∧ Hid (St w0 (Ts.set i (lnkT p (L.eraseIdx k) R C)) w')) ∨
    (∃ (q : Nat) (n : Int), e = .returned (.tuple #[.string ⟨#[]⟩, .iface 67 (.pointer (some ⟨q, 0, none⟩))]) ∧ Hid (Fails w j n q w') ∧ Hid ((C = true ∧ n = 11) ∨ (C = false ∧ (j < 0 ∨ (L.length : Int) ≤ j) ∧ n = 5))) := by
  obtain ⟨G, hp, _, hs⟩ := St.opened h hi
  cases C with
  | true =>
    refine (Deliver_cut hp j).mono ?_
    rintro e w' ⟨q, rfl, hF⟩
    exact Or.inr ⟨q, 11, rfl, hF, Or.inl ⟨rfl, rfl⟩⟩
  | false =>
    rcases index_cases L j with ⟨k, x, rfl, hk⟩ | hj
    · refine (Deliver_ok hp k x hk).mono ?_
      rintro e w' ⟨rfl, hA⟩
      exact Or.inl ⟨k, x, rfl, rfl, hk, rfl, hs _ _ hA⟩
    · refine (Deliver_none hp j hj).mono ?_
      rintro e w' ⟨q, rfl, hF⟩
      exact Or.inr ⟨q, 5, rfl, hF, Or.inr ⟨rfl, hj, rfl⟩⟩
/-- A message that is there, of a link that isn't cut. -/
theorem Deliver_at (h : St w0 Ts w) (hi : Ts[i]? = some (lnkT p L R false)) (k : Nat) (x : ByteArray) (hk : L[k]? = some x) : Calls Tryd.prog 13 #[.pointer (some ⟨p, 0, none⟩), .int .i64 (k : Int)] w fun e w' => e = .returned (.tuple #[.string x, .nilIface]) ∧ Hid (St w0 (Ts.set i (lnkT p (L.eraseIdx k) R false)) w') := by
  obtain ⟨G, hp, _, hs⟩ := St.opened h hi
  refine (Deliver_ok hp k x hk).mono ?_
  rintro e w' ⟨rfl, hA⟩
  exact ⟨rfl, hs _ _ hA⟩
theorem Deliver_none_st (h : St w0 Ts w) (hi : Ts[i]? = some (lnkT p L R false)) (j : Int) (hj : j < 0 ∨ (L.length : Int) ≤ j) : Calls Tryd.prog 13 #[.pointer (some ⟨p, 0, none⟩), .int .i64 j] w fun e w' => ∃ q, e = .returned (.tuple #[.string ⟨#[]⟩, .iface 67 (.pointer (some ⟨q, 0, none⟩))]) ∧ Hid (Fails w j 5 q w') := by
  obtain ⟨G, hp, _, hs⟩ := St.opened h hi
  exact Deliver_none hp j hj
theorem Deliver_cut_st (h : St w0 Ts w) (hi : Ts[i]? = some (lnkT p L R true)) (j : Int) : Calls Tryd.prog 13 #[.pointer (some ⟨p, 0, none⟩), .int .i64 j] w fun e w' => ∃ q, e = .returned (.tuple #[.string ⟨#[]⟩, .iface 67 (.pointer (some ⟨q, 0, none⟩))]) ∧ Hid (Fails w j 11 q w') := by
  obtain ⟨G, hp, _, hs⟩ := St.opened h hi
  exact Deliver_cut hp j
theorem Double_st (h : St w0 Ts w) (hi : Ts[i]? = some (lnkT p L R C)) (j : Int) : Calls Tryd.prog 15 #[.pointer (some ⟨p, 0, none⟩), .int .i64 j] w fun e w' =>
    (∃ (k : Nat) (x : ByteArray), j = (k : Int) ∧ L.length < R ∧ L[k]? = some x ∧ e = .returned .nilIface ∧ Hid (St w0 (Ts.set i (lnkT p (L ++ [x]) R C)) w')) ∨
    (∃ (q : Nat) (n : Int), e = .returned (.iface 67 (.pointer (some ⟨q, 0, none⟩))) ∧ Hid (Fails w j n q w') ∧ Hid (((j < 0 ∨ (L.length : Int) ≤ j) ∧ n = 5) ∨ (∃ (k : Nat) (x : ByteArray), j = (k : Int) ∧ L[k]? = some x ∧ L.length = R ∧ n = 6))) := by
  have hl := (lens h hi).1
  obtain ⟨G, hp, _, hs⟩ := St.opened h hi
  rcases index_cases L j with ⟨k, x, rfl, hk⟩ | hj
  · by_cases hf : L.length < R
    · refine (Double_ok hp hf k x hk).mono ?_
      rintro e w' ⟨rfl, hA⟩
      exact Or.inl ⟨k, x, rfl, hf, hk, rfl, hs _ _ hA⟩
    · refine (Double_full hp (by omega) k (List.getElem?_eq_some_iff.1 hk).1).mono ?_
      rintro e w' ⟨q, rfl, hF⟩
      exact Or.inr ⟨q, 6, rfl, hF, Or.inr ⟨k, x, rfl, hk, by omega, rfl⟩⟩
  · refine (Double_none hp j hj).mono ?_
    rintro e w' ⟨q, rfl, hF⟩
    exact Or.inr ⟨q, 5, rfl, hF, Or.inl ⟨hj, rfl⟩⟩
theorem Double_at (h : St w0 Ts w) (hi : Ts[i]? = some (lnkT p L R C)) (k : Nat) (x : ByteArray) (hk : L[k]? = some x) (hf : L.length < R) : Calls Tryd.prog 15 #[.pointer (some ⟨p, 0, none⟩), .int .i64 (k : Int)] w fun e w' => e = .returned .nilIface ∧ Hid (St w0 (Ts.set i (lnkT p (L ++ [x]) R C)) w') := by
  obtain ⟨G, hp, _, hs⟩ := St.opened h hi
  refine (Double_ok hp hf k x hk).mono ?_
  rintro e w' ⟨rfl, hA⟩
  exact ⟨rfl, hs _ _ hA⟩
theorem Double_none_st (h : St w0 Ts w) (hi : Ts[i]? = some (lnkT p L R C)) (j : Int) (hj : j < 0 ∨ (L.length : Int) ≤ j) : Calls Tryd.prog 15 #[.pointer (some ⟨p, 0, none⟩), .int .i64 j] w fun e w' => ∃ q, e = .returned (.iface 67 (.pointer (some ⟨q, 0, none⟩))) ∧ Hid (Fails w j 5 q w') := by
  obtain ⟨G, hp, _, hs⟩ := St.opened h hi
  exact Double_none hp j hj
theorem Double_full_st (h : St w0 Ts w) (hi : Ts[i]? = some (lnkT p L R C)) (k : Nat) (hk : k < L.length) (hf : L.length = R) : Calls Tryd.prog 15 #[.pointer (some ⟨p, 0, none⟩), .int .i64 (k : Int)] w fun e w' => ∃ q, e = .returned (.iface 67 (.pointer (some ⟨q, 0, none⟩))) ∧ Hid (Fails w (k : Int) 6 q w') := by
  obtain ⟨G, hp, _, hs⟩ := St.opened h hi
  exact Double_full hp hf k hk
theorem Drop_st (h : St w0 Ts w) (hi : Ts[i]? = some (lnkT p L R C)) (j : Int) : Calls Tryd.prog 17 #[.pointer (some ⟨p, 0, none⟩), .int .i64 j] w fun e w' =>
    (∃ (k : Nat), j = (k : Int) ∧ k < L.length ∧ e = .returned .nilIface ∧ Hid (St w0 (Ts.set i (lnkT p (L.eraseIdx k) R C)) w')) ∨
    (∃ (q : Nat), e = .returned (.iface 67 (.pointer (some ⟨q, 0, none⟩))) ∧ Hid (Fails w j 5 q w') ∧ Hid (j < 0 ∨ (L.length : Int) ≤ j)) := by
  obtain ⟨G, hp, _, hs⟩ := St.opened h hi
  rcases index_cases L j with ⟨k, x, rfl, hk⟩ | hj
  · have hkl := (List.getElem?_eq_some_iff.1 hk).1
    refine (Drop_ok hp k hkl).mono ?_
    rintro e w' ⟨rfl, hA⟩
    exact Or.inl ⟨k, rfl, hkl, rfl, hs _ _ hA⟩
  · refine (Drop_none hp j hj).mono ?_
    rintro e w' ⟨q, rfl, hF⟩
    exact Or.inr ⟨q, rfl, hF, hj⟩
theorem Drop_at (h : St w0 Ts w) (hi : Ts[i]? = some (lnkT p L R C)) (k : Nat) (hk : k < L.length) : Calls Tryd.prog 17 #[.pointer (some ⟨p, 0, none⟩), .int .i64 (k : Int)] w fun e w' => e = .returned .nilIface ∧ Hid (St w0 (Ts.set i (lnkT p (L.eraseIdx k) R C)) w') := by
  obtain ⟨G, hp, _, hs⟩ := St.opened h hi
  refine (Drop_ok hp k hk).mono ?_
  rintro e w' ⟨rfl, hA⟩
  exact ⟨rfl, hs _ _ hA⟩
theorem Cut_st (h : St w0 Ts w) (hi : Ts[i]? = some (lnkT p L R C)) (b : Bool) : Calls Tryd.prog 19 #[.pointer (some ⟨p, 0, none⟩), .bool b] w fun e w' => e = .returned (.tuple #[]) ∧ Hid (St w0 (Ts.set i (lnkT p L R b)) w') := by
  obtain ⟨G, hp, _, hs⟩ := St.opened h hi
  refine (Cut_any hp b).mono ?_
  rintro e w' ⟨rfl, hA⟩
  exact ⟨rfl, hs _ _ hA⟩
end

end Go.Proofs.YtidojlagdodkkaaDoor.Ls
