/-
  The reference's sets, which are texts of digits: With, Without, Has, Len, Or, But at the text of a set.
-/
import Derived.Deep.QuietTactic
import Derived.BigQuiet
import Derived.RegionTactic
import Derived.IntWalk
import Derived.Lib.Strings
import Derived.ChangeAlike
import Derived.Test.YtmenedndchakjaaBtMath
namespace Go.Proofs.Ytmenedndchakjaa.Bt
open Go.RowKit
open Pk Sm

def one : ByteArray := ⟨#[49]⟩
def nought : ByteArray := ⟨#[48]⟩

set_option maxHeartbeats 1000000 in
theorem rput_out (s c : ByteArray) (b : Int) (hb : b < 0 ∨ 8 ≤ b) (w : World) : Calls Try.prog 27 #[.string s, .int .i64 b, .string c] w fun e w' => e = .returned (.string s) ∧ w = w' := by
  rcases hb with h | h
  · have h1 : decide (b < 0) = true := decide_eq_true (by omega)
    go_enter Try.func27, Try.ntmps27
    go_wp2
    go_ret
    exact ⟨rfl, rfl⟩
  · have h1 : decide (b < 0) = false := decide_eq_false (by omega)
    have h2 : decide (7 < b) = true := decide_eq_true (by omega)
    go_enter Try.func27, Try.ntmps27
    go_wp2
    go_ret
    exact ⟨rfl, rfl⟩
theorem set_cut {α : Type} : ∀ (l : List α) (k : Nat) (x : α), k < l.length → l.set k x = l.take k ++ x :: l.drop (k + 1)
  | [], _, _, h => by simp at h
  | a :: l, 0, x, _ => rfl
  | a :: l, k + 1, x, h => by
    simp only [List.set_cons_succ, List.take_succ_cons, List.drop_succ_cons, List.cons_append]
    rw [set_cut l k x (by simpa using h)]
theorem cut_to (s : ByteArray) (k : Nat) (h : k ≤ s.size) (w : World) : (Instr.slice 9 (.string s) none (some (.int .i64 (k : Int))) none).run Try.prog w = .ok (.string (str (s.data.toList.take k))) w := by
  rw [run_slice_string_to_if w 9 s .i64 (k : Int) Try.underlying9, if_pos ⟨by omega, by omega⟩]
  congr 2
  rw [← str_of (s.extract _ _), Lib.extract_data]
  simp
theorem cut_from (s : ByteArray) (k : Nat) (h : k ≤ s.size) (w : World) : (Instr.slice 9 (.string s) (some (.int .i64 (k : Int))) none none).run Try.prog w = .ok (.string (str (s.data.toList.drop k))) w := by
  rw [run_slice_string_from_if w 9 s .i64 (k : Int) Try.underlying9, if_pos ⟨by omega, by omega⟩]
  congr 2
  rw [← str_of (s.extract _ _), Lib.extract_data, Int.toNat_natCast, List.take_of_length_le (by rw [List.length_drop, size_eq]; exact Nat.le_refl _)]
theorem add_str (l m : List UInt8) (h : l.length + m.length ≤ 1000) (w : World) : (Op.stringOp .add (str l) (str m)).run Try.prog w = .ok (.string (str (l ++ m))) w := by
  rw [run_string_add_sum (P := Try.prog) (w := w) (str l) (str m) (by rw [str_size, str_size]; omega)]
  congr 2
set_option maxHeartbeats 1000000 in
theorem rput_in (l : List UInt8) (x : UInt8) (k : Nat) (hk : k < 8) (hs : l.length = 8) (w : World) : Calls Try.prog 27 #[.string (str l), .int .i64 k, .string (str [x])] w fun e w' => e = .returned (.string (str (l.set k x))) ∧ ∃ q, w' = w.drewN q := by
  have h1 : decide ((k : Int) < 0) = false := decide_eq_false (by omega)
  have h2 : decide (7 < (k : Int)) = false := decide_eq_false (by omega)
  have hz : (str l).size = 8 := by rw [str_size]; exact hs
  have c1 := cut_to (str l) k (by omega)
  have c2 := cut_from (str l) (k + 1) (by omega)
  rw [str_data] at c1 c2
  rw [show ((k + 1 : Nat) : Int) = (k : Int) + 1 by omega] at c2
  have a1 := add_str (l.take k) [x] (by simp; omega)
  have a2 := add_str (l.take k ++ [x]) (l.drop (k + 1)) (by simp; omega)
  rw [List.append_assoc, List.singleton_append, ← set_cut l k x (by omega)] at a2
  have e1 : IntKind.i64.wrap ((k : Int) + 1) = (k : Int) + 1 := IntWalk.i64_in _ (by omega)
  generalize str (l.take k) = A1 at *
  generalize str (l.drop (k + 1)) = A2 at *
  generalize str (l.take k ++ [x]) = A3 at *
  generalize str (l.set k x) = A4 at *
  generalize str l = A0 at *
  generalize str [x] = A5 at *
  clear hs hz
  go_enter Try.func27, Try.ntmps27
  go_wp2
  go_quiet (fail)
  go_wp2
  go_ret
  exact ⟨rfl, _, rfl⟩

/-- The digit laid at a block's place. -/
theorem digs_set (S : BSet) (k : Nat) (v : Bool) : (digs S).set k (dig v) = digs (S.set k v) := by rw [digs, digs, List.map_set]
set_option maxHeartbeats 1000000 in
theorem rput_any (S : BSet) (hS : S.length = 8) (b : Int) (v : Bool) (w : World) : Calls Try.prog 27 #[.string (txt S), .int .i64 b, .string (str [dig v])] w fun e w' => e = .returned (.string (txt (put S b v))) ∧ Below w.heap.size w w' := by
  by_cases h : 0 ≤ b ∧ b < 8
  · obtain ⟨k, rfl⟩ : ∃ k : Nat, (k : Int) = b := ⟨b.toNat, by omega⟩
    rw [put_in S k v (by omega)]
    refine (rput_in (digs S) (dig v) k (by omega) (by rw [digs_length]; exact hS) w).mono ?_
    rintro e w' ⟨rfl, q, rfl⟩
    exact ⟨by rw [digs_set]; rfl, ⟨rfl, rfl, rfl, Nat.le_refl _, fun _ _ => rfl⟩⟩
  · rw [put_out S b v (by omega)]
    refine (rput_out (txt S) _ b (by omega) w).mono ?_
    rintro e w' ⟨rfl, rfl⟩
    exact ⟨rfl, Below.refl _ _⟩
theorem rWith_any (S : BSet) (hS : S.length = 8) (b : Int) (w : World) : Calls Try.prog 13 #[.string (txt S), .int .i64 b] w fun e w' => e = .returned (.string (txt (put S b true))) ∧ Below w.heap.size w w' := by
  have HP := hide (fun W => rput_any S hS b true W)
  generalize txt S = A at *
  clear hS
  go_enter Try.func13, Try.ntmps13
  go_wp2_with fail
  refine (HP.out _).mono ?_
  rintro e w' ⟨rfl, hb⟩
  have HB := hide hb
  clear hb
  go_wp2
  go_ret
  exact ⟨rfl, HB.out⟩
theorem rWithout_any (S : BSet) (hS : S.length = 8) (b : Int) (w : World) : Calls Try.prog 15 #[.string (txt S), .int .i64 b] w fun e w' => e = .returned (.string (txt (put S b false))) ∧ Below w.heap.size w w' := by
  have HP := hide (fun W => rput_any S hS b false W)
  generalize txt S = A at *
  clear hS
  go_enter Try.func15, Try.ntmps15
  go_wp2_with fail
  refine (HP.out _).mono ?_
  rintro e w' ⟨rfl, hb⟩
  have HB := hide hb
  clear hb
  go_wp2
  go_ret
  exact ⟨rfl, HB.out⟩

theorem index_txt (S : BSet) (k : Nat) (v : Bool) (hv : S[k]? = some v) (w : World) : (Instr.index 9 (.string (txt S)) (.int .i64 (k : Int))).run Try.prog w = .ok (.int .u8 ((dig v).toNat : Int)) w := by
  have h1 : (txt S).data.toList[k]? = some (dig v) := by
    show (S.map dig)[k]? = _
    rw [List.getElem?_map, hv]
    rfl
  have h2 : (txt S)[k]? = some (dig v) := by
    rw [← h1, Array.getElem?_toList]
    rfl
  simp [Instr.index, asIntOf, run_underlying Try.underlying9, h2]
set_option maxHeartbeats 1000000 in
theorem rHas_any (S : BSet) (hS : S.length = 8) (b : Int) (w : World) : Calls Try.prog 24 #[.string (txt S), .int .i64 b] w fun e w' => e = .returned (.bool (has S b)) ∧ w = w' := by
  rcases (by omega : b < 0 ∨ 8 ≤ b ∨ (0 ≤ b ∧ b < 8)) with h | h | ⟨h, h'⟩
  · rw [has_out S b (by omega)]
    have h1 : decide (0 ≤ b) = false := decide_eq_false (by omega)
    generalize txt S = A at *
    clear hS
    go_enter Try.func24, Try.ntmps24
    go_wp2
    go_ret
    exact ⟨rfl, rfl⟩
  · rw [has_out S b (by omega)]
    have h1 : decide (0 ≤ b) = true := decide_eq_true (by omega)
    have h2 : decide (b ≤ 7) = false := decide_eq_false (by omega)
    generalize txt S = A at *
    clear hS
    go_enter Try.func24, Try.ntmps24
    go_wp2
    go_ret
    exact ⟨rfl, rfl⟩
  · obtain ⟨k, rfl⟩ : ∃ k : Nat, (k : Int) = b := ⟨b.toNat, by omega⟩
    have h1 : decide (0 ≤ (k : Int)) = true := decide_eq_true (by omega)
    have h2 : decide ((k : Int) ≤ 7) = true := decide_eq_true (by omega)
    obtain ⟨v, hv⟩ : ∃ v, S[k]? = some v := ⟨_, List.getElem?_eq_getElem (by omega)⟩
    have hix := fun W => index_txt S k v hv W
    rw [has_in S k (by omega), hv]
    generalize txt S = A at *
    clear hS hv
    cases v
    all_goals
      go_enter Try.func24, Try.ntmps24
      go_wp2
      go_ret
      exact ⟨rfl, rfl⟩
theorem rHas_in (S : BSet) (hS : S.length = 8) (k : Nat) (v : Bool) (hk : k < 8) (hv : S[k]? = some v) (w : World) : Calls Try.prog 24 #[.string (txt S), .int .i64 k] w fun e w' => e = .returned (.bool v) ∧ w = w' := by
  have := rHas_any S hS k w
  rw [has_in S k hk, hv] at this
  exact this

set_option maxHeartbeats 1000000 in
theorem rLen_any (S : BSet) (hS : S.length = 8) (w : World) : Calls Try.prog 22 #[.string (txt S)] w fun e w' => e = .returned (.int .i64 (len S)) ∧ w = w' := by
  have HH := hide (fun k v hk hv W => rHas_in S hS k v hk hv W)
  have HS := hide hS
  generalize txt S = A at *
  clear hS
  go_enter Try.func22, Try.ntmps22
  go_wp2
  go_loop [3, 4] (fun n i => ∃ k : Nat, k ≤ 8 ∧ i = .int .i64 k ∧ n = .int .i64 ((upto S k).length : Int)) (fun _ i => 8 - (intOf i).toNat)
  case atStart => exact ⟨0, Nat.zero_le _, rfl, rfl⟩
  case round =>
    obtain ⟨k, hk, rfl, rfl⟩ := hrel
    have hle := upto_length S k
    by_cases hlt : k < 8
    · rcases get_cases HS.out hlt with hv | hv
      · have hu : (upto S (k + 1)).length = (upto S k).length + 1 := by rw [upto_yes hv, List.length_append]; rfl
        have Hu := hide hu
        have HC := hide (HH.out k true hlt hv)
        clear hu hv
        generalize hm : (upto S k).length = m at *
        clear hm
        go_wp2_with fail
        refine (HC.out w).mono ?_
        rintro e w' ⟨rfl, rfl⟩
        go_wp2
        go_round
        case rel => exact ⟨k + 1, by omega, by go_num, by rw [Hu.out]; go_num⟩
        case measure => simp [intOf]; omega
      · have hu : (upto S (k + 1)).length = (upto S k).length := by rw [upto_no (by rw [hv]; simp)]
        have Hu := hide hu
        have HC := hide (HH.out k false hlt hv)
        clear hu hv
        generalize hm : (upto S k).length = m at *
        clear hm
        go_wp2_with fail
        refine (HC.out w).mono ?_
        rintro e w' ⟨rfl, rfl⟩
        go_wp2
        go_round
        case rel => exact ⟨k + 1, by omega, by go_num, by rw [Hu.out]⟩
        case measure => simp [intOf]; omega
    · obtain rfl : k = 8 := by omega
      have Hn : Hid ((upto S 8).length = len S) := hide rfl
      rw [Hn.out] at hle ⊢
      go_wp2
      go_ret
      exact ⟨rfl, rfl⟩

set_option maxHeartbeats 1000000 in
theorem rOr_any (S O : BSet) (hS : S.length = 8) (hO : O.length = 8) (w : World) : Calls Try.prog 17 #[.string (txt S), .string (txt O)] w fun e w' => e = .returned (.string (txt (orr S O))) ∧ Below w.heap.size w w' := by
  have HH := hide (fun k v hk hv W => rHas_in O hO k v hk hv W)
  have HW := hide (fun (xs : List (On O)) (b : Int) W => rWith_any (setAll true S xs) (by rw [setAll_length]; exact hS) b W)
  have HO := hide hO
  have H0 : Hid (txt S = txt (setAll true S (upto O 0))) := hide rfl
  generalize txt O = A at *
  clear hS hO
  go_enter Try.func17, Try.ntmps17
  go_wp2
  go_loopw [0, 5] (fun s i wr => ∃ k : Nat, k ≤ 8 ∧ i = .int .i64 k ∧ s = .string (txt (setAll true S (upto O k))) ∧ Below w.heap.size w wr) (fun _ i _ => 8 - (intOf i).toNat)
  case atStart => exact ⟨0, Nat.zero_le _, rfl, by rw [← H0.out], Below.refl _ _⟩
  case round =>
    obtain ⟨k, hk, rfl, rfl, hB⟩ := hrel
    have HB := hide hB
    clear hB
    by_cases hlt : k < 8
    · rcases get_cases HO.out hlt with hv | hv
      · have hu : setAll true S (upto O (k + 1)) = put (setAll true S (upto O k)) (k : Int) true := by rw [upto_yes hv, setAll_snoc]
        have Hu := hide hu
        have HC := hide (HH.out k true hlt hv)
        have HWk := hide (HW.out (upto O k) (k : Int))
        clear hu hv
        generalize txt (setAll true S (upto O k)) = T at *
        go_wp2_with fail
        refine (HC.out wr).mono ?_
        rintro e w' ⟨rfl, rfl⟩
        go_wp2_with fail
        refine (HWk.out wr).mono ?_
        rintro e w2 ⟨rfl, hb2⟩
        have HB2 := hide (HB.out.trans (hb2.mono HB.out.size))
        clear hb2
        rw [← Hu.out]
        go_wp2
        go_roundw
        case rel => exact ⟨k + 1, by omega, by go_num, rfl, HB2.out⟩
        case measure => simp [intOf]; omega
      · have hu : setAll true S (upto O (k + 1)) = setAll true S (upto O k) := by rw [upto_no (by rw [hv]; simp)]
        have Hu := hide hu
        have HC := hide (HH.out k false hlt hv)
        clear hu hv
        rw [← Hu.out]
        generalize hT : txt (setAll true S (upto O (k + 1))) = T at *
        have HT := hide hT
        clear hT
        go_wp2_with fail
        refine (HC.out wr).mono ?_
        rintro e w' ⟨rfl, rfl⟩
        go_wp2
        go_roundw
        case rel => exact ⟨k + 1, by omega, by go_num, by rw [HT.out], HB.out⟩
        case measure => simp [intOf]; omega
    · obtain rfl : k = 8 := by omega
      have Hn : Hid (setAll true S (upto O 8) = orr S O) := hide rfl
      rw [Hn.out]
      go_wp2
      go_ret
      exact ⟨rfl, HB.out⟩

set_option maxHeartbeats 1000000 in
theorem rBut_any (S O : BSet) (hS : S.length = 8) (hO : O.length = 8) (w : World) : Calls Try.prog 19 #[.string (txt S), .string (txt O)] w fun e w' => e = .returned (.string (txt (but S O))) ∧ Below w.heap.size w w' := by
  have HH := hide (fun k v hk hv W => rHas_in O hO k v hk hv W)
  have HW := hide (fun (xs : List (On O)) (b : Int) W => rWithout_any (setAll false S xs) (by rw [setAll_length]; exact hS) b W)
  have HO := hide hO
  have H0 : Hid (txt S = txt (setAll false S (upto O 0))) := hide rfl
  generalize txt O = A at *
  clear hS hO
  go_enter Try.func19, Try.ntmps19
  go_wp2
  go_loopw [0, 5] (fun s i wr => ∃ k : Nat, k ≤ 8 ∧ i = .int .i64 k ∧ s = .string (txt (setAll false S (upto O k))) ∧ Below w.heap.size w wr) (fun _ i _ => 8 - (intOf i).toNat)
  case atStart => exact ⟨0, Nat.zero_le _, rfl, by rw [← H0.out], Below.refl _ _⟩
  case round =>
    obtain ⟨k, hk, rfl, rfl, hB⟩ := hrel
    have HB := hide hB
    clear hB
    by_cases hlt : k < 8
    · rcases get_cases HO.out hlt with hv | hv
      · have hu : setAll false S (upto O (k + 1)) = put (setAll false S (upto O k)) (k : Int) false := by rw [upto_yes hv, setAll_snoc]
        have Hu := hide hu
        have HC := hide (HH.out k true hlt hv)
        have HWk := hide (HW.out (upto O k) (k : Int))
        clear hu hv
        generalize txt (setAll false S (upto O k)) = T at *
        go_wp2_with fail
        refine (HC.out wr).mono ?_
        rintro e w' ⟨rfl, rfl⟩
        go_wp2_with fail
        refine (HWk.out wr).mono ?_
        rintro e w2 ⟨rfl, hb2⟩
        have HB2 := hide (HB.out.trans (hb2.mono HB.out.size))
        clear hb2
        rw [← Hu.out]
        go_wp2
        go_roundw
        case rel => exact ⟨k + 1, by omega, by go_num, rfl, HB2.out⟩
        case measure => simp [intOf]; omega
      · have hu : setAll false S (upto O (k + 1)) = setAll false S (upto O k) := by rw [upto_no (by rw [hv]; simp)]
        have Hu := hide hu
        have HC := hide (HH.out k false hlt hv)
        clear hu hv
        rw [← Hu.out]
        generalize hT : txt (setAll false S (upto O (k + 1))) = T at *
        have HT := hide hT
        clear hT
        go_wp2_with fail
        refine (HC.out wr).mono ?_
        rintro e w' ⟨rfl, rfl⟩
        go_wp2
        go_roundw
        case rel => exact ⟨k + 1, by omega, by go_num, by rw [HT.out], HB.out⟩
        case measure => simp [intOf]; omega
    · obtain rfl : k = 8 := by omega
      have Hn : Hid (setAll false S (upto O 8) = but S O) := hide rfl
      rw [Hn.out]
      go_wp2
      go_ret
      exact ⟨rfl, HB.out⟩

end Go.Proofs.Ytmenedndchakjaa.Bt
