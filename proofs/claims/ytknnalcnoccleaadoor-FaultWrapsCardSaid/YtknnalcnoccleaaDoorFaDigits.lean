/-
  The reference's Digits: the decimal digits of a number, as strconv.Itoa's. Nothing below is changed. Condition: the number is one of an int's.
-/
import Derived.Test.YtknnalcnoccleaaDoorFaPlace
namespace Go.Proofs.YtknnalcnoccleaaDoor.Fa
open Go.RowKit
open Pk Sm

theorem byt1 (W : World) (x : UInt8) : Byt (W.alloc (.cells #[.int .u8 (x.toNat : Int)] 5)) (W.heap.size + 1) (some ⟨W.heap.size, 0, none⟩) [x] := fun _ => by
  refine ⟨W.heap.size, 0, rfl, by omega, fun j u hu => ?_⟩
  match j, hu with
  | 0, hu => simp at hu; subst hu; simp [cel]
theorem conv1 (x : UInt8) (W : World) : (convert 81 9 (.slice (some ⟨W.heap.size, 0, none⟩) 1 1)).run Tryd.prog (W.alloc (.cells #[.int .u8 (x.toNat : Int)] 5)) = .ok (.string (str [x])) (W.alloc (.cells #[.int .u8 (x.toNat : Int)] 5)) :=
  run_str _ _ _ [x] 1 1 rfl (byt1 W x)

theorem conv1d (x : UInt8) (W : World) : (convert 81 9 (.slice (some ⟨W.heap.size, 0, none⟩) 1 1)).run Tryd.prog (W.alloc (.cells #[.int .u8 (x.toNat : Int)] 5)).drew = .ok (.string (str [x])) (W.alloc (.cells #[.int .u8 (x.toNat : Int)] 5)).drew :=
  run_str _ _ _ [x] 1 1 rfl (byt1 W x)
theorem conv1b {W : World} {y : Int} {w1 : World} {S : ByteArray} (h : ∃ x : UInt8, y = (x.toNat : Int) ∧ S = str [x]) (hb : Below (W.alloc (.cells #[.int .u8 y] 5)).drew.heap.size (W.alloc (.cells #[.int .u8 y] 5)).drew w1) :
    (convert 81 9 (.slice (some ⟨W.heap.size, 0, none⟩) 1 1)).run Tryd.prog w1 = .ok (.string S) w1 := by
  obtain ⟨x, rfl, rfl⟩ := h
  have hb' := drew_below hb
  have h1 := byt1 W x
  refine run_str _ _ _ [x] 1 1 rfl (Byt.below h1 (hb'.mono (by simp)))

theorem str_toList' (l : List UInt8) : (str l).toList = l := by rw [ByteArray.toList_eq]; rfl
/-- A digit. -/
def dgt (d : Nat) : UInt8 := UInt8.ofNat (48 + d)
theorem dgt_toNat {d : Nat} (h : d < 10) : ((dgt d).toNat : Int) = 48 + (d : Int) := by
  unfold dgt
  rw [UInt8.toNat_ofNat']
  omega

set_option maxHeartbeats 1000000 in
theorem Digits_one (u : Nat) (hu : u < 10) (w : World) :
    Calls Tryd.prog 26 #[.int .i64 u] w fun r w' => r = .returned (.string (str [dgt u])) ∧ Below w.heap.size w w' := by
  have hc := conv1 (dgt u)
  rw [dgt_toNat hu] at hc
  have HB := hide fun o => (Below.refl w.heap.size w).alloc (Nat.le_refl _) o
  go_enter Tryd.func26, Tryd.ntmps26
  go_wp2
  go_ret
  exact ⟨rfl, HB.out _⟩

set_option maxHeartbeats 1000000 in
theorem Digits_more (u q d : Nat) (hu : u = 10 * q + d) (hd : d < 10) (hq : 1 ≤ q) (hm : u ≤ 9223372036854775807) (L : List UInt8) (hL : L.length ≤ 100)
    (ih : ∀ w : World, Calls Tryd.prog 26 #[.int .i64 q] w fun r w' => r = .returned (.string (str L)) ∧ Below w.heap.size w w') (w : World) :
    Calls Tryd.prog 26 #[.int .i64 u] w fun r w' => r = .returned (.string (str (L ++ [dgt d]))) ∧ Below w.heap.size w w' := by
  have hc := conv1 (dgt d)
  rw [dgt_toNat hd] at hc
  have hge : (10 : Int) ≤ (u : Int) := by omega
  have h1 : Int.tdiv (u : Int) 10 = (q : Int) := by rw [Int.tdiv_eq_ediv_of_nonneg (by omega)]; omega
  have h2 : Int.tmod (u : Int) 10 = (d : Int) := by rw [Int.tmod_eq_emod_of_nonneg (by omega)]; omega
  obtain ⟨S, hS⟩ : ∃ S, S = str L := ⟨_, rfl⟩
  obtain ⟨D, hD⟩ : ∃ S, S = str [dgt d] := ⟨_, rfl⟩
  obtain ⟨R, hR⟩ : ∃ S, S = str (L ++ [dgt d]) := ⟨_, rfl⟩
  have hadd : ∀ W : World, (Op.stringOp .add S D).run Tryd.prog W = .ok (.string R) W := fun W => by
    rw [hS, hD, hR]
    exact run_add L [dgt d] (by simp; omega) W
  rw [← hS] at ih
  have hcd := conv1d (dgt d)
  rw [dgt_toNat hd] at hcd
  rw [← hD] at hc hcd
  have HB0 := hide (show ∃ x : UInt8, (48 + (d : Int)) = (x.toNat : Int) ∧ D = str [x] from ⟨dgt d, (dgt_toNat hd).symm, hD⟩)
  have hw1 : IntKind.i64.wrap (q : Int) = (q : Int) := by rw [IntKind.wrap_i64]; omega
  have hw2 : IntKind.i64.wrap (d : Int) = (d : Int) := by rw [IntKind.wrap_i64]; omega
  have hw3 : IntKind.i64.wrap (48 + (d : Int)) = 48 + (d : Int) := by rw [IntKind.wrap_i64]; omega
  have hw4 : IntKind.u8.wrap (48 + (d : Int)) = 48 + (d : Int) := by rw [IntKind.wrap_u8]; omega
  rw [← hR]
  have HI := hide ih
  have HU := hide hu
  have HM := hide hm
  clear ih hS hD hR hu hL hm hd hq
  go_enter Tryd.func26, Tryd.ntmps26
  go_wp2_with fail
  refine wp_region_any (by kernel_rfl) ?_
  change wpAny _ _ _ _ _ _ _ (World.drew _)
  refine wpAny_take (i := 0) (oi := ⟨some 28, _, _, _, _, _⟩) (v := ?_) rfl (by kernel_rfl) (by kernel_rfl) (by kernel_rfl) (fun _ _ _ h => h) (Or.inl ⟨by rfl, ?_⟩) ?_
  rotate_left 1
  · (intro w; go_simp; try with_reducible rfl)
  simp only [Act.put, List.setIfInBounds_toArray, List.set_cons_zero, List.set_cons_succ]
  refine wpAny_take (i := 1) (oi := ⟨some 29, _, _, _, _, _⟩) (v := ?_) rfl (by kernel_rfl) (by kernel_rfl) (by kernel_rfl) (fun _ _ _ h => h) (Or.inl ⟨by rfl, ?_⟩) ?_
  rotate_left 1
  · (intro w; go_simp; try with_reducible rfl)
  simp only [Act.put, List.setIfInBounds_toArray, List.set_cons_zero, List.set_cons_succ]
  refine wpAny_take (i := 3) (oi := ⟨some 31, _, _, _, _, _⟩) (v := ?_) rfl (by kernel_rfl) (by kernel_rfl) (by kernel_rfl) (fun _ _ _ h => h) (Or.inl ⟨by rfl, ?_⟩) ?_
  rotate_left 1
  · (intro w; go_simp; try with_reducible rfl)
  simp only [Act.put, List.setIfInBounds_toArray, List.set_cons_zero, List.set_cons_succ]
  refine wpAny_take (i := 4) (oi := ⟨some 32, _, _, _, _, _⟩) (v := ?_) rfl (by kernel_rfl) (by kernel_rfl) (by kernel_rfl) (fun _ _ _ h => h) (Or.inl ⟨by rfl, ?_⟩) ?_
  rotate_left 1
  · (intro w; go_simp; try with_reducible rfl)
  simp only [Act.put, List.setIfInBounds_toArray, List.set_cons_zero, List.set_cons_succ]
  refine wpAny_take (i := 5) (oi := ⟨some 33, _, _, _, _, _⟩) (v := ?_) rfl (by kernel_rfl) (by kernel_rfl) (by kernel_rfl) (fun _ _ _ h => h) (Or.inl ⟨by rfl, ?_⟩) ?_
  rotate_left 1
  · (intro w; go_simp; try with_reducible rfl)
  simp only [Act.put, List.setIfInBounds_toArray, List.set_cons_zero, List.set_cons_succ]
  refine wpAny_take (i := 6) (oi := ⟨some 34, _, _, _, _, _⟩) (v := ?_) rfl (by kernel_rfl) (by kernel_rfl) (by kernel_rfl) (fun _ _ _ h => h) (Or.inl ⟨by rfl, ?_⟩) ?_
  rotate_left 1
  · (intro w; go_simp; try with_reducible rfl)
  simp only [Act.put, List.setIfInBounds_toArray, List.set_cons_zero, List.set_cons_succ]
  refine wpAny_ready (rs := [2, 7]) (by kernel_rfl) (by simp) ?_
  refine AllReady.cons (o := ⟨some 30, _, _, _, _, _⟩) rfl (fun K hK => ?_) (AllReady.cons (o := ⟨some 35, _, _, _, _, _⟩) rfl (fun K hK => ?_) AllReady.nil)
  · go_simp
    refine (HI.out w.drew).mono ?_
    rintro r w1 ⟨rfl, hb1⟩
    have HBF := hide fun o => (drew_below hb1).alloc (drew_below hb1).size o
    clear hb1
    refine hK _ _ ?_
    clear hK K
    refine wpAny_ready (rs := [7]) (by kernel_rfl) (by simp) ?_
    refine AllReady.cons (o := ⟨some 35, _, _, _, _, _⟩) rfl (fun K hK => ?_) AllReady.nil
    go_simp
    refine hK _ _ ?_
    clear hK K
    refine wpAny_ready (rs := [8]) (by kernel_rfl) (by simp) ?_
    refine AllReady.cons (o := ⟨some 36, _, _, _, _, _⟩) rfl (fun K hK => ?_) AllReady.nil
    go_simp
    refine hK _ _ ?_
    clear hK K
    refine wpAny_take (i := 9) (oi := ⟨some 37, _, _, _, _, _⟩) (v := ?_) rfl (by kernel_rfl) (by kernel_rfl) (by kernel_rfl) (fun _ _ _ h => h) (Or.inl ⟨by rfl, ?_⟩) ?_
    rotate_left 1
    · (intro w; go_simp; try with_reducible rfl)
    simp only [Act.put, List.setIfInBounds_toArray, List.set_cons_zero, List.set_cons_succ]
    refine wpAny_take (i := 10) (oi := ⟨some 2, _, _, _, _, _⟩) (v := ?_) rfl (by kernel_rfl) (by kernel_rfl) (by kernel_rfl) (fun _ _ _ h => h) (Or.inl ⟨by rfl, ?_⟩) ?_
    rotate_left 1
    · (intro w; go_simp; try with_reducible rfl)
    simp only [Act.put, List.setIfInBounds_toArray, List.set_cons_zero, List.set_cons_succ]
    refine wpAny_done (by kernel_rfl) ?_ _
    go_wp2
    go_ret
    first | exact ⟨rfl, HBF.out _⟩ | exact ⟨rfl, HBG.out⟩
  · go_simp
    refine hK _ _ ?_
    clear hK K
    refine wpAny_ready (rs := [2, 8]) (by kernel_rfl) (by simp) ?_
    refine AllReady.cons (o := ⟨some 30, _, _, _, _, _⟩) rfl (fun K hK => ?_) (AllReady.cons (o := ⟨some 36, _, _, _, _, _⟩) rfl (fun K hK => ?_) AllReady.nil)
    · go_simp
      refine (HI.out (w.alloc (.cells #[.int .u8 (48 + (d : Int))] 5)).drew).mono ?_
      rintro r w1 ⟨rfl, hb1⟩
      have HBG := hide ((((Below.refl w.heap.size w).alloc (Nat.le_refl _) (.cells #[.int .u8 (48 + (d : Int))] 5)).drew).trans (hb1.mono (by simp)))
      have hcv1 := conv1b HB0.out hb1
      clear hb1
      refine hK _ _ ?_
      clear hK K
      refine wpAny_ready (rs := [8]) (by kernel_rfl) (by simp) ?_
      refine AllReady.cons (o := ⟨some 36, _, _, _, _, _⟩) rfl (fun K hK => ?_) AllReady.nil
      go_simp
      refine hK _ _ ?_
      clear hK K
      refine wpAny_take (i := 9) (oi := ⟨some 37, _, _, _, _, _⟩) (v := ?_) rfl (by kernel_rfl) (by kernel_rfl) (by kernel_rfl) (fun _ _ _ h => h) (Or.inl ⟨by rfl, ?_⟩) ?_
      rotate_left 1
      · (intro w; go_simp; try with_reducible rfl)
      simp only [Act.put, List.setIfInBounds_toArray, List.set_cons_zero, List.set_cons_succ]
      refine wpAny_take (i := 10) (oi := ⟨some 2, _, _, _, _, _⟩) (v := ?_) rfl (by kernel_rfl) (by kernel_rfl) (by kernel_rfl) (fun _ _ _ h => h) (Or.inl ⟨by rfl, ?_⟩) ?_
      rotate_left 1
      · (intro w; go_simp; try with_reducible rfl)
      simp only [Act.put, List.setIfInBounds_toArray, List.set_cons_zero, List.set_cons_succ]
      refine wpAny_done (by kernel_rfl) ?_ _
      go_wp2
      go_ret
      first | exact ⟨rfl, HBF.out _⟩ | exact ⟨rfl, HBG.out⟩
    · go_simp
      refine hK _ _ ?_
      clear hK K
      refine wpAny_ready (rs := [2]) (by kernel_rfl) (by simp) ?_
      refine AllReady.cons (o := ⟨some 30, _, _, _, _, _⟩) rfl (fun K hK => ?_) AllReady.nil
      go_simp
      refine (HI.out (w.alloc (.cells #[.int .u8 (48 + (d : Int))] 5)).drew).mono ?_
      rintro r w1 ⟨rfl, hb1⟩
      have HBG := hide ((((Below.refl w.heap.size w).alloc (Nat.le_refl _) (.cells #[.int .u8 (48 + (d : Int))] 5)).drew).trans (hb1.mono (by simp)))
      clear hb1
      refine hK _ _ ?_
      clear hK K
      refine wpAny_take (i := 9) (oi := ⟨some 37, _, _, _, _, _⟩) (v := ?_) rfl (by kernel_rfl) (by kernel_rfl) (by kernel_rfl) (fun _ _ _ h => h) (Or.inl ⟨by rfl, ?_⟩) ?_
      rotate_left 1
      · (intro w; go_simp; try with_reducible rfl)
      simp only [Act.put, List.setIfInBounds_toArray, List.set_cons_zero, List.set_cons_succ]
      refine wpAny_take (i := 10) (oi := ⟨some 2, _, _, _, _, _⟩) (v := ?_) rfl (by kernel_rfl) (by kernel_rfl) (by kernel_rfl) (fun _ _ _ h => h) (Or.inl ⟨by rfl, ?_⟩) ?_
      rotate_left 1
      · (intro w; go_simp; try with_reducible rfl)
      simp only [Act.put, List.setIfInBounds_toArray, List.set_cons_zero, List.set_cons_succ]
      refine wpAny_done (by kernel_rfl) ?_ _
      go_wp2
      go_ret
      first | exact ⟨rfl, HBF.out _⟩ | exact ⟨rfl, HBG.out⟩

/-! ### All numbers -/
theorem dec_nat (u : Nat) (hu : u ≤ 9223372036854775807) : (Lib.decDigits u).length ≤ 21 := by
  have := Lib.itoa_length_le (u : Int) (by omega) (by omega)
  rwa [Lib.itoa_nonneg] at this

theorem Digits_nat (u : Nat) : ∀ (_ : u ≤ 9223372036854775807) (w : World),
    Calls Tryd.prog 26 #[.int .i64 u] w fun r w' => r = .returned (.string (str (Lib.decDigits u))) ∧ Below w.heap.size w w' := by
  induction u using Nat.strongRecOn with
  | ind u ih =>
    intro hm w
    by_cases h : u < 10
    · rw [Lib.decDigits_one h]
      exact Digits_one u h w
    · have hd : Lib.decDigits u = Lib.decDigits (u / 10) ++ [dgt (u % 10)] := by rw [Lib.decDigits, dif_neg h]; rfl
      rw [hd]
      have hl := dec_nat (u / 10) (by omega)
      exact Digits_more u (u / 10) (u % 10) (by omega) (by omega) (by omega) hm _ (by omega) (ih (u / 10) (by omega) (by omega)) w

set_option maxHeartbeats 1000000 in
/-- The walk below 0, over integers alone. -/
theorem low_walk (a b c : Int) (S M D T : ByteArray) (z : Bool) (ha : a < 0) (hq : Int.tdiv a 10 = -b) (hr : Int.tmod a 10 = -c) (hb0 : 0 ≤ b) (hb1 : b ≤ 1000000000000000000) (hc0 : 0 ≤ c) (hc9 : c ≤ 9)
    (hI : ∀ w : World, Calls Tryd.prog 26 #[.int .i64 b] w fun r w' => r = .returned (.string S) ∧ Below w.heap.size w w')
    (hS : (S.toList == [48]) = z) (hadd1 : ∀ W : World, (Op.stringOp .add ⟨#[45]⟩ (bif z then ⟨#[]⟩ else S)).run Tryd.prog W = .ok (.string M) W)
    (hcv : ∀ W : World, (convert 81 9 (.slice (some ⟨W.heap.size, 0, none⟩) 1 1)).run Tryd.prog (W.alloc (.cells #[.int .u8 (48 + c)] 5)) = .ok (.string D) (W.alloc (.cells #[.int .u8 (48 + c)] 5)))
    (hadd2 : ∀ W : World, (Op.stringOp .add M D).run Tryd.prog W = .ok (.string T) W) (w : World) :
    Calls Tryd.prog 26 #[.int .i64 a] w fun r w' => r = .returned (.string T) ∧ Below w.heap.size w w' := by
  have HI := hide hI
  have hw1 : wrap64 (-b) = -b := by unfold wrap64; omega
  have hw2 : wrap64 b = b := by unfold wrap64; omega
  have hw3 : wrap64 (-c) = -c := by unfold wrap64; omega
  have hd2 : (48 : Int) - -c = 48 + c := by omega
  clear hI
  cases z with
  | true =>
    have hS' : S.toList = [48] := by simpa using hS
    simp only [cond_true] at hadd1
    clear hS
    go_enter Tryd.func26, Tryd.ntmps26
    go_wp2_with fail
    refine (HI.out w).mono ?_
    rintro r w1 ⟨rfl, hb1⟩
    have HBF := hide fun o => hb1.alloc hb1.size o
    clear hb1 HI
    go_wp2
    go_ret
    exact ⟨rfl, HBF.out _⟩
  | false =>
    simp only [cond_false] at hadd1
    go_enter Tryd.func26, Tryd.ntmps26
    go_wp2_with fail
    refine (HI.out w).mono ?_
    rintro r w1 ⟨rfl, hb1⟩
    have HBF := hide fun o => hb1.alloc hb1.size o
    clear hb1 HI
    go_wp2
    go_ret
    exact ⟨rfl, HBF.out _⟩

theorem dec_zero {q : Nat} : Lib.decDigits q = [48] ↔ q = 0 := by
  constructor
  · intro he
    by_cases h9 : q < 10
    · rw [Lib.decDigits_one h9] at he
      have := congrArg (fun l : List UInt8 => (l.headD 0).toNat) he
      simp [UInt8.toNat_ofNat'] at this
      omega
    · rw [Lib.decDigits, dif_neg h9] at he
      have := congrArg List.length he
      simp at this
      have h2 := Lib.decDigits_length (q / 10)
      rw [this] at h2
      have h3 : 1 ≤ Lib.nDigits (q / 10) := by
        rw [Lib.nDigits]
        split <;> omega
      simp at h2
      omega
  · rintro rfl
    rw [Lib.decDigits_one (by omega)]
    rfl

/-- Below 0: a minus sign, then the digits of what is left of the sign. -/
theorem Digits_low (u : Nat) (h1 : 1 ≤ u) (hm : u ≤ 9223372036854775808) (w : World) :
    Calls Tryd.prog 26 #[.int .i64 (-(u : Int))] w fun r w' => r = .returned (.string (str (45 :: Lib.decDigits u))) ∧ Below w.heap.size w w' := by
  have hc := conv1 (dgt (u % 10))
  rw [dgt_toNat (by omega)] at hc
  have hl := dec_nat (u / 10) (by omega)
  refine low_walk (-(u : Int)) ((u / 10 : Nat) : Int) ((u % 10 : Nat) : Int) (str (Lib.decDigits (u / 10))) (str (45 :: (if u / 10 = 0 then [] else Lib.decDigits (u / 10)))) (str [dgt (u % 10)]) _ (decide (u / 10 = 0)) (by omega) ?_ ?_ (by omega) (by omega) (by omega) (by omega) (Digits_nat (u / 10) (by omega)) ?_ ?_ hc ?_ w
  · rw [Int.neg_tdiv, Int.tdiv_eq_ediv_of_nonneg (by omega)]; omega
  · rw [Int.neg_tmod, Int.tmod_eq_emod_of_nonneg (by omega)]; omega
  · rw [str_toList']
    by_cases h : u / 10 = 0
    · simp [dec_zero, h]
    · simp [dec_zero, h]
  · intro W
    by_cases h : u / 10 = 0
    · rw [if_pos h, decide_eq_true h]
      exact run_add [45] [] (by simp) W
    · rw [if_neg h, decide_eq_false h]
      exact run_add [45] _ (by simp; omega) W
  · intro W
    have hd' : Lib.decDigits u = (if u / 10 = 0 then [] else Lib.decDigits (u / 10)) ++ [dgt (u % 10)] := by
      by_cases h : u / 10 = 0
      · rw [if_pos h, Lib.decDigits_one (by omega)]
        have : u % 10 = u := by omega
        rw [this]
        rfl
      · rw [if_neg h, Lib.decDigits, dif_neg (by omega)]
        rfl
    rw [hd']
    refine run_add (45 :: (if u / 10 = 0 then [] else Lib.decDigits (u / 10))) [dgt (u % 10)] ?_ W
    split
    · simp
    · simp; omega

theorem Digits_any (n : Int) (h : Int64 n) (w : World) :
    Calls Tryd.prog 26 #[.int .i64 n] w fun r w' => r = .returned (.string (str (Lib.itoa n))) ∧ Below w.heap.size w w' := by
  obtain ⟨h0, h1⟩ := h
  by_cases hn : 0 ≤ n
  · obtain ⟨u, rfl⟩ : ∃ u : Nat, (u : Int) = n := ⟨n.toNat, by omega⟩
    rw [Lib.itoa_nonneg]
    exact Digits_nat u (by omega) w
  · obtain ⟨u, rfl⟩ : ∃ u : Nat, -(u : Int) = n := ⟨(-n).toNat, by omega⟩
    rw [Lib.itoa_neg u (by omega)]
    exact Digits_low u (by omega) (by omega) w

end Go.Proofs.YtknnalcnoccleaaDoor.Fa
