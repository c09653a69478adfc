/-
  The statements' first call, awake: it returns true, and changes nothing that was there.
-/
import Derived.Test.YtmenedndchakjaaBtOf
import Derived.Test.YtmenedndchakjaaBtText
namespace Go.Proofs.Ytmenedndchakjaa.Bt
open Go.RowKit
open Pk Sm

theorem ints_new (w : World) (xs : List Int) : Ints (w.alloc (.cells (xs.map (Value.int .i64)).toArray 3)) (w.heap.size + 1) (some ⟨w.heap.size, 0, none⟩) xs := fun _ => by
  refine ⟨w.heap.size, 0, rfl, Nat.lt_succ_self _, fun j x hx => ?_⟩
  have h := World.alloc_heap_new w (.cells (xs.map (Value.int .i64)).toArray 3)
  rw [Nat.zero_add, cell_of_row _ w.heap.size j _ _ _ h]
  simp [hx]

/-- Of a slice that is written out. -/
theorem Of_lit (xs : List Int) (cs : Array Value) (n : Nat) (hc : (xs.map (Value.int .i64)).toArray = cs) (hn : xs.length = n) (hm : n ≤ maxLen) (S : BSet) (hS : of xs = S) (w : World) :
    Calls Try.prog 10 #[.slice (some ⟨w.heap.size, 0, none⟩) n n] (w.alloc (.cells cs 3)) fun e w' => e = .returned (val S) ∧ Below w.heap.size w w' := by
  subst hc hS
  refine (Of_any (some ⟨w.heap.size, 0, none⟩) xs n n _ hn (by rw [World.size_alloc]; exact ints_new w xs) hm).mono ?_
  rintro e w' ⟨rfl, hb⟩
  exact ⟨rfl, ((Below.refl w.heap.size w).alloc (Nat.le_refl _) _).trans (hb.mono (by simp))⟩

set_option maxRecDepth 100000 in
set_option maxHeartbeats 1000000 in
theorem awake_any (w : World) : Calls Try.prog 8 #[] w fun r w' => r = .returned (.bool true) ∧ Below w.heap.size w w' := by
  obtain ⟨S, hS⟩ : ∃ S, of [3, 0, 3] = S := ⟨_, rfl⟩
  obtain ⟨O, hO⟩ : ∃ O, of [1] = O := ⟨_, rfl⟩
  have HO := hide (fun W => Of_lit [3, 0, 3] #[.int .i64 3, .int .i64 0, .int .i64 3] 3 rfl rfl (by unfold maxLen; omega) S hS W)
  have HB := hide (fun W => Of_lit [1] #[.int .i64 1] 1 rfl rfl (by unfold maxLen; omega) O hO W)
  have HT := hide (fun W => Text_any S (by rw [← hS]; exact of_length _) W)
  have HH := hide (fun W => Has_in O 1 true (by omega) (by rw [← hO]; rfl) W)
  have heq : ((txt (of [3, 0, 3])).toList == [49, 48, 48, 49, 48, 48, 48, 48]) = true := by
    rw [ByteArray.toList_eq]
    rfl
  rw [hS] at heq
  generalize txt S = T at *
  have Heq := hide heq
  clear heq hS hO
  go_enter Try.func8, Try.ntmps8
  go_wp2_with fail
  refine (HO.out w).mono ?_
  rintro r w1 ⟨rfl, hb1⟩
  have B1 := hide hb1
  have z1 := hb1.size
  clear hb1 HO
  go_wp2_with fail
  refine (HT.out w1).mono ?_
  rintro r w2 ⟨rfl, hb2⟩
  have B2 := hide (B1.out.trans (hb2.mono z1))
  have z2 := hb2.size
  have heq := Heq.out
  clear hb2 HT B1
  go_wp2_with fail
  refine (HB.out w2).mono ?_
  rintro r w3 ⟨rfl, hb3⟩
  have B3 := hide (B2.out.trans (hb3.mono (by omega)))
  have z3 := hb3.size
  clear hb3 HB B2
  go_wp2_with fail
  refine (HH.out w3).mono ?_
  rintro r w4 ⟨rfl, hb4⟩
  have B4 := hide (B3.out.trans (hb4.mono (by omega)))
  clear hb4 HH B3
  go_wp2
  go_ret
  exact ⟨rfl, B4.out⟩

end Go.Proofs.Ytmenedndchakjaa.Bt
