/-
  The contract of a table's Of: a volume's markers in a new slice, rising; nothing that was there is changed. The library's maps.Keys, slices.Sorted and slices.Sort are taken by the guide's contracts.
-/
import Derived.Test.YtenenhhijkjjfaaDoorMkShelf
import Derived.Test.YtenenhhijkjjfaaDoorMkLacks
namespace Go.Proofs.YtenenhhijkjjfaaDoor.Mk
open Go.RowKit Go.Maps Go.Sort Go.Shelf
open Pk Dk Wn Lk

theorem sorts (m : Nat) : AnyZI.SortsIn Tryd.prog Tryd.sortedA_ren Fence.wide m :=
  ⟨fun blk off cap ss W hH hblk hsz => callsIn_wide.2 (AnyM.slices_Sort_int Tryd.sortA blk off cap ss W hH hblk hsz),
   fun p cap W => callsIn_wide.2 (AnyM.slices_Sort_int_none Tryd.sortA p cap W)⟩
theorem Keys_any (mb : Option Nat) (w : World) : Calls Tryd.prog 27 #[.map mb] w fun e w' => e = .returned (.func (.func 40) #[] #[.pointer (some ⟨w.heap.size, 0, none⟩)]) ∧ w' = w.alloc (.cells #[.map mb] 55) :=
  (callsIn_wide (n := 5)).1 (AnyZI.keys_in Tryd.keysA Fence.wide 5 trivial rfl mb w)
/-- What slices.Sorted hands back. -/
def SortedR (w : World) (S : List Int → Prop) (e : Ending) (w' : World) : Prop := ∃ (v : Value) (ss : List Int), e = .returned v ∧ S ss ∧
  w'.ownsRow w.heap.size 3 1 v ss.length ((ss.mergeSort (fun x y => decide (x ≤ y))).map encZ) ∧ Below w.heap.size w w'
set_option maxHeartbeats 1000000 in
theorem Sorted_some {b n : Nat} {D : DataW Unit} {R : Value → Option (DataW Unit × List MemPlace)} (w : World) (hown : w.ownsMap Tryd.prog 3 R b n D) (hmax : Maps.size D ≤ 3000000) :
    Calls Tryd.prog 26 #[.func (.func 40) #[] #[.pointer (some ⟨w.heap.size, 0, none⟩)]] (w.alloc (.cells #[.map (some b)] 55)) fun e w' => SortedR (w.alloc (.cells #[.map (some b)] 55)) (fun ss => ss.Perm (intKeys D)) e w' := by
  have hbl := hown.lt
  have hseq : SeqGives Fence.wide 2 Tryd.prog 40 #[.pointer (some ⟨w.heap.size, 0, none⟩)] encZ (fun ss => ss.Perm (intKeys D)) (Maps.size D) (w.alloc (.cells #[.map (some b)] 55)) :=
    AnyZI.keys_gives (ρ := Tryd.keysA_ren) { Tryd.keysA with } Fence.wide _ trivial rfl (by omega) w.heap.size b n D _ (by simp) (by simp) (by
      obtain ⟨es, clock, hb, Ft, hs, hD⟩ := hown
      exact ⟨es, clock, (Below.heap_alloc _ _ b hbl).trans hb, Ft, hs, hD⟩)
  refine (callsIn_wide (n := 5)).1 ((AnyZI.sorted_in Tryd.sortedA Fence.wide 5 trivial trivial trivial trivial rfl (by omega) (sorts _) (enters_of Tryd.func29 (by kernel_rfl) rfl) 40 #[.pointer (some ⟨w.heap.size, 0, none⟩)] trivial (enters_of Tryd.func40 (by kernel_rfl) rfl) _ _ (by unfold maxLen; omega) (by omega) _ hseq).mono ?_)
  rintro e w' ⟨v, ss, h1, h2, h3, _, h4⟩
  exact ⟨v, ss, h1, h2, h3, h4⟩
set_option maxHeartbeats 1000000 in
theorem Sorted_none (w : World) :
    Calls Tryd.prog 26 #[.func (.func 40) #[] #[.pointer (some ⟨w.heap.size, 0, none⟩)]] (w.alloc (.cells #[.map none] 55)) fun e w' => SortedR (w.alloc (.cells #[.map none] 55)) (fun ss => ss = []) e w' := by
  have hseq : SeqGives Fence.wide 2 Tryd.prog 40 #[.pointer (some ⟨w.heap.size, 0, none⟩)] encZ (fun ss : List Int => ss = []) 0 (w.alloc (.cells #[.map none] 55)) :=
    AnyZI.keys_gives_nil (ρ := Tryd.keysA_ren) { Tryd.keysA with } Fence.wide _ trivial rfl w.heap.size _ (by simp) (by simp)
  refine (callsIn_wide (n := 5)).1 ((AnyZI.sorted_in Tryd.sortedA Fence.wide 5 trivial trivial trivial trivial rfl (by omega) (sorts _) (enters_of Tryd.func29 (by kernel_rfl) rfl) 40 #[.pointer (some ⟨w.heap.size, 0, none⟩)] trivial (enters_of Tryd.func40 (by kernel_rfl) rfl) _ 0 (Nat.zero_le _) (by omega) _ hseq).mono ?_)
  rintro e w' ⟨v, ss, h1, h2, h3, _, h4⟩
  exact ⟨v, ss, h1, h2, h3, h4⟩
theorem SetAt.keys {w : World} {b n : Nat} {l : List Int} (h : SetAt w b n l) (ha : Asc l) : ∃ D : DataW Unit, w.ownsMap Tryd.prog 3 unitElem b n D ∧ (∀ x, Maps.has D (.int .i64 x) = decide (x ∈ l)) ∧ l.Perm (intKeys D) ∧ Maps.size D ≤ n := by
  obtain ⟨D, hown, hh⟩ := h
  have hsz := hown.size_le
  obtain ⟨es, hD, hpw, _⟩ := hown.entries int_key
  obtain ⟨es', hD', hko⟩ := hown.keysOf
  obtain rfl : es = es' := by rw [hD] at hD'; simpa using hD'
  subst hD
  refine ⟨_, hown, hh, perm_intKeys hpw (fun p hp => ?_) ha.nodup (fun x => by rw [hh x]; simp), hsz⟩
  obtain ⟨v, hv⟩ := hko p hp
  obtain ⟨x, _, hx, _⟩ := Maps.keyOf_i64 Tryd.underlying3 hv
  exact ⟨x, hx⟩
/-- Of what was sorted. -/
theorem SortedR.ints {w : World} {l ks : List Int} {e : Ending} {w' : World} (h : SortedR w (fun ss => ss.Perm ks) e w') (ha : Asc l) (hp : l.Perm ks) : ∃ v, e = .returned v ∧ Ints w' w.heap.size v l ∧ Below w.heap.size w w' := by
  obtain ⟨v, ss, rfl, hS, hrow, hb⟩ := h
  have hpl : ss.Perm l := hS.trans hp.symm
  have hl : ss.length = l.length := hpl.length_eq
  have he : ss.mergeSort (fun x y => decide (x ≤ y)) = l := by
    have : ss.mergeSort leI = l := by rw [mergeSort_of_perm_i hpl, ha.sorted]
    exact this
  rw [he, hl] at hrow
  refine ⟨v, rfl, ⟨ORow.of_own hrow, fun k hk => ?_⟩, hb⟩
  rcases hrow.2 with ⟨rfl, _⟩ | ⟨g, cap, cur, rfl, hbase, _⟩
  · simp [Value.ownBlock] at hk
  · simp [Value.ownBlock] at hk
    omega
section
variable {p n : Nat} {mb : Option Nat} {F : Int → Option Nat} {A : Int → List Int} {w w' : World} {G : Nat → Prop}
/-- What Of hands back. -/
def OfR (w : World) (l : List Int) (e : Ending) (w' : World) : Prop := ∃ v, e = .returned v ∧ Ints w' w.heap.size v l ∧ Below w.heap.size w w'
set_option maxRecDepth 100000 in
set_option maxHeartbeats 2000000 in
theorem Of_gen (T : Value) (u : Int) (f : Option Nat) (l : List Int) (w : World) (h1 : Calls Tryd.prog 25 #[T, .int .i64 u] w fun e w' => e = .returned (.map f) ∧ w' = w)
    (h2 : Calls Tryd.prog 26 #[.func (.func 40) #[] #[.pointer (some ⟨w.heap.size, 0, none⟩)]] (w.alloc (.cells #[.map f] 55)) fun e w' => OfR w l e w') :
    Calls Tryd.prog 13 #[T, .int .i64 u] w fun e w' => OfR w l e w' := by
  have H1 := hide h1
  have H2 := hide h2
  have HK := hide (Keys_any f w)
  clear h1 h2
  go_enter Tryd.func13, Tryd.ntmps13
  go_wp2_with fail
  refine H1.out.mono ?_
  rintro e w' ⟨rfl, rfl⟩
  clear H1
  go_wp2_with fail
  refine HK.out.mono ?_
  rintro e w2 ⟨rfl, rfl⟩
  clear HK
  go_wp2_with fail
  refine H2.out.mono ?_
  rintro e w3 ⟨v, rfl, hI, hB⟩
  have HR := hide (show OfR w' l (.returned v) w3 from ⟨v, rfl, hI, hB⟩)
  clear H2 hI hB
  go_wp2
  go_ret
  exact HR.out
theorem OfR.later {w w1 w' : World} {l : List Int} {e : Ending} (h : ∃ v, e = .returned v ∧ Ints w' w1.heap.size v l ∧ Below w1.heap.size w1 w') (hb : Below w.heap.size w w1) : OfR w l e w' := by
  obtain ⟨v, rfl, hI, h2⟩ := h
  exact ⟨v, rfl, ⟨hI.row, fun k hk => Nat.le_trans hb.size (hI.own k hk)⟩, hb.trans (h2.mono hb.size)⟩
theorem Of_nil (u : Int) (w : World) : Calls Tryd.prog 13 #[.pointer none, .int .i64 u] w fun e w' => OfR w [] e w' := by
  refine Of_gen _ u none [] w (of_nil u w) ((Sorted_none w).mono ?_)
  rintro e w' ⟨v, ss, h1, h2, h3, h4⟩
  exact OfR.later (SortedR.ints (l := []) (ks := []) ⟨v, ss, h1, by rw [h2], h3, h4⟩ List.Pairwise.nil (List.Perm.refl _)) ((Below.refl _ _).alloc (Nat.le_refl _) _)
theorem Of_any (h : Tbl p A n w G) (hn : n ≤ 3000000) {u : Int} (hu : I64 u) : Calls Tryd.prog 13 #[.pointer (some ⟨p, 0, none⟩), .int .i64 u] w fun e w' => OfR w (A u) e w' := by
  obtain ⟨mb, F, h⟩ := h
  have hof := of_any h hu
  cases e : F u with
  | none =>
    rw [e] at hof
    rw [h.lack u e]
    refine Of_gen _ u none [] w hof ((Sorted_none w).mono ?_)
    rintro e w' ⟨v, ss, h1, h2, h3, h4⟩
    exact OfR.later (SortedR.ints (l := []) (ks := []) ⟨v, ss, h1, by rw [h2], h3, h4⟩ List.Pairwise.nil (List.Perm.refl _)) ((Below.refl _ _).alloc (Nat.le_refl _) _)
  | some b =>
    rw [e] at hof
    obtain ⟨D, hown, _, hp, hs⟩ := (h.inner u b e).2.2.2.keys (h.good.asc u)
    refine Of_gen _ u (some b) (A u) w hof ((Sorted_some w hown (by omega)).mono fun e w' hR => ?_)
    exact OfR.later (hR.ints (h.good.asc u) hp) ((Below.refl _ _).alloc (Nat.le_refl _) _)
end

end Go.Proofs.YtenenhhijkjjfaaDoor.Mk
