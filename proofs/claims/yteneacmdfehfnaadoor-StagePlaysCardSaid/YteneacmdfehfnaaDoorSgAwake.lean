/-
  The contract of the statements' own awake: it returns true, and changes nothing that was there.
-/
import Derived.Test.YteneacmdfehfnaaDoorSgMore
import Derived.Test.YteneacmdfehfnaaDoorThBlk
namespace Go.Proofs.YteneacmdfehfnaaDoor.Sg
open Go.RowKit
open Pk Dk Wn Lk Rc

theorem fits_mark {t : Nat} {m : Int} (ht : t ≤ 1152921504606846974) (h1 : 1 ≤ m) (h2 : m ≤ 1152921504606846975) : fits ⟨(t : Int) + 1, 2, 0, ⟨#[]⟩, m⟩ t :=
  ⟨rfl, ⟨by show (1 : Int) ≤ (t : Int) + 1; omega, by show (t : Int) + 1 ≤ 1152921504606846975; omega⟩, Or.inr ⟨rfl, rfl, rfl, h1, h2⟩⟩
theorem beg_one : beg 1 = 0 := by decide
set_option maxRecDepth 100000 in
set_option maxHeartbeats 4000000 in
theorem awake_any (w : World) : Calls Tryd.prog 5 #[] w fun e w' => e = .returned (.bool true) ∧ Below w.heap.size w w' := by
  go_enter Tryd.func5, Tryd.ntmps5
  go_wp2_with fail
  refine (New_any 1 w).mono ?_
  rintro e w1 ⟨rfl, hs, hb⟩
  rw [beg_one] at hs
  have HS := hide ((St.start w).add hb (T := stgT w.heap.size [] 0 0 0) hs (fun k hk => by rw [hk]; exact Nat.le_refl _))
  obtain ⟨G, hp, _, hset⟩ := St.opened HS.out (i := 0) rfl
  have hfit : fits ⟨1, 2, 0, ⟨#[]⟩, 5⟩ 0 := fits_mark (t := 0) (by decide) (by decide) (by decide)
  have HC := hide (Take_yes (show Stg w.heap.size [] 0 0 0 w1 G from hp) ⟨1, 2, 0, ⟨#[]⟩, 5⟩ (by decide) (t := 0) rfl hfit (by decide))
  have HT := hide hset
  clear hs hb hp hset hfit
  go_wp2_with fail
  refine HC.out.mono ?_
  rintro e w2 ⟨rfl, hA⟩
  have HS2 := hide (HT.out w2 (stgT w.heap.size [⟨1, 2, 0, ⟨#[]⟩, 5⟩] 0 0 0) hA)
  obtain ⟨G2, hp2, _, hset2⟩ := St.opened HS2.out (i := 0) rfl
  have HC2 := hide (Flush_any (show Stg w.heap.size [⟨1, 2, 0, ⟨#[]⟩, 5⟩] 0 0 0 w2 G2 from hp2))
  have HT2 := hide hset2
  clear hA HC HT HS hp2 hset2
  go_wp2_with fail
  refine HC2.out.mono ?_
  rintro e w3 ⟨rfl, hA⟩
  have HS3 := hide (HT2.out w3 (stgT w.heap.size [⟨1, 2, 0, ⟨#[]⟩, 5⟩] 1 0 0) hA)
  obtain ⟨G3, hp3, _, _⟩ := St.opened HS3.out (i := 0) rfl
  have HC3 := hide (Marks_any (show Stg w.heap.size [⟨1, 2, 0, ⟨#[]⟩, 5⟩] 1 0 0 w3 G3 from hp3))
  clear hA HC2 HT2 HS2 hp3
  go_wp2_with fail
  refine HC3.out.mono ?_
  rintro e w4 ⟨v, rfl, hv, hb4⟩
  have hv' : Ints w4 w3.heap.size v [5] := hv
  obtain ⟨A, c, hv5, _, _, hsrc⟩ := hv'.form
  have hv6 : v = .slice A 1 c := hv5
  subst hv6
  obtain ⟨g, o, rfl, _, c0⟩ := Src.num hsrc (j := 0) (x := 5) rfl
  rw [Nat.add_zero] at c0
  have HB := hide (HS3.out.bel.trans (hb4.mono HS3.out.bel.size))
  clear hv hv' hb4 hsrc HC3 HS3 hv5
  go_wp2
  go_ret
  exact ⟨rfl, HB.out⟩

end Go.Proofs.YteneacmdfehfnaaDoor.Sg
