/-
  The contract of isobarlaw09.awake: it returns true, and changes nothing that was there.
-/
import Derived.Test.YtabjoalkbobhdaaDoorWiOps2
namespace Go.Proofs.YtabjoalkbobhdaaDoor.Wi
open Go.RowKit
open Pk Dk Wn

theorem upTo_one (x : Int) : upTo [x] 0 1 = [(1, x)] := rfl
theorem box_snd {w w1 : World} (h : w1 = w.alloc (.cells #[.slice none 0 0, .int .i64 0, .int .i64 0] 63)) : Snd w.heap.size [] 0 0 w1 (· = w.heap.size) ∧ Below w.heap.size w w1 := by
  subst h
  exact ⟨Snd.fresh w, (Below.refl _ _).alloc (Nat.le_refl _) _⟩
theorem box_rcv {w w1 : World} (h : w1 = w.alloc (.cells #[.slice none 0 0] 69)) : Rcv w.heap.size [] w1 (· = w.heap.size) ∧ Below w.heap.size w w1 := by
  subst h
  exact ⟨Rcv.fresh w, (Below.refl _ _).alloc (Nat.le_refl _) _⟩
set_option maxRecDepth 100000 in
set_option maxHeartbeats 4000000 in
theorem awake_any (w : World) : Calls Tryd.prog 5 #[] w fun e w' => e = .returned (.bool true) ∧ Below w.heap.size w w' := by
  go_enter Tryd.func5, Tryd.ntmps5
  go_wp2_with (refine wpList_box_told rfl 63 (.tmp 4) rfl _ rfl ?_)
  intro w1 Hw1
  have HS := hide ((St.start w).add (box_snd Hw1.out).2 (T := sndT w.heap.size [] 0 0) (box_snd Hw1.out).1 (fun k hk => by rw [hk]; exact Nat.le_refl _))
  clear Hw1
  go_wp2_with fail
  obtain ⟨G, hp, _, hset⟩ := St.opened HS.out (i := 0) rfl
  have HT := hide hset
  refine (Push_any hp (by simp) 7).mono ?_
  rintro e w2 ⟨rfl, hA⟩
  have HS2 := hide (HT.out w2 (sndT w.heap.size [7] 0 0) hA)
  clear hp hset HT hA HS
  go_wp2_with fail
  obtain ⟨G2, hp, _, hset⟩ := St.opened HS2.out (i := 0) rfl
  have HT := hide hset
  refine (Send_any hp).mono ?_
  rintro e w3 ⟨v, rfl, hv, hA⟩
  have HS3 := hide (HT.out w3 _ hA)
  have hv' : Pkts w3 w2.heap.size v [(1, 7)] := hv
  have HV := hide hv'
  clear hp hset HT hA HS2 hv hv'
  go_wp2_with (refine wpList_box_told rfl 69 (.tmp 10) rfl _ rfl ?_)
  intro w4 Hw4
  obtain ⟨hr, hb⟩ := box_rcv Hw4.out
  have HB4 := hide (HS3.out.bel.trans (hb.mono HS3.out.bel.size))
  have HR := hide hr
  have hv4 := HV.out.below hb
  obtain ⟨A, c, rfl, _, _, hs⟩ := hv4.form
  obtain ⟨g, o, rfl, _, h0, h1⟩ := Src.pkt hs (j := 0) rfl
  have c0 : w4.cell? ⟨g, o, none⟩ = some (.int .i64 1) := h0
  have c1 : w4.cell? ⟨g, o + 1, none⟩ = some (.int .i64 7) := h1
  clear Hw4 hr hb hv4 hs HV h0 h1
  go_wp2_with fail
  refine (Take_next HR.out (by simp) 7).mono ?_
  rintro e w5 ⟨rfl, hA⟩
  have HB5 : Hid (Below w.heap.size w w5) := by
    obtain ⟨G', _, _, hk⟩ := hA
    exact HB4.out.trans (hk.below (fun k hk => by rw [hk]; exact HS3.out.bel.size) HB4.out.size)
  clear hA HR c0 c1
  go_wp2
  go_ret
  exact ⟨rfl, HB5.out⟩

end Go.Proofs.YtabjoalkbobhdaaDoor.Wi
