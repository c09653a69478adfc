/-
  The contracts of New, Add and Remove of a group, and of Add and Remove at nil. Nothing but the group's own blocks is changed.
-/
import Derived.Test.YthoflpjmdhabmaaDoorMbTake
namespace Go.Proofs.YthoflpjmdhabmaaDoor.Mb
open Go.RowKit
open Pk Dk Wn Lk

/-- What New returns and leaves. -/
def NewR (w : World) (R : Nat ⊕ (Int × Int)) (e : Ending) (w' : World) : Prop := match R with
  | .inl t => e = .returned (.tuple #[.pointer (some ⟨w.heap.size, 0, none⟩), .nilIface]) ∧ St w [grpT w.heap.size t []] w'
  | .inr (v, f) => ∃ q, e = .returned (.tuple #[.pointer none, .iface 86 (.pointer (some ⟨q, 0, none⟩))]) ∧ Fails w v f q w'
theorem St.grp_new {w0 w : World} {Ts : List Thg} (h : St w0 Ts w) : St w0 (Ts ++ [grpT w.heap.size 0 []]) (w.alloc (.cells (gcel 0 (.slice none 0 0)) 58)) := by
  obtain ⟨G, h1, h2⟩ := Grp.fresh w
  exact h.add ((Below.refl _ _).alloc (Nat.le_refl _) _) (T := grpT w.heap.size 0 []) h1 h2
/-- A group's set among other things: its cell, and what a store leaves. -/
theorem St.gset {w0 w : World} {Ts : List Thg} {i p s : Nat} {L : List Ch} (h : St w0 Ts w) (hi : Ts[i]? = some (grpT p s L)) : w.cell? ⟨p, 0, none⟩ = some (.int .i64 (s : Int)) ∧ w.frozen? ⟨p, 0, none⟩ = false ∧ ∀ t : Nat, St w0 (Ts.set i (grpT p t L)) (w.setCell ⟨p, 0, none⟩ (.int .i64 (t : Int))) := by
  obtain ⟨G, hp, _, hs⟩ := St.opened h hi
  obtain ⟨A, n, c, _, _, _, _, _, _, c0, _, fz⟩ := Grp.cells hp
  exact ⟨c0, fz 0, fun t => hs _ _ (Grp.set hp t)⟩
set_option maxRecDepth 100000 in
set_option maxHeartbeats 8000000 in
theorem New_any (A : Option Addr) (n c : Nat) (l : List Int) (w : World) (hl : l.length = n) (hn : n ≤ 100000) (hsr : Src w A (nums l)) : Calls Tryd.prog 8 #[.slice A n c] w (NewR w (newS 0 l)) := by
  obtain ⟨R, hR⟩ : ∃ R, newS 0 l = R := ⟨_, rfl⟩
  have Hl := hide hl
  have HR := hide hR
  have Hsr := hide hsr
  have hni : (n : Int) ≤ 100000 := by omega
  have HS0 := hide (St.grp_new (St.start w))
  rw [hR]
  clear hl hR hsr hn
  go_enter Tryd.func8, Tryd.ntmps8
  go_wp2_with fail
  go_loopw [11] (fun iv wr => ∃ k : Nat, k ≤ n ∧ ∃ t : Nat, iv = .int .i64 (k : Int) ∧ Hid (t < 16 ∧ newS t (l.drop k) = R) ∧ Hid (St w [grpT w.heap.size t []] wr)) (fun iv _ => n - (intOf iv).toNat)
  case atStart => exact ⟨0, Nat.zero_le _, 0, rfl, ⟨by decide, HR.out⟩, HS0.out⟩
  case round =>
    obtain ⟨k, hk, t, rfl, ht, hst⟩ := hrel
    rcases Nat.lt_or_ge k n with hlt | hge
    · have Hlt := hide hlt
      have hki : (k : Int) < (n : Int) := by omega
      obtain ⟨x, hx⟩ : ∃ x, l[k]? = some x := ⟨_, List.getElem?_eq_getElem (by rw [Hl.out]; exact hlt)⟩
      obtain ⟨g, o, rfl, _, a0⟩ := Src.num (Hsr.out.below hst.out.bel) hx
      have HD := ht.out.2
      rw [drop_get hx] at HD
      unfold newS at HD
      have HD' := hide HD
      obtain ⟨b0, f0, hset⟩ := St.gset hst.out (i := 0) rfl
      have HSet := hide hset
      clear HD hx hset hlt hk
      go_wp2_with fail
      refine (isVolume_any x wr).mono ?_
      rintro e w2 ⟨rfl, hw2⟩
      subst hw2
      by_cases hv : 0 ≤ x ∧ x < 4
      · rw [if_neg (Decidable.not_not.2 hv)] at HD'
        have e1 : isV x = true := by simp [isV, hv]
        rw [e1]
        obtain ⟨u, rfl⟩ : ∃ u : Nat, x = (u : Int) := ⟨x.toNat, by omega⟩
        have hu : u < 4 := by omega
        have HH := hide (has_any t u wr (by have := ht.out.1; omega) hu)
        have HW := hide (with_any t u wr (by have := ht.out.1; omega) hu)
        have H16 := hide (wit_lt (n := 4) ht.out.1 hu)
        rw [Int.toNat_natCast] at HD'
        clear e1 hv hu ht
        go_wp2_with fail
        refine HH.out.mono ?_
        rintro e w2 ⟨rfl, hw2⟩
        subst hw2
        clear HH
        cases hb : bt t u with
        | true =>
          rw [if_pos hb] at HD'
          go_wp2_with fail
          refine (failed_any (u : Int) 1 wr rfl).mono ?_
          rintro e w3 ⟨q, rfl, hF, hb3⟩
          have HF : Hid (Fails w (u : Int) 1 q w3) := ⟨hF, hst.out.bel.trans (hb3.mono hst.out.bel.size)⟩
          clear hF hb3 HW HSet hst hb
          go_wp2
          go_ret2
          rw [← HD'.out]
          exact ⟨q, rfl, HF.out⟩
        | false =>
          rw [if_neg (by simp [hb])] at HD'
          go_wp2_with fail
          refine HW.out.mono ?_
          rintro e w2 ⟨rfl, hw2⟩
          subst hw2
          have HS2 := hide (HSet.out (wit t u))
          clear HW HSet hst hb
          go_wp2
          generalize World.setCell _ _ _ = w3 at *
          go_roundw
          case rel => exact ⟨k + 1, Hlt.out, wit t u, by go_num, ⟨H16.out, HD'.out⟩, HS2.out⟩
          case measure => have := Hlt.out; simp [intOf]; omega
      · rw [if_pos hv] at HD'
        have e1 : isV x = false := by simp [isV, hv]
        rw [e1]
        clear hv e1 HSet ht
        go_wp2_with fail
        refine (failed_any x 5 wr rfl).mono ?_
        rintro e w3 ⟨q, rfl, hF, hb3⟩
        have HF : Hid (Fails w x 5 q w3) := ⟨hF, hst.out.bel.trans (hb3.mono hst.out.bel.size)⟩
        clear hF hb3 hst
        go_wp2
        go_ret2
        rw [← HD'.out]
        exact ⟨q, rfl, HF.out⟩
    · obtain rfl : k = n := by omega
      have e1 : Hid (R = .inl t) := by
        have := ht.out.2
        rw [List.drop_of_length_le (by rw [Hl.out]; exact Nat.le_refl _)] at this
        exact this.symm
      clear hge hk ht
      go_wp2
      go_ret2
      rw [e1.out]
      exact ⟨rfl, hst.out⟩

section
variable {w : World} {G : Nat → Prop} {p s : Nat} {L : List Ch}
set_option maxRecDepth 100000 in
theorem Add_ok (h : (grpT p s L).P w G) (hs : s < 1152921504606846976) (hv : Vok L) {m v : Int} (hk : chk s L v m false = 0) : Calls Tryd.prog 11 #[.pointer (some ⟨p, 0, none⟩), .int .i64 v, .int .i64 m] w fun e w' => e = .returned .nilIface ∧ After (grpT p s (L ++ [⟨m, v, false⟩])) w G w' := by
  have HT := hide (take_ok h hs hv hk)
  clear h hs hv hk
  go_enter Tryd.func11, Tryd.ntmps11
  go_wp2_with fail
  refine HT.out.mono ?_
  rintro e w2 ⟨rfl, hA⟩
  have HA := hide hA
  clear hA HT
  go_wp2
  go_ret
  exact ⟨rfl, HA.out⟩
set_option maxRecDepth 100000 in
theorem Remove_ok (h : (grpT p s L).P w G) (hs : s < 1152921504606846976) (hv : Vok L) {m v : Int} (hk : chk s L v m true = 0) : Calls Tryd.prog 13 #[.pointer (some ⟨p, 0, none⟩), .int .i64 v, .int .i64 m] w fun e w' => e = .returned .nilIface ∧ After (grpT p s (L ++ [⟨m, v, true⟩])) w G w' := by
  have HT := hide (take_ok h hs hv hk)
  clear h hs hv hk
  go_enter Tryd.func13, Tryd.ntmps13
  go_wp2_with fail
  refine HT.out.mono ?_
  rintro e w2 ⟨rfl, hA⟩
  have HA := hide hA
  clear hA HT
  go_wp2
  go_ret
  exact ⟨rfl, HA.out⟩
set_option maxRecDepth 100000 in
theorem Add_no (h : (grpT p s L).P w G) (hl : L.length ≤ 100) (hs : s < 1152921504606846976) (hv : Vok L) {m v x : Int} (hk : chk s L v m false = x) (hx : (x == 0) = false) : Calls Tryd.prog 11 #[.pointer (some ⟨p, 0, none⟩), .int .i64 v, .int .i64 m] w fun e w' => ∃ q, e = .returned (.iface 86 (.pointer (some ⟨q, 0, none⟩))) ∧ Fails w v x q w' := by
  have HT := hide (take_no h hl hs hv hk hx)
  clear h hl hs hv hk hx
  go_enter Tryd.func11, Tryd.ntmps11
  go_wp2_with fail
  refine HT.out.mono ?_
  rintro e w2 ⟨q, rfl, hF⟩
  have HF := hide hF
  clear hF HT
  go_wp2
  go_ret
  exact ⟨q, rfl, HF.out⟩
set_option maxRecDepth 100000 in
theorem Remove_no (h : (grpT p s L).P w G) (hl : L.length ≤ 100) (hs : s < 1152921504606846976) (hv : Vok L) {m v x : Int} (hk : chk s L v m true = x) (hx : (x == 0) = false) : Calls Tryd.prog 13 #[.pointer (some ⟨p, 0, none⟩), .int .i64 v, .int .i64 m] w fun e w' => ∃ q, e = .returned (.iface 86 (.pointer (some ⟨q, 0, none⟩))) ∧ Fails w v x q w' := by
  have HT := hide (take_no h hl hs hv hk hx)
  clear h hl hs hv hk hx
  go_enter Tryd.func13, Tryd.ntmps13
  go_wp2_with fail
  refine HT.out.mono ?_
  rintro e w2 ⟨q, rfl, hF⟩
  have HF := hide hF
  clear hF HT
  go_wp2
  go_ret
  exact ⟨q, rfl, HF.out⟩
end

end Go.Proofs.YthoflpjmdhabmaaDoor.Mb
