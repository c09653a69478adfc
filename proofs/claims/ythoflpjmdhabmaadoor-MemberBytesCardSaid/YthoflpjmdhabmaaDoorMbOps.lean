/-
  The contracts of at, Last, now, At and Now of a group, and of these calls at nil. Nothing that was there is changed.
-/
import Derived.Test.YthoflpjmdhabmaaDoorMbSet
namespace Go.Proofs.YthoflpjmdhabmaaDoor.Mb
open Go.RowKit
open Pk Dk Wn Lk

section
variable {w : World} {G : Nat → Prop} {p s : Nat} {L : List Ch}
set_option maxRecDepth 100000 in
set_option maxHeartbeats 2000000 in
theorem Last_any (h : (grpT p s L).P w G) (hl : L.length ≤ 100) : Calls Tryd.prog 14 #[.pointer (some ⟨p, 0, none⟩)] w fun e w' => e = .returned (.int .i64 (last L)) ∧ Below w.heap.size w w' := by
  obtain ⟨A, n, c, _, hn, hnc, hcm, hs, hp, c0, c1, _⟩ := Grp.cells h
  rcases Nat.eq_zero_or_pos n with h0 | h0
  · have HL : Hid (last L = 0) := by
      obtain rfl : L = [] := List.eq_nil_of_length_eq_zero (by omega)
      rfl
    subst h0
    clear h hl hn hnc hcm hs hp c0
    go_enter Tryd.func14, Tryd.ntmps14
    go_wp2
    go_ret
    exact ⟨by rw [HL.out]; rfl, ⟨rfl, rfl, rfl, Nat.le_refl _, fun _ _ => rfl⟩⟩
  · obtain ⟨k, rfl⟩ : ∃ k, n = k + 1 := ⟨n - 1, by omega⟩
    obtain ⟨d, hd⟩ : ∃ d, L[k]? = some d := ⟨_, List.getElem?_eq_getElem (by omega)⟩
    have HL := hide (last_get hd (by omega))
    obtain ⟨g, o, rfl, hg, hat⟩ := Src.chg hs hd
    have hm := hat.m
    have hk : k ≤ 100 := by omega
    have e0 : ((((k + 1 : Nat) : Int)) == 0) = false := by simp; omega
    have e1 : IntKind.i64.wrap (((k + 1 : Nat) : Int) - 1) = (k : Int) := by rw [IntKind.wrap_i64]; omega
    clear h hl hn hcm hs hp c0 hat hg hd
    go_enter Tryd.func14, Tryd.ntmps14
    go_wp2_with fail
    go_quiet (fail)
    go_wp2
    go_ret
    exact ⟨by rw [HL.out]; rfl, ⟨rfl, rfl, rfl, Nat.le_refl _, fun _ _ => rfl⟩⟩

theorem drop_get {α : Type} {l : List α} {k : Nat} {x : α} (h : l[k]? = some x) : l.drop k = x :: l.drop (k + 1) := by
  obtain ⟨hk, e⟩ := List.getElem?_eq_some_iff.1 h
  rw [List.drop_eq_getElem_cons hk, e]
/-- Changes of volumes that there are. -/
def Vok (L : List Ch) : Prop := ∀ c ∈ L, 0 ≤ c.v ∧ c.v < 4
theorem Fine.vok {s : Nat} {L : List Ch} (h : Fine s L) : Vok L := fun c hc => (h.last_le.2.2 c hc).1
set_option maxRecDepth 100000 in
set_option maxHeartbeats 4000000 in
theorem at_any (h : (grpT p s L).P w G) (hl : L.length ≤ 100) (hs : s < 1152921504606846976) (hv : Vok L) (mark : Int) : Calls Tryd.prog 35 #[.pointer (some ⟨p, 0, none⟩), .int .i64 mark] w fun e w' => e = .returned (.int .i64 (atS s L mark : Int)) ∧ Below w.heap.size w w' := by
  obtain ⟨A, n, c, _, hn, hnc, hcm, hsr, hp, c0, c1, _⟩ := Grp.cells h
  obtain ⟨R, hR⟩ : ∃ R, atS s L mark = R := ⟨_, rfl⟩
  have Hn := hide hn
  have Hs := hide hs
  have Hv := hide hv
  have Hsr := hide hsr
  have HR := hide hR
  have hni : (n : Int) ≤ 100 := by omega
  rw [hR]
  clear h hl hs hv hn hnc hcm hsr hp hR
  go_enter Tryd.func35, Tryd.ntmps35
  go_wp2_with fail
  go_loopw [5, 19] (fun sv iv wr => ∃ k : Nat, k ≤ n ∧ ∃ t : Nat, sv = .int .i64 (t : Int) ∧ iv = .int .i64 (k : Int) ∧ Hid (t < 1152921504606846976 ∧ atS t (L.drop k) mark = R) ∧ Hid (Below w.heap.size w wr)) (fun _ iv _ => n - (intOf iv).toNat)
  case atStart => exact ⟨0, Nat.zero_le _, s, rfl, rfl, ⟨Hs.out, HR.out⟩, Below.refl _ _⟩
  case round =>
    obtain ⟨k, hk, t, rfl, rfl, ht, hb⟩ := hrel
    rcases Nat.lt_or_ge k n with hlt | hge
    · have Hlt := hide hlt
      have hki : (k : Int) < (n : Int) := by omega
      obtain ⟨d, hd⟩ : ∃ d, L[k]? = some d := ⟨_, List.getElem?_eq_getElem (by rw [← Hn.out]; exact hlt)⟩
      obtain ⟨g, o, rfl, hgl, hat⟩ := Src.chg (Hsr.out.below hb.out) hd
      have hdv := Hv.out d (List.mem_of_getElem? hd)
      obtain ⟨dm, dv, dr⟩ := d
      obtain ⟨a0, a1, a2⟩ := hat
      simp only at a0 a1 a2 hdv
      obtain ⟨v, rfl⟩ : ∃ v : Nat, dv = (v : Int) := ⟨dv.toNat, by omega⟩
      have hv4 : v < 4 := by omega
      have hbw : Below wr.heap.size wr (wr.alloc (.cells #[.int .i64 dm, .int .i64 (v : Int), .bool dr] 70)) := (Below.refl _ _).alloc (Nat.le_refl _) _
      have HB := hide (hb.out.trans (hbw.mono hb.out.size))
      have HD := hide (show (if mark < dm then t else atS (app t ⟨dm, (v : Int), dr⟩) (L.drop (k + 1)) mark) = R by rw [← ht.out.2, drop_get hd]; rfl)
      by_cases hm : mark < dm
      · have e1 : Hid (t = R) := by rw [← HD.out, if_pos hm]; rfl
        clear hk hlt hd hdv hgl hbw HD ht hv4
        go_wp2
        go_ret
        exact ⟨by rw [e1.out]; rfl, HB.out⟩
      · have HW := hide (without_any t v (wr.alloc (.cells #[.int .i64 dm, .int .i64 (v : Int), .bool dr] 70)) ht.out.1 hv4)
        have HW' := hide (with_any t v (wr.alloc (.cells #[.int .i64 dm, .int .i64 (v : Int), .bool dr] 70)) ht.out.1 hv4)
        have H60 : Hid (app t ⟨dm, (v : Int), dr⟩ < 1152921504606846976) := app_lt (n := 60) ht.out.1 (by show (v : Int) < 4; omega) (by decide)
        rw [if_neg hm] at HD
        cases dr with
        | true =>
          have e2 := hide (show app t ⟨dm, (v : Int), true⟩ = wout t v by simp [app])
          rw [e2.out] at HD H60
          clear hk hlt hd hdv hgl hbw ht hv4 HW' e2
          go_wp2_with fail
          refine HW.out.mono ?_
          rintro e w2 ⟨rfl, rfl⟩
          clear HW
          go_wp2
          go_roundw
          case rel => exact ⟨k + 1, Hlt.out, wout t v, rfl, by go_num, ⟨H60.out, HD.out⟩, HB.out⟩
          case measure => have := Hlt.out; simp [intOf]; omega
        | false =>
          have e2 := hide (show app t ⟨dm, (v : Int), false⟩ = wit t v by simp [app])
          rw [e2.out] at HD H60
          clear hk hlt hd hdv hgl hbw ht hv4 HW e2
          go_wp2_with fail
          refine HW'.out.mono ?_
          rintro e w2 ⟨rfl, rfl⟩
          clear HW'
          go_wp2
          go_roundw
          case rel => exact ⟨k + 1, Hlt.out, wit t v, rfl, by go_num, ⟨H60.out, HD.out⟩, HB.out⟩
          case measure => have := Hlt.out; simp [intOf]; omega
    · obtain rfl : k = n := by omega
      have e1 : Hid (t = R) := by
        have := ht.out.2
        rw [List.drop_of_length_le (by rw [Hn.out]; exact Nat.le_refl _)] at this
        exact this
      clear hge hk ht
      go_wp2
      go_ret
      exact ⟨by rw [e1.out]; rfl, hb.out⟩
set_option maxRecDepth 100000 in
theorem now_any (h : (grpT p s L).P w G) (hl : L.length ≤ 100) (hs : s < 1152921504606846976) (hv : Vok L) : Calls Tryd.prog 37 #[.pointer (some ⟨p, 0, none⟩)] w fun e w' => e = .returned (.int .i64 (atS s L (last L) : Int)) ∧ Below w.heap.size w w' := by
  have HL := hide (Last_any h hl)
  have HA : Hid (∀ w2, Below w.heap.size w w2 → Calls Tryd.prog 35 #[.pointer (some ⟨p, 0, none⟩), .int .i64 (last L)] w2 fun e w' => e = .returned (.int .i64 (atS s L (last L) : Int)) ∧ Below w2.heap.size w2 w') := fun w2 hb => at_any (Thg.below h hb) hl hs hv (last L)
  clear h hl hs hv
  go_enter Tryd.func37, Tryd.ntmps37
  go_wp2_with fail
  refine HL.out.mono ?_
  rintro e w2 ⟨rfl, hb2⟩
  have HB2 := hide hb2
  clear hb2 HL
  go_wp2_with fail
  refine (HA.out w2 HB2.out).mono ?_
  rintro e w3 ⟨rfl, hb3⟩
  have HB3 := hide (HB2.out.trans (hb3.mono HB2.out.size))
  clear hb3 HA HB2
  go_wp2
  go_ret
  exact ⟨rfl, HB3.out⟩
set_option maxRecDepth 100000 in
theorem At_any (h : (grpT p s L).P w G) (hl : L.length ≤ 100) (hs : s < 16) (hv : Vok L) (mark : Int) : Calls Tryd.prog 17 #[.pointer (some ⟨p, 0, none⟩), .int .i64 mark] w fun e w' => ∃ v, e = .returned v ∧ Ints w' w.heap.size v (vols (atS s L mark) 4) ∧ Below w.heap.size w w' := by
  have HA := hide (at_any h hl (by omega) hv mark)
  have h16 : atS s L mark < 2 ^ 4 := atS_lt L s 4 mark hs (Nat.le_refl _) fun c hc => (hv c hc).2
  obtain ⟨t, ht⟩ : ∃ t, atS s L mark = t := ⟨_, rfl⟩
  rw [ht] at HA h16 ⊢
  have HT := hide (fun w2 => list_any t (by omega) w2)
  clear h hl hs hv ht h16
  go_enter Tryd.func17, Tryd.ntmps17
  go_wp2_with fail
  refine HA.out.mono ?_
  rintro e w2 ⟨rfl, hb2⟩
  have HB2 := hide hb2
  clear hb2 HA
  go_wp2_with fail
  refine (HT.out w2).mono ?_
  rintro e w3 ⟨v, rfl, hv, hb3⟩
  have HV := hide (show Ints w3 w.heap.size v (vols t 4) from ⟨hv.row, fun k hk => Nat.le_trans HB2.out.size (hv.own k hk)⟩)
  have HB3 := hide (HB2.out.trans (hb3.mono HB2.out.size))
  clear hb3 HT HB2 hv
  go_wp2
  go_ret
  exact ⟨_, rfl, HV.out, HB3.out⟩
set_option maxRecDepth 100000 in
theorem Now_any (h : (grpT p s L).P w G) (hl : L.length ≤ 100) (hs : s < 16) (hv : Vok L) : Calls Tryd.prog 19 #[.pointer (some ⟨p, 0, none⟩)] w fun e w' => ∃ v, e = .returned v ∧ Ints w' w.heap.size v (vols (atS s L (last L)) 4) ∧ Below w.heap.size w w' := by
  have HA := hide (now_any h hl (by omega) hv)
  have h16 : atS s L (last L) < 2 ^ 4 := atS_lt L s 4 (last L) hs (Nat.le_refl _) fun c hc => (hv c hc).2
  obtain ⟨t, ht⟩ : ∃ t, atS s L (last L) = t := ⟨_, rfl⟩
  rw [ht] at HA h16 ⊢
  have HT := hide (fun w2 => list_any t (by omega) w2)
  clear h hl hs hv ht h16
  go_enter Tryd.func19, Tryd.ntmps19
  go_wp2_with fail
  refine HA.out.mono ?_
  rintro e w2 ⟨rfl, hb2⟩
  have HB2 := hide hb2
  clear hb2 HA
  go_wp2_with fail
  refine (HT.out w2).mono ?_
  rintro e w3 ⟨v, rfl, hv, hb3⟩
  have HV := hide (show Ints w3 w.heap.size v (vols t 4) from ⟨hv.row, fun k hk => Nat.le_trans HB2.out.size (hv.own k hk)⟩)
  have HB3 := hide (HB2.out.trans (hb3.mono HB2.out.size))
  clear hb3 HT HB2 hv
  go_wp2
  go_ret
  exact ⟨_, rfl, HV.out, HB3.out⟩
end

end Go.Proofs.YthoflpjmdhabmaaDoor.Mb
