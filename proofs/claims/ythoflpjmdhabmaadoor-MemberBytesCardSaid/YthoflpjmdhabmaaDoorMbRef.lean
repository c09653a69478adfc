/-
  The document's own group in memory, and the contracts of its in, Has, Last and At. Nothing that was there is changed.
-/
import Derived.Test.YthoflpjmdhabmaaDoorMbPlay
namespace Go.Proofs.YthoflpjmdhabmaaDoor.Mb
open Go.RowKit
open Pk Dk Wn Lk

/-- Whether a volume is one of the first ones, as a number. -/
def bn (s v : Nat) : Int := if bt s v then 1 else 0
abbrev rgcel (s : Nat) (X : Value) : Array Value := #[.int .i64 (bn s 0), .int .i64 (bn s 1), .int .i64 (bn s 2), .int .i64 (bn s 3), X]
def rgrpT (p s : Nat) (L : List Ch) : Thg := exT fun X : Value => oneT p (rgcel s X) 65 72 3 X L.length (ccels L)
theorem app_rch : AppTy Tryd.prog 63 72 3 24 := AppTy.of Tryd.underlying63 (by kernel_rfl)
theorem bn_of {s v : Nat} : (bn s v == 1) = bt s v := by unfold bn; cases bt s v <;> rfl
section
variable {w w' : World} {G : Nat → Prop} {p s : Nat} {L : List Ch}
theorem Rgp.cells (h : (rgrpT p s L).P w G) : ∃ A n c, (oneT p (rgcel s (.slice A n c)) 65 72 3 (.slice A n c) n (ccels L)).P w G ∧ n = L.length ∧ n ≤ c ∧ c ≤ maxLen ∧ Src w A (ccels L) ∧ p < w.heap.size ∧ (∀ v, v < 4 → w.cell? ⟨p, v, none⟩ = some (.int .i64 (bn s v))) ∧ w.cell? ⟨p, 4, none⟩ = some (.slice A n c) ∧ ∀ j, w.frozen? ⟨p, j, none⟩ = false := by
  obtain ⟨X, hx⟩ := h
  obtain ⟨n, hn⟩ : ∃ n, L.length = n := ⟨_, rfl⟩
  rw [hn] at hx
  have hr := One.row hx
  obtain ⟨A, c, rfl, h1, h2, _⟩ := hr.form
  refine ⟨A, n, c, hx, hn.symm, h1, h2, hr.src, One.lt hx, fun v hv => ?_, One.cell hx 4, One.frozen hx⟩
  rw [One.cell hx v]
  rcases four hv with rfl | rfl | rfl | rfl <;> rfl
theorem Rgp.put {A : Option Addr} {n c : Nat} (h : (oneT p (rgcel s (.slice A n c)) 65 72 3 (.slice A n c) n (ccels L)).P w G) {W w2 : World} {v : Value} {m : Nat} {M : List Ch} (hb : Below w.heap.size w W) (hg : Grown W 72 3 (.slice A n c) m (ccels M) v w2) (hm : m = M.length) : w2.frozen? ⟨p, 4, none⟩ = false ∧ w2.cell? ⟨p, 4, none⟩ = some (.slice A n c) ∧ After (rgrpT p s M) w G (w2.setCell ⟨p, 4, none⟩ v) := by
  subst hm
  obtain ⟨hbox, hst⟩ := One.put h hb hg 4
  exact ⟨by simp [World.frozen?, hbox], by rw [cell_of_row w2 p 4 _ _ _ hbox]; rfl, Lk.After.imp hst fun G' h' => ⟨v, h'⟩⟩
theorem bn_wit {s v u : Nat} : bn (wit s v) u = if v = u then 1 else bn s u := by
  unfold bn
  rw [bt_wit]
  by_cases h : v = u <;> simp [h]
/-- One of the first ones is stored. -/
theorem Rgp.set (h : (rgrpT p s L).P w G) {v : Nat} (hv : v < 4) : After (rgrpT p (wit s v) L) w G (w.setCell ⟨p, v, none⟩ (.int .i64 1)) := by
  obtain ⟨X, hx⟩ := h
  have := One.set hx v (.int .i64 1)
  have e : (rgcel s X).setIfInBounds v (.int .i64 1) = rgcel (wit s v) X := by
    unfold rgcel
    rcases four hv with rfl | rfl | rfl | rfl <;> simp [bn_wit]
  rw [e] at this
  exact Lk.After.imp this fun G' h' => ⟨X, h'⟩
theorem Rgp.fresh (w : World) : ∃ G, (rgrpT w.heap.size 0 []).P (w.alloc (.cells #[.int .i64 0, .int .i64 0, .int .i64 0, .int .i64 0, .slice none 0 0] 65)) G ∧ ∀ k, G k → w.heap.size ≤ k := by
  obtain ⟨G, h1, h2⟩ := One.fresh w (rgcel 0 (.slice none 0 0)) 65 72 3
  exact ⟨G, ⟨_, h1⟩, h2⟩
end
theorem St.rgrp_new {w0 w : World} {Ts : List Thg} (h : St w0 Ts w) : St w0 (Ts ++ [rgrpT w.heap.size 0 []]) (w.alloc (.cells #[.int .i64 0, .int .i64 0, .int .i64 0, .int .i64 0, .slice none 0 0] 65)) := by
  obtain ⟨G, h1, h2⟩ := Rgp.fresh w
  exact h.add ((Below.refl _ _).alloc (Nat.le_refl _) _) (T := rgrpT w.heap.size 0 []) h1 h2
set_option maxRecDepth 100000 in
theorem in_any (v : Int) (w : World) : Calls Tryd.prog 31 #[.int .i64 v] w fun e w' => e = .returned (.bool (isV v)) ∧ w = w' := by
  by_cases h0 : 0 ≤ v
  · have HA : Hid (isV v = decide (v ≤ 3)) := by
      show _ = _
      rw [Bool.eq_iff_iff]
      simp only [isV, decide_eq_true_eq]
      omega
    go_enter Tryd.func31, Tryd.ntmps31
    go_wp2
    rw [HA.out]
    go_ret
    exact ⟨rfl, rfl⟩
  · have HA : Hid (isV v = false) := by simp [isV, h0, Hid]
    go_enter Tryd.func31, Tryd.ntmps31
    go_wp2
    rw [HA.out]
    go_ret
    exact ⟨rfl, rfl⟩
section
variable {w : World} {G : Nat → Prop} {p s : Nat} {L : List Ch}
set_option maxRecDepth 100000 in
set_option maxHeartbeats 2000000 in
theorem RLast_any (h : (rgrpT p s L).P w G) (hl : L.length ≤ 100) : Calls Tryd.prog 15 #[.pointer (some ⟨p, 0, none⟩)] w fun e w' => e = .returned (.int .i64 (last L)) ∧ Below w.heap.size w w' := by
  obtain ⟨A, n, c, _, hn, hnc, hcm, hs, hp, _, c1, _⟩ := Rgp.cells h
  rcases Nat.eq_zero_or_pos n with h0 | h0
  · have HL : Hid (last L = 0) := by
      obtain rfl : L = [] := List.eq_nil_of_length_eq_zero (by omega)
      rfl
    subst h0
    clear h hl hn hnc hcm hs hp
    go_enter Tryd.func15, Tryd.ntmps15
    go_wp2
    go_ret
    exact ⟨by rw [HL.out]; rfl, ⟨rfl, rfl, rfl, Nat.le_refl _, fun _ _ => rfl⟩⟩
  · obtain ⟨k, rfl⟩ : ∃ k, n = k + 1 := ⟨n - 1, by omega⟩
    obtain ⟨d, hd⟩ : ∃ d, L[k]? = some d := ⟨_, List.getElem?_eq_getElem (by omega)⟩
    have HL := hide (last_get hd (by omega))
    obtain ⟨g, o, rfl, hg, hat⟩ := Src.chg hs hd
    have hm := hat.m
    have hk : k ≤ 100 := by omega
    have e0 : ((((k + 1 : Nat) : Int)) == 0) = false := by simp; omega
    have e1 : IntKind.i64.wrap (((k + 1 : Nat) : Int) - 1) = (k : Int) := by rw [IntKind.wrap_i64]; omega
    clear h hl hn hcm hs hp hat hg hd
    go_enter Tryd.func15, Tryd.ntmps15
    go_wp2_with fail
    go_quiet (fail)
    go_wp2
    go_ret
    exact ⟨by rw [HL.out]; rfl, ⟨rfl, rfl, rfl, Nat.le_refl _, fun _ _ => rfl⟩⟩
set_option maxRecDepth 100000 in
set_option maxHeartbeats 4000000 in
theorem RHas_any (h : (rgrpT p s L).P w G) (hF : Fine s L) {v : Nat} (hv : v < 4) (mark : Int) : Calls Tryd.prog 34 #[.pointer (some ⟨p, 0, none⟩), .int .i64 (v : Int), .int .i64 mark] w fun e w' => e = .returned (.bool (bt (atS s L mark) v)) ∧ w = w' := by
  obtain ⟨A, n, c, _, hn, hnc, hcm, hsr, hp, hc0, c1, _⟩ := Rgp.cells h
  have c0 := hc0 v hv
  have hn100 : n ≤ 100 := by rw [hn]; exact hF.len
  have hni : (n : Int) ≤ 100 := by omega
  have Hn := hide hn
  have HF := hide hF
  have Hsr := hide hsr
  have HB := hide (bn_of (s := s) (v := v))
  have hvi : (v : Int) < 4 := by omega
  generalize bn s v = b0 at *
  clear h hF hn hnc hcm hsr hp hc0 hn100
  go_enter Tryd.func34, Tryd.ntmps34
  go_wp2_with fail
  rw [HB.out]
  go_loop [7, 21] (fun bv iv => ∃ k : Nat, k ≤ n ∧ iv = .int .i64 (k : Int) ∧ ∃ B : Bool, bv = .bool B ∧ Hid (bt (atS s (L.take k) mark) v = B)) (fun _ iv => n - (intOf iv).toNat)
  case atStart => exact ⟨0, Nat.zero_le _, rfl, bt s v, rfl, rfl⟩
  case round =>
    obtain ⟨k, hk, rfl, B, rfl, ht⟩ := hrel
    rcases Nat.lt_or_ge k n with hlt | hge
    · have Hlt := hide hlt
      have hki : (k : Int) < (n : Int) := by omega
      obtain ⟨d, hd⟩ : ∃ d, L[k]? = some d := ⟨_, List.getElem?_eq_getElem (by rw [← Hn.out]; exact hlt)⟩
      obtain ⟨g, o, rfl, hgl, hat⟩ := Src.chg Hsr.out hd
      have HT := hide (HF.out.bit hd mark v)
      rw [ht.out] at HT
      have hdv := (HF.out.last_le.2.2 d (List.mem_of_getElem? hd)).1
      obtain ⟨dm, dv, dr⟩ := d
      obtain ⟨a0, a1, a2⟩ := hat
      simp only at a0 a1 a2 hdv HT
      obtain ⟨u, rfl⟩ : ∃ u : Nat, dv = (u : Int) := ⟨dv.toNat, by omega⟩
      rw [Int.toNat_natCast] at HT
      clear hk hlt hd hgl ht hdv
      by_cases h1 : u = v
      · have e1 : ((u : Int) == (v : Int)) = true := by simp [h1]
        by_cases h2 : dm ≤ mark
        · rw [if_pos ⟨h1, h2⟩] at HT
          subst h1
          go_wp2
          go_round
          case rel => exact ⟨k + 1, Hlt.out, by go_num, _, rfl, HT.out⟩
          case measure => have := Hlt.out; simp [intOf]; omega
        · rw [if_neg (fun e => h2 e.2)] at HT
          subst h1
          go_wp2
          go_round
          case rel => exact ⟨k + 1, Hlt.out, by go_num, _, rfl, HT.out⟩
          case measure => have := Hlt.out; simp [intOf]; omega
      · have e1 : ((u : Int) == (v : Int)) = false := by simp; omega
        rw [if_neg (fun e => h1 e.1)] at HT
        clear h1
        go_wp2
        go_round
        case rel => exact ⟨k + 1, Hlt.out, by go_num, _, rfl, HT.out⟩
        case measure => have := Hlt.out; simp [intOf]; omega
    · obtain rfl : k = n := by omega
      have e1 := ht.out
      rw [List.take_of_length_le (by rw [Hn.out]; exact Nat.le_refl _)] at e1
      have E1 := hide e1
      clear hge hk ht e1
      go_wp2
      go_ret
      exact ⟨by rw [E1.out]; rfl, rfl⟩
set_option maxRecDepth 100000 in
set_option maxHeartbeats 4000000 in
theorem RAt_any (h : (rgrpT p s L).P w G) (hF : Fine s L) (mark : Int) : Calls Tryd.prog 18 #[.pointer (some ⟨p, 0, none⟩), .int .i64 mark] w fun e w' => ∃ v, e = .returned v ∧ Ints w' w.heap.size v (vols (atS s L mark) 4) ∧ Below w.heap.size w w' := by
  have HH : Hid (∀ W (k : Nat), Below w.heap.size w W → k < 4 → Calls Tryd.prog 34 #[.pointer (some ⟨p, 0, none⟩), .int .i64 (k : Int), .int .i64 mark] W fun e w' => e = .returned (.bool (bt (atS s L mark) k)) ∧ W = w') := fun W k hW hk => RHas_any (Thg.below h hW) hF hk mark
  generalize atS s L mark = t at *
  clear h hF
  go_enter Tryd.func18, Tryd.ntmps18
  go_wp2
  go_loopw [5, 6] (fun v j wr => ∃ k : Nat, k ≤ 4 ∧ j = .int .i64 (k : Int) ∧ Hid (Ints wr w.heap.size v (vols t k)) ∧ Hid (Below w.heap.size w wr)) (fun _ j _ => 4 - (intOf j).toNat)
  case atStart => exact ⟨0, Nat.zero_le _, rfl, Ints.nil _ _, Below.refl _ _⟩
  case round =>
    obtain ⟨k, hk, rfl, hv, hb⟩ := hrel
    rcases Nat.lt_or_ge k 4 with hlt | hge
    · have Hlt := hide hlt
      have hki : (k : Int) < 4 := by omega
      have HC := hide (HH.out wr k hb.out hlt)
      obtain ⟨VA, vc, rfl, _, _, _⟩ := hv.out.form
      obtain ⟨q, hq⟩ : ∃ q, (vols t k).length = q := ⟨_, rfl⟩
      have hq1 := vols_len t k
      rw [hq] at hq1
      cases hbit : bt t k with
      | false =>
        have HT := hide (show vols t (k + 1) = vols t k by simp [vols, hbit])
        rw [hq] at hv ⊢
        rw [hbit] at HC
        clear hlt hk
        go_wp2_with fail
        refine HC.out.mono ?_
        rintro e w2 ⟨rfl, hw⟩
        subst hw
        clear HC hbit
        go_wp2
        go_roundw
        case rel => exact ⟨k + 1, Hlt.out, by go_num, by rw [HT.out]; exact hv.out, hb.out⟩
        case measure => have := Hlt.out; simp [intOf]; omega
      | true =>
        have HT := hide (show vols t (k + 1) = vols t k ++ [(k : Int)] by simp [vols, hbit])
        rw [hbit] at HC
        have hb5 : Below wr.heap.size wr (wr.alloc (.cells #[.int .i64 (k : Int)] 3)) := (Below.refl _ _).alloc (Nat.le_refl _) _
        have hvr := (hv.out.below hb5).row
        have Hm1 := hide (show q + 1 ≤ maxLen by unfold maxLen; omega)
        have Hm2 := hide (show (q + 1) * 8 ≤ 140737488355328 by omega)
        rw [hq] at hvr ⊢
        have HO := hide hvr
        have HM := hide (Made.row (Below.refl _ wr) #[.int .i64 (k : Int)] 3).src
        have HG : Hid (∀ (W2 : World) (v2 : Value), Grown (wr.alloc (.cells #[.int .i64 (k : Int)] 3)) 3 1 (.slice VA q vc) (q + 1) (nums (vols t k) ++ nums [(k : Int)]) v2 W2 → Ints W2 w.heap.size v2 (vols t (k + 1)) ∧ Below w.heap.size w W2) := fun W2 v2 hg => by
          have hkp := hg.kept (G := fun i => w.heap.size ≤ i) hb5 (fun i hi => hv.out.own i (by rw [hq]; exact hi))
          refine ⟨⟨?_, fun i hi => ?_⟩, hb.out.trans (hkp.below (fun _ h => h) hb.out.size)⟩
          · rw [HT.out]
            have := hg.row
            simpa [nums, hq] using this
          · rcases hg.own i hi with h1 | h1
            · exact hv.out.own i (by rw [hq]; exact h1)
            · have := hb5.size
              have := hb.out.size
              omega
        clear hlt hk hvr hb5
        go_wp2_with fail
        refine HC.out.mono ?_
        rintro e w2 ⟨rfl, hw⟩
        subst hw
        clear HC hbit
        go_wp2_with (at_builtin; go_must (refine wpList_app app_int rfl (.tmp 15) (.tmp 17) rfl (.slice VA q vc) q (nums (vols t k)) rfl HO.out _ 1 1 (nums [(k : Int)]) rfl rfl HM.out (fun u hu => by simp [nums] at hu; subst hu; rfl) (by decide) Hm1.out Hm2.out ?_))
        intro v2 W2 hg
        have HGW := hide (HG.out W2 v2 hg.out)
        clear hg HG HM HO
        go_wp2
        go_roundw
        case rel => exact ⟨k + 1, Hlt.out, by go_num, HGW.out.1, HGW.out.2⟩
        case measure => have := Hlt.out; simp [intOf]; omega
    · obtain rfl : k = 4 := by omega
      clear hge hk
      go_wp2
      go_ret
      exact ⟨_, rfl, hv.out, hb.out⟩
end

end Go.Proofs.YthoflpjmdhabmaaDoor.Mb
