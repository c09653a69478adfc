/-
  The contracts of decode and FromBytes: any bytes are the group that they are read as, or none. Nothing that was there is changed.
-/
import Derived.Test.YthoflpjmdhabmaaDoorMbByt
namespace Go.Proofs.YthoflpjmdhabmaaDoor.Mb
open Go.RowKit
open Pk Dk Wn Lk

/-- A group beside the reader that it is read from: the reader's block is the next one; its bytes lay there before both. -/
structure DecS (w0 : World) (p q s : Nat) (M : List Ch) (l : List UInt8) (e : Nat) (w : World) : Prop where
  hp : w0.heap.size = p
  hq : q = p + 1
  ex : ∃ A c, St w0 [grpT p s M, blkT q #[.slice A l.length c, .int .i64 (e : Int)] 94] w ∧ l.length ≤ c ∧ c ≤ maxLen ∧ Byt w0 p A l
section
variable {w0 w w' : World} {p q s e : Nat} {M : List Ch} {l : List UInt8}
theorem DecS.of {A : Option Addr} {c : Nat} (hp : w0.heap.size = p) (hq : q = p + 1) (h : St w0 [grpT p s M, blkT q #[.slice A l.length c, .int .i64 (e : Int)] 94] w) (h2 : l.length ≤ c) (h3 : c ≤ maxLen) (hby : Byt w q A l) : DecS w0 p q s M l e w := by
  refine ⟨hp, hq, A, c, h, h2, h3, fun hn => ?_⟩
  obtain ⟨b, o, rfl, hb, hc⟩ := hby hn
  have hbp : b ≠ p := by
    rintro rfl
    obtain ⟨G, hg, _, _⟩ := St.opened h (i := 0) rfl
    obtain ⟨X, hx⟩ := hg
    obtain ⟨x, hx0⟩ : ∃ x, l[0]? = some x := ⟨_, List.getElem?_eq_getElem (List.length_pos_iff.2 hn)⟩
    have h0 := hc 0 x hx0
    rw [Nat.add_zero, One.cell hx o] at h0
    match o, h0 with
    | 0, h0 => simp [cel] at h0
    | 1, h0 => 
      simp [cel] at h0
      have hr := One.row hx
      obtain ⟨A, c, e1, _⟩ := hr.form
      rw [e1] at h0
      cases h0
    | o + 2, h0 => simp at h0
  refine ⟨b, o, rfl, by omega, fun j x hj => ?_⟩
  rw [← hc j x hj]
  exact (h.bel.cell (p := ⟨b, o + j, none⟩) (by show b < w0.heap.size; omega)).symm
theorem DecS.st (h : DecS w0 p q s M l e w) : ∃ cs, St w0 [grpT p s M, blkT q cs 94] w := by
  obtain ⟨_, _, A, c, h1, _⟩ := h
  exact ⟨_, h1⟩
theorem DecS.grp (h : DecS w0 p q s M l e w) : St w0 [grpT p s M] w := by
  obtain ⟨cs, h1⟩ := h.st
  exact St.weaken (Ts := [grpT p s M]) h1
theorem DecS.rd (h : DecS w0 p q s M l e w) : Rd w q l e := by
  obtain ⟨hp, hq, A, c, h1, h2, h3, h4⟩ := h
  obtain ⟨G, hb, _, _⟩ := St.opened h1 (i := 1) rfl
  subst hp hq
  exact ⟨A, c, Blk.row hb, h2, h3, (h4.below h1.bel).more (by omega)⟩
theorem DecS.read {l1 : List UInt8} {e1 : Nat} (h : DecS w0 p q s M l e w) (hr : Rd w' q l1 e1) (hg : w.grownBy w' (some q)) : DecS w0 p q s M l1 e1 w' := by
  obtain ⟨hp, hq, A, c, h1, _⟩ := h
  obtain ⟨A', c', hrow, h2, h3, hby⟩ := hr
  obtain ⟨G, hb, _, hs⟩ := St.opened h1 (i := 1) rfl
  have hb' : Blk q _ _ w G := hb
  have hst := hs w' (blkT q #[.slice A' l1.length c', .int .i64 (e1 : Int)] 94) ⟨G, ⟨hrow, hb'.own⟩, Grew.refl _ _, ⟨hg.os, hg.tape, hg.output, hg.size, fun k hk hn => hg.block k hk fun e => hn ((hb'.own k).2 (Option.some.inj e))⟩⟩
  exact DecS.of hp hq hst h2 h3 hby
theorem DecS.below (h : DecS w0 p q s M l e w) (hb : Below w.heap.size w w') : DecS w0 p q s M l e w' := by
  obtain ⟨hp, hq, A, c, h1, h2, h3, h4⟩ := h
  exact ⟨hp, hq, A, c, h1.below hb, h2, h3, h4⟩
theorem D_number {l1 : List UInt8} {n e1 : Nat} (h : DecS w0 p q s M l e w) (hr : rnum l e = (n, l1, e1)) : Calls Tryd.prog 53 #[.pointer (some ⟨q, 0, none⟩)] w fun r w' => r = .returned (.int .i64 (n : Int)) ∧ DecS w0 p q s M l1 e1 w' := by
  have := Number_rd q e l w h.rd
  rw [hr] at this
  refine this.mono ?_
  rintro r w' ⟨h1, h2, h3⟩
  exact ⟨h1, h.read h2 h3⟩
theorem D_end (h : DecS w0 p q s M l e w) : Calls Tryd.prog 55 #[.pointer (some ⟨q, 0, none⟩)] w fun r w' => r = .returned (.int .i64 (rend l e : Int)) ∧ w = w' := End_rd q e l w h.rd
theorem D_take {m v : Int} {r : Bool} (h : DecS w0 p q s M l e w) (hs : s < 1152921504606846976) (hF : Fine s M) (hk : chk s M v m r = 0) : Calls Tryd.prog 33 #[.pointer (some ⟨p, 0, none⟩), .agg #[.int .i64 m, .int .i64 v, .bool r]] w fun r2 w' => r2 = .returned .nilIface ∧ DecS w0 p q s (M ++ [⟨m, v, r⟩]) l e w' := by
  obtain ⟨hp, hq, A, c, h1, h2, h3, h4⟩ := h
  refine (Lk.St.call (R := fun r2 _ => r2 = .returned .nilIface) h1 (i := 0) rfl fun G hg _ => take_ok hg hs hF.vok hk).mono ?_
  rintro r2 w' ⟨h5, h6⟩
  exact ⟨h5, hp, hq, A, c, h6, h2, h3, h4⟩
theorem D_take_no {m v x : Int} {r : Bool} (h : DecS w0 p q s M l e w) (hs : s < 1152921504606846976) (hF : Fine s M) (hk : chk s M v m r = x) (hx : (x == 0) = false) : Calls Tryd.prog 33 #[.pointer (some ⟨p, 0, none⟩), .agg #[.int .i64 m, .int .i64 v, .bool r]] w fun r2 w' => (∃ b, r2 = .returned (.iface 86 (.pointer (some ⟨b, 0, none⟩)))) ∧ St w0 [] w' := by
  obtain ⟨G, hg, _, _⟩ := St.opened h.grp (i := 0) rfl
  refine (take_no hg hF.len hs hF.vok hk hx).mono ?_
  rintro r2 w' ⟨b, h5, h6, h7⟩
  exact ⟨⟨b, h5⟩, St.weaken (Ts := []) (h.grp.below h7)⟩
theorem DecS.gset (h : DecS w0 p q s M l e w) : w.cell? ⟨p, 0, none⟩ = some (.int .i64 (s : Int)) ∧ w.frozen? ⟨p, 0, none⟩ = false ∧ ∀ t : Nat, DecS w0 p q t M l e (w.setCell ⟨p, 0, none⟩ (.int .i64 (t : Int))) := by
  obtain ⟨hp, hq, A, c, h1, h2, h3, h4⟩ := h
  obtain ⟨f0, f1, f2⟩ := St.gset h1 (i := 0) rfl
  exact ⟨f0, f1, fun t => ⟨hp, hq, A, c, f2 t, h2, h3, h4⟩⟩
end
/-- What decode returns and leaves. -/
def DecR (w0 : World) (p : Nat) (l : List UInt8) (e : Ending) (w' : World) : Prop := (∃ s M, grpOf l = some (s, M) ∧ e = .returned (.bool true) ∧ St w0 [grpT p s M] w') ∨ (grpOf l = none ∧ e = .returned (.bool false) ∧ St w0 [] w')
set_option maxRecDepth 100000 in
set_option maxHeartbeats 8000000 in
theorem decode_any {w0 w : World} {p q : Nat} {l : List UInt8} (h : DecS w0 p q 0 [] l 0 w) : Calls Tryd.prog 41 #[.pointer (some ⟨p, 0, none⟩), .pointer (some ⟨q, 0, none⟩)] w (DecR w0 p l) := by
  obtain ⟨s, l1, e1, h1⟩ : ∃ s l1 e1, rnum l 0 = (s, l1, e1) := ⟨_, _, _, rfl⟩
  obtain ⟨n, l2, e2, h2⟩ : ∃ n l2 e2, rnum l1 e1 = (n, l2, e2) := ⟨_, _, _, rfl⟩
  obtain ⟨R, hR⟩ : ∃ R, (if e2 = 0 then tl s n [] l2 else none) = R := ⟨_, rfl⟩
  have HG : Hid (grpOf l = if s ≤ 15 then R.map (fun M => (s, M)) else none) := by
    show _ = _
    rw [grpOf_told h1 h2, ← hR]
    by_cases he : e2 = 0 <;> by_cases hs : s ≤ 15 <;> simp [he, hs]
  have HR : Hid ((e2 = 0 ∧ tl s n [] l2 = R) ∨ (e2 ≠ 0 ∧ R = none)) := by
    by_cases he : e2 = 0
    · rw [if_pos he] at hR
      exact Or.inl ⟨he, hR⟩
    · rw [if_neg he] at hR
      exact Or.inr ⟨he, hR.symm⟩
  have Hs := hide (rnum_lt h1)
  have hn60 := rnum_lt h2
  have hni : (n : Int) < 1152921504606846976 := by omega
  have HN1 := hide (D_number h h1)
  have H2 := hide h2
  clear h h1 h2 hR hn60
  go_enter Tryd.func41, Tryd.ntmps41
  go_wp2_with fail
  refine HN1.out.mono ?_
  rintro r w1 ⟨rfl, hD⟩
  obtain ⟨c0, f0, hset⟩ := hD.gset
  have HD := hide (hset s)
  clear HN1 hD hset
  go_wp2_with fail
  generalize World.setCell _ _ _ = w2 at *
  refine (D_number HD.out H2.out).mono ?_
  rintro r w3 ⟨rfl, hD⟩
  have HD3 := hide hD
  clear hD HD H2 c0 f0
  go_wp2_with fail
  go_loopw [15] (fun iv wr => ∃ k : Nat, k ≤ n ∧ iv = .int .i64 (k : Int) ∧ ∃ (M : List Ch) (lk : List UInt8) (e : Nat), Hid (DecS w0 p q s M lk e wr) ∧ Hid (Fine s M) ∧ Hid ((e = 0 ∧ tl s (n - k) M lk = R) ∨ (e ≠ 0 ∧ R = none))) (fun iv _ => n - (intOf iv).toNat)
  case atStart => exact ⟨0, Nat.zero_le _, rfl, [], l2, e2, HD3.out, Fine.nil, HR.out⟩
  case round =>
    obtain ⟨k, hk, rfl, M, lk, e, hD, hF, ht⟩ := hrel
    rcases Nat.lt_or_ge k n with hlt | hge
    · have Hlt := hide hlt
      have hki : (k : Int) < (n : Int) := by omega
      obtain ⟨m, la, ea, ha⟩ : ∃ m la ea, rnum lk e = (m, la, ea) := ⟨_, _, _, rfl⟩
      obtain ⟨c, lb, eb, hb⟩ : ∃ c lb eb, rnum la ea = (c, lb, eb) := ⟨_, _, _, rfl⟩
      have HNa := hide (D_number hD.out ha)
      have Hb := hide hb
      have Hc := hide (rnum_lt hb)
      obtain ⟨j, hj⟩ : ∃ j, n - k = j + 1 := ⟨n - k - 1, by omega⟩
      have HT : Hid ((chk s M (chOf m c).v (chOf m c).m (chOf m c).r ≠ 0 → R = none) ∧ (chk s M (chOf m c).v (chOf m c).m (chOf m c).r = 0 → (eb = 0 ∧ tl s (n - (k + 1)) (M ++ [chOf m c]) lb = R) ∨ (eb ≠ 0 ∧ R = none))) := by
        have hj' : n - (k + 1) = j := by omega
        rw [hj']
        rcases ht.out with ⟨rfl, ht1⟩ | ⟨he, hR⟩
        · rw [hj, tl_step ha hb] at ht1
          refine ⟨fun hk => ?_, fun hk => ?_⟩
          · rw [if_neg (fun h => hk h.2)] at ht1
            exact ht1.symm
          · by_cases h0 : eb = 0
            · rw [if_pos ⟨h0, hk⟩] at ht1
              exact Or.inl ⟨h0, ht1⟩
            · rw [if_neg (fun h => h0 h.1)] at ht1
              exact Or.inr ⟨h0, ht1.symm⟩
        · obtain ⟨rfl, rfl, rfl⟩ := rnum_stays ha he
          obtain ⟨rfl, rfl, rfl⟩ := rnum_stays hb he
          exact ⟨fun _ => hR, fun _ => Or.inr ⟨he, hR⟩⟩
      clear hlt hk ha hb hD ht hj
      go_wp2_with fail
      refine HNa.out.mono ?_
      rintro r w4 ⟨rfl, hD⟩
      have HD4 := hide hD
      clear hD HNa
      go_wp2_with fail
      refine (D_number HD4.out Hb.out).mono ?_
      rintro r w5 ⟨rfl, hD⟩
      have HD5 := hide hD
      clear hD HD4 Hb
      go_wp2_with fail
      refine (decodeChange_any m c Hc.out w5).mono ?_
      rintro r w6 ⟨rfl, hbl⟩
      have HD6 := hide (HD5.out.below hbl)
      clear hbl HD5 Hc
      obtain ⟨x, hx⟩ : ∃ x, chOf m c = x := ⟨_, rfl⟩
      rw [hx] at HT ⊢
      clear hx
      by_cases hc : chk s M x.v x.m x.r = 0
      · have HF2 := hide (Fine.snoc hF.out hc)
        have HT2 := hide (HT.out.2 hc)
        have HK := hide (D_take HD6.out Hs.out hF.out hc)
        clear HT hc HD6 hF
        go_wp2_with fail
        refine HK.out.mono ?_
        rintro r w7 ⟨rfl, hD⟩
        have HD7 := hide (show DecS w0 p q s (M ++ [x]) lb eb w7 from hD)
        clear hD HK
        go_wp2
        go_roundw
        case rel => exact ⟨k + 1, Hlt.out, by go_num, M ++ [x], lb, eb, HD7.out, HF2.out, HT2.out⟩
        case measure => have := Hlt.out; simp [intOf]; omega
      · have HK := hide (D_take_no HD6.out Hs.out hF.out rfl (by simpa using hc))
        have HRn := hide (HT.out.1 hc)
        clear HT hc HD6 hF
        go_wp2_with fail
        refine HK.out.mono ?_
        rintro r w7 ⟨⟨b, rfl⟩, hS⟩
        have HS7 := hide hS
        clear hS HK
        go_wp2
        go_ret
        refine Or.inr ⟨?_, rfl, HS7.out⟩
        rw [HG.out, HRn.out]
        split <;> rfl
    · obtain rfl : k = n := by omega
      have HS9 := hide hD.out.grp
      obtain ⟨c0, _, _⟩ := hD.out.gset
      have HE := hide (D_end hD.out)
      have ht' := ht.out
      rw [Nat.sub_self] at ht'
      have HT := hide ht'
      clear hge hk hD ht ht'
      by_cases hs : s ≤ 15
      · have hsi : (s : Int) ≤ 15 := by omega
        have HG2 := HG.out
        rw [if_pos hs] at HG2
        have HG' := hide HG2
        clear hs HG2
        go_wp2_with fail
        refine HE.out.mono ?_
        rintro r w8 ⟨rfl, hw⟩
        subst hw
        clear HE c0
        rcases HT.out with ⟨rfl, ht⟩ | ⟨he, hR⟩
        · unfold tl at ht
          by_cases hl : lk.length = 0
          · rw [if_pos hl] at ht
            have e0 : rend lk 0 = 0 := by unfold rend; simp [hl]
            rw [e0]
            have HG3 := HG'.out
            rw [← ht] at HG3
            have HG4 := hide HG3
            clear ht hl e0 HG3 HT
            go_wp2
            go_ret
            exact Or.inl ⟨s, M, HG4.out, rfl, HS9.out⟩
          · rw [if_neg hl] at ht
            have e0 : rend lk 0 = 3 := by unfold rend; simp [hl]
            rw [e0]
            have HG3 := HG'.out
            rw [← ht] at HG3
            have HG4 := hide HG3
            clear ht hl e0 HG3 HT
            go_wp2
            go_ret
            exact Or.inr ⟨HG4.out, rfl, St.weaken (Ts := []) HS9.out⟩
        · have e0 : rend lk e = e := by unfold rend; simp [he]
          rw [e0]
          have HG3 := HG'.out
          rw [hR] at HG3
          have HG4 := hide HG3
          have he' : ((e : Int) == 0) = false := by simp; omega
          clear hR e0 he HG3 HT
          go_wp2
          go_ret
          exact Or.inr ⟨HG4.out, rfl, St.weaken (Ts := []) HS9.out⟩
      · have hsi : ¬ (s : Int) ≤ 15 := by omega
        have HG2 := HG.out
        rw [if_neg hs] at HG2
        have HG' := hide HG2
        clear hs HG2 HE HT
        go_wp2
        go_ret
        exact Or.inr ⟨HG'.out, rfl, St.weaken (Ts := []) HS9.out⟩
/-- What FromBytes returns and leaves. -/
def FromR (w : World) (l : List UInt8) (e : Ending) (w' : World) : Prop := (∃ s M, grpOf l = some (s, M) ∧ e = .returned (.tuple #[.pointer (some ⟨w.heap.size, 0, none⟩), .nilIface]) ∧ St w [grpT w.heap.size s M] w') ∨ (grpOf l = none ∧ ∃ b, e = .returned (.tuple #[.pointer none, .iface 86 (.pointer (some ⟨b, 0, none⟩))]) ∧ Fails w 0 1 b w')
set_option maxRecDepth 100000 in
set_option maxHeartbeats 4000000 in
theorem FromBytes_any (A : Option Addr) (n c : Nat) (l : List UInt8) (w : World) (hl : l.length = n) (hb : Byt w w.heap.size A l) (hn : n ≤ c) (hc : c ≤ maxLen) : Calls Tryd.prog 22 #[.slice A n c] w (FromR w l) := by
  subst hl
  have hb1 : Below w.heap.size w (w.alloc (.cells (gcel 0 (.slice none 0 0)) 58)) := (Below.refl _ _).alloc (Nat.le_refl _) _
  have hs1 : (w.alloc (.cells (gcel 0 (.slice none 0 0)) 58)).heap.size = w.heap.size + 1 := by simp
  have HS1 := hide (St.grp_new (St.start w))
  have HRd := hide (Read_any A l c (w.alloc (.cells (gcel 0 (.slice none 0 0)) 58)) ((hb.below hb1).more hb1.size) hn hc)
  have Hq := hide hs1
  clear hb hn hc hb1 hs1
  go_enter Tryd.func22, Tryd.ntmps22
  go_wp2_with fail
  generalize World.alloc _ _ = w1 at *
  refine HRd.out.mono ?_
  rintro r w2 ⟨rfl, hR, hb2⟩
  obtain ⟨A2, c2, hrow, h2, h3, hby⟩ := hR
  have HD := hide (DecS.of (p := w.heap.size) (q := w1.heap.size) rfl Hq.out (HS1.out.add hb2 (T := blkT w1.heap.size #[.slice A2 l.length c2, .int .i64 ((0 : Nat) : Int)] 94) (G := (· = w1.heap.size)) ⟨hrow, fun _ => Iff.rfl⟩ (fun k hk => by rw [hk]; exact Nat.le_refl _)) h2 h3 hby)
  clear hrow h2 h3 hby hb2 HS1 HRd Hq
  go_wp2_with fail
  refine (decode_any HD.out).mono ?_
  intro r w3 hdec
  clear HD
  rcases hdec with ⟨s, M, hg, rfl, hS⟩ | ⟨hg, rfl, hS⟩
  · have HG := hide hg
    have HS := hide hS
    clear hg hS
    go_wp2
    go_ret2
    exact Or.inl ⟨s, M, HG.out, rfl, HS.out⟩
  · have HG := hide hg
    have HS := hide hS
    clear hg hS
    go_wp2_with fail
    refine (failed_any 0 1 w3 rfl).mono ?_
    rintro e w4 ⟨b, rfl, hF, hb4⟩
    have HF : Hid (Fails w 0 1 b w4) := ⟨hF, HS.out.bel.trans (hb4.mono HS.out.bel.size)⟩
    clear hF hb4 HS
    go_wp2
    go_ret2
    exact Or.inr ⟨HG.out, b, rfl, HF.out⟩

end Go.Proofs.YthoflpjmdhabmaaDoor.Mb
