/-
  The contract of the document's own FromBytes: any bytes are the group that they are read as, or none. Nothing that was there is changed.
-/
import Derived.Test.YthoflpjmdhabmaaDoorMbRefE
namespace Go.Proofs.YthoflpjmdhabmaaDoor.Mb
open Go.RowKit
open Pk hiding str str_data str_size str_of run_str str_append
open Sm hiding run_str
open Fa Dk Wn Lk

/-- The document's reader among other things. -/
def rdrT (g : Nat) (l : List UInt8) (e : Nat) : Thg := blkT g #[.string (str l), .int .i64 (e : Int)] 81
theorem rnum_len {l l1 : List UInt8} {n e e1 : Nat} (h : rnum l e = (n, l1, e1)) : l1.length ≤ l.length := by
  unfold rnum at h
  split at h
  · simp only [Prod.mk.injEq] at h
    rw [← h.2.1]
    exact Nat.le_refl _
  · split at h
    · simp only [Prod.mk.injEq] at h
      rw [← h.2.1, List.length_drop]
      omega
    · simp only [Prod.mk.injEq] at h
      rw [← h.2.1]
      simp
section
variable {w0 w w' : World} {Ts : List Thg} {i g e : Nat} {l : List UInt8}
theorem St.rdr (h : St w0 Ts w) (hi : Ts[i]? = some (rdrT g l e)) : Rr w g (str l) e ∧ w.cell? ⟨g, 1, none⟩ = some (.int .i64 (e : Int)) ∧ ∀ w' l1 e1, Rr w' g (str l1) e1 → w.grownBy w' (some g) → St w0 (Ts.set i (rdrT g l1 e1)) w' := by
  obtain ⟨G, hb, _, hs⟩ := St.opened h hi
  have hb' : Blk g #[.string (str l), .int .i64 (e : Int)] 81 w G := hb
  refine ⟨Blk.row hb', by rw [cell_of_row w g 1 _ _ _ (Blk.row hb')]; rfl, fun w' l1 e1 hr hg => hs w' (rdrT g l1 e1) ⟨G, ⟨hr, hb'.own⟩, Grew.refl _ _, ⟨hg.os, hg.tape, hg.output, hg.size, fun k hk hn => hg.block k hk fun e => hn ((hb'.own k).2 (Option.some.inj e))⟩⟩⟩
theorem R_number {l1 : List UInt8} {n e1 : Nat} (h : St w0 Ts w) (hi : Ts[i]? = some (rdrT g l e)) (hl : l.length ≤ 100000) (hr : rnum l e = (n, l1, e1)) : Calls Tryd.prog 43 #[.pointer (some ⟨g, 0, none⟩)] w fun r w' => r = .returned (.int .i64 (n : Int)) ∧ St w0 (Ts.set i (rdrT g l1 e1)) w' := by
  obtain ⟨h1, _, h3⟩ := St.rdr h hi
  have := RNumber_rd g e l w h1 (by omega)
  rw [hr] at this
  refine this.mono ?_
  rintro r w' ⟨h4, h5, h6⟩
  exact ⟨h4, h3 w' l1 e1 h5 h6⟩
theorem R_end (h : St w0 Ts w) (hi : Ts[i]? = some (rdrT g l e)) (hl : l.length ≤ 100000) : Calls Tryd.prog 44 #[.pointer (some ⟨g, 0, none⟩)] w fun r w' => r = .returned (.int .i64 (rend l e : Int)) ∧ w = w' := REnd_rd g e l w (St.rdr h hi).1 (by omega)
end
theorem bn_four : ∀ s, s < 16 → ((s : Nat) : Int) % 2 = bn s 0 ∧ ((s : Nat) : Int) / 2 % 2 = bn s 1 ∧ ((s : Nat) : Int) / 4 % 2 = bn s 2 ∧ ((s : Nat) : Int) / 8 = bn s 3 := by decide
theorem St.rgrp_at {w0 w : World} {Ts : List Thg} (h : St w0 Ts w) {s : Nat} (hs : s < 16) : St w0 (Ts ++ [rgrpT w.heap.size s []]) (w.alloc (.cells #[.int .i64 ((s : Int) % 2), .int .i64 ((s : Int) / 2 % 2), .int .i64 ((s : Int) / 4 % 2), .int .i64 ((s : Int) / 8), .slice none 0 0] 65)) := by
  obtain ⟨e0, e1, e2, e3⟩ := bn_four s hs
  rw [e0, e1, e2, e3]
  obtain ⟨G, h1, h2⟩ := One.fresh w (rgcel s (.slice none 0 0)) 65 72 3
  exact h.add ((Below.refl _ _).alloc (Nat.le_refl _) _) (T := rgrpT w.heap.size s []) ⟨_, h1⟩ h2
/-- What the document's FromBytes returns and leaves. -/
def RFromR (w : World) (l : List UInt8) (e : Ending) (w' : World) : Prop := (∃ q s M, grpOf l = some (s, M) ∧ e = .returned (.tuple #[.pointer (some ⟨q, 0, none⟩), .int .i64 0]) ∧ St w [rgrpT q s M] w') ∨ (grpOf l = none ∧ e = .returned (.tuple #[.pointer none, .int .i64 1]) ∧ Below w.heap.size w w')
set_option maxRecDepth 100000 in
set_option maxHeartbeats 8000000 in
theorem RFromBytes_any (l : List UInt8) (S : ByteArray) (hS : str l = S) (hl : l.length ≤ 100000) (w : World) : Calls Tryd.prog 23 #[.string S] w (RFromR w l) := by
  subst hS
  obtain ⟨s, l1, e1, h1⟩ : ∃ s l1 e1, rnum l 0 = (s, l1, e1) := ⟨_, _, _, rfl⟩
  obtain ⟨n, l2, e2, h2⟩ : ∃ n l2 e2, rnum l1 e1 = (n, l2, e2) := ⟨_, _, _, rfl⟩
  have HG := hide (grpOf_told h1 h2)
  have hs60 := rnum_lt h1
  have hn60 := rnum_lt h2
  have hni : (n : Int) < 1152921504606846976 := by omega
  have hsi : (s : Int) < 1152921504606846976 := by omega
  have HS0 := hide (Lk.St.blk_new (St.start w) #[.string (str l), .int .i64 0] 81)
  have HN1 := hide (R_number (show St w [rdrT w.heap.size l 0] _ from HS0.out) (i := 0) rfl hl h1)
  have Hl1 := hide (Nat.le_trans (rnum_len h1) hl)
  have Hl2 := hide (Nat.le_trans (rnum_len h2) Hl1.out)
  have H2 := hide h2
  generalize str l = S at *
  clear h1 h2 hs60 hn60 HS0 hl
  go_enter Tryd.func23, Tryd.ntmps23
  go_wp2_with fail
  refine HN1.out.mono ?_
  rintro r w1 ⟨rfl, hS⟩
  have HS1 := hide (show St w [rdrT w.heap.size l1 e1] w1 from hS)
  clear HN1 hS
  go_wp2_with fail
  refine (R_number HS1.out (i := 0) rfl Hl1.out H2.out).mono ?_
  rintro r w2 ⟨rfl, hS⟩
  have HS2 := hide (show St w [rdrT w.heap.size l2 e2] w2 from hS)
  have q1 := (St.rdr HS2.out (i := 0) rfl).2.1
  clear HS1 hS H2
  generalize w.heap.size = g at *
  by_cases he : e2 = 0
  · subst he
    by_cases hs : s ≤ 15
    · have hsi2 : ¬ (15 : Int) < (s : Int) := by omega
      have HG1 := HG.out
      rw [if_pos ⟨rfl, hs⟩] at HG1
      by_cases hn : n ≤ 100
      · have hni2 : ¬ (100 : Int) < (n : Int) := by omega
        obtain ⟨R, hR⟩ : ∃ R, tl s n [] l2 = R := ⟨_, rfl⟩
        rw [hR] at HG1
        have HG2 := hide HG1
        have HR := hide hR
        have Hs16 := hide (show s < 16 by omega)
        have HS3 := hide (St.rgrp_at HS2.out (show s < 16 by omega))
        have hs15 : (s : Int) ≤ 15 := by omega
        have hn100 : (n : Int) ≤ 100 := by omega
        clear HG1 hR HG hs hn hsi hni
        go_wp2_with fail
        clear q1
        generalize w2.heap.size = q at *
        generalize World.alloc _ _ = w3 at *
        go_loopw [8] (fun iv wr => ∃ k : Nat, k ≤ n ∧ iv = .int .i64 (k : Int) ∧ ∃ (M : List Ch) (lk : List UInt8), Hid (St w [rdrT g lk 0, rgrpT q s M] wr) ∧ Hid (Fine s M ∧ lk.length ≤ 100000) ∧ Hid (tl s (n - k) M lk = R)) (fun iv _ => n - (intOf iv).toNat)
        case atStart => exact ⟨0, Nat.zero_le _, rfl, [], l2, HS3.out, ⟨Fine.nil, Hl2.out⟩, HR.out⟩
        case round =>
          obtain ⟨k, hk, rfl, M, lk, hD, hF, ht⟩ := hrel
          rcases Nat.lt_or_ge k n with hlt | hge
          · have Hlt := hide hlt
            have hki : (k : Int) < (n : Int) := by omega
            obtain ⟨m, la, ea, ha⟩ : ∃ m la ea, rnum lk 0 = (m, la, ea) := ⟨_, _, _, rfl⟩
            obtain ⟨c, lb, eb, hb⟩ : ∃ c lb eb, rnum la ea = (c, lb, eb) := ⟨_, _, _, rfl⟩
            have HNa := hide (R_number hD.out (i := 0) rfl hF.out.2 ha)
            have Hb := hide hb
            have Hla := hide (Nat.le_trans (rnum_len ha) hF.out.2)
            have Hlb := hide (Nat.le_trans (rnum_len hb) Hla.out)
            have hc60 := rnum_lt hb
            have hci : (c : Int) < 1152921504606846976 := by omega
            obtain ⟨j, hj⟩ : ∃ j, n - k = j + 1 := ⟨n - k - 1, by omega⟩
            have hj' : n - (k + 1) = j := by omega
            have HT := ht.out
            rw [hj, tl_step ha hb, ← hj'] at HT
            have HT' := hide HT
            clear hlt hk ha hb ht hj hj' HT hc60
            go_wp2_with fail
            refine HNa.out.mono ?_
            rintro r w4 ⟨rfl, hS⟩
            have HS4 := hide (show St w [rdrT g la ea, rgrpT q s M] w4 from hS)
            clear hS HNa hD
            go_wp2_with fail
            refine (R_number HS4.out (i := 0) rfl Hla.out Hb.out).mono ?_
            rintro r w5 ⟨rfl, hS⟩
            have HS5 := hide (show St w [rdrT g lb eb, rgrpT q s M] w5 from hS)
            have q1 := (St.rdr HS5.out (i := 0) rfl).2.1
            clear hS HS4 Hb
            by_cases he : eb = 0
            · subst he
              obtain ⟨x, hx⟩ : ∃ x, chk s M (chOf m c).v (chOf m c).m (chOf m c).r = x := ⟨_, rfl⟩
              have HX := hide hx
              have ev : (chOf m c).v = (c : Int) / 2 := by show ((c / 2 : Nat) : Int) = _; omega
              have er : (chOf m c).r = ((c : Int) % 2 == 1) := by
                show (c % 2 == 1) = _
                rw [Bool.eq_iff_iff]
                simp only [beq_iff_eq]
                omega
              obtain ⟨G, hp, _, hset⟩ := St.opened HS5.out (i := 1) rfl
              have HCh := hide (RChange_any hp hF.out.1 (chOf m c).v (chOf m c).m (chOf m c).r)
              have HSet := hide hset
              rw [hx, ev, er] at HCh
              rw [show (chOf m c).m = (m : Int) from rfl] at HCh
              have HA1 : Hid (∀ w', After (rgrpT q s (add1 s M ((c : Int) / 2) (m : Int) ((c : Int) % 2 == 1))) w5 G w' → St w [rdrT g lb 0, rgrpT q s (add1 s M (chOf m c).v (chOf m c).m (chOf m c).r)] w') := fun w' hA => by
                rw [ev, er]
                exact HSet.out w' _ hA
              clear hx ev er hp hset HSet
              go_wp2_with fail
              refine HCh.out.mono ?_
              rintro r w6 ⟨rfl, hA⟩
              have HS6 := hide (HA1.out w6 hA)
              clear hA HCh HA1 q1 HS5
              by_cases h0 : x = 0
              · have HF2 := hide (hF.out.1.add (chOf m c).v (chOf m c).m (chOf m c).r)
                have HT2 := HT'.out
                rw [HX.out, if_pos (by simp [h0])] at HT2
                have e2 : add1 s M (chOf m c).v (chOf m c).m (chOf m c).r = M ++ [chOf m c] := by unfold add1; rw [if_pos (by rw [HX.out]; exact h0)]
                rw [e2] at HS6 HF2
                have HT3 := hide HT2
                subst h0
                clear HX HT' HT2 e2 hF
                go_wp2
                go_roundw
                case rel => exact ⟨k + 1, Hlt.out, by go_num, M ++ [chOf m c], lb, HS6.out, ⟨HF2.out, Hlb.out⟩, HT3.out⟩
                case measure => have := Hlt.out; simp [intOf]; omega
              · have h0' : (x == 0) = false := by simpa using h0
                have h0'' : (x != 0) = true := by simp [bne, h0']
                have HT2 := HT'.out
                rw [HX.out, if_neg (fun h => h0 h.2)] at HT2
                have HG3 := HG2.out
                rw [← HT2] at HG3
                have HG4 := hide HG3
                have HB6 := hide HS6.out.bel
                clear HX HT' HT2 HG3 h0 HS6 hF
                go_wp2
                go_ret2
                exact Or.inr ⟨HG4.out, rfl, HB6.out⟩
            · have he' : ((eb : Int) == 0) = false := by simp; omega
              have he'' : ((eb : Int) != 0) = true := by simp [bne, he']
              have HT2 := HT'.out
              rw [if_neg (fun h => he h.1)] at HT2
              have HG3 := HG2.out
              rw [← HT2] at HG3
              have HG4 := hide HG3
              have HB6 := hide HS5.out.bel
              clear HT' HT2 HG3 he HS5 hF
              go_wp2
              go_ret2
              exact Or.inr ⟨HG4.out, rfl, HB6.out⟩
          · obtain rfl : k = n := by omega
            have HE := hide (R_end hD.out (i := 0) rfl hF.out.2)
            have HB6 := hide hD.out.bel
            have HT2 := ht.out
            rw [Nat.sub_self] at HT2
            unfold tl at HT2
            obtain ⟨G, hp, hG, _⟩ := St.opened hD.out (i := 1) rfl
            have HS9 : Hid (St w [rgrpT q s M] wr) := by
              obtain ⟨C, h1, h2⟩ := hD.out.ex
              exact (St.start w).add hD.out.bel (T := rgrpT q s M) hp hG
            by_cases hl : lk.length = 0
            · have e0 : rend lk 0 = 0 := by unfold rend; simp [hl]
              rw [e0] at HE
              rw [if_pos hl] at HT2
              have HG3 := HG2.out
              rw [← HT2] at HG3
              have HG4 := hide HG3
              clear hge hk hD ht hF HT2 hp hG e0 hl HG3
              go_wp2_with fail
              refine HE.out.mono ?_
              rintro r w8 ⟨rfl, hw⟩
              subst hw
              clear HE
              go_wp2
              go_ret2
              exact Or.inl ⟨q, s, M, HG4.out, rfl, HS9.out⟩
            · have e0 : rend lk 0 = 3 := by unfold rend; simp [hl]
              rw [e0] at HE
              rw [if_neg hl] at HT2
              have HG3 := HG2.out
              rw [← HT2] at HG3
              have HG4 := hide HG3
              clear hge hk hD ht hF HT2 hp hG e0 hl HG3
              go_wp2_with fail
              refine HE.out.mono ?_
              rintro r w8 ⟨rfl, hw⟩
              subst hw
              clear HE
              go_wp2
              go_ret2
              exact Or.inr ⟨HG4.out, rfl, HB6.out⟩
      · have hni2 : (100 : Int) < (n : Int) := by omega
        rw [tl_long n [] l2 Fine.nil (by simp; omega)] at HG1
        have HG2 := hide HG1
        have HB2 := hide HS2.out.bel
        clear HG1 HG hs hn HS2
        go_wp2
        go_ret2
        exact Or.inr ⟨HG2.out, rfl, HB2.out⟩
    · have hsi2 : (15 : Int) < (s : Int) := by omega
      have HG1 := HG.out
      rw [if_neg (fun h => hs h.2)] at HG1
      have HG2 := hide HG1
      have HB2 := hide HS2.out.bel
      clear HG1 HG hs HS2
      go_wp2
      go_ret2
      exact Or.inr ⟨HG2.out, rfl, HB2.out⟩
  · have he' : ((e2 : Int) == 0) = false := by simp; omega
    have he'' : ((e2 : Int) != 0) = true := by simp [bne, he']
    have HG1 := HG.out
    rw [if_neg (fun h => he h.1)] at HG1
    have HG2 := hide HG1
    have HB2 := hide HS2.out.bel
    clear HG1 HG he HS2
    go_wp2
    go_ret2
    exact Or.inr ⟨HG2.out, rfl, HB2.out⟩

end Go.Proofs.YthoflpjmdhabmaaDoor.Mb
