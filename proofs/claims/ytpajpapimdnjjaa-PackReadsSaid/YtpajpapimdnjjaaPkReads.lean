/-
  Proved: for every slice of bytes and every slice of steps the call PackReads(b, script) returns true and changes no argument: of any bytes is read, call by call, what the reference reads, with the same error, and as much is left. No condition beyond the row's own.
-/
import Derived.Deep.LoopGhost
import Derived.Deep.RegionHeld3
import Derived.Deep.QuietTactic
import Derived.BigQuiet
import Derived.Test.YtpajpapimdnjjaaPkRefText
namespace Go.Proofs.Ytpajpapimdnjjaa.packReads
open Go.ChangeShapes Go.WideShapes Go.ChangeAt Go.RowKit
open Pk

/-- Both readers, side by side. -/
def St (W : World) (g g2 : Nat) (w : World) (l : List UInt8) (e : Nat) (l' : List UInt8) (e' : Nat) : Prop :=
  Rd w g l e ∧ Rr w g2 (str l') e' ∧ g < g2 ∧ W.heap.size ≤ g ∧ Below W.heap.size W w ∧ l.length ≤ 2000 ∧ l'.length ≤ 2000

theorem St.drew {W w : World} {g g2 : Nat} {l l' : List UInt8} {e e' : Nat} (h : St W g g2 w l e l' e') : St W g g2 w.drew l e l' e' :=
  ⟨h.1, h.2.1, h.2.2.1, h.2.2.2.1, h.2.2.2.2.1.drew, h.2.2.2.2.2⟩
theorem St.drewN {W w : World} {g g2 : Nat} {l l' : List UInt8} {e e' : Nat} (h : St W g g2 w l e l' e') (n : Nat) : St W g g2 (w.drewN n) l e l' e' :=
  ⟨h.1, h.2.1, h.2.2.1, h.2.2.2.1, below_drewN h.2.2.2.2.1 n, h.2.2.2.2.2⟩
theorem St.cell {W w : World} {g g2 : Nat} {l l' : List UInt8} {e e' : Nat} (h : St W g g2 w l e l' e') {p : Addr} {v : Value} (hp : p.block < W.heap.size) (hv : W.cell? p = some v) : w.cell? p = some v :=
  (h.2.2.2.2.1.cell hp).trans hv

theorem rnum_len (l : List UInt8) (e : Nat) : (rnum l e).2.1.length ≤ l.length := by
  unfold rnum
  split
  · exact Nat.le_refl _
  · split
    · simp only [List.length_drop]; omega
    · simp
theorem rtext_len (l : List UInt8) (e : Nat) (most : Int) : (rtext l e most).2.1.length ≤ l.length := by
  have := rnum_len l e
  unfold rtext
  split
  · exact this
  · split
    · simp
    · split
      · simp
      · simp only [List.length_drop]; omega

theorem rd_kept {w w' : World} {g g2 : Nat} {l : List UInt8} {e : Nat} (h : Rd w g l e) (hg : w.grownBy w' (some g2)) (hlt : g < g2) (h2 : g2 < w.heap.size) : Rd w' g l e :=
  h.below (below_of_only hg (Nat.le_refl _) h2) hlt
theorem rr_kept {w w' : World} {g g2 e : Nat} {s : ByteArray} (h : Rr w g2 s e) (hg : w.grownBy w' (some g)) (hlt : g < g2) : Rr w' g2 s e :=
  (hg.block g2 h.lt (fun he => by injection he with he; omega)).trans h

theorem st_rnum (W : World) (g g2 : Nat) (w : World) (l : List UInt8) (e : Nat) (l' : List UInt8) (e' : Nat) (h : St W g g2 w l e l' e') :
    Calls Try.prog 16 #[.pointer (some ⟨g, 0, none⟩)] w fun r w' => r = .returned (.int .i64 ((rnum l e).1 : Int)) ∧ St W g g2 w' (rnum l e).2.1 (rnum l e).2.2 l' e' := by
  obtain ⟨h1, h2, h3, h4, h5, h6, h7⟩ := h
  refine (Number_rd g e l w h1).mono ?_
  rintro r w' ⟨rfl, hr, hg⟩
  exact ⟨rfl, hr, rr_kept h2 hg h3, h3, h4, h5.trans (below_of_only hg h4 h1.lt), Nat.le_trans (rnum_len l e) h6, h7⟩
theorem st_wnum (W : World) (g g2 : Nat) (w : World) (l : List UInt8) (e : Nat) (l' : List UInt8) (e' : Nat) (h : St W g g2 w l e l' e') :
    Calls Try.prog 17 #[.pointer (some ⟨g2, 0, none⟩)] w fun r w' => r = .returned (.int .i64 ((rnum l' e').1 : Int)) ∧ St W g g2 w' l e (rnum l' e').2.1 (rnum l' e').2.2 := by
  obtain ⟨h1, h2, h3, h4, h5, h6, h7⟩ := h
  refine (RNumber_rd g2 e' l' w h2 (by omega)).mono ?_
  rintro r w' ⟨rfl, hr, hg⟩
  exact ⟨rfl, rd_kept h1 hg h3 h2.lt, hr, h3, h4, h5.trans (below_of_only hg (by omega) h2.lt), h6, Nat.le_trans (rnum_len l' e') h7⟩
theorem st_rtext (W : World) (g g2 : Nat) (w : World) (l : List UInt8) (e : Nat) (l' : List UInt8) (e' : Nat) (most : Int) (h : St W g g2 w l e l' e') :
    Calls Try.prog 18 #[.pointer (some ⟨g, 0, none⟩), .int .i64 most] w fun r w' => r = .returned (.string (str (rtext l e most).1)) ∧ St W g g2 w' (rtext l e most).2.1 (rtext l e most).2.2 l' e' := by
  obtain ⟨h1, h2, h3, h4, h5, h6, h7⟩ := h
  refine (Text_rd g most l e w h1).mono ?_
  rintro r w' ⟨rfl, hr, hg⟩
  exact ⟨rfl, hr, rr_kept h2 hg h3, h3, h4, h5.trans (below_of_only hg h4 h1.lt), Nat.le_trans (rtext_len l e most) h6, h7⟩
theorem st_wtext (W : World) (g g2 : Nat) (w : World) (l : List UInt8) (e : Nat) (l' : List UInt8) (e' : Nat) (most : Int) (h : St W g g2 w l e l' e') :
    Calls Try.prog 19 #[.pointer (some ⟨g2, 0, none⟩), .int .i64 most] w fun r w' => r = .returned (.string (str (rtext l' e' most).1)) ∧ St W g g2 w' l e (rtext l' e' most).2.1 (rtext l' e' most).2.2 := by
  obtain ⟨h1, h2, h3, h4, h5, h6, h7⟩ := h
  refine (RText_rd g2 e' most l' w h2 (by omega)).mono ?_
  rintro r w' ⟨rfl, hr, hg⟩
  exact ⟨rfl, rd_kept h1 hg h3 h2.lt, hr, h3, h4, h5.trans (below_of_only hg (by omega) h2.lt), h6, Nat.le_trans (rtext_len l' e' most) h7⟩

theorem flip {P : Program} {f : FuncId} {args : Array Value} {w : World} {v : Value} (h : Calls P f args w fun r w' => r = .returned v ∧ w = w') : Calls P f args w fun r w' => r = .returned v ∧ w' = w :=
  h.mono fun _ _ ⟨h1, h2⟩ => ⟨h1, h2.symm⟩

set_option maxHeartbeats 2000000 in
set_option maxRecDepth 100000 in
theorem walk (a0 : Option Addr) (l : List UInt8) (len cap0 : Nat) (a1 : Option Addr) (len1 cap1 : Nat) (K N : Nat → Int) (w : World) (Hlen : Hid (l.length = len)) (hc : len ≤ cap0) (hm : cap0 ≤ maxLen) (hb : Byt w w.heap.size a0 l) (hs : Stp w w.heap.size a1 len1 K N) (h1 : len1 ≤ maxLen) :
    Calls Try.prog 4 #[.slice a0 len cap0, .slice a1 len1 cap1] w fun e w' => e = .returned (.bool true) ∧ Below w.heap.size w w' := by
  have hll : len ≤ 9223372036854775807 := Nat.le_trans hc hm
  have h11 : len1 ≤ 9223372036854775807 := h1
  by_cases hg1 : 2000 < len
  · go_enter Try.func4, Try.ntmps4
    go_wp2_with fail
    refine (awake_any w).mono ?_
    rintro r w1 ⟨rfl, hb1⟩
    go_wp2_with fail
    refine (awake_any w1).mono ?_
    rintro r w2 ⟨rfl, hb2⟩
    go_wp2
    go_ret
    exact ⟨rfl, hb1.trans (hb2.mono hb1.size)⟩
  by_cases hg2 : 100 < len1
  · go_enter Try.func4, Try.ntmps4
    go_wp2_with fail
    refine (awake_any w).mono ?_
    rintro r w1 ⟨rfl, hb1⟩
    go_wp2_with fail
    refine (awake_any w1).mono ?_
    rintro r w2 ⟨rfl, hb2⟩
    go_wp2
    go_ret
    exact ⟨rfl, hb1.trans (hb2.mono hb1.size)⟩
  go_enter Try.func4, Try.ntmps4
  go_wp2_with fail
  refine (awake_any w).mono ?_
  rintro r w1 ⟨rfl, hb1⟩
  have hby1 := (hb.below hb1).more hb1.size
  go_wp2_with fail
  refine (Read_at a0 l len cap0 w1 Hlen.out hby1 hc hm).mono ?_
  rintro r w2 ⟨rfl, hr2, hb2⟩
  have hb12 := hb1.trans (hb2.mono hb1.size)
  have hlt2 := hr2.lt
  have hsz1 : w.heap.size ≤ w1.heap.size := hb1.size
  have hcv : (convert 22 9 (.slice a0 len cap0)).run Try.prog w2 = .ok (.string (str l)) w2 := by
    have := run_str w2 _ a0 l cap0 (hby1.below hb2)
    rw [Hlen.out] at this
    exact this
  clear hby1 hb2 hb1 hb
  have hst : St w w1.heap.size w2.heap.size (w2.alloc (.cells #[.string (str l), .int .i64 0] 34)) l 0 l 0 := by
    have hbe : Below w2.heap.size w2 (w2.alloc (.cells #[.string (str l), .int .i64 0] 34)) := (Below.refl _ _).alloc (Nat.le_refl _) _
    refine ⟨hr2.below hbe hlt2, heap_alloc_new w2 _, hlt2, hsz1, hb12.trans (hbe.mono hb12.size), ?_, ?_⟩ <;> rw [Hlen.out] <;> omega
  generalize w1.heap.size = g at *
  have Hst := hide hst
  clear hst hr2 hb12
  go_wp2_with fail
  go_loopg [29] (len1 + 1) (fun n i wr => ∃ k l e, k ≤ len1 ∧ len1 - k < n ∧ i = .int .i64 (k : Nat) ∧ Hid (St w g w2.heap.size wr l e l e))
  case atStart => exact ⟨0, l, 0, by omega, by omega, rfl, Hst⟩
  case round =>
    clear Hst hcv
    obtain ⟨k, l, e, hk, hn, rfl, Hst⟩ := hrel
    by_cases hlt1 : k < len1
    · obtain ⟨b, o, rfl, hbb, hcells⟩ := hs (by omega)
      obtain ⟨hc0, hc1⟩ := hcells k hlt1
      have hd0 := Hst.out.cell (p := ⟨b, o + k * 2, none⟩) hbb hc0
      clear hcells
      by_cases hk1 : K k = 1
      · rw [hk1] at hd0
        have hN1 := st_rnum w g w2.heap.size wr l e l e Hst.out
        have hN2 := fun W h => st_wnum w g w2.heap.size W (rnum l e).2.1 (rnum l e).2.2 l e h
        generalize hR0 : rnum l e = R at *
        obtain ⟨n1, l1, e1⟩ := R
        have H1 := hide hN1
        have H2 := hide hN2
        clear hN1 hN2 hR0 hk1 Hst
        go_wp2_with fail
        refine H1.out.mono ?_
        rintro r w3 ⟨rfl, hst3⟩
        go_wp2_with fail
        refine (H2.out w3 hst3).mono ?_
        rintro r w4 ⟨rfl, hst4⟩
        clear hst3 H1 H2 hd0
        go_wp2_with fail
        have hR := hst4.1
        have hQ := hst4.2.1
        have hq0 := blk_cell0 hQ
        have hq1 := blk_cell1 hQ
        have hsz := str_size l1
        have hl2 : l1.length ≤ 9223372036854775807 := by have := hst4.2.2.2.2.2.1; omega
        go_quiet ((first | (go_at_call 20; exact Calls.quiet_of_same (flip (Err_any g e1 l1 _ hR))) | (go_at_call 21; exact Calls.quiet_of_same (flip (End_rd g e1 l1 _ hR))) | (go_at_call 22; exact Calls.quiet_of_same (flip (REnd_rd _ e1 l1 _ hQ hl2))) | (go_at_call 23; exact Calls.quiet_of_same (flip (Left_any g e1 l1 _ hR)))))
        go_wp2
        go_roundg (len1 - k)
        case measure => omega
        case rel => exact ⟨k + 1, l1, e1, by omega, by omega, by go_num, hst4.drewN _⟩
      · by_cases hk2 : K k = 2
        · rw [hk2] at hd0
          have hst0 := Hst.out.drew
          have hc2 := hst0.cell (p := ⟨b, o + k * 2 + 1, none⟩) hbb hc1
          have hd1 := Hst.out.cell (p := ⟨b, o + k * 2 + 1, none⟩) hbb hc1
          have hA1 := fun W l' e' h => st_rtext w g w2.heap.size W l e l' e' (N k) h
          have hA2 := fun W l' e' h => st_wtext w g w2.heap.size W l' e' l e (N k) h
          generalize hR0 : rtext l e (N k) = R at *
          obtain ⟨n1, l1, e1⟩ := R
          have H1 := hide hA1
          have H2 := hide hA2
          clear hA1 hA2 hR0 hk2 Hst hk1
          go_wp2_with fail
          go_region_held3 (fun w' => w'.cell? ⟨b, o + k * 2 + 1, none⟩ = some (.int .i64 (N k))) (first | exact hd1 | assumption)
            (first | (go_at_call 18; refine (H1.out _ _ _ (by assumption)).mono ?_; rintro r w5 ⟨rfl, hst5⟩; have hd5 := hst5.cell (p := ⟨b, o + k * 2 + 1, none⟩) hbb hc1) | (go_at_call 19; refine (H2.out _ _ _ (by assumption)).mono ?_; rintro r w6 ⟨rfl, hst6⟩; have hd6 := hst6.cell (p := ⟨b, o + k * 2 + 1, none⟩) hbb hc1))
          go_wp2_with fail
          have hR := hst6.1
          have hQ := hst6.2.1
          have hq0 := blk_cell0 hQ
          have hq1 := blk_cell1 hQ
          have hsz := str_size l1
          have hl2 : l1.length ≤ 9223372036854775807 := by have := hst6.2.2.2.2.2.1; omega
          go_quiet ((first | (go_at_call 20; exact Calls.quiet_of_same (flip (Err_any g e1 l1 _ hR))) | (go_at_call 21; exact Calls.quiet_of_same (flip (End_rd g e1 l1 _ hR))) | (go_at_call 22; exact Calls.quiet_of_same (flip (REnd_rd _ e1 l1 _ hQ hl2))) | (go_at_call 23; exact Calls.quiet_of_same (flip (Left_any g e1 l1 _ hR)))))
          go_wp2
          go_roundg (len1 - k)
          case measure => omega
          case rel => exact ⟨k + 1, l1, e1, by omega, by omega, by go_num, hst6.drewN _⟩
        · have hk1b : (K k == 1) = false := by rw [beq_eq_false_iff_ne]; exact hk1
          have hk2b : (K k == 2) = false := by rw [beq_eq_false_iff_ne]; exact hk2
          clear hk1 hk2
          have hst := Hst.out
          clear Hst
          go_wp2_with fail
          have hR := hst.1
          have hQ := hst.2.1
          have hq0 := blk_cell0 hQ
          have hq1 := blk_cell1 hQ
          have hsz := str_size l
          have hl2 : l.length ≤ 9223372036854775807 := by have := hst.2.2.2.2.2.1; omega
          go_quiet ((first | (go_at_call 20; exact Calls.quiet_of_same (flip (Err_any g e l _ hR))) | (go_at_call 21; exact Calls.quiet_of_same (flip (End_rd g e l _ hR))) | (go_at_call 22; exact Calls.quiet_of_same (flip (REnd_rd _ e l _ hQ hl2))) | (go_at_call 23; exact Calls.quiet_of_same (flip (Left_any g e l _ hR)))))
          go_wp2
          go_roundg (len1 - k)
          case measure => omega
          case rel => exact ⟨k + 1, l, e, by omega, by omega, by go_num, hst.drewN _⟩
    · go_wp2
      go_ret
      exact ⟨rfl, Hst.out.2.2.2.2.1⟩

theorem own : ownKnob Try.prog.godebug = none := by kernel_rfl
theorem laidOut : laidOutB Try.prog = true := by kernel_rfl

set_option maxRecDepth 100000 in
theorem lifted (os : Os) (started : os.Started) (H : Type) (enc : TypeId × Value → H) :
    ReturnsInHanded {} Try.checked os 4 .any (Rows.packReadsSpec.pre6 enc Try.prog Try.f4 Rows.packReadsRow.domain false) (Rows.packReadsSpec.post enc Try.prog Try.f4 false true false false) := by
  refine returnsInHanded_of_change (C := Try.checked) own started (by kernel_rfl) Try.func4
    (ChangeSpec.witness6 (enc := enc) (C := Try.checked) false ⟨#[], #[.slice none 0 0, .slice none 0 0], []⟩ 8 (by kernel_rfl) (by kernel_rfl) (by kernel_rfl) (by kernel_rfl)) ?_
  intro W base args ds gs before hval0 hW hcnd _
  have hval : ∀ (j : Nat) t v, Try.f4.params[j]? = some t → args[j]? = some v → Value.okWide Try.prog W .any base t v := hval0
  have hW' := hW
  obtain ⟨p, q, hA0, hV, rfl, hfz, hnd⟩ := hW
  have hA : DataW.TrodAll enc Try.prog W 0 (fun _ => true) true Try.f4.params.toList args.toList ds p := hA0
  rw [Try.params4] at hA hval
  obtain ⟨v0, vs0, d0, ds0, p0, q0, hargs, rfl, rfl, h0, r0⟩ := trodAll_cons hA
  obtain ⟨v1, vs1, d1, ds1, p1, q1, rfl, rfl, rfl, h1, r1⟩ := trodAll_cons r0
  obtain ⟨rfl, rfl, rfl⟩ := trodAll_nil r1
  obtain rfl : args = #[v0, v1] := by cases args; simp_all
  obtain ⟨rfl, rfl⟩ := trodVars_none hV
  obtain ⟨a0, len0, cap0, rfl⟩ := okWide_slice Try.underlying22 (hval 0 22 v0 rfl rfl)
  obtain ⟨a1, len1, cap1, rfl⟩ := okWide_slice Try.underlying29 (hval 1 29 v1 rfl rfl)
  have k0 := h0
  have k1 := h1
  have lt0 : ∀ x ∈ p0, x.block < W.heap.size := by obtain ⟨m, hm⟩ := k0; exact DataW.trod_lt m _ _ _ hm
  have lt1 : ∀ x ∈ p1, x.block < W.heap.size := by obtain ⟨m, hm⟩ := k1; exact DataW.trod_lt m _ _ _ hm
  obtain ⟨l, hl0, hlc, hcm, hbyt⟩ := open_bytes h0
  obtain ⟨hl1, K, N, _, hstp⟩ := open_stp h1
  clear hA0 hval0
  refine (walk a0 l len0 cap0 a1 len1 cap1 K N W hl0 hlc hcm hbyt hstp hl1).mono fun e W' ⟨he, bel⟩ => ?_
  subst he
  exact ⟨_, rfl, _, _, _, [], _, [], hW', trodAll_mk1 (shut_bool Try.underlying4 _), (trodAll_cons_mk (Below.trod laidOut (by kernel_rfl) (of_decide_eq_true (by kernel_rfl)) k0 bel lt0) (trodAll_cons_mk (Below.trod laidOut (by kernel_rfl) (of_decide_eq_true (by kernel_rfl)) k1 bel lt1) trodAll_mk0)), rfl, bel.frame _, fun h => by cases h⟩

theorem proved : Rows.PackReadsSaid :=
  OpenClaim.holds_of_wide 4 Try.f4 rfl rfl rfl rfl rfl rfl rfl ⟨rfl, rfl, rfl, rfl, rfl⟩ rfl rfl rfl rfl rfl (by kernel_rfl) Try.func4 (by kernel_rfl)
    (of_decide_eq_true (by kernel_rfl)) (by unfold Func.isWrapper; first | (rw [if_pos (by decide +kernel)]; kernel_rfl) | (rw [if_neg (by decide +kernel)]; exact ⟨rfl, rfl⟩))
    (fun os started H enc _ => lifted os started H enc)
#print axioms proved
end Go.Proofs.Ytpajpapimdnjjaa.packReads
