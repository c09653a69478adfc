/-
  Proved: for every slice of bytes and every slice of steps the call PackStops(b, script) returns true and changes no argument: once something is wrong nothing is read any more; a nil reader, and the zero one, have nothing. No condition beyond the row's own.
-/
import Derived.Deep.LoopGhost
import Derived.Test.YtpajpapimdnjjaaPkOpen
namespace Go.Proofs.Ytpajpapimdnjjaa.packStops
open Go.ChangeShapes Go.WideShapes Go.ChangeAt Go.RowKit
open Pk

/-- Reading till something is wrong: what holds when at most k rounds are to come. -/
def Till (g B : Nat) (w : World) (k : Nat) (wr : World) : Prop :=
  ∃ l e, Rd wr g l e ∧ Below B w wr ∧ g < wr.heap.size ∧ ((e = 0 ∧ l.length + 1 ≤ k) ∨ (0 < e ∧ l = []))

theorem rd_zero (w : World) : Rd (w.alloc (.cells #[.slice none 0 0, .int .i64 0] 46)) w.heap.size [] 0 :=
  ⟨none, 0, heap_alloc_new w _, Nat.le_refl _, by unfold maxLen; omega, Byt.nil⟩

set_option maxHeartbeats 4000000 in
set_option maxRecDepth 100000 in
theorem walk (a0 : Option Addr) (l : List UInt8) (cap0 : Nat) (a1 : Option Addr) (len1 cap1 : Nat) (K N : Nat → Int) (w : World) (hc : l.length ≤ cap0) (hm : cap0 ≤ maxLen) (hb : Byt w w.heap.size a0 l) (hs : Stp w w.heap.size a1 len1 K N) (h1 : len1 ≤ maxLen) :
    Calls Try.prog 7 #[.slice a0 l.length cap0, .slice a1 len1 cap1] w fun e w' => e = .returned (.bool true) ∧ Below w.heap.size w w' := by
  have hll : l.length ≤ 9223372036854775807 := Nat.le_trans hc hm
  have h11 : len1 ≤ 9223372036854775807 := h1
  generalize hlen : l.length = len at *
  have Hlen := hide hlen
  clear hlen
  by_cases hg1 : 2000 < len
  · go_enter Try.func7, Try.ntmps7
    go_wp2_with fail
    refine (awake_any w).mono ?_
    rintro r w1 ⟨rfl, hb1⟩
    go_wp2_with fail
    refine (awake_any w1).mono ?_
    rintro r w2 ⟨rfl, hb2⟩
    go_wp2
    go_ret
    exact ⟨rfl, hb1.trans (hb2.mono hb1.size)⟩
  by_cases hg2 : 100 < len1
  · go_enter Try.func7, Try.ntmps7
    go_wp2_with fail
    refine (awake_any w).mono ?_
    rintro r w1 ⟨rfl, hb1⟩
    go_wp2_with fail
    refine (awake_any w1).mono ?_
    rintro r w2 ⟨rfl, hb2⟩
    go_wp2
    go_ret
    exact ⟨rfl, hb1.trans (hb2.mono hb1.size)⟩
  go_enter Try.func7, Try.ntmps7
  go_wp2_with fail
  refine (awake_any w).mono ?_
  rintro r w1 ⟨rfl, hb1⟩
  have hby1 := (hb.below hb1).more hb1.size
  go_wp2_with fail
  refine (Read_at a0 l len cap0 w1 Hlen.out hby1 hc hm).mono ?_
  rintro r w2 ⟨rfl, hr2, hb2⟩
  have hb12 := hb1.trans (hb2.mono hb1.size)
  have hlt2 := hr2.lt
  have hsz1 : w.heap.size ≤ w1.heap.size := hb1.size
  clear hby1 hb2 hb1 hb
  generalize w1.heap.size = g at *
  go_wp2_with fail
  go_loopg [26] (len + 2) (fun k _ wr => Till g w.heap.size w k wr)
  case atStart => exact ⟨l, 0, hr2, hb12, hlt2, .inl ⟨rfl, by rw [Hlen.out]; omega⟩⟩
  case round =>
    obtain ⟨l2, e, hr, hbr, hlt, hcase⟩ := hrel
    rcases hcase with ⟨rfl, hlen2⟩ | ⟨he, rfl⟩
    · rcases dec_cases l2 with ⟨n, s, hd, _, hsl⟩ | hd | hd
      · have hN := Number_ok g n s l2 wr hr hd
        have hs0 : 0 < s := by rw [(dec_ok l2 n s hd).2.1]; exact enc_pos n
        have HN := hide hN
        clear hN hd
        go_wp2_with fail
        refine (Err_any g 0 l2 wr hr).mono ?_
        rintro r w' ⟨rfl, rfl⟩
        go_wp2_with fail
        refine HN.out.mono ?_
        rintro r w3 ⟨rfl, hr3, hg3⟩
        have R : Till g w.heap.size w (l2.length - s + 1) w3 := ⟨l2.drop s, 0, hr3, hbr.trans (below_of_only hg3 hsz1 hlt), hr3.lt, .inl ⟨rfl, by rw [List.length_drop]; omega⟩⟩
        clear hr3 hg3
        go_wp2
        go_roundg (l2.length - s + 1)
        case measure => omega
        case rel => exact R
      · have HN := hide (Number_bad g 1 l2 wr hr hd (by omega))
        clear hd
        go_wp2_with fail
        refine (Err_any g 0 l2 wr hr).mono ?_
        rintro r w' ⟨rfl, rfl⟩
        go_wp2_with fail
        refine HN.out.mono ?_
        rintro r w3 ⟨rfl, hr3, hg3⟩
        have R : Till g w.heap.size w 0 w3 := ⟨[], 1, hr3, hbr.trans (below_of_only hg3 hsz1 hlt), hr3.lt, .inr ⟨by omega, rfl⟩⟩
        clear hr3 hg3
        go_wp2
        go_roundg 0
        case measure => omega
        case rel => exact R
      · have HN := hide (Number_bad g 2 l2 wr hr hd (by omega))
        clear hd
        go_wp2_with fail
        refine (Err_any g 0 l2 wr hr).mono ?_
        rintro r w' ⟨rfl, rfl⟩
        go_wp2_with fail
        refine HN.out.mono ?_
        rintro r w3 ⟨rfl, hr3, hg3⟩
        have R : Till g w.heap.size w 0 w3 := ⟨[], 2, hr3, hbr.trans (below_of_only hg3 hsz1 hlt), hr3.lt, .inr ⟨by omega, rfl⟩⟩
        clear hr3 hg3
        go_wp2
        go_roundg 0
        case measure => omega
        case rel => exact R
    · go_wp2_with fail
      refine (Err_any g e [] wr hr).mono ?_
      rintro r w' ⟨rfl, rfl⟩
      go_wp2_with fail
      refine (Err_any g e [] wr hr).mono ?_
      rintro r w' ⟨rfl, rfl⟩
      have hbz : Below wr.heap.size wr (wr.alloc (.cells #[.slice none 0 0, .int .i64 0] 46)) := (Below.refl _ _).alloc (Nat.le_refl _) _
      have hz := rd_zero wr
      have hr2z := hr.below hbz hlt
      have hsz0 := hbr.size
      have hbw := hbr.trans (hbz.mono hsz0)
      have hstp := hs.below hbw
      go_wp2_with fail
      refine (Err_nil _).mono ?_
      rintro r w' ⟨rfl, hw'⟩
      have HW := hide hw'
      clear hw'
      rw [← HW.out]
      rw [← HW.out] at HW
      generalize wr.alloc (.cells #[.slice none 0 0, .int .i64 0] 46) = wz at *
      clear HW
      go_wp2_with fail
      refine (End_nil _).mono ?_
      rintro r w' ⟨rfl, rfl⟩
      go_wp2_with fail
      refine (Left_nil _).mono ?_
      rintro r w' ⟨rfl, rfl⟩
      go_wp2_with fail
      refine (Number_nil _).mono ?_
      rintro r w' ⟨rfl, rfl⟩
      go_wp2_with fail
      have hez := End_rd _ _ _ _ hz
      rw [show rend [] 0 = 0 from rfl] at hez
      refine hez.mono ?_
      clear hez
      rintro r w' ⟨rfl, rfl⟩
      go_wp2_with fail
      refine (Left_any _ _ _ _ hz).mono ?_
      rintro r w' ⟨rfl, rfl⟩
      go_wp2_with fail
      go_loop [64] (fun i => ∃ k : Nat, k ≤ len1 ∧ i = .int .i64 k) (fun i => len1 - (intOf i).toNat)
      case atStart => exact ⟨0, Nat.zero_le _, rfl⟩
      case round =>
        obtain ⟨k, hk, rfl⟩ := hrel
        by_cases hlt1 : k < len1
        · obtain ⟨b, o, rfl, _, hcells⟩ := hstp (by omega)
          obtain ⟨hc0, hc1⟩ := hcells k hlt1
          clear hcells hc0
          go_wp2_with fail
          refine (Number_err g e [] wz hr2z he).mono ?_
          rintro r w' ⟨rfl, rfl⟩
          go_wp2_with fail
          refine (Text_err g e (N k) [] wz hr2z he).mono ?_
          rintro r w' ⟨rfl, rfl⟩
          go_wp2_with fail
          refine (Text_nil (N k) wz).mono ?_
          rintro r w' ⟨rfl, rfl⟩
          go_wp2_with fail
          refine (Err_any g e [] wz hr2z).mono ?_
          rintro r w' ⟨rfl, rfl⟩
          go_wp2_with fail
          have hee := End_rd g e [] wz hr2z
          rw [show rend [] e = e from by unfold rend; rw [if_pos (by omega)]] at hee
          refine hee.mono ?_
          clear hee
          rintro r w' ⟨rfl, rfl⟩
          go_wp2_with fail
          refine (Left_any g e [] wz hr2z).mono ?_
          rintro r w' ⟨rfl, rfl⟩
          go_wp2
          go_round
          case rel => exact ⟨k + 1, by omega, by go_num⟩
          case measure => simp [intOf]; omega
        · have hNz := Number_rd _ _ _ _ hz
          rw [rnum_bad [] 0 0 2 rfl (by omega)] at hNz
          have HNz := hide hNz
          have hltz := hz.lt
          clear hNz
          go_wp2_with fail
          refine HNz.out.mono ?_
          rintro r w5 ⟨rfl, hr5, hg5⟩
          have Hb := hide (hbw.trans (below_of_only hg5 hsz0 hltz))
          clear hg5
          go_wp2_with fail
          refine (Err_any _ 2 [] w5 hr5).mono ?_
          rintro r w' ⟨rfl, rfl⟩
          go_wp2
          go_ret
          exact ⟨rfl, Hb.out⟩

theorem own : ownKnob Try.prog.godebug = none := by kernel_rfl
theorem laidOut : laidOutB Try.prog = true := by kernel_rfl

set_option maxRecDepth 100000 in
theorem lifted (os : Os) (started : os.Started) (H : Type) (enc : TypeId × Value → H) :
    ReturnsInHanded {} Try.checked os 7 .any (Rows.packStopsSpec.pre6 enc Try.prog Try.f7 Rows.packStopsRow.domain false) (Rows.packStopsSpec.post enc Try.prog Try.f7 false true false false) := by
  refine returnsInHanded_of_change (C := Try.checked) own started (by kernel_rfl) Try.func7
    (ChangeSpec.witness6 (enc := enc) (C := Try.checked) false ⟨#[], #[.slice none 0 0, .slice none 0 0], []⟩ 8 (by kernel_rfl) (by kernel_rfl) (by kernel_rfl) (by kernel_rfl)) ?_
  intro W base args ds gs before hval0 hW hcnd _
  have hval : ∀ (j : Nat) t v, Try.f7.params[j]? = some t → args[j]? = some v → Value.okWide Try.prog W .any base t v := hval0
  have hW' := hW
  obtain ⟨p, q, hA0, hV, rfl, hfz, hnd⟩ := hW
  have hA : DataW.TrodAll enc Try.prog W 0 (fun _ => true) true Try.f7.params.toList args.toList ds p := hA0
  rw [Try.params7] at hA hval
  obtain ⟨v0, vs0, d0, ds0, p0, q0, hargs, rfl, rfl, h0, r0⟩ := trodAll_cons hA
  obtain ⟨v1, vs1, d1, ds1, p1, q1, rfl, rfl, rfl, h1, r1⟩ := trodAll_cons r0
  obtain ⟨rfl, rfl, rfl⟩ := trodAll_nil r1
  obtain rfl : args = #[v0, v1] := by cases args; simp_all
  obtain ⟨rfl, rfl⟩ := trodVars_none hV
  obtain ⟨a0, len0, cap0, rfl⟩ := okWide_slice Try.underlying22 (hval 0 22 v0 rfl rfl)
  obtain ⟨a1, len1, cap1, rfl⟩ := okWide_slice Try.underlying29 (hval 1 29 v1 rfl rfl)
  have k0 := h0
  have k1 := h1
  have lt0 : ∀ x ∈ p0, x.block < W.heap.size := by obtain ⟨m, hm⟩ := k0; exact DataW.trod_lt m _ _ _ hm
  have lt1 : ∀ x ∈ p1, x.block < W.heap.size := by obtain ⟨m, hm⟩ := k1; exact DataW.trod_lt m _ _ _ hm
  obtain ⟨l, rfl, hlc, hcm, hbyt⟩ := open_bytes h0
  obtain ⟨hl1, K, N, _, hstp⟩ := open_stp h1
  clear hA0 hval0
  refine (walk a0 l cap0 a1 len1 cap1 K N W hlc hcm hbyt hstp hl1).mono fun e W' ⟨he, bel⟩ => ?_
  subst he
  exact ⟨_, rfl, _, _, _, [], _, [], hW', trodAll_mk1 (shut_bool Try.underlying4 _), (trodAll_cons_mk (Below.trod laidOut (by kernel_rfl) (of_decide_eq_true (by kernel_rfl)) k0 bel lt0) (trodAll_cons_mk (Below.trod laidOut (by kernel_rfl) (of_decide_eq_true (by kernel_rfl)) k1 bel lt1) trodAll_mk0)), rfl, bel.frame _, fun h => by cases h⟩

theorem proved : Rows.PackStopsSaid :=
  OpenClaim.holds_of_wide 7 Try.f7 rfl rfl rfl rfl rfl rfl rfl ⟨rfl, rfl, rfl, rfl, rfl⟩ rfl rfl rfl rfl rfl (by kernel_rfl) Try.func7 (by kernel_rfl)
    (of_decide_eq_true (by kernel_rfl)) (by unfold Func.isWrapper; first | (rw [if_pos (by decide +kernel)]; kernel_rfl) | (rw [if_neg (by decide +kernel)]; exact ⟨rfl, rfl⟩))
    (fun os started H enc _ => lifted os started H enc)
#print axioms proved
end Go.Proofs.Ytpajpapimdnjjaa.packStops
