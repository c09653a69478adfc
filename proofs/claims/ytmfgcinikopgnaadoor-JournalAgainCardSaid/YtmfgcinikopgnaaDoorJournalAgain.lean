/-
  Proved: the statement JournalAgain: for every ring, every script, every number of times and every crash it returns true, and its arguments read as before. Condition: the package variable halves reads as the program's own text lays it (the card ties it).
-/
import Derived.Test.YtmfgcinikopgnaaDoorJnC
import Derived.Test.YtmfgcinikopgnaaDoorTie
import Derived.Test.YtmfgcinikopgnaaDoorCards
import Derived.Test.YtmfgcinikopgnaaDoorRcLift
import Derived.SevenTiedAt

/-
  JournalAgain at every ring, every script, every number and every crash: it returns true, and changes nothing that was there. Condition: the table of half bytes holds what the program's own text lays.
-/
namespace Go.Proofs.YtmfgcinikopgnaaDoor.Jn
open Go.RowKit
open Pk Sm Fa Rc Dk

theorem rem5 (t : Nat) : (t : Int).tmod 5 = ((t % 5 : Nat) : Int) := by
  rw [Int.tmod_eq_emod_of_nonneg (by omega)]
  rfl
/-- The blocks of a row. -/
def RB (v : Value) : Nat → Prop := fun k => v.ownBlock = some k
theorem JS.held {w0 w w' : World} {p q n : Nat} {h : Hd} {E : List Ent} {D T base : Nat} {v : Value} {E' : List Ent} (j : JS w0 (fun _ => False) p q n h E D T w) (hb : Below w.heap.size w w') (hr : Rows5 w' base v E') (hB : w.heap.size ≤ base) : JS w0 (RB v) p q n h E D T w' := by
  obtain ⟨S, h1, h2, h3⟩ := j.hold (R' := RB v) hb (fun k hk => by have := World.ownsRow.lt hr k hk; exact ⟨by omega, this.2⟩)
  exact ⟨S, h1.mono (fun k hk => Or.inr hk), h2, h3⟩

set_option maxRecDepth 100000 in
set_option maxHeartbeats 1000000 in
theorem Again_good (ring : Nat) (A : Option Addr) (n c : Nat) (l : List Oq) (times keep : Nat) (w : World) (ht : Tab w) (hring : ring < 256) (htimes : times < 256) (hkeep : keep < 18446744073709551616) (hl : l.length = n) (hp : Ops w w.heap.size A l) (hf : OFits l) (hfew : Few l) :
    Calls Tryd.prog 7 #[.int .u8 (ring : Int), .slice A n c, .int .u8 (times : Int), .int .u64 (keep : Int)] w fun e w' => e = .returned (.bool true) ∧ Below w.heap.size w w' := by
  obtain ⟨r, hr⟩ : ∃ r, ring % 16 = r := ⟨_, rfl⟩
  have hrem := rem16 ring
  rw [hr] at hrem
  obtain ⟨r5, hr5⟩ : ∃ r5, times % 5 = r5 := ⟨_, rfl⟩
  have hrem5 := rem5 times
  rw [hr5] at hrem5
  obtain ⟨nn, hnn⟩ : ∃ nn, 1 + r = nn := ⟨_, rfl⟩
  obtain ⟨m, hm⟩ : ∃ m, 1 + r5 = m := ⟨_, rfl⟩
  have h1 : (1 : Int) + (r : Int) = (nn : Int) := by omega
  have h5 : (1 : Int) + (r5 : Int) = (m : Int) := by omega
  have hm5 : m ≤ 5 := by omega
  have hringi : (ring : Int) < 256 := by omega
  have hr16 : (r : Int) < 16 := by omega
  have hnn16 : (nn : Int) ≤ 16 := by omega
  have HT := hide ht
  have HR := hide (show 1 + ring % 16 = nn by omega)
  have Hring := hide hring
  have Hl := hide hl
  have Hp := hide hp
  have Hf := hide hf
  have Hfew := hide hfew
  have Hkeep := hide hkeep
  clear ht hl hp hf hfew hkeep hr hr5 hnn hm hring
  go_enter Tryd.func7, Tryd.ntmps7
  go_wp2_with fail
  refine (awake_any w HT.out).mono ?_
  rintro e w1 ⟨rfl, hb1⟩
  have HB1 := hide hb1
  clear hb1
  go_wp2_with fail
  refine (few_any A n c l w1 Hl.out (((Hp.out.below HB1.out)).more1 HB1.out.size) Hf.out).mono ?_
  rintro e w' ⟨⟨b, rfl, hb⟩, rfl⟩
  obtain rfl : b = true := hb.2 Hfew.out
  clear hb
  go_wp2_with fail
  refine (played_any ring nn A n c l w1 Hring.out HR.out Hl.out (by rw [← Hl.out]; exact Hfew.out.1) ((Hp.out.below HB1.out).more1 HB1.out.size) Hf.out (HT.out.below HB1.out HT.out.pos)).mono ?_
  rintro e w2 ⟨p, q, rfl, h, E, D, hj⟩
  have HJ2 := hide hj
  have HT1 := hide (HT.out.below HB1.out HT.out.pos)
  clear hj
  go_wp2_with fail
  refine (HJ2.out.flush).mono ?_
  rintro e w3 ⟨rfl, hj3, _⟩
  have HJ3 := hide hj3
  clear hj3 HJ2
  go_wp2_with fail
  refine (HJ3.out.records).mono ?_
  rintro e w4 ⟨v, rfl, hrow, hb4⟩
  have HJ4 := hide (HJ3.out.held hb4 hrow (Nat.le_refl _))
  obtain ⟨VA, vc, rfl, hv1, hv2, _⟩ := hrow.srow
  have HRW := hide hrow
  obtain ⟨base, hbase⟩ : ∃ b, w3.heap.size = b := ⟨_, rfl⟩
  rw [hbase] at HRW
  obtain ⟨el, hel⟩ : ∃ el, E.length = el := ⟨_, rfl⟩
  have Hel := hide hel
  have Hel20 := hide (show el ≤ 20 by have := HJ4.out.few.1; have := HJ4.out.lim.n16; omega)
  rw [hel] at HJ4 HRW ⊢
  clear hrow hb4 hv1 hv2 HJ3 hbase
  go_wp2_with fail
  refine (HJ4.out.next).mono ?_
  rintro e w5 ⟨rfl, hb5⟩
  have HJ5 := hide (HJ4.out.below hb5).1
  have HRW5 := hide (HRW.out.kept (HJ4.out.below hb5).2 (fun k hk => hk))
  obtain ⟨nx, hnx⟩ : ∃ nx, h.f + E.length = nx := ⟨_, rfl⟩
  have Hnx := hide hnx
  rw [hnx]
  obtain ⟨f0, hf0⟩ : ∃ f0, h.f = f0 := ⟨_, rfl⟩
  have Hf0 := hide hf0
  clear hb5 HJ4 HRW hnx hel hf0
  go_wp2
  go_loopw [41] (fun j wr => ∃ (k p : Nat) (h : Hd), k ≤ m ∧ j = .int .i64 k ∧ Hid (JS w1 (RB (.slice VA el vc)) p q nn h E el (100 + k) wr) ∧ Hid (h.f = f0) ∧ Hid (Rows5 wr base (.slice VA el vc) E)) (fun j _ => m - (intOf j).toNat)
  case atStart => exact ⟨0, p, h, Nat.zero_le _, rfl, HJ5.out, Hf0.out, HRW5.out⟩
  case round =>
    clear HJ5 HRW5
    obtain ⟨k, p1, h1', hk, rfl, hj, hf1, hrw⟩ := hrel
    rcases Nat.lt_or_ge k m with hlt | hge
    · have Hlt := hide hlt
      have hki : (k : Int) < (m : Int) := by omega
      have Hk5 := hide (show 100 + k + 1 ≤ 1000 by omega)
      clear hlt
      go_wp2_with fail
      refine (hj.out.crash keep Hkeep.out).mono ?_
      rintro e w6 ⟨rfl, i, hi, hc, hk6⟩
      have hie : i = el := by
        obtain ⟨_, _, _, hle, _⟩ := hc
        rw [Hel.out] at hle
        omega
      subst hie
      have HC := hide hc
      have HRW6 := hide (hrw.out.kept hk6 (fun k hk => hk))
      clear hc hk6 hi hj hrw
      go_wp2_with fail
      refine (HC.out.open HT1.out Hk5.out).mono ?_
      rintro e w7 ⟨p7, rfl, hj7, hk7⟩
      rw [List.take_of_length_le (by rw [Hel.out]; exact Nat.le_refl _)] at hj7
      have HJ7 := hide hj7
      have HRW7 := hide (HRW6.out.kept hk7 (fun k hk => hk))
      clear hj7 hk7 HC HRW6
      go_wp2_with fail
      refine (HJ7.out.records).mono ?_
      rintro e w8 ⟨v8, rfl, hrow8, hb8⟩
      obtain ⟨VA8, vc8, rfl, _, _, hs8⟩ := hrow8.srow
      have HJ8 := hide (HJ7.out.below hb8).1
      have HRW8 := hide (HRW7.out.kept (HJ7.out.below hb8).2 (fun k hk => hk))
      obtain ⟨VA9, vc9, e9, _, _, hs9⟩ := HRW8.out.srow
      obtain ⟨rfl, rfl⟩ : VA = VA9 ∧ vc = vc9 := by simp only [Value.slice.injEq] at e9; exact ⟨e9.1, e9.2.2⟩
      have HS := hide (Same_any w8 E i VA8 VA vc8 vc Hel.out (by have := Hel20.out; omega) hs8 hs9)
      rw [Hel.out]
      clear hrow8 hb8 hs8 hs9 e9 HJ7 HRW7
      go_wp2_with fail
      refine HS.out.mono ?_
      rintro e w9 ⟨rfl, hb9⟩
      have HJ9 := hide (HJ8.out.below hb9).1
      have HRW9 := hide (HRW8.out.kept (HJ8.out.below hb9).2 (fun k hk => hk))
      clear hb9 HJ8 HRW8 HS
      go_wp2_with fail
      refine (HJ9.out.next).mono ?_
      rintro e w10 ⟨rfl, hb10⟩
      have HJ10 := hide (HJ9.out.below hb10).1
      have HRW10 := hide (HRW9.out.kept (HJ9.out.below hb10).2 (fun k hk => hk))
      have hnx1 : ((h1'.f + E.length : Nat) : Int) = (nx : Int) := by rw [hf1.out, ← Hf0.out, Hnx.out]
      rw [show (⟨h1'.t + 1, h1'.f, h1'.g + 1, h1'.l⟩ : Hd).f + E.length = nx by show h1'.f + E.length = nx; omega]
      clear hb10 HJ9 HRW9 hnx1
      go_wp2
      go_roundw
      case rel => exact ⟨k + 1, p7, _, Hlt.out, by go_num, HJ10.out, hf1.out, HRW10.out⟩
      case measure => have := Hlt.out; simp [intOf]; omega
    · have HB := hide (HB1.out.trans (hj.out.bel.mono HB1.out.size))
      have hkm : ¬ ((k : Int) < (m : Int)) := by omega
      clear hj hrw hge hk
      go_wp2
      go_ret
      exact ⟨rfl, HB.out⟩

set_option maxRecDepth 100000 in
theorem Again_any (ring : Nat) (A : Option Addr) (n c : Nat) (l : List Oq) (times keep : Nat) (w : World) (ht : Tab w) (hring : ring < 256) (hl : l.length = n) (hp : Ops w w.heap.size A l) (hf : OFits l) (htimes : times < 256) (hkeep : keep < 18446744073709551616) :
    Calls Tryd.prog 7 #[.int .u8 (ring : Int), .slice A n c, .int .u8 (times : Int), .int .u64 (keep : Int)] w fun e w' => e = .returned (.bool true) ∧ Below w.heap.size w w' := by
  by_cases hfew : Few l
  · exact Again_good ring A n c l times keep w ht hring htimes hkeep hl hp hf hfew
  · have HT := hide ht
    have Hl := hide hl
    have Hp := hide hp
    have Hf := hide hf
    have Hfew := hide hfew
    clear ht hl hp hf hfew
    go_enter Tryd.func7, Tryd.ntmps7
    go_wp2_with fail
    refine (awake_any w HT.out).mono ?_
    rintro e w1 ⟨rfl, hb1⟩
    have HB1 := hide hb1
    clear hb1
    go_wp2_with fail
    refine (few_any A n c l w1 Hl.out (((Hp.out.below HB1.out)).more1 HB1.out.size) Hf.out).mono ?_
    rintro e w' ⟨⟨b, rfl, hb⟩, rfl⟩
    obtain rfl : b = false := by cases b; rfl; exact absurd (hb.1 rfl) Hfew.out
    clear hb
    go_wp2_with fail
    refine (awake_any w1 (HT.out.below HB1.out HT.out.pos)).mono ?_
    rintro e w2 ⟨rfl, hb2⟩
    have HB2 := hide (HB1.out.trans (hb2.mono HB1.out.size))
    clear hb2
    go_wp2
    go_ret
    exact ⟨rfl, HB2.out⟩

end Go.Proofs.YtmfgcinikopgnaaDoor.Jn

namespace Go.Proofs.YtmfgcinikopgnaaDoor.journalAgain
open Go.ChangeShapes Go.WideShapes Go.ChangeAt Go.RowKit
open Go.ChangeMaps (open_string shut_string)
open Go.Deep
open Rc Jn

theorem laidOut : laidOutB Tryd.prog = true := by kernel_rfl

set_option maxRecDepth 100000 in
theorem lifted (os : Os) (started : os.Started) (H : Type) (enc : TypeId × Value → H) :
    ReturnsInHanded {} Tryd.checked os 7 .any (fun w args => (Rows.journalAgainSpec.pre enc Tryd.prog Tryd.f7 [] false w args ∧ laidMetH Tryd.prog laidH w) ∧ sizedMet enc Tryd.prog Tryd.f7 (OpenSpec.ofChange Rows.journalAgainSpec) false w args)
      (Rows.journalAgainSpec.post enc Tryd.prog Tryd.f7 false true false false) := by
  refine returnsInHanded_of_change_and (C := Tryd.checked) (X := fun w _ => laidMetH Tryd.prog laidH w) (fun _ _ _ hh h => h.of_heap hh) own started (by kernel_rfl) Tryd.func7
    (ChangeSpec.witness_shaped (enc := enc) (C := Tryd.checked) (os := os) (X := fun w _ => laidMetH Tryd.prog laidH w) false (World.doorLaid Tryd.prog 21 os) #[.int .u8 0, .slice none 0 0, .int .u8 0, .int .u64 0] 8 rfl (World.shaped_of_RefB (by kernel_rfl) (by kernel_rfl)) (by kernel_rfl) (by kernel_rfl) (by kernel_rfl) (Rc.door_metH os _)) ?_
  intro W base args ds gs before hval0 hW _ _ hL _
  have hval : ∀ (j : Nat) t v, Tryd.f7.params[j]? = some t → args[j]? = some v → Value.okWide Tryd.prog W .any base t v := hval0
  have hW' := hW
  obtain ⟨p, q, hA0, hV, rfl, hfz, hnd⟩ := hW
  have hA : DataW.TrodAll enc Tryd.prog W 0 (fun _ => true) true Tryd.f7.params.toList args.toList ds p := hA0
  rw [Tryd.params7] at hA hval
  obtain ⟨v0, vs0, d0, ds0, p0, q0, hargs, rfl, rfl, h0, r0⟩ := trodAll_cons hA
  obtain ⟨v1, vs1, d1, ds1, p1, q1, rfl, rfl, rfl, h1, r1⟩ := trodAll_cons r0
  obtain ⟨v2, vs2, d2, ds2, p2, q2, rfl, rfl, rfl, h2, r2⟩ := trodAll_cons r1
  obtain ⟨v3, vs3, d3, ds3, p3, q3, rfl, rfl, rfl, h3, r3⟩ := trodAll_cons r2
  obtain ⟨rfl, rfl, rfl⟩ := trodAll_nil r3
  obtain rfl : args = #[v0, v1, v2, v3] := by cases args; simp_all
  obtain ⟨rfl, rfl⟩ := trodVars_none hV
  obtain ⟨a0, rfl, rfl, rfl, w0⟩ := open_int Tryd.underlying5 (hval 0 5 v0 rfl rfl) h0
  have b0 := bounds_u8 w0
  obtain ⟨m0, rfl⟩ : ∃ m : Nat, a0 = (m : Int) := ⟨a0.toNat, by omega⟩
  obtain ⟨A1, n1, c1, rfl⟩ := okWide_slice Tryd.underlying22 (hval 1 22 v1 rfl rfl)
  have k1 := h1
  have lt1 : ∀ x ∈ p1, x.block < W.heap.size := by obtain ⟨m, hm⟩ := k1; exact DataW.trod_lt m _ _ _ hm
  obtain ⟨l1, hln1, hft1, hpl1⟩ := open_ops6 h1
  obtain ⟨a2, rfl, rfl, rfl, w2⟩ := open_int Tryd.underlying5 (hval 2 5 v2 rfl rfl) h2
  have b2 := bounds_u8 w2
  obtain ⟨m2, rfl⟩ : ∃ m : Nat, a2 = (m : Int) := ⟨a2.toNat, by omega⟩
  obtain ⟨a3, rfl, rfl, rfl, w3⟩ := open_int Tryd.underlying24 (hval 3 24 v3 rfl rfl) h3
  have b3 := bounds_u64 w3
  obtain ⟨m3, rfl⟩ : ∃ m : Nat, a3 = (m : Int) := ⟨a3.toNat, by omega⟩
  clear hA0 hval0
  refine (Again_any m0 A1 n1 c1 l1 m2 m3 W (met_of_laidH hL) (by omega) hln1 hpl1 hft1 (by omega) (by omega)).mono fun e W' ⟨he, bel⟩ => ?_
  subst he
  exact ⟨_, rfl, _, _, _, [], _, [], hW', trodAll_mk1 (shut_bool Tryd.underlying4 _), (trodAll_cons_mk (shut_int Tryd.underlying5 w0) (trodAll_cons_mk (Below.trod laidOut (by kernel_rfl) (of_decide_eq_true (by kernel_rfl)) k1 bel lt1) (trodAll_cons_mk (shut_int Tryd.underlying5 w2) (trodAll_cons_mk (shut_int Tryd.underlying24 w3) trodAll_mk0)))), rfl, bel.frame _, fun h => by cases h⟩

theorem row : Rows.JournalAgainSaid :=
  OpenClaim.holds_of_wide 7 Tryd.f7 rfl rfl rfl rfl rfl rfl rfl ⟨rfl, rfl, rfl, rfl, rfl⟩ rfl rfl rfl rfl rfl (by kernel_rfl) Tryd.func7 (by kernel_rfl)
    (of_decide_eq_true (by kernel_rfl)) (by unfold Func.isWrapper; first | (rw [if_pos (by decide +kernel)]; kernel_rfl) | (rw [if_neg (by decide +kernel)]; exact ⟨rfl, rfl⟩))
    (fun os started H enc _ => lifted os started H enc)

theorem proved : Rows.JournalAgainCardSaid :=
  Claim7.holds_tied_plain_at .later [] [.data] true Rows.journalAgainCard.stood.harness true
    row (fun _ h => by cases h) (by kernel_rfl) (fun _ h => by cases h) journalAgain_row_tie rfl ⟨rfl, rfl⟩ (by kernel_rfl) rfl
    (fun f fn hf hfn => by
      obtain rfl : f = 7 := Option.some.inj ((show Tryd.prog.funcNamed "isobar/isobarlaw06.JournalAgain" = some 7 by kernel_rfl).symm.trans hf) |>.symm
      obtain rfl : fn = Tryd.f7 := (Option.some.inj (Tryd.func7.symm.trans hfn)).symm
      exact ⟨by kernel_rfl, fun j t ht => by
        rw [Tryd.params7] at ht
        have hm : t ∈ [5, 22, 5, 24] := by simpa using Array.mem_of_getElem? ht
        have hall : ([5, 22, 5, 24].all fun u => !Tryd.prog.wantsStandIn u) = true := by kernel_rfl
        exact (show Tryd.prog.wantsStandIn t = false by simpa using List.all_eq_true.1 hall t hm)⟩)
    (by kernel_rfl)
#print axioms proved
end Go.Proofs.YtmfgcinikopgnaaDoor.journalAgain
