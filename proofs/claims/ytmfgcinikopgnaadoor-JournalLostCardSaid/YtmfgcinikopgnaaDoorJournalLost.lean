/-
  Proved: the statement JournalLost: for every ring, every script, every number of lost, more and dropped records and every crash it returns true, and its arguments read as before. Condition: the package variable halves reads as the program's own text lays it (the card ties it).
-/
import Derived.Test.YtmfgcinikopgnaaDoorJnD
import Derived.Test.YtmfgcinikopgnaaDoorTie
import Derived.Test.YtmfgcinikopgnaaDoorCards
import Derived.Test.YtmfgcinikopgnaaDoorRcLift
import Derived.Test.YtmfgcinikopgnaaDoorJnC
import Derived.SevenTiedAt

/-
  JournalLost at every ring, every script, every number of lost, more and dropped records, and every crash: it returns true, and changes nothing that was there. Condition: the table of half bytes holds what the program's own text lays.
-/
namespace Go.Proofs.YtmfgcinikopgnaaDoor.Jn
open Go.RowKit
open Pk Sm Fa Rc Dk

theorem rem17 (t : Nat) : (t : Int).tmod 17 = ((t % 17 : Nat) : Int) := by
  rw [Int.tmod_eq_emod_of_nonneg (by omega)]
  rfl
theorem rem8 (t : Nat) : (t : Int).tmod 8 = ((t % 8 : Nat) : Int) := by
  rw [Int.tmod_eq_emod_of_nonneg (by omega)]
  rfl
/-- Dropping no more than is held, all of it flushed. -/
theorem JS.trimX {w0 w : World} {R : Nat → Prop} {p q n : Nat} {h : Hd} {E : List Ent} {D T : Nat} (j : JS w0 R p q n h E D T w) (ht : Tab w0) (hT : T + 1 ≤ 1000) (hD : D = E.length) (k : Nat) (hk : k ≤ E.length) :
    Calls Tryd.prog 17 #[.pointer (some ⟨p, 0, none⟩), .int .i64 (k : Int)] w fun e w' => e = .returned .nilIface ∧ (∃ h' E', JS w0 R p q n h' E' E'.length (T + 1) w') ∧ RK R w w' := by
  rcases Nat.eq_zero_or_pos k with rfl | hp
  · refine (j.trim_zero).mono ?_
    rintro e w' ⟨rfl, rfl⟩
    refine ⟨rfl, ⟨h, E, ?_⟩, fun _ _ => rfl⟩
    rw [← hD]
    exact j.more (Nat.le_succ _) hT
  · refine (j.trim ht hT k hp hk).mono ?_
    rintro e w' ⟨rfl, hj, hr⟩
    refine ⟨rfl, ⟨⟨h.t + 1, h.f + k, h.g, lst h.l (E.take k)⟩, E.drop k, ?_⟩, hr⟩
    rw [List.length_drop]
    exact hj

set_option maxRecDepth 100000 in
set_option maxHeartbeats 1000000 in
theorem Lost_good (ring : Nat) (A : Option Addr) (n c : Nat) (l : List Oq) (lost keep more drop : Nat) (w : World) (ht : Tab w) (hring : ring < 256) (hl : l.length = n) (hp : Ops w w.heap.size A l) (hf : OFits l)
    (hlost : lost < 256) (hkeep : keep < 18446744073709551616) (hmore : more < 256) (hdrop : drop < 256) (hfew : Few l) :
    Calls Tryd.prog 4 #[.int .u8 (ring : Int), .slice A n c, .int .u8 (lost : Int), .int .u64 (keep : Int), .int .u8 (more : Int), .int .u8 (drop : Int)] w fun e w' => e = .returned (.bool true) ∧ Below w.heap.size w w' := by
  obtain ⟨r, hr⟩ : ∃ r, ring % 16 = r := ⟨_, rfl⟩
  have hrem := rem16 ring
  rw [hr] at hrem
  obtain ⟨nn, hnn⟩ : ∃ nn, 1 + r = nn := ⟨_, rfl⟩
  obtain ⟨m1, hm1⟩ : ∃ m, lost % 17 = m := ⟨_, rfl⟩
  have hr1 := rem17 lost
  rw [hm1] at hr1
  obtain ⟨m2, hm2⟩ : ∃ m, more % 17 = m := ⟨_, rfl⟩
  have hr2 := rem17 more
  rw [hm2] at hr2
  obtain ⟨m3, hm3⟩ : ∃ m, drop % 17 = m := ⟨_, rfl⟩
  have hr3 := rem17 drop
  rw [hm3] at hr3
  have h1 : (1 : Int) + (r : Int) = (nn : Int) := by omega
  have hringi : (ring : Int) < 256 := by omega
  have hlosti : (lost : Int) < 256 := by omega
  have hmorei : (more : Int) < 256 := by omega
  have hdropi : (drop : Int) < 256 := by omega
  have hr16 : (r : Int) < 16 := by omega
  have hnn16 : (nn : Int) ≤ 16 := by omega
  have hm1n : m1 ≤ 16 := by omega
  have hm2n : m2 ≤ 16 := by omega
  have hm3n : m3 ≤ 16 := by omega
  have HT := hide ht
  have HR := hide (show 1 + ring % 16 = nn by omega)
  have Hring := hide hring
  have Hl := hide hl
  have Hp := hide hp
  have Hf := hide hf
  have Hfew := hide hfew
  have Hkeep := hide hkeep
  clear ht hl hp hf hfew hkeep hr hnn hm1 hm2 hm3 hring hlost hmore hdrop
  go_enter Tryd.func4, Tryd.ntmps4
  go_wp2_with fail
  refine (awake_any w HT.out).mono ?_
  rintro e w1 ⟨rfl, hb1⟩
  have HB1 := hide hb1
  clear hb1
  go_wp2_with fail
  refine (few_any A n c l w1 Hl.out ((Hp.out.below HB1.out).more1 HB1.out.size) Hf.out).mono ?_
  rintro e w' ⟨⟨b, rfl, hb⟩, rfl⟩
  obtain rfl : b = true := hb.2 Hfew.out
  clear hb
  go_wp2_with fail
  refine (played_any ring nn A n c l w1 Hring.out HR.out Hl.out (by rw [← Hl.out]; exact Hfew.out.1) ((Hp.out.below HB1.out).more1 HB1.out.size) Hf.out (HT.out.below HB1.out HT.out.pos)).mono ?_
  rintro e w2 ⟨p, q, rfl, h, E, D, hj⟩
  have HJ2 := hide hj
  have HT1 := hide (HT.out.below HB1.out HT.out.pos)
  clear hj
  go_wp2_with fail
  refine (HJ2.out.flush).mono ?_
  rintro e w3 ⟨rfl, hj3, _⟩
  have HJ3 := hide (show JX w1 (fun _ => False) p q nn 100 w3 from ⟨_, _, _, hj3⟩)
  clear hj3 HJ2
  go_wp2
  go_loopw [43] (fun j wr => ∃ (k : Nat), k ≤ m1 ∧ j = .int .i64 k ∧ Hid (JX w1 (fun _ => False) p q nn (100 + k) wr)) (fun j _ => m1 - (intOf j).toNat)
  case atStart => exact ⟨0, Nat.zero_le _, rfl, HJ3.out⟩
  case round =>
    clear HJ3
    obtain ⟨k, hk, rfl, hj⟩ := hrel
    rcases Nat.lt_or_ge k m1 with hlt | hge
    · have Hlt := hide hlt
      have hki : (k : Int) < (m1 : Int) := by omega
      have HK := hide (show 100 + k + 1 ≤ 1000 by omega)
      have hr8 := rem8 k
      obtain ⟨k8, hk8⟩ : ∃ k8, k % 8 = k8 := ⟨_, rfl⟩
      rw [hk8] at hr8
      clear hlt hk8
      go_wp2_with fail
      refine (hj.out.append HT1.out HK.out (by decide)).mono ?_
      rintro e w5 ⟨⟨v, rfl⟩, hj5, _⟩
      have HJ5 := hide hj5
      clear hj5 hj
      go_wp2
      go_roundw
      case rel => exact ⟨k + 1, Hlt.out, by go_num, HJ5.out⟩
      case measure => have := Hlt.out; simp [intOf]; omega
    · have hkm : ¬ ((k : Int) < (m1 : Int)) := by omega
      have HK := hide (show 100 + k + 1 ≤ 117 by omega)
      clear hge hk
      go_wp2_with fail
      refine (hj.out.crash keep Hkeep.out).mono ?_
      rintro e w7 ⟨rfl, ⟨h7, E7, i7, hc⟩, _⟩
      have HC := hide hc
      clear hc hj
      go_wp2_with fail
      refine (HC.out.open HT1.out (by have := HK.out; omega)).mono ?_
      rintro e w8 ⟨p8, rfl, hj8, _⟩
      have HJ8 := hide (show JX w1 (fun _ => False) p8 q nn 117 w8 from ⟨_, _, _, hj8.more (by have := HK.out; omega) (by omega)⟩)
      clear hj8 HC HK hkm
      go_wp2
      go_loopw [69] (fun j wr => ∃ (k : Nat), k ≤ m2 ∧ j = .int .i64 k ∧ Hid (JX w1 (fun _ => False) p8 q nn (117 + k) wr)) (fun j _ => m2 - (intOf j).toNat)
      case atStart => exact ⟨0, Nat.zero_le _, rfl, HJ8.out⟩
      case round =>
        clear HJ8
        obtain ⟨k, hk, rfl, hj⟩ := hrel
        rcases Nat.lt_or_ge k m2 with hlt | hge
        · have Hlt := hide hlt
          have hki : (k : Int) < (m2 : Int) := by omega
          have HK := hide (show 117 + k + 1 ≤ 1000 by omega)
          have hr8 := rem8 k
          obtain ⟨k8, hk8⟩ : ∃ k8, k % 8 = k8 := ⟨_, rfl⟩
          rw [hk8] at hr8
          clear hlt hk8
          go_wp2_with fail
          refine (hj.out.append HT1.out HK.out (by decide)).mono ?_
          rintro e w9 ⟨⟨v, rfl⟩, hj9, _⟩
          have HJ9 := hide hj9
          clear hj9 hj
          go_wp2
          go_roundw
          case rel => exact ⟨k + 1, Hlt.out, by go_num, HJ9.out⟩
          case measure => have := Hlt.out; simp [intOf]; omega
        · have hkm : ¬ ((k : Int) < (m2 : Int)) := by omega
          obtain ⟨h9, E9, D9, hj⟩ := hj.out
          have HJ9 := hide (hj.more (T' := 200) (by omega) (by omega))
          clear hge hk hj
          go_wp2_with fail
          refine (HJ9.out.flush).mono ?_
          rintro e w10 ⟨rfl, hj10, _⟩
          have HJ10 := hide hj10
          clear hj10 HJ9
          go_wp2_with fail
          refine (HJ10.out.records).mono ?_
          rintro e w11 ⟨v11, rfl, hrow, hb11⟩
          obtain ⟨VA11, vc11, rfl, _, _, _⟩ := hrow.srow
          have HJ11 := hide (HJ10.out.below hb11).1
          obtain ⟨el, hel⟩ : ∃ el, E9.length = el := ⟨_, rfl⟩
          have Hel := hide hel
          have hel20 : el ≤ 20 := by have := HJ10.out.few.1; have := HJ10.out.lim.n16; omega
          rw [hel] at HJ11 ⊢
          obtain ⟨tk, htk⟩ : ∃ tk : Nat, min m3 el = tk := ⟨_, rfl⟩
          have htki : min (m3 : Int) (el : Int) = (tk : Int) := by omega
          have Htk := hide (show tk ≤ el by omega)
          clear hrow hb11 HJ10 hel htk
          go_wp2_with fail
          refine (HJ11.out.trimX HT1.out (by decide) Hel.out.symm tk (by rw [Hel.out]; exact Htk.out)).mono ?_
          rintro e w12 ⟨rfl, ⟨h12, E12, hj12⟩, _⟩
          have HJ12 := hide hj12
          clear hj12 HJ11
          go_wp2_with fail
          refine (HJ12.out.records).mono ?_
          rintro e w13 ⟨v13, rfl, hrow13, hb13⟩
          have HJ13 := hide (HJ12.out.held hb13 hrow13 (Nat.le_refl _))
          obtain ⟨base, hbase⟩ : ∃ b, w12.heap.size = b := ⟨_, rfl⟩
          rw [hbase] at hrow13
          obtain ⟨VA, vc, rfl, hv1, _, _⟩ := hrow13.srow
          have HRW := hide hrow13
          obtain ⟨al, hal⟩ : ∃ al, E12.length = al := ⟨_, rfl⟩
          have Hal := hide hal
          have Hal20 := hide (show al ≤ 20 by have := HJ12.out.few.1; have := HJ12.out.lim.n16; omega)
          rw [hal] at HJ13 HRW hv1 ⊢
          clear hrow13 hb13 HJ12 hbase hal
          go_wp2_with fail
          refine (HJ13.out.next).mono ?_
          rintro e w14 ⟨rfl, hb14⟩
          have HJ14 := hide (HJ13.out.below hb14).1
          have HRW14 := hide (HRW.out.kept (HJ13.out.below hb14).2 (fun k hk => hk))
          obtain ⟨nx, hnx⟩ : ∃ nx, h12.f + E12.length = nx := ⟨_, rfl⟩
          have Hnx := hide hnx
          rw [hnx]
          clear hb14 HJ13 HRW hnx
          go_wp2_with fail
          refine (HJ14.out.crash 0 (by decide)).mono ?_
          rintro e w15 ⟨rfl, i, hi, hc, hk15⟩
          have hie : i = al := by
            obtain ⟨_, _, _, hle, _⟩ := hc
            rw [Hal.out] at hle
            omega
          subst hie
          have HC := hide hc
          have HRW15 := hide (HRW14.out.kept hk15 (fun k hk => hk))
          clear hc hk15 hi HJ14 HRW14
          go_wp2_with fail
          refine (HC.out.open HT1.out (by decide)).mono ?_
          rintro e w16 ⟨p16, rfl, hj16, hk16⟩
          rw [List.take_of_length_le (by rw [Hal.out]; exact Nat.le_refl _)] at hj16
          have HJ16 := hide hj16
          have HRW16 := hide (HRW15.out.kept hk16 (fun k hk => hk))
          clear hj16 hk16 HC HRW15
          go_wp2_with fail
          refine (HJ16.out.records).mono ?_
          rintro e w17 ⟨v17, rfl, hrow17, hb17⟩
          obtain ⟨VA17, vc17, rfl, _, _, hs17⟩ := hrow17.srow
          have HJ17 := hide (HJ16.out.below hb17).1
          have HRW17 := hide (HRW16.out.kept (HJ16.out.below hb17).2 (fun k hk => hk))
          obtain ⟨VA9, vc9, e9, _, _, hs9⟩ := HRW17.out.srow
          obtain ⟨rfl, rfl⟩ : VA = VA9 ∧ vc = vc9 := by simp only [Value.slice.injEq] at e9; exact ⟨e9.1, e9.2.2⟩
          have HS := hide (Same_any w17 E12 i VA17 VA vc17 vc Hal.out (by have := Hal20.out; omega) hs17 hs9)
          rw [Hal.out]
          clear hrow17 hb17 hs17 hs9 e9 HJ16 HRW16 HRW17
          go_wp2_with fail
          refine HS.out.mono ?_
          rintro e w18 ⟨rfl, hb18⟩
          have HJ18 := hide (HJ17.out.below hb18).1
          clear hb18 HJ17 HS
          go_wp2_with fail
          refine (HJ18.out.next).mono ?_
          rintro e w19 ⟨rfl, hb19⟩
          have HB19 := hide (HB1.out.trans (((HJ18.out.below hb19).1).bel.mono HB1.out.size))
          rw [show (⟨h12.t + 1, h12.f, h12.g + 1, h12.l⟩ : Hd).f + E12.length = nx from Hnx.out]
          clear hb19 HJ18
          go_wp2
          go_ret
          exact ⟨rfl, HB19.out⟩

set_option maxRecDepth 100000 in
theorem Lost_any (ring : Nat) (A : Option Addr) (n c : Nat) (l : List Oq) (lost keep more drop : Nat) (w : World) (ht : Tab w) (hring : ring < 256) (hl : l.length = n) (hp : Ops w w.heap.size A l) (hf : OFits l)
    (hlost : lost < 256) (hkeep : keep < 18446744073709551616) (hmore : more < 256) (hdrop : drop < 256) :
    Calls Tryd.prog 4 #[.int .u8 (ring : Int), .slice A n c, .int .u8 (lost : Int), .int .u64 (keep : Int), .int .u8 (more : Int), .int .u8 (drop : Int)] w fun e w' => e = .returned (.bool true) ∧ Below w.heap.size w w' := by
  by_cases hfew : Few l
  · exact Lost_good ring A n c l lost keep more drop w ht hring hl hp hf hlost hkeep hmore hdrop hfew
  · have HT := hide ht
    have Hl := hide hl
    have Hp := hide hp
    have Hf := hide hf
    have Hfew := hide hfew
    clear ht hl hp hf hfew
    go_enter Tryd.func4, Tryd.ntmps4
    go_wp2_with fail
    refine (awake_any w HT.out).mono ?_
    rintro e w1 ⟨rfl, hb1⟩
    have HB1 := hide hb1
    clear hb1
    go_wp2_with fail
    refine (few_any A n c l w1 Hl.out (((Hp.out.below HB1.out)).more1 HB1.out.size) Hf.out).mono ?_
    rintro e w' ⟨⟨b, rfl, hb⟩, rfl⟩
    obtain rfl : b = false := by cases b; rfl; exact absurd (hb.1 rfl) Hfew.out
    clear hb
    go_wp2_with fail
    refine (awake_any w1 (HT.out.below HB1.out HT.out.pos)).mono ?_
    rintro e w2 ⟨rfl, hb2⟩
    have HB2 := hide (HB1.out.trans (hb2.mono HB1.out.size))
    clear hb2
    go_wp2
    go_ret
    exact ⟨rfl, HB2.out⟩

end Go.Proofs.YtmfgcinikopgnaaDoor.Jn

namespace Go.Proofs.YtmfgcinikopgnaaDoor.journalLost
open Go.ChangeShapes Go.WideShapes Go.ChangeAt Go.RowKit
open Go.ChangeMaps (open_string shut_string)
open Go.Deep
open Rc Jn

theorem laidOut : laidOutB Tryd.prog = true := by kernel_rfl

set_option maxRecDepth 100000 in
theorem lifted (os : Os) (started : os.Started) (H : Type) (enc : TypeId × Value → H) :
    ReturnsInHanded {} Tryd.checked os 4 .any (fun w args => (Rows.journalLostSpec.pre enc Tryd.prog Tryd.f4 [] false w args ∧ laidMetH Tryd.prog laidH w) ∧ sizedMet enc Tryd.prog Tryd.f4 (OpenSpec.ofChange Rows.journalLostSpec) false w args)
      (Rows.journalLostSpec.post enc Tryd.prog Tryd.f4 false true false false) := by
  refine returnsInHanded_of_change_and (C := Tryd.checked) (X := fun w _ => laidMetH Tryd.prog laidH w) (fun _ _ _ hh h => h.of_heap hh) own started (by kernel_rfl) Tryd.func4
    (ChangeSpec.witness_shaped (enc := enc) (C := Tryd.checked) (os := os) (X := fun w _ => laidMetH Tryd.prog laidH w) false (World.doorLaid Tryd.prog 21 os) #[.int .u8 0, .slice none 0 0, .int .u8 0, .int .u64 0, .int .u8 0, .int .u8 0] 8 rfl (World.shaped_of_RefB (by kernel_rfl) (by kernel_rfl)) (by kernel_rfl) (by kernel_rfl) (by kernel_rfl) (Rc.door_metH os _)) ?_
  intro W base args ds gs before hval0 hW _ _ hL _
  have hval : ∀ (j : Nat) t v, Tryd.f4.params[j]? = some t → args[j]? = some v → Value.okWide Tryd.prog W .any base t v := hval0
  have hW' := hW
  obtain ⟨p, q, hA0, hV, rfl, hfz, hnd⟩ := hW
  have hA : DataW.TrodAll enc Tryd.prog W 0 (fun _ => true) true Tryd.f4.params.toList args.toList ds p := hA0
  rw [Tryd.params4] at hA hval
  obtain ⟨v0, vs0, d0, ds0, p0, q0, hargs, rfl, rfl, h0, r0⟩ := trodAll_cons hA
  obtain ⟨v1, vs1, d1, ds1, p1, q1, rfl, rfl, rfl, h1, r1⟩ := trodAll_cons r0
  obtain ⟨v2, vs2, d2, ds2, p2, q2, rfl, rfl, rfl, h2, r2⟩ := trodAll_cons r1
  obtain ⟨v3, vs3, d3, ds3, p3, q3, rfl, rfl, rfl, h3, r3⟩ := trodAll_cons r2
  obtain ⟨v4, vs4, d4, ds4, p4, q4, rfl, rfl, rfl, h4, r4⟩ := trodAll_cons r3
  obtain ⟨v5, vs5, d5, ds5, p5, q5, rfl, rfl, rfl, h5, r5⟩ := trodAll_cons r4
  obtain ⟨rfl, rfl, rfl⟩ := trodAll_nil r5
  obtain rfl : args = #[v0, v1, v2, v3, v4, v5] := by cases args; simp_all
  obtain ⟨rfl, rfl⟩ := trodVars_none hV
  obtain ⟨a0, rfl, rfl, rfl, w0⟩ := open_int Tryd.underlying5 (hval 0 5 v0 rfl rfl) h0
  have b0 := bounds_u8 w0
  obtain ⟨m0, rfl⟩ : ∃ m : Nat, a0 = (m : Int) := ⟨a0.toNat, by omega⟩
  obtain ⟨A1, n1, c1, rfl⟩ := okWide_slice Tryd.underlying22 (hval 1 22 v1 rfl rfl)
  have k1 := h1
  have lt1 : ∀ x ∈ p1, x.block < W.heap.size := by obtain ⟨m, hm⟩ := k1; exact DataW.trod_lt m _ _ _ hm
  obtain ⟨l1, hln1, hft1, hpl1⟩ := open_ops6 h1
  obtain ⟨a2, rfl, rfl, rfl, w2⟩ := open_int Tryd.underlying5 (hval 2 5 v2 rfl rfl) h2
  have b2 := bounds_u8 w2
  obtain ⟨m2, rfl⟩ : ∃ m : Nat, a2 = (m : Int) := ⟨a2.toNat, by omega⟩
  obtain ⟨a3, rfl, rfl, rfl, w3⟩ := open_int Tryd.underlying24 (hval 3 24 v3 rfl rfl) h3
  have b3 := bounds_u64 w3
  obtain ⟨m3, rfl⟩ : ∃ m : Nat, a3 = (m : Int) := ⟨a3.toNat, by omega⟩
  obtain ⟨a4, rfl, rfl, rfl, w4⟩ := open_int Tryd.underlying5 (hval 4 5 v4 rfl rfl) h4
  have b4 := bounds_u8 w4
  obtain ⟨m4, rfl⟩ : ∃ m : Nat, a4 = (m : Int) := ⟨a4.toNat, by omega⟩
  obtain ⟨a5, rfl, rfl, rfl, w5⟩ := open_int Tryd.underlying5 (hval 5 5 v5 rfl rfl) h5
  have b5 := bounds_u8 w5
  obtain ⟨m5, rfl⟩ : ∃ m : Nat, a5 = (m : Int) := ⟨a5.toNat, by omega⟩
  clear hA0 hval0
  refine (Lost_any m0 A1 n1 c1 l1 m2 m3 m4 m5 W (met_of_laidH hL) (by omega) hln1 hpl1 hft1 (by omega) (by omega) (by omega) (by omega)).mono fun e W' ⟨he, bel⟩ => ?_
  subst he
  exact ⟨_, rfl, _, _, _, [], _, [], hW', trodAll_mk1 (shut_bool Tryd.underlying4 _), (trodAll_cons_mk (shut_int Tryd.underlying5 w0) (trodAll_cons_mk (Below.trod laidOut (by kernel_rfl) (of_decide_eq_true (by kernel_rfl)) k1 bel lt1) (trodAll_cons_mk (shut_int Tryd.underlying5 w2) (trodAll_cons_mk (shut_int Tryd.underlying24 w3) (trodAll_cons_mk (shut_int Tryd.underlying5 w4) (trodAll_cons_mk (shut_int Tryd.underlying5 w5) trodAll_mk0)))))), rfl, bel.frame _, fun h => by cases h⟩

theorem row : Rows.JournalLostSaid :=
  OpenClaim.holds_of_wide 4 Tryd.f4 rfl rfl rfl rfl rfl rfl rfl ⟨rfl, rfl, rfl, rfl, rfl⟩ rfl rfl rfl rfl rfl (by kernel_rfl) Tryd.func4 (by kernel_rfl)
    (of_decide_eq_true (by kernel_rfl)) (by unfold Func.isWrapper; first | (rw [if_pos (by decide +kernel)]; kernel_rfl) | (rw [if_neg (by decide +kernel)]; exact ⟨rfl, rfl⟩))
    (fun os started H enc _ => lifted os started H enc)

theorem proved : Rows.JournalLostCardSaid :=
  Claim7.holds_tied_plain_at .later [] [.data] true Rows.journalLostCard.stood.harness true
    row (fun _ h => by cases h) (by kernel_rfl) (fun _ h => by cases h) journalLost_row_tie rfl ⟨rfl, rfl⟩ (by kernel_rfl) rfl
    (fun f fn hf hfn => by
      obtain rfl : f = 4 := Option.some.inj ((show Tryd.prog.funcNamed "isobar/isobarlaw06.JournalLost" = some 4 by kernel_rfl).symm.trans hf) |>.symm
      obtain rfl : fn = Tryd.f4 := (Option.some.inj (Tryd.func4.symm.trans hfn)).symm
      exact ⟨by kernel_rfl, fun j t ht => by
        rw [Tryd.params4] at ht
        have hm : t ∈ [5, 22, 5, 24, 5, 5] := by simpa using Array.mem_of_getElem? ht
        have hall : ([5, 22, 5, 24, 5, 5].all fun u => !Tryd.prog.wantsStandIn u) = true := by kernel_rfl
        exact (show Tryd.prog.wantsStandIn t = false by simpa using List.all_eq_true.1 hall t hm)⟩)
    (by kernel_rfl)
#print axioms proved
end Go.Proofs.YtmfgcinikopgnaaDoor.journalLost
