/-
  JournalGaps at every ring, every script, any more records and every crash: it returns true, and changes nothing that was there. Condition: the table of half bytes holds what the program's own text lays.
-/
import Derived.Test.YtmfgcinikopgnaaDoorJnC

/-
  JournalAgain at every ring, every script, every number and every crash: it returns true, and changes nothing that was there. Condition: the table of half bytes holds what the program's own text lays.
-/
namespace Go.Proofs.YtmfgcinikopgnaaDoor.Jn
open Go.RowKit
open Pk Sm Fa Rc Dk

theorem rem5 (t : Nat) : (t : Int).tmod 5 = ((t % 5 : Nat) : Int) := by
  rw [Int.tmod_eq_emod_of_nonneg (by omega)]
  rfl
/-- The blocks of a row. -/
def RB (v : Value) : Nat → Prop := fun k => v.ownBlock = some k
theorem JS.held {w0 w w' : World} {p q n : Nat} {h : Hd} {E : List Ent} {D T base : Nat} {v : Value} {E' : List Ent} (j : JS w0 (fun _ => False) p q n h E D T w) (hb : Below w.heap.size w w') (hr : Rows5 w' base v E') (hB : w.heap.size ≤ base) : JS w0 (RB v) p q n h E D T w' := by
  obtain ⟨S, h1, h2, h3⟩ := j.hold (R' := RB v) hb (fun k hk => by have := World.ownsRow.lt hr k hk; exact ⟨by omega, this.2⟩)
  exact ⟨S, h1.mono (fun k hk => Or.inr hk), h2, h3⟩

set_option maxRecDepth 100000 in
set_option maxHeartbeats 1000000 in
theorem Again_good (ring : Nat) (A : Option Addr) (n c : Nat) (l : List Oq) (times keep : Nat) (w : World) (ht : Tab w) (hring : ring < 256) (htimes : times < 256) (hkeep : keep < 18446744073709551616) (hl : l.length = n) (hp : Ops w w.heap.size A l) (hf : OFits l) (hfew : Few l) :
    Calls Tryd.prog 7 #[.int .u8 (ring : Int), .slice A n c, .int .u8 (times : Int), .int .u64 (keep : Int)] w fun e w' => e = .returned (.bool true) ∧ Below w.heap.size w w' := by
  obtain ⟨r, hr⟩ : ∃ r, ring % 16 = r := ⟨_, rfl⟩
  have hrem := rem16 ring
  rw [hr] at hrem
  obtain ⟨r5, hr5⟩ : ∃ r5, times % 5 = r5 := ⟨_, rfl⟩
  have hrem5 := rem5 times
  rw [hr5] at hrem5
  obtain ⟨nn, hnn⟩ : ∃ nn, 1 + r = nn := ⟨_, rfl⟩
  obtain ⟨m, hm⟩ : ∃ m, 1 + r5 = m := ⟨_, rfl⟩
  have h1 : (1 : Int) + (r : Int) = (nn : Int) := by omega
  have h5 : (1 : Int) + (r5 : Int) = (m : Int) := by omega
  have hm5 : m ≤ 5 := by omega
  have hringi : (ring : Int) < 256 := by omega
  have hr16 : (r : Int) < 16 := by omega
  have hnn16 : (nn : Int) ≤ 16 := by omega
  have HT := hide ht
  have HR := hide (show 1 + ring % 16 = nn by omega)
  have Hring := hide hring
  have Hl := hide hl
  have Hp := hide hp
  have Hf := hide hf
  have Hfew := hide hfew
  have Hkeep := hide hkeep
  clear ht hl hp hf hfew hkeep hr hr5 hnn hm hring
  go_enter Tryd.func7, Tryd.ntmps7
  go_wp2_with fail
  refine (awake_any w HT.out).mono ?_
  rintro e w1 ⟨rfl, hb1⟩
  have HB1 := hide hb1
  clear hb1
  go_wp2_with fail
  refine (few_any A n c l w1 Hl.out (((Hp.out.below HB1.out)).more1 HB1.out.size) Hf.out).mono ?_
  rintro e w' ⟨⟨b, rfl, hb⟩, rfl⟩
  obtain rfl : b = true := hb.2 Hfew.out
  clear hb
  go_wp2_with fail
  refine (played_any ring nn A n c l w1 Hring.out HR.out Hl.out (by rw [← Hl.out]; exact Hfew.out.1) ((Hp.out.below HB1.out).more1 HB1.out.size) Hf.out (HT.out.below HB1.out HT.out.pos)).mono ?_
  rintro e w2 ⟨p, q, rfl, h, E, D, hj⟩
  have HJ2 := hide hj
  have HT1 := hide (HT.out.below HB1.out HT.out.pos)
  clear hj
  go_wp2_with fail
  refine (HJ2.out.flush).mono ?_
  rintro e w3 ⟨rfl, hj3, _⟩
  have HJ3 := hide hj3
  clear hj3 HJ2
  go_wp2_with fail
  refine (HJ3.out.records).mono ?_
  rintro e w4 ⟨v, rfl, hrow, hb4⟩
  have HJ4 := hide (HJ3.out.held hb4 hrow (Nat.le_refl _))
  obtain ⟨VA, vc, rfl, hv1, hv2, _⟩ := hrow.srow
  have HRW := hide hrow
  obtain ⟨base, hbase⟩ : ∃ b, w3.heap.size = b := ⟨_, rfl⟩
  rw [hbase] at HRW
  obtain ⟨el, hel⟩ : ∃ el, E.length = el := ⟨_, rfl⟩
  have Hel := hide hel
  have Hel20 := hide (show el ≤ 20 by have := HJ4.out.few.1; have := HJ4.out.lim.n16; omega)
  rw [hel] at HJ4 HRW ⊢
  clear hrow hb4 hv1 hv2 HJ3 hbase
  go_wp2_with fail
  refine (HJ4.out.next).mono ?_
  rintro e w5 ⟨rfl, hb5⟩
  have HJ5 := hide (HJ4.out.below hb5).1
  have HRW5 := hide (HRW.out.kept (HJ4.out.below hb5).2 (fun k hk => hk))
  obtain ⟨nx, hnx⟩ : ∃ nx, h.f + E.length = nx := ⟨_, rfl⟩
  have Hnx := hide hnx
  rw [hnx]
  obtain ⟨f0, hf0⟩ : ∃ f0, h.f = f0 := ⟨_, rfl⟩
  have Hf0 := hide hf0
  clear hb5 HJ4 HRW hnx hel hf0
  go_wp2
  go_loopw [41] (fun j wr => ∃ (k p : Nat) (h : Hd), k ≤ m ∧ j = .int .i64 k ∧ Hid (JS w1 (RB (.slice VA el vc)) p q nn h E el (100 + k) wr) ∧ Hid (h.f = f0) ∧ Hid (Rows5 wr base (.slice VA el vc) E)) (fun j _ => m - (intOf j).toNat)
  case atStart => exact ⟨0, p, h, Nat.zero_le _, rfl, HJ5.out, Hf0.out, HRW5.out⟩
  case round =>
    clear HJ5 HRW5
    obtain ⟨k, p1, h1', hk, rfl, hj, hf1, hrw⟩ := hrel
    rcases Nat.lt_or_ge k m with hlt | hge
    · have Hlt := hide hlt
      have hki : (k : Int) < (m : Int) := by omega
      have Hk5 := hide (show 100 + k + 1 ≤ 1000 by omega)
      clear hlt
      go_wp2_with fail
      refine (hj.out.crash keep Hkeep.out).mono ?_
      rintro e w6 ⟨rfl, i, hi, hc, hk6⟩
      have hie : i = el := by
        obtain ⟨_, _, _, hle, _⟩ := hc
        rw [Hel.out] at hle
        omega
      subst hie
      have HC := hide hc
      have HRW6 := hide (hrw.out.kept hk6 (fun k hk => hk))
      clear hc hk6 hi hj hrw
      go_wp2_with fail
      refine (HC.out.open HT1.out Hk5.out).mono ?_
      rintro e w7 ⟨p7, rfl, hj7, hk7⟩
      rw [List.take_of_length_le (by rw [Hel.out]; exact Nat.le_refl _)] at hj7
      have HJ7 := hide hj7
      have HRW7 := hide (HRW6.out.kept hk7 (fun k hk => hk))
      clear hj7 hk7 HC HRW6
      go_wp2_with fail
      refine (HJ7.out.records).mono ?_
      rintro e w8 ⟨v8, rfl, hrow8, hb8⟩
      obtain ⟨VA8, vc8, rfl, _, _, hs8⟩ := hrow8.srow
      have HJ8 := hide (HJ7.out.below hb8).1
      have HRW8 := hide (HRW7.out.kept (HJ7.out.below hb8).2 (fun k hk => hk))
      obtain ⟨VA9, vc9, e9, _, _, hs9⟩ := HRW8.out.srow
      obtain ⟨rfl, rfl⟩ : VA = VA9 ∧ vc = vc9 := by simp only [Value.slice.injEq] at e9; exact ⟨e9.1, e9.2.2⟩
      have HS := hide (Same_any w8 E i VA8 VA vc8 vc Hel.out (by have := Hel20.out; omega) hs8 hs9)
      rw [Hel.out]
      clear hrow8 hb8 hs8 hs9 e9 HJ7 HRW7
      go_wp2_with fail
      refine HS.out.mono ?_
      rintro e w9 ⟨rfl, hb9⟩
      have HJ9 := hide (HJ8.out.below hb9).1
      have HRW9 := hide (HRW8.out.kept (HJ8.out.below hb9).2 (fun k hk => hk))
      clear hb9 HJ8 HRW8 HS
      go_wp2_with fail
      refine (HJ9.out.next).mono ?_
      rintro e w10 ⟨rfl, hb10⟩
      have HJ10 := hide (HJ9.out.below hb10).1
      have HRW10 := hide (HRW9.out.kept (HJ9.out.below hb10).2 (fun k hk => hk))
      have hnx1 : ((h1'.f + E.length : Nat) : Int) = (nx : Int) := by rw [hf1.out, ← Hf0.out, Hnx.out]
      rw [show (⟨h1'.t + 1, h1'.f, h1'.g + 1, h1'.l⟩ : Hd).f + E.length = nx by show h1'.f + E.length = nx; omega]
      clear hb10 HJ9 HRW9 hnx1
      go_wp2
      go_roundw
      case rel => exact ⟨k + 1, p7, _, Hlt.out, by go_num, HJ10.out, hf1.out, HRW10.out⟩
      case measure => have := Hlt.out; simp [intOf]; omega
    · have HB := hide (HB1.out.trans (hj.out.bel.mono HB1.out.size))
      have hkm : ¬ ((k : Int) < (m : Int)) := by omega
      clear hj hrw hge hk
      go_wp2
      go_ret
      exact ⟨rfl, HB.out⟩

set_option maxRecDepth 100000 in
theorem Again_any (ring : Nat) (A : Option Addr) (n c : Nat) (l : List Oq) (times keep : Nat) (w : World) (ht : Tab w) (hring : ring < 256) (hl : l.length = n) (hp : Ops w w.heap.size A l) (hf : OFits l) (htimes : times < 256) (hkeep : keep < 18446744073709551616) :
    Calls Tryd.prog 7 #[.int .u8 (ring : Int), .slice A n c, .int .u8 (times : Int), .int .u64 (keep : Int)] w fun e w' => e = .returned (.bool true) ∧ Below w.heap.size w w' := by
  by_cases hfew : Few l
  · exact Again_good ring A n c l times keep w ht hring htimes hkeep hl hp hf hfew
  · have HT := hide ht
    have Hl := hide hl
    have Hp := hide hp
    have Hf := hide hf
    have Hfew := hide hfew
    clear ht hl hp hf hfew
    go_enter Tryd.func7, Tryd.ntmps7
    go_wp2_with fail
    refine (awake_any w HT.out).mono ?_
    rintro e w1 ⟨rfl, hb1⟩
    have HB1 := hide hb1
    clear hb1
    go_wp2_with fail
    refine (few_any A n c l w1 Hl.out (((Hp.out.below HB1.out)).more1 HB1.out.size) Hf.out).mono ?_
    rintro e w' ⟨⟨b, rfl, hb⟩, rfl⟩
    obtain rfl : b = false := by cases b; rfl; exact absurd (hb.1 rfl) Hfew.out
    clear hb
    go_wp2_with fail
    refine (awake_any w1 (HT.out.below HB1.out HT.out.pos)).mono ?_
    rintro e w2 ⟨rfl, hb2⟩
    have HB2 := hide (HB1.out.trans (hb2.mono HB1.out.size))
    clear hb2
    go_wp2
    go_ret
    exact ⟨rfl, HB2.out⟩

end Go.Proofs.YtmfgcinikopgnaaDoor.Jn

namespace Go.Proofs.YtmfgcinikopgnaaDoor.Jn
open Go.RowKit
open Pk Sm Fa Rc Dk

theorem JS.appendX {w0 w : World} {R : Nat → Prop} {p q n : Nat} {h : Hd} {E : List Ent} {D T : Nat} (j : JS w0 R p q n h E D T w) (ht : Tab w0) (hT : T + 1 ≤ 1000) {s k b : Int} {d : ByteArray} {m : Int} (hd : d.size ≤ 9223372036854775807) :
    Calls Tryd.prog 13 #[.pointer (some ⟨p, 0, none⟩), rec5 s k b d m] w fun e w' => Any2 e ∧ (∃ E', JS w0 R p q n h E' D (T + 1) w') ∧ RK R w w' := by
  by_cases hc : E.length < n ∧ EOk ⟨h.g, h.f + E.length, k, b, d, m⟩
  · refine (j.append ht hT hc.1 hc.2).mono ?_
    rintro e w' ⟨rfl, hj, hk⟩
    exact ⟨⟨_, rfl⟩, ⟨_, hj⟩, hk⟩
  · have hno : E.length = n ∨ ¬ EOk ⟨h.g, h.f + E.length, k, b, d, m⟩ := by
      have := j.few.1
      by_cases hE : E.length = n
      · exact Or.inl hE
      · exact Or.inr fun h2 => hc ⟨by omega, h2⟩
    refine (j.refused hd hno).mono ?_
    rintro e w' ⟨pp, rfl, _, hb⟩
    exact ⟨⟨_, rfl⟩, ⟨E, ((j.below hb).1).more (Nat.le_succ _) hT⟩, (j.below hb).2⟩

set_option maxRecDepth 100000 in
set_option maxHeartbeats 1000000 in
theorem Gaps_good (ring : Nat) (A : Option Addr) (n c : Nat) (l : List Oq) (A2 : Option Addr) (n2 c2 : Nat) (l2 : List Rq) (keep : Nat) (w : World) (ht : Tab w) (hring : ring < 256) (hl : l.length = n) (hp : Ops w w.heap.size A l) (hf : OFits l)
    (hl2 : l2.length = n2) (hp2 : Recs w w.heap.size A2 l2) (hf2 : RFits l2) (hkeep : keep < 18446744073709551616) (hfew : Few l) (hn2 : n2 ≤ 20) :
    Calls Tryd.prog 3 #[.int .u8 (ring : Int), .slice A n c, .slice A2 n2 c2, .int .u64 (keep : Int)] w fun e w' => e = .returned (.bool true) ∧ Below w.heap.size w w' := by
  obtain ⟨r, hr⟩ : ∃ r, ring % 16 = r := ⟨_, rfl⟩
  have hrem := rem16 ring
  rw [hr] at hrem
  obtain ⟨nn, hnn⟩ : ∃ nn, 1 + r = nn := ⟨_, rfl⟩
  have h1 : (1 : Int) + (r : Int) = (nn : Int) := by omega
  have hringi : (ring : Int) < 256 := by omega
  have hr16 : (r : Int) < 16 := by omega
  have hnn16 : (nn : Int) ≤ 16 := by omega
  have hn2i : ¬ ((20 : Int) < (n2 : Int)) := by omega
  have HT := hide ht
  have HR := hide (show 1 + ring % 16 = nn by omega)
  have Hring := hide hring
  have Hl := hide hl
  have Hp := hide hp
  have Hf := hide hf
  have Hl2 := hide hl2
  have Hp2 := hide hp2
  have Hf2 := hide hf2
  have Hfew := hide hfew
  have Hkeep := hide hkeep
  clear ht hl hp hf hl2 hp2 hf2 hfew hkeep hr hnn hring
  go_enter Tryd.func3, Tryd.ntmps3
  go_wp2_with fail
  refine (awake_any w HT.out).mono ?_
  rintro e w1 ⟨rfl, hb1⟩
  have HB1 := hide hb1
  clear hb1
  go_wp2_with fail
  refine (few_any A n c l w1 Hl.out ((Hp.out.below HB1.out).more1 HB1.out.size) Hf.out).mono ?_
  rintro e w' ⟨⟨b, rfl, hb⟩, rfl⟩
  obtain rfl : b = true := hb.2 Hfew.out
  clear hb
  go_wp2_with fail
  refine (played_any ring nn A n c l w1 Hring.out HR.out Hl.out (by rw [← Hl.out]; exact Hfew.out.1) ((Hp.out.below HB1.out).more1 HB1.out.size) Hf.out (HT.out.below HB1.out HT.out.pos)).mono ?_
  rintro e w2 ⟨p, q, rfl, h, E, D, hj⟩
  have HJ2 := hide hj
  have HT1 := hide (HT.out.below HB1.out HT.out.pos)
  clear hj
  go_wp2_with fail
  refine (HJ2.out.flush).mono ?_
  rintro e w3 ⟨rfl, hj3, _⟩
  have HJ3 := hide hj3
  clear hj3 HJ2
  go_wp2_with fail
  refine (HJ3.out.records).mono ?_
  rintro e w4 ⟨v, rfl, hrow, hb4⟩
  obtain ⟨VA, vc, rfl, _, _, _⟩ := hrow.srow
  have HJ4 := hide (HJ3.out.below hb4).1
  obtain ⟨el, hel⟩ : ∃ el, E.length = el := ⟨_, rfl⟩
  have hel20 : el ≤ 20 := by have := HJ4.out.few.1; have := HJ4.out.lim.n16; omega
  have HRP := hide ((Hp2.out.below HB1.out).more1 HB1.out.size)
  rw [hel] at HJ4 ⊢
  clear hrow hb4 HJ3 hel
  go_wp2
  go_loopw [44] (fun j wr => ∃ (k : Nat) (E' : List Ent), k ≤ n2 ∧ j = .int .i64 k ∧ Hid (JS w1 (fun _ => False) p q nn h E' el (100 + k) wr)) (fun j _ => n2 - (intOf j).toNat)
  case atStart => exact ⟨0, E, Nat.zero_le _, rfl, HJ4.out⟩
  case round =>
    clear HJ4
    obtain ⟨k, E', hk, rfl, hj⟩ := hrel
    rcases Nat.lt_or_ge k n2 with hlt | hge
    · have Hlt := hide hlt
      have hki : (k : Int) < (n2 : Int) := by omega
      have HK := hide (show 100 + k + 1 ≤ 1000 by omega)
      obtain ⟨o, hok⟩ : ∃ o, l2[k]? = some o := ⟨_, List.getElem?_eq_getElem (by rw [Hl2.out]; exact hlt)⟩
      obtain ⟨b, off, rfl, hat⟩ := (HRP.out.below hj.out.bel).at_ hok
      have hfit := Hf2.out o (List.mem_of_getElem? hok)
      obtain ⟨os, okk, ob, od, om⟩ := o
      obtain ⟨e0, e1, e2, e3, e4⟩ := hat
      simp only at e0 e1 e2 e3 e4
      have hodm : od.size ≤ maxLen := hfit.2.2.2.1
      have Hd := hide (show od.size ≤ 9223372036854775807 from hodm)
      clear hok hfit hlt
      by_cases hsz : od.size < 300
      · have hszi : (od.size : Int) < 300 := by omega
        clear hsz
        go_wp2_with fail
        refine (hj.out.appendX HT1.out HK.out Hd.out).mono ?_
        rintro e w5 ⟨⟨v, rfl⟩, ⟨E2, hj5⟩, _⟩
        have HJ5 := hide hj5
        clear hj5 e0 e1 e2 e3 e4 hj
        go_wp2
        go_roundw
        case rel => exact ⟨k + 1, E2, Hlt.out, by go_num, HJ5.out⟩
        case measure => have := Hlt.out; simp [intOf]; omega
      · have hszi : ¬ ((od.size : Int) < 300) := by omega
        have HJ5 := hide (hj.out.more (T' := 100 + (k + 1)) (by omega) (by have := HK.out; omega))
        clear hsz e0 e1 e2 e4 hj
        go_wp2
        go_roundw
        case rel => exact ⟨k + 1, E', Hlt.out, by go_num, HJ5.out⟩
        case measure => have := Hlt.out; simp [intOf]; omega
    · have hkm : ¬ ((k : Int) < (n2 : Int)) := by omega
      have HK := hide (show 100 + k + 1 ≤ 1000 by omega)
      clear hge hk
      go_wp2_with fail
      refine (hj.out.records).mono ?_
      rintro e w6 ⟨v6, rfl, hrow, hb6⟩
      have HJ6 := hide (hj.out.held hb6 hrow (Nat.le_refl _))
      obtain ⟨base, hbase⟩ : ∃ b, wr.heap.size = b := ⟨_, rfl⟩
      rw [hbase] at hrow
      obtain ⟨VA6, vc6, rfl, hv6, _, _⟩ := hrow.srow
      have HRW := hide hrow
      obtain ⟨al, hal⟩ : ∃ al, E'.length = al := ⟨_, rfl⟩
      rw [hal] at HJ6 HRW hv6 ⊢
      have Hal := hide hal
      clear hrow hb6 hj hbase hal
      go_wp2_with fail
      refine (HJ6.out.crash keep Hkeep.out).mono ?_
      rintro e w7 ⟨rfl, i, hi, hc, hk7⟩
      have hia : i ≤ al := by
        obtain ⟨_, _, _, hle, _⟩ := hc
        rw [Hal.out] at hle
        exact hle
      have HC := hide hc
      have HRW7 := hide (HRW.out.kept hk7 (fun k hk => hk))
      clear hc hk7 HJ6 HRW
      go_wp2_with fail
      refine (HC.out.open HT1.out HK.out).mono ?_
      rintro e w8 ⟨p8, rfl, hj8, hk8⟩
      have HJ8 := hide hj8
      have HRW8 := hide (HRW7.out.kept hk8 (fun k hk => hk))
      clear hj8 hk8 HC HRW7
      go_wp2_with fail
      refine (HJ8.out.records).mono ?_
      rintro e w9 ⟨v9, rfl, hrow9, hb9⟩
      obtain ⟨VA9, vc9, rfl, _, _, hs9⟩ := hrow9.srow
      have HRW9 := hide (HRW8.out.kept (HJ8.out.below hb9).2 (fun k hk => hk))
      have HJ9 := hide (HJ8.out.below hb9).1
      obtain ⟨VAX, vcX, eX, _, _, hsX⟩ := HRW9.out.srow
      obtain ⟨rfl, rfl⟩ : VA6 = VAX ∧ vc6 = vcX := by simp only [Value.slice.injEq] at eX; exact ⟨eX.1, eX.2.2⟩
      have hlen : (E'.take i).length = i := by rw [List.length_take, Hal.out]; omega
      have HS := hide (Same_any w9 (E'.take i) i VA9 VA6 vc9 vc6 hlen (by have := HJ9.out.few.1; have := HJ9.out.lim.n16; omega) hs9 (hsX.take i))
      rw [hlen]
      have hii : (i : Int) ≤ (vc6 : Int) := by omega
      have hi1 : (el : Int) ≤ (i : Int) := by omega
      have hi2 : (i : Int) ≤ (al : Int) := by omega
      clear hrow9 hb9 hs9 hsX eX hlen HJ8 HRW8 HRW9
      go_wp2_with fail
      refine HS.out.mono ?_
      rintro e w10 ⟨rfl, hb10⟩
      have HB10 := hide (HB1.out.trans (((HJ9.out.below hb10).1).bel.mono HB1.out.size))
      clear hb10 HS HJ9
      go_wp2
      go_ret
      exact ⟨rfl, HB10.out⟩

set_option maxRecDepth 100000 in
theorem Gaps_any (ring : Nat) (A : Option Addr) (n c : Nat) (l : List Oq) (A2 : Option Addr) (n2 c2 : Nat) (l2 : List Rq) (keep : Nat) (w : World) (ht : Tab w) (hring : ring < 256) (hl : l.length = n) (hp : Ops w w.heap.size A l) (hf : OFits l)
    (hl2 : l2.length = n2) (hp2 : Recs w w.heap.size A2 l2) (hf2 : RFits l2) (hkeep : keep < 18446744073709551616) :
    Calls Tryd.prog 3 #[.int .u8 (ring : Int), .slice A n c, .slice A2 n2 c2, .int .u64 (keep : Int)] w fun e w' => e = .returned (.bool true) ∧ Below w.heap.size w w' := by
  by_cases hall : Few l ∧ n2 ≤ 20
  · exact Gaps_good ring A n c l A2 n2 c2 l2 keep w ht hring hl hp hf hl2 hp2 hf2 hkeep hall.1 hall.2
  · have HT := hide ht
    have Hl := hide hl
    have Hp := hide hp
    have Hf := hide hf
    have Hall := hide hall
    clear ht hl hp hf hall hl2 hp2 hf2
    go_enter Tryd.func3, Tryd.ntmps3
    go_wp2_with fail
    refine (awake_any w HT.out).mono ?_
    rintro e w1 ⟨rfl, hb1⟩
    have HB1 := hide hb1
    clear hb1
    go_wp2_with fail
    refine (few_any A n c l w1 Hl.out ((Hp.out.below HB1.out).more1 HB1.out.size) Hf.out).mono ?_
    rintro e w' ⟨⟨b, rfl, hb⟩, rfl⟩
    cases b with
    | false =>
      clear hb
      go_wp2_with fail
      refine (awake_any w1 (HT.out.below HB1.out HT.out.pos)).mono ?_
      rintro e w2 ⟨rfl, hb2⟩
      have HB2 := hide (HB1.out.trans (hb2.mono HB1.out.size))
      clear hb2
      go_wp2
      go_ret
      exact ⟨rfl, HB2.out⟩
    | true =>
      have hfew : Few l := hb.1 rfl
      have hn2 : (20 : Int) < (n2 : Int) := by
        by_cases h : n2 ≤ 20
        · exact absurd ⟨hfew, h⟩ Hall.out
        · omega
      clear hb hfew
      go_wp2_with fail
      refine (awake_any w1 (HT.out.below HB1.out HT.out.pos)).mono ?_
      rintro e w2 ⟨rfl, hb2⟩
      have HB2 := hide (HB1.out.trans (hb2.mono HB1.out.size))
      clear hb2
      go_wp2
      go_ret
      exact ⟨rfl, HB2.out⟩

end Go.Proofs.YtmfgcinikopgnaaDoor.Jn
