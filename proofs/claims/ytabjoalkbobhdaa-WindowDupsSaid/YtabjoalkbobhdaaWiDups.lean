/-
  The walk of isobarlaw09.WindowDups: it returns true, whatever comes; nothing that was there is changed.
-/
import Derived.Test.YtabjoalkbobhdaaWiOp
namespace Go.Proofs.Ytabjoalkbobhdaa.Wi
open Go.RowKit
open Pk Dk Wn

def sq (m : Nat) : List Int := (List.range m).map fun j : Nat => ((j : Int) + 1) * ((j : Int) + 1)
theorem sq_len (m : Nat) : (sq m).length = m := by simp [sq]
theorem sq_succ (m : Nat) : sq (m + 1) = sq m ++ [((m : Int) + 1) * ((m : Int) + 1)] := by simp [sq, List.range_succ]
theorem sq_get {m j : Nat} (h : j < m) : (sq m)[j]? = some (((j : Int) + 1) * ((j : Int) + 1)) := by simp [sq, h]
theorem wrap_sq {t : Nat} (h : t ≤ 400) : IntKind.i64.wrap ((t : Int) * (t : Int)) = (t : Int) * (t : Int) := by
  have h1 : t * t ≤ 400 * 400 := Nat.mul_le_mul h h
  have h2 : (t : Int) * (t : Int) = ((t * t : Nat) : Int) := by simp
  rw [h2]
  exact wrap_id (by omega) (by omega)

set_option maxRecDepth 100000 in
set_option maxHeartbeats 8000000 in
theorem Dups_any (A : Option Addr) (n cp : Nat) (l : List UInt8) (w : World) (hl : l.length = n) (hs : Src w A (cels l)) :
    Calls Try.prog 6 #[.slice A n cp] w fun e w' => e = .returned (.bool true) ∧ Below w.heap.size w w' := by
  have Hl := hide hl
  have Hs := hide hs
  clear hl hs
  by_cases hn : 300 < n
  · have hni : (300 : Int) < (n : Int) := by omega
    go_enter Try.func6, Try.ntmps6
    go_wp2_with fail
    refine (awake_any w).mono ?_
    rintro e w1 ⟨rfl, hb1⟩
    have HB1 := hide hb1
    clear hb1
    go_wp2_with fail
    refine (awake_any w1).mono ?_
    rintro e w2 ⟨rfl, hb2⟩
    have HB2 := hide (HB1.out.trans (hb2.mono HB1.out.size))
    clear hb2
    go_wp2
    go_ret
    exact ⟨rfl, HB2.out⟩
  have hni : ¬ (300 : Int) < (n : Int) := by omega
  have Hn := hide hn
  clear hn
  go_enter Try.func6, Try.ntmps6
  go_wp2_with fail
  refine (awake_any w).mono ?_
  rintro e w1 ⟨rfl, hb1⟩
  have HB1 := hide hb1
  have Hs1 := hide (Hs.out.below hb1)
  clear hb1
  go_wp2_with (refine wpList_box_told rfl 30 (.tmp 17) rfl _ rfl ?_)
  intro w2 Hw2
  have HS := hide ((St.start w1).add (box_rcv Hw2.out).2 (T := rcvT w1.heap.size []) (box_rcv Hw2.out).1 (fun k hk => by rw [hk]; exact Nat.le_refl _))
  clear Hw2
  have hni : (n : Int) ≤ 300 := by omega
  go_wp2_with fail
  go_loopw [4, 21] (fun a j wr => ∃ k m t : Nat, t = m + 1 ∧ m ≤ k ∧ k ≤ n ∧ a = .int .i64 (t : Int) ∧ j = .int .i64 (k : Int) ∧ Hid (St w1 [rcvT w1.heap.size (sq m)] wr)) (fun _ j _ => n - (intOf j).toNat)
  case atStart => exact ⟨0, 0, 1, rfl, Nat.le_refl _, Nat.zero_le _, rfl, rfl, HS.out⟩
  case round =>
    clear HS
    obtain ⟨k, m, t, htm, hmk, hkn, rfl, rfl, hst⟩ := hrel
    rcases Nat.lt_or_ge k n with hlt | hge
    · have Hlt := hide hlt
      have Hmk := hide hmk
      have Htm := hide htm
      have hki : (k : Int) < (n : Int) := by omega
      obtain ⟨b, hb⟩ : ∃ b, l[k]? = some b := ⟨_, List.getElem?_eq_getElem (by rw [Hl.out]; exact hlt)⟩
      obtain ⟨g, o, rfl, _, hc⟩ := Src.byte (Hs1.out.below hst.out.bel) hb
      have hbu := b.toNat_lt
      obtain ⟨u, hu⟩ : ∃ u, b.toNat = u := ⟨_, rfl⟩
      rw [hu] at hc hbu
      have hui : (u : Int) ≤ 255 := by omega
      obtain ⟨d, hd⟩ : ∃ d, u % 20 = d := ⟨_, rfl⟩
      have hd20 : d < 20 := by omega
      have e1 : Int.tmod (u : Int) 20 = (d : Int) := by rw [Int.tmod_eq_emod_of_nonneg (by omega)]; omega
      obtain ⟨q, hq⟩ : ∃ q, q = d + 1 := ⟨_, rfl⟩
      have e2 : 1 + (d : Int) = (q : Int) := by omega
      have e3 : (t : Int) - 1 = (m : Int) := by omega
      have e4 : IntKind.i64.wrap (m : Int) = (m : Int) := wrap_id (by omega) (by omega)
      have e5 : IntKind.i64.wrap (q : Int) = (q : Int) := wrap_id (by omega) (by omega)
      have e6 : IntKind.i64.wrap ((q : Int) * (q : Int)) = (q : Int) * (q : Int) := wrap_sq (by omega)
      have hti : (t : Int) ≤ 301 := by omega
      have hm3 := hide (show m < 100000 by omega)
      have Hst := hide hst.out
      clear hb hbu hu hd hd20 hst hlt hmk
      by_cases he : q = t
      · subst he
        obtain ⟨G, hp, _, hset⟩ := St.opened Hst.out (i := 0) rfl
        have HC := hide (Take_next hp (by rw [sq_len]; exact hm3.out) ((q : Int) * (q : Int)))
        have HT := hide hset
        have e7 : ((sq m).length : Int) + 1 = (q : Int) := by rw [sq_len]; have := Htm.out; omega
        rw [e7] at HC
        clear hp hset e7 hq htm
        go_wp2_with fail
        refine HC.out.mono ?_
        rintro e w3 ⟨rfl, hA⟩
        have e8 : (m : Int) + 1 = (q : Int) := by have := Htm.out; omega
        have HS3 := hide (HT.out w3 (rcvT w1.heap.size (sq (m + 1))) (by rw [sq_succ, e8]; exact hA))
        clear e8
        clear hA HT HC hc
        go_wp2
        go_roundw
        case rel => exact ⟨k + 1, m + 1, q + 1, by have := Htm.out; omega, by have := Hmk.out; omega, Hlt.out, by go_num, by go_num, HS3.out⟩
        case measure => have := Hlt.out; simp [intOf]; omega
      · have hqt : ((q : Int) == (t : Int)) = false := by simp; omega
        obtain ⟨G, hp, _, hset⟩ := St.opened Hst.out (i := 0) rfl
        have HC := hide (Take_other hp (q : Int) ((q : Int) * (q : Int)) (by rw [sq_len]; omega))
        rw [sq_len] at HC
        clear hp hset hq htm he
        go_wp2_with fail
        refine HC.out.mono ?_
        rintro e w3 ⟨rfl, hb3⟩
        have HS3 := hide (Hst.out.below hb3)
        clear hb3 HC hc
        go_wp2
        go_roundw
        case rel => exact ⟨k + 1, m, t, Htm.out, by have := Hmk.out; omega, Hlt.out, rfl, by go_num, HS3.out⟩
        case measure => have := Hlt.out; simp [intOf]; omega
    · obtain rfl : k = n := by omega
      have Htm := hide htm
      have Hmk := hide hmk
      have Hst := hide hst.out
      have hti : (t : Int) ≤ 301 := by omega
      have e3 : (t : Int) - 1 = (m : Int) := by omega
      have hmi : (m : Int) ≤ 300 := by omega
      have e4 : IntKind.i64.wrap (m : Int) = (m : Int) := wrap_id (by omega) (by omega)
      obtain ⟨G, hp, _, _⟩ := St.opened Hst.out (i := 0) rfl
      have HC := hide (List_any hp)
      clear hp hge htm hmk hkn hst
      go_wp2_with fail
      refine HC.out.mono ?_
      rintro e w3 ⟨v, rfl, hv, hb3⟩
      have HS3 := hide (Hst.out.below hb3)
      obtain ⟨B, c, rfl, _, _, hsv⟩ := hv.form
      rw [sq_len]
      have HV := hide hsv
      clear hv hb3 hsv HC
      go_wp2_with fail
      go_loopw [51] (fun j wr => ∃ i : Nat, i ≤ m ∧ j = .int .i64 (i : Int) ∧ Hid (Below w3.heap.size w3 wr)) (fun j _ => m - (intOf j).toNat)
      case atStart => exact ⟨0, Nat.zero_le _, rfl, Below.refl _ _⟩
      case round =>
        obtain ⟨i, him, rfl, hbw⟩ := hrel
        rcases Nat.lt_or_ge i m with hlt | hge
        · have Hlt := hide hlt
          have hii : (i : Int) < (m : Int) := by omega
          obtain ⟨g, o, rfl, _, hc⟩ := Src.el (HV.out.below hbw.out) (sq_get hlt)
          obtain ⟨r, hr⟩ : ∃ r, r = i + 1 := ⟨_, rfl⟩
          have e5 : (i : Int) + 1 = (r : Int) := by omega
          have e6 : IntKind.i64.wrap (r : Int) = (r : Int) := wrap_id (by omega) (by omega)
          have e7 : IntKind.i64.wrap ((r : Int) * (r : Int)) = (r : Int) * (r : Int) := wrap_sq (by omega)
          rw [e5] at hc
          clear hr hlt him
          go_wp2
          go_roundw
          case rel => exact ⟨i + 1, Hlt.out, by go_num, hbw⟩
          case measure => have := Hlt.out; simp [intOf]; omega
        · obtain rfl : i = m := by omega
          have HBf := hide (HB1.out.trans ((HS3.out.bel.trans (hbw.out.mono HS3.out.bel.size)).mono HB1.out.size))
          clear hge him hbw
          go_wp2
          go_ret
          exact ⟨rfl, HBf.out⟩

end Go.Proofs.Ytabjoalkbobhdaa.Wi
