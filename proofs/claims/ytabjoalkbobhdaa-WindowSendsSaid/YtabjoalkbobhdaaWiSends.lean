/-
  The walk of isobarlaw09.WindowSends: it returns true, at every number of elements and every step; nothing that was there is changed.
-/
import Derived.Test.YtabjoalkbobhdaaWiOp
namespace Go.Proofs.Ytabjoalkbobhdaa.Wi
open Go.RowKit
open Pk Dk Wn

def sev (m : Nat) : List Int := (List.range m).map fun j : Nat => (j : Int) * 7
theorem sev_len (m : Nat) : (sev m).length = m := by simp [sev]
theorem sev_succ (m : Nat) : sev (m + 1) = sev m ++ [(m : Int) * 7] := by simp [sev, List.range_succ]
theorem sev_get {m j : Nat} (h : j < m) : (sev m)[j]? = some ((j : Int) * 7) := by simp [sev, h]

set_option maxRecDepth 100000 in
set_option maxHeartbeats 8000000 in
theorem Sends_any (M S : Nat) (w : World) (hM : M < 256) (hS : S < 256) :
    Calls Try.prog 5 #[.int .u8 (M : Int), .int .u8 (S : Int)] w fun e w' => e = .returned (.bool true) ∧ Below w.heap.size w w' := by
  obtain ⟨n, hn⟩ : ∃ n, M % 60 = n := ⟨_, rfl⟩
  obtain ⟨d, hd⟩ : ∃ d, S % 4 = d := ⟨_, rfl⟩
  obtain ⟨k, hk⟩ : ∃ k, k = d + 1 := ⟨_, rfl⟩
  have Hn60 := hide (show n < 60 by omega)
  have Hk1 := hide (show 1 ≤ k by omega)
  have Hk4 := hide (show k ≤ 4 by omega)
  have e1 : Int.tmod (M : Int) 60 = (n : Int) := by rw [Int.tmod_eq_emod_of_nonneg (by omega)]; omega
  have e2 : Int.tmod (S : Int) 4 = (d : Int) := by rw [Int.tmod_eq_emod_of_nonneg (by omega)]; omega
  have e3 : 1 + (d : Int) = (k : Int) := by omega
  have e4 : IntKind.i64.wrap (k : Int) = (k : Int) := wrap_id (by omega) (by omega)
  have e5 : IntKind.i64.wrap (n : Int) = (n : Int) := wrap_id (by omega) (by omega)
  have hMi : (M : Int) ≤ 255 := by omega
  have hSi : (S : Int) ≤ 255 := by omega
  have hdi : (d : Int) ≤ 3 := by omega
  clear hn hd hk hM hS
  go_enter Try.func5, Try.ntmps5
  go_wp2_with fail
  refine (awake_any w).mono ?_
  rintro e w1 ⟨rfl, hb1⟩
  have HB1 := hide hb1
  clear hb1
  go_wp2_with (refine wpList_box_told rfl 27 (.tmp 24) rfl _ rfl ?_)
  intro w2 Hw2
  have HS := hide ((St.start w1).add (box_snd Hw2.out).2 (T := sndT w1.heap.size [] 0 0) (box_snd Hw2.out).1 (fun k hk => by rw [hk]; exact Nat.le_refl _))
  clear Hw2 e1 e2 e3 hMi hSi hdi
  have hni : (n : Int) ≤ 59 := by have := Hn60.out; omega
  have hki : (k : Int) ≤ 4 := by have := Hk4.out; omega
  go_wp2_with fail
  go_loopw [27] (fun j wr => ∃ i : Nat, i ≤ n ∧ j = .int .i64 (i : Int) ∧ Hid (St w1 [sndT w1.heap.size (sev i) 0 0] wr)) (fun j _ => n - (intOf j).toNat)
  case atStart => exact ⟨0, Nat.zero_le _, rfl, HS.out⟩
  case round =>
    clear HS
    obtain ⟨i, hin, rfl, hst⟩ := hrel
    rcases Nat.lt_or_ge i n with hlt | hge
    · have Hlt := hide hlt
      have hii : (i : Int) < (n : Int) := by omega
      have e6 : IntKind.i64.wrap ((i : Int) * 7) = (i : Int) * 7 := wrap_id (by omega) (by omega)
      obtain ⟨G, hp, _, hset⟩ := St.opened hst.out (i := 0) rfl
      have HC := hide (Push_any hp (by rw [sev_len]; omega) ((i : Int) * 7))
      have HT := hide hset
      clear hp hset hlt hin hst
      go_wp2_with fail
      refine HC.out.mono ?_
      rintro e w3 ⟨rfl, hA⟩
      have HS3 := hide (HT.out w3 (sndT w1.heap.size (sev (i + 1)) 0 0) (by rw [sev_succ]; exact hA))
      clear hA HT HC
      go_wp2
      go_roundw
      case rel => exact ⟨i + 1, Hlt.out, by go_num, HS3.out⟩
      case measure => have := Hlt.out; simp [intOf]; omega
    · obtain rfl : i = n := by omega
      have HS := hide hst.out
      have e6 : IntKind.i64.wrap ((i : Int) + 1) = (i : Int) + 1 := wrap_id (by omega) (by omega)
      clear hge hin hst
      go_wp2_with fail
      go_loopw [9, 37] (fun t j wr => ∃ x nx a : Nat, x ≤ i + 1 ∧ (x ≤ a ∨ i ≤ a) ∧ t = .int .i64 (nx : Int) ∧ j = .int .i64 (x : Int) ∧ Hid (St w1 [sndT w1.heap.size (sev i) nx a] wr)) (fun _ j _ => i + 1 - (intOf j).toNat)
      case atStart => exact ⟨0, 0, 0, Nat.zero_le _, Or.inl (Nat.le_refl _), rfl, rfl, HS.out⟩
      case round =>
        clear HS
        obtain ⟨x, nx, a, hxi, hxa, rfl, rfl, hst⟩ := hrel
        obtain ⟨G, hp, _, hset⟩ := St.opened hst.out (i := 0) rfl
        have hp' : Snd w1.heap.size (sev i) nx a wr G := hp
        have hanx := hp'.an
        have hnl := hp'.nl
        have hwin := hp'.win
        rw [sev_len] at hnl
        rcases Nat.lt_or_ge x (i + 1) with hlt | hge
        · have Hlt := hide hlt
          have Hxa := hide hxa
          have hxii : (x : Int) < (i : Int) + 1 := by omega
          have HC := hide (Send_any hp')
          have HT := hide hset
          obtain ⟨q, hq⟩ : ∃ q, room a i = q := ⟨_, rfl⟩
          have hnq : nx ≤ q := by rw [← hq]; unfold room; split <;> omega
          have hqi : q ≤ i := by rw [← hq]; unfold room; split <;> omega
          have Hq := hide (show q = i ∨ q = a + 4 by rw [← hq]; unfold room; split <;> omega)
          have Hq4 := hide (show q ≤ a + 4 by rw [← hq]; unfold room; split <;> omega)
          rw [sev_len, hq] at HC
          have Hnq := hide hnq
          have Hqi := hide hqi
          have Hanx := hide hanx
          have hqii : (q : Int) ≤ (i : Int) := by omega
          clear hp hset hq hlt hxa hst hxi
          go_wp2_with fail
          refine HC.out.mono ?_
          rintro e w3 ⟨v, rfl, hv, hA⟩
          have HS3 := hide (HT.out w3 (sndT w1.heap.size (sev i) q a) hA)
          obtain ⟨B, c, rfl, _, _, hsv⟩ := hv.form
          rw [upTo_len (by rw [sev_len]; exact Hqi.out)]
          have HV := hide hsv
          obtain ⟨m, hm⟩ : ∃ m, q - nx = m := ⟨_, rfl⟩
          rw [hm]
          have Hm := hide hm
          have hmi : (m : Int) ≤ 59 := by have := Hqi.out; have := Hn60.out; omega
          clear hv hA hsv HC HT hm hnq hqi hanx hnl hwin
          go_wp2_with fail
          go_loopw [9, 43] (fun t j wr => ∃ y z : Nat, z = nx + y ∧ y ≤ m ∧ t = .int .i64 (z : Int) ∧ j = .int .i64 (y : Int) ∧ Hid (Below w3.heap.size w3 wr)) (fun _ j _ => m - (intOf j).toNat)
          case atStart => exact ⟨0, nx, rfl, Nat.zero_le _, rfl, rfl, Below.refl _ _⟩
          case round =>
            obtain ⟨y, z, hz, hym, rfl, rfl, hbw⟩ := hrel
            rcases Nat.lt_or_ge y m with hlt | hge
            · have Hlt := hide hlt
              have Hz := hide hz
              have hyi : (y : Int) < (m : Int) := by omega
              have hget : (upTo (sev i) nx q)[y]? = some (((z + 1 : Nat) : Int), (z : Int) * 7) := by
                have := Hm.out
                have := Hqi.out
                rw [upTo_get (by omega), ← hz, sev_get (by omega)]
                rfl
              obtain ⟨g, o, rfl, _, c0, c1⟩ := Src.pkt (HV.out.below hbw.out) hget
              have hz60 : (z : Int) ≤ 60 := by have := Hm.out; have := Hqi.out; have := Hn60.out; omega
              have e7 : IntKind.i64.wrap ((z : Int) * 7) = (z : Int) * 7 := wrap_id (by omega) (by omega)
              have e8 : ((z + 1 : Nat) : Int) = (z : Int) + 1 := by omega
              rw [e8] at c0
              clear hget hlt hz hym e8
              go_wp2
              go_roundw
              case rel => exact ⟨y + 1, z + 1, by have := Hz.out; omega, Hlt.out, by go_num, by go_num, hbw⟩
              case measure => have := Hlt.out; simp [intOf]; omega
            · obtain rfl : y = m := by omega
              obtain rfl : z = q := by have := Hm.out; have := Hnq.out; omega
              have HS4 := hide (HS3.out.below hbw.out)
              clear hge hym hz hbw HS3 HV Hm Hnq
              obtain ⟨G, hp, _, hset⟩ := St.opened HS4.out (i := 0) rfl
              have HC := hide (Counts_any (show Snd w1.heap.size (sev i) z a wr G from hp))
              rw [sev_len] at HC
              clear hp hset
              go_wp2_with fail
              refine HC.out.mono ?_
              rintro e w5 ⟨rfl, hb5⟩
              have HS5 := hide (HS4.out.below hb5)
              obtain ⟨r, hr⟩ : ∃ r, min (a + k) z = r := ⟨_, rfl⟩
              have haz : a ≤ z := by have := HS4.out; obtain ⟨G, hp, _, _⟩ := St.opened HS4.out (i := 0) rfl; exact Snd.an hp
              obtain ⟨f, hf⟩ : ∃ f, f = z - a := ⟨_, rfl⟩
              have f1 : (z : Int) - (a : Int) = (f : Int) := by omega
              have f2 : (f : Int) ≤ 4 := by have := Hq4.out; omega
              have f5 : IntKind.i64.wrap (f : Int) = (f : Int) := wrap_id (by omega) (by omega)
              have f3 : min ((a : Int) + (k : Int)) (z : Int) = (r : Int) := by omega
              have f4 : IntKind.i64.wrap ((a : Int) + (k : Int)) = (a : Int) + (k : Int) := wrap_id (by omega) (by omega)
              have hrz : r ≤ z := by omega
              have har : a ≤ r := by have := Hk1.out; omega
              obtain ⟨G, hp, _, hset⟩ := St.opened HS5.out (i := 0) rfl
              have HC2 := hide (Ack_ok (show Snd w1.heap.size (sev i) z a w5 G from hp) r hrz)
              rw [Nat.max_eq_right har] at HC2
              have HT := hide hset
              have Hprog : Hid (x + 1 ≤ r ∨ i ≤ r) := by
                have h1 := Hxa.out
                have h2 := Hq.out
                have h3 := Hk1.out
                have h4 := Hlt.out
                show x + 1 ≤ r ∨ i ≤ r
                omega
              by_cases hzi : z = i
              · have g1 : ¬ (z : Int) < (i : Int) := by omega
                clear hp hset hb5 HC hr haz hf hrz har hzi
                go_wp2_with fail
                refine HC2.out.mono ?_
                rintro e w6 ⟨rfl, hA⟩
                have HS6 := hide (HT.out w6 (sndT w1.heap.size (sev i) z r) hA)
                clear hA HT HC2
                go_wp2
                go_roundw
                case rel => exact ⟨x + 1, z, r, Hlt.out, Hprog.out, rfl, by go_num, HS6.out⟩
                case measure => have := Hlt.out; simp [intOf]; omega
              · have g1 : (z : Int) - (a : Int) = 4 := by have := Hq.out; omega
                have g2 : (z : Int) < (i : Int) := by have := Hqi.out; omega
                clear hp hset hb5 HC hr haz hf hrz har hzi f1 f2 f5
                go_wp2_with fail
                refine HC2.out.mono ?_
                rintro e w6 ⟨rfl, hA⟩
                have HS6 := hide (HT.out w6 (sndT w1.heap.size (sev i) z r) hA)
                clear hA HT HC2
                go_wp2
                go_roundw
                case rel => exact ⟨x + 1, z, r, Hlt.out, Hprog.out, rfl, by go_num, HS6.out⟩
                case measure => have := Hlt.out; simp [intOf]; omega
        · obtain rfl : x = i + 1 := by omega
          obtain rfl : nx = i := by omega
          have HBf := hide (HB1.out.trans (hst.out.bel.mono HB1.out.size))
          have h9 : ((nx + 1 : Nat) : Int) = (nx : Int) + 1 := by omega
          rw [h9]
          clear hp hset hp' hanx hnl hwin hst hge hxi hxa h9
          go_wp2
          go_ret
          exact ⟨rfl, HBf.out⟩

end Go.Proofs.Ytabjoalkbobhdaa.Wi
