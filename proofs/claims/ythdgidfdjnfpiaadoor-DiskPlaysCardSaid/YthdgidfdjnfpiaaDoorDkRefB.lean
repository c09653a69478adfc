/-
  The document's own disk, the rest: what its Read, Flush and Crash return and leave. Nothing but its own memory is changed.
-/
import Derived.Test.YthdgidfdjnfpiaaDoorDkRef
namespace Go.Proofs.YthdgidfdjnfpiaaDoor.Dk
open Go.RowKit
open Pk Sm Fa
set_option maxRecDepth 100000 in
set_option maxHeartbeats 2000000 in
theorem RRead_any (w : World) (G : Nat → Prop) (p i : Nat) (S : List Sec) (L : List Wr) (s : Sec) (h : RDsk w G p S L) (hs : (all S L)[i]? = some s) (hi : i < S.length) (hL : L.length ≤ 1000000) :
    Calls Tryd.prog 18 #[.pointer (some ⟨p, 0, none⟩), .int .i64 i] w fun e w' => e = .returned (.tuple #[.string (str s), .int .i64 0]) ∧ w = w' := by
  obtain ⟨F, X, hd⟩ := h
  obtain ⟨B, d, rfl, _, _, hX⟩ := row_form hd.2.2.1
  obtain ⟨A, c, rfl, _, _, hF⟩ := row_form hd.2.1
  obtain ⟨g, rfl, _, _, hFr⟩ := hF (by omega)
  obtain ⟨m, hm⟩ : ∃ m, L.length = m := ⟨_, rfl⟩
  obtain ⟨n, hn⟩ : ∃ n, S.length = n := ⟨_, rfl⟩
  rw [hm] at hd hL hX
  rw [hn] at hd
  have hp0 : w.cell? ⟨p, 0, none⟩ = some (.slice (some ⟨g, 0, none⟩) n c) := by simp [World.cell?, hd.1]
  have hp1 : w.cell? ⟨p, 1, none⟩ = some (.slice B m d) := by simp [World.cell?, hd.1]
  have hin : (i : Int) < (n : Int) := by omega
  have hin0 : ¬ ((i : Int) < 0) := by omega
  have hinN : ¬ (n ≤ i) := by omega
  obtain ⟨s0, hs0⟩ : ∃ s0, S[i]? = some s0 := ⟨_, List.getElem?_eq_getElem hi⟩
  have hc0 : w.cell? ⟨g, i, none⟩ = some (.string (str s0)) := by
    have := hFr i (.string (str s0)) (by simp [rS, hs0])
    rwa [Nat.zero_add] at this
  have HX := hide hX
  have HM := hide hm
  have HS := hide hs
  have HS0 := hide hs0
  have HLm := hide hL
  have HI := hide hi
  clear hd hm hn hi hs hL hX hF hFr hs0
  go_enter Tryd.func18, Tryd.ntmps18
  go_wp2
  clear hc0
  go_loop [6, 31] (fun sv j => ∃ (k : Nat) (t : Sec), k ≤ m ∧ j = .int .i64 k ∧ sv = .string (str t) ∧ Hid ((all S (L.take k))[i]? = some t)) (fun _ j => m - (intOf j).toNat)
  case atStart => exact ⟨0, s0, Nat.zero_le _, rfl, rfl, HS0.out⟩
  case round =>
    obtain ⟨k, t, hk, rfl, rfl, ht⟩ := hrel
    rcases Nat.lt_or_ge k m with hlt | hge
    · obtain ⟨x, hx⟩ : ∃ x, L[k]? = some x := ⟨_, List.getElem?_eq_getElem (by rw [HM.out]; exact hlt)⟩
      obtain ⟨b, rfl, _, _, hrg⟩ := HX.out (by omega)
      have hr := range_piece hrg (rcel_length L) hx
      have hx0 : w.cell? ⟨b, k * 2, none⟩ = some (.int .i64 (x.1 : Int)) := by have := hr 0 _ rfl; rwa [Nat.add_zero] at this
      have hx1 : w.cell? ⟨b, k * 2 + 1, none⟩ = some (.string (str x.2)) := hr 1 _ rfl
      have Hlt := hide hlt
      have hkm : (k : Int) < (m : Int) := by omega
      have hlim : (k : Int) < 1000001 := by have := HLm.out; omega
      have Htk := hide (show all S (L.take (k + 1)) = done (all S (L.take k)) x by rw [take_snoc L k x hx, all_append]; rfl)
      clear hx hrg hr hlt hk
      obtain ⟨xi, xb⟩ := x
      by_cases hxi : xi = i
      · have hxe : ((xi : Int) == (i : Int)) = true := by rw [beq_iff_eq]; omega
        have HT := hide (show (all S (L.take (k + 1)))[i]? = some xb by rw [Htk.out, done, hxi, List.getElem?_set_self (by rw [all_length]; exact HI.out)])
        clear hxi
        go_wp2
        go_round
        case rel => exact ⟨k + 1, xb, Hlt.out, by go_num, rfl, HT.out⟩
        case measure => have := Hlt.out; simp [intOf]; omega
      · have hxe : ((xi : Int) == (i : Int)) = false := by rw [beq_eq_false_iff_ne]; omega
        have HT := hide (show (all S (L.take (k + 1)))[i]? = some t by rw [Htk.out, done, List.getElem?_set_ne hxi]; exact ht.out)
        clear hxi
        go_wp2
        go_round
        case rel => exact ⟨k + 1, t, Hlt.out, by go_num, rfl, HT.out⟩
        case measure => have := Hlt.out; simp [intOf]; omega
    · obtain rfl : k = m := by omega
      have HE := hide (show t = s by
        have h1 := ht.out
        rw [List.take_of_length_le (by rw [HM.out]; exact Nat.le_refl _), HS.out] at h1
        exact (Option.some.inj h1).symm)
      clear ht hk hge
      go_wp2
      go_ret2
      exact ⟨by rw [HE.out]; rfl, rfl⟩

set_option maxRecDepth 100000 in
set_option maxHeartbeats 4000000 in
theorem RFlush_any (w : World) (G : Nat → Prop) (p : Nat) (S : List Sec) (L : List Wr) (h : RDsk w G p S L) (hL : L.length ≤ 1000000) :
    Calls Tryd.prog 20 #[.pointer (some ⟨p, 0, none⟩)] w fun e w' => e = .returned (.tuple #[]) ∧ RPost w G p (all S L) [] w' := by
  obtain ⟨F, X, hd⟩ := h
  obtain ⟨B, d, rfl, _, _, _⟩ := row_form hd.2.2.1
  obtain ⟨A, c, rfl, _, _, _⟩ := row_form hd.2.1
  obtain ⟨m, hm⟩ : ∃ m, L.length = m := ⟨_, rfl⟩
  obtain ⟨n, hn⟩ : ∃ n, S.length = n := ⟨_, rfl⟩
  rw [hm] at hd hL
  rw [hn] at hd
  have hp1 : w.cell? ⟨p, 1, none⟩ = some (.slice B m d) := by simp [World.cell?, hd.1]
  have HD := hide hd
  have HM := hide hm
  have HN := hide hn
  have HLm := hide hL
  
  clear hd hm hL hn
  go_enter Tryd.func20, Tryd.ntmps20
  go_wp2
  clear hp1
  go_loopw [8] (fun j wr => ∃ (k : Nat) (Sk : List Sec), k ≤ m ∧ j = .int .i64 k ∧ Hid (all Sk (L.drop k) = all S L) ∧ Hid (Sk.length = n) ∧ Hid (RDskAt wr G p Sk L (.slice A n c) (.slice B m d)) ∧ Hid (Kept G w wr)) (fun j _ => m - (intOf j).toNat)
  case atStart => exact ⟨0, S, Nat.zero_le _, rfl, rfl, HN.out, HD.out, Kept.refl _ _⟩
  case round =>
    obtain ⟨k, Sk, hk, rfl, hcr, hlen, hdk, hkept⟩ := hrel
    rcases Nat.lt_or_ge k m with hlt | hge
    · obtain ⟨x, hx⟩ : ∃ x, L[k]? = some x := ⟨_, List.getElem?_eq_getElem (by rw [HM.out]; exact hlt)⟩
      obtain ⟨B', d', e, _, _, hX⟩ := row_form hdk.out.2.2.1
      simp only [Value.slice.injEq] at e
      obtain ⟨rfl, -, rfl⟩ := e
      obtain ⟨b, rfl, _, _, hrg⟩ := hX (by rw [HM.out]; omega)
      have Hfit := hide (hdk.out.2.2.2.2.2.2.2 x (List.mem_of_getElem? hx))
      obtain ⟨A', c', e, _, _, hF⟩ := row_form hdk.out.2.1
      simp only [Value.slice.injEq] at e
      obtain ⟨rfl, -, rfl⟩ := e
      obtain ⟨g, rfl, _, hglt, hFr⟩ := hF (by have := Hfit.out.1; omega)
      have hxn : (x.1 : Int) < (n : Int) := by have := Hfit.out.1; rw [hlen.out] at this; omega
      have hr := range_piece hrg (rcel_length L) hx
      have hx0 : wr.cell? ⟨b, k * 2, none⟩ = some (.int .i64 (x.1 : Int)) := by have := hr 0 _ rfl; rwa [Nat.add_zero] at this
      have hx1 : wr.cell? ⟨b, k * 2 + 1, none⟩ = some (.string (str x.2)) := hr 1 _ rfl
      have hkm : (k : Int) < (m : Int) := by omega
      have Hlt := hide hlt
      have hlim : (k : Int) < 1000001 := by have := HLm.out; omega
      have hp0 : wr.cell? ⟨p, 0, none⟩ = some (.slice (some ⟨g, 0, none⟩) n c) := by simp [World.cell?, hdk.out.1]
      have hp1 : wr.cell? ⟨p, 1, none⟩ = some (.slice (some ⟨b, 0, none⟩) m d) := by simp [World.cell?, hdk.out.1]
      obtain ⟨y, hy⟩ : ∃ y, Sk[x.1]? = some y := ⟨_, List.getElem?_eq_getElem Hfit.out.1⟩
      have hg0 : wr.cell? ⟨g, x.1, none⟩ = some (.string (str y)) := by
        have := hFr x.1 (.string (str y)) (by simp [rS, hy])
        rwa [Nat.zero_add] at this
      have hgf : wr.frozen? ⟨g, x.1, none⟩ = false := by
        rcases hdk.out.2.1.2 with ⟨e, _⟩ | ⟨g', cap, cur, e, _, hg', _⟩
        · cases e
        · simp only [Value.slice.injEq, Option.some.injEq, Addr.mk.injEq, and_true] at e
          obtain ⟨rfl, _, rfl⟩ := e
          simp [World.frozen?, hg']
      have Hdr := hide (drop_cons hx)
      have HP := hide (RDskAt.put (w := wr.drew) (i := x.1) (b := x.2) hdk.out)
      have HKP := hide (show Kept G w (wr.drew.setCell ⟨g, x.1, none⟩ (.string (str x.2))) from Kept.poke (w2 := wr.drew) ⟨hkept.out.os, hkept.out.tape, hkept.out.output, hkept.out.size, hkept.out.block⟩ (hdk.out.2.2.2.2.1 g rfl).1 _)
      have Hlen2 := hide (show (done Sk x).length = n by rw [done, List.length_set]; exact hlen.out)
      have HD2 := hide hdk.out
      have HK2 := hide hkept.out
      clear hx hrg hX hF hglt hFr hr hy hdk hkept
      have Hcr2 := hide (show all (done Sk x) (L.drop (k + 1)) = all S L by rw [← hcr.out, Hdr.out]; rfl)
      go_wp2
      go_still_tail 20, (by kernel_rfl)
      go_wp2
      go_roundw
      case rel => exact ⟨k + 1, done Sk x, Hlt.out, by go_num, Hcr2.out, Hlen2.out, HP.out, HKP.out⟩
      case measure => have := Hlt.out; simp [intOf]; omega
    · obtain rfl : k = m := by omega
      have Hcr := hide (show Sk = all S L by rw [← hcr.out, List.drop_of_length_le (by rw [HM.out]; exact Nat.le_refl _)]; rfl)
      have hp1 : wr.cell? ⟨p, 1, none⟩ = some (.slice B k d) := by simp [World.cell?, hdk.out.1]
      have hf1 : wr.frozen? ⟨p, 1, none⟩ = false := by simp [World.frozen?, hdk.out.1]
      have HP := hide (show RPost w G p (all S L) [] (wr.setCell ⟨p, 1, none⟩ (.slice none 0 0)) from ⟨G, ⟨_, _, by rw [← Hcr.out]; exact hdk.out.clear⟩, Grew.refl _ _, hkept.out.poke hdk.out.2.2.2.1 _⟩)
      clear hcr hdk hkept
      go_wp2
      go_end0
      exact ⟨rfl, HP.out⟩

theorem bit_rem64 (t j : Nat) : ((t : Int) / 2 ^ j).tmod 2 = if t.testBit j then 1 else 0 := by
  have h1 : ((t : Int) / 2 ^ j) = ((t / 2 ^ j : Nat) : Int) := by norm_cast
  rw [h1, Int.tmod_eq_emod_of_nonneg (Int.natCast_nonneg _), Nat.testBit_eq_decide_div_mod_eq]
  have h4 : t / 2 ^ j % 2 < 2 := Nat.mod_lt _ (by omega)
  by_cases h5 : t / 2 ^ j % 2 = 1
  · simp only [h5, decide_true, if_true]; omega
  · have h6 : t / 2 ^ j % 2 = 0 := by omega
    simp only [h6]; simp; omega

set_option maxRecDepth 100000 in
set_option maxHeartbeats 4000000 in
theorem RCrash_any (w : World) (G : Nat → Prop) (p K : Nat) (S : List Sec) (L : List Wr) (h : RDsk w G p S L) (hK : K < 18446744073709551616) (hL : L.length ≤ 1000000) :
    Calls Tryd.prog 22 #[.pointer (some ⟨p, 0, none⟩), .int .u64 K] w fun e w' => e = .returned (.tuple #[]) ∧ RPost w G p (crash K 0 L S) [] w' := by
  obtain ⟨F, X, hd⟩ := h
  obtain ⟨B, d, rfl, _, _, _⟩ := row_form hd.2.2.1
  obtain ⟨A, c, rfl, _, _, _⟩ := row_form hd.2.1
  obtain ⟨m, hm⟩ : ∃ m, L.length = m := ⟨_, rfl⟩
  obtain ⟨n, hn⟩ : ∃ n, S.length = n := ⟨_, rfl⟩
  rw [hm] at hd hL
  rw [hn] at hd
  have hp1 : w.cell? ⟨p, 1, none⟩ = some (.slice B m d) := by simp [World.cell?, hd.1]
  have HD := hide hd
  have HM := hide hm
  have HN := hide hn
  have HLm := hide hL
  have HK := hide hK
  clear hK
  clear hd hm hL hn
  go_enter Tryd.func22, Tryd.ntmps22
  go_wp2
  clear hp1
  go_loopw [10] (fun j wr => ∃ (k : Nat) (Sk : List Sec), k ≤ m ∧ j = .int .i64 k ∧ Hid (crash K k (L.drop k) Sk = crash K 0 L S) ∧ Hid (Sk.length = n) ∧ Hid (RDskAt wr G p Sk L (.slice A n c) (.slice B m d)) ∧ Hid (Kept G w wr)) (fun j _ => m - (intOf j).toNat)
  case atStart => exact ⟨0, S, Nat.zero_le _, rfl, rfl, HN.out, HD.out, Kept.refl _ _⟩
  case round =>
    obtain ⟨k, Sk, hk, rfl, hcr, hlen, hdk, hkept⟩ := hrel
    rcases Nat.lt_or_ge k m with hlt | hge
    · obtain ⟨x, hx⟩ : ∃ x, L[k]? = some x := ⟨_, List.getElem?_eq_getElem (by rw [HM.out]; exact hlt)⟩
      obtain ⟨B', d', e, _, _, hX⟩ := row_form hdk.out.2.2.1
      simp only [Value.slice.injEq] at e
      obtain ⟨rfl, -, rfl⟩ := e
      obtain ⟨b, rfl, _, _, hrg⟩ := hX (by rw [HM.out]; omega)
      have Hfit := hide (hdk.out.2.2.2.2.2.2.2 x (List.mem_of_getElem? hx))
      obtain ⟨A', c', e, _, _, hF⟩ := row_form hdk.out.2.1
      simp only [Value.slice.injEq] at e
      obtain ⟨rfl, -, rfl⟩ := e
      obtain ⟨g, rfl, _, hglt, hFr⟩ := hF (by have := Hfit.out.1; omega)
      have hxn : (x.1 : Int) < (n : Int) := by have := Hfit.out.1; rw [hlen.out] at this; omega
      have hr := range_piece hrg (rcel_length L) hx
      have hx0 : wr.cell? ⟨b, k * 2, none⟩ = some (.int .i64 (x.1 : Int)) := by have := hr 0 _ rfl; rwa [Nat.add_zero] at this
      have hx1 : wr.cell? ⟨b, k * 2 + 1, none⟩ = some (.string (str x.2)) := hr 1 _ rfl
      have hkm : (k : Int) < (m : Int) := by omega
      have Hlt := hide hlt
      have hlim : (k : Int) < 1000001 := by have := HLm.out; omega
      have hp0 : wr.cell? ⟨p, 0, none⟩ = some (.slice (some ⟨g, 0, none⟩) n c) := by simp [World.cell?, hdk.out.1]
      have hp1 : wr.cell? ⟨p, 1, none⟩ = some (.slice (some ⟨b, 0, none⟩) m d) := by simp [World.cell?, hdk.out.1]
      obtain ⟨y, hy⟩ : ∃ y, Sk[x.1]? = some y := ⟨_, List.getElem?_eq_getElem Hfit.out.1⟩
      have hg0 : wr.cell? ⟨g, x.1, none⟩ = some (.string (str y)) := by
        have := hFr x.1 (.string (str y)) (by simp [rS, hy])
        rwa [Nat.zero_add] at this
      have hgf : wr.frozen? ⟨g, x.1, none⟩ = false := by
        rcases hdk.out.2.1.2 with ⟨e, _⟩ | ⟨g', cap, cur, e, _, hg', _⟩
        · cases e
        · simp only [Value.slice.injEq, Option.some.injEq, Addr.mk.injEq, and_true] at e
          obtain ⟨rfl, _, rfl⟩ := e
          simp [World.frozen?, hg']
      have Hdr := hide (drop_cons hx)
      have HP := hide (RDskAt.put (w := wr.drew) (i := x.1) (b := x.2) hdk.out)
      have HKP := hide (show Kept G w (wr.drew.setCell ⟨g, x.1, none⟩ (.string (str x.2))) from Kept.poke (w2 := wr.drew) ⟨hkept.out.os, hkept.out.tape, hkept.out.output, hkept.out.size, hkept.out.block⟩ (hdk.out.2.2.2.2.1 g rfl).1 _)
      have Hlen2 := hide (show (done Sk x).length = n by rw [done, List.length_set]; exact hlen.out)
      have HD2 := hide hdk.out
      have HK2 := hide hkept.out
      clear hx hrg hX hF hglt hFr hr hy hdk hkept
      have he := bit_rem64 K (k % 64)
      cases hb : K.testBit (k % 64) with
      | false =>
        rw [hb, if_neg (by exact Bool.false_ne_true)] at he
        have Hcr2 := hide (show crash K (k + 1) (L.drop (k + 1)) Sk = crash K 0 L S by rw [← hcr.out, Hdr.out, crash_no hb])
        clear hb
        go_wp2
        go_roundw
        case rel => exact ⟨k + 1, Sk, Hlt.out, by go_num, Hcr2.out, hlen.out, HD2.out, HK2.out⟩
        case measure => have := Hlt.out; simp [intOf]; omega
      | true =>
        rw [hb, if_pos rfl] at he
        have Hcr2 := hide (show crash K (k + 1) (L.drop (k + 1)) (done Sk x) = crash K 0 L S by rw [← hcr.out, Hdr.out]; rw [crash_yes hb])
        go_wp2
        go_still_tail 20, (by kernel_rfl)
        go_wp2
        go_roundw
        case rel => exact ⟨k + 1, done Sk x, Hlt.out, by go_num, Hcr2.out, Hlen2.out, HP.out, HKP.out⟩
        case measure => have := Hlt.out; simp [intOf]; omega
    · obtain rfl : k = m := by omega
      have Hcr := hide (show Sk = crash K 0 L S by rw [← hcr.out, List.drop_of_length_le (by rw [HM.out]; exact Nat.le_refl _)]; rfl)
      have hp1 : wr.cell? ⟨p, 1, none⟩ = some (.slice B k d) := by simp [World.cell?, hdk.out.1]
      have hf1 : wr.frozen? ⟨p, 1, none⟩ = false := by simp [World.frozen?, hdk.out.1]
      have HP := hide (show RPost w G p (crash K 0 L S) [] (wr.setCell ⟨p, 1, none⟩ (.slice none 0 0)) from ⟨G, ⟨_, _, by rw [← Hcr.out]; exact hdk.out.clear⟩, Grew.refl _ _, hkept.out.poke hdk.out.2.2.2.1 _⟩)
      clear hcr hdk hkept
      go_wp2
      go_end0
      exact ⟨rfl, HP.out⟩

end Go.Proofs.YthdgidfdjnfpiaaDoor.Dk
