/-
  The contract of the document's own Open (isobarref06): the journal of a disk, with the records that are held, in a new generation; or the error's number. Nothing but the disk's memory is changed.
-/
import Derived.Test.YtapiogcoipeinaaGreatDoorU24
import Derived.Test.YtapiogcoipeinaaGreatDoorU26
import Derived.Test.YtapiogcoipeinaaGreatDoorU9
import Derived.Test.YtapiogcoipeinaaGreatDoorU19
import Derived.BigQuiet
import Derived.Deep.RegionHeld3
namespace Go.Proofs.YtapiogcoipeinaaGreatDoor.Jn
open Go.RowKit
open Pk hiding str str_data str_size str_of run_str head_str str_append
open Sm hiding run_str
open Fa Rc Dk
theorem results_tmp4 {fn : Func} {t u v x : Tmp} (h : fn.results = #[.tmp t, .tmp u, .tmp v, .tmp x]) (tmps : Array Value) (P : Program) (w : World) :
 (results fn tmps).run P w = .ok (.tuple #[tmps.getD t undef, tmps.getD u undef, tmps.getD v undef, tmps.getD x undef]) w := by
 simp [results, h]
theorem hd_chain {i : Nat} {x : Hd} (k : HOk i x) {M : List UInt8} (hM : M = pad (hbod x)) {l1 l2 l3 l4 : List UInt8} {t f g v e1 e2 e3 e4 : Nat} (h1 : rnum M 0 = (t, l1, e1)) (h2 : rnum l1 e1 = (f, l2, e2)) (h3 : rnum l2 e2 = (g, l3, e3)) (h4 : rnum l3 e3 = (v, l4, e4)) : x = ⟨t, f, g, v⟩ ∧ e4 = 0 := by
 subst hM
 refine ⟨by rw [← hgot_pad k]; exact hgot_step h1 h2 h3 h4, ?_⟩
 have e : ∀ n, NumN n → ∀ r, rnum (enc (clamp (n : Int)) ++ r) 0 = (n, r, 0) := fun n hn r => by
  rw [clampN hn]; exact rnum_enc _ _ (by unfold NumN at hn; omega)
 have e0 : pad (hbod x) = enc (clamp x.t) ++ (enc (clamp x.f) ++ (enc (clamp x.g) ++ (enc (clamp x.l) ++ List.replicate (60 - (hbod x).length) 0))) := by unfold pad; simp [hbod]
 rw [e0, e _ k.t] at h1
 cases h1
 rw [e _ k.f] at h2
 cases h2
 rw [e _ k.g] at h3
 cases h3
 rw [e _ k.l] at h4
 cases h4
 rfl
theorem unh_bad {i : Nat} {M : List UInt8} {l1 l2 l3 l4 : List UInt8} {t f g v e1 e2 e3 e4 : Nat} (h1 : rnum M 0 = (t, l1, e1)) (h2 : rnum l1 e1 = (f, l2, e2)) (h3 : rnum l2 e2 = (g, l3, e3)) (h4 : rnum l3 e3 = (v, l4, e4)) (hb : e4 ≠ 0 ∨ g < v ∨ f < 1 ∨ t % 2 ≠ i ∨ hsec ⟨t, f, g, v⟩ ≠ seal4 M) : unh i (seal4 M) = none := by
 refine unh_none fun x hx he => ?_
 obtain ⟨rfl, rfl⟩ := hd_chain hx (seal4_inj he) h1 h2 h3 h4
 have l1 : v ≤ g := hx.low
 have l2 : 1 ≤ f := hx.pos
 have l3 : t % 2 = i := hx.par
 rcases hb with h | h | h | h | h
 ·exact h rfl
 ·omega
 ·omega
 ·exact h l3
 ·exact h he.symm
theorem unh_good {i : Nat} {M : List UInt8} {l1 l2 l3 l4 : List UInt8} {t f g v e1 e2 e3 e4 : Nat} (h1 : rnum M 0 = (t, l1, e1)) (h2 : rnum l1 e1 = (f, l2, e2)) (h3 : rnum l2 e2 = (g, l3, e3)) (h4 : rnum l3 e3 = (v, l4, e4)) (hg : v ≤ g) (hf : 1 ≤ f) (ht : t % 2 = i) (he : hsec ⟨t, f, g, v⟩ = seal4 M) : unh i (seal4 M) = some ⟨t, f, g, v⟩ := by
 have b1 : NumN t := by have := rnum_lt M 0; rw [h1] at this; exact this
 have b2 : NumN f := by have := rnum_lt l1 e1; rw [h2] at this; exact this
 have b3 : NumN g := by have := rnum_lt l2 e2; rw [h3] at this; exact this
 have b4 : NumN v := by have := rnum_lt l3 e3; rw [h4] at this; exact this
 rw [← he]
 exact unh_some ⟨b1, b2, b3, b4, hf, hg, ht⟩
set_option maxRecDepth 100000 in
set_option maxHeartbeats 2000000 in
theorem rHeadBytes_any (h : Hd) (w : World) (SF : ByteArray) (hSF : str (hsec h) = SF) :
 Calls Tryz.prog 94 #[.int .i64 (h.t : Int), .int .i64 (h.f : Int), .int .i64 (h.g : Int), .int .i64 (h.l : Int)] w fun e w' => e = .returned (.string SF) ∧ Below w.heap.size w w' := by
 obtain ⟨S1, h1⟩ : ∃ S, str (enc (clamp h.t)) = S := ⟨_, rfl⟩
 obtain ⟨S2, h2⟩ : ∃ S, str (enc (clamp h.f)) = S := ⟨_, rfl⟩
 obtain ⟨S3, h3⟩ : ∃ S, str (enc (clamp h.g)) = S := ⟨_, rfl⟩
 obtain ⟨S4, h4⟩ : ∃ S, str (enc (clamp h.l)) = S := ⟨_, rfl⟩
 obtain ⟨S12, h12⟩ : ∃ S, str (enc (clamp h.t) ++ enc (clamp h.f)) = S := ⟨_, rfl⟩
 obtain ⟨S123, h123⟩ : ∃ S, str (enc (clamp h.t) ++ enc (clamp h.f) ++ enc (clamp h.g)) = S := ⟨_, rfl⟩
 obtain ⟨SB, hSB⟩ : ∃ S, str (hbod h) = S := ⟨_, rfl⟩
 have q1 := enc_le (clamp h.t)
 have q2 := enc_le (clamp h.f)
 have q3 := enc_le (clamp h.g)
 have q4 := enc_le (clamp h.l)
 have ha1 := fun W => add_run (enc (clamp h.t)) (enc (clamp h.f)) (by omega) S1 S2 S12 h1 h2 h12 W
 have ha2 := fun W => add_run (enc (clamp h.t) ++ enc (clamp h.f)) (enc (clamp h.g)) (by simp only [List.length_append]; omega) S12 S3 S123 h12 h3 h123 W
 have ha3 := fun W => add_run (enc (clamp h.t) ++ enc (clamp h.f) ++ enc (clamp h.g)) (enc (clamp h.l)) (by simp only [List.length_append]; omega) S123 S4 SB h123 h4 hSB W
 have HN1 := hide (fun W => rNum_told h.t W S1 h1)
 have HN2 := hide (fun W => rNum_told h.f W S2 h2)
 have HN3 := hide (fun W => rNum_told h.g W S3 h3)
 have HN4 := hide (fun W => rNum_told h.l W S4 h4)
 have hSsz : SB.size ≤ 60 := by rw [← hSB, str_size]; have := hbod_le h; omega
 have HS := hide (fun W => rSector_told SB W hSsz SF (by rw [← hSF, ← hSB]; rfl))
 clear h1 h2 h3 h4 h12 h123 hSB q1 q2 q3 q4 hSsz hSF
 go_enter Tryz.func94, Tryz.ntmps94
 go_wp2_with fail
 refine (HN1.out _).mono ?_
 rintro e w1 ⟨rfl, hb1⟩
 have HB1 := hide hb1
 clear hb1
 go_wp2_with fail
 refine (HN2.out _).mono ?_
 rintro e w2 ⟨rfl, hb2⟩
 have HB2 := hide (HB1.out.trans (hb2.mono HB1.out.size))
 clear hb2 HB1
 go_wp2_with fail
 refine (HN3.out _).mono ?_
 rintro e w3 ⟨rfl, hb3⟩
 have HB3 := hide (HB2.out.trans (hb3.mono HB2.out.size))
 clear hb3 HB2
 go_wp2_with fail
 refine (HN4.out _).mono ?_
 rintro e w4 ⟨rfl, hb4⟩
 have HB4 := hide (HB3.out.trans (hb4.mono HB3.out.size))
 clear hb4 HB3
 go_wp2_with fail
 refine (HS.out _).mono ?_
 rintro e w5 ⟨rfl, hb5⟩
 have HB5 := hide (HB4.out.trans (hb5.mono HB4.out.size))
 clear hb5 HB4
 go_wp2
 go_ret
 exact ⟨rfl, HB5.out⟩
def HdTup : Option Hd → Value
 | some h => .tuple #[.int .i64 (h.t : Int), .int .i64 (h.f : Int), .int .i64 (h.g : Int), .int .i64 (h.l : Int)]
 | none => .tuple #[.int .i64 (-1), .int .i64 0, .int .i64 0, .int .i64 0]
set_option maxRecDepth 100000 in
set_option maxHeartbeats 2000000 in
theorem rHead_sum (s : ByteArray) (i : Nat) (w : World) (hs : s.size ≤ 1000000) (hno : ∀ m, s.data.toList ≠ seal4 m) :
 Calls Tryz.prog 68 #[.string s, .int .i64 (i : Int)] w fun e w' => e = .returned (HdTup none) ∧ Below w.heap.size w w' := by
 have Hno := hide hno
 clear hno
 go_enter Tryz.func68, Tryz.ntmps68
 go_wp2_with fail
 refine (rOpen_bad s w hs Hno.out).mono ?_
 rintro e w1 ⟨rfl, hb1⟩
 have HB1 := hide hb1
 clear hb1
 go_wp2
 (try simp only [Exit.inBlock, Exit.then])
 refine bodyPost_ret (results_tmp4 rfl _ _ _) rfl ?_
 exact ⟨rfl, HB1.out⟩
set_option maxRecDepth 100000 in
set_option maxHeartbeats 2000000 in
theorem rHead_err (s : ByteArray) (i : Nat) (w : World) (M : List UInt8) (hs : s.size ≤ 1000000) (hM : s.data.toList = seal4 M) (hM60 : M.length ≤ 60) {l1 l2 l3 l4 : List UInt8} {t f g v e1 e2 e3 e4 : Nat} (h1 : rnum M 0 = (t, l1, e1)) (h2 : rnum l1 e1 = (f, l2, e2)) (h3 : rnum l2 e2 = (g, l3, e3)) (h4 : rnum l3 e3 = (v, l4, e4)) (he : e4 ≠ 0) :
 Calls Tryz.prog 68 #[.string s, .int .i64 (i : Int)] w fun e w' => e = .returned (HdTup none) ∧ Below w.heap.size w w' := by
 obtain ⟨S0, hS0⟩ : ∃ S, str M = S := ⟨_, rfl⟩
 have he0 : ((e4 : Int) != 0) = true := by simp; omega
 have HS0 := hide hS0
 have HM := hide hM
 have HL0 := hide hM60
 have H1 := hide h1
 have H2 := hide h2
 have H3 := hide h3
 have H4 := hide h4
 clear hS0 hM hM60 h1 h2 h3 h4
 go_enter Tryz.func68, Tryz.ntmps68
 go_wp2_with fail
 refine (rOpen_good s w M hs HM.out S0 HS0.out).mono ?_
 rintro e w1 ⟨rfl, hb1⟩
 have HB1 := hide hb1
 have hr0 := rr_new w1 S0
 have HB2 := hide (hb1.trans ((rr_below w1 S0).mono hb1.size))
 have hRl := hb1.size
 obtain ⟨R, hR⟩ : ∃ R, R = w1.heap.size := ⟨_, rfl⟩
 rw [← hR] at hr0 hRl
 rw [← HS0.out] at hr0
 clear hb1 HB1
 go_wp2_with fail
 rw [← hR]
 clear hR
 rw [HS0.out] at hr0
 generalize w1.alloc _ = w2 at *
 rw [← HS0.out] at hr0
 refine (rNumber_at R 0 M w2 hr0 HL0.out t l1 e1 H1.out).mono ?_
 rintro r w3 ⟨rfl, hr1, hg1, hl1⟩
 have HL1 := hide hl1
 have HB3 := hide (HB2.out.trans (only_below hg1 hRl hr0.lt))
 clear hg1 hr0 hl1 HB2
 go_wp2_with fail
 refine (rNumber_at R e1 l1 w3 hr1 HL1.out f l2 e2 H2.out).mono ?_
 rintro r w4 ⟨rfl, hr2, hg2, hl2⟩
 have HL2 := hide hl2
 have HB4 := hide (HB3.out.trans (only_below hg2 hRl hr1.lt))
 clear hg2 hr1 hl2 HB3
 go_wp2_with fail
 refine (rNumber_at R e2 l2 w4 hr2 HL2.out g l3 e3 H3.out).mono ?_
 rintro r w5 ⟨rfl, hr3, hg3, hl3⟩
 have HL3 := hide hl3
 have HB5 := hide (HB4.out.trans (only_below hg3 hRl hr2.lt))
 clear hg3 hr2 hl3 HB4
 go_wp2_with fail
 refine (rNumber_at R e3 l3 w5 hr3 HL3.out v l4 e4 H4.out).mono ?_
 rintro r w6 ⟨rfl, hr4, hg4, hl4⟩
 have HB6 := hide (HB5.out.trans (only_below hg4 hRl hr3.lt))
 have hc1 : w6.cell? ⟨R, 1, none⟩ = some (.int .i64 (e4 : Int)) := by have := hr4; unfold Rr at this; simp [World.cell?, this]
 clear hg4 hr3 hl4 HB5 hr4 hRl
 go_wp2
 (try simp only [Exit.inBlock, Exit.then])
 refine bodyPost_ret (results_tmp4 rfl _ _ _) rfl ?_
 exact ⟨rfl, HB6.out⟩
set_option maxRecDepth 100000 in
set_option maxHeartbeats 2000000 in
theorem rHead_low (s : ByteArray) (i : Nat) (w : World) (M : List UInt8) (hs : s.size ≤ 1000000) (hM : s.data.toList = seal4 M) (hM60 : M.length ≤ 60) {l1 l2 l3 l4 : List UInt8} {t f g v e1 e2 e3 e4 : Nat} (h1 : rnum M 0 = (t, l1, e1)) (h2 : rnum l1 e1 = (f, l2, e2)) (h3 : rnum l2 e2 = (g, l3, e3)) (h4 : rnum l3 e3 = (v, l4, e4)) (he : e4 = 0) (hlow0 : g < v) :
 Calls Tryz.prog 68 #[.string s, .int .i64 (i : Int)] w fun e w' => e = .returned (HdTup none) ∧ Below w.heap.size w w' := by
 obtain ⟨S0, hS0⟩ : ∃ S, str M = S := ⟨_, rfl⟩
 have he0 : ((e4 : Int) != 0) = false := by simp; omega
 have hlow : (g : Int) < (v : Int) := by omega
 have HS0 := hide hS0
 have HM := hide hM
 have HL0 := hide hM60
 have H1 := hide h1
 have H2 := hide h2
 have H3 := hide h3
 have H4 := hide h4
 clear hS0 hM hM60 h1 h2 h3 h4
 go_enter Tryz.func68, Tryz.ntmps68
 go_wp2_with fail
 refine (rOpen_good s w M hs HM.out S0 HS0.out).mono ?_
 rintro e w1 ⟨rfl, hb1⟩
 have HB1 := hide hb1
 have hr0 := rr_new w1 S0
 have HB2 := hide (hb1.trans ((rr_below w1 S0).mono hb1.size))
 have hRl := hb1.size
 obtain ⟨R, hR⟩ : ∃ R, R = w1.heap.size := ⟨_, rfl⟩
 rw [← hR] at hr0 hRl
 rw [← HS0.out] at hr0
 clear hb1 HB1
 go_wp2_with fail
 rw [← hR]
 clear hR
 rw [HS0.out] at hr0
 generalize w1.alloc _ = w2 at *
 rw [← HS0.out] at hr0
 refine (rNumber_at R 0 M w2 hr0 HL0.out t l1 e1 H1.out).mono ?_
 rintro r w3 ⟨rfl, hr1, hg1, hl1⟩
 have HL1 := hide hl1
 have HB3 := hide (HB2.out.trans (only_below hg1 hRl hr0.lt))
 clear hg1 hr0 hl1 HB2
 go_wp2_with fail
 refine (rNumber_at R e1 l1 w3 hr1 HL1.out f l2 e2 H2.out).mono ?_
 rintro r w4 ⟨rfl, hr2, hg2, hl2⟩
 have HL2 := hide hl2
 have HB4 := hide (HB3.out.trans (only_below hg2 hRl hr1.lt))
 clear hg2 hr1 hl2 HB3
 go_wp2_with fail
 refine (rNumber_at R e2 l2 w4 hr2 HL2.out g l3 e3 H3.out).mono ?_
 rintro r w5 ⟨rfl, hr3, hg3, hl3⟩
 have HL3 := hide hl3
 have HB5 := hide (HB4.out.trans (only_below hg3 hRl hr2.lt))
 clear hg3 hr2 hl3 HB4
 go_wp2_with fail
 refine (rNumber_at R e3 l3 w5 hr3 HL3.out v l4 e4 H4.out).mono ?_
 rintro r w6 ⟨rfl, hr4, hg4, hl4⟩
 have HB6 := hide (HB5.out.trans (only_below hg4 hRl hr3.lt))
 have hc1 : w6.cell? ⟨R, 1, none⟩ = some (.int .i64 (e4 : Int)) := by have := hr4; unfold Rr at this; simp [World.cell?, this]
 clear hg4 hr3 hl4 HB5 hr4 hRl
 go_wp2
 (try simp only [Exit.inBlock, Exit.then])
 refine bodyPost_ret (results_tmp4 rfl _ _ _) rfl ?_
 exact ⟨rfl, HB6.out⟩
set_option maxRecDepth 100000 in
set_option maxHeartbeats 2000000 in
theorem rHead_first (s : ByteArray) (i : Nat) (w : World) (M : List UInt8) (hs : s.size ≤ 1000000) (hM : s.data.toList = seal4 M) (hM60 : M.length ≤ 60) {l1 l2 l3 l4 : List UInt8} {t f g v e1 e2 e3 e4 : Nat} (h1 : rnum M 0 = (t, l1, e1)) (h2 : rnum l1 e1 = (f, l2, e2)) (h3 : rnum l2 e2 = (g, l3, e3)) (h4 : rnum l3 e3 = (v, l4, e4)) (he : e4 = 0) (hlow0 : v ≤ g) (hf0 : f < 1) :
 Calls Tryz.prog 68 #[.string s, .int .i64 (i : Int)] w fun e w' => e = .returned (HdTup none) ∧ Below w.heap.size w w' := by
 obtain ⟨S0, hS0⟩ : ∃ S, str M = S := ⟨_, rfl⟩
 have he0 : ((e4 : Int) != 0) = false := by simp; omega
 have hlow : ¬ ((g : Int) < (v : Int)) := by omega
 have hfst : (f : Int) < 1 := by omega
 have HS0 := hide hS0
 have HM := hide hM
 have HL0 := hide hM60
 have H1 := hide h1
 have H2 := hide h2
 have H3 := hide h3
 have H4 := hide h4
 clear hS0 hM hM60 h1 h2 h3 h4
 go_enter Tryz.func68, Tryz.ntmps68
 go_wp2_with fail
 refine (rOpen_good s w M hs HM.out S0 HS0.out).mono ?_
 rintro e w1 ⟨rfl, hb1⟩
 have HB1 := hide hb1
 have hr0 := rr_new w1 S0
 have HB2 := hide (hb1.trans ((rr_below w1 S0).mono hb1.size))
 have hRl := hb1.size
 obtain ⟨R, hR⟩ : ∃ R, R = w1.heap.size := ⟨_, rfl⟩
 rw [← hR] at hr0 hRl
 rw [← HS0.out] at hr0
 clear hb1 HB1
 go_wp2_with fail
 rw [← hR]
 clear hR
 rw [HS0.out] at hr0
 generalize w1.alloc _ = w2 at *
 rw [← HS0.out] at hr0
 refine (rNumber_at R 0 M w2 hr0 HL0.out t l1 e1 H1.out).mono ?_
 rintro r w3 ⟨rfl, hr1, hg1, hl1⟩
 have HL1 := hide hl1
 have HB3 := hide (HB2.out.trans (only_below hg1 hRl hr0.lt))
 clear hg1 hr0 hl1 HB2
 go_wp2_with fail
 refine (rNumber_at R e1 l1 w3 hr1 HL1.out f l2 e2 H2.out).mono ?_
 rintro r w4 ⟨rfl, hr2, hg2, hl2⟩
 have HL2 := hide hl2
 have HB4 := hide (HB3.out.trans (only_below hg2 hRl hr1.lt))
 clear hg2 hr1 hl2 HB3
 go_wp2_with fail
 refine (rNumber_at R e2 l2 w4 hr2 HL2.out g l3 e3 H3.out).mono ?_
 rintro r w5 ⟨rfl, hr3, hg3, hl3⟩
 have HL3 := hide hl3
 have HB5 := hide (HB4.out.trans (only_below hg3 hRl hr2.lt))
 clear hg3 hr2 hl3 HB4
 go_wp2_with fail
 refine (rNumber_at R e3 l3 w5 hr3 HL3.out v l4 e4 H4.out).mono ?_
 rintro r w6 ⟨rfl, hr4, hg4, hl4⟩
 have HB6 := hide (HB5.out.trans (only_below hg4 hRl hr3.lt))
 have hc1 : w6.cell? ⟨R, 1, none⟩ = some (.int .i64 (e4 : Int)) := by have := hr4; unfold Rr at this; simp [World.cell?, this]
 clear hg4 hr3 hl4 HB5 hr4 hRl
 go_wp2
 (try simp only [Exit.inBlock, Exit.then])
 refine bodyPost_ret (results_tmp4 rfl _ _ _) rfl ?_
 exact ⟨rfl, HB6.out⟩
set_option maxRecDepth 100000 in
set_option maxHeartbeats 2000000 in
theorem rHead_turn (s : ByteArray) (i : Nat) (w : World) (M : List UInt8) (hs : s.size ≤ 1000000) (hM : s.data.toList = seal4 M) (hM60 : M.length ≤ 60) {l1 l2 l3 l4 : List UInt8} {t f g v e1 e2 e3 e4 : Nat} (h1 : rnum M 0 = (t, l1, e1)) (h2 : rnum l1 e1 = (f, l2, e2)) (h3 : rnum l2 e2 = (g, l3, e3)) (h4 : rnum l3 e3 = (v, l4, e4)) (he : e4 = 0) (hlow0 : v ≤ g) (hf0 : 1 ≤ f) (hp0 : t % 2 ≠ i) :
 Calls Tryz.prog 68 #[.string s, .int .i64 (i : Int)] w fun e w' => e = .returned (HdTup none) ∧ Below w.heap.size w w' := by
 obtain ⟨S0, hS0⟩ : ∃ S, str M = S := ⟨_, rfl⟩
 have he0 : ((e4 : Int) != 0) = false := by simp; omega
 have hlow : ¬ ((g : Int) < (v : Int)) := by omega
 have hfst : ¬ ((f : Int) < 1) := by omega
 have hrm := remN t 2
 obtain ⟨tp, htp⟩ : ∃ tp, t % 2 = tp := ⟨_, rfl⟩
 rw [htp] at hrm
 have hrm' : (t : Int).tmod 2 = (tp : Int) := hrm
 have hpar : ((tp : Int) != (i : Int)) = true := by simp; omega
 clear hrm
 have HS0 := hide hS0
 have HM := hide hM
 have HL0 := hide hM60
 have H1 := hide h1
 have H2 := hide h2
 have H3 := hide h3
 have H4 := hide h4
 clear hS0 hM hM60 h1 h2 h3 h4
 go_enter Tryz.func68, Tryz.ntmps68
 go_wp2_with fail
 refine (rOpen_good s w M hs HM.out S0 HS0.out).mono ?_
 rintro e w1 ⟨rfl, hb1⟩
 have HB1 := hide hb1
 have hr0 := rr_new w1 S0
 have HB2 := hide (hb1.trans ((rr_below w1 S0).mono hb1.size))
 have hRl := hb1.size
 obtain ⟨R, hR⟩ : ∃ R, R = w1.heap.size := ⟨_, rfl⟩
 rw [← hR] at hr0 hRl
 rw [← HS0.out] at hr0
 clear hb1 HB1
 go_wp2_with fail
 rw [← hR]
 clear hR
 rw [HS0.out] at hr0
 generalize w1.alloc _ = w2 at *
 rw [← HS0.out] at hr0
 refine (rNumber_at R 0 M w2 hr0 HL0.out t l1 e1 H1.out).mono ?_
 rintro r w3 ⟨rfl, hr1, hg1, hl1⟩
 have HL1 := hide hl1
 have HB3 := hide (HB2.out.trans (only_below hg1 hRl hr0.lt))
 clear hg1 hr0 hl1 HB2
 go_wp2_with fail
 refine (rNumber_at R e1 l1 w3 hr1 HL1.out f l2 e2 H2.out).mono ?_
 rintro r w4 ⟨rfl, hr2, hg2, hl2⟩
 have HL2 := hide hl2
 have HB4 := hide (HB3.out.trans (only_below hg2 hRl hr1.lt))
 clear hg2 hr1 hl2 HB3
 go_wp2_with fail
 refine (rNumber_at R e2 l2 w4 hr2 HL2.out g l3 e3 H3.out).mono ?_
 rintro r w5 ⟨rfl, hr3, hg3, hl3⟩
 have HL3 := hide hl3
 have HB5 := hide (HB4.out.trans (only_below hg3 hRl hr2.lt))
 clear hg3 hr2 hl3 HB4
 go_wp2_with fail
 refine (rNumber_at R e3 l3 w5 hr3 HL3.out v l4 e4 H4.out).mono ?_
 rintro r w6 ⟨rfl, hr4, hg4, hl4⟩
 have HB6 := hide (HB5.out.trans (only_below hg4 hRl hr3.lt))
 have hc1 : w6.cell? ⟨R, 1, none⟩ = some (.int .i64 (e4 : Int)) := by have := hr4; unfold Rr at this; simp [World.cell?, this]
 clear hg4 hr3 hl4 HB5 hr4 hRl
 go_wp2
 (try simp only [Exit.inBlock, Exit.then])
 refine bodyPost_ret (results_tmp4 rfl _ _ _) rfl ?_
 exact ⟨rfl, HB6.out⟩
set_option maxRecDepth 100000 in
set_option maxHeartbeats 2000000 in
theorem rHead_unlike (s : ByteArray) (i : Nat) (w : World) (M : List UInt8) (hs : s.size ≤ 1000000) (hM : s.data.toList = seal4 M) (hM60 : M.length ≤ 60) {l1 l2 l3 l4 : List UInt8} {t f g v e1 e2 e3 e4 : Nat} (h1 : rnum M 0 = (t, l1, e1)) (h2 : rnum l1 e1 = (f, l2, e2)) (h3 : rnum l2 e2 = (g, l3, e3)) (h4 : rnum l3 e3 = (v, l4, e4)) (he : e4 = 0) (hlow0 : v ≤ g) (hf0 : 1 ≤ f) (hp0 : t % 2 = i) (hu : hsec ⟨t, f, g, v⟩ ≠ seal4 M) :
 Calls Tryz.prog 68 #[.string s, .int .i64 (i : Int)] w fun e w' => e = .returned (HdTup none) ∧ Below w.heap.size w w' := by
 obtain ⟨S0, hS0⟩ : ∃ S, str M = S := ⟨_, rfl⟩
 have he0 : ((e4 : Int) != 0) = false := by simp; omega
 have hlow : ¬ ((g : Int) < (v : Int)) := by omega
 have hfst : ¬ ((f : Int) < 1) := by omega
 have hrm := remN t 2
 obtain ⟨tp, htp⟩ : ∃ tp, t % 2 = tp := ⟨_, rfl⟩
 rw [htp] at hrm
 have hrm' : (t : Int).tmod 2 = (tp : Int) := hrm
 have hpar : ((tp : Int) != (i : Int)) = false := by simp; omega
 obtain ⟨SF, hSF⟩ : ∃ S, str (hsec ⟨t, f, g, v⟩) = S := ⟨_, rfl⟩
 have HHB := hide (fun W => rHeadBytes_any ⟨t, f, g, v⟩ W SF hSF)
 have hne : (SF.toList == s.toList) = false := by
  rw [beq_eq_false_iff_ne, ByteArray.toList_eq, ByteArray.toList_eq, hM, ← hSF, str_data]
  exact hu
 clear hSF hrm hu
 have HS0 := hide hS0
 have HM := hide hM
 have HL0 := hide hM60
 have H1 := hide h1
 have H2 := hide h2
 have H3 := hide h3
 have H4 := hide h4
 clear hS0 hM hM60 h1 h2 h3 h4
 go_enter Tryz.func68, Tryz.ntmps68
 go_wp2_with fail
 refine (rOpen_good s w M hs HM.out S0 HS0.out).mono ?_
 rintro e w1 ⟨rfl, hb1⟩
 have HB1 := hide hb1
 have hr0 := rr_new w1 S0
 have HB2 := hide (hb1.trans ((rr_below w1 S0).mono hb1.size))
 have hRl := hb1.size
 obtain ⟨R, hR⟩ : ∃ R, R = w1.heap.size := ⟨_, rfl⟩
 rw [← hR] at hr0 hRl
 rw [← HS0.out] at hr0
 clear hb1 HB1
 go_wp2_with fail
 rw [← hR]
 clear hR
 rw [HS0.out] at hr0
 generalize w1.alloc _ = w2 at *
 rw [← HS0.out] at hr0
 refine (rNumber_at R 0 M w2 hr0 HL0.out t l1 e1 H1.out).mono ?_
 rintro r w3 ⟨rfl, hr1, hg1, hl1⟩
 have HL1 := hide hl1
 have HB3 := hide (HB2.out.trans (only_below hg1 hRl hr0.lt))
 clear hg1 hr0 hl1 HB2
 go_wp2_with fail
 refine (rNumber_at R e1 l1 w3 hr1 HL1.out f l2 e2 H2.out).mono ?_
 rintro r w4 ⟨rfl, hr2, hg2, hl2⟩
 have HL2 := hide hl2
 have HB4 := hide (HB3.out.trans (only_below hg2 hRl hr1.lt))
 clear hg2 hr1 hl2 HB3
 go_wp2_with fail
 refine (rNumber_at R e2 l2 w4 hr2 HL2.out g l3 e3 H3.out).mono ?_
 rintro r w5 ⟨rfl, hr3, hg3, hl3⟩
 have HL3 := hide hl3
 have HB5 := hide (HB4.out.trans (only_below hg3 hRl hr2.lt))
 clear hg3 hr2 hl3 HB4
 go_wp2_with fail
 refine (rNumber_at R e3 l3 w5 hr3 HL3.out v l4 e4 H4.out).mono ?_
 rintro r w6 ⟨rfl, hr4, hg4, hl4⟩
 have HB6 := hide (HB5.out.trans (only_below hg4 hRl hr3.lt))
 have hc1 : w6.cell? ⟨R, 1, none⟩ = some (.int .i64 (e4 : Int)) := by have := hr4; unfold Rr at this; simp [World.cell?, this]
 clear hg4 hr3 hl4 HB5 hr4 hRl
 go_wp2_with fail
 refine (HHB.out w6).mono ?_
 rintro e w7 ⟨rfl, hb7⟩
 have HB7 := hide (HB6.out.trans (hb7.mono HB6.out.size))
 clear hb7 HB6
 go_wp2
 (try simp only [Exit.inBlock, Exit.then])
 refine bodyPost_ret (results_tmp4 rfl _ _ _) rfl ?_
 exact ⟨rfl, HB7.out⟩
set_option maxRecDepth 100000 in
set_option maxHeartbeats 2000000 in
theorem rHead_like (s : ByteArray) (i : Nat) (w : World) (M : List UInt8) (hs : s.size ≤ 1000000) (hM : s.data.toList = seal4 M) (hM60 : M.length ≤ 60) {l1 l2 l3 l4 : List UInt8} {t f g v e1 e2 e3 e4 : Nat} (h1 : rnum M 0 = (t, l1, e1)) (h2 : rnum l1 e1 = (f, l2, e2)) (h3 : rnum l2 e2 = (g, l3, e3)) (h4 : rnum l3 e3 = (v, l4, e4)) (he : e4 = 0) (hlow0 : v ≤ g) (hf0 : 1 ≤ f) (hp0 : t % 2 = i) (hu : hsec ⟨t, f, g, v⟩ = seal4 M) :
 Calls Tryz.prog 68 #[.string s, .int .i64 (i : Int)] w fun e w' => e = .returned (HdTup (some ⟨t, f, g, v⟩)) ∧ Below w.heap.size w w' := by
 obtain ⟨S0, hS0⟩ : ∃ S, str M = S := ⟨_, rfl⟩
 have he0 : ((e4 : Int) != 0) = false := by simp; omega
 have hlow : ¬ ((g : Int) < (v : Int)) := by omega
 have hfst : ¬ ((f : Int) < 1) := by omega
 have hrm := remN t 2
 obtain ⟨tp, htp⟩ : ∃ tp, t % 2 = tp := ⟨_, rfl⟩
 rw [htp] at hrm
 have hrm' : (t : Int).tmod 2 = (tp : Int) := hrm
 have hpar : ((tp : Int) != (i : Int)) = false := by simp; omega
 obtain ⟨SF, hSF⟩ : ∃ S, str (hsec ⟨t, f, g, v⟩) = S := ⟨_, rfl⟩
 have HHB := hide (fun W => rHeadBytes_any ⟨t, f, g, v⟩ W SF hSF)
 have hne : (SF.toList == s.toList) = true := by
  rw [beq_iff_eq, ByteArray.toList_eq, ByteArray.toList_eq, hM, ← hSF, str_data]
  exact hu
 clear hSF hrm hu
 have HS0 := hide hS0
 have HM := hide hM
 have HL0 := hide hM60
 have H1 := hide h1
 have H2 := hide h2
 have H3 := hide h3
 have H4 := hide h4
 clear hS0 hM hM60 h1 h2 h3 h4
 go_enter Tryz.func68, Tryz.ntmps68
 go_wp2_with fail
 refine (rOpen_good s w M hs HM.out S0 HS0.out).mono ?_
 rintro e w1 ⟨rfl, hb1⟩
 have HB1 := hide hb1
 have hr0 := rr_new w1 S0
 have HB2 := hide (hb1.trans ((rr_below w1 S0).mono hb1.size))
 have hRl := hb1.size
 obtain ⟨R, hR⟩ : ∃ R, R = w1.heap.size := ⟨_, rfl⟩
 rw [← hR] at hr0 hRl
 rw [← HS0.out] at hr0
 clear hb1 HB1
 go_wp2_with fail
 rw [← hR]
 clear hR
 rw [HS0.out] at hr0
 generalize w1.alloc _ = w2 at *
 rw [← HS0.out] at hr0
 refine (rNumber_at R 0 M w2 hr0 HL0.out t l1 e1 H1.out).mono ?_
 rintro r w3 ⟨rfl, hr1, hg1, hl1⟩
 have HL1 := hide hl1
 have HB3 := hide (HB2.out.trans (only_below hg1 hRl hr0.lt))
 clear hg1 hr0 hl1 HB2
 go_wp2_with fail
 refine (rNumber_at R e1 l1 w3 hr1 HL1.out f l2 e2 H2.out).mono ?_
 rintro r w4 ⟨rfl, hr2, hg2, hl2⟩
 have HL2 := hide hl2
 have HB4 := hide (HB3.out.trans (only_below hg2 hRl hr1.lt))
 clear hg2 hr1 hl2 HB3
 go_wp2_with fail
 refine (rNumber_at R e2 l2 w4 hr2 HL2.out g l3 e3 H3.out).mono ?_
 rintro r w5 ⟨rfl, hr3, hg3, hl3⟩
 have HL3 := hide hl3
 have HB5 := hide (HB4.out.trans (only_below hg3 hRl hr2.lt))
 clear hg3 hr2 hl3 HB4
 go_wp2_with fail
 refine (rNumber_at R e3 l3 w5 hr3 HL3.out v l4 e4 H4.out).mono ?_
 rintro r w6 ⟨rfl, hr4, hg4, hl4⟩
 have HB6 := hide (HB5.out.trans (only_below hg4 hRl hr3.lt))
 have hc1 : w6.cell? ⟨R, 1, none⟩ = some (.int .i64 (e4 : Int)) := by have := hr4; unfold Rr at this; simp [World.cell?, this]
 clear hg4 hr3 hl4 HB5 hr4 hRl
 go_wp2_with fail
 refine (HHB.out w6).mono ?_
 rintro e w7 ⟨rfl, hb7⟩
 have HB7 := hide (HB6.out.trans (hb7.mono HB6.out.size))
 clear hb7 HB6
 go_wp2
 (try simp only [Exit.inBlock, Exit.then])
 refine bodyPost_ret (results_tmp4 rfl _ _ _) rfl ?_
 exact ⟨rfl, HB7.out⟩
theorem rHead_any (s : ByteArray) (i : Nat) (w : World) (hs : s.size = 64) :
 Calls Tryz.prog 68 #[.string s, .int .i64 (i : Int)] w fun e w' => e = .returned (HdTup (unh i s.data.toList)) ∧ Below w.heap.size w w' := by
 by_cases hn : ∀ m, s.data.toList ≠ seal4 m
 ·rw [unh_none fun x _ => hn _]
  exact rHead_sum s i w (by omega) hn
 ·obtain ⟨M, hM⟩ : ∃ m, s.data.toList = seal4 m := by
   by_cases h : ∃ m, s.data.toList = seal4 m
   ·exact h
   ·exact absurd (fun m hm => h ⟨m, hm⟩) hn
  have hl : s.size = M.length + 4 := by rw [← size_eq s, hM, seal4_length]
  have hs' : s.size ≤ 1000000 := by omega
  have hM60 : M.length ≤ 60 := by omega
  obtain ⟨⟨t, l1, e1⟩, h1⟩ : ∃ x, rnum M 0 = x := ⟨_, rfl⟩
  obtain ⟨⟨f, l2, e2⟩, h2⟩ : ∃ x, rnum l1 e1 = x := ⟨_, rfl⟩
  obtain ⟨⟨g, l3, e3⟩, h3⟩ : ∃ x, rnum l2 e2 = x := ⟨_, rfl⟩
  obtain ⟨⟨v, l4, e4⟩, h4⟩ : ∃ x, rnum l3 e3 = x := ⟨_, rfl⟩
  rw [hM]
  by_cases he : e4 = 0
  ·by_cases hl0 : v ≤ g
   ·by_cases hf0 : 1 ≤ f
    ·by_cases hp0 : t % 2 = i
     ·by_cases hu : hsec ⟨t, f, g, v⟩ = seal4 M
      ·rw [unh_good h1 h2 h3 h4 hl0 hf0 hp0 hu]
       exact rHead_like s i w M hs' hM hM60 h1 h2 h3 h4 he hl0 hf0 hp0 hu
      ·rw [unh_bad h1 h2 h3 h4 (Or.inr (Or.inr (Or.inr (Or.inr hu))))]
       exact rHead_unlike s i w M hs' hM hM60 h1 h2 h3 h4 he hl0 hf0 hp0 hu
     ·rw [unh_bad h1 h2 h3 h4 (Or.inr (Or.inr (Or.inr (Or.inl hp0))))]
      exact rHead_turn s i w M hs' hM hM60 h1 h2 h3 h4 he hl0 hf0 hp0
    ·rw [unh_bad h1 h2 h3 h4 (Or.inr (Or.inr (Or.inl (by omega))))]
     exact rHead_first s i w M hs' hM hM60 h1 h2 h3 h4 he hl0 (by omega)
   ·rw [unh_bad h1 h2 h3 h4 (Or.inr (Or.inl (by omega)))]
    exact rHead_low s i w M hs' hM hM60 h1 h2 h3 h4 he (by omega)
  ·rw [unh_bad h1 h2 h3 h4 (Or.inl he)]
   exact rHead_err s i w M hs' hM hM60 h1 h2 h3 h4 he
end Go.Proofs.YtapiogcoipeinaaGreatDoor.Jn
namespace Go.Proofs.YtapiogcoipeinaaGreatDoor.Vo
open Go.RowKit
open Pk hiding str str_data str_size str_of run_str head_str str_append
open Sm hiding run_str
open Fa
open Rc hiding zer
open Dk Jn
theorem results_tmp3 {fn : Func} {t u v : Tmp} (h : fn.results = #[.tmp t, .tmp u, .tmp v]) (tmps : Array Value) (P : Program) (w : World) :
 (results fn tmps).run P w = .ok (.tuple #[tmps.getD t undef, tmps.getD u undef, tmps.getD v undef]) w := by
 simp [results, h]
theorem hm_chain {b : Nat} (hb : NumN b) {x : Hm} (k : MOk x) {M : List UInt8} (hM : M = pad (mbod b x)) {l1 l2 l3 d : List UInt8} {n bb e1 e2 e3 : Nat} (h1 : rnum M 0 = (n, l1, e1)) (h2 : rnum l1 e1 = (bb, l2, e2)) (h3 : rtext l2 e2 16 = (d, l3, e3)) : x = ⟨n, str d⟩ ∧ e3 = 0 := by
 subst hM
 refine ⟨by rw [← mgot_pad k hb]; exact mgot_step h1 h2 h3, ?_⟩
 have hs := k.num
 have hd := k.len
 unfold NumN at hs hb
 have e : ∀ n, NumN n → ∀ r, rnum (enc (clamp (n : Int)) ++ r) 0 = (n, r, 0) := fun n hn r => by
  rw [clampN hn]; exact rnum_enc _ _ (by unfold NumN at hn; omega)
 obtain ⟨z, hz⟩ : ∃ z, pad (mbod b x) = mbod b x ++ z := ⟨_, rfl⟩
 rw [hz, show mbod b x ++ z = enc (clamp x.s) ++ (enc (clamp b) ++ (enc x.d.size ++ x.d.data.toList ++ z)) by simp [mbod], e _ k.num] at h1
 cases h1
 rw [e _ hb] at h2
 cases h2
 have := rtext_enc x.d.data.toList z 16 (by rw [size_eq]; omega) (by rw [size_eq]; omega)
 rw [size_eq, h3] at this
 cases this
 rfl
theorem unm_bad {b : Nat} (hb : NumN b) {M : List UInt8} {l1 l2 l3 d : List UInt8} {n bb e1 e2 e3 : Nat} (hz : seal4 M ≠ Jn.zer) (h1 : rnum M 0 = (n, l1, e1)) (h2 : rnum l1 e1 = (bb, l2, e2)) (h3 : rtext l2 e2 16 = (d, l3, e3)) (hno : e3 ≠ 0 ∨ n < 1 ∨ msec b ⟨n, str d⟩ ≠ seal4 M) : unm b (seal4 M) = none := by
 refine unm_none fun x hx he => ?_
 rcases hx with rfl | hx
 ·exact hz (he.trans (hom_zero b))
 ·rw [hom_ok hx] at he
  obtain ⟨rfl, rfl⟩ := hm_chain hb hx (seal4_inj he) h1 h2 h3
  have l1 : 1 ≤ n := hx.pos
  rcases hno with h | h | h
  ·exact h rfl
  ·omega
  ·exact h he.symm
theorem unm_good {b : Nat} (hb : NumN b) {M : List UInt8} {l1 l2 l3 d : List UInt8} {n bb e1 e2 e3 : Nat} (h1 : rnum M 0 = (n, l1, e1)) (h2 : rnum l1 e1 = (bb, l2, e2)) (h3 : rtext l2 e2 16 = (d, l3, e3)) (hn : 1 ≤ n) (he : msec b ⟨n, str d⟩ = seal4 M) : unm b (seal4 M) = some ⟨n, str d⟩ := by
 have hm := mgot_step h1 h2 h3
 have b1 := mgot_num M
 have b2 := mgot_len M
 rw [hm] at b1 b2
 have hok : MOk ⟨n, str d⟩ := ⟨hn, b1, b2⟩
 rw [← he, ← hom_ok hok]
 exact unm_some (Or.inr hok) hb
set_option maxRecDepth 100000 in
set_option maxHeartbeats 2000000 in
theorem rPlace_any (h : Hm) (b : Nat) (w : World) (SF : ByteArray) (hSF : str (msec b h) = SF) (hd : h.d.size ≤ 16) :
 Calls Tryz.prog 54 #[.int .i64 (h.s : Int), .int .i64 (b : Int), .string h.d] w fun e w' => e = .returned (.string SF) ∧ Below w.heap.size w w' := by
 obtain ⟨S1, h1⟩ : ∃ S, str (enc (clamp h.s)) = S := ⟨_, rfl⟩
 obtain ⟨S2, h2⟩ : ∃ S, str (enc (clamp b)) = S := ⟨_, rfl⟩
 obtain ⟨S3, h3⟩ : ∃ S, str (enc h.d.size ++ h.d.data.toList) = S := ⟨_, rfl⟩
 obtain ⟨S12, h12⟩ : ∃ S, str (enc (clamp h.s) ++ enc (clamp b)) = S := ⟨_, rfl⟩
 obtain ⟨SB, hSB⟩ : ∃ S, str (mbod b h) = S := ⟨_, rfl⟩
 have q1 := enc_le (clamp h.s)
 have q2 := enc_le (clamp b)
 have q3 := enc_le h.d.size
 have q4 := size_eq h.d
 have hL := mbod_le hd b
 have ha1 := fun W => add_run (enc (clamp h.s)) (enc (clamp b)) (by omega) S1 S2 S12 h1 h2 h12 W
 have ha2 := fun W => add_run (enc (clamp h.s) ++ enc (clamp b)) (enc h.d.size ++ h.d.data.toList) (by simp only [List.length_append]; omega) S12 S3 SB h12 h3 (by rw [← hSB]; simp [mbod]) W
 have HN1 := hide (fun W => rNum_told h.s W S1 h1)
 have HN2 := hide (fun W => rNum_told b W S2 h2)
 have HN3 := hide (fun W => rTxt_told h.d W (by omega) S3 h3)
 have hSsz : SB.size ≤ 60 := by rw [← hSB, str_size]; exact hL
 have HS := hide (fun W => rSector_told SB W hSsz SF (by rw [← hSF, ← hSB]; rfl))
 clear h1 h2 h3 h12 hSB q1 q2 q3 q4 hSsz hSF hL hd
 go_enter Tryz.func54, Tryz.ntmps54
 go_wp2_with fail
 refine (HN1.out _).mono ?_
 rintro e w1 ⟨rfl, hb1⟩
 have HB1 := hide hb1
 clear hb1
 go_wp2_with fail
 refine (HN2.out _).mono ?_
 rintro e w2 ⟨rfl, hb2⟩
 have HB2 := hide (HB1.out.trans (hb2.mono HB1.out.size))
 clear hb2 HB1
 go_wp2_with fail
 refine (HN3.out _).mono ?_
 rintro e w3 ⟨rfl, hb3⟩
 have HB3 := hide (HB2.out.trans (hb3.mono HB2.out.size))
 clear hb3 HB2
 go_wp2_with fail
 refine (HS.out _).mono ?_
 rintro e w5 ⟨rfl, hb5⟩
 have HB5 := hide (HB3.out.trans (hb5.mono HB3.out.size))
 clear hb5 HB3
 go_wp2
 go_ret
 exact ⟨rfl, HB5.out⟩
def HmTup : Option Hm → Value
 | some h => .tuple #[.int .i64 (h.s : Int), .string h.d, .bool true]
 | none => .tuple #[.int .i64 0, .string ⟨#[]⟩, .bool false]
theorem zero_cells : (madeCells #[.int .u8 0] 64).toList = cels Jn.zer := by kernel_rfl
set_option maxRecDepth 100000 in
set_option maxHeartbeats 2000000 in
theorem rTold_zero (s : ByteArray) (b : Nat) (w : World) (hz : s.data.toList = Jn.zer) :
 Calls Tryz.prog 41 #[.string s, .int .i64 (b : Int)] w fun e w' => e = .returned (HmTup (some hm0)) ∧ Below w.heap.size w w' := by
 obtain ⟨i0, hi0, hz0, hz1, hz2⟩ := info_parts u8_info
 have Hz := hide hz1
 have Hz2 := hide hz2
 obtain ⟨SZ, hSZ⟩ : ∃ S, str Jn.zer = S := ⟨_, rfl⟩
 have heqz : (s.toList == SZ.toList) = true := by
  rw [beq_iff_eq, ByteArray.toList_eq, ByteArray.toList_eq, ← hSZ, str_data]
  exact hz
 have HSZ := hide hSZ
 clear hSZ hz
 clear hz1 hz2
 go_enter Tryz.func41, Tryz.ntmps41
 go_wp2_with (with_reducible refine wpList_make_told rfl 70 _ _ rfl 5 i0 _ Tryz.underlying70 hi0 hz0 .i64 .i64 64 64 rfl rfl (by omega) (by rw [Hz2.out]; decide) (by omega) 1 Hz.out ?_)
 intro wz Hwz
 have HBZ : Hid (Below w.heap.size w wz) := by rw [Hwz.out]; exact (Below.refl _ _).alloc (Nat.le_refl _) _
 have hgz : wz.heap[w.heap.size]? = some (.cells (cels Jn.zer).toArray 5 (0, 0)) := by
  rw [Hwz.out]
  refine (heap_alloc_new w _).trans ?_
  rw [← zero_cells, Array.toArray_toList]
 have hrun := Sm.run_str wz _ _ Jn.zer 64 64 rfl (Sm.byt_row hgz)
 rw [HSZ.out] at hrun
 clear hgz Hwz
 go_wp2
 (try simp only [Exit.inBlock, Exit.then])
 refine bodyPost_ret (results_tmp3 rfl _ _ _) rfl ?_
 exact ⟨rfl, HBZ.out⟩
set_option maxRecDepth 100000 in
set_option maxHeartbeats 2000000 in
theorem rTold_sum (s : ByteArray) (b : Nat) (w : World) (hs : s.size ≤ 1000000) (hz : ¬ s.data.toList = Jn.zer) (hno : ∀ m, s.data.toList ≠ seal4 m) :
 Calls Tryz.prog 41 #[.string s, .int .i64 (b : Int)] w fun e w' => e = .returned (HmTup none) ∧ Below w.heap.size w w' := by
 have Hno := hide hno
 clear hno
 obtain ⟨i0, hi0, hz0, hz1, hz2⟩ := info_parts u8_info
 have Hz := hide hz1
 have Hz2 := hide hz2
 obtain ⟨SZ, hSZ⟩ : ∃ S, str Jn.zer = S := ⟨_, rfl⟩
 have heqz : (s.toList == SZ.toList) = false := by
  rw [beq_eq_false_iff_ne, ne_eq, ByteArray.toList_eq, ByteArray.toList_eq, ← hSZ, str_data]
  exact hz
 have HSZ := hide hSZ
 clear hSZ hz
 clear hz1 hz2
 go_enter Tryz.func41, Tryz.ntmps41
 go_wp2_with (with_reducible refine wpList_make_told rfl 70 _ _ rfl 5 i0 _ Tryz.underlying70 hi0 hz0 .i64 .i64 64 64 rfl rfl (by omega) (by rw [Hz2.out]; decide) (by omega) 1 Hz.out ?_)
 intro wz Hwz
 have HBZ : Hid (Below w.heap.size w wz) := by rw [Hwz.out]; exact (Below.refl _ _).alloc (Nat.le_refl _) _
 have hgz : wz.heap[w.heap.size]? = some (.cells (cels Jn.zer).toArray 5 (0, 0)) := by
  rw [Hwz.out]
  refine (heap_alloc_new w _).trans ?_
  rw [← zero_cells, Array.toArray_toList]
 have hrun := Sm.run_str wz _ _ Jn.zer 64 64 rfl (Sm.byt_row hgz)
 rw [HSZ.out] at hrun
 clear hgz Hwz
 go_wp2_with fail
 refine (rOpen_bad s wz hs Hno.out).mono ?_
 rintro e w1 ⟨rfl, hb1⟩
 have HB1 := hide (HBZ.out.trans (hb1.mono HBZ.out.size))
 clear hb1 HBZ
 go_wp2
 (try simp only [Exit.inBlock, Exit.then])
 refine bodyPost_ret (results_tmp3 rfl _ _ _) rfl ?_
 exact ⟨rfl, HB1.out⟩
set_option maxRecDepth 100000 in
set_option maxHeartbeats 2000000 in
theorem rTold_err (s : ByteArray) (b : Nat) (w : World) (M : List UInt8) (hs : s.size ≤ 1000000) (hz : ¬ s.data.toList = Jn.zer) (hM : s.data.toList = seal4 M) (hM60 : M.length ≤ 60) {l1 l2 l3 d : List UInt8} {n bb e1 e2 e3 : Nat} (h1 : rnum M 0 = (n, l1, e1)) (h2 : rnum l1 e1 = (bb, l2, e2)) (h3 : rtext l2 e2 16 = (d, l3, e3)) (_ : (str d).size ≤ 16) (he : e3 ≠ 0) :
 Calls Tryz.prog 41 #[.string s, .int .i64 (b : Int)] w fun e w' => e = .returned (HmTup none) ∧ Below w.heap.size w w' := by
 obtain ⟨S0, hS0⟩ : ∃ S, str M = S := ⟨_, rfl⟩
 obtain ⟨SD, hSD⟩ : ∃ S, str d = S := ⟨_, rfl⟩
 have he0 : ((e3 : Int) != 0) = true := by simp; omega
 clear he
 obtain ⟨i0, hi0, hz0, hz1, hz2⟩ := info_parts u8_info
 have Hz := hide hz1
 have Hz2 := hide hz2
 obtain ⟨SZ, hSZ⟩ : ∃ S, str Jn.zer = S := ⟨_, rfl⟩
 have heqz : (s.toList == SZ.toList) = false := by
  rw [beq_eq_false_iff_ne, ne_eq, ByteArray.toList_eq, ByteArray.toList_eq, ← hSZ, str_data]
  exact hz
 have HSZ := hide hSZ
 clear hSZ hz
 clear hz1 hz2
 have HS0 := hide hS0
 have HSD := hide hSD
 have HM := hide hM
 have HL0 := hide hM60
 have H1 := hide h1
 have H2 := hide h2
 have H3 := hide h3
 clear hS0 hM hM60 h1 h2 h3 hSD
 go_enter Tryz.func41, Tryz.ntmps41
 go_wp2_with (with_reducible refine wpList_make_told rfl 70 _ _ rfl 5 i0 _ Tryz.underlying70 hi0 hz0 .i64 .i64 64 64 rfl rfl (by omega) (by rw [Hz2.out]; decide) (by omega) 1 Hz.out ?_)
 intro wz Hwz
 have HBZ : Hid (Below w.heap.size w wz) := by rw [Hwz.out]; exact (Below.refl _ _).alloc (Nat.le_refl _) _
 have hgz : wz.heap[w.heap.size]? = some (.cells (cels Jn.zer).toArray 5 (0, 0)) := by
  rw [Hwz.out]
  refine (heap_alloc_new w _).trans ?_
  rw [← zero_cells, Array.toArray_toList]
 have hrun := Sm.run_str wz _ _ Jn.zer 64 64 rfl (Sm.byt_row hgz)
 rw [HSZ.out] at hrun
 clear hgz Hwz
 go_wp2_with fail
 refine (rOpen_good s wz M hs HM.out S0 HS0.out).mono ?_
 rintro e w1 ⟨rfl, hb1'⟩
 have hb1 := HBZ.out.trans (hb1'.mono HBZ.out.size)
 have hr0 := rr_new w1 S0
 have HB2 := hide (hb1.trans ((rr_below w1 S0).mono hb1.size))
 have hRl := hb1.size
 obtain ⟨R, hR⟩ : ∃ R, R = w1.heap.size := ⟨_, rfl⟩
 rw [← hR] at hr0 hRl
 rw [← HS0.out] at hr0
 clear hb1 hb1' HBZ hrun
 go_wp2_with fail
 rw [← hR]
 clear hR
 rw [HS0.out] at hr0
 generalize w1.alloc _ = w2 at *
 rw [← HS0.out] at hr0
 refine (rNumber_at R 0 M w2 hr0 HL0.out n l1 e1 H1.out).mono ?_
 rintro r w3 ⟨rfl, hr1, hg1, hl1⟩
 have HL1 := hide hl1
 have HB3 := hide (HB2.out.trans (only_below hg1 hRl hr0.lt))
 clear hg1 hr0 hl1 HB2
 go_wp2_with fail
 refine (rNumber_at R e1 l1 w3 hr1 HL1.out bb l2 e2 H2.out).mono ?_
 rintro r w4 ⟨rfl, hr2, hg2, hl2⟩
 have HL2 := hide hl2
 have HB4 := hide (HB3.out.trans (only_below hg2 hRl hr1.lt))
 clear hg2 hr1 hl2 HB3
 go_wp2_with fail
 refine (rText_at R e2 l2 w4 hr2 HL2.out d l3 e3 H3.out).mono ?_
 rintro r w5 ⟨rfl, hr3, hg3⟩
 rw [HSD.out]
 have HB5 := hide (HB4.out.trans (only_below hg3 hRl hr2.lt))
 have hc1 : w5.cell? ⟨R, 1, none⟩ = some (.int .i64 (e3 : Int)) := by have := hr3; unfold Rr at this; simp [World.cell?, this]
 clear hg3 hr2 HB4 hr3 hRl
 go_wp2
 (try simp only [Exit.inBlock, Exit.then])
 refine bodyPost_ret (results_tmp3 rfl _ _ _) rfl ?_
 exact ⟨rfl, HB5.out⟩
set_option maxRecDepth 100000 in
set_option maxHeartbeats 2000000 in
theorem rTold_low (s : ByteArray) (b : Nat) (w : World) (M : List UInt8) (hs : s.size ≤ 1000000) (hz : ¬ s.data.toList = Jn.zer) (hM : s.data.toList = seal4 M) (hM60 : M.length ≤ 60) {l1 l2 l3 d : List UInt8} {n bb e1 e2 e3 : Nat} (h1 : rnum M 0 = (n, l1, e1)) (h2 : rnum l1 e1 = (bb, l2, e2)) (h3 : rtext l2 e2 16 = (d, l3, e3)) (_ : (str d).size ≤ 16) (he : e3 = 0) (hn : n < 1) :
 Calls Tryz.prog 41 #[.string s, .int .i64 (b : Int)] w fun e w' => e = .returned (HmTup none) ∧ Below w.heap.size w w' := by
 obtain ⟨S0, hS0⟩ : ∃ S, str M = S := ⟨_, rfl⟩
 obtain ⟨SD, hSD⟩ : ∃ S, str d = S := ⟨_, rfl⟩
 have he0 : ((e3 : Int) != 0) = false := by simp; omega
 have hn1 : (n : Int) < 1 := by omega
 clear he hn
 obtain ⟨i0, hi0, hz0, hz1, hz2⟩ := info_parts u8_info
 have Hz := hide hz1
 have Hz2 := hide hz2
 obtain ⟨SZ, hSZ⟩ : ∃ S, str Jn.zer = S := ⟨_, rfl⟩
 have heqz : (s.toList == SZ.toList) = false := by
  rw [beq_eq_false_iff_ne, ne_eq, ByteArray.toList_eq, ByteArray.toList_eq, ← hSZ, str_data]
  exact hz
 have HSZ := hide hSZ
 clear hSZ hz
 clear hz1 hz2
 have HS0 := hide hS0
 have HSD := hide hSD
 have HM := hide hM
 have HL0 := hide hM60
 have H1 := hide h1
 have H2 := hide h2
 have H3 := hide h3
 clear hS0 hM hM60 h1 h2 h3 hSD
 go_enter Tryz.func41, Tryz.ntmps41
 go_wp2_with (with_reducible refine wpList_make_told rfl 70 _ _ rfl 5 i0 _ Tryz.underlying70 hi0 hz0 .i64 .i64 64 64 rfl rfl (by omega) (by rw [Hz2.out]; decide) (by omega) 1 Hz.out ?_)
 intro wz Hwz
 have HBZ : Hid (Below w.heap.size w wz) := by rw [Hwz.out]; exact (Below.refl _ _).alloc (Nat.le_refl _) _
 have hgz : wz.heap[w.heap.size]? = some (.cells (cels Jn.zer).toArray 5 (0, 0)) := by
  rw [Hwz.out]
  refine (heap_alloc_new w _).trans ?_
  rw [← zero_cells, Array.toArray_toList]
 have hrun := Sm.run_str wz _ _ Jn.zer 64 64 rfl (Sm.byt_row hgz)
 rw [HSZ.out] at hrun
 clear hgz Hwz
 go_wp2_with fail
 refine (rOpen_good s wz M hs HM.out S0 HS0.out).mono ?_
 rintro e w1 ⟨rfl, hb1'⟩
 have hb1 := HBZ.out.trans (hb1'.mono HBZ.out.size)
 have hr0 := rr_new w1 S0
 have HB2 := hide (hb1.trans ((rr_below w1 S0).mono hb1.size))
 have hRl := hb1.size
 obtain ⟨R, hR⟩ : ∃ R, R = w1.heap.size := ⟨_, rfl⟩
 rw [← hR] at hr0 hRl
 rw [← HS0.out] at hr0
 clear hb1 hb1' HBZ hrun
 go_wp2_with fail
 rw [← hR]
 clear hR
 rw [HS0.out] at hr0
 generalize w1.alloc _ = w2 at *
 rw [← HS0.out] at hr0
 refine (rNumber_at R 0 M w2 hr0 HL0.out n l1 e1 H1.out).mono ?_
 rintro r w3 ⟨rfl, hr1, hg1, hl1⟩
 have HL1 := hide hl1
 have HB3 := hide (HB2.out.trans (only_below hg1 hRl hr0.lt))
 clear hg1 hr0 hl1 HB2
 go_wp2_with fail
 refine (rNumber_at R e1 l1 w3 hr1 HL1.out bb l2 e2 H2.out).mono ?_
 rintro r w4 ⟨rfl, hr2, hg2, hl2⟩
 have HL2 := hide hl2
 have HB4 := hide (HB3.out.trans (only_below hg2 hRl hr1.lt))
 clear hg2 hr1 hl2 HB3
 go_wp2_with fail
 refine (rText_at R e2 l2 w4 hr2 HL2.out d l3 e3 H3.out).mono ?_
 rintro r w5 ⟨rfl, hr3, hg3⟩
 rw [HSD.out]
 have HB5 := hide (HB4.out.trans (only_below hg3 hRl hr2.lt))
 have hc1 : w5.cell? ⟨R, 1, none⟩ = some (.int .i64 (e3 : Int)) := by have := hr3; unfold Rr at this; simp [World.cell?, this]
 clear hg3 hr2 HB4 hr3 hRl
 go_wp2
 (try simp only [Exit.inBlock, Exit.then])
 refine bodyPost_ret (results_tmp3 rfl _ _ _) rfl ?_
 exact ⟨rfl, HB5.out⟩
set_option maxRecDepth 100000 in
set_option maxHeartbeats 2000000 in
theorem rTold_unlike (s : ByteArray) (b : Nat) (w : World) (M : List UInt8) (hs : s.size ≤ 1000000) (hz : ¬ s.data.toList = Jn.zer) (hM : s.data.toList = seal4 M) (hM60 : M.length ≤ 60) {l1 l2 l3 d : List UInt8} {n bb e1 e2 e3 : Nat} (h1 : rnum M 0 = (n, l1, e1)) (h2 : rnum l1 e1 = (bb, l2, e2)) (h3 : rtext l2 e2 16 = (d, l3, e3)) (hd16 : (str d).size ≤ 16) (he : e3 = 0) (hn : 1 ≤ n) (hu : ¬ msec b ⟨n, str d⟩ = seal4 M) :
 Calls Tryz.prog 41 #[.string s, .int .i64 (b : Int)] w fun e w' => e = .returned (HmTup none) ∧ Below w.heap.size w w' := by
 obtain ⟨S0, hS0⟩ : ∃ S, str M = S := ⟨_, rfl⟩
 obtain ⟨SD, hSD⟩ : ∃ S, str d = S := ⟨_, rfl⟩
 have he0 : ((e3 : Int) != 0) = false := by simp; omega
 have hn1 : ¬ ((n : Int) < 1) := by omega
 obtain ⟨SF, hSF⟩ : ∃ S, str (msec b ⟨n, str d⟩) = S := ⟨_, rfl⟩
 have HPL := hide (fun W => rPlace_any ⟨n, str d⟩ b W SF hSF hd16)
 rw [hSD] at HPL
 have hne : (SF.toList == s.toList) = false := by
  rw [beq_eq_false_iff_ne, ne_eq, ByteArray.toList_eq, ByteArray.toList_eq, hM, ← hSF, str_data]
  exact hu
 clear hSF hu he hn
 obtain ⟨i0, hi0, hz0, hz1, hz2⟩ := info_parts u8_info
 have Hz := hide hz1
 have Hz2 := hide hz2
 obtain ⟨SZ, hSZ⟩ : ∃ S, str Jn.zer = S := ⟨_, rfl⟩
 have heqz : (s.toList == SZ.toList) = false := by
  rw [beq_eq_false_iff_ne, ne_eq, ByteArray.toList_eq, ByteArray.toList_eq, ← hSZ, str_data]
  exact hz
 have HSZ := hide hSZ
 clear hSZ hz
 clear hz1 hz2
 have HS0 := hide hS0
 have HSD := hide hSD
 have HM := hide hM
 have HL0 := hide hM60
 have H1 := hide h1
 have H2 := hide h2
 have H3 := hide h3
 clear hS0 hM hM60 h1 h2 h3 hSD hd16
 go_enter Tryz.func41, Tryz.ntmps41
 go_wp2_with (with_reducible refine wpList_make_told rfl 70 _ _ rfl 5 i0 _ Tryz.underlying70 hi0 hz0 .i64 .i64 64 64 rfl rfl (by omega) (by rw [Hz2.out]; decide) (by omega) 1 Hz.out ?_)
 intro wz Hwz
 have HBZ : Hid (Below w.heap.size w wz) := by rw [Hwz.out]; exact (Below.refl _ _).alloc (Nat.le_refl _) _
 have hgz : wz.heap[w.heap.size]? = some (.cells (cels Jn.zer).toArray 5 (0, 0)) := by
  rw [Hwz.out]
  refine (heap_alloc_new w _).trans ?_
  rw [← zero_cells, Array.toArray_toList]
 have hrun := Sm.run_str wz _ _ Jn.zer 64 64 rfl (Sm.byt_row hgz)
 rw [HSZ.out] at hrun
 clear hgz Hwz
 go_wp2_with fail
 refine (rOpen_good s wz M hs HM.out S0 HS0.out).mono ?_
 rintro e w1 ⟨rfl, hb1'⟩
 have hb1 := HBZ.out.trans (hb1'.mono HBZ.out.size)
 have hr0 := rr_new w1 S0
 have HB2 := hide (hb1.trans ((rr_below w1 S0).mono hb1.size))
 have hRl := hb1.size
 obtain ⟨R, hR⟩ : ∃ R, R = w1.heap.size := ⟨_, rfl⟩
 rw [← hR] at hr0 hRl
 rw [← HS0.out] at hr0
 clear hb1 hb1' HBZ hrun
 go_wp2_with fail
 rw [← hR]
 clear hR
 rw [HS0.out] at hr0
 generalize w1.alloc _ = w2 at *
 rw [← HS0.out] at hr0
 refine (rNumber_at R 0 M w2 hr0 HL0.out n l1 e1 H1.out).mono ?_
 rintro r w3 ⟨rfl, hr1, hg1, hl1⟩
 have HL1 := hide hl1
 have HB3 := hide (HB2.out.trans (only_below hg1 hRl hr0.lt))
 clear hg1 hr0 hl1 HB2
 go_wp2_with fail
 refine (rNumber_at R e1 l1 w3 hr1 HL1.out bb l2 e2 H2.out).mono ?_
 rintro r w4 ⟨rfl, hr2, hg2, hl2⟩
 have HL2 := hide hl2
 have HB4 := hide (HB3.out.trans (only_below hg2 hRl hr1.lt))
 clear hg2 hr1 hl2 HB3
 go_wp2_with fail
 refine (rText_at R e2 l2 w4 hr2 HL2.out d l3 e3 H3.out).mono ?_
 rintro r w5 ⟨rfl, hr3, hg3⟩
 rw [HSD.out]
 have HB5 := hide (HB4.out.trans (only_below hg3 hRl hr2.lt))
 have hc1 : w5.cell? ⟨R, 1, none⟩ = some (.int .i64 (e3 : Int)) := by have := hr3; unfold Rr at this; simp [World.cell?, this]
 clear hg3 hr2 HB4 hr3 hRl
 go_wp2_with fail
 refine (HPL.out w5).mono ?_
 rintro e w7 ⟨rfl, hb7⟩
 have HB7 := hide (HB5.out.trans (hb7.mono HB5.out.size))
 clear hb7 HB5
 go_wp2
 (try simp only [Exit.inBlock, Exit.then])
 refine bodyPost_ret (results_tmp3 rfl _ _ _) rfl ?_
 exact ⟨rfl, HB7.out⟩
set_option maxRecDepth 100000 in
set_option maxHeartbeats 2000000 in
theorem rTold_like (s : ByteArray) (b : Nat) (w : World) (M : List UInt8) (hs : s.size ≤ 1000000) (hz : ¬ s.data.toList = Jn.zer) (hM : s.data.toList = seal4 M) (hM60 : M.length ≤ 60) {l1 l2 l3 d : List UInt8} {n bb e1 e2 e3 : Nat} (h1 : rnum M 0 = (n, l1, e1)) (h2 : rnum l1 e1 = (bb, l2, e2)) (h3 : rtext l2 e2 16 = (d, l3, e3)) (hd16 : (str d).size ≤ 16) (he : e3 = 0) (hn : 1 ≤ n) (hu : msec b ⟨n, str d⟩ = seal4 M) :
 Calls Tryz.prog 41 #[.string s, .int .i64 (b : Int)] w fun e w' => e = .returned (HmTup (some ⟨n, str d⟩)) ∧ Below w.heap.size w w' := by
 obtain ⟨S0, hS0⟩ : ∃ S, str M = S := ⟨_, rfl⟩
 obtain ⟨SD, hSD⟩ : ∃ S, str d = S := ⟨_, rfl⟩
 have he0 : ((e3 : Int) != 0) = false := by simp; omega
 have hn1 : ¬ ((n : Int) < 1) := by omega
 obtain ⟨SF, hSF⟩ : ∃ S, str (msec b ⟨n, str d⟩) = S := ⟨_, rfl⟩
 have HPL := hide (fun W => rPlace_any ⟨n, str d⟩ b W SF hSF hd16)
 rw [hSD] at HPL
 have hne : (SF.toList == s.toList) = true := by
  rw [beq_iff_eq, ByteArray.toList_eq, ByteArray.toList_eq, hM, ← hSF, str_data]
  exact hu
 clear hSF hu he hn
 obtain ⟨i0, hi0, hz0, hz1, hz2⟩ := info_parts u8_info
 have Hz := hide hz1
 have Hz2 := hide hz2
 obtain ⟨SZ, hSZ⟩ : ∃ S, str Jn.zer = S := ⟨_, rfl⟩
 have heqz : (s.toList == SZ.toList) = false := by
  rw [beq_eq_false_iff_ne, ne_eq, ByteArray.toList_eq, ByteArray.toList_eq, ← hSZ, str_data]
  exact hz
 have HSZ := hide hSZ
 clear hSZ hz
 clear hz1 hz2
 have HS0 := hide hS0
 have HSD := hide hSD
 have HM := hide hM
 have HL0 := hide hM60
 have H1 := hide h1
 have H2 := hide h2
 have H3 := hide h3
 clear hS0 hM hM60 h1 h2 h3 hSD hd16
 go_enter Tryz.func41, Tryz.ntmps41
 go_wp2_with (with_reducible refine wpList_make_told rfl 70 _ _ rfl 5 i0 _ Tryz.underlying70 hi0 hz0 .i64 .i64 64 64 rfl rfl (by omega) (by rw [Hz2.out]; decide) (by omega) 1 Hz.out ?_)
 intro wz Hwz
 have HBZ : Hid (Below w.heap.size w wz) := by rw [Hwz.out]; exact (Below.refl _ _).alloc (Nat.le_refl _) _
 have hgz : wz.heap[w.heap.size]? = some (.cells (cels Jn.zer).toArray 5 (0, 0)) := by
  rw [Hwz.out]
  refine (heap_alloc_new w _).trans ?_
  rw [← zero_cells, Array.toArray_toList]
 have hrun := Sm.run_str wz _ _ Jn.zer 64 64 rfl (Sm.byt_row hgz)
 rw [HSZ.out] at hrun
 clear hgz Hwz
 go_wp2_with fail
 refine (rOpen_good s wz M hs HM.out S0 HS0.out).mono ?_
 rintro e w1 ⟨rfl, hb1'⟩
 have hb1 := HBZ.out.trans (hb1'.mono HBZ.out.size)
 have hr0 := rr_new w1 S0
 have HB2 := hide (hb1.trans ((rr_below w1 S0).mono hb1.size))
 have hRl := hb1.size
 obtain ⟨R, hR⟩ : ∃ R, R = w1.heap.size := ⟨_, rfl⟩
 rw [← hR] at hr0 hRl
 rw [← HS0.out] at hr0
 clear hb1 hb1' HBZ hrun
 go_wp2_with fail
 rw [← hR]
 clear hR
 rw [HS0.out] at hr0
 generalize w1.alloc _ = w2 at *
 rw [← HS0.out] at hr0
 refine (rNumber_at R 0 M w2 hr0 HL0.out n l1 e1 H1.out).mono ?_
 rintro r w3 ⟨rfl, hr1, hg1, hl1⟩
 have HL1 := hide hl1
 have HB3 := hide (HB2.out.trans (only_below hg1 hRl hr0.lt))
 clear hg1 hr0 hl1 HB2
 go_wp2_with fail
 refine (rNumber_at R e1 l1 w3 hr1 HL1.out bb l2 e2 H2.out).mono ?_
 rintro r w4 ⟨rfl, hr2, hg2, hl2⟩
 have HL2 := hide hl2
 have HB4 := hide (HB3.out.trans (only_below hg2 hRl hr1.lt))
 clear hg2 hr1 hl2 HB3
 go_wp2_with fail
 refine (rText_at R e2 l2 w4 hr2 HL2.out d l3 e3 H3.out).mono ?_
 rintro r w5 ⟨rfl, hr3, hg3⟩
 rw [HSD.out]
 have HB5 := hide (HB4.out.trans (only_below hg3 hRl hr2.lt))
 have hc1 : w5.cell? ⟨R, 1, none⟩ = some (.int .i64 (e3 : Int)) := by have := hr3; unfold Rr at this; simp [World.cell?, this]
 clear hg3 hr2 HB4 hr3 hRl
 go_wp2_with fail
 refine (HPL.out w5).mono ?_
 rintro e w7 ⟨rfl, hb7⟩
 have HB7 := hide (HB5.out.trans (hb7.mono HB5.out.size))
 clear hb7 HB5
 go_wp2
 (try simp only [Exit.inBlock, Exit.then])
 refine bodyPost_ret (results_tmp3 rfl _ _ _) rfl ?_
 exact ⟨by rw [HSD.out]; rfl, HB7.out⟩
theorem rTold_any (s : ByteArray) (b : Nat) (hb : NumN b) (w : World) (hs : s.size = 64) :
 Calls Tryz.prog 41 #[.string s, .int .i64 (b : Int)] w fun e w' => e = .returned (HmTup (unm b s.data.toList)) ∧ Below w.heap.size w w' := by
 by_cases hz : s.data.toList = Jn.zer
 ·have := unm_some (b := b) (x := hm0) (Or.inl rfl) hb
  rw [hom_zero] at this
  rw [hz, this]
  exact rTold_zero s b w hz
 ·by_cases hn : ∀ m, s.data.toList ≠ seal4 m
  ·rw [unm_none fun x hx he => by
    rcases hx with rfl | hx
    ·exact hz (he.trans (hom_zero b))
    ·exact hn _ (he.trans (hom_ok hx))]
   exact rTold_sum s b w (by omega) hz hn
  ·obtain ⟨M, hM⟩ : ∃ m, s.data.toList = seal4 m := by
    by_cases h : ∃ m, s.data.toList = seal4 m
    ·exact h
    ·exact absurd (fun m hm => h ⟨m, hm⟩) hn
   have hl : s.size = M.length + 4 := by rw [← size_eq s, hM, seal4_length]
   have hs' : s.size ≤ 1000000 := by omega
   have hM60 : M.length ≤ 60 := by omega
   obtain ⟨⟨t, l1, e1⟩, h1⟩ : ∃ x, rnum M 0 = x := ⟨_, rfl⟩
   obtain ⟨⟨f, l2, e2⟩, h2⟩ : ∃ x, rnum l1 e1 = x := ⟨_, rfl⟩
   obtain ⟨⟨d, l3, e3⟩, h3⟩ : ∃ x, rtext l2 e2 16 = x := ⟨_, rfl⟩
   have hd16 : (str d).size ≤ 16 := by
    have := mgot_len M
    rwa [mgot_step h1 h2 h3] at this
   have hz' : seal4 M ≠ Jn.zer := fun e => hz (hM.trans e)
   rw [hM]
   by_cases he : e3 = 0
   ·by_cases hn1 : 1 ≤ t
    ·by_cases hu : msec b ⟨t, str d⟩ = seal4 M
     ·rw [unm_good hb h1 h2 h3 hn1 hu]
      exact rTold_like s b w M hs' hz hM hM60 h1 h2 h3 hd16 he hn1 hu
     ·rw [unm_bad hb hz' h1 h2 h3 (Or.inr (Or.inr hu))]
      exact rTold_unlike s b w M hs' hz hM hM60 h1 h2 h3 hd16 he hn1 hu
    ·rw [unm_bad hb hz' h1 h2 h3 (Or.inr (Or.inl (by omega)))]
     exact rTold_low s b w M hs' hz hM hM60 h1 h2 h3 hd16 he (by omega)
   ·rw [unm_bad hb hz' h1 h2 h3 (Or.inl he)]
    exact rTold_err s b w M hs' hz hM hM60 h1 h2 h3 hd16 he
end Go.Proofs.YtapiogcoipeinaaGreatDoor.Vo
namespace Go.Proofs.YtapiogcoipeinaaGreatDoor.Jn
open Go.RowKit
open Pk hiding str str_data str_size str_of run_str head_str str_append
open Sm hiding run_str
open Fa Rc Dk
theorem RjAt.heads {w : World} {J : Nat → Prop} {p q n : Nat} {h : Hd} {E F : List Ent} {X Y : Value} (j : RjAt w J p q n h E F X Y) : w.cell? ⟨p, 0, none⟩ = some (.pointer (some ⟨q, 0, none⟩)) ∧ w.cell? ⟨p, 2, none⟩ = some (.int .i64 (h.t : Int)) ∧ w.cell? ⟨p, 3, none⟩ = some (.int .i64 (h.f : Int)) ∧ w.cell? ⟨p, 4, none⟩ = some (.int .i64 (h.g : Int)) ∧ w.cell? ⟨p, 5, none⟩ = some (.int .i64 (h.l : Int)) := by
 refine ⟨?_, ?_, ?_, ?_, ?_⟩ <;> simp [World.cell?, j.box]
theorem RjAt.ring {w : World} {J : Nat → Prop} {p q n : Nat} {h : Hd} {E F : List Ent} {X Y : Value} (j : RjAt w J p q n h E F X Y) : w.cell? ⟨p, 1, none⟩ = some (.int .i64 (n : Int)) := by simp [World.cell?, j.box]
theorem int_info : (Tryz.prog.info? 3).map (fun i => (i.zero, i.size, i.bytes)) = some (some (.int .i64 0), 1, 8) := by kernel_rfl
section
variable (w : World) (G : Nat → Prop) (p q : Nat) (S : List Sec) (L : List Wr) (n : Nat) (h : Hd) (E : List Ent) (hj : Rj w G p q S L n h E)
include hj
theorem RNext_any (hf : h.f ≤ 2000000000000000000) (he : E.length ≤ 1000) : Calls Tryz.prog 29 #[.pointer (some ⟨p, 0, none⟩)] w fun e w' => e = .returned (.int .i64 ((h.f + E.length : Nat) : Int)) ∧ Below w.heap.size w w' := by
 obtain ⟨D, J, X, Y, _, h2, _⟩ := hj
 obtain ⟨A, c, B, d, rfl, rfl, c0, c1, c2, c3, c4, c5, c6, c7, fz⟩ := h2.cells
 obtain ⟨t, f, g, l⟩ := h
 obtain ⟨m, hm⟩ : ∃ m, E.length = m := ⟨_, rfl⟩
 rw [hm] at c6 he
 rw [hm]
 have hf2 : f ≤ 2000000000000000000 := hf
 have c3' : w.cell? ⟨p, 3, none⟩ = some (.int .i64 (f : Int)) := c3
 clear h2 c0 c1 c2 c3 c4 c5 c7 fz hm hf
 go_enter Tryz.func29, Tryz.ntmps29
 go_wp2
 go_quiet (fail)
 go_wp2
 go_ret
 exact ⟨by go_num, ⟨rfl, rfl, rfl, Nat.le_refl _, fun _ _ => rfl⟩⟩
set_option maxRecDepth 100000 in
set_option maxHeartbeats 4000000 in
theorem RSave_any (hb : h.t ≤ 2000000000000000000) (hn : 2 ≤ S.length) (hL : L.length ≤ 900000) :
 Calls Tryz.prog 70 #[.pointer (some ⟨p, 0, none⟩)] w fun e w' => e = .returned (.tuple #[]) ∧
  RjPost w G p q (all S (L ++ [((h.t + 1) % 2, hsec ⟨h.t + 1, h.f, h.g, h.l⟩)])) [] n ⟨h.t + 1, h.f, h.g, h.l⟩ E w' := by
 have hjs := Rj.set (i := 2) (v := .int .i64 ((h.t : Int) + 1)) (h' := ⟨h.t + 1, h.f, h.g, h.l⟩) hj (fun X Y => rfl)
 obtain ⟨D, J, X, Y, h1, h2, h3, h4⟩ := hj
 obtain ⟨A, c, B, d, rfl, rfl, c0, c1, c2, c3, c4, c5, c6, c7, fz⟩ := h2.cells
 obtain ⟨t, f, g, l⟩ := h
 have f2 := fz 2
 have c2' : w.cell? ⟨p, 2, none⟩ = some (.int .i64 (t : Int)) := c2
 have hb' : t ≤ 2000000000000000000 := hb
 have HL := hide hL
 have HN := hide hn
 clear c0 c1 c2 c3 c4 c5 c6 c7 fz h1 h2 h3 h4 hb hL hn
 go_enter Tryz.func70, Tryz.ntmps70
 go_wp2_with fail
 generalize w.setCell _ _ = w1 at *
 obtain ⟨G1, hj1, hg1, hk0⟩ := hjs
 obtain ⟨D, J, X, Y, h1, h2, h3, h4⟩ := hj1
 obtain ⟨t1, ht1⟩ : ∃ t1, t + 1 = t1 := ⟨_, rfl⟩
 obtain ⟨r2, hr2⟩ : ∃ r2, t1 % 2 = r2 := ⟨_, rfl⟩
 have hrem := rem2 t1 (by omega)
 show _
 simp only [ht1, hr2] at h2 hrem ⊢
 have HR := hide (show r2 < 2 by omega)
 have HE1 := hide ht1
 have HE2 := hide hr2
 have H11 := hide h1
 have H21 := hide h2
 have H3 := hide h3
 have H4 := hide h4
 have HG1 := hide hg1
 have HK0 := hide hk0
 have hS1 := h2.heads
 have ht1' : (t : Int) + 1 = (t1 : Int) := by omega
 obtain ⟨SF, hSF⟩ : ∃ S, str (hsec ⟨t1, f, g, l⟩) = S := ⟨_, rfl⟩
 have HSF := hide hSF
 have HSD := hide (show SF.data.toList = hsec ⟨t1, f, g, l⟩ by rw [← hSF, str_data])
 have HSZ := hide (show SF.size = 64 by rw [← hSF, str_size, hsec_length])
 clear h1 h2 h3 h4 hg1 hk0 hr2 ht1 c2' f2 hSF
 refine wp_region_held (S := (fun W => W.cell? ⟨p, 0, none⟩ = some (.pointer (some ⟨q, 0, none⟩)) ∧ W.cell? ⟨p, 2, none⟩ = some (.int .i64 (t1 : Int)) ∧ W.cell? ⟨p, 3, none⟩ = some (.int .i64 (f : Int)) ∧ W.cell? ⟨p, 4, none⟩ = some (.int .i64 (g : Int)) ∧ W.cell? ⟨p, 5, none⟩ = some (.int .i64 (l : Int)))) (by kernel_rfl) ?_
 change wpAnyH _ _ _ _ _ _ _ _ (World.drew _)
 refine wpAnyH_take (i := 0) (oi := ⟨some 9, _, _, _, _, _⟩) (v := ?_) rfl (by kernel_rfl) (by kernel_rfl) (by kernel_rfl) (fun _ _ _ h => h) (Or.inl ⟨by rfl, ?_⟩) hS1 ?_
 rotate_left 1
 ·(intro w hSw; obtain ⟨hSw1, hSw2, hSw3, hSw4, hSw5⟩ := hSw; go_simp; try with_reducible rfl)
 simp only [Act.put, Pk.sl]
 refine wpAnyH_take (i := 1) (oi := ⟨some 10, _, _, _, _, _⟩) (v := ?_) rfl (by kernel_rfl) (by kernel_rfl) (by kernel_rfl) (fun _ _ _ h => h) (Or.inl ⟨by rfl, ?_⟩) hS1 ?_
 rotate_left 1
 ·(intro w hSw; obtain ⟨hSw1, hSw2, hSw3, hSw4, hSw5⟩ := hSw; go_simp; try with_reducible rfl)
 simp only [Act.put, Pk.sl]
 refine wpAnyH_take (i := 2) (oi := ⟨some 11, _, _, _, _, _⟩) (v := ?_) rfl (by kernel_rfl) (by kernel_rfl) (by kernel_rfl) (fun _ _ _ h => h) (Or.inl ⟨by rfl, ?_⟩) hS1 ?_
 rotate_left 1
 ·(intro w hSw; obtain ⟨hSw1, hSw2, hSw3, hSw4, hSw5⟩ := hSw; go_simp; try with_reducible rfl)
 simp only [Act.put, Pk.sl]
 refine wpAnyH_take (i := 3) (oi := ⟨some 12, _, _, _, _, _⟩) (v := ?_) rfl (by kernel_rfl) (by kernel_rfl) (by kernel_rfl) (fun _ _ _ h => h) (Or.inl ⟨by rfl, ?_⟩) hS1 ?_
 rotate_left 1
 ·(intro w hSw; obtain ⟨hSw1, hSw2, hSw3, hSw4, hSw5⟩ := hSw; go_simp; try with_reducible rfl)
 simp only [Act.put, Pk.sl]
 refine wpAnyH_take (i := 4) (oi := ⟨some 13, _, _, _, _, _⟩) (v := ?_) rfl (by kernel_rfl) (by kernel_rfl) (by kernel_rfl) (fun _ _ _ h => h) (Or.inl ⟨by rfl, ?_⟩) hS1 ?_
 rotate_left 1
 ·(intro w hSw; obtain ⟨hSw1, hSw2, hSw3, hSw4, hSw5⟩ := hSw; go_simp; try with_reducible rfl)
 simp only [Act.put, Pk.sl]
 refine wpAnyH_take (i := 5) (oi := ⟨some 14, _, _, _, _, _⟩) (v := ?_) rfl (by kernel_rfl) (by kernel_rfl) (by kernel_rfl) (fun _ _ _ h => h) (Or.inl ⟨by rfl, ?_⟩) hS1 ?_
 rotate_left 1
 ·(intro w hSw; obtain ⟨hSw1, hSw2, hSw3, hSw4, hSw5⟩ := hSw; go_simp; try with_reducible rfl)
 simp only [Act.put, Pk.sl]
 refine wpAnyH_take (i := 6) (oi := ⟨some 15, _, _, _, _, _⟩) (v := ?_) rfl (by kernel_rfl) (by kernel_rfl) (by kernel_rfl) (fun _ _ _ h => h) (Or.inl ⟨by rfl, ?_⟩) hS1 ?_
 rotate_left 1
 ·(intro w hSw; obtain ⟨hSw1, hSw2, hSw3, hSw4, hSw5⟩ := hSw; go_simp; try with_reducible rfl)
 simp only [Act.put, Pk.sl]
 refine wpAnyH_take (i := 7) (oi := ⟨some 16, _, _, _, _, _⟩) (v := ?_) rfl (by kernel_rfl) (by kernel_rfl) (by kernel_rfl) (fun _ _ _ h => h) (Or.inl ⟨by rfl, ?_⟩) hS1 ?_
 rotate_left 1
 ·(intro w hSw; obtain ⟨hSw1, hSw2, hSw3, hSw4, hSw5⟩ := hSw; go_simp; try with_reducible rfl)
 simp only [Act.put, Pk.sl]
 refine wpAnyH_take (i := 8) (oi := ⟨some 17, _, _, _, _, _⟩) (v := ?_) rfl (by kernel_rfl) (by kernel_rfl) (by kernel_rfl) (fun _ _ _ h => h) (Or.inl ⟨by rfl, ?_⟩) hS1 ?_
 rotate_left 1
 ·(intro w hSw; obtain ⟨hSw1, hSw2, hSw3, hSw4, hSw5⟩ := hSw; go_simp; try with_reducible rfl)
 simp only [Act.put, Pk.sl]
 refine wpAnyH_take (i := 9) (oi := ⟨some 18, _, _, _, _, _⟩) (v := ?_) rfl (by kernel_rfl) (by kernel_rfl) (by kernel_rfl) (fun _ _ _ h => h) (Or.inl ⟨by rfl, ?_⟩) hS1 ?_
 rotate_left 1
 ·(intro w hSw; obtain ⟨hSw1, hSw2, hSw3, hSw4, hSw5⟩ := hSw; go_simp; try with_reducible rfl)
 simp only [Act.put, Pk.sl]
 refine wpAnyH_take (i := 10) (oi := ⟨some 19, _, _, _, _, _⟩) (v := ?_) rfl (by kernel_rfl) (by kernel_rfl) (by kernel_rfl) (fun _ _ _ h => h) (Or.inl ⟨by rfl, ?_⟩) hS1 ?_
 rotate_left 1
 ·(intro w hSw; obtain ⟨hSw1, hSw2, hSw3, hSw4, hSw5⟩ := hSw; go_simp; try with_reducible rfl)
 simp only [Act.put, Pk.sl]
 refine wpAnyH_take (i := 11) (oi := ⟨some 20, _, _, _, _, _⟩) (v := ?_) rfl (by kernel_rfl) (by kernel_rfl) (by kernel_rfl) (fun _ _ _ h => h) (Or.inl ⟨by rfl, ?_⟩) hS1 ?_
 rotate_left 1
 ·(intro w hSw; obtain ⟨hSw1, hSw2, hSw3, hSw4, hSw5⟩ := hSw; go_simp; try with_reducible rfl)
 simp only [Act.put, Pk.sl]
 refine wpAnyH_take (i := 12) (oi := ⟨some 21, _, _, _, _, _⟩) (v := ?_) rfl (by kernel_rfl) (by kernel_rfl) (by kernel_rfl) (fun _ _ _ h => h) (Or.inl ⟨by rfl, ?_⟩) hS1 ?_
 rotate_left 1
 ·(intro w hSw; obtain ⟨hSw1, hSw2, hSw3, hSw4, hSw5⟩ := hSw; go_simp; try with_reducible rfl)
 simp only [Act.put, Pk.sl]
 refine wpAnyH_take (i := 13) (oi := ⟨some 22, _, _, _, _, _⟩) (v := ?_) rfl (by kernel_rfl) (by kernel_rfl) (by kernel_rfl) (fun _ _ _ h => h) (Or.inl ⟨by rfl, ?_⟩) hS1 ?_
 rotate_left 1
 ·(intro w hSw; obtain ⟨hSw1, hSw2, hSw3, hSw4, hSw5⟩ := hSw; go_simp; try with_reducible rfl)
 simp only [Act.put, Pk.sl]
 refine wpAnyH_take (i := 14) (oi := ⟨some 23, _, _, _, _, _⟩) (v := ?_) rfl (by kernel_rfl) (by kernel_rfl) (by kernel_rfl) (fun _ _ _ h => h) (Or.inl ⟨by rfl, ?_⟩) hS1 ?_
 rotate_left 1
 ·(intro w hSw; obtain ⟨hSw1, hSw2, hSw3, hSw4, hSw5⟩ := hSw; go_simp; try with_reducible rfl)
 simp only [Act.put, Pk.sl]
 refine wpAnyH_take (i := 15) (oi := ⟨some 24, _, _, _, _, _⟩) (v := ?_) rfl (by kernel_rfl) (by kernel_rfl) (by kernel_rfl) (fun _ _ _ h => h) (Or.inl ⟨by rfl, ?_⟩) hS1 ?_
 rotate_left 1
 ·(intro w hSw; obtain ⟨hSw1, hSw2, hSw3, hSw4, hSw5⟩ := hSw; go_simp; try with_reducible rfl)
 simp only [Act.put, Pk.sl]
 refine wpAnyH_take (i := 16) (oi := ⟨some 25, _, _, _, _, _⟩) (v := ?_) rfl (by kernel_rfl) (by kernel_rfl) (by kernel_rfl) (fun _ _ _ h => h) (Or.inl ⟨by rfl, ?_⟩) hS1 ?_
 rotate_left 1
 ·(intro w hSw; obtain ⟨hSw1, hSw2, hSw3, hSw4, hSw5⟩ := hSw; go_simp; try with_reducible rfl)
 simp only [Act.put, Pk.sl]
 refine wpAnyH_take (i := 17) (oi := ⟨some 26, _, _, _, _, _⟩) (v := ?_) rfl (by kernel_rfl) (by kernel_rfl) (by kernel_rfl) (fun _ _ _ h => h) (Or.inl ⟨by rfl, ?_⟩) hS1 ?_
 rotate_left 1
 ·(intro w hSw; obtain ⟨hSw1, hSw2, hSw3, hSw4, hSw5⟩ := hSw; go_simp; try with_reducible rfl)
 simp only [Act.put, Pk.sl]
 refine wpAnyH_take (i := 18) (oi := ⟨some 27, _, _, _, _, _⟩) (v := ?_) rfl (by kernel_rfl) (by kernel_rfl) (by kernel_rfl) (fun _ _ _ h => h) (Or.inl ⟨by rfl, ?_⟩) hS1 ?_
 rotate_left 1
 ·(intro w hSw; obtain ⟨hSw1, hSw2, hSw3, hSw4, hSw5⟩ := hSw; go_simp; try with_reducible rfl)
 simp only [Act.put, Pk.sl]
 refine wpAnyH_take (i := 19) (oi := ⟨some 28, _, _, _, _, _⟩) (v := ?_) rfl (by kernel_rfl) (by kernel_rfl) (by kernel_rfl) (fun _ _ _ h => h) (Or.inl ⟨by rfl, ?_⟩) hS1 ?_
 rotate_left 1
 ·(intro w hSw; obtain ⟨hSw1, hSw2, hSw3, hSw4, hSw5⟩ := hSw; go_simp; try with_reducible rfl)
 simp only [Act.put, Pk.sl]
 refine wpAnyH_take (i := 20) (oi := ⟨some 29, _, _, _, _, _⟩) (v := ?_) rfl (by kernel_rfl) (by kernel_rfl) (by kernel_rfl) (fun _ _ _ h => h) (Or.inl ⟨by rfl, ?_⟩) hS1 ?_
 rotate_left 1
 ·(intro w hSw; obtain ⟨hSw1, hSw2, hSw3, hSw4, hSw5⟩ := hSw; go_simp; try with_reducible rfl)
 simp only [Act.put, Pk.sl]
 refine wpAnyH_take (i := 21) (oi := ⟨some 30, _, _, _, _, _⟩) (v := ?_) rfl (by kernel_rfl) (by kernel_rfl) (by kernel_rfl) (fun _ _ _ h => h) (Or.inl ⟨by rfl, ?_⟩) hS1 ?_
 rotate_left 1
 ·(intro w hSw; obtain ⟨hSw1, hSw2, hSw3, hSw4, hSw5⟩ := hSw; go_simp; try with_reducible rfl)
 simp only [Act.put, Pk.sl]
 refine wpAnyH_take (i := 22) (oi := ⟨some 31, _, _, _, _, _⟩) (v := ?_) rfl (by kernel_rfl) (by kernel_rfl) (by kernel_rfl) (fun _ _ _ h => h) (Or.inl ⟨by rfl, ?_⟩) hS1 ?_
 rotate_left 1
 ·(intro w hSw; obtain ⟨hSw1, hSw2, hSw3, hSw4, hSw5⟩ := hSw; go_simp; try with_reducible rfl)
 simp only [Act.put, Pk.sl]
 refine wpAnyH_take (i := 23) (oi := ⟨some 32, _, _, _, _, _⟩) (v := ?_) rfl (by kernel_rfl) (by kernel_rfl) (by kernel_rfl) (fun _ _ _ h => h) (Or.inl ⟨by rfl, ?_⟩) hS1 ?_
 rotate_left 1
 ·(intro w hSw; obtain ⟨hSw1, hSw2, hSw3, hSw4, hSw5⟩ := hSw; go_simp; try with_reducible rfl)
 simp only [Act.put, Pk.sl]
 refine wpAnyH_take (i := 24) (oi := ⟨some 33, _, _, _, _, _⟩) (v := ?_) rfl (by kernel_rfl) (by kernel_rfl) (by kernel_rfl) (fun _ _ _ h => h) (Or.inl ⟨by rfl, ?_⟩) hS1 ?_
 rotate_left 1
 ·(intro w hSw; obtain ⟨hSw1, hSw2, hSw3, hSw4, hSw5⟩ := hSw; go_simp; try with_reducible rfl)
 simp only [Act.put, Pk.sl]
 refine wpAnyH_ready (rs := [25]) (by kernel_rfl) (by simp) ?_
 refine AllReadyH.cons (o := ⟨some 34, _, _, _, _, _⟩) rfl (fun K hK => ?_) AllReadyH.nil
 go_simp
 refine (rHeadBytes_any ⟨t1, f, g, l⟩ w1.drew SF HSF.out).mono ?_
 rintro r w2 ⟨rfl, hb2'⟩
 have hb2 := drew_below hb2'
 have H12 := hide (H11.out.below hb2)
 have H22 := hide (H21.out.below hb2)
 have HB2 := hide hb2
 have hS2 := H22.out.heads
 clear hb2' hb2
 refine hK.out _ _ hS2 (fun hHeld => ?_)
 clear hK K
 clear hHeld
 refine wpAnyH_ready (rs := [26]) (by kernel_rfl) (by simp) ?_
 refine AllReadyH.cons (o := ⟨some 35, _, _, _, _, _⟩) rfl (fun K hK => ?_) AllReadyH.nil
 go_simp
 refine (RWrite_any w2 D q r2 S L SF H12.out (by have := HN.out; have := HR.out; omega) HSZ.out HL.out).mono ?_
 rintro r w3 ⟨rfl, hp3⟩
 rw [HSD.out] at hp3
 have HJ3 := hide (RjPost.after HB2.out (Rj.disk H22.out H3.out H4.out hp3))
 have hS3 : w3.cell? ⟨p, 0, none⟩ = some (.pointer (some ⟨q, 0, none⟩)) ∧ w3.cell? ⟨p, 2, none⟩ = some (.int .i64 (t1 : Int)) ∧ w3.cell? ⟨p, 3, none⟩ = some (.int .i64 (f : Int)) ∧ w3.cell? ⟨p, 4, none⟩ = some (.int .i64 (g : Int)) ∧ w3.cell? ⟨p, 5, none⟩ = some (.int .i64 (l : Int)) := by
  obtain ⟨G2, ⟨D2, J2, X2, Y2, k1, k2, k3, k4⟩, _, _⟩ := HJ3.out
  exact k2.heads
 clear hp3 H12 H22 HB2
 refine hK.out _ _ hS3 (fun hHeld => ?_)
 clear hK K
 clear hHeld
 refine wpAnyH_done (by kernel_rfl) ?_ _
 obtain ⟨G3, hj3, hg3, hk3⟩ := HJ3.out
 obtain ⟨D3, J3, X3, Y3, k1, k2, k3, k4⟩ := hj3
 have hq3 := hS3.1
 have HK1 := hide k1
 have HK2 := hide k2
 have HK3 := hide k3
 have HK4 := hide k4
 have HG3 := hide hg3
 have HKP := hide hk3
 have HF := hide (RFlush_any w3 D3 q S _ k1 (by have := HL.out; simp; omega))
 clear k1 k2 k3 k4 hg3 hk3 hS3 HJ3
 go_wp2_with fail
 refine HF.out.mono ?_
 rintro r w4 ⟨rfl, hp4⟩
 have HJ4 := hide (RjPost.of HG1.out HK0.out (RjPost.of HG3.out HKP.out (Rj.disk HK2.out HK3.out HK4.out hp4)))
 clear hp4 hq3
 go_wp2
 go_end0
 have e2 := HE2.out
 have e1 := HE1.out
 subst e2
 subst e1
 exact ⟨rfl, HJ4.out⟩
end
section
variable (w : World) (G : Nat → Prop) (p q : Nat) (S : List Sec) (L : List Wr) (n : Nat) (h : Hd) (E : List Ent) (hj : Rj w G p q S L n h E) (s k b : Int) (d : ByteArray) (m : Int) (hf : h.f ≤ 2000000000000000000) (hn : n ≤ 512)
include hj hf hn
set_option maxRecDepth 100000 in
set_option maxHeartbeats 4000000 in
theorem RAppend_good (he : E.length < n) (hok : EOk ⟨h.g, h.f + E.length, k, b, d, m⟩) (h2n : 2 + n ≤ S.length) (hL : L.length ≤ 900000) :
 Calls Tryz.prog 45 #[.pointer (some ⟨p, 0, none⟩), rec5 s k b d m] w fun r w' => r = .returned (.tuple #[.int .i64 ((h.f + E.length : Nat) : Int), .int .i64 0]) ∧
  RjPost w G p q S (L ++ [(2 + (h.f + E.length) % n, esec ⟨h.g, h.f + E.length, k, b, d, m⟩)]) n h (E ++ [⟨h.g, h.f + E.length, k, b, d, m⟩]) w' := by
 obtain ⟨i0, hi0, hz0, hz1, hz2⟩ := info_parts rec_info
 have Hz1 := hide hz1
 have Hz2 := hide hz2
 obtain ⟨j0, hj0, hy0, hy1, hy2⟩ := info_parts int_info
 have Hy1 := hide hy1
 have Hy2 := hide hy2
 clear hz1 hz2 hy1 hy2
 have hb0 := box_below w s k b d m
 have hbx0 := Bx.new w s k b d m
 have HLT := hide hj.lt
 have HJ0 := hide (hj.below hb0)
 have HB0 := hide hb0
 obtain ⟨sq, hsq⟩ : ∃ sq, h.f + E.length = sq := ⟨_, rfl⟩
 have Hel := hide (show E.length ≤ 512 by omega)
 have Hel3 := hide he
 have Hf := hide hf
 have Hn := hide hn
 have Hsq := hide hsq
 rw [hsq] at hok
 have HOK := hide hok
 have HL := hide hL
 have H2n := hide h2n
 obtain ⟨SF, hSF⟩ : ∃ S, str (esec ⟨h.g, sq, k, b, d, m⟩) = S := ⟨_, rfl⟩
 have HSD := hide (show SF.data.toList = esec ⟨h.g, sq, k, b, d, m⟩ by rw [← hSF, str_data])
 have HSZ := hide (show SF.size = 64 by rw [← hSF, str_size, esec_length hok])
 unfold esec at hSF
 have HSF := hide hSF
 clear hok hL h2n hSF
 clear hb0 hj hsq he hf hn
 go_enter Tryz.func45, Tryz.ntmps45
 go_wp2_with fail
 generalize w.alloc _ = w0 at *
 obtain ⟨el, hel⟩ : ∃ el, E.length = el := ⟨_, rfl⟩
 have Hel4 := hide hel
 have hcmp : ((el : Int) == (n : Int)) = false := by have := Hel3.out; simp; omega
 obtain ⟨c6, c1⟩ : (∃ A c, w0.cell? ⟨p, 6, none⟩ = some (.slice A el c)) ∧ w0.cell? ⟨p, 1, none⟩ = some (.int .i64 (n : Int)) := by
  obtain ⟨D, J, X, Y, _, h2, _⟩ := HJ0.out
  obtain ⟨A, c, B, d, rfl, rfl, c0, c1, c2, c3, c4, c5, c6, c7, fz⟩ := h2.cells
  rw [hel] at c6
  exact ⟨⟨A, c, c6⟩, c1⟩
 obtain ⟨A0, cc0, c6⟩ := c6
 clear hel
 go_quiet (fail)
 clear c6 c1
 have hbq : Below w0.heap.size w0 (w0.drewN nq) := ⟨rfl, rfl, rfl, Nat.le_refl _, fun _ _ => rfl⟩
 have HJ0d := hide (HJ0.out.below hbq)
 have HB0d := hide (HB0.out.trans (hbq.mono HB0.out.size))
 have hbx0d := hbx0.below hbq
 clear hbq
 generalize w0.drewN nq = w0d at *
 clear hbx0 HJ0 HB0
 go_wp2_with fail
 refine (RNext_any w0d G p q S L n h E HJ0d.out Hf.out (by have := Hel.out; omega)).mono ?_
 rintro e w1 ⟨rfl, hb1⟩
 rw [Hsq.out]
 have hbx1 := hbx0d.below hb1
 have hj1 := HJ0d.out.below hb1
 have HB1 := hide (HB0d.out.trans (hb1.mono HB0d.out.size))
 have hx0 := hbx1.c0
 have hy0 := hbx1.free 0
 have hbx2 := hbx1.set0 (sq : Int)
 have HB2 := hide (HB1.out.setCell (p := ⟨w.heap.size, 0, none⟩) (Nat.le_refl _) (.int .i64 (sq : Int)))
 have HJ2 := hide (hj1.kept (Kept.set (K := fun i => i = w.heap.size) (Kept.refl _ w1) rfl 0 (.int .i64 (sq : Int))) (fun i hi e => by have := HLT.out i hi; omega))
 clear hbx0d hb1 hj1 hbx1 HB0d HB1 HJ0d
 go_wp2_with fail
 generalize w1.setCell _ _ = w3 at *
 have hbx3 := hbx2
 have HJ3 := HJ2
 have HB3 := HB2
 clear hx0 hy0 hbx2 HB2 HJ2
 obtain ⟨D, J, X, Y, h1, h2, h3, h4⟩ := HJ3.out
 have hq4 := h2.heads.2.2.2.1
 have hS0 : w3.drew.cell? ⟨p, 4, none⟩ = some (.int .i64 (h.g : Int)) ∧ w3.drew.cell? ⟨w.heap.size, 0, none⟩ = some (.int .i64 (sq : Int)) ∧ w3.drew.cell? ⟨w.heap.size, 1, none⟩ = some (.int .i64 k) ∧ w3.drew.cell? ⟨w.heap.size, 2, none⟩ = some (.int .i64 b) ∧ w3.drew.cell? ⟨w.heap.size, 3, none⟩ = some (.string d) ∧ w3.drew.cell? ⟨w.heap.size, 4, none⟩ = some (.int .i64 m) := ⟨hq4, hbx3.c0, hbx3.c1, hbx3.c2, hbx3.c3, hbx3.c4⟩
 clear h1 h2 h3 h4 hq4
 have HE := hide (rEncode_good (h.g : Int) (sq : Int) k b d m w3.drew HOK.out.1 HOK.out.2 SF HSF.out)
 go_wp2_with fail
 refine wp_region_held (S := (fun W => W.cell? ⟨p, 4, none⟩ = some (.int .i64 (h.g : Int)) ∧ W.cell? ⟨w.heap.size, 0, none⟩ = some (.int .i64 (sq : Int)) ∧ W.cell? ⟨w.heap.size, 1, none⟩ = some (.int .i64 k) ∧ W.cell? ⟨w.heap.size, 2, none⟩ = some (.int .i64 b) ∧ W.cell? ⟨w.heap.size, 3, none⟩ = some (.string d) ∧ W.cell? ⟨w.heap.size, 4, none⟩ = some (.int .i64 m))) (by kernel_rfl) ?_
 change wpAnyH _ _ _ _ _ _ _ _ (World.drew _)
 refine wpAnyH_take (i := 0) (oi := ⟨some 22, _, _, _, _, _⟩) (v := ?_) rfl (by kernel_rfl) (by kernel_rfl) (by kernel_rfl) (fun _ _ _ h => h) (Or.inl ⟨by rfl, ?_⟩) hS0 ?_
 rotate_left 1
 ·(intro w hSw; obtain ⟨hSw1, hSw2, hSw3, hSw4, hSw5, hSw6⟩ := hSw; go_simp; try with_reducible rfl)
 simp only [Act.put, Pk.sl]
 refine wpAnyH_take (i := 1) (oi := ⟨some 23, _, _, _, _, _⟩) (v := ?_) rfl (by kernel_rfl) (by kernel_rfl) (by kernel_rfl) (fun _ _ _ h => h) (Or.inl ⟨by rfl, ?_⟩) hS0 ?_
 rotate_left 1
 ·(intro w hSw; obtain ⟨hSw1, hSw2, hSw3, hSw4, hSw5, hSw6⟩ := hSw; go_simp; try with_reducible rfl)
 simp only [Act.put, Pk.sl]
 refine wpAnyH_take (i := 2) (oi := ⟨some 24, _, _, _, _, _⟩) (v := ?_) rfl (by kernel_rfl) (by kernel_rfl) (by kernel_rfl) (fun _ _ _ h => h) (Or.inl ⟨by rfl, ?_⟩) hS0 ?_
 rotate_left 1
 ·(intro w hSw; obtain ⟨hSw1, hSw2, hSw3, hSw4, hSw5, hSw6⟩ := hSw; go_simp; try with_reducible rfl)
 simp only [Act.put, Pk.sl]
 refine wpAnyH_take (i := 3) (oi := ⟨some 25, _, _, _, _, _⟩) (v := ?_) rfl (by kernel_rfl) (by kernel_rfl) (by kernel_rfl) (fun _ _ _ h => h) (Or.inl ⟨by rfl, ?_⟩) hS0 ?_
 rotate_left 1
 ·(intro w hSw; obtain ⟨hSw1, hSw2, hSw3, hSw4, hSw5, hSw6⟩ := hSw; go_simp; try with_reducible rfl)
 simp only [Act.put, Pk.sl]
 refine wpAnyH_take (i := 4) (oi := ⟨some 26, _, _, _, _, _⟩) (v := ?_) rfl (by kernel_rfl) (by kernel_rfl) (by kernel_rfl) (fun _ _ _ h => h) (Or.inl ⟨by rfl, ?_⟩) hS0 ?_
 rotate_left 1
 ·(intro w hSw; obtain ⟨hSw1, hSw2, hSw3, hSw4, hSw5, hSw6⟩ := hSw; go_simp; try with_reducible rfl)
 simp only [Act.put, Pk.sl]
 refine wpAnyH_ready (rs := [5]) (by kernel_rfl) (by simp) ?_
 refine AllReadyH.cons (o := ⟨some 27, _, _, _, _, _⟩) rfl (fun K hK => ?_) AllReadyH.nil
 go_simp
 refine HE.out.mono ?_
 rintro r w4 ⟨rfl, hb4⟩
 have hb4' := drew_below hb4
 have hbx4 := hbx3.below hb4'
 have hj4 := HJ3.out.below hb4'
 have hS1 : w4.cell? ⟨p, 4, none⟩ = some (.int .i64 (h.g : Int)) ∧ w4.cell? ⟨w.heap.size, 0, none⟩ = some (.int .i64 (sq : Int)) ∧ w4.cell? ⟨w.heap.size, 1, none⟩ = some (.int .i64 k) ∧ w4.cell? ⟨w.heap.size, 2, none⟩ = some (.int .i64 b) ∧ w4.cell? ⟨w.heap.size, 3, none⟩ = some (.string d) ∧ w4.cell? ⟨w.heap.size, 4, none⟩ = some (.int .i64 m) := by
  obtain ⟨D, J, X, Y, h1, h2, h3, h4⟩ := hj4
  exact ⟨h2.heads.2.2.2.1, hbx4.c0, hbx4.c1, hbx4.c2, hbx4.c3, hbx4.c4⟩
 have HB4 := hide (HB3.out.trans (hb4'.mono HB3.out.size))
 have HJ4 := hide hj4
 have HX4 := hide hbx4
 clear hb4 hb4' hbx3 hbx4 hj4 HE HB3 HJ3 hS0
 refine hK.out _ _ hS1 (fun hHeld => ?_)
 clear hK K
 clear hHeld
 refine wpAnyH_take (i := 6) (oi := ⟨some 21, _, _, _, _, _⟩) (v := ?_) rfl (by kernel_rfl) (by kernel_rfl) (by kernel_rfl) (fun _ _ _ h => h) (Or.inl ⟨by rfl, ?_⟩) hS1 ?_
 rotate_left 1
 ·(intro w hSw; obtain ⟨hSw1, hSw2, hSw3, hSw4, hSw5, hSw6⟩ := hSw; go_simp; try with_reducible rfl)
 simp only [Act.put, Pk.sl]
 refine wpAnyH_take (i := 7) (oi := ⟨some 28, _, _, _, _, _⟩) (v := ?_) rfl (by kernel_rfl) (by kernel_rfl) (by kernel_rfl) (fun _ _ _ h => h) (Or.inl ⟨by rfl, ?_⟩) hS1 ?_
 rotate_left 1
 ·(intro w hSw; obtain ⟨hSw1, hSw2, hSw3, hSw4, hSw5, hSw6⟩ := hSw; go_simp; try with_reducible rfl)
 simp only [Act.put, Pk.sl]
 refine wpAnyH_take (i := 8) (oi := ⟨some 29, _, _, _, _, _⟩) (v := ?_) rfl (by kernel_rfl) (by kernel_rfl) (by kernel_rfl) (fun _ _ _ h => h) (Or.inl ⟨by rfl, ?_⟩) hS1 ?_
 rotate_left 1
 ·(intro w hSw; obtain ⟨hSw1, hSw2, hSw3, hSw4, hSw5, hSw6⟩ := hSw; go_simp; try with_reducible rfl)
 simp only [Act.put, Pk.sl]
 refine wpAnyH_take (i := 9) (oi := ⟨some 6, _, _, _, _, _⟩) (v := ?_) rfl (by kernel_rfl) (by kernel_rfl) (by kernel_rfl) (fun _ _ _ h => h) (Or.inl ⟨by rfl, ?_⟩) hS1 ?_
 rotate_left 1
 ·(intro w hSw; obtain ⟨hSw1, hSw2, hSw3, hSw4, hSw5, hSw6⟩ := hSw; go_simp; try with_reducible rfl)
 simp only [Act.put, Pk.sl]
 refine wpAnyH_take (i := 10) (oi := ⟨some 7, _, _, _, _, _⟩) (v := ?_) rfl (by kernel_rfl) (by kernel_rfl) (by kernel_rfl) (fun _ _ _ h => h) (Or.inl ⟨by rfl, ?_⟩) hS1 ?_
 rotate_left 1
 ·(intro w hSw; obtain ⟨hSw1, hSw2, hSw3, hSw4, hSw5, hSw6⟩ := hSw; go_simp; try with_reducible rfl)
 simp only [Act.put, Pk.sl]
 refine wpAnyH_done (by kernel_rfl) ?_ _
 clear hS1
 have HJ4d := hide (HJ4.out.below (Below.refl w4.heap.size w4).drew)
 obtain ⟨D, J, X, Y, h1, h2, h3, h4⟩ := HJ4d.out
 have hrmn := remN sq n
 obtain ⟨rr, hrr⟩ : ∃ rr, sq % n = rr := ⟨_, rfl⟩
 have hrlt : rr < n := by rw [← hrr]; exact Nat.mod_lt sq (by have := Hel3.out; omega)
 have hn512 : n ≤ 512 := Hn.out
 have hz : ¬ ((n : Int) = 0) := by omega
 have hz2 : ((n : Int) == 0) = false := by simp; omega
 have hz3 : ¬ (n = 0) := by omega
 rw [hrr] at hrmn
 obtain ⟨cc, hcc⟩ : ∃ cc, 2 + rr = cc := ⟨_, rfl⟩
 have hcci : (2 : Int) + (rr : Int) = (cc : Int) := by omega
 have hrri : (rr : Int) ≤ 512 := by omega
 have hwc : IntKind.i64.wrap (cc : Int) = (cc : Int) := by rw [IntKind.wrap_i64]; omega
 have HCC := hide (show 2 + sq % n = cc by rw [hrr]; exact hcc)
 have hcl : cc < S.length := by have := H2n.out; omega
 have HWR := hide (RWrite_any w4.drew D q cc S L SF h1 hcl HSZ.out HL.out)
 have HPP := fun w' => hide (fun hp => Rj.disk (w' := w') (S' := S) (L' := L ++ [(cc, esec ⟨h.g, sq, k, b, d, m⟩)]) h2 h3 h4 hp)
 have hS2 : w4.drew.cell? ⟨p, 0, none⟩ = some (.pointer (some ⟨q, 0, none⟩)) ∧ w4.drew.cell? ⟨w.heap.size, 0, none⟩ = some (.int .i64 (sq : Int)) ∧ w4.drew.cell? ⟨p, 1, none⟩ = some (.int .i64 (n : Int)) := ⟨h2.heads.1, HX4.out.c0, h2.ring⟩
 clear h1 h2 h3 h4 hcc hcl hrr
 go_wp2_with fail
 refine wp_region_held (S := (fun W => W.cell? ⟨p, 0, none⟩ = some (.pointer (some ⟨q, 0, none⟩)) ∧ W.cell? ⟨w.heap.size, 0, none⟩ = some (.int .i64 (sq : Int)) ∧ W.cell? ⟨p, 1, none⟩ = some (.int .i64 (n : Int)))) (by kernel_rfl) ?_
 change wpAnyH _ _ _ _ _ _ _ _ (World.drew _)
 refine wpAnyH_take (i := 0) (oi := ⟨some 32, _, _, _, _, _⟩) (v := ?_) rfl (by kernel_rfl) (by kernel_rfl) (by kernel_rfl) (fun _ _ _ h => h) (Or.inl ⟨by rfl, ?_⟩) hS2 ?_
 rotate_left 1
 ·(intro w hSw; obtain ⟨hSw1, hSw2, hSw3⟩ := hSw; go_simp; try with_reducible rfl)
 simp only [Act.put, Pk.sl]
 refine wpAnyH_take (i := 1) (oi := ⟨some 33, _, _, _, _, _⟩) (v := ?_) rfl (by kernel_rfl) (by kernel_rfl) (by kernel_rfl) (fun _ _ _ h => h) (Or.inl ⟨by rfl, ?_⟩) hS2 ?_
 rotate_left 1
 ·(intro w hSw; obtain ⟨hSw1, hSw2, hSw3⟩ := hSw; go_simp; try with_reducible rfl)
 simp only [Act.put, Pk.sl]
 refine wpAnyH_take (i := 2) (oi := ⟨some 34, _, _, _, _, _⟩) (v := ?_) rfl (by kernel_rfl) (by kernel_rfl) (by kernel_rfl) (fun _ _ _ h => h) (Or.inl ⟨by rfl, ?_⟩) hS2 ?_
 rotate_left 1
 ·(intro w hSw; obtain ⟨hSw1, hSw2, hSw3⟩ := hSw; go_simp; try with_reducible rfl)
 simp only [Act.put, Pk.sl]
 refine wpAnyH_take (i := 3) (oi := ⟨some 35, _, _, _, _, _⟩) (v := ?_) rfl (by kernel_rfl) (by kernel_rfl) (by kernel_rfl) (fun _ _ _ h => h) (Or.inl ⟨by rfl, ?_⟩) hS2 ?_
 rotate_left 1
 ·(intro w hSw; obtain ⟨hSw1, hSw2, hSw3⟩ := hSw; go_simp; try with_reducible rfl)
 simp only [Act.put, Pk.sl]
 refine wpAnyH_take (i := 4) (oi := ⟨some 36, _, _, _, _, _⟩) (v := ?_) rfl (by kernel_rfl) (by kernel_rfl) (by kernel_rfl) (fun _ _ _ h => h) (Or.inl ⟨by rfl, ?_⟩) hS2 ?_
 rotate_left 1
 ·(intro w hSw; obtain ⟨hSw1, hSw2, hSw3⟩ := hSw; go_simp; try with_reducible rfl)
 simp only [Act.put, Pk.sl]
 refine wpAnyH_take (i := 5) (oi := ⟨some 37, _, _, _, _, _⟩) (v := ?_) rfl (by kernel_rfl) (by kernel_rfl) (by kernel_rfl) (fun _ _ _ h => h) (Or.inl ⟨by rfl, ?_⟩) hS2 ?_
 rotate_left 1
 ·(intro w hSw; obtain ⟨hSw1, hSw2, hSw3⟩ := hSw; go_simp; try with_reducible rfl)
 simp only [Act.put, Pk.sl]
 refine wpAnyH_take (i := 6) (oi := ⟨some 38, _, _, _, _, _⟩) (v := ?_) rfl (by kernel_rfl) (by kernel_rfl) (by kernel_rfl) (fun _ _ _ h => h) (Or.inl ⟨by rfl, ?_⟩) hS2 ?_
 rotate_left 1
 ·(intro w hSw; obtain ⟨hSw1, hSw2, hSw3⟩ := hSw; go_simp; try with_reducible rfl)
 simp only [Act.put, Pk.sl]
 refine wpAnyH_take (i := 7) (oi := ⟨some 39, _, _, _, _, _⟩) (v := ?_) rfl (by kernel_rfl) (by kernel_rfl) (by kernel_rfl) (fun _ _ _ h => h) (Or.inl ⟨by rfl, ?_⟩) hS2 ?_
 rotate_left 1
 ·(intro w hSw; obtain ⟨hSw1, hSw2, hSw3⟩ := hSw; go_simp; try with_reducible rfl)
 simp only [Act.put, Pk.sl]
 refine wpAnyH_take (i := 8) (oi := ⟨some 40, _, _, _, _, _⟩) (v := ?_) rfl (by kernel_rfl) (by kernel_rfl) (by kernel_rfl) (fun _ _ _ h => h) (Or.inl ⟨by rfl, ?_⟩) hS2 ?_
 rotate_left 1
 ·(intro w hSw; obtain ⟨hSw1, hSw2, hSw3⟩ := hSw; go_simp; try with_reducible rfl)
 simp only [Act.put, Pk.sl]
 refine wpAnyH_take (i := 9) (oi := ⟨some 41, _, _, _, _, _⟩) (v := ?_) rfl (by kernel_rfl) (by kernel_rfl) (by kernel_rfl) (fun _ _ _ h => h) (Or.inl ⟨by rfl, ?_⟩) hS2 ?_
 rotate_left 1
 ·(intro w hSw; obtain ⟨hSw1, hSw2, hSw3⟩ := hSw; go_simp; try with_reducible rfl)
 simp only [Act.put, Pk.sl]
 refine wpAnyH_take (i := 10) (oi := ⟨some 42, _, _, _, _, _⟩) (v := ?_) rfl (by kernel_rfl) (by kernel_rfl) (by kernel_rfl) (fun _ _ _ h => h) (Or.inl ⟨by rfl, ?_⟩) hS2 ?_
 rotate_left 1
 ·(intro w hSw; obtain ⟨hSw1, hSw2, hSw3⟩ := hSw; go_simp; try with_reducible rfl)
 simp only [Act.put, Pk.sl]
 refine wpAnyH_take (i := 11) (oi := ⟨some 43, _, _, _, _, _⟩) (v := ?_) rfl (by kernel_rfl) (by kernel_rfl) (by kernel_rfl) (fun _ _ _ h => h) (Or.inl ⟨by rfl, ?_⟩) hS2 ?_
 rotate_left 1
 ·(intro w hSw; obtain ⟨hSw1, hSw2, hSw3⟩ := hSw; go_simp; try with_reducible rfl)
 simp only [Act.put, Pk.sl]
 refine wpAnyH_take (i := 12) (oi := ⟨some 44, _, _, _, _, _⟩) (v := ?_) rfl (by kernel_rfl) (by kernel_rfl) (by kernel_rfl) (fun _ _ _ h => h) (Or.inl ⟨by rfl, ?_⟩) hS2 ?_
 rotate_left 1
 ·(intro w hSw; obtain ⟨hSw1, hSw2, hSw3⟩ := hSw; go_simp; try with_reducible rfl)
 simp only [Act.put, Pk.sl]
 refine wpAnyH_ready (rs := [13]) (by kernel_rfl) (by simp) ?_
 refine AllReadyH.cons (o := ⟨some 45, _, _, _, _, _⟩) rfl (fun K hK => ?_) AllReadyH.nil
 go_simp
 refine HWR.out.mono ?_
 rintro r w5 ⟨rfl, hp5⟩
 rw [HSD.out] at hp5
 obtain ⟨G5, hj5, hg5, hk5⟩ := (HPP w5).out hp5
 obtain ⟨D5, J5, X5, Y5, h1, h2, h3, h4⟩ := hj5
 obtain ⟨A, c, B, e, rfl, rfl, c0, c1, c2, c3, c4, c5, c6, c7, fz⟩ := h2.cells
 rw [Hel4.out] at c6 c7
 have HX5 : Hid (Bx w5 w.heap.size (sq : Int) k b d m) := (hk5.block _ HX4.out.lt (fun hg => by have := HLT.out _ hg; omega)).trans HX4.out
 have hS3 : w5.cell? ⟨p, 0, none⟩ = some (.pointer (some ⟨q, 0, none⟩)) ∧ w5.cell? ⟨w.heap.size, 0, none⟩ = some (.int .i64 (sq : Int)) ∧ w5.cell? ⟨p, 1, none⟩ = some (.int .i64 (n : Int)) := ⟨c0, HX5.out.c0, c1⟩
 refine hK.out _ _ hS3 (fun hHeld => ?_)
 clear hK K
 clear hHeld
 refine wpAnyH_done (by kernel_rfl) ?_ _
 clear hS2
 clear hS3 hrmn hcci hz hz2 hz3
 have HNJ : Hid (¬ J5 w.heap.size) := fun hg => by
  rcases hg5 _ ((h4 _).2 (Or.inr hg)) with h5 | h5
  ·have := HLT.out _ h5; omega
  ·have := HX4.out.lt; exact absurd h5 (Nat.not_le_of_lt this)
 have H1 := hide h1
 have H2 := hide h2
 have H3 := hide h3
 have H4 := hide h4
 have HG5 := hide hg5
 have HK5 := hide hk5
 have hbW : Below w5.heap.size w5 (w5.drew.alloc (.cells #[.int .i64 (sq : Int), .int .i64 k, .int .i64 b, .string d, .int .i64 m] 100)) := (Below.refl w5.heap.size w5).drew.alloc (Nat.le_refl _) _
 have HBW := hide hbW
 have HO : Hid (ORow (w5.drew.alloc (.cells #[.int .i64 (sq : Int), .int .i64 k, .int .i64 b, .string d, .int .i64 m] 100)) 100 5 (.slice A el c) el (rcels E)) := by
  have := h2.rows
  rw [Hel4.out] at this
  exact this.same fun i hi => hbW.block i (this.lt i hi)
 rw [Hel4.out] at H2
 have HN : Hid (∀ j u, (rcel ⟨h.g, sq, k, b, d, m⟩)[j]? = some u → (w5.drew.alloc (.cells #[.int .i64 (sq : Int), .int .i64 k, .int .i64 b, .string d, .int .i64 m] 100)).cell? ((⟨w5.heap.size, 0, none⟩ : Addr).add j) = some u) := fun j u hu => by
  rw [Addr.add_mid, Nat.zero_add]
  show (w5.drew.alloc _).cell? ⟨w5.drew.heap.size, j, none⟩ = _
  rw [cell_of_row _ _ j _ _ _ (heap_alloc_new w5.drew _)]
  exact List.getElem?_toArray.trans hu
 have Hm1 := hide (show el + 1 ≤ maxLen by have := Hel.out; have := Hel4.out; unfold maxLen; omega)
 have Hm2 := hide (show (el + 1) * 48 ≤ 140737488355328 by have := Hel.out; have := Hel4.out; omega)
 have HK4 := hide (Kept.of_below (G := G) HB4.out.drew)
 have c6' : (w5.alloc (.cells #[.int .i64 (sq : Int), .int .i64 k, .int .i64 b, .string d, .int .i64 m] 100)).cell? ⟨p, 6, none⟩ = some (.slice A el c) := ((Below.refl w5.heap.size w5).alloc (Nat.le_refl _) _).cell (p := ⟨p, 6, none⟩) (h2.lt p h2.mine) |>.trans c6
 have hSa : w5.drew.cell? ⟨w.heap.size, 0, none⟩ = some (.int .i64 (sq : Int)) ∧ w5.drew.cell? ⟨w.heap.size, 1, none⟩ = some (.int .i64 k) ∧ w5.drew.cell? ⟨w.heap.size, 2, none⟩ = some (.int .i64 b) ∧ w5.drew.cell? ⟨w.heap.size, 3, none⟩ = some (.string d) ∧ w5.drew.cell? ⟨w.heap.size, 4, none⟩ = some (.int .i64 m) := ⟨HX5.out.c0, HX5.out.c1, HX5.out.c2, HX5.out.c3, HX5.out.c4⟩
 have hxb := HX5.out.below hbW
 have hSb : (w5.drew.alloc (.cells #[.int .i64 (sq : Int), .int .i64 k, .int .i64 b, .string d, .int .i64 m] 100)).cell? ⟨w.heap.size, 0, none⟩ = some (.int .i64 (sq : Int)) ∧ (w5.drew.alloc (.cells #[.int .i64 (sq : Int), .int .i64 k, .int .i64 b, .string d, .int .i64 m] 100)).cell? ⟨w.heap.size, 1, none⟩ = some (.int .i64 k) ∧ (w5.drew.alloc (.cells #[.int .i64 (sq : Int), .int .i64 k, .int .i64 b, .string d, .int .i64 m] 100)).cell? ⟨w.heap.size, 2, none⟩ = some (.int .i64 b) ∧ (w5.drew.alloc (.cells #[.int .i64 (sq : Int), .int .i64 k, .int .i64 b, .string d, .int .i64 m] 100)).cell? ⟨w.heap.size, 3, none⟩ = some (.string d) ∧ (w5.drew.alloc (.cells #[.int .i64 (sq : Int), .int .i64 k, .int .i64 b, .string d, .int .i64 m] 100)).cell? ⟨w.heap.size, 4, none⟩ = some (.int .i64 m) := ⟨hxb.c0, hxb.c1, hxb.c2, hxb.c3, hxb.c4⟩
 clear h1 h2 h3 h4 hg5 hk5 hp5 hbW c0 c1 c2 c3 c4 c5 c7 fz HPP HWR hxb
 go_wp2_with fail
 refine wp_region_held (S := (fun W => W.cell? ⟨w.heap.size, 0, none⟩ = some (.int .i64 (sq : Int)) ∧ W.cell? ⟨w.heap.size, 1, none⟩ = some (.int .i64 k) ∧ W.cell? ⟨w.heap.size, 2, none⟩ = some (.int .i64 b) ∧ W.cell? ⟨w.heap.size, 3, none⟩ = some (.string d) ∧ W.cell? ⟨w.heap.size, 4, none⟩ = some (.int .i64 m))) (by kernel_rfl) ?_
 change wpAnyH _ _ _ _ _ _ _ _ (World.drew _)
 refine wpAnyH_take (i := 0) (oi := ⟨some 46, _, _, _, _, _⟩) (v := ?_) rfl (by kernel_rfl) (by kernel_rfl) (by kernel_rfl) (fun _ _ _ h => h) (Or.inl ⟨by rfl, ?_⟩) hSa ?_
 rotate_left 1
 ·(intro w hSw; obtain ⟨hSw1, hSw2, hSw3, hSw4, hSw5⟩ := hSw; go_simp; try with_reducible rfl)
 simp only [Act.put, Pk.sl]
 refine wpAnyH_take (i := 1) (oi := ⟨some 47, _, _, _, _, _⟩) (v := ?_) rfl (by kernel_rfl) (by kernel_rfl) (by kernel_rfl) (fun _ _ _ h => h) (Or.inl ⟨by rfl, ?_⟩) hSa ?_
 rotate_left 1
 ·(intro w hSw; obtain ⟨hSw1, hSw2, hSw3, hSw4, hSw5⟩ := hSw; go_simp; try with_reducible rfl)
 simp only [Act.put, Pk.sl]
 refine wpAnyH_take (i := 2) (oi := ⟨some 48, _, _, _, _, _⟩) (v := ?_) rfl (by kernel_rfl) (by kernel_rfl) (by kernel_rfl) (fun _ _ _ h => h) (Or.inl ⟨by rfl, ?_⟩) hSa ?_
 rotate_left 1
 ·(intro w hSw; obtain ⟨hSw1, hSw2, hSw3, hSw4, hSw5⟩ := hSw; go_simp; try with_reducible rfl)
 simp only [Act.put, Pk.sl]
 refine wpAnyH_take (i := 3) (oi := ⟨some 49, _, _, _, _, _⟩) (v := ?_) rfl (by kernel_rfl) (by kernel_rfl) (by kernel_rfl) (fun _ _ _ h => h) (Or.inl ⟨by rfl, ?_⟩) hSa ?_
 rotate_left 1
 ·(intro w hSw; obtain ⟨hSw1, hSw2, hSw3, hSw4, hSw5⟩ := hSw; go_simp; try with_reducible rfl)
 simp only [Act.put, Pk.sl]
 refine wpAnyH_take (i := 5) (oi := ⟨some 51, _, _, _, _, _⟩) (v := ?_) rfl (by kernel_rfl) (by kernel_rfl) (by kernel_rfl) (fun _ _ _ h => h) (Or.inl ⟨by rfl, ?_⟩) hSa ?_
 rotate_left 1
 ·(intro w hSw; obtain ⟨hSw1, hSw2, hSw3, hSw4, hSw5⟩ := hSw; go_simp; try with_reducible rfl)
 simp only [Act.put, Pk.sl]
 refine wpAnyH_ready (rs := [4, 6]) (by kernel_rfl) (by simp) ?_
 refine AllReadyH.cons (o := ⟨some 50, _, _, _, _, _⟩) rfl (fun K hK => ?_) (AllReadyH.cons (o := ⟨some 52, _, _, _, _, _⟩) rfl (fun K hK => ?_) AllReadyH.nil)
 ·go_simp
  refine hK.out _ _ (by first | exact hSa | exact hSb) (fun hHeld => ?_)
  clear hK K
  clear hHeld
  refine wpAnyH_ready (rs := [6]) (by kernel_rfl) (by simp) ?_
  refine AllReadyH.cons (o := ⟨some 52, _, _, _, _, _⟩) rfl (fun K hK => ?_) AllReadyH.nil
  go_simp
  refine hK.out _ _ hSb (fun hHeld => ?_)
  clear hK K
  clear hHeld
  refine wpAnyH_ready (rs := [7]) (by kernel_rfl) (by simp) ?_
  refine AllReadyH.cons (o := ⟨some 53, _, _, _, _, _⟩) rfl (fun K hK => ?_) AllReadyH.nil
  refine step_append_o _ rfl (.tmp 50) (.tmp 52) 55 rfl 100 i0 _ 5 48 Tryz.underlying55 hi0 hz0 Hz1.out Hz2.out rfl (.slice A el c) el (rcels E) rfl HO.out ⟨w5.heap.size, 0, none⟩ 1 1 (rcel ⟨h.g, sq, k, b, d, m⟩) rfl rfl HN.out (rcel_one _) (by decide) Hm1.out Hm2.out _ rfl ?_
  intro g2 o2 cap w6 hown6 hgr6 hor6 hlt6
  have hP := H2.out.appendedL (y := ⟨h.g, sq, k, b, d, m⟩) HBW.out hgr6 hown6 hor6 Hel4.out
  have HPA := hide hP.1
  have HPK := hide hP.2
  have hc6 : w6.cell? ⟨p, 6, none⟩ = some (.slice A el c) := by simp [World.cell?, H2.out.box6 HBW.out (Or.inl rfl) hgr6]
  have hf6 : w6.frozen? ⟨p, 6, none⟩ = false := by simp [World.frozen?, H2.out.box6 HBW.out (Or.inl rfl) hgr6]
  have hbx6 : Bx w6 w.heap.size (sq : Int) k b d m := (hgr6.block _ (Nat.lt_of_lt_of_le HX5.out.lt HBW.out.size) (fun e => HNJ.out ((H2.out.row _ e.symm).1))).trans ((HBW.out.block _ HX5.out.lt).trans HX5.out)
  have hbx7 : Bx (w6.setCell ⟨p, 6, none⟩ (.slice (some ⟨g2, o2, none⟩) (el + 1) cap)) w.heap.size (sq : Int) k b d m := (heap_setCell_other _ _ _ _ (fun e => HNJ.out (by have e2 : w.heap.size = p := e; rw [e2]; exact H2.out.mine))).trans hbx6
  have hSc : w6.cell? ⟨w.heap.size, 0, none⟩ = some (.int .i64 (sq : Int)) ∧ w6.cell? ⟨w.heap.size, 1, none⟩ = some (.int .i64 k) ∧ w6.cell? ⟨w.heap.size, 2, none⟩ = some (.int .i64 b) ∧ w6.cell? ⟨w.heap.size, 3, none⟩ = some (.string d) ∧ w6.cell? ⟨w.heap.size, 4, none⟩ = some (.int .i64 m) := ⟨hbx6.c0, hbx6.c1, hbx6.c2, hbx6.c3, hbx6.c4⟩
  have HX7 := hide hbx7
  clear hP hown6 hgr6 hor6 hlt6 hbx6 hbx7
  refine hK.out _ _ hSc (fun hHeld => ?_)
  clear hK K
  clear hHeld
  refine wpAnyH_take (i := 8) (oi := ⟨some 54, _, _, _, _, _⟩) (v := ?_) rfl (by kernel_rfl) (by kernel_rfl) (by kernel_rfl) (fun _ _ _ h => h) (Or.inl ⟨by rfl, ?_⟩) hSc ?_
  rotate_left 1
  ·(intro w hSw; obtain ⟨hSw1, hSw2, hSw3, hSw4, hSw5⟩ := hSw; go_simp; try with_reducible rfl)
  simp only [Act.put, Pk.sl]
  refine wpAnyH_take (i := 9) (oi := ⟨some 55, _, _, _, _, _⟩) (v := ?_) rfl (by kernel_rfl) (by kernel_rfl) (by kernel_rfl) (fun _ _ _ h => h) (Or.inl ⟨by rfl, ?_⟩) hSc ?_
  rotate_left 1
  ·(intro w hSw; obtain ⟨hSw1, hSw2, hSw3, hSw4, hSw5⟩ := hSw; go_simp; try with_reducible rfl)
  simp only [Act.put, Pk.sl]
  refine wpAnyH_ready (rs := [10]) (by kernel_rfl) (by simp) ?_
  refine AllReadyH.cons (o := ⟨none, _, _, _, _, _⟩) rfl (fun K hK => ?_) AllReadyH.nil
  go_simp
  generalize w6.setCell _ _ = w7 at *
  have hSd : w7.cell? ⟨w.heap.size, 0, none⟩ = some (.int .i64 (sq : Int)) ∧ w7.cell? ⟨w.heap.size, 1, none⟩ = some (.int .i64 k) ∧ w7.cell? ⟨w.heap.size, 2, none⟩ = some (.int .i64 b) ∧ w7.cell? ⟨w.heap.size, 3, none⟩ = some (.string d) ∧ w7.cell? ⟨w.heap.size, 4, none⟩ = some (.int .i64 m) := ⟨HX7.out.c0, HX7.out.c1, HX7.out.c2, HX7.out.c3, HX7.out.c4⟩
  refine hK.out _ _ hSd (fun hHeld => ?_)
  clear hK K
  clear hHeld
  refine wpAnyH_done (by kernel_rfl) ?_ _
  clear hSa hSb hSc hSd hc6 hf6 c6 c6'
  obtain ⟨A7, c7', B7, e8, e6, e7, k0, k1, k2, k3, k4, k5, k6, k7, fz⟩ := HPA.out.cells
  rw [Hel4.out] at k7 e7
  obtain ⟨rfl, rfl⟩ : B = B7 ∧ e = e8 := by simpa using e7
  clear e6 e7
  have hbV : Below w7.heap.size w7 (w7.drew.alloc (.cells #[.int .i64 (h.g : Int)] 3)) := (Below.refl w7.heap.size w7).drew.alloc (Nat.le_refl _) _
  have HBV := hide hbV
  have HO9 : Hid (ORow (w7.drew.alloc (.cells #[.int .i64 (h.g : Int)] 3)) 3 1 (.slice B el e) el (gcels E)) := by
   have := HPA.out.gens
   rw [Hel4.out] at this
   exact this.same fun i hi => hbV.block i (this.lt i hi)
  have HN9 : Hid (∀ j u, ([.int .i64 (h.g : Int)] : List Value)[j]? = some u → (w7.drew.alloc (.cells #[.int .i64 (h.g : Int)] 3)).cell? ((⟨w7.heap.size, 0, none⟩ : Addr).add j) = some u) := fun j u hu => by
   rw [Addr.add_mid, Nat.zero_add]
   show (w7.drew.alloc _).cell? ⟨w7.drew.heap.size, j, none⟩ = _
   rw [cell_of_row _ _ j _ _ _ (heap_alloc_new w7.drew _)]
   exact List.getElem?_toArray.trans hu
  have Hm3 := hide (show (el + 1) * 8 ≤ 140737488355328 by have := Hel.out; have := Hel4.out; omega)
  have k7' : (w7.alloc (.cells #[.int .i64 (h.g : Int)] 3)).cell? ⟨p, 7, none⟩ = some (.slice B el e) := ((Below.refl w7.heap.size w7).alloc (Nat.le_refl _) _).cell (p := ⟨p, 7, none⟩) (HPA.out.lt p HPA.out.mine) |>.trans k7
  have hSa : w7.drew.cell? ⟨p, 4, none⟩ = some (.int .i64 (h.g : Int)) ∧ w7.drew.cell? ⟨w.heap.size, 0, none⟩ = some (.int .i64 (sq : Int)) := ⟨k4, HX7.out.c0⟩
  have hxb := HX7.out.below hbV
  have hSb : (w7.drew.alloc (.cells #[.int .i64 (h.g : Int)] 3)).cell? ⟨p, 4, none⟩ = some (.int .i64 (h.g : Int)) ∧ (w7.drew.alloc (.cells #[.int .i64 (h.g : Int)] 3)).cell? ⟨w.heap.size, 0, none⟩ = some (.int .i64 (sq : Int)) := ⟨(hbV.cell (p := ⟨p, 4, none⟩) (HPA.out.lt p HPA.out.mine)).trans k4, hxb.c0⟩
  have HNJ7 : Hid (w.heap.size ≠ p) := fun e => HNJ.out (by rw [e]; exact H2.out.mine)
  have HX7l := hide HX7.out.lt
  have HNY : Hid (¬ (J5 w.heap.size ∨ w5.heap.size ≤ w.heap.size ∧ w.heap.size < w6.heap.size)) := fun hh => by
   rcases hh with h5 | h5
   ·exact HNJ.out h5
   ·have := HX5.out.lt; omega
  clear k0 k1 k2 k3 k4 k5 k6 fz hbV hxb
  go_wp2_with fail
  refine wp_region_held (S := (fun W => W.cell? ⟨p, 4, none⟩ = some (.int .i64 (h.g : Int)) ∧ W.cell? ⟨w.heap.size, 0, none⟩ = some (.int .i64 (sq : Int)))) (by kernel_rfl) ?_
  change wpAnyH _ _ _ _ _ _ _ _ (World.drew _)
  refine wpAnyH_take (i := 0) (oi := ⟨some 56, _, _, _, _, _⟩) (v := ?_) rfl (by kernel_rfl) (by kernel_rfl) (by kernel_rfl) (fun _ _ _ h => h) (Or.inl ⟨by rfl, ?_⟩) hSa ?_
  rotate_left 1
  ·(intro w hSw; obtain ⟨hSw1, hSw2⟩ := hSw; go_simp; try with_reducible rfl)
  simp only [Act.put, Pk.sl]
  refine wpAnyH_take (i := 1) (oi := ⟨some 57, _, _, _, _, _⟩) (v := ?_) rfl (by kernel_rfl) (by kernel_rfl) (by kernel_rfl) (fun _ _ _ h => h) (Or.inl ⟨by rfl, ?_⟩) hSa ?_
  rotate_left 1
  ·(intro w hSw; obtain ⟨hSw1, hSw2⟩ := hSw; go_simp; try with_reducible rfl)
  simp only [Act.put, Pk.sl]
  refine wpAnyH_take (i := 2) (oi := ⟨some 58, _, _, _, _, _⟩) (v := ?_) rfl (by kernel_rfl) (by kernel_rfl) (by kernel_rfl) (fun _ _ _ h => h) (Or.inl ⟨by rfl, ?_⟩) hSa ?_
  rotate_left 1
  ·(intro w hSw; obtain ⟨hSw1, hSw2⟩ := hSw; go_simp; try with_reducible rfl)
  simp only [Act.put, Pk.sl]
  refine wpAnyH_take (i := 3) (oi := ⟨some 59, _, _, _, _, _⟩) (v := ?_) rfl (by kernel_rfl) (by kernel_rfl) (by kernel_rfl) (fun _ _ _ h => h) (Or.inl ⟨by rfl, ?_⟩) hSa ?_
  rotate_left 1
  ·(intro w hSw; obtain ⟨hSw1, hSw2⟩ := hSw; go_simp; try with_reducible rfl)
  simp only [Act.put, Pk.sl]
  refine wpAnyH_take (i := 5) (oi := ⟨some 61, _, _, _, _, _⟩) (v := ?_) rfl (by kernel_rfl) (by kernel_rfl) (by kernel_rfl) (fun _ _ _ h => h) (Or.inl ⟨by rfl, ?_⟩) hSa ?_
  rotate_left 1
  ·(intro w hSw; obtain ⟨hSw1, hSw2⟩ := hSw; go_simp; try with_reducible rfl)
  simp only [Act.put, Pk.sl]
  refine wpAnyH_take (i := 6) (oi := ⟨some 62, _, _, _, _, _⟩) (v := ?_) rfl (by kernel_rfl) (by kernel_rfl) (by kernel_rfl) (fun _ _ _ h => h) (Or.inl ⟨by rfl, ?_⟩) hSa ?_
  rotate_left 1
  ·(intro w hSw; obtain ⟨hSw1, hSw2⟩ := hSw; go_simp; try with_reducible rfl)
  simp only [Act.put, Pk.sl]
  refine wpAnyH_take (i := 7) (oi := ⟨some 63, _, _, _, _, _⟩) (v := ?_) rfl (by kernel_rfl) (by kernel_rfl) (by kernel_rfl) (fun _ _ _ h => h) (Or.inl ⟨by rfl, ?_⟩) hSa ?_
  rotate_left 1
  ·(intro w hSw; obtain ⟨hSw1, hSw2⟩ := hSw; go_simp; try with_reducible rfl)
  simp only [Act.put, Pk.sl]
  refine wpAnyH_take (i := 8) (oi := ⟨some 64, _, _, _, _, _⟩) (v := ?_) rfl (by kernel_rfl) (by kernel_rfl) (by kernel_rfl) (fun _ _ _ h => h) (Or.inl ⟨by rfl, ?_⟩) hSa ?_
  rotate_left 1
  ·(intro w hSw; obtain ⟨hSw1, hSw2⟩ := hSw; go_simp; try with_reducible rfl)
  simp only [Act.put, Pk.sl]
  refine wpAnyH_ready (rs := [4, 9]) (by kernel_rfl) (by simp) ?_
  refine AllReadyH.cons (o := ⟨some 60, _, _, _, _, _⟩) rfl (fun K hK => ?_) (AllReadyH.cons (o := ⟨some 65, _, _, _, _, _⟩) rfl (fun K hK => ?_) AllReadyH.nil)
  ·go_simp
   refine hK.out _ _ (by first | exact hSa | exact hSb) (fun hHeld => ?_)
   clear hK K
   clear hHeld
   refine wpAnyH_ready (rs := [9]) (by kernel_rfl) (by simp) ?_
   refine AllReadyH.cons (o := ⟨some 65, _, _, _, _, _⟩) rfl (fun K hK => ?_) AllReadyH.nil
   go_simp
   refine hK.out _ _ hSb (fun hHeld => ?_)
   clear hK K
   clear hHeld
   refine wpAnyH_ready (rs := [10]) (by kernel_rfl) (by simp) ?_
   refine AllReadyH.cons (o := ⟨some 66, _, _, _, _, _⟩) rfl (fun K hK => ?_) AllReadyH.nil
   refine step_append_o _ rfl (.tmp 60) (.tmp 65) 57 rfl 3 j0 _ 1 8 Tryz.underlying57 hj0 hy0 Hy1.out Hy2.out rfl (.slice B el e) el (gcels E) rfl HO9.out ⟨w7.heap.size, 0, none⟩ 1 1 [.int .i64 (h.g : Int)] rfl rfl HN9.out (fun u hu => by simp at hu; subst hu; rfl) (by decide) Hm1.out Hm3.out _ rfl ?_
   intro g3 o3 cap3 w8 hown8 hgr8 hor8 hlt8
   have hP := HPA.out.appendedG (y := ⟨h.g, sq, k, b, d, m⟩) HBV.out hgr8 hown8 hor8 Hel4.out
   have HQA := hide hP.1
   have HQK := hide hP.2
   have hc7 : w8.cell? ⟨p, 7, none⟩ = some (.slice B el e) := by simp [World.cell?, HPA.out.box6 HBV.out (Or.inr rfl) hgr8]
   have hf7 : w8.frozen? ⟨p, 7, none⟩ = false := by simp [World.frozen?, HPA.out.box6 HBV.out (Or.inr rfl) hgr8]
   have hc4 : w8.cell? ⟨p, 4, none⟩ = some (.int .i64 (h.g : Int)) := by simp [World.cell?, HPA.out.box6 HBV.out (Or.inr rfl) hgr8]
   have hbx8 : Bx w8 w.heap.size (sq : Int) k b d m := (hgr8.block _ (Nat.lt_of_lt_of_le HX7l.out HBV.out.size) (fun e => HNY.out ((HPA.out.gen _ e.symm).1))).trans ((HBV.out.block _ HX7l.out).trans HX7.out)
   have hbx9 : Bx (w8.setCell ⟨p, 7, none⟩ (.slice (some ⟨g3, o3, none⟩) (el + 1) cap3)) w.heap.size (sq : Int) k b d m := (heap_setCell_other _ _ _ _ HNJ7.out).trans hbx8
   have hSc : w8.cell? ⟨p, 4, none⟩ = some (.int .i64 (h.g : Int)) ∧ w8.cell? ⟨w.heap.size, 0, none⟩ = some (.int .i64 (sq : Int)) := ⟨hc4, hbx8.c0⟩
   have HX9 := hide hbx9
   clear hP hown8 hgr8 hor8 hlt8 hbx8 hbx9
   refine hK.out _ _ hSc (fun hHeld => ?_)
   clear hK K
   clear hHeld
   refine wpAnyH_take (i := 11) (oi := ⟨some 67, _, _, _, _, _⟩) (v := ?_) rfl (by kernel_rfl) (by kernel_rfl) (by kernel_rfl) (fun _ _ _ h => h) (Or.inl ⟨by rfl, ?_⟩) hSc ?_
   rotate_left 1
   ·(intro w hSw; obtain ⟨hSw1, hSw2⟩ := hSw; go_simp; try with_reducible rfl)
   simp only [Act.put, Pk.sl]
   refine wpAnyH_take (i := 12) (oi := ⟨some 68, _, _, _, _, _⟩) (v := ?_) rfl (by kernel_rfl) (by kernel_rfl) (by kernel_rfl) (fun _ _ _ h => h) (Or.inl ⟨by rfl, ?_⟩) hSc ?_
   rotate_left 1
   ·(intro w hSw; obtain ⟨hSw1, hSw2⟩ := hSw; go_simp; try with_reducible rfl)
   simp only [Act.put, Pk.sl]
   refine wpAnyH_ready (rs := [13]) (by kernel_rfl) (by simp) ?_
   refine AllReadyH.cons (o := ⟨none, _, _, _, _, _⟩) rfl (fun K hK => ?_) AllReadyH.nil
   go_simp
   generalize w8.setCell _ _ = w9 at *
   have hSd : w9.cell? ⟨p, 4, none⟩ = some (.int .i64 (h.g : Int)) ∧ w9.cell? ⟨w.heap.size, 0, none⟩ = some (.int .i64 (sq : Int)) := ⟨HQA.out.heads.2.2.2.1, HX9.out.c0⟩
   refine hK.out _ _ hSd (fun hHeld => ?_)
   clear hK K
   clear hHeld
   refine wpAnyH_done (by kernel_rfl) ?_ _
   have hg0 := hSd.2
   clear hSa hSb hSc hSd hc7 hf7 hc4
   go_wp2
   go_ret2
   have e1 := Hsq.out
   have e2 := HCC.out
   subst e2
   subst e1
   refine ⟨rfl, ?_⟩
   refine RjPost.of (Grew.refl _ _) HK4.out (RjPost.of HG5.out HK5.out (Rj.mine H1.out H3.out H4.out ?_ ?_ HQA.out))
   ·intro i hi
    rcases hi with hi | hi
    ·rcases hi with hi | hi
     ·exact Or.inl hi
     ·exact Or.inr hi.1
    ·exact Or.inr (Nat.le_trans HPK.out.size hi.1)
   ·refine HPK.out.trans (fun i hi => ?_) HQK.out
    rcases hi with hi | hi
    ·exact Or.inl hi
    ·exact Or.inr hi.1
  ·go_simp
   refine hK.out _ _ hSb (fun hHeld => ?_)
   clear hK K
   clear hHeld
   refine wpAnyH_ready (rs := [4]) (by kernel_rfl) (by simp) ?_
   refine AllReadyH.cons (o := ⟨some 60, _, _, _, _, _⟩) rfl (fun K hK => ?_) AllReadyH.nil
   go_simp
   refine hK.out _ _ (by first | exact hSa | exact hSb) (fun hHeld => ?_)
   clear hK K
   clear hHeld
   refine wpAnyH_ready (rs := [10]) (by kernel_rfl) (by simp) ?_
   refine AllReadyH.cons (o := ⟨some 66, _, _, _, _, _⟩) rfl (fun K hK => ?_) AllReadyH.nil
   refine step_append_o _ rfl (.tmp 60) (.tmp 65) 57 rfl 3 j0 _ 1 8 Tryz.underlying57 hj0 hy0 Hy1.out Hy2.out rfl (.slice B el e) el (gcels E) rfl HO9.out ⟨w7.heap.size, 0, none⟩ 1 1 [.int .i64 (h.g : Int)] rfl rfl HN9.out (fun u hu => by simp at hu; subst hu; rfl) (by decide) Hm1.out Hm3.out _ rfl ?_
   intro g3 o3 cap3 w8 hown8 hgr8 hor8 hlt8
   have hP := HPA.out.appendedG (y := ⟨h.g, sq, k, b, d, m⟩) HBV.out hgr8 hown8 hor8 Hel4.out
   have HQA := hide hP.1
   have HQK := hide hP.2
   have hc7 : w8.cell? ⟨p, 7, none⟩ = some (.slice B el e) := by simp [World.cell?, HPA.out.box6 HBV.out (Or.inr rfl) hgr8]
   have hf7 : w8.frozen? ⟨p, 7, none⟩ = false := by simp [World.frozen?, HPA.out.box6 HBV.out (Or.inr rfl) hgr8]
   have hc4 : w8.cell? ⟨p, 4, none⟩ = some (.int .i64 (h.g : Int)) := by simp [World.cell?, HPA.out.box6 HBV.out (Or.inr rfl) hgr8]
   have hbx8 : Bx w8 w.heap.size (sq : Int) k b d m := (hgr8.block _ (Nat.lt_of_lt_of_le HX7l.out HBV.out.size) (fun e => HNY.out ((HPA.out.gen _ e.symm).1))).trans ((HBV.out.block _ HX7l.out).trans HX7.out)
   have hbx9 : Bx (w8.setCell ⟨p, 7, none⟩ (.slice (some ⟨g3, o3, none⟩) (el + 1) cap3)) w.heap.size (sq : Int) k b d m := (heap_setCell_other _ _ _ _ HNJ7.out).trans hbx8
   have hSc : w8.cell? ⟨p, 4, none⟩ = some (.int .i64 (h.g : Int)) ∧ w8.cell? ⟨w.heap.size, 0, none⟩ = some (.int .i64 (sq : Int)) := ⟨hc4, hbx8.c0⟩
   have HX9 := hide hbx9
   clear hP hown8 hgr8 hor8 hlt8 hbx8 hbx9
   refine hK.out _ _ hSc (fun hHeld => ?_)
   clear hK K
   clear hHeld
   refine wpAnyH_take (i := 11) (oi := ⟨some 67, _, _, _, _, _⟩) (v := ?_) rfl (by kernel_rfl) (by kernel_rfl) (by kernel_rfl) (fun _ _ _ h => h) (Or.inl ⟨by rfl, ?_⟩) hSc ?_
   rotate_left 1
   ·(intro w hSw; obtain ⟨hSw1, hSw2⟩ := hSw; go_simp; try with_reducible rfl)
   simp only [Act.put, Pk.sl]
   refine wpAnyH_take (i := 12) (oi := ⟨some 68, _, _, _, _, _⟩) (v := ?_) rfl (by kernel_rfl) (by kernel_rfl) (by kernel_rfl) (fun _ _ _ h => h) (Or.inl ⟨by rfl, ?_⟩) hSc ?_
   rotate_left 1
   ·(intro w hSw; obtain ⟨hSw1, hSw2⟩ := hSw; go_simp; try with_reducible rfl)
   simp only [Act.put, Pk.sl]
   refine wpAnyH_ready (rs := [13]) (by kernel_rfl) (by simp) ?_
   refine AllReadyH.cons (o := ⟨none, _, _, _, _, _⟩) rfl (fun K hK => ?_) AllReadyH.nil
   go_simp
   generalize w8.setCell _ _ = w9 at *
   have hSd : w9.cell? ⟨p, 4, none⟩ = some (.int .i64 (h.g : Int)) ∧ w9.cell? ⟨w.heap.size, 0, none⟩ = some (.int .i64 (sq : Int)) := ⟨HQA.out.heads.2.2.2.1, HX9.out.c0⟩
   refine hK.out _ _ hSd (fun hHeld => ?_)
   clear hK K
   clear hHeld
   refine wpAnyH_done (by kernel_rfl) ?_ _
   have hg0 := hSd.2
   clear hSa hSb hSc hSd hc7 hf7 hc4
   go_wp2
   go_ret2
   have e1 := Hsq.out
   have e2 := HCC.out
   subst e2
   subst e1
   refine ⟨rfl, ?_⟩
   refine RjPost.of (Grew.refl _ _) HK4.out (RjPost.of HG5.out HK5.out (Rj.mine H1.out H3.out H4.out ?_ ?_ HQA.out))
   ·intro i hi
    rcases hi with hi | hi
    ·rcases hi with hi | hi
     ·exact Or.inl hi
     ·exact Or.inr hi.1
    ·exact Or.inr (Nat.le_trans HPK.out.size hi.1)
   ·refine HPK.out.trans (fun i hi => ?_) HQK.out
    rcases hi with hi | hi
    ·exact Or.inl hi
    ·exact Or.inr hi.1
 ·go_simp
  refine hK.out _ _ hSb (fun hHeld => ?_)
  clear hK K
  clear hHeld
  refine wpAnyH_ready (rs := [4]) (by kernel_rfl) (by simp) ?_
  refine AllReadyH.cons (o := ⟨some 50, _, _, _, _, _⟩) rfl (fun K hK => ?_) AllReadyH.nil
  go_simp
  refine hK.out _ _ (by first | exact hSa | exact hSb) (fun hHeld => ?_)
  clear hK K
  clear hHeld
  refine wpAnyH_ready (rs := [7]) (by kernel_rfl) (by simp) ?_
  refine AllReadyH.cons (o := ⟨some 53, _, _, _, _, _⟩) rfl (fun K hK => ?_) AllReadyH.nil
  refine step_append_o _ rfl (.tmp 50) (.tmp 52) 55 rfl 100 i0 _ 5 48 Tryz.underlying55 hi0 hz0 Hz1.out Hz2.out rfl (.slice A el c) el (rcels E) rfl HO.out ⟨w5.heap.size, 0, none⟩ 1 1 (rcel ⟨h.g, sq, k, b, d, m⟩) rfl rfl HN.out (rcel_one _) (by decide) Hm1.out Hm2.out _ rfl ?_
  intro g2 o2 cap w6 hown6 hgr6 hor6 hlt6
  have hP := H2.out.appendedL (y := ⟨h.g, sq, k, b, d, m⟩) HBW.out hgr6 hown6 hor6 Hel4.out
  have HPA := hide hP.1
  have HPK := hide hP.2
  have hc6 : w6.cell? ⟨p, 6, none⟩ = some (.slice A el c) := by simp [World.cell?, H2.out.box6 HBW.out (Or.inl rfl) hgr6]
  have hf6 : w6.frozen? ⟨p, 6, none⟩ = false := by simp [World.frozen?, H2.out.box6 HBW.out (Or.inl rfl) hgr6]
  have hbx6 : Bx w6 w.heap.size (sq : Int) k b d m := (hgr6.block _ (Nat.lt_of_lt_of_le HX5.out.lt HBW.out.size) (fun e => HNJ.out ((H2.out.row _ e.symm).1))).trans ((HBW.out.block _ HX5.out.lt).trans HX5.out)
  have hbx7 : Bx (w6.setCell ⟨p, 6, none⟩ (.slice (some ⟨g2, o2, none⟩) (el + 1) cap)) w.heap.size (sq : Int) k b d m := (heap_setCell_other _ _ _ _ (fun e => HNJ.out (by have e2 : w.heap.size = p := e; rw [e2]; exact H2.out.mine))).trans hbx6
  have hSc : w6.cell? ⟨w.heap.size, 0, none⟩ = some (.int .i64 (sq : Int)) ∧ w6.cell? ⟨w.heap.size, 1, none⟩ = some (.int .i64 k) ∧ w6.cell? ⟨w.heap.size, 2, none⟩ = some (.int .i64 b) ∧ w6.cell? ⟨w.heap.size, 3, none⟩ = some (.string d) ∧ w6.cell? ⟨w.heap.size, 4, none⟩ = some (.int .i64 m) := ⟨hbx6.c0, hbx6.c1, hbx6.c2, hbx6.c3, hbx6.c4⟩
  have HX7 := hide hbx7
  clear hP hown6 hgr6 hor6 hlt6 hbx6 hbx7
  refine hK.out _ _ hSc (fun hHeld => ?_)
  clear hK K
  clear hHeld
  refine wpAnyH_take (i := 8) (oi := ⟨some 54, _, _, _, _, _⟩) (v := ?_) rfl (by kernel_rfl) (by kernel_rfl) (by kernel_rfl) (fun _ _ _ h => h) (Or.inl ⟨by rfl, ?_⟩) hSc ?_
  rotate_left 1
  ·(intro w hSw; obtain ⟨hSw1, hSw2, hSw3, hSw4, hSw5⟩ := hSw; go_simp; try with_reducible rfl)
  simp only [Act.put, Pk.sl]
  refine wpAnyH_take (i := 9) (oi := ⟨some 55, _, _, _, _, _⟩) (v := ?_) rfl (by kernel_rfl) (by kernel_rfl) (by kernel_rfl) (fun _ _ _ h => h) (Or.inl ⟨by rfl, ?_⟩) hSc ?_
  rotate_left 1
  ·(intro w hSw; obtain ⟨hSw1, hSw2, hSw3, hSw4, hSw5⟩ := hSw; go_simp; try with_reducible rfl)
  simp only [Act.put, Pk.sl]
  refine wpAnyH_ready (rs := [10]) (by kernel_rfl) (by simp) ?_
  refine AllReadyH.cons (o := ⟨none, _, _, _, _, _⟩) rfl (fun K hK => ?_) AllReadyH.nil
  go_simp
  generalize w6.setCell _ _ = w7 at *
  have hSd : w7.cell? ⟨w.heap.size, 0, none⟩ = some (.int .i64 (sq : Int)) ∧ w7.cell? ⟨w.heap.size, 1, none⟩ = some (.int .i64 k) ∧ w7.cell? ⟨w.heap.size, 2, none⟩ = some (.int .i64 b) ∧ w7.cell? ⟨w.heap.size, 3, none⟩ = some (.string d) ∧ w7.cell? ⟨w.heap.size, 4, none⟩ = some (.int .i64 m) := ⟨HX7.out.c0, HX7.out.c1, HX7.out.c2, HX7.out.c3, HX7.out.c4⟩
  refine hK.out _ _ hSd (fun hHeld => ?_)
  clear hK K
  clear hHeld
  refine wpAnyH_done (by kernel_rfl) ?_ _
  clear hSa hSb hSc hSd hc6 hf6 c6 c6'
  obtain ⟨A7, c7', B7, e8, e6, e7, k0, k1, k2, k3, k4, k5, k6, k7, fz⟩ := HPA.out.cells
  rw [Hel4.out] at k7 e7
  obtain ⟨rfl, rfl⟩ : B = B7 ∧ e = e8 := by simpa using e7
  clear e6 e7
  have hbV : Below w7.heap.size w7 (w7.drew.alloc (.cells #[.int .i64 (h.g : Int)] 3)) := (Below.refl w7.heap.size w7).drew.alloc (Nat.le_refl _) _
  have HBV := hide hbV
  have HO9 : Hid (ORow (w7.drew.alloc (.cells #[.int .i64 (h.g : Int)] 3)) 3 1 (.slice B el e) el (gcels E)) := by
   have := HPA.out.gens
   rw [Hel4.out] at this
   exact this.same fun i hi => hbV.block i (this.lt i hi)
  have HN9 : Hid (∀ j u, ([.int .i64 (h.g : Int)] : List Value)[j]? = some u → (w7.drew.alloc (.cells #[.int .i64 (h.g : Int)] 3)).cell? ((⟨w7.heap.size, 0, none⟩ : Addr).add j) = some u) := fun j u hu => by
   rw [Addr.add_mid, Nat.zero_add]
   show (w7.drew.alloc _).cell? ⟨w7.drew.heap.size, j, none⟩ = _
   rw [cell_of_row _ _ j _ _ _ (heap_alloc_new w7.drew _)]
   exact List.getElem?_toArray.trans hu
  have Hm3 := hide (show (el + 1) * 8 ≤ 140737488355328 by have := Hel.out; have := Hel4.out; omega)
  have k7' : (w7.alloc (.cells #[.int .i64 (h.g : Int)] 3)).cell? ⟨p, 7, none⟩ = some (.slice B el e) := ((Below.refl w7.heap.size w7).alloc (Nat.le_refl _) _).cell (p := ⟨p, 7, none⟩) (HPA.out.lt p HPA.out.mine) |>.trans k7
  have hSa : w7.drew.cell? ⟨p, 4, none⟩ = some (.int .i64 (h.g : Int)) ∧ w7.drew.cell? ⟨w.heap.size, 0, none⟩ = some (.int .i64 (sq : Int)) := ⟨k4, HX7.out.c0⟩
  have hxb := HX7.out.below hbV
  have hSb : (w7.drew.alloc (.cells #[.int .i64 (h.g : Int)] 3)).cell? ⟨p, 4, none⟩ = some (.int .i64 (h.g : Int)) ∧ (w7.drew.alloc (.cells #[.int .i64 (h.g : Int)] 3)).cell? ⟨w.heap.size, 0, none⟩ = some (.int .i64 (sq : Int)) := ⟨(hbV.cell (p := ⟨p, 4, none⟩) (HPA.out.lt p HPA.out.mine)).trans k4, hxb.c0⟩
  have HNJ7 : Hid (w.heap.size ≠ p) := fun e => HNJ.out (by rw [e]; exact H2.out.mine)
  have HX7l := hide HX7.out.lt
  have HNY : Hid (¬ (J5 w.heap.size ∨ w5.heap.size ≤ w.heap.size ∧ w.heap.size < w6.heap.size)) := fun hh => by
   rcases hh with h5 | h5
   ·exact HNJ.out h5
   ·have := HX5.out.lt; omega
  clear k0 k1 k2 k3 k4 k5 k6 fz hbV hxb
  go_wp2_with fail
  refine wp_region_held (S := (fun W => W.cell? ⟨p, 4, none⟩ = some (.int .i64 (h.g : Int)) ∧ W.cell? ⟨w.heap.size, 0, none⟩ = some (.int .i64 (sq : Int)))) (by kernel_rfl) ?_
  change wpAnyH _ _ _ _ _ _ _ _ (World.drew _)
  refine wpAnyH_take (i := 0) (oi := ⟨some 56, _, _, _, _, _⟩) (v := ?_) rfl (by kernel_rfl) (by kernel_rfl) (by kernel_rfl) (fun _ _ _ h => h) (Or.inl ⟨by rfl, ?_⟩) hSa ?_
  rotate_left 1
  ·(intro w hSw; obtain ⟨hSw1, hSw2⟩ := hSw; go_simp; try with_reducible rfl)
  simp only [Act.put, Pk.sl]
  refine wpAnyH_take (i := 1) (oi := ⟨some 57, _, _, _, _, _⟩) (v := ?_) rfl (by kernel_rfl) (by kernel_rfl) (by kernel_rfl) (fun _ _ _ h => h) (Or.inl ⟨by rfl, ?_⟩) hSa ?_
  rotate_left 1
  ·(intro w hSw; obtain ⟨hSw1, hSw2⟩ := hSw; go_simp; try with_reducible rfl)
  simp only [Act.put, Pk.sl]
  refine wpAnyH_take (i := 2) (oi := ⟨some 58, _, _, _, _, _⟩) (v := ?_) rfl (by kernel_rfl) (by kernel_rfl) (by kernel_rfl) (fun _ _ _ h => h) (Or.inl ⟨by rfl, ?_⟩) hSa ?_
  rotate_left 1
  ·(intro w hSw; obtain ⟨hSw1, hSw2⟩ := hSw; go_simp; try with_reducible rfl)
  simp only [Act.put, Pk.sl]
  refine wpAnyH_take (i := 3) (oi := ⟨some 59, _, _, _, _, _⟩) (v := ?_) rfl (by kernel_rfl) (by kernel_rfl) (by kernel_rfl) (fun _ _ _ h => h) (Or.inl ⟨by rfl, ?_⟩) hSa ?_
  rotate_left 1
  ·(intro w hSw; obtain ⟨hSw1, hSw2⟩ := hSw; go_simp; try with_reducible rfl)
  simp only [Act.put, Pk.sl]
  refine wpAnyH_take (i := 5) (oi := ⟨some 61, _, _, _, _, _⟩) (v := ?_) rfl (by kernel_rfl) (by kernel_rfl) (by kernel_rfl) (fun _ _ _ h => h) (Or.inl ⟨by rfl, ?_⟩) hSa ?_
  rotate_left 1
  ·(intro w hSw; obtain ⟨hSw1, hSw2⟩ := hSw; go_simp; try with_reducible rfl)
  simp only [Act.put, Pk.sl]
  refine wpAnyH_take (i := 6) (oi := ⟨some 62, _, _, _, _, _⟩) (v := ?_) rfl (by kernel_rfl) (by kernel_rfl) (by kernel_rfl) (fun _ _ _ h => h) (Or.inl ⟨by rfl, ?_⟩) hSa ?_
  rotate_left 1
  ·(intro w hSw; obtain ⟨hSw1, hSw2⟩ := hSw; go_simp; try with_reducible rfl)
  simp only [Act.put, Pk.sl]
  refine wpAnyH_take (i := 7) (oi := ⟨some 63, _, _, _, _, _⟩) (v := ?_) rfl (by kernel_rfl) (by kernel_rfl) (by kernel_rfl) (fun _ _ _ h => h) (Or.inl ⟨by rfl, ?_⟩) hSa ?_
  rotate_left 1
  ·(intro w hSw; obtain ⟨hSw1, hSw2⟩ := hSw; go_simp; try with_reducible rfl)
  simp only [Act.put, Pk.sl]
  refine wpAnyH_take (i := 8) (oi := ⟨some 64, _, _, _, _, _⟩) (v := ?_) rfl (by kernel_rfl) (by kernel_rfl) (by kernel_rfl) (fun _ _ _ h => h) (Or.inl ⟨by rfl, ?_⟩) hSa ?_
  rotate_left 1
  ·(intro w hSw; obtain ⟨hSw1, hSw2⟩ := hSw; go_simp; try with_reducible rfl)
  simp only [Act.put, Pk.sl]
  refine wpAnyH_ready (rs := [4, 9]) (by kernel_rfl) (by simp) ?_
  refine AllReadyH.cons (o := ⟨some 60, _, _, _, _, _⟩) rfl (fun K hK => ?_) (AllReadyH.cons (o := ⟨some 65, _, _, _, _, _⟩) rfl (fun K hK => ?_) AllReadyH.nil)
  ·go_simp
   refine hK.out _ _ (by first | exact hSa | exact hSb) (fun hHeld => ?_)
   clear hK K
   clear hHeld
   refine wpAnyH_ready (rs := [9]) (by kernel_rfl) (by simp) ?_
   refine AllReadyH.cons (o := ⟨some 65, _, _, _, _, _⟩) rfl (fun K hK => ?_) AllReadyH.nil
   go_simp
   refine hK.out _ _ hSb (fun hHeld => ?_)
   clear hK K
   clear hHeld
   refine wpAnyH_ready (rs := [10]) (by kernel_rfl) (by simp) ?_
   refine AllReadyH.cons (o := ⟨some 66, _, _, _, _, _⟩) rfl (fun K hK => ?_) AllReadyH.nil
   refine step_append_o _ rfl (.tmp 60) (.tmp 65) 57 rfl 3 j0 _ 1 8 Tryz.underlying57 hj0 hy0 Hy1.out Hy2.out rfl (.slice B el e) el (gcels E) rfl HO9.out ⟨w7.heap.size, 0, none⟩ 1 1 [.int .i64 (h.g : Int)] rfl rfl HN9.out (fun u hu => by simp at hu; subst hu; rfl) (by decide) Hm1.out Hm3.out _ rfl ?_
   intro g3 o3 cap3 w8 hown8 hgr8 hor8 hlt8
   have hP := HPA.out.appendedG (y := ⟨h.g, sq, k, b, d, m⟩) HBV.out hgr8 hown8 hor8 Hel4.out
   have HQA := hide hP.1
   have HQK := hide hP.2
   have hc7 : w8.cell? ⟨p, 7, none⟩ = some (.slice B el e) := by simp [World.cell?, HPA.out.box6 HBV.out (Or.inr rfl) hgr8]
   have hf7 : w8.frozen? ⟨p, 7, none⟩ = false := by simp [World.frozen?, HPA.out.box6 HBV.out (Or.inr rfl) hgr8]
   have hc4 : w8.cell? ⟨p, 4, none⟩ = some (.int .i64 (h.g : Int)) := by simp [World.cell?, HPA.out.box6 HBV.out (Or.inr rfl) hgr8]
   have hbx8 : Bx w8 w.heap.size (sq : Int) k b d m := (hgr8.block _ (Nat.lt_of_lt_of_le HX7l.out HBV.out.size) (fun e => HNY.out ((HPA.out.gen _ e.symm).1))).trans ((HBV.out.block _ HX7l.out).trans HX7.out)
   have hbx9 : Bx (w8.setCell ⟨p, 7, none⟩ (.slice (some ⟨g3, o3, none⟩) (el + 1) cap3)) w.heap.size (sq : Int) k b d m := (heap_setCell_other _ _ _ _ HNJ7.out).trans hbx8
   have hSc : w8.cell? ⟨p, 4, none⟩ = some (.int .i64 (h.g : Int)) ∧ w8.cell? ⟨w.heap.size, 0, none⟩ = some (.int .i64 (sq : Int)) := ⟨hc4, hbx8.c0⟩
   have HX9 := hide hbx9
   clear hP hown8 hgr8 hor8 hlt8 hbx8 hbx9
   refine hK.out _ _ hSc (fun hHeld => ?_)
   clear hK K
   clear hHeld
   refine wpAnyH_take (i := 11) (oi := ⟨some 67, _, _, _, _, _⟩) (v := ?_) rfl (by kernel_rfl) (by kernel_rfl) (by kernel_rfl) (fun _ _ _ h => h) (Or.inl ⟨by rfl, ?_⟩) hSc ?_
   rotate_left 1
   ·(intro w hSw; obtain ⟨hSw1, hSw2⟩ := hSw; go_simp; try with_reducible rfl)
   simp only [Act.put, Pk.sl]
   refine wpAnyH_take (i := 12) (oi := ⟨some 68, _, _, _, _, _⟩) (v := ?_) rfl (by kernel_rfl) (by kernel_rfl) (by kernel_rfl) (fun _ _ _ h => h) (Or.inl ⟨by rfl, ?_⟩) hSc ?_
   rotate_left 1
   ·(intro w hSw; obtain ⟨hSw1, hSw2⟩ := hSw; go_simp; try with_reducible rfl)
   simp only [Act.put, Pk.sl]
   refine wpAnyH_ready (rs := [13]) (by kernel_rfl) (by simp) ?_
   refine AllReadyH.cons (o := ⟨none, _, _, _, _, _⟩) rfl (fun K hK => ?_) AllReadyH.nil
   go_simp
   generalize w8.setCell _ _ = w9 at *
   have hSd : w9.cell? ⟨p, 4, none⟩ = some (.int .i64 (h.g : Int)) ∧ w9.cell? ⟨w.heap.size, 0, none⟩ = some (.int .i64 (sq : Int)) := ⟨HQA.out.heads.2.2.2.1, HX9.out.c0⟩
   refine hK.out _ _ hSd (fun hHeld => ?_)
   clear hK K
   clear hHeld
   refine wpAnyH_done (by kernel_rfl) ?_ _
   have hg0 := hSd.2
   clear hSa hSb hSc hSd hc7 hf7 hc4
   go_wp2
   go_ret2
   have e1 := Hsq.out
   have e2 := HCC.out
   subst e2
   subst e1
   refine ⟨rfl, ?_⟩
   refine RjPost.of (Grew.refl _ _) HK4.out (RjPost.of HG5.out HK5.out (Rj.mine H1.out H3.out H4.out ?_ ?_ HQA.out))
   ·intro i hi
    rcases hi with hi | hi
    ·rcases hi with hi | hi
     ·exact Or.inl hi
     ·exact Or.inr hi.1
    ·exact Or.inr (Nat.le_trans HPK.out.size hi.1)
   ·refine HPK.out.trans (fun i hi => ?_) HQK.out
    rcases hi with hi | hi
    ·exact Or.inl hi
    ·exact Or.inr hi.1
  ·go_simp
   refine hK.out _ _ hSb (fun hHeld => ?_)
   clear hK K
   clear hHeld
   refine wpAnyH_ready (rs := [4]) (by kernel_rfl) (by simp) ?_
   refine AllReadyH.cons (o := ⟨some 60, _, _, _, _, _⟩) rfl (fun K hK => ?_) AllReadyH.nil
   go_simp
   refine hK.out _ _ (by first | exact hSa | exact hSb) (fun hHeld => ?_)
   clear hK K
   clear hHeld
   refine wpAnyH_ready (rs := [10]) (by kernel_rfl) (by simp) ?_
   refine AllReadyH.cons (o := ⟨some 66, _, _, _, _, _⟩) rfl (fun K hK => ?_) AllReadyH.nil
   refine step_append_o _ rfl (.tmp 60) (.tmp 65) 57 rfl 3 j0 _ 1 8 Tryz.underlying57 hj0 hy0 Hy1.out Hy2.out rfl (.slice B el e) el (gcels E) rfl HO9.out ⟨w7.heap.size, 0, none⟩ 1 1 [.int .i64 (h.g : Int)] rfl rfl HN9.out (fun u hu => by simp at hu; subst hu; rfl) (by decide) Hm1.out Hm3.out _ rfl ?_
   intro g3 o3 cap3 w8 hown8 hgr8 hor8 hlt8
   have hP := HPA.out.appendedG (y := ⟨h.g, sq, k, b, d, m⟩) HBV.out hgr8 hown8 hor8 Hel4.out
   have HQA := hide hP.1
   have HQK := hide hP.2
   have hc7 : w8.cell? ⟨p, 7, none⟩ = some (.slice B el e) := by simp [World.cell?, HPA.out.box6 HBV.out (Or.inr rfl) hgr8]
   have hf7 : w8.frozen? ⟨p, 7, none⟩ = false := by simp [World.frozen?, HPA.out.box6 HBV.out (Or.inr rfl) hgr8]
   have hc4 : w8.cell? ⟨p, 4, none⟩ = some (.int .i64 (h.g : Int)) := by simp [World.cell?, HPA.out.box6 HBV.out (Or.inr rfl) hgr8]
   have hbx8 : Bx w8 w.heap.size (sq : Int) k b d m := (hgr8.block _ (Nat.lt_of_lt_of_le HX7l.out HBV.out.size) (fun e => HNY.out ((HPA.out.gen _ e.symm).1))).trans ((HBV.out.block _ HX7l.out).trans HX7.out)
   have hbx9 : Bx (w8.setCell ⟨p, 7, none⟩ (.slice (some ⟨g3, o3, none⟩) (el + 1) cap3)) w.heap.size (sq : Int) k b d m := (heap_setCell_other _ _ _ _ HNJ7.out).trans hbx8
   have hSc : w8.cell? ⟨p, 4, none⟩ = some (.int .i64 (h.g : Int)) ∧ w8.cell? ⟨w.heap.size, 0, none⟩ = some (.int .i64 (sq : Int)) := ⟨hc4, hbx8.c0⟩
   have HX9 := hide hbx9
   clear hP hown8 hgr8 hor8 hlt8 hbx8 hbx9
   refine hK.out _ _ hSc (fun hHeld => ?_)
   clear hK K
   clear hHeld
   refine wpAnyH_take (i := 11) (oi := ⟨some 67, _, _, _, _, _⟩) (v := ?_) rfl (by kernel_rfl) (by kernel_rfl) (by kernel_rfl) (fun _ _ _ h => h) (Or.inl ⟨by rfl, ?_⟩) hSc ?_
   rotate_left 1
   ·(intro w hSw; obtain ⟨hSw1, hSw2⟩ := hSw; go_simp; try with_reducible rfl)
   simp only [Act.put, Pk.sl]
   refine wpAnyH_take (i := 12) (oi := ⟨some 68, _, _, _, _, _⟩) (v := ?_) rfl (by kernel_rfl) (by kernel_rfl) (by kernel_rfl) (fun _ _ _ h => h) (Or.inl ⟨by rfl, ?_⟩) hSc ?_
   rotate_left 1
   ·(intro w hSw; obtain ⟨hSw1, hSw2⟩ := hSw; go_simp; try with_reducible rfl)
   simp only [Act.put, Pk.sl]
   refine wpAnyH_ready (rs := [13]) (by kernel_rfl) (by simp) ?_
   refine AllReadyH.cons (o := ⟨none, _, _, _, _, _⟩) rfl (fun K hK => ?_) AllReadyH.nil
   go_simp
   generalize w8.setCell _ _ = w9 at *
   have hSd : w9.cell? ⟨p, 4, none⟩ = some (.int .i64 (h.g : Int)) ∧ w9.cell? ⟨w.heap.size, 0, none⟩ = some (.int .i64 (sq : Int)) := ⟨HQA.out.heads.2.2.2.1, HX9.out.c0⟩
   refine hK.out _ _ hSd (fun hHeld => ?_)
   clear hK K
   clear hHeld
   refine wpAnyH_done (by kernel_rfl) ?_ _
   have hg0 := hSd.2
   clear hSa hSb hSc hSd hc7 hf7 hc4
   go_wp2
   go_ret2
   have e1 := Hsq.out
   have e2 := HCC.out
   subst e2
   subst e1
   refine ⟨rfl, ?_⟩
   refine RjPost.of (Grew.refl _ _) HK4.out (RjPost.of HG5.out HK5.out (Rj.mine H1.out H3.out H4.out ?_ ?_ HQA.out))
   ·intro i hi
    rcases hi with hi | hi
    ·rcases hi with hi | hi
     ·exact Or.inl hi
     ·exact Or.inr hi.1
    ·exact Or.inr (Nat.le_trans HPK.out.size hi.1)
   ·refine HPK.out.trans (fun i hi => ?_) HQK.out
    rcases hi with hi | hi
    ·exact Or.inl hi
    ·exact Or.inr hi.1
end
section
variable (w : World) (G : Nat → Prop) (p q : Nat) (S : List Sec) (L : List Wr) (n : Nat) (h : Hd) (E : List Ent) (hj : Rj w G p q S L n h E)
include hj
end
end Go.Proofs.YtapiogcoipeinaaGreatDoor.Jn
namespace Go.Proofs.YtapiogcoipeinaaGreatDoor.Jn
open Go.RowKit
open Pk hiding str str_data str_size str_of run_str head_str str_append
open Sm hiding run_str
open Fa Rc Dk
theorem rDecode_une (s : Sec) (w : World) (hs : s.length = 64) :
 Calls Tryz.prog 69 #[.string (str s)] w fun e w' => ((∃ x, une s = some x ∧ e = .returned (.tuple #[.int .i64 (x.g : Int), rec5 (x.s : Int) x.k x.b x.d x.m, .int .i64 0])) ∨
  (une s = none ∧ ∃ er : Int, (er != 0) = true ∧ e = .returned (.tuple #[.int .i64 0, rec5 0 0 0 ⟨#[]⟩ 0, .int .i64 er]))) ∧ Below w.heap.size w w' := by
 cases hu : une s with
 | some x =>
   obtain ⟨hx, hsx⟩ := une_spec hu
   refine (rDecode_good (str s) w _ _ _ _ _ _ hx.1 hx.2 (by rw [str_data]; exact hsx)).mono ?_
   rintro e w' ⟨rfl, hb'⟩
   exact ⟨Or.inl ⟨x, rfl, rfl⟩, hb'⟩
 | none =>
   by_cases hn : NoSum s
   ·refine (rDecode_sum (str s) w (by rw [str_size]; omega) (by rw [str_data]; exact hn)).mono ?_
    rintro e w' ⟨rfl, hb'⟩
    exact ⟨Or.inr ⟨rfl, 4, rfl, rfl⟩, hb'⟩
   ·refine (rDecode_none (str s) w (by rw [str_data]; exact hn) (by rw [str_data]; exact fun g q k b d m hr hg => norec_of_none hu g k b q d m hr hg)).mono ?_
    rintro e w' ⟨rfl, hb'⟩
    exact ⟨Or.inr ⟨rfl, 1, rfl, rfl⟩, hb'⟩
def ROpened (w : World) (D : Nat → Prop) (q n : Nat) (S : List Sec) (h : Hd) (E : List Ent) (e : Ending) (w' : World) : Prop :=
 ∃ p, e = .returned (.tuple #[.pointer (some ⟨p, 0, none⟩), .int .i64 0]) ∧ RjPost w D p q (all S [(h.t % 2, hsec h)]) [] n h E w'
theorem Rj.fresh {w : World} {D : Nat → Prop} {q n : Nat} {S : List Sec} (hd : RDsk w D q S []) :
 RjPost w D w.heap.size q S [] n ⟨0, 1, 0, 0⟩ [] (w.alloc (.cells #[.pointer (some ⟨q, 0, none⟩), .int .i64 (n : Int), .int .i64 0, .int .i64 1, .int .i64 0, .int .i64 0, .slice none 0 0, .slice none 0 0] 59)) :=
 ⟨fun k => D k ∨ k = w.heap.size, ⟨D, fun k => k = w.heap.size, _, _, hd.below ((Below.refl _ _).alloc (Nat.le_refl _) _), RjAt.fresh w q n, fun k hk e => by have := hd.lt k hk; have e2 : k = w.heap.size := e; omega, fun k => Iff.rfl⟩,
   fun k hk => hk.imp id (fun e => by rw [e]; exact Nat.le_refl _), Kept.of_below ((Below.refl _ _).alloc (Nat.le_refl _) _)⟩
def lenAt (w : World) (p : Nat) : Nat := match w.cell? ⟨p, 6, none⟩ with
 | some (.slice _ m _) => m
 | _ => 0
theorem RjPost.len {w w' : World} {G : Nat → Prop} {p q n : Nat} {S : List Sec} {L : List Wr} {h : Hd} {E : List Ent} (j : RjPost w G p q S L n h E w') : lenAt w' p = E.length := by
 obtain ⟨G', ⟨D, J, X, Y, h1, h2, h3, h4⟩, _, _⟩ := j
 obtain ⟨A, c, B, d, rfl, rfl, c0, c1, c2, c3, c4, c5, c6, c7, fz⟩ := h2.cells
 unfold lenAt
 rw [c6]
set_option maxRecDepth 100000 in
set_option maxHeartbeats 8000000 in
theorem ROpen_A (w : World) (D : Nat → Prop) (q : Nat) (S : List Sec) (n : Nat) (hd : RDsk w D q S []) (h1n : 1 ≤ n) (h512 : n ≤ 512) (h2n : 2 + n ≤ S.length) (hS : S.length ≤ 1000) (hFull : Full S) (s0 s1 : Sec) (hs0 : S[0]? = some s0) (hs1 : S[1]? = some s1) (t f g l : Nat) (ht : t ≤ 1152921504606846975) (hf : f ≤ 1152921504606846975) (hgn : g ≤ 1152921504606846975) (ha : unh 0 s0 = some ⟨t, f, g, l⟩) (T1 F1 G1 L1 : Int) (hb : HdTup (unh 1 s1) = .tuple #[.int .i64 T1, .int .i64 F1, .int .i64 G1, .int .i64 L1]) (hlt1 : T1 < (t : Int)) :
 Calls Tryz.prog 40 #[.pointer (some ⟨q, 0, none⟩), .int .i64 (n : Int)] w (ROpened w D q n S ⟨t + 1, f, g + 1, l⟩ (load S n g n f l)) := by
 obtain ⟨i0, hi0, hz0, hz1, hz2⟩ := info_parts rec_info
 have Hz1 := hide hz1
 have Hz2 := hide hz2
 obtain ⟨j0, hj0, hy0, hy1, hy2⟩ := info_parts int_info
 have Hy1 := hide hy1
 have Hy2 := hide hy2
 clear hz1 hz2 hy1 hy2
 obtain ⟨sl, hsl⟩ : ∃ sl, S.length = sl := ⟨_, rfl⟩
 have hsi : (sl : Int) ≤ 1000 := by omega
 obtain ⟨A, c, hp0⟩ : ∃ A c, w.cell? ⟨q, 0, none⟩ = some (.slice A sl c) := by
  obtain ⟨F, X, hp, h2, _⟩ := hd
  obtain ⟨A, c, rfl, _⟩ := row_form h2
  exact ⟨A, c, by rw [← hsl]; simp [World.cell?, hp]⟩
 have H1n := hide h1n
 have Hn := hide h512
 have H2n := hide h2n
 have hn1 : ¬ ((n : Int) < 1) := by omega
 have hn5 : ¬ ((512 : Int) < (n : Int)) := by omega
 have hn5' : (n : Int) ≤ 512 := by omega
 obtain ⟨n2, hn2⟩ : ∃ n2, 2 + n = n2 := ⟨_, rfl⟩
 have hn2i : (2 : Int) + (n : Int) = (n2 : Int) := by omega
 have hn2w : IntKind.i64.wrap (n2 : Int) = (n2 : Int) := by rw [IntKind.wrap_i64]; omega
 have hn2l : ¬ ((sl : Int) < (n2 : Int)) := by omega
 have HFull := hide hFull
 have L0 : s0.length = 64 := HFull.out s0 (List.mem_of_getElem? hs0)
 have L1 : s1.length = 64 := HFull.out s1 (List.mem_of_getElem? hs1)
 obtain ⟨Z, hZ⟩ : ∃ Z, load S n g n f l = Z := ⟨_, rfl⟩
 have HZE := hide hZ
 have HZ0 := hide (show Z = [] ++ load S n g (n - 0) (f + 0) l by rw [List.nil_append, Nat.sub_zero, Nat.add_zero]; exact hZ.symm)
 have HR0 := hide (RRead_any w D q 0 S [] s0 hd hs0 (by omega) (by simp))
 have HR1 := hide (RRead_any w D q 1 S [] s1 hd hs1 (by omega) (by simp))
 have HPF := hide (Rj.fresh (n := n) hd)
 obtain ⟨p, hpw⟩ : ∃ p, p = w.heap.size := ⟨_, rfl⟩
 rw [← hpw] at HPF
 have HH0 := hide (fun W => rHead_any (str s0) 0 W (by rw [str_size]; exact L0))
 have HH1 := hide (fun W => rHead_any (str s1) 1 W (by rw [str_size]; exact L1))
 simp only [str_data] at HH0 HH1
 rw [ha] at HH0
 simp only [HdTup] at HH0
 rw [hb] at HH1
 have hT0 : ¬ ((t : Int) < 0) := by omega
 have hT1 : ¬ ((t : Int) < T1) := by omega
 clear hd h1n h512 h2n hS hFull hsl hn2 hs0 hs1 L0 L1 hZ
 go_enter Tryz.func40, Tryz.ntmps40
 go_wp2_with fail
 refine HR0.out.mono ?_
 rintro e w' ⟨rfl, rfl⟩
 go_wp2_with fail
 refine HR1.out.mono ?_
 rintro e w' ⟨rfl, rfl⟩
 clear hp0 HR0 HR1
 go_wp2_with fail
 rw [← hpw]
 clear hpw
 generalize w.alloc _ = w1 at *
 refine (HH0.out w1).mono ?_
 rintro e w2 ⟨rfl, hb2⟩
 have HP2 := hide (HPF.out.below hb2)
 clear hb2 HPF HH0
 go_wp2_with fail
 refine (HH1.out w2).mono ?_
 rintro e w3 ⟨rfl, hb3⟩
 have HP3 := hide (HP2.out.below hb3)
 clear hb3 HP2 HH1
 obtain ⟨G3, hj3, hg3, hk3⟩ := HP3.out
 have HPS := hide (RjPost.of hg3 hk3 (RjPost.then (Rj.set (i := 2) (v := .int .i64 (t : Int)) (h' := ⟨t, 1, 0, 0⟩) hj3 (fun X Y => rfl)) fun _ j => RjPost.then (Rj.set (i := 3) (v := .int .i64 (f : Int)) (h' := ⟨t, f, 0, 0⟩) j (fun X Y => rfl)) fun _ j => RjPost.then (Rj.set (i := 4) (v := .int .i64 (g : Int)) (h' := ⟨t, f, g, 0⟩) j (fun X Y => rfl)) fun _ j => Rj.set (i := 5) (v := .int .i64 (l : Int)) (h' := ⟨t, f, g, l⟩) j (fun X Y => rfl)))
 obtain ⟨D3, J3, X3, Y3, _, k2, _, _⟩ := hj3
 have c2 : w3.cell? ⟨p, 2, none⟩ = some (.int .i64 ((0 : Nat) : Int)) := k2.heads.2.1
 have c3 : w3.cell? ⟨p, 3, none⟩ = some (.int .i64 ((1 : Nat) : Int)) := k2.heads.2.2.1
 have c4 : w3.cell? ⟨p, 4, none⟩ = some (.int .i64 ((0 : Nat) : Int)) := k2.heads.2.2.2.1
 have c5 : w3.cell? ⟨p, 5, none⟩ = some (.int .i64 ((0 : Nat) : Int)) := k2.heads.2.2.2.2
 have f2 : w3.frozen? ⟨p, 2, none⟩ = false := blk_free k2.box 2
 have f3 : w3.frozen? ⟨p, 3, none⟩ = false := blk_free k2.box 3
 have f4 : w3.frozen? ⟨p, 4, none⟩ = false := blk_free k2.box 4
 have f5 : w3.frozen? ⟨p, 5, none⟩ = false := blk_free k2.box 5
 clear k2 hg3 hk3 HP3
 go_wp2_with fail
 generalize (((w3.setCell _ _).setCell _ _).setCell _ _).setCell _ _ = w4 at *
 have HP0 := HPS
 clear HPS c2 c3 c4 c5 f2 f3 f4 f5
 go_loopw [19] (fun lo wr => ∃ (k lt : Nat) (F : List Ent), k ≤ n ∧ lo = .int .i64 (lt : Int) ∧ Hid (F.length = k) ∧ Hid (Z = F ++ load S n g (n - k) (f + k) lt) ∧ Hid (RjPost w D p q S [] n ⟨t, f, g, l⟩ F wr)) (fun _ wr => n - lenAt wr p)
 case atStart => exact ⟨0, l, [], Nat.zero_le _, rfl, rfl, HZ0.out, HP0.out⟩
 case round =>
  clear HP0
  obtain ⟨k, lt, F, hk, rfl, hF, hZF, hp⟩ := hrel
  have hlen := hide (show lenAt wr p = k by rw [hp.out.len, hF.out])
  rcases Nat.lt_or_ge k n with hlt | hge
  ·have Hlt := hide hlt
   have hki : (k : Int) < (n : Int) := by omega
   obtain ⟨sq, hsq⟩ : ∃ sq, f + k = sq := ⟨_, rfl⟩
   have hsq' : (f : Int) + (k : Int) = (sq : Int) := by omega
   have hsb : (sq : Int) ≤ 3000000000000000000 := by have := Hn.out; omega
   have hrmn := remN sq n
   obtain ⟨rr, hrr⟩ : ∃ rr, sq % n = rr := ⟨_, rfl⟩
   have hrlt : rr < n := by rw [← hrr]; exact Nat.mod_lt sq (by omega)
   have hn512 : n ≤ 512 := Hn.out
   have hz : ¬ ((n : Int) = 0) := by omega
   have hz2 : ((n : Int) == 0) = false := by simp; omega
   have hz3 : ¬ (n = 0) := by omega
   rw [hrr] at hrmn
   obtain ⟨cc, hcc⟩ : ∃ cc, 2 + rr = cc := ⟨_, rfl⟩
   have hcci : (2 : Int) + (rr : Int) = (cc : Int) := by omega
   have hwc : IntKind.i64.wrap (cc : Int) = (cc : Int) := by rw [IntKind.wrap_i64]; omega
   have hcl : cc < S.length := by have := H2n.out; omega
   obtain ⟨s, hs⟩ : ∃ s, S[cc]? = some s := ⟨_, List.getElem?_eq_getElem hcl⟩
   have HGD := hide (show S.getD (2 + sq % n) [] = s by rw [hrr, hcc]; exact getD_of hs)
   have Hls := hide (show s.length = 64 from HFull.out s (List.mem_of_getElem? hs))
   have Hs := hide hs
   have Hcl := hide hcl
   obtain ⟨r', hr'⟩ : ∃ r', n - k = r' + 1 := ⟨n - k - 1, by omega⟩
   have hZF' := hZF.out
   rw [hr', hsq] at hZF'
   have HZF := hide hZF'
   have HR' := hide (show n - (k + 1) = r' by omega)
   have HSQ := hide hsq
   obtain ⟨c3, c6, c1⟩ : wr.cell? ⟨p, 3, none⟩ = some (.int .i64 (f : Int)) ∧ (∃ A c, wr.cell? ⟨p, 6, none⟩ = some (.slice A k c)) ∧ True := by
    obtain ⟨G1, ⟨D1, J1, X1, Y1, h1, h2, h3, h4⟩, _, _⟩ := hp.out
    obtain ⟨A, c, B, d, rfl, rfl, c0, c1, c2, c3, c4, c5, c6, c7, fz⟩ := h2.cells
    rw [hF.out] at c6
    exact ⟨c3, ⟨A, c, c6⟩, trivial⟩
   obtain ⟨A0, cc0, c6⟩ := c6
   clear hs hcl hcc hlt hr' hsq hrr hZF hZF' hk c1
   go_wp2_with fail
   go_quiet (fail)
   clear c3 c6
   have hbq : Below wr.heap.size wr (wr.drewN nq) := ⟨rfl, rfl, rfl, Nat.le_refl _, fun _ _ => rfl⟩
   have HP1 := hide (hp.out.below hbq)
   clear hbq hp
   have hlen' := hlen
   generalize wr.drewN nq = w1 at *
   obtain ⟨G1, ⟨D1, J1, X1, Y1, h1, h2, h3, h4⟩, hg1, hk1⟩ := HP1.out
   have HRD := hide (RRead_any w1 D1 q cc S [] s h1 Hs.out Hcl.out (by simp))
   clear h1 h2 h3 h4 hg1 hk1
   go_wp2_with fail
   refine HRD.out.mono ?_
   rintro e w' ⟨rfl, rfl⟩
   clear hrmn hcci hwc hz hz2 hz3 HRD
   go_wp2_with fail
   refine (rDecode_une s w1 Hls.out).mono ?_
   rintro e w3 ⟨hres, hb3⟩
   have HP3 := hide (HP1.out.below hb3)
   clear hb3 HP1
   rcases hres with ⟨x, hux, rfl⟩ | ⟨hux, er, her, rfl⟩
   ·have Hux := hide hux
    obtain ⟨xg, xs, xk, xb, xd, xm⟩ := x
    have hbx0 := Bx.new w3 (xs : Int) xk xb xd xm
    have HP4 := hide (HP3.out.below (box_below w3 (xs : Int) xk xb xd xm))
    have e4 : (w3.alloc (.cells #[.int .i64 (xs : Int), .int .i64 xk, .int .i64 xb, .string xd, .int .i64 xm] 100)).cell? ⟨p, 4, none⟩ = some (.int .i64 (g : Int)) := by obtain ⟨G, ⟨D, J, X, Y, h1, h2, h3, h4⟩, _, _⟩ := HP4.out; exact h2.heads.2.2.2.1
    have HPL : Hid (∀ i, (∃ G J X Y D, RDsk w3 D q S [] ∧ RjAt w3 J p q n ⟨t, f, g, l⟩ F F X Y ∧ G = J ∧ J i) → i < w3.heap.size) := fun i hi => by
     obtain ⟨G, J, X, Y, D, _, h2, _, hJ⟩ := hi
     exact h2.lt i hJ
    clear hux
    by_cases hq : xs = sq
    ·subst hq
     by_cases hg1 : xg < lt
     ·have hgi : (xg : Int) < (lt : Int) := by omega
      have HE := hide (show Z = F by rw [HZF.out, load_no (by rw [HGD.out]; exact Hux.out) (by intro h; have := h.2.1; have e : (⟨xg, xs, xk, xb, xd, xm⟩ : Ent).g = xg := rfl; omega), List.append_nil])
      have HP := HP4
      clear hg1 HP3 HP4 HPL
      obtain ⟨G9, hj9, hg9, hk9⟩ := HP.out
      have HPS := hide (RjPost.of hg9 hk9 (Rj.set (i := 4) (v := .int .i64 ((g : Int) + 1)) (h' := ⟨t, f, g + 1, l⟩) hj9 (fun X Y => rfl)))
      obtain ⟨D9, J9, X9, Y9, _, k2, _, _⟩ := hj9
      have e4 : (w3.alloc (.cells #[.int .i64 (xs : Int), .int .i64 xk, .int .i64 xb, .string xd, .int .i64 xm] 100)).cell? ⟨p, 4, none⟩ = some (.int .i64 (g : Int)) := k2.heads.2.2.2.1
      have f4 : (w3.alloc (.cells #[.int .i64 (xs : Int), .int .i64 xk, .int .i64 xb, .string xd, .int .i64 xm] 100)).frozen? ⟨p, 4, none⟩ = false := blk_free k2.box 4
      clear k2 hg9 hk9 HP
      go_wp2_with fail
      generalize World.setCell _ _ _ = w8 at *
      obtain ⟨G8, hj8, hg8, hk8⟩ := HPS.out
      have hFE := HE.out
      refine (RSave_any w8 G8 p q S [] n ⟨t, f, g + 1, l⟩ F hj8 (by show t ≤ _; omega) (by have := H2n.out; omega) (by simp)).mono ?_
      rintro e w9 ⟨rfl, hp9⟩
      have HP9 := hide (RjPost.of hg8 hk8 hp9)
      clear hj8 hg8 hk8 hp9 HPS e4 f4
      go_wp2
      go_ret2
      refine ⟨p, rfl, ?_⟩
      show RjPost w D p q (all S ([] ++ [((t + 1) % 2, hsec ⟨t + 1, f, g + 1, l⟩)])) [] n ⟨t + 1, f, g + 1, l⟩ _ _
      have hZE := HZE.out
      rw [show load S n g n f l = F by rw [hZE, hFE]]
      exact HP9.out
     ·have hgi : ¬ ((xg : Int) < (lt : Int)) := by omega
      by_cases hg2 : g < xg
      ·have hgj : (g : Int) < (xg : Int) := by omega
       have HE := hide (show Z = F by rw [HZF.out, load_no (by rw [HGD.out]; exact Hux.out) (by intro h; have := h.2.2; have e : (⟨xg, xs, xk, xb, xd, xm⟩ : Ent).g = xg := rfl; omega), List.append_nil])
       have HP := HP4
       clear hg1 hg2 HP3 HP4 HPL
       obtain ⟨G9, hj9, hg9, hk9⟩ := HP.out
       have HPS := hide (RjPost.of hg9 hk9 (Rj.set (i := 4) (v := .int .i64 ((g : Int) + 1)) (h' := ⟨t, f, g + 1, l⟩) hj9 (fun X Y => rfl)))
       obtain ⟨D9, J9, X9, Y9, _, k2, _, _⟩ := hj9
       have e4 : (w3.alloc (.cells #[.int .i64 (xs : Int), .int .i64 xk, .int .i64 xb, .string xd, .int .i64 xm] 100)).cell? ⟨p, 4, none⟩ = some (.int .i64 (g : Int)) := k2.heads.2.2.2.1
       have f4 : (w3.alloc (.cells #[.int .i64 (xs : Int), .int .i64 xk, .int .i64 xb, .string xd, .int .i64 xm] 100)).frozen? ⟨p, 4, none⟩ = false := blk_free k2.box 4
       clear k2 hg9 hk9 HP
       go_wp2_with fail
       generalize World.setCell _ _ _ = w8 at *
       obtain ⟨G8, hj8, hg8, hk8⟩ := HPS.out
       have hFE := HE.out
       refine (RSave_any w8 G8 p q S [] n ⟨t, f, g + 1, l⟩ F hj8 (by show t ≤ _; omega) (by have := H2n.out; omega) (by simp)).mono ?_
       rintro e w9 ⟨rfl, hp9⟩
       have HP9 := hide (RjPost.of hg8 hk8 hp9)
       clear hj8 hg8 hk8 hp9 HPS e4 f4
       go_wp2
       go_ret2
       refine ⟨p, rfl, ?_⟩
       show RjPost w D p q (all S ([] ++ [((t + 1) % 2, hsec ⟨t + 1, f, g + 1, l⟩)])) [] n ⟨t + 1, f, g + 1, l⟩ _ _
       have hZE := HZE.out
       rw [show load S n g n f l = F by rw [hZE, hFE]]
       exact HP9.out
      ·have hgj : ¬ ((g : Int) < (xg : Int)) := by omega
       have HE := hide (show Z = (F ++ [⟨xg, xs, xk, xb, xd, xm⟩]) ++ load S n g r' (xs + 1) xg by rw [HZF.out, load_yes (e := ⟨xg, xs, xk, xb, xd, xm⟩) (by rw [HGD.out]; exact Hux.out) ⟨rfl, by show lt ≤ xg; omega, by show xg ≤ g; omega⟩, List.append_assoc]; rfl)
       clear hg1 hg2 HPL
       obtain ⟨bx, hbx⟩ : ∃ bx, bx = w3.heap.size := ⟨_, rfl⟩
       obtain ⟨w4, hw4⟩ : ∃ w4, w4 = w3.alloc (.cells #[.int .i64 (xs : Int), .int .i64 xk, .int .i64 xb, .string xd, .int .i64 xm] 100) := ⟨_, rfl⟩
       obtain ⟨G3, ⟨D3, J3, X3, Y3, h1, h2, h3, h4⟩, hg3, hk3⟩ := HP3.out
       have hbb := box_below w3 (xs : Int) xk xb xd xm
       have hNJ : ¬ J3 bx := fun hJ => by have := h2.lt bx hJ; omega
       have h1' := h1.below hbb
       have h2' := h2.below hbb
       have hk3' := hk3.trans hg3 (Kept.of_below (G := G3) hbb)
       rw [← hw4] at h1' h2' hk3' hbx0
       rw [← hbx] at hbx0
       have HX4 := hide hbx0
       have HNJ := hide hNJ
       have H1 := hide h1'
       have H3 := hide h3
       have H4 := hide h4
       have HG4 := hide hg3
       have HK4 := hide hk3'
       obtain ⟨A, c, B, d, rfl, rfl, c0, c1, c2, c3, c4, c5, c6, c7, fz⟩ := h2'.cells
       have H2 := hide h2'
       rw [hF.out] at c6 H2
       have hbW : Below w4.heap.size w4 (w4.drew.alloc (.cells #[.int .i64 (xs : Int), .int .i64 xk, .int .i64 xb, .string xd, .int .i64 xm] 100)) := (Below.refl w4.heap.size w4).drew.alloc (Nat.le_refl _) _
       have HBW := hide hbW
       have HO : Hid (ORow (w4.drew.alloc (.cells #[.int .i64 (xs : Int), .int .i64 xk, .int .i64 xb, .string xd, .int .i64 xm] 100)) 100 5 (.slice A k c) k (rcels F)) := by
        have := h2'.rows
        rw [hF.out] at this
        exact this.same fun i hi => hbW.block i (this.lt i hi)
       have HN : Hid (∀ j u, (rcel ⟨xg, xs, xk, xb, xd, xm⟩)[j]? = some u → (w4.drew.alloc (.cells #[.int .i64 (xs : Int), .int .i64 xk, .int .i64 xb, .string xd, .int .i64 xm] 100)).cell? ((⟨w4.heap.size, 0, none⟩ : Addr).add j) = some u) := fun j u hu => by
        rw [Addr.add_mid, Nat.zero_add]
        show (w4.drew.alloc _).cell? ⟨w4.drew.heap.size, j, none⟩ = _
        rw [cell_of_row _ _ j _ _ _ (heap_alloc_new w4.drew _)]
        exact List.getElem?_toArray.trans hu
       have Hm1 := hide (show k + 1 ≤ maxLen by have := Hn.out; have := Hlt.out; unfold maxLen; omega)
       have Hm2 := hide (show (k + 1) * 48 ≤ 140737488355328 by have := Hn.out; have := Hlt.out; omega)
       have c6' : (w4.alloc (.cells #[.int .i64 (xs : Int), .int .i64 xk, .int .i64 xb, .string xd, .int .i64 xm] 100)).cell? ⟨p, 6, none⟩ = some (.slice A k c) := ((Below.refl w4.heap.size w4).alloc (Nat.le_refl _) _).cell (p := ⟨p, 6, none⟩) (h2'.lt p h2'.mine) |>.trans c6
       have hSa : w4.drew.cell? ⟨bx, 0, none⟩ = some (.int .i64 (xs : Int)) ∧ w4.drew.cell? ⟨bx, 1, none⟩ = some (.int .i64 xk) ∧ w4.drew.cell? ⟨bx, 2, none⟩ = some (.int .i64 xb) ∧ w4.drew.cell? ⟨bx, 3, none⟩ = some (.string xd) ∧ w4.drew.cell? ⟨bx, 4, none⟩ = some (.int .i64 xm) := ⟨HX4.out.c0, HX4.out.c1, HX4.out.c2, HX4.out.c3, HX4.out.c4⟩
       have hxb := HX4.out.below hbW
       have hSb : (w4.drew.alloc (.cells #[.int .i64 (xs : Int), .int .i64 xk, .int .i64 xb, .string xd, .int .i64 xm] 100)).cell? ⟨bx, 0, none⟩ = some (.int .i64 (xs : Int)) ∧ (w4.drew.alloc (.cells #[.int .i64 (xs : Int), .int .i64 xk, .int .i64 xb, .string xd, .int .i64 xm] 100)).cell? ⟨bx, 1, none⟩ = some (.int .i64 xk) ∧ (w4.drew.alloc (.cells #[.int .i64 (xs : Int), .int .i64 xk, .int .i64 xb, .string xd, .int .i64 xm] 100)).cell? ⟨bx, 2, none⟩ = some (.int .i64 xb) ∧ (w4.drew.alloc (.cells #[.int .i64 (xs : Int), .int .i64 xk, .int .i64 xb, .string xd, .int .i64 xm] 100)).cell? ⟨bx, 3, none⟩ = some (.string xd) ∧ (w4.drew.alloc (.cells #[.int .i64 (xs : Int), .int .i64 xk, .int .i64 xb, .string xd, .int .i64 xm] 100)).cell? ⟨bx, 4, none⟩ = some (.int .i64 xm) := ⟨hxb.c0, hxb.c1, hxb.c2, hxb.c3, hxb.c4⟩
       have x0 : w4.cell? ⟨bx, 0, none⟩ = some (.int .i64 (xs : Int)) := HX4.out.c0
       have Hbx := hide hbx
       have Hw4 := hide hw4
       clear h1 h2 h3 h4 h1' h2' hk3 hk3' hg3 hbb hNJ hbx0 hbW c0 c1 c2 c3 c4 c5 c7 fz hxb HP3 HP4
       go_wp2_with fail
       rw [← hw4, ← hbx]
       clear hw4 hbx e4 x0
       refine wp_region_held (S := (fun W => W.cell? ⟨bx, 0, none⟩ = some (.int .i64 (xs : Int)) ∧ W.cell? ⟨bx, 1, none⟩ = some (.int .i64 xk) ∧ W.cell? ⟨bx, 2, none⟩ = some (.int .i64 xb) ∧ W.cell? ⟨bx, 3, none⟩ = some (.string xd) ∧ W.cell? ⟨bx, 4, none⟩ = some (.int .i64 xm))) (by kernel_rfl) ?_
       change wpAnyH _ _ _ _ _ _ _ _ (World.drew _)
       refine wpAnyH_take (i := 0) (oi := ⟨some 180, _, _, _, _, _⟩) (v := ?_) rfl (by kernel_rfl) (by kernel_rfl) (by kernel_rfl) (fun _ _ _ h => h) (Or.inl ⟨by rfl, ?_⟩) hSa ?_
       rotate_left 1
       ·(intro w hSw; obtain ⟨hSw1, hSw2, hSw3, hSw4, hSw5⟩ := hSw; go_simp; try with_reducible rfl)
       simp only [Act.put, Pk.sl]
       refine wpAnyH_take (i := 1) (oi := ⟨some 181, _, _, _, _, _⟩) (v := ?_) rfl (by kernel_rfl) (by kernel_rfl) (by kernel_rfl) (fun _ _ _ h => h) (Or.inl ⟨by rfl, ?_⟩) hSa ?_
       rotate_left 1
       ·(intro w hSw; obtain ⟨hSw1, hSw2, hSw3, hSw4, hSw5⟩ := hSw; go_simp; try with_reducible rfl)
       simp only [Act.put, Pk.sl]
       refine wpAnyH_take (i := 2) (oi := ⟨some 182, _, _, _, _, _⟩) (v := ?_) rfl (by kernel_rfl) (by kernel_rfl) (by kernel_rfl) (fun _ _ _ h => h) (Or.inl ⟨by rfl, ?_⟩) hSa ?_
       rotate_left 1
       ·(intro w hSw; obtain ⟨hSw1, hSw2, hSw3, hSw4, hSw5⟩ := hSw; go_simp; try with_reducible rfl)
       simp only [Act.put, Pk.sl]
       refine wpAnyH_take (i := 3) (oi := ⟨some 183, _, _, _, _, _⟩) (v := ?_) rfl (by kernel_rfl) (by kernel_rfl) (by kernel_rfl) (fun _ _ _ h => h) (Or.inl ⟨by rfl, ?_⟩) hSa ?_
       rotate_left 1
       ·(intro w hSw; obtain ⟨hSw1, hSw2, hSw3, hSw4, hSw5⟩ := hSw; go_simp; try with_reducible rfl)
       simp only [Act.put, Pk.sl]
       refine wpAnyH_take (i := 5) (oi := ⟨some 185, _, _, _, _, _⟩) (v := ?_) rfl (by kernel_rfl) (by kernel_rfl) (by kernel_rfl) (fun _ _ _ h => h) (Or.inl ⟨by rfl, ?_⟩) hSa ?_
       rotate_left 1
       ·(intro w hSw; obtain ⟨hSw1, hSw2, hSw3, hSw4, hSw5⟩ := hSw; go_simp; try with_reducible rfl)
       simp only [Act.put, Pk.sl]
       refine wpAnyH_ready (rs := [4, 6]) (by kernel_rfl) (by simp) ?_
       refine AllReadyH.cons (o := ⟨some 184, _, _, _, _, _⟩) rfl (fun K hK => ?_) (AllReadyH.cons (o := ⟨some 186, _, _, _, _, _⟩) rfl (fun K hK => ?_) AllReadyH.nil)
       ·go_simp
        refine hK.out _ _ (by first | exact hSa | exact hSb) (fun hHeld => ?_)
        clear hK K
        clear hHeld
        refine wpAnyH_ready (rs := [6]) (by kernel_rfl) (by simp) ?_
        refine AllReadyH.cons (o := ⟨some 186, _, _, _, _, _⟩) rfl (fun K hK => ?_) AllReadyH.nil
        go_simp
        refine hK.out _ _ hSb (fun hHeld => ?_)
        clear hK K
        clear hHeld
        refine wpAnyH_ready (rs := [7]) (by kernel_rfl) (by simp) ?_
        refine AllReadyH.cons (o := ⟨some 187, _, _, _, _, _⟩) rfl (fun K hK => ?_) AllReadyH.nil
        refine step_append_o _ rfl (.tmp 184) (.tmp 186) 55 rfl 100 i0 _ 5 48 Tryz.underlying55 hi0 hz0 Hz1.out Hz2.out rfl (.slice A k c) k (rcels F) rfl HO.out ⟨w4.heap.size, 0, none⟩ 1 1 (rcel ⟨xg, xs, xk, xb, xd, xm⟩) rfl rfl HN.out (rcel_one _) (by decide) Hm1.out Hm2.out _ rfl ?_
        intro g2 o2 cap w6 hown6 hgr6 hor6 hlt6
        have hP := H2.out.appendedL (y := ⟨xg, xs, xk, xb, xd, xm⟩) HBW.out hgr6 hown6 hor6 hF.out
        have HPA := hide hP.1
        have HPK := hide hP.2
        have hc6 : w6.cell? ⟨p, 6, none⟩ = some (.slice A k c) := by simp [World.cell?, H2.out.box6 HBW.out (Or.inl rfl) hgr6]
        have hf6 : w6.frozen? ⟨p, 6, none⟩ = false := by simp [World.frozen?, H2.out.box6 HBW.out (Or.inl rfl) hgr6]
        have hbx6 : Bx w6 bx (xs : Int) xk xb xd xm := (hgr6.block _ (Nat.lt_of_lt_of_le HX4.out.lt HBW.out.size) (fun e => HNJ.out ((H2.out.row _ e.symm).1))).trans ((HBW.out.block _ HX4.out.lt).trans HX4.out)
        have hbx7 : Bx (w6.setCell ⟨p, 6, none⟩ (.slice (some ⟨g2, o2, none⟩) (k + 1) cap)) bx (xs : Int) xk xb xd xm := (heap_setCell_other _ _ _ _ (fun e => HNJ.out (by have e2 : bx = p := e; rw [e2]; exact H2.out.mine))).trans hbx6
        have hSc : w6.cell? ⟨bx, 0, none⟩ = some (.int .i64 (xs : Int)) ∧ w6.cell? ⟨bx, 1, none⟩ = some (.int .i64 xk) ∧ w6.cell? ⟨bx, 2, none⟩ = some (.int .i64 xb) ∧ w6.cell? ⟨bx, 3, none⟩ = some (.string xd) ∧ w6.cell? ⟨bx, 4, none⟩ = some (.int .i64 xm) := ⟨hbx6.c0, hbx6.c1, hbx6.c2, hbx6.c3, hbx6.c4⟩
        have HX7 := hide hbx7
        clear hP hown6 hgr6 hor6 hlt6 hbx6 hbx7
        refine hK.out _ _ hSc (fun hHeld => ?_)
        clear hK K
        clear hHeld
        refine wpAnyH_take (i := 8) (oi := ⟨some 188, _, _, _, _, _⟩) (v := ?_) rfl (by kernel_rfl) (by kernel_rfl) (by kernel_rfl) (fun _ _ _ h => h) (Or.inl ⟨by rfl, ?_⟩) hSc ?_
        rotate_left 1
        ·(intro w hSw; obtain ⟨hSw1, hSw2, hSw3, hSw4, hSw5⟩ := hSw; go_simp; try with_reducible rfl)
        simp only [Act.put, Pk.sl]
        refine wpAnyH_take (i := 9) (oi := ⟨some 189, _, _, _, _, _⟩) (v := ?_) rfl (by kernel_rfl) (by kernel_rfl) (by kernel_rfl) (fun _ _ _ h => h) (Or.inl ⟨by rfl, ?_⟩) hSc ?_
        rotate_left 1
        ·(intro w hSw; obtain ⟨hSw1, hSw2, hSw3, hSw4, hSw5⟩ := hSw; go_simp; try with_reducible rfl)
        simp only [Act.put, Pk.sl]
        refine wpAnyH_ready (rs := [10]) (by kernel_rfl) (by simp) ?_
        refine AllReadyH.cons (o := ⟨none, _, _, _, _, _⟩) rfl (fun K hK => ?_) AllReadyH.nil
        go_simp
        generalize w6.setCell _ _ = w7 at *
        have hSd : w7.cell? ⟨bx, 0, none⟩ = some (.int .i64 (xs : Int)) ∧ w7.cell? ⟨bx, 1, none⟩ = some (.int .i64 xk) ∧ w7.cell? ⟨bx, 2, none⟩ = some (.int .i64 xb) ∧ w7.cell? ⟨bx, 3, none⟩ = some (.string xd) ∧ w7.cell? ⟨bx, 4, none⟩ = some (.int .i64 xm) := ⟨HX7.out.c0, HX7.out.c1, HX7.out.c2, HX7.out.c3, HX7.out.c4⟩
        refine hK.out _ _ hSd (fun hHeld => ?_)
        clear hK K
        clear hHeld
        refine wpAnyH_done (by kernel_rfl) ?_ _
        clear hSa hSb hSc hSd hc6 hf6 c6 c6'
        obtain ⟨A7, c7', B7, e8, e6, e7, k0, k1, k2, k3, k4, k5, k6, k7, fz⟩ := HPA.out.cells
        rw [hF.out] at k7 e7
        obtain ⟨rfl, rfl⟩ : B = B7 ∧ d = e8 := by simpa using e7
        clear e6 e7
        have hbV : Below w7.heap.size w7 (w7.alloc (.cells #[.int .i64 (xg : Int)] 3)) := (Below.refl w7.heap.size w7).alloc (Nat.le_refl _) _
        have HBV := hide hbV
        have HO9 : Hid (ORow (w7.alloc (.cells #[.int .i64 (xg : Int)] 3)) 3 1 (.slice B k d) k (gcels F)) := by
         have := HPA.out.gens
         rw [hF.out] at this
         exact this.same fun i hi => hbV.block i (this.lt i hi)
        have HN9 : Hid (∀ j u, ([.int .i64 (xg : Int)] : List Value)[j]? = some u → (w7.alloc (.cells #[.int .i64 (xg : Int)] 3)).cell? ((⟨w7.heap.size, 0, none⟩ : Addr).add j) = some u) := fun j u hu => by
         rw [Addr.add_mid, Nat.zero_add, cell_of_row _ _ j _ _ _ (heap_alloc_new w7 _)]
         exact List.getElem?_toArray.trans hu
        have Hm3 := hide (show (k + 1) * 8 ≤ 140737488355328 by have := Hn.out; have := Hlt.out; omega)
        have f7 := fz 7
        clear k0 k1 k2 k3 k4 k5 k6 fz hbV
        go_wp2_with (at_builtin; go_must (refine wpList_append_o _ rfl (.tmp 194) (.tmp 196) 57 rfl 3 j0 _ 1 8 Tryz.underlying57 hj0 hy0 Hy1.out Hy2.out rfl (.slice B k d) k (gcels F) rfl HO9.out ⟨w7.heap.size, 0, none⟩ 1 1 [.int .i64 (xg : Int)] rfl rfl HN9.out (fun u hu => by simp at hu; subst hu; rfl) (by decide) Hm1.out Hm3.out _ rfl ?_))
        intro g3 o3 cap3 w8 hown8 hgr8 hor8 hlt8
        have hP := HPA.out.appendedG (y := ⟨xg, xs, xk, xb, xd, xm⟩) HBV.out hgr8 hown8 (hor8.imp id (fun e => by rw [e]; simp)) hF.out
        have HQA := hide hP.1
        have HQK := hide hP.2
        have hc7 : w8.cell? ⟨p, 7, none⟩ = some (.slice B k d) := by simp [World.cell?, HPA.out.box6 HBV.out (Or.inr rfl) hgr8]
        have hf7 : w8.frozen? ⟨p, 7, none⟩ = false := by simp [World.frozen?, HPA.out.box6 HBV.out (Or.inr rfl) hgr8]
        clear hP hown8 hgr8 hor8 hlt8 k7 f7
        go_wp2_with fail
        generalize w8.setCell _ _ = w9 at *
        have HPZ := hide (RjPost.of HG4.out HK4.out (Rj.mine (w' := w9) H1.out H3.out H4.out (fun i hi => by
         rcases hi with hi | hi
         ·rcases hi with hi | hi
          ·exact Or.inl hi
          ·exact Or.inr hi.1
         ·exact Or.inr (Nat.le_trans HPK.out.size hi.1)) (HPK.out.trans (fun i hi => by
          rcases hi with hi | hi
          ·exact Or.inl hi
          ·exact Or.inr hi.1) HQK.out) HQA.out))
        clear hc7 hf7
        go_roundw
        case rel => exact ⟨k + 1, xg, F ++ [⟨xg, xs, xk, xb, xd, xm⟩], Hlt.out, rfl, hide (by rw [List.length_append, hF.out]; rfl), hide (by rw [HR'.out, show f + (k + 1) = xs + 1 by have := HSQ.out; omega]; exact HE.out), HPZ⟩
        case measure =>
         have e1 := HPZ.out.len
         have e2 := hlen.out
         have := Hlt.out
         rw [e1, e2, List.length_append, hF.out]
         show n - (k + 1) < n - k
         omega
       ·go_simp
        refine hK.out _ _ hSb (fun hHeld => ?_)
        clear hK K
        clear hHeld
        refine wpAnyH_ready (rs := [4]) (by kernel_rfl) (by simp) ?_
        refine AllReadyH.cons (o := ⟨some 184, _, _, _, _, _⟩) rfl (fun K hK => ?_) AllReadyH.nil
        go_simp
        refine hK.out _ _ (by first | exact hSa | exact hSb) (fun hHeld => ?_)
        clear hK K
        clear hHeld
        refine wpAnyH_ready (rs := [7]) (by kernel_rfl) (by simp) ?_
        refine AllReadyH.cons (o := ⟨some 187, _, _, _, _, _⟩) rfl (fun K hK => ?_) AllReadyH.nil
        refine step_append_o _ rfl (.tmp 184) (.tmp 186) 55 rfl 100 i0 _ 5 48 Tryz.underlying55 hi0 hz0 Hz1.out Hz2.out rfl (.slice A k c) k (rcels F) rfl HO.out ⟨w4.heap.size, 0, none⟩ 1 1 (rcel ⟨xg, xs, xk, xb, xd, xm⟩) rfl rfl HN.out (rcel_one _) (by decide) Hm1.out Hm2.out _ rfl ?_
        intro g2 o2 cap w6 hown6 hgr6 hor6 hlt6
        have hP := H2.out.appendedL (y := ⟨xg, xs, xk, xb, xd, xm⟩) HBW.out hgr6 hown6 hor6 hF.out
        have HPA := hide hP.1
        have HPK := hide hP.2
        have hc6 : w6.cell? ⟨p, 6, none⟩ = some (.slice A k c) := by simp [World.cell?, H2.out.box6 HBW.out (Or.inl rfl) hgr6]
        have hf6 : w6.frozen? ⟨p, 6, none⟩ = false := by simp [World.frozen?, H2.out.box6 HBW.out (Or.inl rfl) hgr6]
        have hbx6 : Bx w6 bx (xs : Int) xk xb xd xm := (hgr6.block _ (Nat.lt_of_lt_of_le HX4.out.lt HBW.out.size) (fun e => HNJ.out ((H2.out.row _ e.symm).1))).trans ((HBW.out.block _ HX4.out.lt).trans HX4.out)
        have hbx7 : Bx (w6.setCell ⟨p, 6, none⟩ (.slice (some ⟨g2, o2, none⟩) (k + 1) cap)) bx (xs : Int) xk xb xd xm := (heap_setCell_other _ _ _ _ (fun e => HNJ.out (by have e2 : bx = p := e; rw [e2]; exact H2.out.mine))).trans hbx6
        have hSc : w6.cell? ⟨bx, 0, none⟩ = some (.int .i64 (xs : Int)) ∧ w6.cell? ⟨bx, 1, none⟩ = some (.int .i64 xk) ∧ w6.cell? ⟨bx, 2, none⟩ = some (.int .i64 xb) ∧ w6.cell? ⟨bx, 3, none⟩ = some (.string xd) ∧ w6.cell? ⟨bx, 4, none⟩ = some (.int .i64 xm) := ⟨hbx6.c0, hbx6.c1, hbx6.c2, hbx6.c3, hbx6.c4⟩
        have HX7 := hide hbx7
        clear hP hown6 hgr6 hor6 hlt6 hbx6 hbx7
        refine hK.out _ _ hSc (fun hHeld => ?_)
        clear hK K
        clear hHeld
        refine wpAnyH_take (i := 8) (oi := ⟨some 188, _, _, _, _, _⟩) (v := ?_) rfl (by kernel_rfl) (by kernel_rfl) (by kernel_rfl) (fun _ _ _ h => h) (Or.inl ⟨by rfl, ?_⟩) hSc ?_
        rotate_left 1
        ·(intro w hSw; obtain ⟨hSw1, hSw2, hSw3, hSw4, hSw5⟩ := hSw; go_simp; try with_reducible rfl)
        simp only [Act.put, Pk.sl]
        refine wpAnyH_take (i := 9) (oi := ⟨some 189, _, _, _, _, _⟩) (v := ?_) rfl (by kernel_rfl) (by kernel_rfl) (by kernel_rfl) (fun _ _ _ h => h) (Or.inl ⟨by rfl, ?_⟩) hSc ?_
        rotate_left 1
        ·(intro w hSw; obtain ⟨hSw1, hSw2, hSw3, hSw4, hSw5⟩ := hSw; go_simp; try with_reducible rfl)
        simp only [Act.put, Pk.sl]
        refine wpAnyH_ready (rs := [10]) (by kernel_rfl) (by simp) ?_
        refine AllReadyH.cons (o := ⟨none, _, _, _, _, _⟩) rfl (fun K hK => ?_) AllReadyH.nil
        go_simp
        generalize w6.setCell _ _ = w7 at *
        have hSd : w7.cell? ⟨bx, 0, none⟩ = some (.int .i64 (xs : Int)) ∧ w7.cell? ⟨bx, 1, none⟩ = some (.int .i64 xk) ∧ w7.cell? ⟨bx, 2, none⟩ = some (.int .i64 xb) ∧ w7.cell? ⟨bx, 3, none⟩ = some (.string xd) ∧ w7.cell? ⟨bx, 4, none⟩ = some (.int .i64 xm) := ⟨HX7.out.c0, HX7.out.c1, HX7.out.c2, HX7.out.c3, HX7.out.c4⟩
        refine hK.out _ _ hSd (fun hHeld => ?_)
        clear hK K
        clear hHeld
        refine wpAnyH_done (by kernel_rfl) ?_ _
        clear hSa hSb hSc hSd hc6 hf6 c6 c6'
        obtain ⟨A7, c7', B7, e8, e6, e7, k0, k1, k2, k3, k4, k5, k6, k7, fz⟩ := HPA.out.cells
        rw [hF.out] at k7 e7
        obtain ⟨rfl, rfl⟩ : B = B7 ∧ d = e8 := by simpa using e7
        clear e6 e7
        have hbV : Below w7.heap.size w7 (w7.alloc (.cells #[.int .i64 (xg : Int)] 3)) := (Below.refl w7.heap.size w7).alloc (Nat.le_refl _) _
        have HBV := hide hbV
        have HO9 : Hid (ORow (w7.alloc (.cells #[.int .i64 (xg : Int)] 3)) 3 1 (.slice B k d) k (gcels F)) := by
         have := HPA.out.gens
         rw [hF.out] at this
         exact this.same fun i hi => hbV.block i (this.lt i hi)
        have HN9 : Hid (∀ j u, ([.int .i64 (xg : Int)] : List Value)[j]? = some u → (w7.alloc (.cells #[.int .i64 (xg : Int)] 3)).cell? ((⟨w7.heap.size, 0, none⟩ : Addr).add j) = some u) := fun j u hu => by
         rw [Addr.add_mid, Nat.zero_add, cell_of_row _ _ j _ _ _ (heap_alloc_new w7 _)]
         exact List.getElem?_toArray.trans hu
        have Hm3 := hide (show (k + 1) * 8 ≤ 140737488355328 by have := Hn.out; have := Hlt.out; omega)
        have f7 := fz 7
        clear k0 k1 k2 k3 k4 k5 k6 fz hbV
        go_wp2_with (at_builtin; go_must (refine wpList_append_o _ rfl (.tmp 194) (.tmp 196) 57 rfl 3 j0 _ 1 8 Tryz.underlying57 hj0 hy0 Hy1.out Hy2.out rfl (.slice B k d) k (gcels F) rfl HO9.out ⟨w7.heap.size, 0, none⟩ 1 1 [.int .i64 (xg : Int)] rfl rfl HN9.out (fun u hu => by simp at hu; subst hu; rfl) (by decide) Hm1.out Hm3.out _ rfl ?_))
        intro g3 o3 cap3 w8 hown8 hgr8 hor8 hlt8
        have hP := HPA.out.appendedG (y := ⟨xg, xs, xk, xb, xd, xm⟩) HBV.out hgr8 hown8 (hor8.imp id (fun e => by rw [e]; simp)) hF.out
        have HQA := hide hP.1
        have HQK := hide hP.2
        have hc7 : w8.cell? ⟨p, 7, none⟩ = some (.slice B k d) := by simp [World.cell?, HPA.out.box6 HBV.out (Or.inr rfl) hgr8]
        have hf7 : w8.frozen? ⟨p, 7, none⟩ = false := by simp [World.frozen?, HPA.out.box6 HBV.out (Or.inr rfl) hgr8]
        clear hP hown8 hgr8 hor8 hlt8 k7 f7
        go_wp2_with fail
        generalize w8.setCell _ _ = w9 at *
        have HPZ := hide (RjPost.of HG4.out HK4.out (Rj.mine (w' := w9) H1.out H3.out H4.out (fun i hi => by
         rcases hi with hi | hi
         ·rcases hi with hi | hi
          ·exact Or.inl hi
          ·exact Or.inr hi.1
         ·exact Or.inr (Nat.le_trans HPK.out.size hi.1)) (HPK.out.trans (fun i hi => by
          rcases hi with hi | hi
          ·exact Or.inl hi
          ·exact Or.inr hi.1) HQK.out) HQA.out))
        clear hc7 hf7
        go_roundw
        case rel => exact ⟨k + 1, xg, F ++ [⟨xg, xs, xk, xb, xd, xm⟩], Hlt.out, rfl, hide (by rw [List.length_append, hF.out]; rfl), hide (by rw [HR'.out, show f + (k + 1) = xs + 1 by have := HSQ.out; omega]; exact HE.out), HPZ⟩
        case measure =>
         have e1 := HPZ.out.len
         have e2 := hlen.out
         have := Hlt.out
         rw [e1, e2, List.length_append, hF.out]
         show n - (k + 1) < n - k
         omega
    ·have hq2 : ((xs : Int) != (sq : Int)) = true := by simp; omega
     have hq3 : ((xs : Int) == (sq : Int)) = false := by simp; omega
     have HE := hide (show Z = F by rw [HZF.out, load_no (by rw [HGD.out]; exact Hux.out) (by intro h; exact hq h.1), List.append_nil])
     have HP := HP4
     clear hq HP3 HP4 HPL
     obtain ⟨G9, hj9, hg9, hk9⟩ := HP.out
     have HPS := hide (RjPost.of hg9 hk9 (Rj.set (i := 4) (v := .int .i64 ((g : Int) + 1)) (h' := ⟨t, f, g + 1, l⟩) hj9 (fun X Y => rfl)))
     obtain ⟨D9, J9, X9, Y9, _, k2, _, _⟩ := hj9
     have e4 : (w3.alloc (.cells #[.int .i64 (xs : Int), .int .i64 xk, .int .i64 xb, .string xd, .int .i64 xm] 100)).cell? ⟨p, 4, none⟩ = some (.int .i64 (g : Int)) := k2.heads.2.2.2.1
     have f4 : (w3.alloc (.cells #[.int .i64 (xs : Int), .int .i64 xk, .int .i64 xb, .string xd, .int .i64 xm] 100)).frozen? ⟨p, 4, none⟩ = false := blk_free k2.box 4
     clear k2 hg9 hk9 HP
     go_wp2_with fail
     generalize World.setCell _ _ _ = w8 at *
     obtain ⟨G8, hj8, hg8, hk8⟩ := HPS.out
     have hFE := HE.out
     refine (RSave_any w8 G8 p q S [] n ⟨t, f, g + 1, l⟩ F hj8 (by show t ≤ _; omega) (by have := H2n.out; omega) (by simp)).mono ?_
     rintro e w9 ⟨rfl, hp9⟩
     have HP9 := hide (RjPost.of hg8 hk8 hp9)
     clear hj8 hg8 hk8 hp9 HPS e4 f4
     go_wp2
     go_ret2
     refine ⟨p, rfl, ?_⟩
     show RjPost w D p q (all S ([] ++ [((t + 1) % 2, hsec ⟨t + 1, f, g + 1, l⟩)])) [] n ⟨t + 1, f, g + 1, l⟩ _ _
     have hZE := HZE.out
     rw [show load S n g n f l = F by rw [hZE, hFE]]
     exact HP9.out
   ·have HE := hide (show Z = F by rw [HZF.out, load_nil (by rw [HGD.out]; exact hux), List.append_nil])
    have HP := hide (HP3.out.below (box_below w3 0 0 0 ⟨#[]⟩ 0))
    clear hux HP3
    obtain ⟨G9, hj9, hg9, hk9⟩ := HP.out
    have HPS := hide (RjPost.of hg9 hk9 (Rj.set (i := 4) (v := .int .i64 ((g : Int) + 1)) (h' := ⟨t, f, g + 1, l⟩) hj9 (fun X Y => rfl)))
    obtain ⟨D9, J9, X9, Y9, _, k2, _, _⟩ := hj9
    have e4 : (w3.alloc (.cells #[.int .i64 0, .int .i64 0, .int .i64 0, .string ⟨#[]⟩, .int .i64 0] 100)).cell? ⟨p, 4, none⟩ = some (.int .i64 (g : Int)) := k2.heads.2.2.2.1
    have f4 : (w3.alloc (.cells #[.int .i64 0, .int .i64 0, .int .i64 0, .string ⟨#[]⟩, .int .i64 0] 100)).frozen? ⟨p, 4, none⟩ = false := blk_free k2.box 4
    clear k2 hg9 hk9 HP
    go_wp2_with fail
    generalize World.setCell _ _ _ = w8 at *
    obtain ⟨G8, hj8, hg8, hk8⟩ := HPS.out
    have hFE := HE.out
    refine (RSave_any w8 G8 p q S [] n ⟨t, f, g + 1, l⟩ F hj8 (by show t ≤ _; omega) (by have := H2n.out; omega) (by simp)).mono ?_
    rintro e w9 ⟨rfl, hp9⟩
    have HP9 := hide (RjPost.of hg8 hk8 hp9)
    clear hj8 hg8 hk8 hp9 HPS e4 f4
    go_wp2
    go_ret2
    refine ⟨p, rfl, ?_⟩
    show RjPost w D p q (all S ([] ++ [((t + 1) % 2, hsec ⟨t + 1, f, g + 1, l⟩)])) [] n ⟨t + 1, f, g + 1, l⟩ _ _
    have hZE := HZE.out
    rw [show load S n g n f l = F by rw [hZE, hFE]]
    exact HP9.out
  ·have hkn : ¬ ((k : Int) < (n : Int)) := by omega
   obtain ⟨A0, cc0, c6⟩ : ∃ A c, wr.cell? ⟨p, 6, none⟩ = some (.slice A k c) := by
    obtain ⟨G1, ⟨D1, J1, X1, Y1, h1, h2, h3, h4⟩, _, _⟩ := hp.out
    obtain ⟨A, c, B, d, rfl, rfl, c0, c1, c2, c3, c4, c5, c6, c7, fz⟩ := h2.cells
    rw [hF.out] at c6
    exact ⟨A, c, c6⟩
   have HE := hide (show Z = F by rw [hZF.out, show n - k = 0 by omega]; exact List.append_nil _)
   have HP := hp
   clear hge hk hZF hp
   obtain ⟨G9, hj9, hg9, hk9⟩ := HP.out
   have HPS := hide (RjPost.of hg9 hk9 (Rj.set (i := 4) (v := .int .i64 ((g : Int) + 1)) (h' := ⟨t, f, g + 1, l⟩) hj9 (fun X Y => rfl)))
   obtain ⟨D9, J9, X9, Y9, _, k2, _, _⟩ := hj9
   have e4 : wr.cell? ⟨p, 4, none⟩ = some (.int .i64 (g : Int)) := k2.heads.2.2.2.1
   have f4 : wr.frozen? ⟨p, 4, none⟩ = false := blk_free k2.box 4
   clear k2 hg9 hk9 HP
   go_wp2_with fail
   generalize World.setCell _ _ _ = w8 at *
   obtain ⟨G8, hj8, hg8, hk8⟩ := HPS.out
   have hFE := HE.out
   refine (RSave_any w8 G8 p q S [] n ⟨t, f, g + 1, l⟩ F hj8 (by show t ≤ _; omega) (by have := H2n.out; omega) (by simp)).mono ?_
   rintro e w9 ⟨rfl, hp9⟩
   have HP9 := hide (RjPost.of hg8 hk8 hp9)
   clear hj8 hg8 hk8 hp9 HPS e4 f4
   go_wp2
   go_ret2
   refine ⟨p, rfl, ?_⟩
   show RjPost w D p q (all S ([] ++ [((t + 1) % 2, hsec ⟨t + 1, f, g + 1, l⟩)])) [] n ⟨t + 1, f, g + 1, l⟩ _ _
   have hZE := HZE.out
   rw [show load S n g n f l = F by rw [hZE, hFE]]
   exact HP9.out
end Go.Proofs.YtapiogcoipeinaaGreatDoor.Jn
