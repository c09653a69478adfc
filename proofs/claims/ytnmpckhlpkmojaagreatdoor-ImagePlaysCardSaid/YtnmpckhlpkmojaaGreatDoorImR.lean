/-
  The contracts of the document's own head, block and headOf (isobarref14): a head's and a block's sector, and the head that a sector contains, or none. Nothing that was there is changed.
-/
import Derived.Test.YtnmpckhlpkmojaaGreatDoorRfA
import Derived.Test.YtnmpckhlpkmojaaGreatDoorFaPlace
import Derived.Test.YtnmpckhlpkmojaaGreatDoorThRead
import Derived.Test.YtnmpckhlpkmojaaGreatDoorImM

/-
  The document's own numbers, texts and sectors (isobarref01, isobarref02), told by names: what is laid, opened and read. Nothing that was there is changed.
-/
namespace Go.Proofs.YtnmpckhlpkmojaaGreatDoor.Rc
open Go.RowKit
open Pk hiding str str_data str_size str_of run_str head_str str_append
open Sm hiding run_str
open Fa

/-- Number, told by a name. -/
theorem rNum_told (n : Int) (w : World) (S : ByteArray) (hS : str (enc (clamp n)) = S) :
    Calls Tryz.prog 57 #[.int .i64 n] w fun e w' => e = .returned (.string S) ∧ Below w.heap.size w w' := by
  subst hS
  exact RNum_any n w
theorem rTxt_told (s : ByteArray) (w : World) (hs : s.size ≤ 1000000) (S : ByteArray) (hS : str (enc s.size ++ s.data.toList) = S) :
    Calls Tryz.prog 58 #[.string s] w fun e w' => e = .returned (.string S) ∧ Below w.heap.size w w' := by
  subst hS
  exact RTxt_any s w hs
theorem rSector_told (s : ByteArray) (w : World) (hs : s.size ≤ 60) (S : ByteArray) (hS : str (seal4 (pad s.data.toList)) = S) :
    Calls Tryz.prog 56 #[.string s] w fun e w' => e = .returned (.tuple #[.string S, .bool true]) ∧ Below w.heap.size w w' := by
  subst hS
  exact rSector_any s w hs
/-- Two strings, one behind the other. -/
theorem add_run (l m : List UInt8) (h : l.length + m.length ≤ 1000000) (SA SB SC : ByteArray) (hA : str l = SA) (hB : str m = SB) (hC : str (l ++ m) = SC) (W : World) :
    (Op.stringOp .add SA SB).run Tryz.prog W = .ok (.string SC) W := by
  subst hA hB hC
  exact run_add l m h W

theorem rOpen_bad (s : ByteArray) (w : World) (hs : s.size ≤ 1000000) (hno : ∀ m, s.data.toList ≠ seal4 m) :
    Calls Tryz.prog 34 #[.string s] w fun e w' => e = .returned (.tuple #[.string ⟨#[]⟩, .bool false]) ∧ Below w.heap.size w w' := by
  rcases Nat.lt_or_ge s.size 4 with h | h
  · exact rOpen_short s w h
  · exact rOpen_no s w hs h (fun e => hno _ e.symm)
theorem rOpen_good (s : ByteArray) (w : World) (M : List UInt8) (hs : s.size ≤ 1000000) (hM : s.data.toList = seal4 M) (S : ByteArray) (hS : str M = S) :
    Calls Tryz.prog 34 #[.string s] w fun e w' => e = .returned (.tuple #[.string S, .bool true]) ∧ Below w.heap.size w w' := by
  have hl : s.size = M.length + 4 := by rw [← size_eq s, hM, seal4_length]
  have ht : s.data.toList.take (s.size - 4) = M := by rw [hM, hl, Nat.add_sub_cancel, seal4_take]
  have h := rOpen_yes s w hs (by omega) (by rw [ht, hM])
  rw [ht, hS] at h
  exact h

theorem rNumber_at (g e : Nat) (l : List UInt8) (w : World) (h : Rr w g (str l) e) (hs : l.length ≤ 60) (n : Nat) (l1 : List UInt8) (e1 : Nat) (hr : rnum l e = (n, l1, e1)) :
    Calls Tryz.prog 35 #[.pointer (some ⟨g, 0, none⟩)] w fun r w' => r = .returned (.int .i64 (n : Int)) ∧ Rr w' g (str l1) e1 ∧ w.grownBy w' (some g) ∧ l1.length ≤ 60 := by
  have h2 := rnum_shorter l e
  have := RNumber_rd g e l w h (by omega)
  rw [hr] at this h2
  refine this.mono ?_
  rintro r w' ⟨rfl, h3, h4⟩
  exact ⟨rfl, h3, h4, Nat.le_trans h2 hs⟩
theorem rText_at (g e : Nat) (l : List UInt8) (w : World) (h : Rr w g (str l) e) (hs : l.length ≤ 60) (d l1 : List UInt8) (e1 : Nat) (hr : rtext l e 16 = (d, l1, e1)) :
    Calls Tryz.prog 36 #[.pointer (some ⟨g, 0, none⟩), .int .i64 16] w fun r w' => r = .returned (.string (str d)) ∧ Rr w' g (str l1) e1 ∧ w.grownBy w' (some g) := by
  have := RText_rd g e 16 l w h (by omega)
  rw [hr] at this
  exact this
theorem rr_other {w : World} {g G e : Nat} {s : ByteArray} (h : Rr w g s e) {i : Nat} (hne : G ≠ g) (v : Value) : Rr (w.setCell ⟨G, i, none⟩ v) g s e := (heap_setCell_other _ ⟨G, i, none⟩ g _ (fun e => hne e.symm)).trans h
theorem rr_keep {w w' : World} {g e : Nat} {s : ByteArray} (h : Rr w g s e) (hb : Below w.heap.size w w') : Rr w' g s e := (hb.block g h.lt).trans h
theorem rr_new (w : World) (s : ByteArray) : Rr (w.alloc (.cells #[.string s, .int .i64 0] 88)) w.heap.size s 0 := heap_alloc_new w _
theorem rr_below (w : World) (s : ByteArray) : Below w.heap.size w (w.alloc (.cells #[.string s, .int .i64 0] 88)) := (Below.refl _ _).alloc (Nat.le_refl _) _
theorem only_below {w w' : World} {g B : Nat} (h : w.grownBy w' (some g)) (hB : B ≤ g) (hg : g < w.heap.size) : Below B w w' := below_of_only h hB hg

end Go.Proofs.YtnmpckhlpkmojaaGreatDoor.Rc

namespace Go.Proofs.YtnmpckhlpkmojaaGreatDoor.Im
open Go.RowKit
open Pk hiding str str_data str_size str_of run_str head_str str_append
open Sm hiding run_str
open Fa Rc Dk
open Jn (NumN clampN zer zer_no)

set_option maxRecDepth 100000 in
set_option maxHeartbeats 2000000 in
theorem rhead_any (t m : Nat) (w : World) (SF : ByteArray) (hSF : str (hsec ⟨t, m⟩) = SF) :
    Calls Tryz.prog 43 #[.int .i64 (t : Int), .int .i64 (m : Int)] w fun e w' => e = .returned (.string SF) ∧ Below w.heap.size w w' := by
  obtain ⟨S1, h1⟩ : ∃ S, str (enc (clamp (t : Int))) = S := ⟨_, rfl⟩
  obtain ⟨S2, h2⟩ : ∃ S, str (enc (clamp (m : Int))) = S := ⟨_, rfl⟩
  obtain ⟨SB, hSB⟩ : ∃ S, str (enc (clamp (t : Int)) ++ (enc (clamp (m : Int)))) = S := ⟨_, rfl⟩
  have q0 := hbod_le ⟨t, m⟩
  have q1 := enc_le (clamp t)
  have hle : (enc (clamp (t : Int))).length + (enc (clamp (m : Int))).length ≤ 60 := by
    have : (enc (clamp (t : Int)) ++ (enc (clamp (m : Int)))).length ≤ 60 := by
      rw [show enc (clamp (t : Int)) ++ (enc (clamp (m : Int))) = hbod ⟨t, m⟩ by simp [hbod]]
      omega
    rw [List.length_append] at this
    exact this
  have ha1 := fun W => add_run (enc (clamp (t : Int))) (enc (clamp (m : Int))) (by omega) S1 S2 SB h1 h2 hSB W
  have HN1 := hide (fun W => rNum_told t W S1 h1)
  have HN2 := hide (fun W => rNum_told m W S2 h2)
  have hSsz : SB.size ≤ 60 := by rw [← hSB, str_size, List.length_append]; exact hle
  have HS := hide (fun W => rSector_told SB W hSsz SF (by
    rw [← hSF, ← hSB]
    show str (seal4 (pad (enc (clamp (t : Int)) ++ (enc (clamp (m : Int)))))) = str (hsec ⟨t, m⟩)
    rw [show enc (clamp (t : Int)) ++ (enc (clamp (m : Int))) = hbod ⟨t, m⟩ by simp [hbod]]
    rfl))
  clear h1 h2 hSB q0 q1 hle hSsz hSF
  go_enter Tryz.func43, Tryz.ntmps43
  go_wp2_with fail
  refine (HN1.out _).mono ?_
  rintro e w1 ⟨rfl, hb1⟩
  have HB1 := hide hb1
  clear hb1
  go_wp2_with fail
  refine (HN2.out _).mono ?_
  rintro e w2 ⟨rfl, hb2⟩
  have HB2 := hide (HB1.out.trans (hb2.mono HB1.out.size))
  clear hb2 HB1
  go_wp2_with fail
  refine (HS.out _).mono ?_
  rintro e w5 ⟨rfl, hb5⟩
  have HB5 := hide (HB2.out.trans (hb5.mono HB2.out.size))
  clear hb5 HB2
  go_wp2
  go_ret
  exact ⟨rfl, HB5.out⟩

set_option maxRecDepth 100000 in
set_option maxHeartbeats 2000000 in
theorem rblock_any (t : Nat) (d : ByteArray) (hd : d.size ≤ 16) (w : World) (SF : ByteArray) (hSF : str (bsec t d) = SF) :
    Calls Tryz.prog 37 #[.int .i64 (t : Int), .string d] w fun e w' => e = .returned (.string SF) ∧ Below w.heap.size w w' := by
  obtain ⟨S1, h1⟩ : ∃ S, str (enc (clamp (t : Int))) = S := ⟨_, rfl⟩
  obtain ⟨S2, h2⟩ : ∃ S, str (enc d.size ++ d.data.toList) = S := ⟨_, rfl⟩
  obtain ⟨SB, hSB⟩ : ∃ S, str (enc (clamp (t : Int)) ++ (enc d.size ++ d.data.toList)) = S := ⟨_, rfl⟩
  have q0 := bbod_le t hd
  have q1 := enc_le (clamp t)
  have hle : (enc (clamp (t : Int))).length + (enc d.size ++ d.data.toList).length ≤ 60 := by
    have : (enc (clamp (t : Int)) ++ (enc d.size ++ d.data.toList)).length ≤ 60 := by
      rw [show enc (clamp (t : Int)) ++ (enc d.size ++ d.data.toList) = bbod t d by simp [bbod]]
      omega
    rw [List.length_append] at this
    exact this
  have ha1 := fun W => add_run (enc (clamp (t : Int))) (enc d.size ++ d.data.toList) (by omega) S1 S2 SB h1 h2 hSB W
  have HN1 := hide (fun W => rNum_told t W S1 h1)
  have HN2 := hide (fun W => rTxt_told d W (by omega) S2 h2)
  have hSsz : SB.size ≤ 60 := by rw [← hSB, str_size, List.length_append]; exact hle
  have HS := hide (fun W => rSector_told SB W hSsz SF (by
    rw [← hSF, ← hSB]
    show str (seal4 (pad (enc (clamp (t : Int)) ++ (enc d.size ++ d.data.toList)))) = str (bsec t d)
    rw [show enc (clamp (t : Int)) ++ (enc d.size ++ d.data.toList) = bbod t d by simp [bbod]]
    rfl))
  clear h1 h2 hSB q0 q1 hle hSsz hSF
  go_enter Tryz.func37, Tryz.ntmps37
  go_wp2_with fail
  refine (HN1.out _).mono ?_
  rintro e w1 ⟨rfl, hb1⟩
  have HB1 := hide hb1
  clear hb1
  go_wp2_with fail
  refine (HN2.out _).mono ?_
  rintro e w2 ⟨rfl, hb2⟩
  have HB2 := hide (HB1.out.trans (hb2.mono HB1.out.size))
  clear hb2 HB1
  go_wp2_with fail
  refine (HS.out _).mono ?_
  rintro e w5 ⟨rfl, hb5⟩
  have HB5 := hide (HB2.out.trans (hb5.mono HB2.out.size))
  clear hb5 HB2
  go_wp2
  go_ret
  exact ⟨rfl, HB5.out⟩

/-- What headOf answers. -/
def HdTup : Option Hd → Value
  | some h => .tuple #[.int .i64 (h.t : Int), .int .i64 (h.m : Int)]
  | none => .tuple #[.int .i64 0, .int .i64 0]
theorem hd_chain {i : Nat} {x : Hd} (k : HOk i x) {M l1 l2 : List UInt8} {t m e1 e2 : Nat} (hM : M = pad (hbod x)) (h1 : rnum M 0 = (t, l1, e1)) (h2 : rnum l1 e1 = (m, l2, e2)) : x = ⟨t, m⟩ ∧ e2 = 0 := by
  subst hM
  refine ⟨by rw [← hgot_pad k]; exact hgot_step h1 h2, ?_⟩
  have e0 : pad (hbod x) = enc (clamp x.t) ++ (enc (clamp x.m) ++ List.replicate (60 - (hbod x).length) 0) := by unfold pad; simp [hbod]
  rw [e0, rnum_clamp k.t] at h1
  cases h1
  rw [rnum_clamp k.m] at h2
  cases h2
  rfl
theorem unh_bad {i : Nat} {M l1 l2 : List UInt8} {t m e1 e2 : Nat} (h1 : rnum M 0 = (t, l1, e1)) (h2 : rnum l1 e1 = (m, l2, e2)) (hb : e2 ≠ 0 ∨ t < 1 ∨ m < 1 ∨ t % 2 ≠ i ∨ hsec ⟨t, m⟩ ≠ seal4 M) : unh i (seal4 M) = none := by
  refine unh_none fun x hx he => ?_
  obtain ⟨rfl, rfl⟩ := hd_chain hx (seal4_inj he) h1 h2
  have l1 : 1 ≤ t := hx.pos
  have l2 : 1 ≤ m := hx.mpos
  have l3 : t % 2 = i := hx.par
  rcases hb with h | h | h | h | h
  · exact h rfl
  · omega
  · omega
  · exact h l3
  · exact h he.symm
theorem unh_good {i : Nat} {M l1 l2 : List UInt8} {t m e1 e2 : Nat} (h1 : rnum M 0 = (t, l1, e1)) (h2 : rnum l1 e1 = (m, l2, e2)) (ht : 1 ≤ t) (hm : 1 ≤ m) (hp : t % 2 = i) (he : hsec ⟨t, m⟩ = seal4 M) : unh i (seal4 M) = some ⟨t, m⟩ := by
  have b1 : NumN t := by have := rnum_lt M 0; rw [h1] at this; exact this
  have b2 : NumN m := by have := rnum_lt l1 e1; rw [h2] at this; exact this
  rw [← he]
  exact unh_some ⟨b1, b2, ht, hm, hp⟩
theorem results_two {fn : Func} {t u : Tmp} (h : fn.results = #[.tmp t, .tmp u]) (tmps : Array Value) (P : Program) (w : World) :
    (results fn tmps).run P w = .ok (.tuple #[tmps.getD t undef, tmps.getD u undef]) w := by
  simp [results, h]
set_option maxRecDepth 100000 in
set_option maxHeartbeats 2000000 in
theorem ho_sum (s : ByteArray) (i : Nat) (w : World) (hs : s.size ≤ 1000000) (hno : ∀ m, s.data.toList ≠ seal4 m) :
    Calls Tryz.prog 33 #[.string s, .int .i64 (i : Int)] w fun e w' => e = .returned (HdTup none) ∧ Below w.heap.size w w' := by
  have Hno := hide hno
  clear hno
  go_enter Tryz.func33, Tryz.ntmps33
  go_wp2_with fail
  refine (rOpen_bad s w hs Hno.out).mono ?_
  rintro e w1 ⟨rfl, hb1⟩
  have HB1 := hide hb1
  clear hb1
  go_wp2
  go_ret2
  exact ⟨rfl, HB1.out⟩
set_option maxRecDepth 100000 in
set_option maxHeartbeats 2000000 in
theorem ho_err (s : ByteArray) (i : Nat) (w : World) (M : List UInt8) (hs : s.size ≤ 1000000) (hM : s.data.toList = seal4 M) (hM60 : M.length ≤ 60) {l1 l2 : List UInt8} {t m e1 e2 : Nat} (h1 : rnum M 0 = (t, l1, e1)) (h2 : rnum l1 e1 = (m, l2, e2)) (he : e2 ≠ 0) :
    Calls Tryz.prog 33 #[.string s, .int .i64 (i : Int)] w fun e w' => e = .returned (HdTup none) ∧ Below w.heap.size w w' := by
  obtain ⟨S0, hS0⟩ : ∃ S, str M = S := ⟨_, rfl⟩
  have he0 : ((e2 : Int) != 0) = true := by simp; omega
  have HS0 := hide hS0
  have HM := hide hM
  have HL0 := hide hM60
  have H1 := hide h1
  have H2 := hide h2
  clear hS0 hM hM60 h1 h2
  go_enter Tryz.func33, Tryz.ntmps33
  go_wp2_with fail
  refine (rOpen_good s w M hs HM.out S0 HS0.out).mono ?_
  rintro e w1 ⟨rfl, hb1⟩
  have HB1 := hide hb1
  have hr0 := rr_new w1 S0
  have HB2 := hide (hb1.trans ((rr_below w1 S0).mono hb1.size))
  have hRl := hb1.size
  obtain ⟨R, hR⟩ : ∃ R, R = w1.heap.size := ⟨_, rfl⟩
  rw [← hR] at hr0 hRl
  rw [← HS0.out] at hr0
  clear hb1 HB1
  go_wp2_with fail
  rw [← hR]
  clear hR
  rw [HS0.out] at hr0
  generalize w1.alloc _ = w2 at *
  rw [← HS0.out] at hr0
  refine (rNumber_at R 0 M w2 hr0 HL0.out t l1 e1 H1.out).mono ?_
  rintro r w3 ⟨rfl, hr1, hg1, hl1⟩
  have HL1 := hide hl1
  have HB3 := hide (HB2.out.trans (only_below hg1 hRl hr0.lt))
  clear hg1 hr0 hl1 HB2
  go_wp2_with fail
  refine (rNumber_at R e1 l1 w3 hr1 HL1.out m l2 e2 H2.out).mono ?_
  rintro r w6 ⟨rfl, hr4, hg4, hl4⟩
  have HB6 := hide (HB3.out.trans (only_below hg4 hRl hr1.lt))
  have hc1 : w6.cell? ⟨R, 1, none⟩ = some (.int .i64 (e2 : Int)) := by have := hr4; unfold Rr at this; simp [World.cell?, this]
  clear hg4 hr1 hl4 HB3 hr4 hRl
  go_wp2
  go_ret2
  exact ⟨rfl, HB6.out⟩
set_option maxRecDepth 100000 in
set_option maxHeartbeats 2000000 in
theorem ho_lowt (s : ByteArray) (i : Nat) (w : World) (M : List UInt8) (hs : s.size ≤ 1000000) (hM : s.data.toList = seal4 M) (hM60 : M.length ≤ 60) {l1 l2 : List UInt8} {t m e1 e2 : Nat} (h1 : rnum M 0 = (t, l1, e1)) (h2 : rnum l1 e1 = (m, l2, e2)) (he : e2 = 0) (ht : t < 1) :
    Calls Tryz.prog 33 #[.string s, .int .i64 (i : Int)] w fun e w' => e = .returned (HdTup none) ∧ Below w.heap.size w w' := by
  obtain ⟨S0, hS0⟩ : ∃ S, str M = S := ⟨_, rfl⟩
  have he0 : ((e2 : Int) != 0) = false := by simp; omega
  have hti : (t : Int) < 1 := by omega
  have HS0 := hide hS0
  have HM := hide hM
  have HL0 := hide hM60
  have H1 := hide h1
  have H2 := hide h2
  clear hS0 hM hM60 h1 h2
  go_enter Tryz.func33, Tryz.ntmps33
  go_wp2_with fail
  refine (rOpen_good s w M hs HM.out S0 HS0.out).mono ?_
  rintro e w1 ⟨rfl, hb1⟩
  have HB1 := hide hb1
  have hr0 := rr_new w1 S0
  have HB2 := hide (hb1.trans ((rr_below w1 S0).mono hb1.size))
  have hRl := hb1.size
  obtain ⟨R, hR⟩ : ∃ R, R = w1.heap.size := ⟨_, rfl⟩
  rw [← hR] at hr0 hRl
  rw [← HS0.out] at hr0
  clear hb1 HB1
  go_wp2_with fail
  rw [← hR]
  clear hR
  rw [HS0.out] at hr0
  generalize w1.alloc _ = w2 at *
  rw [← HS0.out] at hr0
  refine (rNumber_at R 0 M w2 hr0 HL0.out t l1 e1 H1.out).mono ?_
  rintro r w3 ⟨rfl, hr1, hg1, hl1⟩
  have HL1 := hide hl1
  have HB3 := hide (HB2.out.trans (only_below hg1 hRl hr0.lt))
  clear hg1 hr0 hl1 HB2
  go_wp2_with fail
  refine (rNumber_at R e1 l1 w3 hr1 HL1.out m l2 e2 H2.out).mono ?_
  rintro r w6 ⟨rfl, hr4, hg4, hl4⟩
  have HB6 := hide (HB3.out.trans (only_below hg4 hRl hr1.lt))
  have hc1 : w6.cell? ⟨R, 1, none⟩ = some (.int .i64 (e2 : Int)) := by have := hr4; unfold Rr at this; simp [World.cell?, this]
  clear hg4 hr1 hl4 HB3 hr4 hRl
  go_wp2
  go_ret2
  exact ⟨rfl, HB6.out⟩
set_option maxRecDepth 100000 in
set_option maxHeartbeats 2000000 in
theorem ho_lowm (s : ByteArray) (i : Nat) (w : World) (M : List UInt8) (hs : s.size ≤ 1000000) (hM : s.data.toList = seal4 M) (hM60 : M.length ≤ 60) {l1 l2 : List UInt8} {t m e1 e2 : Nat} (h1 : rnum M 0 = (t, l1, e1)) (h2 : rnum l1 e1 = (m, l2, e2)) (he : e2 = 0) (ht : ¬ t < 1) (hm : m < 1) :
    Calls Tryz.prog 33 #[.string s, .int .i64 (i : Int)] w fun e w' => e = .returned (HdTup none) ∧ Below w.heap.size w w' := by
  obtain ⟨S0, hS0⟩ : ∃ S, str M = S := ⟨_, rfl⟩
  have he0 : ((e2 : Int) != 0) = false := by simp; omega
  have hti : ¬ (t : Int) < 1 := by omega
  have hmi : (m : Int) < 1 := by omega
  have HS0 := hide hS0
  have HM := hide hM
  have HL0 := hide hM60
  have H1 := hide h1
  have H2 := hide h2
  clear hS0 hM hM60 h1 h2
  go_enter Tryz.func33, Tryz.ntmps33
  go_wp2_with fail
  refine (rOpen_good s w M hs HM.out S0 HS0.out).mono ?_
  rintro e w1 ⟨rfl, hb1⟩
  have HB1 := hide hb1
  have hr0 := rr_new w1 S0
  have HB2 := hide (hb1.trans ((rr_below w1 S0).mono hb1.size))
  have hRl := hb1.size
  obtain ⟨R, hR⟩ : ∃ R, R = w1.heap.size := ⟨_, rfl⟩
  rw [← hR] at hr0 hRl
  rw [← HS0.out] at hr0
  clear hb1 HB1
  go_wp2_with fail
  rw [← hR]
  clear hR
  rw [HS0.out] at hr0
  generalize w1.alloc _ = w2 at *
  rw [← HS0.out] at hr0
  refine (rNumber_at R 0 M w2 hr0 HL0.out t l1 e1 H1.out).mono ?_
  rintro r w3 ⟨rfl, hr1, hg1, hl1⟩
  have HL1 := hide hl1
  have HB3 := hide (HB2.out.trans (only_below hg1 hRl hr0.lt))
  clear hg1 hr0 hl1 HB2
  go_wp2_with fail
  refine (rNumber_at R e1 l1 w3 hr1 HL1.out m l2 e2 H2.out).mono ?_
  rintro r w6 ⟨rfl, hr4, hg4, hl4⟩
  have HB6 := hide (HB3.out.trans (only_below hg4 hRl hr1.lt))
  have hc1 : w6.cell? ⟨R, 1, none⟩ = some (.int .i64 (e2 : Int)) := by have := hr4; unfold Rr at this; simp [World.cell?, this]
  clear hg4 hr1 hl4 HB3 hr4 hRl
  go_wp2
  go_ret2
  exact ⟨rfl, HB6.out⟩
set_option maxRecDepth 100000 in
set_option maxHeartbeats 2000000 in
theorem ho_par (s : ByteArray) (i : Nat) (w : World) (M : List UInt8) (hs : s.size ≤ 1000000) (hM : s.data.toList = seal4 M) (hM60 : M.length ≤ 60) {l1 l2 : List UInt8} {t m e1 e2 : Nat} (h1 : rnum M 0 = (t, l1, e1)) (h2 : rnum l1 e1 = (m, l2, e2)) (he : e2 = 0) (ht : ¬ t < 1) (hm : ¬ m < 1) (hp : t % 2 ≠ i) :
    Calls Tryz.prog 33 #[.string s, .int .i64 (i : Int)] w fun e w' => e = .returned (HdTup none) ∧ Below w.heap.size w w' := by
  obtain ⟨S0, hS0⟩ : ∃ S, str M = S := ⟨_, rfl⟩
  have he0 : ((e2 : Int) != 0) = false := by simp; omega
  have hti : ¬ (t : Int) < 1 := by omega
  have hmi : ¬ (m : Int) < 1 := by omega
  have hrem : (t : Int).tmod 2 = ((t % 2 : Nat) : Int) := by rw [Int.tmod_eq_emod_of_nonneg (by omega)]; rfl
  have hwr : IntKind.i64.wrap ((t % 2 : Nat) : Int) = ((t % 2 : Nat) : Int) := IntWalk.i64_in _ (by omega)
  obtain ⟨r2, hr2⟩ : ∃ r2, t % 2 = r2 := ⟨_, rfl⟩
  rw [hr2] at hrem hwr
  have hpi : ((r2 : Int) != (i : Int)) = true := by simp; omega
  have HS0 := hide hS0
  have HM := hide hM
  have HL0 := hide hM60
  have H1 := hide h1
  have H2 := hide h2
  clear hS0 hM hM60 h1 h2
  go_enter Tryz.func33, Tryz.ntmps33
  go_wp2_with fail
  refine (rOpen_good s w M hs HM.out S0 HS0.out).mono ?_
  rintro e w1 ⟨rfl, hb1⟩
  have HB1 := hide hb1
  have hr0 := rr_new w1 S0
  have HB2 := hide (hb1.trans ((rr_below w1 S0).mono hb1.size))
  have hRl := hb1.size
  obtain ⟨R, hR⟩ : ∃ R, R = w1.heap.size := ⟨_, rfl⟩
  rw [← hR] at hr0 hRl
  rw [← HS0.out] at hr0
  clear hb1 HB1
  go_wp2_with fail
  rw [← hR]
  clear hR
  rw [HS0.out] at hr0
  generalize w1.alloc _ = w2 at *
  rw [← HS0.out] at hr0
  refine (rNumber_at R 0 M w2 hr0 HL0.out t l1 e1 H1.out).mono ?_
  rintro r w3 ⟨rfl, hr1, hg1, hl1⟩
  have HL1 := hide hl1
  have HB3 := hide (HB2.out.trans (only_below hg1 hRl hr0.lt))
  clear hg1 hr0 hl1 HB2
  go_wp2_with fail
  refine (rNumber_at R e1 l1 w3 hr1 HL1.out m l2 e2 H2.out).mono ?_
  rintro r w6 ⟨rfl, hr4, hg4, hl4⟩
  have HB6 := hide (HB3.out.trans (only_below hg4 hRl hr1.lt))
  have hc1 : w6.cell? ⟨R, 1, none⟩ = some (.int .i64 (e2 : Int)) := by have := hr4; unfold Rr at this; simp [World.cell?, this]
  clear hg4 hr1 hl4 HB3 hr4 hRl
  go_wp2
  go_ret2
  exact ⟨rfl, HB6.out⟩
set_option maxRecDepth 100000 in
set_option maxHeartbeats 2000000 in
theorem ho_unlike (s : ByteArray) (i : Nat) (w : World) (M : List UInt8) (hs : s.size ≤ 1000000) (hM : s.data.toList = seal4 M) (hM60 : M.length ≤ 60) {l1 l2 : List UInt8} {t m e1 e2 : Nat} (h1 : rnum M 0 = (t, l1, e1)) (h2 : rnum l1 e1 = (m, l2, e2)) (he : e2 = 0) (ht : ¬ t < 1) (hm : ¬ m < 1) (hp : t % 2 = i) (hu : hsec ⟨t, m⟩ ≠ seal4 M) :
    Calls Tryz.prog 33 #[.string s, .int .i64 (i : Int)] w fun e w' => e = .returned (HdTup none) ∧ Below w.heap.size w w' := by
  obtain ⟨S0, hS0⟩ : ∃ S, str M = S := ⟨_, rfl⟩
  have he0 : ((e2 : Int) != 0) = false := by simp; omega
  have hti : ¬ (t : Int) < 1 := by omega
  have hmi : ¬ (m : Int) < 1 := by omega
  have hrem : (t : Int).tmod 2 = ((t % 2 : Nat) : Int) := by rw [Int.tmod_eq_emod_of_nonneg (by omega)]; rfl
  have hwr : IntKind.i64.wrap ((t % 2 : Nat) : Int) = ((t % 2 : Nat) : Int) := IntWalk.i64_in _ (by omega)
  obtain ⟨r2, hr2⟩ : ∃ r2, t % 2 = r2 := ⟨_, rfl⟩
  rw [hr2] at hrem hwr
  have hpi : ((r2 : Int) != (i : Int)) = false := by simp; omega
  obtain ⟨SF, hSF⟩ : ∃ SF, str (hsec ⟨t, m⟩) = SF := ⟨_, rfl⟩
  have HRH := hide (fun W => rhead_any t m W SF hSF)
  have hne : (SF.toList == s.toList) = false := by
    refine beq_eq_false_iff_ne.2 fun e => hu ?_
    rw [ByteArray.toList_eq, ByteArray.toList_eq, ← hSF, hM] at e
    exact e
  clear hSF
  have HS0 := hide hS0
  have HM := hide hM
  have HL0 := hide hM60
  have H1 := hide h1
  have H2 := hide h2
  clear hS0 hM hM60 h1 h2
  go_enter Tryz.func33, Tryz.ntmps33
  go_wp2_with fail
  refine (rOpen_good s w M hs HM.out S0 HS0.out).mono ?_
  rintro e w1 ⟨rfl, hb1⟩
  have HB1 := hide hb1
  have hr0 := rr_new w1 S0
  have HB2 := hide (hb1.trans ((rr_below w1 S0).mono hb1.size))
  have hRl := hb1.size
  obtain ⟨R, hR⟩ : ∃ R, R = w1.heap.size := ⟨_, rfl⟩
  rw [← hR] at hr0 hRl
  rw [← HS0.out] at hr0
  clear hb1 HB1
  go_wp2_with fail
  rw [← hR]
  clear hR
  rw [HS0.out] at hr0
  generalize w1.alloc _ = w2 at *
  rw [← HS0.out] at hr0
  refine (rNumber_at R 0 M w2 hr0 HL0.out t l1 e1 H1.out).mono ?_
  rintro r w3 ⟨rfl, hr1, hg1, hl1⟩
  have HL1 := hide hl1
  have HB3 := hide (HB2.out.trans (only_below hg1 hRl hr0.lt))
  clear hg1 hr0 hl1 HB2
  go_wp2_with fail
  refine (rNumber_at R e1 l1 w3 hr1 HL1.out m l2 e2 H2.out).mono ?_
  rintro r w6 ⟨rfl, hr4, hg4, hl4⟩
  have HB6 := hide (HB3.out.trans (only_below hg4 hRl hr1.lt))
  have hc1 : w6.cell? ⟨R, 1, none⟩ = some (.int .i64 (e2 : Int)) := by have := hr4; unfold Rr at this; simp [World.cell?, this]
  clear hg4 hr1 hl4 HB3 hr4 hRl
  go_wp2_with fail
  refine (HRH.out _).mono ?_
  rintro e w7 ⟨rfl, hb7⟩
  have HB7 := hide (HB6.out.trans (hb7.mono HB6.out.size))
  clear hb7 HB6
  go_wp2
  go_ret2
  exact ⟨rfl, HB7.out⟩
set_option maxRecDepth 100000 in
set_option maxHeartbeats 2000000 in
theorem ho_same (s : ByteArray) (i : Nat) (w : World) (M : List UInt8) (hs : s.size ≤ 1000000) (hM : s.data.toList = seal4 M) (hM60 : M.length ≤ 60) {l1 l2 : List UInt8} {t m e1 e2 : Nat} (h1 : rnum M 0 = (t, l1, e1)) (h2 : rnum l1 e1 = (m, l2, e2)) (he : e2 = 0) (ht : ¬ t < 1) (hm : ¬ m < 1) (hp : t % 2 = i) (hu : hsec ⟨t, m⟩ = seal4 M) :
    Calls Tryz.prog 33 #[.string s, .int .i64 (i : Int)] w fun e w' => e = .returned (HdTup (some ⟨t, m⟩)) ∧ Below w.heap.size w w' := by
  obtain ⟨S0, hS0⟩ : ∃ S, str M = S := ⟨_, rfl⟩
  have he0 : ((e2 : Int) != 0) = false := by simp; omega
  have hti : ¬ (t : Int) < 1 := by omega
  have hmi : ¬ (m : Int) < 1 := by omega
  have hrem : (t : Int).tmod 2 = ((t % 2 : Nat) : Int) := by rw [Int.tmod_eq_emod_of_nonneg (by omega)]; rfl
  have hwr : IntKind.i64.wrap ((t % 2 : Nat) : Int) = ((t % 2 : Nat) : Int) := IntWalk.i64_in _ (by omega)
  obtain ⟨r2, hr2⟩ : ∃ r2, t % 2 = r2 := ⟨_, rfl⟩
  rw [hr2] at hrem hwr
  have hpi : ((r2 : Int) != (i : Int)) = false := by simp; omega
  obtain ⟨SF, hSF⟩ : ∃ SF, str (hsec ⟨t, m⟩) = SF := ⟨_, rfl⟩
  have HRH := hide (fun W => rhead_any t m W SF hSF)
  have hne : (SF.toList == s.toList) = true := by
    rw [beq_iff_eq, ByteArray.toList_eq, ByteArray.toList_eq, ← hSF, hM, ← hu]
    rfl
  clear hSF
  have HS0 := hide hS0
  have HM := hide hM
  have HL0 := hide hM60
  have H1 := hide h1
  have H2 := hide h2
  clear hS0 hM hM60 h1 h2
  go_enter Tryz.func33, Tryz.ntmps33
  go_wp2_with fail
  refine (rOpen_good s w M hs HM.out S0 HS0.out).mono ?_
  rintro e w1 ⟨rfl, hb1⟩
  have HB1 := hide hb1
  have hr0 := rr_new w1 S0
  have HB2 := hide (hb1.trans ((rr_below w1 S0).mono hb1.size))
  have hRl := hb1.size
  obtain ⟨R, hR⟩ : ∃ R, R = w1.heap.size := ⟨_, rfl⟩
  rw [← hR] at hr0 hRl
  rw [← HS0.out] at hr0
  clear hb1 HB1
  go_wp2_with fail
  rw [← hR]
  clear hR
  rw [HS0.out] at hr0
  generalize w1.alloc _ = w2 at *
  rw [← HS0.out] at hr0
  refine (rNumber_at R 0 M w2 hr0 HL0.out t l1 e1 H1.out).mono ?_
  rintro r w3 ⟨rfl, hr1, hg1, hl1⟩
  have HL1 := hide hl1
  have HB3 := hide (HB2.out.trans (only_below hg1 hRl hr0.lt))
  clear hg1 hr0 hl1 HB2
  go_wp2_with fail
  refine (rNumber_at R e1 l1 w3 hr1 HL1.out m l2 e2 H2.out).mono ?_
  rintro r w6 ⟨rfl, hr4, hg4, hl4⟩
  have HB6 := hide (HB3.out.trans (only_below hg4 hRl hr1.lt))
  have hc1 : w6.cell? ⟨R, 1, none⟩ = some (.int .i64 (e2 : Int)) := by have := hr4; unfold Rr at this; simp [World.cell?, this]
  clear hg4 hr1 hl4 HB3 hr4 hRl
  go_wp2_with fail
  refine (HRH.out _).mono ?_
  rintro e w7 ⟨rfl, hb7⟩
  have HB7 := hide (HB6.out.trans (hb7.mono HB6.out.size))
  clear hb7 HB6
  go_wp2
  go_ret2
  exact ⟨rfl, HB7.out⟩
theorem headOf_any (L : List UInt8) (i : Nat) (w : World) (hl : L.length = 64) (o : Option Hd) (ho : unh i L = o) (s : ByteArray) (hs : str L = s) :
    Calls Tryz.prog 33 #[.string s, .int .i64 (i : Int)] w fun e w' => e = .returned (HdTup o) ∧ Below w.heap.size w w' := by
  subst ho
  subst hs
  have hsz : (str L).size ≤ 1000000 := by rw [str_size]; omega
  by_cases hm : ∃ M, L = seal4 M
  · obtain ⟨M, rfl⟩ := hm
    have hM60 : M.length ≤ 60 := by rw [seal4_length] at hl; omega
    obtain ⟨t, l1, e1, h1⟩ : ∃ t l1 e1, rnum M 0 = (t, l1, e1) := ⟨_, _, _, rfl⟩
    obtain ⟨m, l2, e2, h2⟩ : ∃ m l2 e2, rnum l1 e1 = (m, l2, e2) := ⟨_, _, _, rfl⟩
    by_cases c1 : e2 = 0
    · by_cases c2 : t < 1
      · rw [unh_bad h1 h2 (Or.inr (Or.inl c2))]
        exact ho_lowt _ i w M hsz rfl hM60 h1 h2 c1 c2
      · by_cases c3 : m < 1
        · rw [unh_bad h1 h2 (Or.inr (Or.inr (Or.inl c3)))]
          exact ho_lowm _ i w M hsz rfl hM60 h1 h2 c1 c2 c3
        · by_cases c4 : t % 2 = i
          · by_cases c5 : hsec ⟨t, m⟩ = seal4 M
            · rw [unh_good h1 h2 (by omega) (by omega) c4 c5]
              exact ho_same _ i w M hsz rfl hM60 h1 h2 c1 c2 c3 c4 c5
            · rw [unh_bad h1 h2 (Or.inr (Or.inr (Or.inr (Or.inr c5))))]
              exact ho_unlike _ i w M hsz rfl hM60 h1 h2 c1 c2 c3 c4 c5
          · rw [unh_bad h1 h2 (Or.inr (Or.inr (Or.inr (Or.inl c4))))]
            exact ho_par _ i w M hsz rfl hM60 h1 h2 c1 c2 c3 c4
    · rw [unh_bad h1 h2 (Or.inl c1)]
      exact ho_err _ i w M hsz rfl hM60 h1 h2 c1
  · rw [unh_none fun x _ e => hm ⟨_, e⟩]
    exact ho_sum _ i w hsz fun m e => hm ⟨m, e⟩

end Go.Proofs.YtnmpckhlpkmojaaGreatDoor.Im
