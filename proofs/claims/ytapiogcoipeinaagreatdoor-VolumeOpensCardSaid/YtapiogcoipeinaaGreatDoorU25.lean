/-
  The reference's contracts (isobarref05): Bytes and Encode of a valid record are its sector; Encode of what is not valid is nothing, and the error's number. Nothing that was there is changed.
-/
import Derived.Deep.RegionHeld3
import Derived.Deep.QuietTactic
import Derived.BigQuiet
import Derived.Test.YtapiogcoipeinaaGreatDoorU10
import Derived.Test.YtapiogcoipeinaaGreatDoorU11
import Derived.Test.YtapiogcoipeinaaGreatDoorU16
import Derived.Test.YtapiogcoipeinaaGreatDoorU13
namespace Go.Proofs.YtapiogcoipeinaaGreatDoor.Rc
open Go.RowKit
open Pk Sm Fa
set_option maxRecDepth 100000 in
set_option maxHeartbeats 1000000 in
theorem rRight_low (s k b : Int) (d : ByteArray) (m : Int) (w : World) (h : s < 1) :
 Calls Tryz.prog 95 #[rec5 s k b d m] w fun r w' => r = .returned (.bool false) ∧ Below w.heap.size w w' := by
 have HB := hide (box_below w s k b d m)
 go_enter Tryz.func95, Tryz.ntmps95
 go_wp2
 go_ret
 exact ⟨rfl, HB.out⟩
set_option maxRecDepth 100000 in
set_option maxHeartbeats 1000000 in
theorem rRight_high (s k b : Int) (d : ByteArray) (m : Int) (w : World) (h0 : ¬ s < 1) (h : 1152921504606846975 < s) :
 Calls Tryz.prog 95 #[rec5 s k b d m] w fun r w' => r = .returned (.bool false) ∧ Below w.heap.size w w' := by
 have HB := hide (box_below w s k b d m)
 go_enter Tryz.func95, Tryz.ntmps95
 go_wp2
 go_ret
 exact ⟨rfl, HB.out⟩
/-! ways -/
set_option maxRecDepth 100000 in
set_option maxHeartbeats 1000000 in
theorem rRight_w1 (s k b : Int) (d : ByteArray) (m : Int) (w : World) (h0 : ¬ s < 1) (hs : ¬ 1152921504606846975 < s) (h1 : (k == 1) = true) (hb : ¬ 0 ≤ b) :
 Calls Tryz.prog 95 #[rec5 s k b d m] w fun r w' => r = .returned (.bool false) ∧ Below w.heap.size w w' := by
 have HB := hide (box_below w s k b d m)
 go_enter Tryz.func95, Tryz.ntmps95
 go_wp2
 go_ret
 exact ⟨rfl, HB.out⟩
set_option maxRecDepth 100000 in
set_option maxHeartbeats 1000000 in
theorem rRight_w2 (s k b : Int) (d : ByteArray) (m : Int) (w : World) (h0 : ¬ s < 1) (hs : ¬ 1152921504606846975 < s) (h1 : (k == 1) = true) (hb : 0 ≤ b) (hb7 : ¬ b ≤ 7) :
 Calls Tryz.prog 95 #[rec5 s k b d m] w fun r w' => r = .returned (.bool false) ∧ Below w.heap.size w w' := by
 have HB := hide (box_below w s k b d m)
 go_enter Tryz.func95, Tryz.ntmps95
 go_wp2
 go_ret
 exact ⟨rfl, HB.out⟩
set_option maxRecDepth 100000 in
set_option maxHeartbeats 1000000 in
theorem rRight_w3 (s k b : Int) (d : ByteArray) (m : Int) (w : World) (h0 : ¬ s < 1) (hs : ¬ 1152921504606846975 < s) (h1 : (k == 1) = true) (hb : 0 ≤ b) (hb7 : b ≤ 7) (hd : ¬ d.size ≤ 16) :
 Calls Tryz.prog 95 #[rec5 s k b d m] w fun r w' => r = .returned (.bool false) ∧ Below w.heap.size w w' := by
 have HB := hide (box_below w s k b d m)
 go_enter Tryz.func95, Tryz.ntmps95
 go_wp2
 go_ret
 exact ⟨rfl, HB.out⟩
set_option maxRecDepth 100000 in
set_option maxHeartbeats 1000000 in
theorem rRight_w4 (s k b : Int) (d : ByteArray) (m : Int) (w : World) (h0 : ¬ s < 1) (hs : ¬ 1152921504606846975 < s) (h1 : (k == 1) = true) (hb : 0 ≤ b) (hb7 : b ≤ 7) (hd : d.size ≤ 16) (hm : (m == 0) = false) :
 Calls Tryz.prog 95 #[rec5 s k b d m] w fun r w' => r = .returned (.bool false) ∧ Below w.heap.size w w' := by
 have HB := hide (box_below w s k b d m)
 go_enter Tryz.func95, Tryz.ntmps95
 go_wp2
 go_ret
 exact ⟨rfl, HB.out⟩
set_option maxRecDepth 100000 in
set_option maxHeartbeats 1000000 in
theorem rRight_w5 (s k b : Int) (d : ByteArray) (m : Int) (w : World) (h0 : ¬ s < 1) (hs : ¬ 1152921504606846975 < s) (h1 : (k == 1) = true) (hb : 0 ≤ b) (hb7 : b ≤ 7) (hd : d.size ≤ 16) (hm : (m == 0) = true) :
 Calls Tryz.prog 95 #[rec5 s k b d m] w fun r w' => r = .returned (.bool true) ∧ Below w.heap.size w w' := by
 have HB := hide (box_below w s k b d m)
 go_enter Tryz.func95, Tryz.ntmps95
 go_wp2
 go_ret
 exact ⟨rfl, HB.out⟩
set_option maxRecDepth 100000 in
set_option maxHeartbeats 1000000 in
theorem rRight_o (s k b : Int) (d : ByteArray) (m : Int) (w : World) (h0 : ¬ s < 1) (hs : ¬ 1152921504606846975 < s) (h1 : (k == 1) = false) (h2 : (k == 2) = false) :
 Calls Tryz.prog 95 #[rec5 s k b d m] w fun r w' => r = .returned (.bool false) ∧ Below w.heap.size w w' := by
 have HB := hide (box_below w s k b d m)
 go_enter Tryz.func95, Tryz.ntmps95
 go_wp2
 go_ret
 exact ⟨rfl, HB.out⟩
set_option maxRecDepth 100000 in
set_option maxHeartbeats 1000000 in
theorem rRight_m1 (s k b : Int) (d : ByteArray) (m : Int) (w : World) (h0 : ¬ s < 1) (hs : ¬ 1152921504606846975 < s) (h1 : (k == 1) = false) (h2 : (k == 2) = true) (hb : (b == 0) = false) :
 Calls Tryz.prog 95 #[rec5 s k b d m] w fun r w' => r = .returned (.bool false) ∧ Below w.heap.size w w' := by
 have HB := hide (box_below w s k b d m)
 go_enter Tryz.func95, Tryz.ntmps95
 go_wp2
 go_ret
 exact ⟨rfl, HB.out⟩
set_option maxRecDepth 100000 in
set_option maxHeartbeats 1000000 in
theorem rRight_m2 (s k b : Int) (d : ByteArray) (m : Int) (w : World) (h0 : ¬ s < 1) (hs : ¬ 1152921504606846975 < s) (h1 : (k == 1) = false) (h2 : (k == 2) = true) (hb : (b == 0) = true) (hd : d.toList.isEmpty = false) :
 Calls Tryz.prog 95 #[rec5 s k b d m] w fun r w' => r = .returned (.bool false) ∧ Below w.heap.size w w' := by
 have HB := hide (box_below w s k b d m)
 go_enter Tryz.func95, Tryz.ntmps95
 go_wp2
 go_ret
 exact ⟨rfl, HB.out⟩
set_option maxRecDepth 100000 in
set_option maxHeartbeats 1000000 in
theorem rRight_m3 (s k b : Int) (d : ByteArray) (m : Int) (w : World) (h0 : ¬ s < 1) (hs : ¬ 1152921504606846975 < s) (h1 : (k == 1) = false) (h2 : (k == 2) = true) (hb : (b == 0) = true) (hd : d.toList.isEmpty = true) (hm : ¬ 1 ≤ m) :
 Calls Tryz.prog 95 #[rec5 s k b d m] w fun r w' => r = .returned (.bool false) ∧ Below w.heap.size w w' := by
 have HB := hide (box_below w s k b d m)
 go_enter Tryz.func95, Tryz.ntmps95
 go_wp2
 go_ret
 exact ⟨rfl, HB.out⟩
set_option maxRecDepth 100000 in
set_option maxHeartbeats 1000000 in
theorem rRight_m4 (s k b : Int) (d : ByteArray) (m : Int) (w : World) (h0 : ¬ s < 1) (hs : ¬ 1152921504606846975 < s) (h1 : (k == 1) = false) (h2 : (k == 2) = true) (hb : (b == 0) = true) (hd : d.toList.isEmpty = true) (hm : 1 ≤ m) (hm2 : ¬ m ≤ 1152921504606846975) :
 Calls Tryz.prog 95 #[rec5 s k b d m] w fun r w' => r = .returned (.bool false) ∧ Below w.heap.size w w' := by
 have HB := hide (box_below w s k b d m)
 go_enter Tryz.func95, Tryz.ntmps95
 go_wp2
 go_ret
 exact ⟨rfl, HB.out⟩
set_option maxRecDepth 100000 in
set_option maxHeartbeats 1000000 in
theorem rRight_m5 (s k b : Int) (d : ByteArray) (m : Int) (w : World) (h0 : ¬ s < 1) (hs : ¬ 1152921504606846975 < s) (h1 : (k == 1) = false) (h2 : (k == 2) = true) (hb : (b == 0) = true) (hd : d.toList.isEmpty = true) (hm : 1 ≤ m) (hm2 : m ≤ 1152921504606846975) :
 Calls Tryz.prog 95 #[rec5 s k b d m] w fun r w' => r = .returned (.bool true) ∧ Below w.heap.size w w' := by
 have HB := hide (box_below w s k b d m)
 go_enter Tryz.func95, Tryz.ntmps95
 go_wp2
 go_ret
 exact ⟨rfl, HB.out⟩
theorem empty_eq (d : ByteArray) : d.toList.isEmpty = decide (d.size = 0) := by
 rw [ByteArray.toList_eq, ← size_eq d]
 cases d.data.toList with
 | nil => rfl
 | cons x r => simp
theorem Say.mk {p : Prop} {b : Bool} (h : b = true ↔ p) : Say p (.returned (.bool b)) := ⟨b, rfl, h⟩
theorem rRight_any (s k b : Int) (d : ByteArray) (m : Int) (w : World) :
 Calls Tryz.prog 95 #[rec5 s k b d m] w fun r w' => Say (Rgt s k b d.size m) r ∧ Below w.heap.size w w' := by
 have no : ∀ {w' : World}, ¬ Rgt s k b d.size m → Calls Tryz.prog 95 #[rec5 s k b d m] w (fun r w' => r = .returned (.bool false) ∧ Below w.heap.size w w') → Calls Tryz.prog 95 #[rec5 s k b d m] w fun r w' => Say (Rgt s k b d.size m) r ∧ Below w.heap.size w w' := by
  intro _ hn h
  refine h.mono ?_
  rintro r w' ⟨rfl, hb⟩
  exact ⟨Say.mk (by simp only [Bool.false_eq_true, false_iff]; exact hn), hb⟩
 have yes : ∀ {w' : World}, Rgt s k b d.size m → Calls Tryz.prog 95 #[rec5 s k b d m] w (fun r w' => r = .returned (.bool true) ∧ Below w.heap.size w w') → Calls Tryz.prog 95 #[rec5 s k b d m] w fun r w' => Say (Rgt s k b d.size m) r ∧ Below w.heap.size w w' := by
  intro _ hn h
  refine h.mono ?_
  rintro r w' ⟨rfl, hb⟩
  exact ⟨Say.mk (by simp only [true_iff]; exact hn), hb⟩
 by_cases h0 : s < 1
 ·exact no (w' := w) (by unfold Rgt; omega) (rRight_low s k b d m w h0)
 by_cases hs : 1152921504606846975 < s
 ·exact no (w' := w) (by unfold Rgt; omega) (rRight_high s k b d m w h0 hs)
 by_cases h1 : k = 1
 ·have e1 : (k == 1) = true := by simpa using h1
  by_cases hb : 0 ≤ b
  ·by_cases hb7 : b ≤ 7
   ·by_cases hd : d.size ≤ 16
    ·by_cases hm : m = 0
     ·exact yes (w' := w) (by unfold Rgt; omega) (rRight_w5 s k b d m w h0 hs e1 hb hb7 hd (by simpa using hm))
     ·exact no (w' := w) (by unfold Rgt; omega) (rRight_w4 s k b d m w h0 hs e1 hb hb7 hd (by simpa using hm))
    ·exact no (w' := w) (by unfold Rgt; omega) (rRight_w3 s k b d m w h0 hs e1 hb hb7 hd)
   ·exact no (w' := w) (by unfold Rgt; omega) (rRight_w2 s k b d m w h0 hs e1 hb hb7)
  ·exact no (w' := w) (by unfold Rgt; omega) (rRight_w1 s k b d m w h0 hs e1 hb)
 have e1 : (k == 1) = false := by simpa using h1
 by_cases h2 : k = 2
 ·have e2 : (k == 2) = true := by simpa using h2
  by_cases hb : b = 0
  ·by_cases hd : d.size = 0
   ·have ed : d.toList.isEmpty = true := by rw [empty_eq]; exact decide_eq_true hd
    by_cases hm : 1 ≤ m
    ·by_cases hm2 : m ≤ 1152921504606846975
     ·exact yes (w' := w) (by unfold Rgt; omega) (rRight_m5 s k b d m w h0 hs e1 e2 (by simpa using hb) ed hm hm2)
     ·exact no (w' := w) (by unfold Rgt; omega) (rRight_m4 s k b d m w h0 hs e1 e2 (by simpa using hb) ed hm hm2)
    ·exact no (w' := w) (by unfold Rgt; omega) (rRight_m3 s k b d m w h0 hs e1 e2 (by simpa using hb) ed hm)
   ·exact no (w' := w) (by unfold Rgt; omega) (rRight_m2 s k b d m w h0 hs e1 e2 (by simpa using hb) (by rw [empty_eq]; exact decide_eq_false hd))
  ·exact no (w' := w) (by unfold Rgt; omega) (rRight_m1 s k b d m w h0 hs e1 e2 (by simpa using hb))
 ·exact no (w' := w) (by unfold Rgt; omega) (rRight_o s k b d m w h0 hs e1 (by simpa using h2))
end Go.Proofs.YtapiogcoipeinaaGreatDoor.Rc
namespace Go.Proofs.YtapiogcoipeinaaGreatDoor.Rc
open Go.RowKit
open Pk hiding str str_data str_size str_of run_str head_str str_append
open Sm hiding run_str
open Fa
theorem rNum_told (n : Int) (w : World) (S : ByteArray) (hS : str (enc (clamp n)) = S) :
 Calls Tryz.prog 81 #[.int .i64 n] w fun e w' => e = .returned (.string S) ∧ Below w.heap.size w w' := by
 subst hS
 exact RNum_any n w
theorem rTxt_told (s : ByteArray) (w : World) (hs : s.size ≤ 1000000) (S : ByteArray) (hS : str (enc s.size ++ s.data.toList) = S) :
 Calls Tryz.prog 82 #[.string s] w fun e w' => e = .returned (.string S) ∧ Below w.heap.size w w' := by
 subst hS
 exact RTxt_any s w hs
theorem rSector_told (s : ByteArray) (w : World) (hs : s.size ≤ 60) (S : ByteArray) (hS : str (seal4 (pad s.data.toList)) = S) :
 Calls Tryz.prog 80 #[.string s] w fun e w' => e = .returned (.tuple #[.string S, .bool true]) ∧ Below w.heap.size w w' := by
 subst hS
 exact rSector_any s w hs
theorem add_run (l m : List UInt8) (h : l.length + m.length ≤ 1000000) (SA SB SC : ByteArray) (hA : str l = SA) (hB : str m = SB) (hC : str (l ++ m) = SC) (W : World) :
 (Op.stringOp .add SA SB).run Tryz.prog W = .ok (.string SC) W := by
 subst hA hB hC
 exact run_add l m h W
set_option maxRecDepth 100000 in
set_option maxHeartbeats 2000000 in
theorem rBytes_mark (g s b : Int) (d : ByteArray) (m : Int) (w : World) (h : Rgt s 2 b d.size m) (SF : ByteArray) (hSF : str (sec g s 2 b d m) = SF) :
 Calls Tryz.prog 96 #[.int .i64 g, rec5 s 2 b d m] w fun e w' => e = .returned (.string SF) ∧ Below w.heap.size w w' := by
 obtain ⟨S1, h1⟩ : ∃ S, str (enc (clamp g)) = S := ⟨_, rfl⟩
 obtain ⟨S2, h2⟩ : ∃ S, str (enc (clamp s)) = S := ⟨_, rfl⟩
 obtain ⟨S3, h3⟩ : ∃ S, str (enc (clamp 2)) = S := ⟨_, rfl⟩
 obtain ⟨S12, h12⟩ : ∃ S, str (enc (clamp g) ++ enc (clamp s)) = S := ⟨_, rfl⟩
 obtain ⟨S123, h123⟩ : ∃ S, str (enc (clamp g) ++ enc (clamp s) ++ enc (clamp 2)) = S := ⟨_, rfl⟩
 obtain ⟨SB, hSB⟩ : ∃ S, str (bod g s 2 b d m) = S := ⟨_, rfl⟩
 have hL := enc3 g s 2
 simp only [List.length_append, List.length_nil] at hL
 have ha1 := fun W => add_run (enc (clamp g)) (enc (clamp s)) (by omega) S1 S2 S12 h1 h2 h12 W
 have ha2 := fun W => add_run (enc (clamp g) ++ enc (clamp s)) (enc (clamp 2)) (by simp only [List.length_append]; omega) S12 S3 S123 h12 h3 h123 W
 obtain ⟨S4, h4⟩ : ∃ S, str (enc (clamp m)) = S := ⟨_, rfl⟩
 have hL4 := enc_le (clamp m)
 have ha3 := fun W => add_run (enc (clamp g) ++ enc (clamp s) ++ enc (clamp 2)) (enc (clamp m)) (by simp only [List.length_append]; omega) S123 S4 SB h123 h4 (by rw [← hSB]; unfold bod; rw [if_pos rfl]) W
 have HN4 := hide (fun W => rNum_told m W S4 h4)
 have hSsz : SB.size ≤ 60 := by rw [← hSB, str_size]; exact bod_le h
 have HN1 := hide (fun W => rNum_told g W S1 h1)
 have HN2 := hide (fun W => rNum_told s W S2 h2)
 have HN3 := hide (fun W => rNum_told 2 W S3 h3)
 have HS := hide (fun W => rSector_told SB W hSsz SF (by rw [← hSF, ← hSB]; rfl))
 have hx := Bx.new w s 2 b d m
 have HB0 := hide (box_below w s 2 b d m)
 clear h h1 h2 h3 h4 h12 h123 hSB hL hL4 hSsz hSF
 go_enter Tryz.func96, Tryz.ntmps96
 go_wp2_with fail
 generalize w.alloc _ = w0 at *
 have HX0 := hide hx
 have hS0 : w0.drew.cell? ⟨w.heap.size, 0, none⟩ = some (.int .i64 s) ∧ w0.drew.cell? ⟨w.heap.size, 1, none⟩ = some (.int .i64 2) := ⟨hx.c0, hx.c1⟩
 clear hx
 refine wp_region_held (S := (fun W => W.cell? ⟨w.heap.size, 0, none⟩ = some (.int .i64 s) ∧ W.cell? ⟨w.heap.size, 1, none⟩ = some (.int .i64 2))) (by kernel_rfl) ?_
 change wpAnyH _ _ _ _ _ _ _ _ (World.drew _)
 refine wpAnyH_take (i := 0) (oi := ⟨some 8, _, _, _, _, _⟩) (v := ?_) rfl (by kernel_rfl) (by kernel_rfl) (by kernel_rfl) (fun _ _ _ h => h) (Or.inl ⟨by rfl, ?_⟩) hS0 ?_
 rotate_left 1
 ·(intro w hSw; obtain ⟨hSw1, hSw2⟩ := hSw; go_simp; try with_reducible rfl)
 simp only [Act.put, sl]
 refine wpAnyH_take (i := 2) (oi := ⟨some 10, _, _, _, _, _⟩) (v := ?_) rfl (by kernel_rfl) (by kernel_rfl) (by kernel_rfl) (fun _ _ _ h => h) (Or.inl ⟨by rfl, ?_⟩) hS0 ?_
 rotate_left 1
 ·(intro w hSw; obtain ⟨hSw1, hSw2⟩ := hSw; go_simp; try with_reducible rfl)
 simp only [Act.put, sl]
 refine wpAnyH_take (i := 3) (oi := ⟨some 11, _, _, _, _, _⟩) (v := ?_) rfl (by kernel_rfl) (by kernel_rfl) (by kernel_rfl) (fun _ _ _ h => h) (Or.inl ⟨by rfl, ?_⟩) hS0 ?_
 rotate_left 1
 ·(intro w hSw; obtain ⟨hSw1, hSw2⟩ := hSw; go_simp; try with_reducible rfl)
 simp only [Act.put, sl]
 refine wpAnyH_take (i := 6) (oi := ⟨some 14, _, _, _, _, _⟩) (v := ?_) rfl (by kernel_rfl) (by kernel_rfl) (by kernel_rfl) (fun _ _ _ h => h) (Or.inl ⟨by rfl, ?_⟩) hS0 ?_
 rotate_left 1
 ·(intro w hSw; obtain ⟨hSw1, hSw2⟩ := hSw; go_simp; try with_reducible rfl)
 simp only [Act.put, sl]
 refine wpAnyH_take (i := 7) (oi := ⟨some 15, _, _, _, _, _⟩) (v := ?_) rfl (by kernel_rfl) (by kernel_rfl) (by kernel_rfl) (fun _ _ _ h => h) (Or.inl ⟨by rfl, ?_⟩) hS0 ?_
 rotate_left 1
 ·(intro w hSw; obtain ⟨hSw1, hSw2⟩ := hSw; go_simp; try with_reducible rfl)
 simp only [Act.put, sl]
 refine wpAnyH_ready (rs := [1]) (by kernel_rfl) (by simp) ?_
 refine AllReadyH.cons (o := ⟨some 9, _, _, _, _, _⟩) rfl (fun K hK => ?_) AllReadyH.nil
 go_simp
 refine (HN1.out _).mono ?_
 rintro e w1 ⟨rfl, hb1'⟩
 have hb1 := drew_below hb1'
 clear hb1'
 have hx1 := HX0.out.below hb1
 have hS1 : w1.cell? ⟨w.heap.size, 0, none⟩ = some (.int .i64 s) ∧ w1.cell? ⟨w.heap.size, 1, none⟩ = some (.int .i64 2) := ⟨hx1.c0, hx1.c1⟩
 have HX1 := hide hx1
 have HB1 := hide (HB0.out.trans (hb1.mono HB0.out.size))
 clear hb1 hx1
 refine hK.out _ _ hS1 (fun hHeld => ?_)
 clear hK K
 clear hHeld
 refine wpAnyH_ready (rs := [4]) (by kernel_rfl) (by simp) ?_
 refine AllReadyH.cons (o := ⟨some 12, _, _, _, _, _⟩) rfl (fun K hK => ?_) AllReadyH.nil
 go_simp
 refine (HN2.out _).mono ?_
 rintro e w2 ⟨rfl, hb2⟩
 have hx2 := HX1.out.below hb2
 have hS2 : w2.cell? ⟨w.heap.size, 0, none⟩ = some (.int .i64 s) ∧ w2.cell? ⟨w.heap.size, 1, none⟩ = some (.int .i64 2) := ⟨hx2.c0, hx2.c1⟩
 have HX2 := hide hx2
 have HB2 := hide (HB1.out.trans (hb2.mono HB1.out.size))
 clear hb2 hx2
 refine hK.out _ _ hS2 (fun hHeld => ?_)
 clear hK K
 clear hHeld
 refine wpAnyH_take (i := 5) (oi := ⟨some 13, _, _, _, _, _⟩) (v := ?_) rfl (by kernel_rfl) (by kernel_rfl) (by kernel_rfl) (fun _ _ _ h => h) (Or.inl ⟨by rfl, ?_⟩) hS2 ?_
 rotate_left 1
 ·(intro w hSw; obtain ⟨hSw1, hSw2⟩ := hSw; go_simp; try with_reducible rfl)
 simp only [Act.put, sl]
 refine wpAnyH_ready (rs := [8]) (by kernel_rfl) (by simp) ?_
 refine AllReadyH.cons (o := ⟨some 16, _, _, _, _, _⟩) rfl (fun K hK => ?_) AllReadyH.nil
 go_simp
 refine (HN3.out _).mono ?_
 rintro e w3 ⟨rfl, hb3⟩
 have hx3 := HX2.out.below hb3
 have hS3 : w3.cell? ⟨w.heap.size, 0, none⟩ = some (.int .i64 s) ∧ w3.cell? ⟨w.heap.size, 1, none⟩ = some (.int .i64 2) := ⟨hx3.c0, hx3.c1⟩
 have HX3 := hide hx3
 have HB3 := hide (HB2.out.trans (hb3.mono HB2.out.size))
 clear hb3 hx3
 refine hK.out _ _ hS3 (fun hHeld => ?_)
 clear hK K
 clear hHeld
 refine wpAnyH_take (i := 9) (oi := ⟨some 17, _, _, _, _, _⟩) (v := ?_) rfl (by kernel_rfl) (by kernel_rfl) (by kernel_rfl) (fun _ _ _ h => h) (Or.inl ⟨by rfl, ?_⟩) hS3 ?_
 rotate_left 1
 ·(intro w hSw; obtain ⟨hSw1, hSw2⟩ := hSw; go_simp; try with_reducible rfl)
 simp only [Act.put, sl]
 refine wpAnyH_take (i := 10) (oi := ⟨some 5, _, _, _, _, _⟩) (v := ?_) rfl (by kernel_rfl) (by kernel_rfl) (by kernel_rfl) (fun _ _ _ h => h) (Or.inl ⟨by rfl, ?_⟩) hS3 ?_
 rotate_left 1
 ·(intro w hSw; obtain ⟨hSw1, hSw2⟩ := hSw; go_simp; try with_reducible rfl)
 simp only [Act.put, sl]
 refine wpAnyH_done (by kernel_rfl) ?_ _
 have hc1 := HX3.out.c1
 have hc4 := HX3.out.c4
 clear hS0 hS1 hS2 hS3 ha1 ha2
 go_wp2_with fail
 refine (HN4.out _).mono ?_
 rintro r w4 ⟨rfl, hb4⟩
 have HB4 := hide (HB3.out.trans (hb4.mono HB3.out.size))
 clear hb4 hc1 hc4
 go_wp2_with fail
 refine (HS.out _).mono ?_
 rintro r w5 ⟨rfl, hb5⟩
 have HB5 := hide (HB4.out.trans (hb5.mono HB4.out.size))
 clear hb5 ha3
 go_wp2
 go_ret
 exact ⟨rfl, HB5.out⟩
set_option maxRecDepth 100000 in
set_option maxHeartbeats 2000000 in
theorem rBytes_write (g s b : Int) (d : ByteArray) (m : Int) (w : World) (h : Rgt s 1 b d.size m) (SF : ByteArray) (hSF : str (sec g s 1 b d m) = SF) :
 Calls Tryz.prog 96 #[.int .i64 g, rec5 s 1 b d m] w fun e w' => e = .returned (.string SF) ∧ Below w.heap.size w w' := by
 have hd16 : d.size ≤ 16 := by unfold Rgt at h; omega
 obtain ⟨S1, h1⟩ : ∃ S, str (enc (clamp g)) = S := ⟨_, rfl⟩
 obtain ⟨S2, h2⟩ : ∃ S, str (enc (clamp s)) = S := ⟨_, rfl⟩
 obtain ⟨S3, h3⟩ : ∃ S, str (enc (clamp 1)) = S := ⟨_, rfl⟩
 obtain ⟨S12, h12⟩ : ∃ S, str (enc (clamp g) ++ enc (clamp s)) = S := ⟨_, rfl⟩
 obtain ⟨S123, h123⟩ : ∃ S, str (enc (clamp g) ++ enc (clamp s) ++ enc (clamp 1)) = S := ⟨_, rfl⟩
 obtain ⟨SB, hSB⟩ : ∃ S, str (bod g s 1 b d m) = S := ⟨_, rfl⟩
 have hL := enc3 g s 1
 simp only [List.length_append, List.length_nil] at hL
 have ha1 := fun W => add_run (enc (clamp g)) (enc (clamp s)) (by omega) S1 S2 S12 h1 h2 h12 W
 have ha2 := fun W => add_run (enc (clamp g) ++ enc (clamp s)) (enc (clamp 1)) (by simp only [List.length_append]; omega) S12 S3 S123 h12 h3 h123 W
 obtain ⟨S4, h4⟩ : ∃ S, str (enc (clamp b)) = S := ⟨_, rfl⟩
 obtain ⟨S5, h5⟩ : ∃ S, str (enc d.size ++ d.data.toList) = S := ⟨_, rfl⟩
 obtain ⟨S1234, h1234⟩ : ∃ S, str (enc (clamp g) ++ enc (clamp s) ++ enc (clamp 1) ++ enc (clamp b)) = S := ⟨_, rfl⟩
 have hL4 := enc_le (clamp b)
 have hL5 := enc_le d.size
 have hL6 := size_eq d
 have ha3 := fun W => add_run (enc (clamp g) ++ enc (clamp s) ++ enc (clamp 1)) (enc (clamp b)) (by simp only [List.length_append]; omega) S123 S4 S1234 h123 h4 h1234 W
 have ha4 := fun W => add_run (enc (clamp g) ++ enc (clamp s) ++ enc (clamp 1) ++ enc (clamp b)) (enc d.size ++ d.data.toList) (by simp only [List.length_append]; omega) S1234 S5 SB h1234 h5 (by rw [← hSB]; unfold bod; rw [if_neg (by decide)]; simp) W
 have HN4 := hide (fun W => rNum_told b W S4 h4)
 have HN5 := hide (fun W => rTxt_told d W (by omega) S5 h5)
 have hSsz : SB.size ≤ 60 := by rw [← hSB, str_size]; exact bod_le h
 have HN1 := hide (fun W => rNum_told g W S1 h1)
 have HN2 := hide (fun W => rNum_told s W S2 h2)
 have HN3 := hide (fun W => rNum_told 1 W S3 h3)
 have HS := hide (fun W => rSector_told SB W hSsz SF (by rw [← hSF, ← hSB]; rfl))
 have hx := Bx.new w s 1 b d m
 have HB0 := hide (box_below w s 1 b d m)
 clear h h1 h2 h3 h4 h5 h12 h123 h1234 hSB hL hL4 hL5 hL6 hSsz hSF hd16
 go_enter Tryz.func96, Tryz.ntmps96
 go_wp2_with fail
 generalize w.alloc _ = w0 at *
 have HX0 := hide hx
 have hS0 : w0.drew.cell? ⟨w.heap.size, 0, none⟩ = some (.int .i64 s) ∧ w0.drew.cell? ⟨w.heap.size, 1, none⟩ = some (.int .i64 1) := ⟨hx.c0, hx.c1⟩
 clear hx
 refine wp_region_held (S := (fun W => W.cell? ⟨w.heap.size, 0, none⟩ = some (.int .i64 s) ∧ W.cell? ⟨w.heap.size, 1, none⟩ = some (.int .i64 1))) (by kernel_rfl) ?_
 change wpAnyH _ _ _ _ _ _ _ _ (World.drew _)
 refine wpAnyH_take (i := 0) (oi := ⟨some 8, _, _, _, _, _⟩) (v := ?_) rfl (by kernel_rfl) (by kernel_rfl) (by kernel_rfl) (fun _ _ _ h => h) (Or.inl ⟨by rfl, ?_⟩) hS0 ?_
 rotate_left 1
 ·(intro w hSw; obtain ⟨hSw1, hSw2⟩ := hSw; go_simp; try with_reducible rfl)
 simp only [Act.put, sl]
 refine wpAnyH_take (i := 2) (oi := ⟨some 10, _, _, _, _, _⟩) (v := ?_) rfl (by kernel_rfl) (by kernel_rfl) (by kernel_rfl) (fun _ _ _ h => h) (Or.inl ⟨by rfl, ?_⟩) hS0 ?_
 rotate_left 1
 ·(intro w hSw; obtain ⟨hSw1, hSw2⟩ := hSw; go_simp; try with_reducible rfl)
 simp only [Act.put, sl]
 refine wpAnyH_take (i := 3) (oi := ⟨some 11, _, _, _, _, _⟩) (v := ?_) rfl (by kernel_rfl) (by kernel_rfl) (by kernel_rfl) (fun _ _ _ h => h) (Or.inl ⟨by rfl, ?_⟩) hS0 ?_
 rotate_left 1
 ·(intro w hSw; obtain ⟨hSw1, hSw2⟩ := hSw; go_simp; try with_reducible rfl)
 simp only [Act.put, sl]
 refine wpAnyH_take (i := 6) (oi := ⟨some 14, _, _, _, _, _⟩) (v := ?_) rfl (by kernel_rfl) (by kernel_rfl) (by kernel_rfl) (fun _ _ _ h => h) (Or.inl ⟨by rfl, ?_⟩) hS0 ?_
 rotate_left 1
 ·(intro w hSw; obtain ⟨hSw1, hSw2⟩ := hSw; go_simp; try with_reducible rfl)
 simp only [Act.put, sl]
 refine wpAnyH_take (i := 7) (oi := ⟨some 15, _, _, _, _, _⟩) (v := ?_) rfl (by kernel_rfl) (by kernel_rfl) (by kernel_rfl) (fun _ _ _ h => h) (Or.inl ⟨by rfl, ?_⟩) hS0 ?_
 rotate_left 1
 ·(intro w hSw; obtain ⟨hSw1, hSw2⟩ := hSw; go_simp; try with_reducible rfl)
 simp only [Act.put, sl]
 refine wpAnyH_ready (rs := [1]) (by kernel_rfl) (by simp) ?_
 refine AllReadyH.cons (o := ⟨some 9, _, _, _, _, _⟩) rfl (fun K hK => ?_) AllReadyH.nil
 go_simp
 refine (HN1.out _).mono ?_
 rintro e w1 ⟨rfl, hb1'⟩
 have hb1 := drew_below hb1'
 clear hb1'
 have hx1 := HX0.out.below hb1
 have hS1 : w1.cell? ⟨w.heap.size, 0, none⟩ = some (.int .i64 s) ∧ w1.cell? ⟨w.heap.size, 1, none⟩ = some (.int .i64 1) := ⟨hx1.c0, hx1.c1⟩
 have HX1 := hide hx1
 have HB1 := hide (HB0.out.trans (hb1.mono HB0.out.size))
 clear hb1 hx1
 refine hK.out _ _ hS1 (fun hHeld => ?_)
 clear hK K
 clear hHeld
 refine wpAnyH_ready (rs := [4]) (by kernel_rfl) (by simp) ?_
 refine AllReadyH.cons (o := ⟨some 12, _, _, _, _, _⟩) rfl (fun K hK => ?_) AllReadyH.nil
 go_simp
 refine (HN2.out _).mono ?_
 rintro e w2 ⟨rfl, hb2⟩
 have hx2 := HX1.out.below hb2
 have hS2 : w2.cell? ⟨w.heap.size, 0, none⟩ = some (.int .i64 s) ∧ w2.cell? ⟨w.heap.size, 1, none⟩ = some (.int .i64 1) := ⟨hx2.c0, hx2.c1⟩
 have HX2 := hide hx2
 have HB2 := hide (HB1.out.trans (hb2.mono HB1.out.size))
 clear hb2 hx2
 refine hK.out _ _ hS2 (fun hHeld => ?_)
 clear hK K
 clear hHeld
 refine wpAnyH_take (i := 5) (oi := ⟨some 13, _, _, _, _, _⟩) (v := ?_) rfl (by kernel_rfl) (by kernel_rfl) (by kernel_rfl) (fun _ _ _ h => h) (Or.inl ⟨by rfl, ?_⟩) hS2 ?_
 rotate_left 1
 ·(intro w hSw; obtain ⟨hSw1, hSw2⟩ := hSw; go_simp; try with_reducible rfl)
 simp only [Act.put, sl]
 refine wpAnyH_ready (rs := [8]) (by kernel_rfl) (by simp) ?_
 refine AllReadyH.cons (o := ⟨some 16, _, _, _, _, _⟩) rfl (fun K hK => ?_) AllReadyH.nil
 go_simp
 refine (HN3.out _).mono ?_
 rintro e w3 ⟨rfl, hb3⟩
 have hx3 := HX2.out.below hb3
 have hS3 : w3.cell? ⟨w.heap.size, 0, none⟩ = some (.int .i64 s) ∧ w3.cell? ⟨w.heap.size, 1, none⟩ = some (.int .i64 1) := ⟨hx3.c0, hx3.c1⟩
 have HX3 := hide hx3
 have HB3 := hide (HB2.out.trans (hb3.mono HB2.out.size))
 clear hb3 hx3
 refine hK.out _ _ hS3 (fun hHeld => ?_)
 clear hK K
 clear hHeld
 refine wpAnyH_take (i := 9) (oi := ⟨some 17, _, _, _, _, _⟩) (v := ?_) rfl (by kernel_rfl) (by kernel_rfl) (by kernel_rfl) (fun _ _ _ h => h) (Or.inl ⟨by rfl, ?_⟩) hS3 ?_
 rotate_left 1
 ·(intro w hSw; obtain ⟨hSw1, hSw2⟩ := hSw; go_simp; try with_reducible rfl)
 simp only [Act.put, sl]
 refine wpAnyH_take (i := 10) (oi := ⟨some 5, _, _, _, _, _⟩) (v := ?_) rfl (by kernel_rfl) (by kernel_rfl) (by kernel_rfl) (fun _ _ _ h => h) (Or.inl ⟨by rfl, ?_⟩) hS3 ?_
 rotate_left 1
 ·(intro w hSw; obtain ⟨hSw1, hSw2⟩ := hSw; go_simp; try with_reducible rfl)
 simp only [Act.put, sl]
 refine wpAnyH_done (by kernel_rfl) ?_ _
 have hc1 := HX3.out.c1
 have hS3b : w3.drew.cell? ⟨w.heap.size, 2, none⟩ = some (.int .i64 b) ∧ w3.drew.cell? ⟨w.heap.size, 3, none⟩ = some (.string d) := ⟨HX3.out.c2, HX3.out.c3⟩
 clear hS0 hS1 hS2 hS3 ha1 ha2
 go_wp2_with fail
 clear hc1
 refine wp_region_held (S := (fun W => W.cell? ⟨w.heap.size, 2, none⟩ = some (.int .i64 b) ∧ W.cell? ⟨w.heap.size, 3, none⟩ = some (.string d))) (by kernel_rfl) ?_
 change wpAnyH _ _ _ _ _ _ _ _ (World.drew _)
 refine wpAnyH_take (i := 0) (oi := ⟨some 21, _, _, _, _, _⟩) (v := ?_) rfl (by kernel_rfl) (by kernel_rfl) (by kernel_rfl) (fun _ _ _ h => h) (Or.inl ⟨by rfl, ?_⟩) hS3b ?_
 rotate_left 1
 ·(intro w hSw; obtain ⟨hSw1, hSw2⟩ := hSw; go_simp; try with_reducible rfl)
 simp only [Act.put, sl]
 refine wpAnyH_take (i := 1) (oi := ⟨some 22, _, _, _, _, _⟩) (v := ?_) rfl (by kernel_rfl) (by kernel_rfl) (by kernel_rfl) (fun _ _ _ h => h) (Or.inl ⟨by rfl, ?_⟩) hS3b ?_
 rotate_left 1
 ·(intro w hSw; obtain ⟨hSw1, hSw2⟩ := hSw; go_simp; try with_reducible rfl)
 simp only [Act.put, sl]
 refine wpAnyH_take (i := 2) (oi := ⟨some 23, _, _, _, _, _⟩) (v := ?_) rfl (by kernel_rfl) (by kernel_rfl) (by kernel_rfl) (fun _ _ _ h => h) (Or.inl ⟨by rfl, ?_⟩) hS3b ?_
 rotate_left 1
 ·(intro w hSw; obtain ⟨hSw1, hSw2⟩ := hSw; go_simp; try with_reducible rfl)
 simp only [Act.put, sl]
 refine wpAnyH_take (i := 5) (oi := ⟨some 26, _, _, _, _, _⟩) (v := ?_) rfl (by kernel_rfl) (by kernel_rfl) (by kernel_rfl) (fun _ _ _ h => h) (Or.inl ⟨by rfl, ?_⟩) hS3b ?_
 rotate_left 1
 ·(intro w hSw; obtain ⟨hSw1, hSw2⟩ := hSw; go_simp; try with_reducible rfl)
 simp only [Act.put, sl]
 refine wpAnyH_take (i := 6) (oi := ⟨some 27, _, _, _, _, _⟩) (v := ?_) rfl (by kernel_rfl) (by kernel_rfl) (by kernel_rfl) (fun _ _ _ h => h) (Or.inl ⟨by rfl, ?_⟩) hS3b ?_
 rotate_left 1
 ·(intro w hSw; obtain ⟨hSw1, hSw2⟩ := hSw; go_simp; try with_reducible rfl)
 simp only [Act.put, sl]
 refine wpAnyH_ready (rs := [3]) (by kernel_rfl) (by simp) ?_
 refine AllReadyH.cons (o := ⟨some 24, _, _, _, _, _⟩) rfl (fun K hK => ?_) AllReadyH.nil
 go_simp
 refine (HN4.out _).mono ?_
 rintro e w4 ⟨rfl, hb4'⟩
 have hb4 := drew_below hb4'
 clear hb4'
 have hx4 := HX3.out.below hb4
 have hS4 : w4.cell? ⟨w.heap.size, 2, none⟩ = some (.int .i64 b) ∧ w4.cell? ⟨w.heap.size, 3, none⟩ = some (.string d) := ⟨hx4.c2, hx4.c3⟩
 have HX4 := hide hx4
 have HB4 := hide (HB3.out.trans (hb4.mono HB3.out.size))
 clear hb4 hx4
 refine hK.out _ _ hS4 (fun hHeld => ?_)
 clear hK K
 clear hHeld
 refine wpAnyH_take (i := 4) (oi := ⟨some 25, _, _, _, _, _⟩) (v := ?_) rfl (by kernel_rfl) (by kernel_rfl) (by kernel_rfl) (fun _ _ _ h => h) (Or.inl ⟨by rfl, ?_⟩) hS4 ?_
 rotate_left 1
 ·(intro w hSw; obtain ⟨hSw1, hSw2⟩ := hSw; go_simp; try with_reducible rfl)
 simp only [Act.put, sl]
 refine wpAnyH_ready (rs := [7]) (by kernel_rfl) (by simp) ?_
 refine AllReadyH.cons (o := ⟨some 28, _, _, _, _, _⟩) rfl (fun K hK => ?_) AllReadyH.nil
 go_simp
 refine (HN5.out _).mono ?_
 rintro e w5 ⟨rfl, hb5⟩
 have hx5 := HX4.out.below hb5
 have hS5 : w5.cell? ⟨w.heap.size, 2, none⟩ = some (.int .i64 b) ∧ w5.cell? ⟨w.heap.size, 3, none⟩ = some (.string d) := ⟨hx5.c2, hx5.c3⟩
 have HX5 := hide hx5
 have HB5 := hide (HB4.out.trans (hb5.mono HB4.out.size))
 clear hb5 hx5
 refine hK.out _ _ hS5 (fun hHeld => ?_)
 clear hK K
 clear hHeld
 refine wpAnyH_take (i := 8) (oi := ⟨some 29, _, _, _, _, _⟩) (v := ?_) rfl (by kernel_rfl) (by kernel_rfl) (by kernel_rfl) (fun _ _ _ h => h) (Or.inl ⟨by rfl, ?_⟩) hS5 ?_
 rotate_left 1
 ·(intro w hSw; obtain ⟨hSw1, hSw2⟩ := hSw; go_simp; try with_reducible rfl)
 simp only [Act.put, sl]
 refine wpAnyH_take (i := 9) (oi := ⟨some 5, _, _, _, _, _⟩) (v := ?_) rfl (by kernel_rfl) (by kernel_rfl) (by kernel_rfl) (fun _ _ _ h => h) (Or.inl ⟨by rfl, ?_⟩) hS5 ?_
 rotate_left 1
 ·(intro w hSw; obtain ⟨hSw1, hSw2⟩ := hSw; go_simp; try with_reducible rfl)
 simp only [Act.put, sl]
 refine wpAnyH_done (by kernel_rfl) ?_ _
 clear hS3b hS4 hS5 ha3 ha4
 go_wp2_with fail
 refine (HS.out _).mono ?_
 rintro r w6 ⟨rfl, hb6⟩
 have HB6 := hide (HB5.out.trans (hb6.mono HB5.out.size))
 clear hb6
 go_wp2
 go_ret
 exact ⟨rfl, HB6.out⟩
theorem rBytes_any (g s k b : Int) (d : ByteArray) (m : Int) (w : World) (h : Rgt s k b d.size m) (SF : ByteArray) (hSF : str (sec g s k b d m) = SF) :
 Calls Tryz.prog 96 #[.int .i64 g, rec5 s k b d m] w fun e w' => e = .returned (.string SF) ∧ Below w.heap.size w w' := by
 have hk : k = 1 ∨ k = 2 := by unfold Rgt at h; omega
 rcases hk with rfl | rfl
 ·exact rBytes_write g s b d m w h SF hSF
 ·exact rBytes_mark g s b d m w h SF hSF
set_option maxRecDepth 100000 in
set_option maxHeartbeats 2000000 in
theorem rEncode_good (g s k b : Int) (d : ByteArray) (m : Int) (w : World) (h : Rgt s k b d.size m) (hg : Num g) (SF : ByteArray) (hSF : str (sec g s k b d m) = SF) :
 Calls Tryz.prog 75 #[.int .i64 g, rec5 s k b d m] w fun e w' => e = .returned (.tuple #[.string SF, .int .i64 0]) ∧ Below w.heap.size w w' := by
 have hx := Bx.new w s k b d m
 have HB0 := hide (box_below w s k b d m)
 have H := hide h
 have HSF := hide hSF
 have hg0 : ¬ g < 0 := by have := hg.1; omega
 have hg1 : ¬ 1152921504606846975 < g := by have := hg.2; omega
 clear h hSF hg
 go_enter Tryz.func75, Tryz.ntmps75
 go_wp2_with fail
 generalize w.alloc _ = w0 at *
 refine (rRight_any s k b d m w0).mono ?_
 rintro r w1 ⟨⟨B, rfl, hB⟩, hb1⟩
 obtain rfl : B = true := hB.2 H.out
 have hx1 := hx.below hb1
 have hc0 := hx1.c0
 have hc1 := hx1.c1
 have hc2 := hx1.c2
 have hc3 := hx1.c3
 have hc4 := hx1.c4
 have HB1 := hide (HB0.out.trans (hb1.mono HB0.out.size))
 clear hx hb1 HB0 hB hx1
 go_wp2_with fail
 refine (rBytes_any g s k b d m w1 H.out SF HSF.out).mono ?_
 rintro r w2 ⟨rfl, hb2⟩
 have HB2 := hide (HB1.out.trans (hb2.mono HB1.out.size))
 clear hb2 hc0 hc1 hc2 hc3 hc4
 go_wp2
 go_ret2
 exact ⟨rfl, HB2.out⟩
end Go.Proofs.YtapiogcoipeinaaGreatDoor.Rc
