/-
  The reference's contracts (isobarref05): Right, Bytes, Encode; each tells what is returned; nothing that was there is changed. Conditions: in each.
-/
import Derived.Deep.RegionHeld3
import Derived.Deep.QuietTactic
import Derived.BigQuiet
import Derived.Test.YteneacmdfehfnaaDoorRcEq
namespace Go.Proofs.YteneacmdfehfnaaDoor.Rc
open Go.RowKit
open Pk Sm Fa

set_option maxRecDepth 100000 in
set_option maxHeartbeats 1000000 in
theorem rRight_low (s k b : Int) (d : ByteArray) (m : Int) (w : World) (h : s < 1) :
    Calls Tryd.prog 29 #[rec5 s k b d m] w fun r w' => r = .returned (.bool false) ∧ Below w.heap.size w w' := by
  have HB := hide (box_below w s k b d m)
  go_enter Tryd.func29, Tryd.ntmps29
  go_wp2
  go_ret
  exact ⟨rfl, HB.out⟩
set_option maxRecDepth 100000 in
set_option maxHeartbeats 1000000 in
theorem rRight_high (s k b : Int) (d : ByteArray) (m : Int) (w : World) (h0 : ¬ s < 1) (h : 1152921504606846975 < s) :
    Calls Tryd.prog 29 #[rec5 s k b d m] w fun r w' => r = .returned (.bool false) ∧ Below w.heap.size w w' := by
  have HB := hide (box_below w s k b d m)
  go_enter Tryd.func29, Tryd.ntmps29
  go_wp2
  go_ret
  exact ⟨rfl, HB.out⟩
/-! ways -/
set_option maxRecDepth 100000 in
set_option maxHeartbeats 1000000 in
theorem rRight_w1 (s k b : Int) (d : ByteArray) (m : Int) (w : World) (h0 : ¬ s < 1) (hs : ¬ 1152921504606846975 < s) (h1 : (k == 1) = true) (hb : ¬ 0 ≤ b) :
    Calls Tryd.prog 29 #[rec5 s k b d m] w fun r w' => r = .returned (.bool false) ∧ Below w.heap.size w w' := by
  have HB := hide (box_below w s k b d m)
  go_enter Tryd.func29, Tryd.ntmps29
  go_wp2
  go_ret
  exact ⟨rfl, HB.out⟩

set_option maxRecDepth 100000 in
set_option maxHeartbeats 1000000 in
theorem rRight_w2 (s k b : Int) (d : ByteArray) (m : Int) (w : World) (h0 : ¬ s < 1) (hs : ¬ 1152921504606846975 < s) (h1 : (k == 1) = true) (hb : 0 ≤ b) (hb7 : ¬ b ≤ 7) :
    Calls Tryd.prog 29 #[rec5 s k b d m] w fun r w' => r = .returned (.bool false) ∧ Below w.heap.size w w' := by
  have HB := hide (box_below w s k b d m)
  go_enter Tryd.func29, Tryd.ntmps29
  go_wp2
  go_ret
  exact ⟨rfl, HB.out⟩

set_option maxRecDepth 100000 in
set_option maxHeartbeats 1000000 in
theorem rRight_w3 (s k b : Int) (d : ByteArray) (m : Int) (w : World) (h0 : ¬ s < 1) (hs : ¬ 1152921504606846975 < s) (h1 : (k == 1) = true) (hb : 0 ≤ b) (hb7 : b ≤ 7) (hd : ¬ d.size ≤ 16) :
    Calls Tryd.prog 29 #[rec5 s k b d m] w fun r w' => r = .returned (.bool false) ∧ Below w.heap.size w w' := by
  have HB := hide (box_below w s k b d m)
  go_enter Tryd.func29, Tryd.ntmps29
  go_wp2
  go_ret
  exact ⟨rfl, HB.out⟩

set_option maxRecDepth 100000 in
set_option maxHeartbeats 1000000 in
theorem rRight_w4 (s k b : Int) (d : ByteArray) (m : Int) (w : World) (h0 : ¬ s < 1) (hs : ¬ 1152921504606846975 < s) (h1 : (k == 1) = true) (hb : 0 ≤ b) (hb7 : b ≤ 7) (hd : d.size ≤ 16) (hm : (m == 0) = false) :
    Calls Tryd.prog 29 #[rec5 s k b d m] w fun r w' => r = .returned (.bool false) ∧ Below w.heap.size w w' := by
  have HB := hide (box_below w s k b d m)
  go_enter Tryd.func29, Tryd.ntmps29
  go_wp2
  go_ret
  exact ⟨rfl, HB.out⟩

set_option maxRecDepth 100000 in
set_option maxHeartbeats 1000000 in
theorem rRight_w5 (s k b : Int) (d : ByteArray) (m : Int) (w : World) (h0 : ¬ s < 1) (hs : ¬ 1152921504606846975 < s) (h1 : (k == 1) = true) (hb : 0 ≤ b) (hb7 : b ≤ 7) (hd : d.size ≤ 16) (hm : (m == 0) = true) :
    Calls Tryd.prog 29 #[rec5 s k b d m] w fun r w' => r = .returned (.bool true) ∧ Below w.heap.size w w' := by
  have HB := hide (box_below w s k b d m)
  go_enter Tryd.func29, Tryd.ntmps29
  go_wp2
  go_ret
  exact ⟨rfl, HB.out⟩

set_option maxRecDepth 100000 in
set_option maxHeartbeats 1000000 in
theorem rRight_o (s k b : Int) (d : ByteArray) (m : Int) (w : World) (h0 : ¬ s < 1) (hs : ¬ 1152921504606846975 < s) (h1 : (k == 1) = false) (h2 : (k == 2) = false) :
    Calls Tryd.prog 29 #[rec5 s k b d m] w fun r w' => r = .returned (.bool false) ∧ Below w.heap.size w w' := by
  have HB := hide (box_below w s k b d m)
  go_enter Tryd.func29, Tryd.ntmps29
  go_wp2
  go_ret
  exact ⟨rfl, HB.out⟩

set_option maxRecDepth 100000 in
set_option maxHeartbeats 1000000 in
theorem rRight_m1 (s k b : Int) (d : ByteArray) (m : Int) (w : World) (h0 : ¬ s < 1) (hs : ¬ 1152921504606846975 < s) (h1 : (k == 1) = false) (h2 : (k == 2) = true) (hb : (b == 0) = false) :
    Calls Tryd.prog 29 #[rec5 s k b d m] w fun r w' => r = .returned (.bool false) ∧ Below w.heap.size w w' := by
  have HB := hide (box_below w s k b d m)
  go_enter Tryd.func29, Tryd.ntmps29
  go_wp2
  go_ret
  exact ⟨rfl, HB.out⟩

set_option maxRecDepth 100000 in
set_option maxHeartbeats 1000000 in
theorem rRight_m2 (s k b : Int) (d : ByteArray) (m : Int) (w : World) (h0 : ¬ s < 1) (hs : ¬ 1152921504606846975 < s) (h1 : (k == 1) = false) (h2 : (k == 2) = true) (hb : (b == 0) = true) (hd : d.toList.isEmpty = false) :
    Calls Tryd.prog 29 #[rec5 s k b d m] w fun r w' => r = .returned (.bool false) ∧ Below w.heap.size w w' := by
  have HB := hide (box_below w s k b d m)
  go_enter Tryd.func29, Tryd.ntmps29
  go_wp2
  go_ret
  exact ⟨rfl, HB.out⟩

set_option maxRecDepth 100000 in
set_option maxHeartbeats 1000000 in
theorem rRight_m3 (s k b : Int) (d : ByteArray) (m : Int) (w : World) (h0 : ¬ s < 1) (hs : ¬ 1152921504606846975 < s) (h1 : (k == 1) = false) (h2 : (k == 2) = true) (hb : (b == 0) = true) (hd : d.toList.isEmpty = true) (hm : ¬ 1 ≤ m) :
    Calls Tryd.prog 29 #[rec5 s k b d m] w fun r w' => r = .returned (.bool false) ∧ Below w.heap.size w w' := by
  have HB := hide (box_below w s k b d m)
  go_enter Tryd.func29, Tryd.ntmps29
  go_wp2
  go_ret
  exact ⟨rfl, HB.out⟩

set_option maxRecDepth 100000 in
set_option maxHeartbeats 1000000 in
theorem rRight_m4 (s k b : Int) (d : ByteArray) (m : Int) (w : World) (h0 : ¬ s < 1) (hs : ¬ 1152921504606846975 < s) (h1 : (k == 1) = false) (h2 : (k == 2) = true) (hb : (b == 0) = true) (hd : d.toList.isEmpty = true) (hm : 1 ≤ m) (hm2 : ¬ m ≤ 1152921504606846975) :
    Calls Tryd.prog 29 #[rec5 s k b d m] w fun r w' => r = .returned (.bool false) ∧ Below w.heap.size w w' := by
  have HB := hide (box_below w s k b d m)
  go_enter Tryd.func29, Tryd.ntmps29
  go_wp2
  go_ret
  exact ⟨rfl, HB.out⟩

set_option maxRecDepth 100000 in
set_option maxHeartbeats 1000000 in
theorem rRight_m5 (s k b : Int) (d : ByteArray) (m : Int) (w : World) (h0 : ¬ s < 1) (hs : ¬ 1152921504606846975 < s) (h1 : (k == 1) = false) (h2 : (k == 2) = true) (hb : (b == 0) = true) (hd : d.toList.isEmpty = true) (hm : 1 ≤ m) (hm2 : m ≤ 1152921504606846975) :
    Calls Tryd.prog 29 #[rec5 s k b d m] w fun r w' => r = .returned (.bool true) ∧ Below w.heap.size w w' := by
  have HB := hide (box_below w s k b d m)
  go_enter Tryd.func29, Tryd.ntmps29
  go_wp2
  go_ret
  exact ⟨rfl, HB.out⟩

theorem empty_eq (d : ByteArray) : d.toList.isEmpty = decide (d.size = 0) := by
  rw [ByteArray.toList_eq, ← size_eq d]
  cases d.data.toList with
  | nil => rfl
  | cons x r => simp

theorem Say.mk {p : Prop} {b : Bool} (h : b = true ↔ p) : Say p (.returned (.bool b)) := ⟨b, rfl, h⟩
/-- The reference's Right, for every record. -/
theorem rRight_any (s k b : Int) (d : ByteArray) (m : Int) (w : World) :
    Calls Tryd.prog 29 #[rec5 s k b d m] w fun r w' => Say (Rgt s k b d.size m) r ∧ Below w.heap.size w w' := by
  have no : ∀ {w' : World}, ¬ Rgt s k b d.size m → Calls Tryd.prog 29 #[rec5 s k b d m] w (fun r w' => r = .returned (.bool false) ∧ Below w.heap.size w w') → Calls Tryd.prog 29 #[rec5 s k b d m] w fun r w' => Say (Rgt s k b d.size m) r ∧ Below w.heap.size w w' := by
    intro _ hn h
    refine h.mono ?_
    rintro r w' ⟨rfl, hb⟩
    exact ⟨Say.mk (by simp only [Bool.false_eq_true, false_iff]; exact hn), hb⟩
  have yes : ∀ {w' : World}, Rgt s k b d.size m → Calls Tryd.prog 29 #[rec5 s k b d m] w (fun r w' => r = .returned (.bool true) ∧ Below w.heap.size w w') → Calls Tryd.prog 29 #[rec5 s k b d m] w fun r w' => Say (Rgt s k b d.size m) r ∧ Below w.heap.size w w' := by
    intro _ hn h
    refine h.mono ?_
    rintro r w' ⟨rfl, hb⟩
    exact ⟨Say.mk (by simp only [true_iff]; exact hn), hb⟩
  by_cases h0 : s < 1
  · exact no (w' := w) (by unfold Rgt; omega) (rRight_low s k b d m w h0)
  by_cases hs : 1152921504606846975 < s
  · exact no (w' := w) (by unfold Rgt; omega) (rRight_high s k b d m w h0 hs)
  by_cases h1 : k = 1
  · have e1 : (k == 1) = true := by simpa using h1
    by_cases hb : 0 ≤ b
    · by_cases hb7 : b ≤ 7
      · by_cases hd : d.size ≤ 16
        · by_cases hm : m = 0
          · exact yes (w' := w) (by unfold Rgt; omega) (rRight_w5 s k b d m w h0 hs e1 hb hb7 hd (by simpa using hm))
          · exact no (w' := w) (by unfold Rgt; omega) (rRight_w4 s k b d m w h0 hs e1 hb hb7 hd (by simpa using hm))
        · exact no (w' := w) (by unfold Rgt; omega) (rRight_w3 s k b d m w h0 hs e1 hb hb7 hd)
      · exact no (w' := w) (by unfold Rgt; omega) (rRight_w2 s k b d m w h0 hs e1 hb hb7)
    · exact no (w' := w) (by unfold Rgt; omega) (rRight_w1 s k b d m w h0 hs e1 hb)
  have e1 : (k == 1) = false := by simpa using h1
  by_cases h2 : k = 2
  · have e2 : (k == 2) = true := by simpa using h2
    by_cases hb : b = 0
    · by_cases hd : d.size = 0
      · have ed : d.toList.isEmpty = true := by rw [empty_eq]; exact decide_eq_true hd
        by_cases hm : 1 ≤ m
        · by_cases hm2 : m ≤ 1152921504606846975
          · exact yes (w' := w) (by unfold Rgt; omega) (rRight_m5 s k b d m w h0 hs e1 e2 (by simpa using hb) ed hm hm2)
          · exact no (w' := w) (by unfold Rgt; omega) (rRight_m4 s k b d m w h0 hs e1 e2 (by simpa using hb) ed hm hm2)
        · exact no (w' := w) (by unfold Rgt; omega) (rRight_m3 s k b d m w h0 hs e1 e2 (by simpa using hb) ed hm)
      · exact no (w' := w) (by unfold Rgt; omega) (rRight_m2 s k b d m w h0 hs e1 e2 (by simpa using hb) (by rw [empty_eq]; exact decide_eq_false hd))
    · exact no (w' := w) (by unfold Rgt; omega) (rRight_m1 s k b d m w h0 hs e1 e2 (by simpa using hb))
  · exact no (w' := w) (by unfold Rgt; omega) (rRight_o s k b d m w h0 hs e1 (by simpa using h2))

end Go.Proofs.YteneacmdfehfnaaDoor.Rc
