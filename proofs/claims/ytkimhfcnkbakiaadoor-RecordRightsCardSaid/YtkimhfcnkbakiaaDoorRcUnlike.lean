/-
  The walk of RecordUnlike: for every two generations and records it returns true; nothing that was there is changed. Condition: the table of half bytes holds what the program's own text lays.
-/
import Derived.OpenShut
import Derived.Deep.QuietTactic
import Derived.BigQuiet
import Derived.Test.YtkimhfcnkbakiaaDoorRcKinds
namespace Go.Proofs.YtkimhfcnkbakiaaDoor.Rc
open Go.RowKit
open Pk Sm Fa

/-- Encode, for any record: something is returned. -/
theorem Encode_some (g s k b : Int) (d : ByteArray) (m : Int) (w : World) (hd : d.size ≤ 9223372036854775807) (ht : Tab w) :
    Calls Tryd.prog 11 #[.int .i64 g, rec5 s k b d m] w fun e w' => ∃ V E, e = .returned (.tuple #[V, E]) ∧ Below w.heap.size w w' := by
  by_cases h : Rgt s k b d.size m ∧ Num g
  · refine (Encode_good g s k b d m w h.1 h.2 ht).mono ?_
    rintro e w' ⟨p, o, c, rfl, _, _, _, _, hb⟩
    exact ⟨_, _, rfl, hb⟩
  · refine (Encode_bad g s k b d m w h hd).mono ?_
    rintro e w' ⟨p, rfl, _, hb⟩
    exact ⟨_, _, rfl, hb⟩

theorem str_run (w : World) (A : Option Addr) (l : List UInt8) (n c : Nat) (hn : l.length = n) (hb : Byt w w.heap.size A l) (S : ByteArray) (hS : str l = S) (j : Nat) :
    (convert 26 9 (.slice A n c)).run Tryd.prog (w.drewN j) = .ok (.string S) (w.drewN j) := by
  rw [← hS]
  exact Sm.run_str (w.drewN j) w.heap.size A l n c hn hb
theorem drewN_below {w w' : World} {B : Nat} (h : Below B w w') (n : Nat) : Below B w (w'.drewN n) := ⟨h.os, h.tape, h.output, h.size, h.block⟩

set_option maxRecDepth 100000 in
set_option maxHeartbeats 2000000 in
theorem Unlike_longA (g g' s k b : Int) (d : ByteArray) (m s' k' b' : Int) (d' : ByteArray) (m' : Int) (w : World) (ht : Tab w) (hd : 2000 ≤ d.size) (hd2 : d.size ≤ 9223372036854775807) :
    Calls Tryd.prog 7 #[.int .i64 g, .int .i64 g', rec5 s k b d m, rec5 s' k' b' d' m'] w fun e w' => e = .returned (.bool true) ∧ Below w.heap.size w w' := by
  have hpos := ht.pos
  have Ht := hide ht
  obtain ⟨hx, hy, hb0⟩ := two_boxes w s k b d m s' k' b' d' m'
  have HB0 := hide hb0
  clear ht hb0
  go_enter Tryd.func7, Tryd.ntmps7
  go_wp2_with fail
  generalize (w.alloc _).alloc _ = w0 at *
  refine (awake_any w0 (Ht.out.below HB0.out hpos)).mono ?_
  rintro r w1 ⟨rfl, hb1⟩
  have hx1 := hx.below hb1
  have hy1 := hy.below hb1
  have HB1 := hide (HB0.out.trans (hb1.mono HB0.out.size))
  have xa0 := hx1.c0
  have xa1 := hx1.c1
  have xa2 := hx1.c2
  have xa3 := hx1.c3
  have xa4 := hx1.c4
  clear hx hy hb1 HB0
  go_wp2_with fail
  refine (few_any s k b d m w1 (by omega)).mono ?_
  rintro r w2 ⟨⟨B, rfl, hB⟩, hb2⟩
  obtain rfl : B = false := by cases B with | false => rfl | true => exact absurd (hB.1 rfl) (by omega)
  have hx2 := hx1.below hb2
  have hy2 := hy1.below hb2
  have HB2 := hide (HB1.out.trans (hb2.mono HB1.out.size))
  clear hx1 hy1 hb2 HB1 hB xa0 xa1 xa2 xa3 xa4
  clear hx2 hy2
  go_wp2_with fail
  refine (awake_any w2 (Ht.out.below HB2.out hpos)).mono ?_
  rintro r w4 ⟨rfl, hb4⟩
  have HB4 := hide (HB2.out.trans (hb4.mono HB2.out.size))
  clear hb4
  go_wp2
  go_ret
  exact ⟨rfl, HB4.out⟩

set_option maxRecDepth 100000 in
set_option maxHeartbeats 2000000 in
theorem Unlike_longB (g g' s k b : Int) (d : ByteArray) (m s' k' b' : Int) (d' : ByteArray) (m' : Int) (w : World) (ht : Tab w) (hd : d.size < 2000) (hd' : 2000 ≤ d'.size) (hd2 : d'.size ≤ 9223372036854775807) :
    Calls Tryd.prog 7 #[.int .i64 g, .int .i64 g', rec5 s k b d m, rec5 s' k' b' d' m'] w fun e w' => e = .returned (.bool true) ∧ Below w.heap.size w w' := by
  have hpos := ht.pos
  have Ht := hide ht
  obtain ⟨hx, hy, hb0⟩ := two_boxes w s k b d m s' k' b' d' m'
  have HB0 := hide hb0
  clear ht hb0
  go_enter Tryd.func7, Tryd.ntmps7
  go_wp2_with fail
  generalize (w.alloc _).alloc _ = w0 at *
  refine (awake_any w0 (Ht.out.below HB0.out hpos)).mono ?_
  rintro r w1 ⟨rfl, hb1⟩
  have hx1 := hx.below hb1
  have hy1 := hy.below hb1
  have HB1 := hide (HB0.out.trans (hb1.mono HB0.out.size))
  have xa0 := hx1.c0
  have xa1 := hx1.c1
  have xa2 := hx1.c2
  have xa3 := hx1.c3
  have xa4 := hx1.c4
  clear hx hy hb1 HB0
  go_wp2_with fail
  refine (few_any s k b d m w1 (by omega)).mono ?_
  rintro r w2 ⟨⟨B, rfl, hB⟩, hb2⟩
  obtain rfl : B = true := by exact hB.2 hd
  have hx2 := hx1.below hb2
  have hy2 := hy1.below hb2
  have HB2 := hide (HB1.out.trans (hb2.mono HB1.out.size))
  clear hx1 hy1 hb2 HB1 hB xa0 xa1 xa2 xa3 xa4
  have ya0 := hy2.c0
  have ya1 := hy2.c1
  have ya2 := hy2.c2
  have ya3 := hy2.c3
  have ya4 := hy2.c4
  go_wp2_with fail
  refine (few_any s' k' b' d' m' w2 (by omega)).mono ?_
  rintro r w3 ⟨⟨B, rfl, hB⟩, hb3⟩
  obtain rfl : B = false := by cases B with | false => rfl | true => exact absurd (hB.1 rfl) (by omega)
  have hx3 := hx2.below hb3
  have hy3 := hy2.below hb3
  have HB3 := hide (HB2.out.trans (hb3.mono HB2.out.size))
  clear hx2 hy2 hb3 HB2 hB ya0 ya1 ya2 ya3 ya4
  clear hx3 hy3
  go_wp2_with fail
  refine (awake_any w3 (Ht.out.below HB3.out hpos)).mono ?_
  rintro r w4 ⟨rfl, hb4⟩
  have HB4 := hide (HB3.out.trans (hb4.mono HB3.out.size))
  clear hb4
  go_wp2
  go_ret
  exact ⟨rfl, HB4.out⟩

set_option maxRecDepth 100000 in
set_option maxHeartbeats 2000000 in
theorem Unlike_ebad (g g' s k b : Int) (d : ByteArray) (m s' k' b' : Int) (d' : ByteArray) (m' : Int) (w : World) (ht : Tab w) (hd : d.size < 2000) (hd' : d'.size < 2000) (hr : ¬ (Rgt s k b d.size m ∧ Num g)) :
    Calls Tryd.prog 7 #[.int .i64 g, .int .i64 g', rec5 s k b d m, rec5 s' k' b' d' m'] w fun e w' => e = .returned (.bool true) ∧ Below w.heap.size w w' := by
  have hpos := ht.pos
  have Ht := hide ht
  obtain ⟨hx, hy, hb0⟩ := two_boxes w s k b d m s' k' b' d' m'
  have HB0 := hide hb0
  clear ht hb0
  go_enter Tryd.func7, Tryd.ntmps7
  go_wp2_with fail
  generalize (w.alloc _).alloc _ = w0 at *
  refine (awake_any w0 (Ht.out.below HB0.out hpos)).mono ?_
  rintro r w1 ⟨rfl, hb1⟩
  have hx1 := hx.below hb1
  have hy1 := hy.below hb1
  have HB1 := hide (HB0.out.trans (hb1.mono HB0.out.size))
  have xa0 := hx1.c0
  have xa1 := hx1.c1
  have xa2 := hx1.c2
  have xa3 := hx1.c3
  have xa4 := hx1.c4
  clear hx hy hb1 HB0
  go_wp2_with fail
  refine (few_any s k b d m w1 (by omega)).mono ?_
  rintro r w2 ⟨⟨B, rfl, hB⟩, hb2⟩
  obtain rfl : B = true := by exact hB.2 hd
  have hx2 := hx1.below hb2
  have hy2 := hy1.below hb2
  have HB2 := hide (HB1.out.trans (hb2.mono HB1.out.size))
  clear hx1 hy1 hb2 HB1 hB xa0 xa1 xa2 xa3 xa4
  have ya0 := hy2.c0
  have ya1 := hy2.c1
  have ya2 := hy2.c2
  have ya3 := hy2.c3
  have ya4 := hy2.c4
  go_wp2_with fail
  refine (few_any s' k' b' d' m' w2 (by omega)).mono ?_
  rintro r w3 ⟨⟨B, rfl, hB⟩, hb3⟩
  obtain rfl : B = true := by exact hB.2 hd'
  have hx3 := hx2.below hb3
  have hy3 := hy2.below hb3
  have HB3 := hide (HB2.out.trans (hb3.mono HB2.out.size))
  clear hx2 hy2 hb3 HB2 hB ya0 ya1 ya2 ya3 ya4
  have xa0 := hx3.c0
  have xa1 := hx3.c1
  have xa2 := hx3.c2
  have xa3 := hx3.c3
  have xa4 := hx3.c4
  go_wp2_with fail
  refine (Encode_bad g s k b d m w3 hr (by omega)).mono ?_
  rintro r w4 ⟨p4, rfl, _, hb4⟩
  have hx4 := hx3.below hb4
  have hy4 := hy3.below hb4
  have HB4 := hide (HB3.out.trans (hb4.mono HB3.out.size))
  clear hx3 hy3 hb4 HB3 xa0 xa1 xa2 xa3 xa4
  have ya0 := hy4.c0
  have ya1 := hy4.c1
  have ya2 := hy4.c2
  have ya3 := hy4.c3
  have ya4 := hy4.c4
  go_wp2_with fail
  refine (Encode_some g' s' k' b' d' m' w4 (by omega) (Ht.out.below HB4.out hpos)).mono ?_
  rintro r w5 ⟨V, E, rfl, hb5⟩
  have hx5 := hx4.below hb5
  have hy5 := hy4.below hb5
  have HB5 := hide (HB4.out.trans (hb5.mono HB4.out.size))
  clear hx4 hy4 hb5 HB4 ya0 ya1 ya2 ya3 ya4
  clear hx5 hy5
  go_wp2_with fail
  go_quiet (fail)
  go_wp2
  go_ret
  exact ⟨rfl, drewN_below HB5.out _⟩

set_option maxRecDepth 100000 in
set_option maxHeartbeats 2000000 in
theorem Unlike_fbad (g g' s k b : Int) (d : ByteArray) (m s' k' b' : Int) (d' : ByteArray) (m' : Int) (w : World) (ht : Tab w) (hd : d.size < 2000) (hd' : d'.size < 2000) (hr : Rgt s k b d.size m ∧ Num g) (hr' : ¬ (Rgt s' k' b' d'.size m' ∧ Num g')) :
    Calls Tryd.prog 7 #[.int .i64 g, .int .i64 g', rec5 s k b d m, rec5 s' k' b' d' m'] w fun e w' => e = .returned (.bool true) ∧ Below w.heap.size w w' := by
  have hpos := ht.pos
  have Ht := hide ht
  obtain ⟨hx, hy, hb0⟩ := two_boxes w s k b d m s' k' b' d' m'
  have HB0 := hide hb0
  clear ht hb0
  go_enter Tryd.func7, Tryd.ntmps7
  go_wp2_with fail
  generalize (w.alloc _).alloc _ = w0 at *
  refine (awake_any w0 (Ht.out.below HB0.out hpos)).mono ?_
  rintro r w1 ⟨rfl, hb1⟩
  have hx1 := hx.below hb1
  have hy1 := hy.below hb1
  have HB1 := hide (HB0.out.trans (hb1.mono HB0.out.size))
  have xa0 := hx1.c0
  have xa1 := hx1.c1
  have xa2 := hx1.c2
  have xa3 := hx1.c3
  have xa4 := hx1.c4
  clear hx hy hb1 HB0
  go_wp2_with fail
  refine (few_any s k b d m w1 (by omega)).mono ?_
  rintro r w2 ⟨⟨B, rfl, hB⟩, hb2⟩
  obtain rfl : B = true := by exact hB.2 hd
  have hx2 := hx1.below hb2
  have hy2 := hy1.below hb2
  have HB2 := hide (HB1.out.trans (hb2.mono HB1.out.size))
  clear hx1 hy1 hb2 HB1 hB xa0 xa1 xa2 xa3 xa4
  have ya0 := hy2.c0
  have ya1 := hy2.c1
  have ya2 := hy2.c2
  have ya3 := hy2.c3
  have ya4 := hy2.c4
  go_wp2_with fail
  refine (few_any s' k' b' d' m' w2 (by omega)).mono ?_
  rintro r w3 ⟨⟨B, rfl, hB⟩, hb3⟩
  obtain rfl : B = true := by exact hB.2 hd'
  have hx3 := hx2.below hb3
  have hy3 := hy2.below hb3
  have HB3 := hide (HB2.out.trans (hb3.mono HB2.out.size))
  clear hx2 hy2 hb3 HB2 hB ya0 ya1 ya2 ya3 ya4
  have xa0 := hx3.c0
  have xa1 := hx3.c1
  have xa2 := hx3.c2
  have xa3 := hx3.c3
  have xa4 := hx3.c4
  go_wp2_with fail
  refine (Encode_good g s k b d m w3 hr.1 hr.2 (Ht.out.below HB3.out hpos)).mono ?_
  rintro r w4 ⟨p4, o4, c4, rfl, _, _, _, hby4, hb4⟩
  have hx4 := hx3.below hb4
  have hy4 := hy3.below hb4
  have HB4 := hide (HB3.out.trans (hb4.mono HB3.out.size))
  clear hx3 hy3 hb4 HB3 xa0 xa1 xa2 xa3 xa4
  have ya0 := hy4.c0
  have ya1 := hy4.c1
  have ya2 := hy4.c2
  have ya3 := hy4.c3
  have ya4 := hy4.c4
  go_wp2_with fail
  refine (Encode_bad g' s' k' b' d' m' w4 hr' (by omega)).mono ?_
  rintro r w5 ⟨p5, rfl, _, hb5⟩
  have hx5 := hx4.below hb5
  have hy5 := hy4.below hb5
  have HB5 := hide (HB4.out.trans (hb5.mono HB4.out.size))
  clear hx4 hy4 hb5 HB4 ya0 ya1 ya2 ya3 ya4 hby4
  clear hx5 hy5
  go_wp2_with fail
  go_quiet (fail)
  go_wp2
  go_ret
  exact ⟨rfl, drewN_below HB5.out _⟩

set_option maxRecDepth 100000 in
set_option maxHeartbeats 2000000 in
theorem Unlike_gen (g g' s k b : Int) (d : ByteArray) (m s' k' b' : Int) (d' : ByteArray) (m' : Int) (w : World) (ht : Tab w) (hd : d.size < 2000) (hd' : d'.size < 2000) (hr : Rgt s k b d.size m ∧ Num g) (hr' : Rgt s' k' b' d'.size m' ∧ Num g') (SA SB : ByteArray) (hSA : str (sec g s k b d m) = SA) (hSB : str (sec g' s' k' b' d' m') = SB) (hs : (SA.toList == SB.toList) = false) (hgg : (g == g') = false) :
    Calls Tryd.prog 7 #[.int .i64 g, .int .i64 g', rec5 s k b d m, rec5 s' k' b' d' m'] w fun e w' => e = .returned (.bool true) ∧ Below w.heap.size w w' := by
  have hpos := ht.pos
  have Ht := hide ht
  obtain ⟨hx, hy, hb0⟩ := two_boxes w s k b d m s' k' b' d' m'
  have HB0 := hide hb0
  clear ht hb0
  go_enter Tryd.func7, Tryd.ntmps7
  go_wp2_with fail
  generalize (w.alloc _).alloc _ = w0 at *
  refine (awake_any w0 (Ht.out.below HB0.out hpos)).mono ?_
  rintro r w1 ⟨rfl, hb1⟩
  have hx1 := hx.below hb1
  have hy1 := hy.below hb1
  have HB1 := hide (HB0.out.trans (hb1.mono HB0.out.size))
  have xa0 := hx1.c0
  have xa1 := hx1.c1
  have xa2 := hx1.c2
  have xa3 := hx1.c3
  have xa4 := hx1.c4
  clear hx hy hb1 HB0
  go_wp2_with fail
  refine (few_any s k b d m w1 (by omega)).mono ?_
  rintro r w2 ⟨⟨B, rfl, hB⟩, hb2⟩
  obtain rfl : B = true := by exact hB.2 hd
  have hx2 := hx1.below hb2
  have hy2 := hy1.below hb2
  have HB2 := hide (HB1.out.trans (hb2.mono HB1.out.size))
  clear hx1 hy1 hb2 HB1 hB xa0 xa1 xa2 xa3 xa4
  have ya0 := hy2.c0
  have ya1 := hy2.c1
  have ya2 := hy2.c2
  have ya3 := hy2.c3
  have ya4 := hy2.c4
  go_wp2_with fail
  refine (few_any s' k' b' d' m' w2 (by omega)).mono ?_
  rintro r w3 ⟨⟨B, rfl, hB⟩, hb3⟩
  obtain rfl : B = true := by exact hB.2 hd'
  have hx3 := hx2.below hb3
  have hy3 := hy2.below hb3
  have HB3 := hide (HB2.out.trans (hb3.mono HB2.out.size))
  clear hx2 hy2 hb3 HB2 hB ya0 ya1 ya2 ya3 ya4
  have xa0 := hx3.c0
  have xa1 := hx3.c1
  have xa2 := hx3.c2
  have xa3 := hx3.c3
  have xa4 := hx3.c4
  go_wp2_with fail
  refine (Encode_good g s k b d m w3 hr.1 hr.2 (Ht.out.below HB3.out hpos)).mono ?_
  rintro r w4 ⟨p4, o4, c4, rfl, _, _, _, hby4, hb4⟩
  have hx4 := hx3.below hb4
  have hy4 := hy3.below hb4
  have HB4 := hide (HB3.out.trans (hb4.mono HB3.out.size))
  clear hx3 hy3 hb4 HB3 xa0 xa1 xa2 xa3 xa4
  have ya0 := hy4.c0
  have ya1 := hy4.c1
  have ya2 := hy4.c2
  have ya3 := hy4.c3
  have ya4 := hy4.c4
  go_wp2_with fail
  refine (Encode_good g' s' k' b' d' m' w4 hr'.1 hr'.2 (Ht.out.below HB4.out hpos)).mono ?_
  rintro r w5 ⟨p5, o5, c5, rfl, _, _, _, hby5, hb5⟩
  have hx5 := hx4.below hb5
  have hy5 := hy4.below hb5
  have HB5 := hide (HB4.out.trans (hb5.mono HB4.out.size))
  have hbyA := (hby4.below hb5).more hb5.size
  have HA := fun j => str_run w5 _ _ 64 c4 (sec_length hr.1) hbyA SA hSA j
  have HBB := fun j => str_run w5 _ _ 64 c5 (sec_length hr'.1) hby5 SB hSB j
  clear hbyA hby5 hSA hSB
  clear hx4 hy4 hb5 HB4 ya0 ya1 ya2 ya3 ya4 hby4
  clear hx5 hy5
  go_wp2_with fail
  go_quiet (fail)
  go_wp2
  go_ret
  exact ⟨rfl, drewN_below HB5.out _⟩

set_option maxRecDepth 100000 in
set_option maxHeartbeats 2000000 in
theorem Unlike_rec (g g' s k b : Int) (d : ByteArray) (m s' k' b' : Int) (d' : ByteArray) (m' : Int) (w : World) (ht : Tab w) (hd : d.size < 2000) (hd' : d'.size < 2000) (hr : Rgt s k b d.size m ∧ Num g) (hr' : Rgt s' k' b' d'.size m' ∧ Num g') (SA SB : ByteArray) (hSA : str (sec g s k b d m) = SA) (hSB : str (sec g' s' k' b' d' m') = SB) (hs : (SA.toList == SB.toList) = false) (hg : g = g') (hv : same5 s k b d m s' k' b' d' m' = false) :
    Calls Tryd.prog 7 #[.int .i64 g, .int .i64 g', rec5 s k b d m, rec5 s' k' b' d' m'] w fun e w' => e = .returned (.bool true) ∧ Below w.heap.size w w' := by
  have Hv := hide hv
  have Hg := hide hg
  clear hv hg
  have hpos := ht.pos
  have Ht := hide ht
  obtain ⟨hx, hy, hb0⟩ := two_boxes w s k b d m s' k' b' d' m'
  have HB0 := hide hb0
  clear ht hb0
  go_enter Tryd.func7, Tryd.ntmps7
  go_wp2_with fail
  generalize (w.alloc _).alloc _ = w0 at *
  refine (awake_any w0 (Ht.out.below HB0.out hpos)).mono ?_
  rintro r w1 ⟨rfl, hb1⟩
  have hx1 := hx.below hb1
  have hy1 := hy.below hb1
  have HB1 := hide (HB0.out.trans (hb1.mono HB0.out.size))
  have xa0 := hx1.c0
  have xa1 := hx1.c1
  have xa2 := hx1.c2
  have xa3 := hx1.c3
  have xa4 := hx1.c4
  clear hx hy hb1 HB0
  go_wp2_with fail
  refine (few_any s k b d m w1 (by omega)).mono ?_
  rintro r w2 ⟨⟨B, rfl, hB⟩, hb2⟩
  obtain rfl : B = true := by exact hB.2 hd
  have hx2 := hx1.below hb2
  have hy2 := hy1.below hb2
  have HB2 := hide (HB1.out.trans (hb2.mono HB1.out.size))
  clear hx1 hy1 hb2 HB1 hB xa0 xa1 xa2 xa3 xa4
  have ya0 := hy2.c0
  have ya1 := hy2.c1
  have ya2 := hy2.c2
  have ya3 := hy2.c3
  have ya4 := hy2.c4
  go_wp2_with fail
  refine (few_any s' k' b' d' m' w2 (by omega)).mono ?_
  rintro r w3 ⟨⟨B, rfl, hB⟩, hb3⟩
  obtain rfl : B = true := by exact hB.2 hd'
  have hx3 := hx2.below hb3
  have hy3 := hy2.below hb3
  have HB3 := hide (HB2.out.trans (hb3.mono HB2.out.size))
  clear hx2 hy2 hb3 HB2 hB ya0 ya1 ya2 ya3 ya4
  have xa0 := hx3.c0
  have xa1 := hx3.c1
  have xa2 := hx3.c2
  have xa3 := hx3.c3
  have xa4 := hx3.c4
  go_wp2_with fail
  refine (Encode_good g s k b d m w3 hr.1 hr.2 (Ht.out.below HB3.out hpos)).mono ?_
  rintro r w4 ⟨p4, o4, c4, rfl, _, _, _, hby4, hb4⟩
  have hx4 := hx3.below hb4
  have hy4 := hy3.below hb4
  have HB4 := hide (HB3.out.trans (hb4.mono HB3.out.size))
  clear hx3 hy3 hb4 HB3 xa0 xa1 xa2 xa3 xa4
  have ya0 := hy4.c0
  have ya1 := hy4.c1
  have ya2 := hy4.c2
  have ya3 := hy4.c3
  have ya4 := hy4.c4
  go_wp2_with fail
  refine (Encode_good g' s' k' b' d' m' w4 hr'.1 hr'.2 (Ht.out.below HB4.out hpos)).mono ?_
  rintro r w5 ⟨p5, o5, c5, rfl, _, _, _, hby5, hb5⟩
  have hx5 := hx4.below hb5
  have hy5 := hy4.below hb5
  have HB5 := hide (HB4.out.trans (hb5.mono HB4.out.size))
  have hbyA := (hby4.below hb5).more hb5.size
  have HA := fun j => str_run w5 _ _ 64 c4 (sec_length hr.1) hbyA SA hSA j
  have HBB := fun j => str_run w5 _ _ 64 c5 (sec_length hr'.1) hby5 SB hSB j
  clear hbyA hby5 hSA hSB
  clear hx4 hy4 hb5 HB4 ya0 ya1 ya2 ya3 ya4 hby4
  have xa0 := hx5.c0
  have xa1 := hx5.c1
  have xa2 := hx5.c2
  have xa3 := hx5.c3
  have xa4 := hx5.c4
  have ya0 := hy5.c0
  have ya1 := hy5.c1
  have ya2 := hy5.c2
  have ya3 := hy5.c3
  have ya4 := hy5.c4
  have hgg : (g == g') = true := by simpa using Hg.out
  have heq := fun W => rec_eql s k b d m s' k' b' d' m' false Hv.out W
  have heqg := fun o x y W => rec_eqg o x y s k b d m s' k' b' d' m' W
  clear hx5 hy5
  go_wp2_with fail
  go_quiet (fail)
  go_wp2
  go_ret
  exact ⟨rfl, drewN_below HB5.out _⟩

set_option maxRecDepth 100000 in
set_option maxHeartbeats 2000000 in
theorem Unlike_same (g g' s k b : Int) (d : ByteArray) (m s' k' b' : Int) (d' : ByteArray) (m' : Int) (w : World) (ht : Tab w) (hd : d.size < 2000) (hd' : d'.size < 2000) (hr : Rgt s k b d.size m ∧ Num g) (hr' : Rgt s' k' b' d'.size m' ∧ Num g') (SA SB : ByteArray) (hSA : str (sec g s k b d m) = SA) (hSB : str (sec g' s' k' b' d' m') = SB) (hs : (SA.toList == SB.toList) = true) (hg : g = g') (hv : same5 s k b d m s' k' b' d' m' = true) :
    Calls Tryd.prog 7 #[.int .i64 g, .int .i64 g', rec5 s k b d m, rec5 s' k' b' d' m'] w fun e w' => e = .returned (.bool true) ∧ Below w.heap.size w w' := by
  have Hv := hide hv
  have Hg := hide hg
  clear hv hg
  have hpos := ht.pos
  have Ht := hide ht
  obtain ⟨hx, hy, hb0⟩ := two_boxes w s k b d m s' k' b' d' m'
  have HB0 := hide hb0
  clear ht hb0
  go_enter Tryd.func7, Tryd.ntmps7
  go_wp2_with fail
  generalize (w.alloc _).alloc _ = w0 at *
  refine (awake_any w0 (Ht.out.below HB0.out hpos)).mono ?_
  rintro r w1 ⟨rfl, hb1⟩
  have hx1 := hx.below hb1
  have hy1 := hy.below hb1
  have HB1 := hide (HB0.out.trans (hb1.mono HB0.out.size))
  have xa0 := hx1.c0
  have xa1 := hx1.c1
  have xa2 := hx1.c2
  have xa3 := hx1.c3
  have xa4 := hx1.c4
  clear hx hy hb1 HB0
  go_wp2_with fail
  refine (few_any s k b d m w1 (by omega)).mono ?_
  rintro r w2 ⟨⟨B, rfl, hB⟩, hb2⟩
  obtain rfl : B = true := by exact hB.2 hd
  have hx2 := hx1.below hb2
  have hy2 := hy1.below hb2
  have HB2 := hide (HB1.out.trans (hb2.mono HB1.out.size))
  clear hx1 hy1 hb2 HB1 hB xa0 xa1 xa2 xa3 xa4
  have ya0 := hy2.c0
  have ya1 := hy2.c1
  have ya2 := hy2.c2
  have ya3 := hy2.c3
  have ya4 := hy2.c4
  go_wp2_with fail
  refine (few_any s' k' b' d' m' w2 (by omega)).mono ?_
  rintro r w3 ⟨⟨B, rfl, hB⟩, hb3⟩
  obtain rfl : B = true := by exact hB.2 hd'
  have hx3 := hx2.below hb3
  have hy3 := hy2.below hb3
  have HB3 := hide (HB2.out.trans (hb3.mono HB2.out.size))
  clear hx2 hy2 hb3 HB2 hB ya0 ya1 ya2 ya3 ya4
  have xa0 := hx3.c0
  have xa1 := hx3.c1
  have xa2 := hx3.c2
  have xa3 := hx3.c3
  have xa4 := hx3.c4
  go_wp2_with fail
  refine (Encode_good g s k b d m w3 hr.1 hr.2 (Ht.out.below HB3.out hpos)).mono ?_
  rintro r w4 ⟨p4, o4, c4, rfl, _, _, _, hby4, hb4⟩
  have hx4 := hx3.below hb4
  have hy4 := hy3.below hb4
  have HB4 := hide (HB3.out.trans (hb4.mono HB3.out.size))
  clear hx3 hy3 hb4 HB3 xa0 xa1 xa2 xa3 xa4
  have ya0 := hy4.c0
  have ya1 := hy4.c1
  have ya2 := hy4.c2
  have ya3 := hy4.c3
  have ya4 := hy4.c4
  go_wp2_with fail
  refine (Encode_good g' s' k' b' d' m' w4 hr'.1 hr'.2 (Ht.out.below HB4.out hpos)).mono ?_
  rintro r w5 ⟨p5, o5, c5, rfl, _, _, _, hby5, hb5⟩
  have hx5 := hx4.below hb5
  have hy5 := hy4.below hb5
  have HB5 := hide (HB4.out.trans (hb5.mono HB4.out.size))
  have hbyA := (hby4.below hb5).more hb5.size
  have HA := fun j => str_run w5 _ _ 64 c4 (sec_length hr.1) hbyA SA hSA j
  have HBB := fun j => str_run w5 _ _ 64 c5 (sec_length hr'.1) hby5 SB hSB j
  clear hbyA hby5 hSA hSB
  clear hx4 hy4 hb5 HB4 ya0 ya1 ya2 ya3 ya4 hby4
  have xa0 := hx5.c0
  have xa1 := hx5.c1
  have xa2 := hx5.c2
  have xa3 := hx5.c3
  have xa4 := hx5.c4
  have ya0 := hy5.c0
  have ya1 := hy5.c1
  have ya2 := hy5.c2
  have ya3 := hy5.c3
  have ya4 := hy5.c4
  have hgg : (g == g') = true := by simpa using Hg.out
  have heq := fun W => rec_eql s k b d m s' k' b' d' m' true Hv.out W
  have heqg := fun o x y W => rec_eqg o x y s k b d m s' k' b' d' m' W
  clear hx5 hy5
  go_wp2_with fail
  go_quiet (fail)
  go_wp2
  go_ret
  exact ⟨rfl, drewN_below HB5.out _⟩

theorem Unlike_walk (g g' s k b : Int) (d : ByteArray) (m s' k' b' : Int) (d' : ByteArray) (m' : Int) (w : World) (ht : Tab w) (_hg : Int64 g) (_hg' : Int64 g') (hd : d.size ≤ maxLen) (hd' : d'.size ≤ maxLen) :
    Calls Tryd.prog 7 #[.int .i64 g, .int .i64 g', rec5 s k b d m, rec5 s' k' b' d' m'] w fun e w' => e = .returned (.bool true) ∧ Below w.heap.size w w' := by
  unfold maxLen at hd hd'
  rcases Nat.lt_or_ge d.size 2000 with h1 | h1
  · rcases Nat.lt_or_ge d'.size 2000 with h2 | h2
    · by_cases hr : Rgt s k b d.size m ∧ Num g
      · by_cases hr' : Rgt s' k' b' d'.size m' ∧ Num g'
        · have hinj := sec_inj hr.1 hr.2 hr'.1 hr'.2
          by_cases hg : g = g'
          · by_cases hv : s = s' ∧ k = k' ∧ b = b' ∧ d = d' ∧ m = m'
            · refine Unlike_same g g' s k b d m s' k' b' d' m' w ht h1 h2 hr hr' _ _ rfl rfl ?_ hg (decide_eq_true hv)
              obtain ⟨rfl, rfl, rfl, rfl, rfl⟩ := hv
              subst hg
              simp
            · refine Unlike_rec g g' s k b d m s' k' b' d' m' w ht h1 h2 hr hr' _ _ rfl rfl ?_ hg (decide_eq_false hv)
              rw [str_same]
              exact decide_eq_false fun e => hv (hinj e).2
          · refine Unlike_gen g g' s k b d m s' k' b' d' m' w ht h1 h2 hr hr' _ _ rfl rfl ?_ (by simpa using hg)
            rw [str_same]
            exact decide_eq_false fun e => hg (hinj e).1
        · exact Unlike_fbad g g' s k b d m s' k' b' d' m' w ht h1 h2 hr hr'
      · exact Unlike_ebad g g' s k b d m s' k' b' d' m' w ht h1 h2 hr
    · exact Unlike_longB g g' s k b d m s' k' b' d' m' w ht h1 h2 (by omega)
  · exact Unlike_longA g g' s k b d m s' k' b' d' m' w ht h1 (by omega)

end Go.Proofs.YtkimhfcnkbakiaaDoor.Rc
