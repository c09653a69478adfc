/-
  The walk of RecordKinds: for every generation, number, block, data and marker it returns true; nothing that was there is changed. Condition: the table of half bytes holds what the program's own text lays.
-/
import Derived.OpenShut
import Derived.Test.YtkimhfcnkbakiaaDoorRcEq
namespace Go.Proofs.YtkimhfcnkbakiaaDoor.Rc
open Go.RowKit
open Pk Sm Fa

/-- Two boxed records. -/
theorem two_boxes (w : World) (s k b : Int) (d : ByteArray) (m : Int) (s' k' b' : Int) (d' : ByteArray) (m' : Int) :
    Bx ((w.alloc (.cells #[.int .i64 s, .int .i64 k, .int .i64 b, .string d, .int .i64 m] 23)).alloc (.cells #[.int .i64 s', .int .i64 k', .int .i64 b', .string d', .int .i64 m'] 23)) w.heap.size s k b d m ∧
    Bx ((w.alloc (.cells #[.int .i64 s, .int .i64 k, .int .i64 b, .string d, .int .i64 m] 23)).alloc (.cells #[.int .i64 s', .int .i64 k', .int .i64 b', .string d', .int .i64 m'] 23)) (w.heap.size + 1) s' k' b' d' m' ∧
    Below w.heap.size w ((w.alloc (.cells #[.int .i64 s, .int .i64 k, .int .i64 b, .string d, .int .i64 m] 23)).alloc (.cells #[.int .i64 s', .int .i64 k', .int .i64 b', .string d', .int .i64 m'] 23)) := by
  have h2 := box_below (w.alloc (.cells #[.int .i64 s, .int .i64 k, .int .i64 b, .string d, .int .i64 m] 23)) s' k' b' d' m'
  have h1 := box_below w s k b d m
  exact ⟨(Bx.new w s k b d m).below h2, heap_alloc2_new w _ _, h1.trans (h2.mono h1.size)⟩

set_option maxRecDepth 100000 in
theorem Kinds_long (gen seq num : Nat) (block : Int) (d : ByteArray) (w : World) (ht : Tab w) (hd : 300 < d.size) (hd2 : d.size ≤ 9223372036854775807) :
    Calls Tryd.prog 8 #[.int .u32 (gen : Int), .int .u32 (seq : Int), .int .i64 block, .string d, .int .u32 (num : Int)] w fun e w' => e = .returned (.bool true) ∧ Below w.heap.size w w' := by
  have hpos := ht.pos
  go_enter Tryd.func8, Tryd.ntmps8
  go_wp2_with fail
  refine (awake_any w ht).mono ?_
  rintro r w1 ⟨rfl, hb1⟩
  go_wp2_with fail
  refine (awake_any w1 (ht.below hb1 hpos)).mono ?_
  rintro r w2 ⟨rfl, hb2⟩
  go_wp2
  go_ret
  exact ⟨rfl, hb1.trans (hb2.mono hb1.size)⟩

set_option maxRecDepth 100000 in
set_option maxHeartbeats 2000000 in
theorem Kinds_good_yes (gen seq num : Nat) (block : Int) (d : ByteArray) (w : World) (ht : Tab w) (hg : gen ≤ 4294967295) (hs : seq ≤ 4294967295) (hm : num ≤ 4294967295) (h0 : 0 ≤ block) (h8 : block < 8) (hd : d.size ≤ 16) (hn : 0 < num) :
    Calls Tryd.prog 8 #[.int .u32 (gen : Int), .int .u32 (seq : Int), .int .i64 block, .string d, .int .u32 (num : Int)] w fun e w' => e = .returned (.bool true) ∧ Below w.heap.size w w' := by
  have hpos := ht.pos
  have Ht := hide ht
  have HRw : Hid (Rgt (1 + (seq : Int)) 1 block d.size 0) := by show Rgt _ _ _ _ _; unfold Rgt; omega
  have HRm : Hid (Rgt (1 + (seq : Int)) 2 0 (⟨#[]⟩ : ByteArray).size (num : Int)) := by show Rgt _ _ _ _ _; unfold Rgt; exact ⟨by omega, Or.inr ⟨rfl, rfl, rfl, by omega, by omega⟩⟩
  have HG : Hid (Num (gen : Int)) := by show Num _; unfold Num; omega
  clear ht
  go_enter Tryd.func8, Tryd.ntmps8
  go_wp2_with fail
  refine (awake_any w Ht.out).mono ?_
  rintro r w1 ⟨rfl, hb1⟩
  have HB1 := hide hb1
  clear hb1
  go_wp2_with fail
  obtain ⟨hx, hy, hb2⟩ := two_boxes w1 (1 + (seq : Int)) 1 block d 0 (1 + (seq : Int)) 2 0 ⟨#[]⟩ (num : Int)
  have HB2 := hide (HB1.out.trans (hb2.mono HB1.out.size))
  clear hb2 HB1
  generalize (w1.alloc _).alloc _ = w2 at *
  refine (Encode_good (gen : Int) (1 + (seq : Int)) 1 block d 0 w2 HRw.out HG.out (Ht.out.below HB2.out hpos)).mono ?_
  rintro r w3 ⟨p3, o3, c3, rfl, hc3, hcm3, _, hby3, hb3⟩
  have hx3 := hx.below hb3
  have hy3 := hy.below hb3
  have HB3 := hide (HB2.out.trans (hb3.mono HB2.out.size))
  have ya0 := hy3.c0
  have ya1 := hy3.c1
  have ya2 := hy3.c2
  have ya3 := hy3.c3
  have ya4 := hy3.c4
  clear hx hy hb3 HB2
  go_wp2_with fail
  refine (Encode_good (gen : Int) (1 + (seq : Int)) 2 0 ⟨#[]⟩ (num : Int) w3 HRm.out HG.out (Ht.out.below HB3.out hpos)).mono ?_
  rintro r w4 ⟨p4, o4, c4, rfl, hc4, hcm4, _, hby4, hb4⟩
  have hx4 := hx3.below hb4
  have hy4 := hy3.below hb4
  have HB4 := hide (HB3.out.trans (hb4.mono HB3.out.size))
  have hbyA := (hby3.below hb4).more hb4.size
  clear hx3 hy3 hb4 HB3 ya0 ya1 ya2 ya3 ya4 hby3
  go_wp2_with fail
  refine (Decode_good _ c3 w4 (gen : Int) (1 + (seq : Int)) 1 block d 0 hc3 hbyA (Ht.out.below HB4.out hpos) HRw.out HG.out).mono ?_
  rintro r w5 ⟨rfl, hb5⟩
  have hx5 := hx4.below hb5
  have hy5 := hy4.below hb5
  have HB5 := hide (HB4.out.trans (hb5.mono HB4.out.size))
  have hbyM := (hby4.below hb5).more hb5.size
  clear hx4 hy4 hb5 HB4 hbyA hby4
  have hz := Bx.new w5 (1 + (seq : Int)) 1 block d 0
  have hb6 := box_below w5 (1 + (seq : Int)) 1 block d 0
  have hx6 := hx5.below hb6
  have hy6 := hy5.below hb6
  have HB6 := hide (HB5.out.trans (hb6.mono HB5.out.size))
  have hbyM6 := (hbyM.below hb6).more hb6.size
  clear hx5 hy5 hb6 HB5 hbyM
  go_wp2_with fail
  generalize w5.alloc _ = w6 at *
  refine (Decode_good _ c4 w6 (gen : Int) (1 + (seq : Int)) 2 0 ⟨#[]⟩ (num : Int) hc4 hbyM6 (Ht.out.below HB6.out hpos) HRm.out HG.out).mono ?_
  rintro r w7 ⟨rfl, hb7⟩
  have hx7 := hx6.below hb7
  have hy7 := hy6.below hb7
  have hz7 := hz.below hb7
  have HB7 := hide (HB6.out.trans (hb7.mono HB6.out.size))
  have hb8 := box_below w7 (1 + (seq : Int)) 2 0 ⟨#[]⟩ (num : Int)
  have hx8 := hx7.below hb8
  have hy8 := hy7.below hb8
  have hz8 := hz7.below hb8
  have hv8 := Bx.new w7 (1 + (seq : Int)) 2 0 ⟨#[]⟩ (num : Int)
  have HB8 := hide (HB7.out.trans (hb8.mono HB7.out.size))
  clear hx6 hy6 hz hb7 HB6 hx7 hy7 hz7 hb8 HB7 hbyM6
  have xa0 := hx8.c0
  have xa1 := hx8.c1
  have xa2 := hx8.c2
  have xa3 := hx8.c3
  have xa4 := hx8.c4
  have za0 := hz8.c0
  have za1 := hz8.c1
  have za2 := hz8.c2
  have za3 := hz8.c3
  have za4 := hz8.c4
  have heq1 := fun W => rec_eql (1 + (seq : Int)) 1 block d 0 (1 + (seq : Int)) 1 block d 0 true (same5_self _ _ _ _ _) W
  have ya0 := hy8.c0
  have ya1 := hy8.c1
  have ya2 := hy8.c2
  have ya3 := hy8.c3
  have ya4 := hy8.c4
  have va0 := hv8.c0
  have va1 := hv8.c1
  have va2 := hv8.c2
  have va3 := hv8.c3
  have va4 := hv8.c4
  have heq2 := fun W => rec_eql (1 + (seq : Int)) 2 0 ⟨#[]⟩ (num : Int) (1 + (seq : Int)) 2 0 ⟨#[]⟩ (num : Int) true (same5_self _ _ _ _ _) W
  clear hx8 hy8 hz8 hv8
  go_wp2
  go_ret
  exact ⟨rfl, HB8.out⟩

set_option maxRecDepth 100000 in
set_option maxHeartbeats 2000000 in
theorem Kinds_good_no (gen seq num : Nat) (block : Int) (d : ByteArray) (w : World) (ht : Tab w) (hg : gen ≤ 4294967295) (hs : seq ≤ 4294967295) (hm : num ≤ 4294967295) (h0 : 0 ≤ block) (h8 : block < 8) (hd : d.size ≤ 16) (hn : num < 1) :
    Calls Tryd.prog 8 #[.int .u32 (gen : Int), .int .u32 (seq : Int), .int .i64 block, .string d, .int .u32 (num : Int)] w fun e w' => e = .returned (.bool true) ∧ Below w.heap.size w w' := by
  have hpos := ht.pos
  have Ht := hide ht
  have HRw : Hid (Rgt (1 + (seq : Int)) 1 block d.size 0) := by show Rgt _ _ _ _ _; unfold Rgt; omega
  have HRm : Hid (¬ (Rgt (1 + (seq : Int)) 2 0 (⟨#[]⟩ : ByteArray).size (num : Int) ∧ Num (gen : Int))) := by show ¬ _; unfold Rgt; omega
  have HG : Hid (Num (gen : Int)) := by show Num _; unfold Num; omega
  clear ht
  go_enter Tryd.func8, Tryd.ntmps8
  go_wp2_with fail
  refine (awake_any w Ht.out).mono ?_
  rintro r w1 ⟨rfl, hb1⟩
  have HB1 := hide hb1
  clear hb1
  go_wp2_with fail
  obtain ⟨hx, hy, hb2⟩ := two_boxes w1 (1 + (seq : Int)) 1 block d 0 (1 + (seq : Int)) 2 0 ⟨#[]⟩ (num : Int)
  have HB2 := hide (HB1.out.trans (hb2.mono HB1.out.size))
  clear hb2 HB1
  generalize (w1.alloc _).alloc _ = w2 at *
  refine (Encode_good (gen : Int) (1 + (seq : Int)) 1 block d 0 w2 HRw.out HG.out (Ht.out.below HB2.out hpos)).mono ?_
  rintro r w3 ⟨p3, o3, c3, rfl, hc3, hcm3, _, hby3, hb3⟩
  have hx3 := hx.below hb3
  have hy3 := hy.below hb3
  have HB3 := hide (HB2.out.trans (hb3.mono HB2.out.size))
  have ya0 := hy3.c0
  have ya1 := hy3.c1
  have ya2 := hy3.c2
  have ya3 := hy3.c3
  have ya4 := hy3.c4
  clear hx hy hb3 HB2
  go_wp2_with fail
  refine (Encode_bad (gen : Int) (1 + (seq : Int)) 2 0 ⟨#[]⟩ (num : Int) w3 HRm.out (by decide)).mono ?_
  rintro r w4 ⟨p4, rfl, _, hb4⟩
  have hx4 := hx3.below hb4
  have hy4 := hy3.below hb4
  have HB4 := hide (HB3.out.trans (hb4.mono HB3.out.size))
  have hbyA := (hby3.below hb4).more hb4.size
  clear hx3 hy3 hb4 HB3 ya0 ya1 ya2 ya3 ya4 hby3
  go_wp2_with fail
  refine (Decode_good _ c3 w4 (gen : Int) (1 + (seq : Int)) 1 block d 0 hc3 hbyA (Ht.out.below HB4.out hpos) HRw.out HG.out).mono ?_
  rintro r w5 ⟨rfl, hb5⟩
  have hx5 := hx4.below hb5
  have hy5 := hy4.below hb5
  have HB5 := hide (HB4.out.trans (hb5.mono HB4.out.size))
  clear hx4 hy4 hb5 HB4 hbyA
  have hz := Bx.new w5 (1 + (seq : Int)) 1 block d 0
  have hb6 := box_below w5 (1 + (seq : Int)) 1 block d 0
  have hx6 := hx5.below hb6
  have hy6 := hy5.below hb6
  have HB6 := hide (HB5.out.trans (hb6.mono HB5.out.size))
  clear hx5 hy5 hb6 HB5
  go_wp2_with fail
  generalize w5.alloc _ = w6 at *
  refine (Decode_len none 0 0 w6 (by decide)).mono ?_
  rintro r w7 ⟨⟨p7, rfl, _⟩, hb7⟩
  have hx7 := hx6.below hb7
  have hy7 := hy6.below hb7
  have hz7 := hz.below hb7
  have HB7 := hide (HB6.out.trans (hb7.mono HB6.out.size))
  have hb8 := box_below w7 0 0 0 ⟨#[]⟩ 0
  have hx8 := hx7.below hb8
  have hy8 := hy7.below hb8
  have hz8 := hz7.below hb8
  have hv8 := Bx.new w7 0 0 0 ⟨#[]⟩ 0
  have HB8 := hide (HB7.out.trans (hb8.mono HB7.out.size))
  clear hx6 hy6 hz hb7 HB6 hx7 hy7 hz7 hb8 HB7
  have xa0 := hx8.c0
  have xa1 := hx8.c1
  have xa2 := hx8.c2
  have xa3 := hx8.c3
  have xa4 := hx8.c4
  have za0 := hz8.c0
  have za1 := hz8.c1
  have za2 := hz8.c2
  have za3 := hz8.c3
  have za4 := hz8.c4
  have heq1 := fun W => rec_eql (1 + (seq : Int)) 1 block d 0 (1 + (seq : Int)) 1 block d 0 true (same5_self _ _ _ _ _) W
  clear hx8 hy8 hz8 hv8
  go_wp2
  go_ret
  exact ⟨rfl, HB8.out⟩

set_option maxRecDepth 100000 in
set_option maxHeartbeats 2000000 in
theorem Kinds_low_yes (gen seq num : Nat) (block : Int) (d : ByteArray) (w : World) (ht : Tab w) (hg : gen ≤ 4294967295) (hs : seq ≤ 4294967295) (hm : num ≤ 4294967295) (h0 : block < 0) (hd : d.size ≤ 300) (hn : 0 < num) :
    Calls Tryd.prog 8 #[.int .u32 (gen : Int), .int .u32 (seq : Int), .int .i64 block, .string d, .int .u32 (num : Int)] w fun e w' => e = .returned (.bool true) ∧ Below w.heap.size w w' := by
  have hpos := ht.pos
  have Ht := hide ht
  have HRw : Hid (¬ (Rgt (1 + (seq : Int)) 1 block d.size 0 ∧ Num (gen : Int))) := by show ¬ _; unfold Rgt; omega
  have HRm : Hid (Rgt (1 + (seq : Int)) 2 0 (⟨#[]⟩ : ByteArray).size (num : Int)) := by show Rgt _ _ _ _ _; unfold Rgt; exact ⟨by omega, Or.inr ⟨rfl, rfl, rfl, by omega, by omega⟩⟩
  have HG : Hid (Num (gen : Int)) := by show Num _; unfold Num; omega
  clear ht
  go_enter Tryd.func8, Tryd.ntmps8
  go_wp2_with fail
  refine (awake_any w Ht.out).mono ?_
  rintro r w1 ⟨rfl, hb1⟩
  have HB1 := hide hb1
  clear hb1
  go_wp2_with fail
  obtain ⟨hx, hy, hb2⟩ := two_boxes w1 (1 + (seq : Int)) 1 block d 0 (1 + (seq : Int)) 2 0 ⟨#[]⟩ (num : Int)
  have HB2 := hide (HB1.out.trans (hb2.mono HB1.out.size))
  clear hb2 HB1
  generalize (w1.alloc _).alloc _ = w2 at *
  refine (Encode_bad (gen : Int) (1 + (seq : Int)) 1 block d 0 w2 HRw.out (by omega)).mono ?_
  rintro r w3 ⟨p3, rfl, _, hb3⟩
  have hx3 := hx.below hb3
  have hy3 := hy.below hb3
  have HB3 := hide (HB2.out.trans (hb3.mono HB2.out.size))
  have ya0 := hy3.c0
  have ya1 := hy3.c1
  have ya2 := hy3.c2
  have ya3 := hy3.c3
  have ya4 := hy3.c4
  clear hx hy hb3 HB2
  go_wp2_with fail
  refine (Encode_good (gen : Int) (1 + (seq : Int)) 2 0 ⟨#[]⟩ (num : Int) w3 HRm.out HG.out (Ht.out.below HB3.out hpos)).mono ?_
  rintro r w4 ⟨p4, o4, c4, rfl, hc4, hcm4, _, hby4, hb4⟩
  have hx4 := hx3.below hb4
  have hy4 := hy3.below hb4
  have HB4 := hide (HB3.out.trans (hb4.mono HB3.out.size))
  clear hx3 hy3 hb4 HB3 ya0 ya1 ya2 ya3 ya4
  go_wp2_with fail
  refine (Decode_len none 0 0 w4 (by decide)).mono ?_
  rintro r w5 ⟨⟨p5, rfl, _⟩, hb5⟩
  have hx5 := hx4.below hb5
  have hy5 := hy4.below hb5
  have HB5 := hide (HB4.out.trans (hb5.mono HB4.out.size))
  have hbyM := (hby4.below hb5).more hb5.size
  clear hx4 hy4 hb5 HB4 hby4
  have hz := Bx.new w5 0 0 0 ⟨#[]⟩ 0
  have hb6 := box_below w5 0 0 0 ⟨#[]⟩ 0
  have hx6 := hx5.below hb6
  have hy6 := hy5.below hb6
  have HB6 := hide (HB5.out.trans (hb6.mono HB5.out.size))
  have hbyM6 := (hbyM.below hb6).more hb6.size
  clear hx5 hy5 hb6 HB5 hbyM
  go_wp2_with fail
  generalize w5.alloc _ = w6 at *
  refine (Decode_good _ c4 w6 (gen : Int) (1 + (seq : Int)) 2 0 ⟨#[]⟩ (num : Int) hc4 hbyM6 (Ht.out.below HB6.out hpos) HRm.out HG.out).mono ?_
  rintro r w7 ⟨rfl, hb7⟩
  have hx7 := hx6.below hb7
  have hy7 := hy6.below hb7
  have hz7 := hz.below hb7
  have HB7 := hide (HB6.out.trans (hb7.mono HB6.out.size))
  have hb8 := box_below w7 (1 + (seq : Int)) 2 0 ⟨#[]⟩ (num : Int)
  have hx8 := hx7.below hb8
  have hy8 := hy7.below hb8
  have hz8 := hz7.below hb8
  have hv8 := Bx.new w7 (1 + (seq : Int)) 2 0 ⟨#[]⟩ (num : Int)
  have HB8 := hide (HB7.out.trans (hb8.mono HB7.out.size))
  clear hx6 hy6 hz hb7 HB6 hx7 hy7 hz7 hb8 HB7 hbyM6
  have ya0 := hy8.c0
  have ya1 := hy8.c1
  have ya2 := hy8.c2
  have ya3 := hy8.c3
  have ya4 := hy8.c4
  have va0 := hv8.c0
  have va1 := hv8.c1
  have va2 := hv8.c2
  have va3 := hv8.c3
  have va4 := hv8.c4
  have heq2 := fun W => rec_eql (1 + (seq : Int)) 2 0 ⟨#[]⟩ (num : Int) (1 + (seq : Int)) 2 0 ⟨#[]⟩ (num : Int) true (same5_self _ _ _ _ _) W
  clear hx8 hy8 hz8 hv8
  go_wp2
  go_ret
  exact ⟨rfl, HB8.out⟩

set_option maxRecDepth 100000 in
set_option maxHeartbeats 2000000 in
theorem Kinds_low_no (gen seq num : Nat) (block : Int) (d : ByteArray) (w : World) (ht : Tab w) (hg : gen ≤ 4294967295) (hs : seq ≤ 4294967295) (hm : num ≤ 4294967295) (h0 : block < 0) (hd : d.size ≤ 300) (hn : num < 1) :
    Calls Tryd.prog 8 #[.int .u32 (gen : Int), .int .u32 (seq : Int), .int .i64 block, .string d, .int .u32 (num : Int)] w fun e w' => e = .returned (.bool true) ∧ Below w.heap.size w w' := by
  have hpos := ht.pos
  have Ht := hide ht
  have HRw : Hid (¬ (Rgt (1 + (seq : Int)) 1 block d.size 0 ∧ Num (gen : Int))) := by show ¬ _; unfold Rgt; omega
  have HRm : Hid (¬ (Rgt (1 + (seq : Int)) 2 0 (⟨#[]⟩ : ByteArray).size (num : Int) ∧ Num (gen : Int))) := by show ¬ _; unfold Rgt; omega
  have HG : Hid (Num (gen : Int)) := by show Num _; unfold Num; omega
  clear ht
  go_enter Tryd.func8, Tryd.ntmps8
  go_wp2_with fail
  refine (awake_any w Ht.out).mono ?_
  rintro r w1 ⟨rfl, hb1⟩
  have HB1 := hide hb1
  clear hb1
  go_wp2_with fail
  obtain ⟨hx, hy, hb2⟩ := two_boxes w1 (1 + (seq : Int)) 1 block d 0 (1 + (seq : Int)) 2 0 ⟨#[]⟩ (num : Int)
  have HB2 := hide (HB1.out.trans (hb2.mono HB1.out.size))
  clear hb2 HB1
  generalize (w1.alloc _).alloc _ = w2 at *
  refine (Encode_bad (gen : Int) (1 + (seq : Int)) 1 block d 0 w2 HRw.out (by omega)).mono ?_
  rintro r w3 ⟨p3, rfl, _, hb3⟩
  have hx3 := hx.below hb3
  have hy3 := hy.below hb3
  have HB3 := hide (HB2.out.trans (hb3.mono HB2.out.size))
  have ya0 := hy3.c0
  have ya1 := hy3.c1
  have ya2 := hy3.c2
  have ya3 := hy3.c3
  have ya4 := hy3.c4
  clear hx hy hb3 HB2
  go_wp2_with fail
  refine (Encode_bad (gen : Int) (1 + (seq : Int)) 2 0 ⟨#[]⟩ (num : Int) w3 HRm.out (by decide)).mono ?_
  rintro r w4 ⟨p4, rfl, _, hb4⟩
  have hx4 := hx3.below hb4
  have hy4 := hy3.below hb4
  have HB4 := hide (HB3.out.trans (hb4.mono HB3.out.size))
  clear hx3 hy3 hb4 HB3 ya0 ya1 ya2 ya3 ya4
  go_wp2_with fail
  refine (Decode_len none 0 0 w4 (by decide)).mono ?_
  rintro r w5 ⟨⟨p5, rfl, _⟩, hb5⟩
  have hx5 := hx4.below hb5
  have hy5 := hy4.below hb5
  have HB5 := hide (HB4.out.trans (hb5.mono HB4.out.size))
  clear hx4 hy4 hb5 HB4
  have hz := Bx.new w5 0 0 0 ⟨#[]⟩ 0
  have hb6 := box_below w5 0 0 0 ⟨#[]⟩ 0
  have hx6 := hx5.below hb6
  have hy6 := hy5.below hb6
  have HB6 := hide (HB5.out.trans (hb6.mono HB5.out.size))
  clear hx5 hy5 hb6 HB5
  go_wp2_with fail
  generalize w5.alloc _ = w6 at *
  refine (Decode_len none 0 0 w6 (by decide)).mono ?_
  rintro r w7 ⟨⟨p7, rfl, _⟩, hb7⟩
  have hx7 := hx6.below hb7
  have hy7 := hy6.below hb7
  have hz7 := hz.below hb7
  have HB7 := hide (HB6.out.trans (hb7.mono HB6.out.size))
  have hb8 := box_below w7 0 0 0 ⟨#[]⟩ 0
  have hx8 := hx7.below hb8
  have hy8 := hy7.below hb8
  have hz8 := hz7.below hb8
  have hv8 := Bx.new w7 0 0 0 ⟨#[]⟩ 0
  have HB8 := hide (HB7.out.trans (hb8.mono HB7.out.size))
  clear hx6 hy6 hz hb7 HB6 hx7 hy7 hz7 hb8 HB7
  clear hx8 hy8 hz8 hv8
  go_wp2
  go_ret
  exact ⟨rfl, HB8.out⟩

set_option maxRecDepth 100000 in
set_option maxHeartbeats 2000000 in
theorem Kinds_high_yes (gen seq num : Nat) (block : Int) (d : ByteArray) (w : World) (ht : Tab w) (hg : gen ≤ 4294967295) (hs : seq ≤ 4294967295) (hm : num ≤ 4294967295) (h0 : 0 ≤ block) (h8 : ¬ block < 8) (hd : d.size ≤ 300) (hn : 0 < num) :
    Calls Tryd.prog 8 #[.int .u32 (gen : Int), .int .u32 (seq : Int), .int .i64 block, .string d, .int .u32 (num : Int)] w fun e w' => e = .returned (.bool true) ∧ Below w.heap.size w w' := by
  have hpos := ht.pos
  have Ht := hide ht
  have HRw : Hid (¬ (Rgt (1 + (seq : Int)) 1 block d.size 0 ∧ Num (gen : Int))) := by show ¬ _; unfold Rgt; omega
  have HRm : Hid (Rgt (1 + (seq : Int)) 2 0 (⟨#[]⟩ : ByteArray).size (num : Int)) := by show Rgt _ _ _ _ _; unfold Rgt; exact ⟨by omega, Or.inr ⟨rfl, rfl, rfl, by omega, by omega⟩⟩
  have HG : Hid (Num (gen : Int)) := by show Num _; unfold Num; omega
  clear ht
  go_enter Tryd.func8, Tryd.ntmps8
  go_wp2_with fail
  refine (awake_any w Ht.out).mono ?_
  rintro r w1 ⟨rfl, hb1⟩
  have HB1 := hide hb1
  clear hb1
  go_wp2_with fail
  obtain ⟨hx, hy, hb2⟩ := two_boxes w1 (1 + (seq : Int)) 1 block d 0 (1 + (seq : Int)) 2 0 ⟨#[]⟩ (num : Int)
  have HB2 := hide (HB1.out.trans (hb2.mono HB1.out.size))
  clear hb2 HB1
  generalize (w1.alloc _).alloc _ = w2 at *
  refine (Encode_bad (gen : Int) (1 + (seq : Int)) 1 block d 0 w2 HRw.out (by omega)).mono ?_
  rintro r w3 ⟨p3, rfl, _, hb3⟩
  have hx3 := hx.below hb3
  have hy3 := hy.below hb3
  have HB3 := hide (HB2.out.trans (hb3.mono HB2.out.size))
  have ya0 := hy3.c0
  have ya1 := hy3.c1
  have ya2 := hy3.c2
  have ya3 := hy3.c3
  have ya4 := hy3.c4
  clear hx hy hb3 HB2
  go_wp2_with fail
  refine (Encode_good (gen : Int) (1 + (seq : Int)) 2 0 ⟨#[]⟩ (num : Int) w3 HRm.out HG.out (Ht.out.below HB3.out hpos)).mono ?_
  rintro r w4 ⟨p4, o4, c4, rfl, hc4, hcm4, _, hby4, hb4⟩
  have hx4 := hx3.below hb4
  have hy4 := hy3.below hb4
  have HB4 := hide (HB3.out.trans (hb4.mono HB3.out.size))
  clear hx3 hy3 hb4 HB3 ya0 ya1 ya2 ya3 ya4
  go_wp2_with fail
  refine (Decode_len none 0 0 w4 (by decide)).mono ?_
  rintro r w5 ⟨⟨p5, rfl, _⟩, hb5⟩
  have hx5 := hx4.below hb5
  have hy5 := hy4.below hb5
  have HB5 := hide (HB4.out.trans (hb5.mono HB4.out.size))
  have hbyM := (hby4.below hb5).more hb5.size
  clear hx4 hy4 hb5 HB4 hby4
  have hz := Bx.new w5 0 0 0 ⟨#[]⟩ 0
  have hb6 := box_below w5 0 0 0 ⟨#[]⟩ 0
  have hx6 := hx5.below hb6
  have hy6 := hy5.below hb6
  have HB6 := hide (HB5.out.trans (hb6.mono HB5.out.size))
  have hbyM6 := (hbyM.below hb6).more hb6.size
  clear hx5 hy5 hb6 HB5 hbyM
  go_wp2_with fail
  generalize w5.alloc _ = w6 at *
  refine (Decode_good _ c4 w6 (gen : Int) (1 + (seq : Int)) 2 0 ⟨#[]⟩ (num : Int) hc4 hbyM6 (Ht.out.below HB6.out hpos) HRm.out HG.out).mono ?_
  rintro r w7 ⟨rfl, hb7⟩
  have hx7 := hx6.below hb7
  have hy7 := hy6.below hb7
  have hz7 := hz.below hb7
  have HB7 := hide (HB6.out.trans (hb7.mono HB6.out.size))
  have hb8 := box_below w7 (1 + (seq : Int)) 2 0 ⟨#[]⟩ (num : Int)
  have hx8 := hx7.below hb8
  have hy8 := hy7.below hb8
  have hz8 := hz7.below hb8
  have hv8 := Bx.new w7 (1 + (seq : Int)) 2 0 ⟨#[]⟩ (num : Int)
  have HB8 := hide (HB7.out.trans (hb8.mono HB7.out.size))
  clear hx6 hy6 hz hb7 HB6 hx7 hy7 hz7 hb8 HB7 hbyM6
  have ya0 := hy8.c0
  have ya1 := hy8.c1
  have ya2 := hy8.c2
  have ya3 := hy8.c3
  have ya4 := hy8.c4
  have va0 := hv8.c0
  have va1 := hv8.c1
  have va2 := hv8.c2
  have va3 := hv8.c3
  have va4 := hv8.c4
  have heq2 := fun W => rec_eql (1 + (seq : Int)) 2 0 ⟨#[]⟩ (num : Int) (1 + (seq : Int)) 2 0 ⟨#[]⟩ (num : Int) true (same5_self _ _ _ _ _) W
  clear hx8 hy8 hz8 hv8
  go_wp2
  go_ret
  exact ⟨rfl, HB8.out⟩

set_option maxRecDepth 100000 in
set_option maxHeartbeats 2000000 in
theorem Kinds_high_no (gen seq num : Nat) (block : Int) (d : ByteArray) (w : World) (ht : Tab w) (hg : gen ≤ 4294967295) (hs : seq ≤ 4294967295) (hm : num ≤ 4294967295) (h0 : 0 ≤ block) (h8 : ¬ block < 8) (hd : d.size ≤ 300) (hn : num < 1) :
    Calls Tryd.prog 8 #[.int .u32 (gen : Int), .int .u32 (seq : Int), .int .i64 block, .string d, .int .u32 (num : Int)] w fun e w' => e = .returned (.bool true) ∧ Below w.heap.size w w' := by
  have hpos := ht.pos
  have Ht := hide ht
  have HRw : Hid (¬ (Rgt (1 + (seq : Int)) 1 block d.size 0 ∧ Num (gen : Int))) := by show ¬ _; unfold Rgt; omega
  have HRm : Hid (¬ (Rgt (1 + (seq : Int)) 2 0 (⟨#[]⟩ : ByteArray).size (num : Int) ∧ Num (gen : Int))) := by show ¬ _; unfold Rgt; omega
  have HG : Hid (Num (gen : Int)) := by show Num _; unfold Num; omega
  clear ht
  go_enter Tryd.func8, Tryd.ntmps8
  go_wp2_with fail
  refine (awake_any w Ht.out).mono ?_
  rintro r w1 ⟨rfl, hb1⟩
  have HB1 := hide hb1
  clear hb1
  go_wp2_with fail
  obtain ⟨hx, hy, hb2⟩ := two_boxes w1 (1 + (seq : Int)) 1 block d 0 (1 + (seq : Int)) 2 0 ⟨#[]⟩ (num : Int)
  have HB2 := hide (HB1.out.trans (hb2.mono HB1.out.size))
  clear hb2 HB1
  generalize (w1.alloc _).alloc _ = w2 at *
  refine (Encode_bad (gen : Int) (1 + (seq : Int)) 1 block d 0 w2 HRw.out (by omega)).mono ?_
  rintro r w3 ⟨p3, rfl, _, hb3⟩
  have hx3 := hx.below hb3
  have hy3 := hy.below hb3
  have HB3 := hide (HB2.out.trans (hb3.mono HB2.out.size))
  have ya0 := hy3.c0
  have ya1 := hy3.c1
  have ya2 := hy3.c2
  have ya3 := hy3.c3
  have ya4 := hy3.c4
  clear hx hy hb3 HB2
  go_wp2_with fail
  refine (Encode_bad (gen : Int) (1 + (seq : Int)) 2 0 ⟨#[]⟩ (num : Int) w3 HRm.out (by decide)).mono ?_
  rintro r w4 ⟨p4, rfl, _, hb4⟩
  have hx4 := hx3.below hb4
  have hy4 := hy3.below hb4
  have HB4 := hide (HB3.out.trans (hb4.mono HB3.out.size))
  clear hx3 hy3 hb4 HB3 ya0 ya1 ya2 ya3 ya4
  go_wp2_with fail
  refine (Decode_len none 0 0 w4 (by decide)).mono ?_
  rintro r w5 ⟨⟨p5, rfl, _⟩, hb5⟩
  have hx5 := hx4.below hb5
  have hy5 := hy4.below hb5
  have HB5 := hide (HB4.out.trans (hb5.mono HB4.out.size))
  clear hx4 hy4 hb5 HB4
  have hz := Bx.new w5 0 0 0 ⟨#[]⟩ 0
  have hb6 := box_below w5 0 0 0 ⟨#[]⟩ 0
  have hx6 := hx5.below hb6
  have hy6 := hy5.below hb6
  have HB6 := hide (HB5.out.trans (hb6.mono HB5.out.size))
  clear hx5 hy5 hb6 HB5
  go_wp2_with fail
  generalize w5.alloc _ = w6 at *
  refine (Decode_len none 0 0 w6 (by decide)).mono ?_
  rintro r w7 ⟨⟨p7, rfl, _⟩, hb7⟩
  have hx7 := hx6.below hb7
  have hy7 := hy6.below hb7
  have hz7 := hz.below hb7
  have HB7 := hide (HB6.out.trans (hb7.mono HB6.out.size))
  have hb8 := box_below w7 0 0 0 ⟨#[]⟩ 0
  have hx8 := hx7.below hb8
  have hy8 := hy7.below hb8
  have hz8 := hz7.below hb8
  have hv8 := Bx.new w7 0 0 0 ⟨#[]⟩ 0
  have HB8 := hide (HB7.out.trans (hb8.mono HB7.out.size))
  clear hx6 hy6 hz hb7 HB6 hx7 hy7 hz7 hb8 HB7
  clear hx8 hy8 hz8 hv8
  go_wp2
  go_ret
  exact ⟨rfl, HB8.out⟩

set_option maxRecDepth 100000 in
set_option maxHeartbeats 2000000 in
theorem Kinds_big_yes (gen seq num : Nat) (block : Int) (d : ByteArray) (w : World) (ht : Tab w) (hg : gen ≤ 4294967295) (hs : seq ≤ 4294967295) (hm : num ≤ 4294967295) (h0 : 0 ≤ block) (h8 : block < 8) (h16 : ¬ d.size ≤ 16) (hd : d.size ≤ 300) (hn : 0 < num) :
    Calls Tryd.prog 8 #[.int .u32 (gen : Int), .int .u32 (seq : Int), .int .i64 block, .string d, .int .u32 (num : Int)] w fun e w' => e = .returned (.bool true) ∧ Below w.heap.size w w' := by
  have hpos := ht.pos
  have Ht := hide ht
  have HRw : Hid (¬ (Rgt (1 + (seq : Int)) 1 block d.size 0 ∧ Num (gen : Int))) := by show ¬ _; unfold Rgt; omega
  have HRm : Hid (Rgt (1 + (seq : Int)) 2 0 (⟨#[]⟩ : ByteArray).size (num : Int)) := by show Rgt _ _ _ _ _; unfold Rgt; exact ⟨by omega, Or.inr ⟨rfl, rfl, rfl, by omega, by omega⟩⟩
  have HG : Hid (Num (gen : Int)) := by show Num _; unfold Num; omega
  clear ht
  go_enter Tryd.func8, Tryd.ntmps8
  go_wp2_with fail
  refine (awake_any w Ht.out).mono ?_
  rintro r w1 ⟨rfl, hb1⟩
  have HB1 := hide hb1
  clear hb1
  go_wp2_with fail
  obtain ⟨hx, hy, hb2⟩ := two_boxes w1 (1 + (seq : Int)) 1 block d 0 (1 + (seq : Int)) 2 0 ⟨#[]⟩ (num : Int)
  have HB2 := hide (HB1.out.trans (hb2.mono HB1.out.size))
  clear hb2 HB1
  generalize (w1.alloc _).alloc _ = w2 at *
  refine (Encode_bad (gen : Int) (1 + (seq : Int)) 1 block d 0 w2 HRw.out (by omega)).mono ?_
  rintro r w3 ⟨p3, rfl, _, hb3⟩
  have hx3 := hx.below hb3
  have hy3 := hy.below hb3
  have HB3 := hide (HB2.out.trans (hb3.mono HB2.out.size))
  have ya0 := hy3.c0
  have ya1 := hy3.c1
  have ya2 := hy3.c2
  have ya3 := hy3.c3
  have ya4 := hy3.c4
  clear hx hy hb3 HB2
  go_wp2_with fail
  refine (Encode_good (gen : Int) (1 + (seq : Int)) 2 0 ⟨#[]⟩ (num : Int) w3 HRm.out HG.out (Ht.out.below HB3.out hpos)).mono ?_
  rintro r w4 ⟨p4, o4, c4, rfl, hc4, hcm4, _, hby4, hb4⟩
  have hx4 := hx3.below hb4
  have hy4 := hy3.below hb4
  have HB4 := hide (HB3.out.trans (hb4.mono HB3.out.size))
  clear hx3 hy3 hb4 HB3 ya0 ya1 ya2 ya3 ya4
  go_wp2_with fail
  refine (Decode_len none 0 0 w4 (by decide)).mono ?_
  rintro r w5 ⟨⟨p5, rfl, _⟩, hb5⟩
  have hx5 := hx4.below hb5
  have hy5 := hy4.below hb5
  have HB5 := hide (HB4.out.trans (hb5.mono HB4.out.size))
  have hbyM := (hby4.below hb5).more hb5.size
  clear hx4 hy4 hb5 HB4 hby4
  have hz := Bx.new w5 0 0 0 ⟨#[]⟩ 0
  have hb6 := box_below w5 0 0 0 ⟨#[]⟩ 0
  have hx6 := hx5.below hb6
  have hy6 := hy5.below hb6
  have HB6 := hide (HB5.out.trans (hb6.mono HB5.out.size))
  have hbyM6 := (hbyM.below hb6).more hb6.size
  clear hx5 hy5 hb6 HB5 hbyM
  go_wp2_with fail
  generalize w5.alloc _ = w6 at *
  refine (Decode_good _ c4 w6 (gen : Int) (1 + (seq : Int)) 2 0 ⟨#[]⟩ (num : Int) hc4 hbyM6 (Ht.out.below HB6.out hpos) HRm.out HG.out).mono ?_
  rintro r w7 ⟨rfl, hb7⟩
  have hx7 := hx6.below hb7
  have hy7 := hy6.below hb7
  have hz7 := hz.below hb7
  have HB7 := hide (HB6.out.trans (hb7.mono HB6.out.size))
  have hb8 := box_below w7 (1 + (seq : Int)) 2 0 ⟨#[]⟩ (num : Int)
  have hx8 := hx7.below hb8
  have hy8 := hy7.below hb8
  have hz8 := hz7.below hb8
  have hv8 := Bx.new w7 (1 + (seq : Int)) 2 0 ⟨#[]⟩ (num : Int)
  have HB8 := hide (HB7.out.trans (hb8.mono HB7.out.size))
  clear hx6 hy6 hz hb7 HB6 hx7 hy7 hz7 hb8 HB7 hbyM6
  have ya0 := hy8.c0
  have ya1 := hy8.c1
  have ya2 := hy8.c2
  have ya3 := hy8.c3
  have ya4 := hy8.c4
  have va0 := hv8.c0
  have va1 := hv8.c1
  have va2 := hv8.c2
  have va3 := hv8.c3
  have va4 := hv8.c4
  have heq2 := fun W => rec_eql (1 + (seq : Int)) 2 0 ⟨#[]⟩ (num : Int) (1 + (seq : Int)) 2 0 ⟨#[]⟩ (num : Int) true (same5_self _ _ _ _ _) W
  clear hx8 hy8 hz8 hv8
  go_wp2
  go_ret
  exact ⟨rfl, HB8.out⟩

set_option maxRecDepth 100000 in
set_option maxHeartbeats 2000000 in
theorem Kinds_big_no (gen seq num : Nat) (block : Int) (d : ByteArray) (w : World) (ht : Tab w) (hg : gen ≤ 4294967295) (hs : seq ≤ 4294967295) (hm : num ≤ 4294967295) (h0 : 0 ≤ block) (h8 : block < 8) (h16 : ¬ d.size ≤ 16) (hd : d.size ≤ 300) (hn : num < 1) :
    Calls Tryd.prog 8 #[.int .u32 (gen : Int), .int .u32 (seq : Int), .int .i64 block, .string d, .int .u32 (num : Int)] w fun e w' => e = .returned (.bool true) ∧ Below w.heap.size w w' := by
  have hpos := ht.pos
  have Ht := hide ht
  have HRw : Hid (¬ (Rgt (1 + (seq : Int)) 1 block d.size 0 ∧ Num (gen : Int))) := by show ¬ _; unfold Rgt; omega
  have HRm : Hid (¬ (Rgt (1 + (seq : Int)) 2 0 (⟨#[]⟩ : ByteArray).size (num : Int) ∧ Num (gen : Int))) := by show ¬ _; unfold Rgt; omega
  have HG : Hid (Num (gen : Int)) := by show Num _; unfold Num; omega
  clear ht
  go_enter Tryd.func8, Tryd.ntmps8
  go_wp2_with fail
  refine (awake_any w Ht.out).mono ?_
  rintro r w1 ⟨rfl, hb1⟩
  have HB1 := hide hb1
  clear hb1
  go_wp2_with fail
  obtain ⟨hx, hy, hb2⟩ := two_boxes w1 (1 + (seq : Int)) 1 block d 0 (1 + (seq : Int)) 2 0 ⟨#[]⟩ (num : Int)
  have HB2 := hide (HB1.out.trans (hb2.mono HB1.out.size))
  clear hb2 HB1
  generalize (w1.alloc _).alloc _ = w2 at *
  refine (Encode_bad (gen : Int) (1 + (seq : Int)) 1 block d 0 w2 HRw.out (by omega)).mono ?_
  rintro r w3 ⟨p3, rfl, _, hb3⟩
  have hx3 := hx.below hb3
  have hy3 := hy.below hb3
  have HB3 := hide (HB2.out.trans (hb3.mono HB2.out.size))
  have ya0 := hy3.c0
  have ya1 := hy3.c1
  have ya2 := hy3.c2
  have ya3 := hy3.c3
  have ya4 := hy3.c4
  clear hx hy hb3 HB2
  go_wp2_with fail
  refine (Encode_bad (gen : Int) (1 + (seq : Int)) 2 0 ⟨#[]⟩ (num : Int) w3 HRm.out (by decide)).mono ?_
  rintro r w4 ⟨p4, rfl, _, hb4⟩
  have hx4 := hx3.below hb4
  have hy4 := hy3.below hb4
  have HB4 := hide (HB3.out.trans (hb4.mono HB3.out.size))
  clear hx3 hy3 hb4 HB3 ya0 ya1 ya2 ya3 ya4
  go_wp2_with fail
  refine (Decode_len none 0 0 w4 (by decide)).mono ?_
  rintro r w5 ⟨⟨p5, rfl, _⟩, hb5⟩
  have hx5 := hx4.below hb5
  have hy5 := hy4.below hb5
  have HB5 := hide (HB4.out.trans (hb5.mono HB4.out.size))
  clear hx4 hy4 hb5 HB4
  have hz := Bx.new w5 0 0 0 ⟨#[]⟩ 0
  have hb6 := box_below w5 0 0 0 ⟨#[]⟩ 0
  have hx6 := hx5.below hb6
  have hy6 := hy5.below hb6
  have HB6 := hide (HB5.out.trans (hb6.mono HB5.out.size))
  clear hx5 hy5 hb6 HB5
  go_wp2_with fail
  generalize w5.alloc _ = w6 at *
  refine (Decode_len none 0 0 w6 (by decide)).mono ?_
  rintro r w7 ⟨⟨p7, rfl, _⟩, hb7⟩
  have hx7 := hx6.below hb7
  have hy7 := hy6.below hb7
  have hz7 := hz.below hb7
  have HB7 := hide (HB6.out.trans (hb7.mono HB6.out.size))
  have hb8 := box_below w7 0 0 0 ⟨#[]⟩ 0
  have hx8 := hx7.below hb8
  have hy8 := hy7.below hb8
  have hz8 := hz7.below hb8
  have hv8 := Bx.new w7 0 0 0 ⟨#[]⟩ 0
  have HB8 := hide (HB7.out.trans (hb8.mono HB7.out.size))
  clear hx6 hy6 hz hb7 HB6 hx7 hy7 hz7 hb8 HB7
  clear hx8 hy8 hz8 hv8
  go_wp2
  go_ret
  exact ⟨rfl, HB8.out⟩

theorem Kinds_walk (gen seq : Nat) (block : Int) (d : ByteArray) (num : Nat) (w : World) (ht : Tab w) (hg : gen ≤ 4294967295) (hs : seq ≤ 4294967295) (_hb : Int64 block) (hd : d.size ≤ maxLen) (hm : num ≤ 4294967295) :
    Calls Tryd.prog 8 #[.int .u32 (gen : Int), .int .u32 (seq : Int), .int .i64 block, .string d, .int .u32 (num : Int)] w fun e w' => e = .returned (.bool true) ∧ Below w.heap.size w w' := by
  unfold maxLen at hd
  rcases Nat.lt_or_ge 300 d.size with h | h
  · exact Kinds_long gen seq num block d w ht h (by omega)
  · rcases (by omega : block < 0 ∨ (0 ≤ block ∧ ¬ block < 8) ∨ (0 ≤ block ∧ block < 8 ∧ ¬ d.size ≤ 16) ∨ (0 ≤ block ∧ block < 8 ∧ d.size ≤ 16)) with h1 | ⟨h1, h2⟩ | ⟨h1, h2, h3⟩ | ⟨h1, h2, h3⟩ <;> rcases Nat.lt_or_ge 0 num with hn | hn
    · exact Kinds_low_yes gen seq num block d w ht hg hs hm h1 h hn
    · exact Kinds_low_no gen seq num block d w ht hg hs hm h1 h (by omega)
    · exact Kinds_high_yes gen seq num block d w ht hg hs hm h1 h2 h hn
    · exact Kinds_high_no gen seq num block d w ht hg hs hm h1 h2 h (by omega)
    · exact Kinds_big_yes gen seq num block d w ht hg hs hm h1 h2 h3 h hn
    · exact Kinds_big_no gen seq num block d w ht hg hs hm h1 h2 h3 h (by omega)
    · exact Kinds_good_yes gen seq num block d w ht hg hs hm h1 h2 h3 hn
    · exact Kinds_good_no gen seq num block d w ht hg hs hm h1 h2 h3 (by omega)

end Go.Proofs.YtkimhfcnkbakiaaDoor.Rc
