/-
  The walk of RecordBack: for every generation, record and bytes it returns true; nothing that was there is changed. Condition: the table of half bytes holds what the program's own text lays.
-/
import Derived.OpenShut
import Derived.Test.YtkimhfcnkbakiaaDoorRcUnlike
namespace Go.Proofs.YtkimhfcnkbakiaaDoor.Rc
open Go.RowKit
open Pk Sm Fa

theorem isRec {l : List UInt8} (h : ¬ NoRec l) : ∃ (g s k b : Int) (d : ByteArray) (m : Int), Rgt s k b d.size m ∧ Num g ∧ l = sec g s k b d m := by
  apply Classical.byContradiction
  intro hc
  exact h fun g s k b d m h1 h2 h3 => hc ⟨g, s, k, b, d, m, h1, h2, h3⟩

set_option maxRecDepth 100000 in
set_option maxHeartbeats 2000000 in
theorem Back_longR (g s k b : Int) (d : ByteArray) (m : Int) (a : ByteArray) (w : World) (ht : Tab w)  (hd : 2000 ≤ d.size) (hd2 : d.size ≤ 9223372036854775807) :
    Calls Tryd.prog 5 #[.int .i64 g, rec5 s k b d m, .string a] w fun e w' => e = .returned (.bool true) ∧ Below w.heap.size w w' := by
  have hpos := ht.pos
  have Ht := hide ht
  have hx := Bx.new w s k b d m
  have HB0 := hide (box_below w s k b d m)
  clear ht
  go_enter Tryd.func5, Tryd.ntmps5
  go_wp2_with fail
  generalize w.alloc _ = w0 at *
  refine (awake_any w0 (Ht.out.below HB0.out hpos)).mono ?_
  rintro r w1 ⟨rfl, hb1⟩
  have hx1 := hx.below hb1
  have HB1 := hide (HB0.out.trans (hb1.mono HB0.out.size))
  have xa0 := hx1.c0
  have xa1 := hx1.c1
  have xa2 := hx1.c2
  have xa3 := hx1.c3
  have xa4 := hx1.c4
  clear hx hb1 HB0
  go_wp2_with fail
  refine (few_any s k b d m w1 (by omega)).mono ?_
  rintro r w2 ⟨⟨B, rfl, hB⟩, hb2⟩
  obtain rfl : B = false := by cases B with | false => rfl | true => exact absurd (hB.1 rfl) (by omega)
  have hx2 := hx1.below hb2
  have HB2 := hide (HB1.out.trans (hb2.mono HB1.out.size))
  clear hx1 hb2 HB1 hB xa0 xa1 xa2 xa3 xa4
  go_wp2_with fail
  refine (awake_any w2 (Ht.out.below HB2.out hpos)).mono ?_
  rintro r w4 ⟨rfl, hb4⟩
  have HB4 := hide (HB2.out.trans (hb4.mono HB2.out.size))
  clear hb4 hx2
  go_wp2
  go_ret
  exact ⟨rfl, HB4.out⟩

set_option maxRecDepth 100000 in
set_option maxHeartbeats 2000000 in
theorem Back_longA (g s k b : Int) (d : ByteArray) (m : Int) (a : ByteArray) (w : World) (ht : Tab w)  (hd : d.size < 2000) (ha : 2000 < a.size) (ha2 : a.size ≤ 9223372036854775807) :
    Calls Tryd.prog 5 #[.int .i64 g, rec5 s k b d m, .string a] w fun e w' => e = .returned (.bool true) ∧ Below w.heap.size w w' := by
  have hpos := ht.pos
  have Ht := hide ht
  have hx := Bx.new w s k b d m
  have HB0 := hide (box_below w s k b d m)
  clear ht
  go_enter Tryd.func5, Tryd.ntmps5
  go_wp2_with fail
  generalize w.alloc _ = w0 at *
  refine (awake_any w0 (Ht.out.below HB0.out hpos)).mono ?_
  rintro r w1 ⟨rfl, hb1⟩
  have hx1 := hx.below hb1
  have HB1 := hide (HB0.out.trans (hb1.mono HB0.out.size))
  have xa0 := hx1.c0
  have xa1 := hx1.c1
  have xa2 := hx1.c2
  have xa3 := hx1.c3
  have xa4 := hx1.c4
  clear hx hb1 HB0
  go_wp2_with fail
  refine (few_any s k b d m w1 (by omega)).mono ?_
  rintro r w2 ⟨⟨B, rfl, hB⟩, hb2⟩
  obtain rfl : B = true := by exact hB.2 hd
  have hx2 := hx1.below hb2
  have HB2 := hide (HB1.out.trans (hb2.mono HB1.out.size))
  clear hx1 hb2 HB1 hB xa0 xa1 xa2 xa3 xa4
  go_wp2_with fail
  refine (awake_any w2 (Ht.out.below HB2.out hpos)).mono ?_
  rintro r w4 ⟨rfl, hb4⟩
  have HB4 := hide (HB2.out.trans (hb4.mono HB2.out.size))
  clear hb4 hx2
  go_wp2
  go_ret
  exact ⟨rfl, HB4.out⟩

set_option maxRecDepth 100000 in
set_option maxHeartbeats 2000000 in
theorem Back_esum (g s k b : Int) (d : ByteArray) (m : Int) (a : ByteArray) (w : World) (ht : Tab w)  (hd : d.size < 2000) (ha : a.size ≤ 2000) (hr : Rgt s k b d.size m ∧ Num g) (hn : NoSum a.data.toList) :
    Calls Tryd.prog 5 #[.int .i64 g, rec5 s k b d m, .string a] w fun e w' => e = .returned (.bool true) ∧ Below w.heap.size w w' := by
  have HN := hide hn
  clear hn
  have hpos := ht.pos
  have Ht := hide ht
  have hx := Bx.new w s k b d m
  have HB0 := hide (box_below w s k b d m)
  clear ht
  go_enter Tryd.func5, Tryd.ntmps5
  go_wp2_with fail
  generalize w.alloc _ = w0 at *
  refine (awake_any w0 (Ht.out.below HB0.out hpos)).mono ?_
  rintro r w1 ⟨rfl, hb1⟩
  have hx1 := hx.below hb1
  have HB1 := hide (HB0.out.trans (hb1.mono HB0.out.size))
  have xa0 := hx1.c0
  have xa1 := hx1.c1
  have xa2 := hx1.c2
  have xa3 := hx1.c3
  have xa4 := hx1.c4
  clear hx hb1 HB0
  go_wp2_with fail
  refine (few_any s k b d m w1 (by omega)).mono ?_
  rintro r w2 ⟨⟨B, rfl, hB⟩, hb2⟩
  obtain rfl : B = true := by exact hB.2 hd
  have hx2 := hx1.below hb2
  have HB2 := hide (HB1.out.trans (hb2.mono HB1.out.size))
  clear hx1 hb2 HB1 hB xa0 xa1 xa2 xa3 xa4
  have xa0 := hx2.c0
  have xa1 := hx2.c1
  have xa2 := hx2.c2
  have xa3 := hx2.c3
  have xa4 := hx2.c4
  go_wp2_with fail
  refine (Encode_good g s k b d m w2 hr.1 hr.2 (Ht.out.below HB2.out hpos)).mono ?_
  rintro r w3 ⟨p3, o3, c3, rfl, hc3, _, _, hby3, hb3⟩
  have hx3 := hx2.below hb3
  have HB3 := hide (HB2.out.trans (hb3.mono HB2.out.size))
  clear hx2 hb3 HB2 xa0 xa1 xa2 xa3 xa4
  go_wp2_with fail
  refine (Decode_good _ c3 w3 g s k b d m hc3 hby3 (Ht.out.below HB3.out hpos) hr.1 hr.2).mono ?_
  rintro r w4 ⟨rfl, hb4⟩
  have hx4 := hx3.below hb4
  have HB4 := hide (HB3.out.trans (hb4.mono HB3.out.size))
  have hb5 := box_below w4 s k b d m
  have hz5 := Bx.new w4 s k b d m
  have hx5 := hx4.below hb5
  have HB5 := hide (HB4.out.trans (hb5.mono HB4.out.size))
  clear hx3 hb4 HB3 hx4 hb5 HB4 hby3
  have xa0 := hx5.c0
  have xa1 := hx5.c1
  have xa2 := hx5.c2
  have xa3 := hx5.c3
  have xa4 := hx5.c4
  have za0 := hz5.c0
  have za1 := hz5.c1
  have za2 := hz5.c2
  have za3 := hz5.c3
  have za4 := hz5.c4
  have hneq := fun W => rec_neq s k b d m s k b d m true (same5_self _ _ _ _ _) W
  clear hx5 hz5
  go_wp2_with fail
  clear xa0 xa1 xa2 xa3 xa4 za0 za1 za2 za3 za4 hneq
  generalize w4.alloc _ = w5 at *
  obtain ⟨w6, c6, hc6, hcm6, hcv6, hby6, hb6⟩ := to_bytes w5 a (by unfold maxLen; omega)
  have HB6 := hide (HB5.out.trans (hb6.mono HB5.out.size))
  clear hb6 HB5
  rw [hcv6]
  go_wp2_with fail
  clear hcv6
  refine (Decode_sum _ a.size c6 _ w6 (size_eq a) hc6 hby6 (Ht.out.below HB6.out hpos) HN.out).mono ?_
  rintro r w7 ⟨⟨p7, rfl, _⟩, hb7⟩
  have HB7 := hide (HB6.out.trans (hb7.mono HB6.out.size))
  have hb8 := box_below w7 0 0 0 ⟨#[]⟩ 0
  have hz8 := Bx.new w7 0 0 0 ⟨#[]⟩ 0
  have HB8 := hide (HB7.out.trans (hb8.mono HB7.out.size))
  clear hb7 HB7 hb8 HB6 hby6
  have za0 := hz8.c0
  have za1 := hz8.c1
  have za2 := hz8.c2
  have za3 := hz8.c3
  have za4 := hz8.c4
  have heq := fun W => rec_eql 0 0 0 ⟨#[]⟩ 0 0 0 0 ⟨#[]⟩ 0 true (same5_self _ _ _ _ _) W
  clear hz8
  go_wp2
  go_ret
  exact ⟨rfl, HB8.out⟩

set_option maxRecDepth 100000 in
set_option maxHeartbeats 2000000 in
theorem Back_earg (g s k b : Int) (d : ByteArray) (m : Int) (a : ByteArray) (w : World) (ht : Tab w)  (hd : d.size < 2000) (ha : a.size ≤ 2000) (hr : Rgt s k b d.size m ∧ Num g) (hn : ¬ NoSum a.data.toList) (hn2 : NoRec a.data.toList) :
    Calls Tryd.prog 5 #[.int .i64 g, rec5 s k b d m, .string a] w fun e w' => e = .returned (.bool true) ∧ Below w.heap.size w w' := by
  have HN := hide hn
  have HN2 := hide hn2
  clear hn hn2
  have hpos := ht.pos
  have Ht := hide ht
  have hx := Bx.new w s k b d m
  have HB0 := hide (box_below w s k b d m)
  clear ht
  go_enter Tryd.func5, Tryd.ntmps5
  go_wp2_with fail
  generalize w.alloc _ = w0 at *
  refine (awake_any w0 (Ht.out.below HB0.out hpos)).mono ?_
  rintro r w1 ⟨rfl, hb1⟩
  have hx1 := hx.below hb1
  have HB1 := hide (HB0.out.trans (hb1.mono HB0.out.size))
  have xa0 := hx1.c0
  have xa1 := hx1.c1
  have xa2 := hx1.c2
  have xa3 := hx1.c3
  have xa4 := hx1.c4
  clear hx hb1 HB0
  go_wp2_with fail
  refine (few_any s k b d m w1 (by omega)).mono ?_
  rintro r w2 ⟨⟨B, rfl, hB⟩, hb2⟩
  obtain rfl : B = true := by exact hB.2 hd
  have hx2 := hx1.below hb2
  have HB2 := hide (HB1.out.trans (hb2.mono HB1.out.size))
  clear hx1 hb2 HB1 hB xa0 xa1 xa2 xa3 xa4
  have xa0 := hx2.c0
  have xa1 := hx2.c1
  have xa2 := hx2.c2
  have xa3 := hx2.c3
  have xa4 := hx2.c4
  go_wp2_with fail
  refine (Encode_good g s k b d m w2 hr.1 hr.2 (Ht.out.below HB2.out hpos)).mono ?_
  rintro r w3 ⟨p3, o3, c3, rfl, hc3, _, _, hby3, hb3⟩
  have hx3 := hx2.below hb3
  have HB3 := hide (HB2.out.trans (hb3.mono HB2.out.size))
  clear hx2 hb3 HB2 xa0 xa1 xa2 xa3 xa4
  go_wp2_with fail
  refine (Decode_good _ c3 w3 g s k b d m hc3 hby3 (Ht.out.below HB3.out hpos) hr.1 hr.2).mono ?_
  rintro r w4 ⟨rfl, hb4⟩
  have hx4 := hx3.below hb4
  have HB4 := hide (HB3.out.trans (hb4.mono HB3.out.size))
  have hb5 := box_below w4 s k b d m
  have hz5 := Bx.new w4 s k b d m
  have hx5 := hx4.below hb5
  have HB5 := hide (HB4.out.trans (hb5.mono HB4.out.size))
  clear hx3 hb4 HB3 hx4 hb5 HB4 hby3
  have xa0 := hx5.c0
  have xa1 := hx5.c1
  have xa2 := hx5.c2
  have xa3 := hx5.c3
  have xa4 := hx5.c4
  have za0 := hz5.c0
  have za1 := hz5.c1
  have za2 := hz5.c2
  have za3 := hz5.c3
  have za4 := hz5.c4
  have hneq := fun W => rec_neq s k b d m s k b d m true (same5_self _ _ _ _ _) W
  clear hx5 hz5
  go_wp2_with fail
  clear xa0 xa1 xa2 xa3 xa4 za0 za1 za2 za3 za4 hneq
  generalize w4.alloc _ = w5 at *
  obtain ⟨w6, c6, hc6, hcm6, hcv6, hby6, hb6⟩ := to_bytes w5 a (by unfold maxLen; omega)
  have HB6 := hide (HB5.out.trans (hb6.mono HB5.out.size))
  clear hb6 HB5
  rw [hcv6]
  go_wp2_with fail
  clear hcv6
  refine (Decode_none _ a.size c6 _ w6 (size_eq a) hc6 hby6 (Ht.out.below HB6.out hpos) HN.out HN2.out).mono ?_
  rintro r w7 ⟨⟨p7, rfl, _⟩, hb7⟩
  have HB7 := hide (HB6.out.trans (hb7.mono HB6.out.size))
  have hb8 := box_below w7 0 0 0 ⟨#[]⟩ 0
  have hz8 := Bx.new w7 0 0 0 ⟨#[]⟩ 0
  have HB8 := hide (HB7.out.trans (hb8.mono HB7.out.size))
  clear hb7 HB7 hb8 HB6 hby6
  have za0 := hz8.c0
  have za1 := hz8.c1
  have za2 := hz8.c2
  have za3 := hz8.c3
  have za4 := hz8.c4
  have heq := fun W => rec_eql 0 0 0 ⟨#[]⟩ 0 0 0 0 ⟨#[]⟩ 0 true (same5_self _ _ _ _ _) W
  clear hz8
  go_wp2
  go_ret
  exact ⟨rfl, HB8.out⟩

set_option maxRecDepth 100000 in
set_option maxHeartbeats 2000000 in
theorem Back_erec (g s k b : Int) (d : ByteArray) (m : Int) (a : ByteArray) (w : World) (ht : Tab w) (g' s' k' b' : Int) (d' : ByteArray) (m' : Int) (hd : d.size < 2000) (ha : a.size ≤ 2000) (hr : Rgt s k b d.size m ∧ Num g) (hr2 : Rgt s' k' b' d'.size m') (hg2 : Num g') (hl : a.data.toList = sec g' s' k' b' d' m') :
    Calls Tryd.prog 5 #[.int .i64 g, rec5 s k b d m, .string a] w fun e w' => e = .returned (.bool true) ∧ Below w.heap.size w w' := by
  have HD2 : Hid (d'.size ≤ 16) := by show _ ≤ _; unfold Rgt at hr2; omega
  have HR2 := hide hr2
  have HG2 := hide hg2
  have HL := hide hl
  clear hr2 hg2 hl
  have hpos := ht.pos
  have Ht := hide ht
  have hx := Bx.new w s k b d m
  have HB0 := hide (box_below w s k b d m)
  clear ht
  go_enter Tryd.func5, Tryd.ntmps5
  go_wp2_with fail
  generalize w.alloc _ = w0 at *
  refine (awake_any w0 (Ht.out.below HB0.out hpos)).mono ?_
  rintro r w1 ⟨rfl, hb1⟩
  have hx1 := hx.below hb1
  have HB1 := hide (HB0.out.trans (hb1.mono HB0.out.size))
  have xa0 := hx1.c0
  have xa1 := hx1.c1
  have xa2 := hx1.c2
  have xa3 := hx1.c3
  have xa4 := hx1.c4
  clear hx hb1 HB0
  go_wp2_with fail
  refine (few_any s k b d m w1 (by omega)).mono ?_
  rintro r w2 ⟨⟨B, rfl, hB⟩, hb2⟩
  obtain rfl : B = true := by exact hB.2 hd
  have hx2 := hx1.below hb2
  have HB2 := hide (HB1.out.trans (hb2.mono HB1.out.size))
  clear hx1 hb2 HB1 hB xa0 xa1 xa2 xa3 xa4
  have xa0 := hx2.c0
  have xa1 := hx2.c1
  have xa2 := hx2.c2
  have xa3 := hx2.c3
  have xa4 := hx2.c4
  go_wp2_with fail
  refine (Encode_good g s k b d m w2 hr.1 hr.2 (Ht.out.below HB2.out hpos)).mono ?_
  rintro r w3 ⟨p3, o3, c3, rfl, hc3, _, _, hby3, hb3⟩
  have hx3 := hx2.below hb3
  have HB3 := hide (HB2.out.trans (hb3.mono HB2.out.size))
  clear hx2 hb3 HB2 xa0 xa1 xa2 xa3 xa4
  go_wp2_with fail
  refine (Decode_good _ c3 w3 g s k b d m hc3 hby3 (Ht.out.below HB3.out hpos) hr.1 hr.2).mono ?_
  rintro r w4 ⟨rfl, hb4⟩
  have hx4 := hx3.below hb4
  have HB4 := hide (HB3.out.trans (hb4.mono HB3.out.size))
  have hb5 := box_below w4 s k b d m
  have hz5 := Bx.new w4 s k b d m
  have hx5 := hx4.below hb5
  have HB5 := hide (HB4.out.trans (hb5.mono HB4.out.size))
  clear hx3 hb4 HB3 hx4 hb5 HB4 hby3
  have xa0 := hx5.c0
  have xa1 := hx5.c1
  have xa2 := hx5.c2
  have xa3 := hx5.c3
  have xa4 := hx5.c4
  have za0 := hz5.c0
  have za1 := hz5.c1
  have za2 := hz5.c2
  have za3 := hz5.c3
  have za4 := hz5.c4
  have hneq := fun W => rec_neq s k b d m s k b d m true (same5_self _ _ _ _ _) W
  clear hx5 hz5
  go_wp2_with fail
  clear xa0 xa1 xa2 xa3 xa4 za0 za1 za2 za3 za4 hneq
  generalize w4.alloc _ = w5 at *
  obtain ⟨w6, c6, hc6, hcm6, hcv6, hby6, hb6⟩ := to_bytes w5 a (by unfold maxLen; omega)
  have HB6 := hide (HB5.out.trans (hb6.mono HB5.out.size))
  clear hb6 HB5
  rw [hcv6]
  go_wp2_with fail
  clear hcv6
  have hsz : a.size = 64 := by rw [← size_eq a, HL.out]; exact sec_length HR2.out
  rw [hsz] at hc6 ⊢
  rw [HL.out] at hby6
  refine (Decode_good _ c6 w6 g' s' k' b' d' m' hc6 hby6 (Ht.out.below HB6.out hpos) HR2.out HG2.out).mono ?_
  rintro r w7 ⟨rfl, hb7⟩
  have HB7 := hide (HB6.out.trans (hb7.mono HB6.out.size))
  have hb8 := box_below w7 s' k' b' d' m'
  have hz8 := Bx.new w7 s' k' b' d' m'
  have HB8 := hide (HB7.out.trans (hb8.mono HB7.out.size))
  clear hb7 HB7 hb8 HB6 hby6
  go_wp2_with fail
  generalize w7.alloc _ = w8 at *
  refine (Encode_good g' s' k' b' d' m' w8 HR2.out HG2.out (Ht.out.below HB8.out hpos)).mono ?_
  rintro r w9 ⟨p9, o9, c9, rfl, _, _, _, hby9, hb9⟩
  have hz9 := hz8.below hb9
  have HB9 := hide (HB8.out.trans (hb9.mono HB8.out.size))
  have hst := Sm.run_str w9 _ _ _ 64 c9 (sec_length HR2.out) hby9
  rw [← HL.out, str_of] at hst
  have za0 := hz9.c0
  have za1 := hz9.c1
  have za2 := hz9.c2
  have za3 := hz9.c3
  have za4 := hz9.c4
  clear hz8 hb9 HB8 hby9 hz9
  go_wp2_with fail
  refine (Right_any s' k' b' d' m' w9 (by have := HD2.out; omega)).mono ?_
  rintro r w10 ⟨⟨B, rfl, hB⟩, hb10⟩
  obtain rfl : B = true := hB.2 HR2.out
  have HB10 := hide (HB9.out.trans (hb10.mono HB9.out.size))
  clear hB hb10 HB9 hst
  go_wp2
  go_ret
  exact ⟨rfl, HB10.out⟩

set_option maxRecDepth 100000 in
set_option maxHeartbeats 2000000 in
theorem Back_xsum (g s k b : Int) (d : ByteArray) (m : Int) (a : ByteArray) (w : World) (ht : Tab w)  (hd : d.size < 2000) (ha : a.size ≤ 2000) (hr : ¬ (Rgt s k b d.size m ∧ Num g)) (hn : NoSum a.data.toList) :
    Calls Tryd.prog 5 #[.int .i64 g, rec5 s k b d m, .string a] w fun e w' => e = .returned (.bool true) ∧ Below w.heap.size w w' := by
  have HN := hide hn
  clear hn
  have hpos := ht.pos
  have Ht := hide ht
  have hx := Bx.new w s k b d m
  have HB0 := hide (box_below w s k b d m)
  clear ht
  go_enter Tryd.func5, Tryd.ntmps5
  go_wp2_with fail
  generalize w.alloc _ = w0 at *
  refine (awake_any w0 (Ht.out.below HB0.out hpos)).mono ?_
  rintro r w1 ⟨rfl, hb1⟩
  have hx1 := hx.below hb1
  have HB1 := hide (HB0.out.trans (hb1.mono HB0.out.size))
  have xa0 := hx1.c0
  have xa1 := hx1.c1
  have xa2 := hx1.c2
  have xa3 := hx1.c3
  have xa4 := hx1.c4
  clear hx hb1 HB0
  go_wp2_with fail
  refine (few_any s k b d m w1 (by omega)).mono ?_
  rintro r w2 ⟨⟨B, rfl, hB⟩, hb2⟩
  obtain rfl : B = true := by exact hB.2 hd
  have hx2 := hx1.below hb2
  have HB2 := hide (HB1.out.trans (hb2.mono HB1.out.size))
  clear hx1 hb2 HB1 hB xa0 xa1 xa2 xa3 xa4
  have xa0 := hx2.c0
  have xa1 := hx2.c1
  have xa2 := hx2.c2
  have xa3 := hx2.c3
  have xa4 := hx2.c4
  go_wp2_with fail
  refine (Encode_bad g s k b d m w2 hr (by omega)).mono ?_
  rintro r w3 ⟨p3, rfl, _, hb3⟩
  have hx3 := hx2.below hb3
  have HB3 := hide (HB2.out.trans (hb3.mono HB2.out.size))
  clear hx2 hb3 HB2 xa0 xa1 xa2 xa3 xa4
  clear hx3
  have HB5 := HB3
  clear HB3
  obtain ⟨w6, c6, hc6, hcm6, hcv6, hby6, hb6⟩ := to_bytes w3 a (by unfold maxLen; omega)
  have HB6 := hide (HB5.out.trans (hb6.mono HB5.out.size))
  clear hb6 HB5
  go_wp2_with fail
  clear hcv6
  refine (Decode_sum _ a.size c6 _ w6 (size_eq a) hc6 hby6 (Ht.out.below HB6.out hpos) HN.out).mono ?_
  rintro r w7 ⟨⟨p7, rfl, _⟩, hb7⟩
  have HB7 := hide (HB6.out.trans (hb7.mono HB6.out.size))
  have hb8 := box_below w7 0 0 0 ⟨#[]⟩ 0
  have hz8 := Bx.new w7 0 0 0 ⟨#[]⟩ 0
  have HB8 := hide (HB7.out.trans (hb8.mono HB7.out.size))
  clear hb7 HB7 hb8 HB6 hby6
  have za0 := hz8.c0
  have za1 := hz8.c1
  have za2 := hz8.c2
  have za3 := hz8.c3
  have za4 := hz8.c4
  have heq := fun W => rec_eql 0 0 0 ⟨#[]⟩ 0 0 0 0 ⟨#[]⟩ 0 true (same5_self _ _ _ _ _) W
  clear hz8
  go_wp2
  go_ret
  exact ⟨rfl, HB8.out⟩

set_option maxRecDepth 100000 in
set_option maxHeartbeats 2000000 in
theorem Back_xarg (g s k b : Int) (d : ByteArray) (m : Int) (a : ByteArray) (w : World) (ht : Tab w)  (hd : d.size < 2000) (ha : a.size ≤ 2000) (hr : ¬ (Rgt s k b d.size m ∧ Num g)) (hn : ¬ NoSum a.data.toList) (hn2 : NoRec a.data.toList) :
    Calls Tryd.prog 5 #[.int .i64 g, rec5 s k b d m, .string a] w fun e w' => e = .returned (.bool true) ∧ Below w.heap.size w w' := by
  have HN := hide hn
  have HN2 := hide hn2
  clear hn hn2
  have hpos := ht.pos
  have Ht := hide ht
  have hx := Bx.new w s k b d m
  have HB0 := hide (box_below w s k b d m)
  clear ht
  go_enter Tryd.func5, Tryd.ntmps5
  go_wp2_with fail
  generalize w.alloc _ = w0 at *
  refine (awake_any w0 (Ht.out.below HB0.out hpos)).mono ?_
  rintro r w1 ⟨rfl, hb1⟩
  have hx1 := hx.below hb1
  have HB1 := hide (HB0.out.trans (hb1.mono HB0.out.size))
  have xa0 := hx1.c0
  have xa1 := hx1.c1
  have xa2 := hx1.c2
  have xa3 := hx1.c3
  have xa4 := hx1.c4
  clear hx hb1 HB0
  go_wp2_with fail
  refine (few_any s k b d m w1 (by omega)).mono ?_
  rintro r w2 ⟨⟨B, rfl, hB⟩, hb2⟩
  obtain rfl : B = true := by exact hB.2 hd
  have hx2 := hx1.below hb2
  have HB2 := hide (HB1.out.trans (hb2.mono HB1.out.size))
  clear hx1 hb2 HB1 hB xa0 xa1 xa2 xa3 xa4
  have xa0 := hx2.c0
  have xa1 := hx2.c1
  have xa2 := hx2.c2
  have xa3 := hx2.c3
  have xa4 := hx2.c4
  go_wp2_with fail
  refine (Encode_bad g s k b d m w2 hr (by omega)).mono ?_
  rintro r w3 ⟨p3, rfl, _, hb3⟩
  have hx3 := hx2.below hb3
  have HB3 := hide (HB2.out.trans (hb3.mono HB2.out.size))
  clear hx2 hb3 HB2 xa0 xa1 xa2 xa3 xa4
  clear hx3
  have HB5 := HB3
  clear HB3
  obtain ⟨w6, c6, hc6, hcm6, hcv6, hby6, hb6⟩ := to_bytes w3 a (by unfold maxLen; omega)
  have HB6 := hide (HB5.out.trans (hb6.mono HB5.out.size))
  clear hb6 HB5
  go_wp2_with fail
  clear hcv6
  refine (Decode_none _ a.size c6 _ w6 (size_eq a) hc6 hby6 (Ht.out.below HB6.out hpos) HN.out HN2.out).mono ?_
  rintro r w7 ⟨⟨p7, rfl, _⟩, hb7⟩
  have HB7 := hide (HB6.out.trans (hb7.mono HB6.out.size))
  have hb8 := box_below w7 0 0 0 ⟨#[]⟩ 0
  have hz8 := Bx.new w7 0 0 0 ⟨#[]⟩ 0
  have HB8 := hide (HB7.out.trans (hb8.mono HB7.out.size))
  clear hb7 HB7 hb8 HB6 hby6
  have za0 := hz8.c0
  have za1 := hz8.c1
  have za2 := hz8.c2
  have za3 := hz8.c3
  have za4 := hz8.c4
  have heq := fun W => rec_eql 0 0 0 ⟨#[]⟩ 0 0 0 0 ⟨#[]⟩ 0 true (same5_self _ _ _ _ _) W
  clear hz8
  go_wp2
  go_ret
  exact ⟨rfl, HB8.out⟩

set_option maxRecDepth 100000 in
set_option maxHeartbeats 2000000 in
theorem Back_xrec (g s k b : Int) (d : ByteArray) (m : Int) (a : ByteArray) (w : World) (ht : Tab w) (g' s' k' b' : Int) (d' : ByteArray) (m' : Int) (hd : d.size < 2000) (ha : a.size ≤ 2000) (hr : ¬ (Rgt s k b d.size m ∧ Num g)) (hr2 : Rgt s' k' b' d'.size m') (hg2 : Num g') (hl : a.data.toList = sec g' s' k' b' d' m') :
    Calls Tryd.prog 5 #[.int .i64 g, rec5 s k b d m, .string a] w fun e w' => e = .returned (.bool true) ∧ Below w.heap.size w w' := by
  have HD2 : Hid (d'.size ≤ 16) := by show _ ≤ _; unfold Rgt at hr2; omega
  have HR2 := hide hr2
  have HG2 := hide hg2
  have HL := hide hl
  clear hr2 hg2 hl
  have hpos := ht.pos
  have Ht := hide ht
  have hx := Bx.new w s k b d m
  have HB0 := hide (box_below w s k b d m)
  clear ht
  go_enter Tryd.func5, Tryd.ntmps5
  go_wp2_with fail
  generalize w.alloc _ = w0 at *
  refine (awake_any w0 (Ht.out.below HB0.out hpos)).mono ?_
  rintro r w1 ⟨rfl, hb1⟩
  have hx1 := hx.below hb1
  have HB1 := hide (HB0.out.trans (hb1.mono HB0.out.size))
  have xa0 := hx1.c0
  have xa1 := hx1.c1
  have xa2 := hx1.c2
  have xa3 := hx1.c3
  have xa4 := hx1.c4
  clear hx hb1 HB0
  go_wp2_with fail
  refine (few_any s k b d m w1 (by omega)).mono ?_
  rintro r w2 ⟨⟨B, rfl, hB⟩, hb2⟩
  obtain rfl : B = true := by exact hB.2 hd
  have hx2 := hx1.below hb2
  have HB2 := hide (HB1.out.trans (hb2.mono HB1.out.size))
  clear hx1 hb2 HB1 hB xa0 xa1 xa2 xa3 xa4
  have xa0 := hx2.c0
  have xa1 := hx2.c1
  have xa2 := hx2.c2
  have xa3 := hx2.c3
  have xa4 := hx2.c4
  go_wp2_with fail
  refine (Encode_bad g s k b d m w2 hr (by omega)).mono ?_
  rintro r w3 ⟨p3, rfl, _, hb3⟩
  have hx3 := hx2.below hb3
  have HB3 := hide (HB2.out.trans (hb3.mono HB2.out.size))
  clear hx2 hb3 HB2 xa0 xa1 xa2 xa3 xa4
  clear hx3
  have HB5 := HB3
  clear HB3
  obtain ⟨w6, c6, hc6, hcm6, hcv6, hby6, hb6⟩ := to_bytes w3 a (by unfold maxLen; omega)
  have HB6 := hide (HB5.out.trans (hb6.mono HB5.out.size))
  clear hb6 HB5
  go_wp2_with fail
  clear hcv6
  have hsz : a.size = 64 := by rw [← size_eq a, HL.out]; exact sec_length HR2.out
  rw [hsz] at hc6 ⊢
  rw [HL.out] at hby6
  refine (Decode_good _ c6 w6 g' s' k' b' d' m' hc6 hby6 (Ht.out.below HB6.out hpos) HR2.out HG2.out).mono ?_
  rintro r w7 ⟨rfl, hb7⟩
  have HB7 := hide (HB6.out.trans (hb7.mono HB6.out.size))
  have hb8 := box_below w7 s' k' b' d' m'
  have hz8 := Bx.new w7 s' k' b' d' m'
  have HB8 := hide (HB7.out.trans (hb8.mono HB7.out.size))
  clear hb7 HB7 hb8 HB6 hby6
  go_wp2_with fail
  generalize w7.alloc _ = w8 at *
  refine (Encode_good g' s' k' b' d' m' w8 HR2.out HG2.out (Ht.out.below HB8.out hpos)).mono ?_
  rintro r w9 ⟨p9, o9, c9, rfl, _, _, _, hby9, hb9⟩
  have hz9 := hz8.below hb9
  have HB9 := hide (HB8.out.trans (hb9.mono HB8.out.size))
  have hst := Sm.run_str w9 _ _ _ 64 c9 (sec_length HR2.out) hby9
  rw [← HL.out, str_of] at hst
  have za0 := hz9.c0
  have za1 := hz9.c1
  have za2 := hz9.c2
  have za3 := hz9.c3
  have za4 := hz9.c4
  clear hz8 hb9 HB8 hby9 hz9
  go_wp2_with fail
  refine (Right_any s' k' b' d' m' w9 (by have := HD2.out; omega)).mono ?_
  rintro r w10 ⟨⟨B, rfl, hB⟩, hb10⟩
  obtain rfl : B = true := hB.2 HR2.out
  have HB10 := hide (HB9.out.trans (hb10.mono HB9.out.size))
  clear hB hb10 HB9 hst
  go_wp2
  go_ret
  exact ⟨rfl, HB10.out⟩

theorem Back_walk (g s k b : Int) (d : ByteArray) (m : Int) (a : ByteArray) (w : World) (ht : Tab w) (_hg : Int64 g) (hd : d.size ≤ maxLen) (ha : a.size ≤ maxLen) :
    Calls Tryd.prog 5 #[.int .i64 g, rec5 s k b d m, .string a] w fun e w' => e = .returned (.bool true) ∧ Below w.heap.size w w' := by
  unfold maxLen at hd ha
  rcases Nat.lt_or_ge d.size 2000 with h1 | h1
  · rcases Nat.lt_or_ge 2000 a.size with h2 | h2
    · exact Back_longA g s k b d m a w ht h1 h2 (by omega)
    · by_cases hr : Rgt s k b d.size m ∧ Num g
      · by_cases hn : NoSum a.data.toList
        · exact Back_esum g s k b d m a w ht h1 h2 hr hn
        · by_cases hn2 : NoRec a.data.toList
          · exact Back_earg g s k b d m a w ht h1 h2 hr hn hn2
          · obtain ⟨g', s', k', b', d', m', hr2, hg2, hl⟩ := isRec hn2
            exact Back_erec g s k b d m a w ht g' s' k' b' d' m' h1 h2 hr hr2 hg2 hl
      · by_cases hn : NoSum a.data.toList
        · exact Back_xsum g s k b d m a w ht h1 h2 hr hn
        · by_cases hn2 : NoRec a.data.toList
          · exact Back_xarg g s k b d m a w ht h1 h2 hr hn hn2
          · obtain ⟨g', s', k', b', d', m', hr2, hg2, hl⟩ := isRec hn2
            exact Back_xrec g s k b d m a w ht g' s' k' b' d' m' h1 h2 hr hr2 hg2 hl
  · exact Back_longR g s k b d m a w ht h1 (by omega)

end Go.Proofs.YtkimhfcnkbakiaaDoor.Rc
