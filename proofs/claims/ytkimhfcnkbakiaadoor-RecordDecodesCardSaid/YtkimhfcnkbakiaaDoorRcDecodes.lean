/-
  The walk of RecordDecodes: for every bytes it returns true; nothing that was there is changed. Conditions: the table of half bytes and the library's variable errors.errorType hold what the program's own text lays.
-/
import Derived.OpenShut
import Derived.Test.YtkimhfcnkbakiaaDoorFaPathB
import Derived.Test.YtkimhfcnkbakiaaDoorRcBack
import Derived.Test.YtkimhfcnkbakiaaDoorRcRefO
namespace Go.Proofs.YtkimhfcnkbakiaaDoor.Rc
open Go.RowKit
open Pk hiding str str_data str_size str_of run_str head_str str_append
open Sm hiding run_str
open Fa

theorem First_flt (v : Value) (s e : Int) (w : World) (hty : Ety w) (h : Flt1 w v s e) :
    Calls Tryd.prog 13 #[v, .string nam] w fun r w' => r = .returned (.tuple #[.int .i64 s, .bool true]) ∧ Below w.heap.size w w' := by
  obtain ⟨p, rfl, hc⟩ := h
  have hF := First_any _ _ _ nam 1 w rfl hty hc (Or.inr ⟨e, rfl⟩) (by omega)
  have hf : fnd (pls [(p, nam, s)]) nam = (s, true) := fnd_yes (by simp)
  rw [hf] at hF
  exact hF
theorem First_nil (w : World) (hty : Ety w) :
    Calls Tryd.prog 13 #[.nilIface, .string nam] w fun r w' => r = .returned (.tuple #[.int .i64 0, .bool false]) ∧ Below w.heap.size w w' :=
  First_any [] .nilIface .nilIface nam 0 w rfl hty rfl (Or.inl rfl) (by omega)
theorem Code_flt (v : Value) (s e : Int) (w : World) (hty : Ety w) (h : Flt1 w v s e) :
    Calls Tryd.prog 16 #[v] w fun r w' => r = .returned (.int .i64 e) ∧ Below w.heap.size w w' := by
  obtain ⟨p, rfl, hc⟩ := h
  exact Code_any _ _ _ e w hty hc (Or.inr rfl) (by simp)
theorem Code_nil (w : World) (hty : Ety w) :
    Calls Tryd.prog 16 #[.nilIface] w fun r w' => r = .returned (.int .i64 0) ∧ Below w.heap.size w w' :=
  Code_any [] .nilIface .nilIface 0 w hty rfl (Or.inl ⟨rfl, rfl⟩) (by simp)

set_option maxRecDepth 100000 in
theorem Decodes_long (a : ByteArray) (w : World) (ht : Tab w) (ha : 2000 < a.size) (ha2 : a.size ≤ 9223372036854775807) :
    Calls Tryd.prog 4 #[.string a] w fun e w' => e = .returned (.bool true) ∧ Below w.heap.size w w' := by
  have hpos := ht.pos
  go_enter Tryd.func4, Tryd.ntmps4
  go_wp2_with fail
  refine (awake_any w ht).mono ?_
  rintro r w1 ⟨rfl, hb1⟩
  go_wp2_with fail
  refine (awake_any w1 (ht.below hb1 hpos)).mono ?_
  rintro r w2 ⟨rfl, hb2⟩
  go_wp2
  go_ret
  exact ⟨rfl, hb1.trans (hb2.mono hb1.size)⟩

set_option maxRecDepth 100000 in
set_option maxHeartbeats 2000000 in
theorem Decodes_sum (a : ByteArray) (w : World) (ht : Tab w) (hty : Ety w) (ha : a.size ≤ 2000) (hn : NoSum a.data.toList) :
    Calls Tryd.prog 4 #[.string a] w fun e w' => e = .returned (.bool true) ∧ Below w.heap.size w w' := by
  have HN := hide hn
  clear hn
  have hpos := ht.pos
  have Ht := hide ht
  have Hty := hide hty
  clear ht hty
  go_enter Tryd.func4, Tryd.ntmps4
  go_wp2_with fail
  refine (awake_any w Ht.out).mono ?_
  rintro r w1 ⟨rfl, hb1⟩
  obtain ⟨w2, c2, hc2, hcm2, hcv2, hby2, hb2⟩ := to_bytes w1 a (by unfold maxLen; omega)
  have HB2 := hide (hb1.trans (hb2.mono hb1.size))
  clear hb1 hb2
  go_wp2_with fail
  clear hcv2
  refine (Decode_sum _ a.size c2 _ w2 (size_eq a) hc2 hby2 (Ht.out.below HB2.out hpos) HN.out).mono ?_
  rintro r w3 ⟨⟨p3, rfl, hf3⟩, hb3⟩
  have HB3 := hide (HB2.out.trans (hb3.mono HB2.out.size))
  have hx4 := Bx.new w3 0 0 0 ⟨#[]⟩ 0
  have hb4 := box_below w3 0 0 0 ⟨#[]⟩ 0
  have HB4 := hide (HB3.out.trans (hb4.mono HB3.out.size))
  have hf4 := hf3.below (Nat.le_refl _) hb4
  clear hf3
  clear hb3 hb4 hby2 HB2 HB3
  go_wp2_with fail
  generalize w3.alloc _ = w4 at *
  refine (rDecode_sum a w4 ha HN.out).mono ?_
  rintro r w5 ⟨rfl, hb5⟩
  have hx5 := hx4.below hb5
  have HB5 := hide (HB4.out.trans (hb5.mono HB4.out.size))
  have hy6 := Bx.new w5 0 0 0 ⟨#[]⟩ 0
  have hb6 := box_below w5 0 0 0 ⟨#[]⟩ 0
  have hx6 := hx5.below hb6
  have HB6 := hide (HB5.out.trans (hb6.mono HB5.out.size))
  have hf5 := hf4.below (Nat.le_refl _) hb5
  have hf6 := hf5.below (Nat.le_refl _) hb6
  clear hf4 hf5
  clear hx4 hx5 hb5 hb6 HB4 HB5
  go_wp2_with fail
  generalize w5.alloc _ = w6 at *
  refine (First_flt _ 0 4 w6 (Hty.out.below HB6.out Hty.out.lt) hf6).mono ?_
  rintro r w7 ⟨rfl, hb7⟩
  have hx7 := hx6.below hb7
  have hy7 := hy6.below hb7
  have HB7 := hide (HB6.out.trans (hb7.mono HB6.out.size))
  have hf7 := hf6.below (Nat.le_refl _) hb7
  clear hf6
  have xc0 := hx7.c0
  have xc1 := hx7.c1
  have xc2 := hx7.c2
  have xc3 := hx7.c3
  have xc4 := hx7.c4
  have yc0 := hy7.c0
  have yc1 := hy7.c1
  have yc2 := hy7.c2
  have yc3 := hy7.c3
  have yc4 := hy7.c4
  have heq := fun W => rec_eql 0 0 0 ⟨#[]⟩ 0 0 0 0 ⟨#[]⟩ 0 true (same5_self _ _ _ _ _) W
  clear hx6 hy6 hb7 HB6 hx7 hy7
  go_wp2_with fail
  refine (Code_flt _ 0 4 w7 (Hty.out.below HB7.out Hty.out.lt) hf7).mono ?_
  rintro r w8 ⟨rfl, hb8⟩
  have HB8 := hide (HB7.out.trans (hb8.mono HB7.out.size))
  clear hb8 xc0 xc1 xc2 xc3 xc4 yc0 yc1 yc2 yc3 yc4 heq hf7
  go_wp2
  go_ret
  exact ⟨rfl, HB8.out⟩

set_option maxRecDepth 100000 in
set_option maxHeartbeats 2000000 in
theorem Decodes_none (a : ByteArray) (w : World) (ht : Tab w) (hty : Ety w) (ha : a.size ≤ 2000) (hn : ¬ NoSum a.data.toList) (hn2 : NoRec a.data.toList) :
    Calls Tryd.prog 4 #[.string a] w fun e w' => e = .returned (.bool true) ∧ Below w.heap.size w w' := by
  have HN := hide hn
  have HN2 := hide hn2
  clear hn hn2
  have hpos := ht.pos
  have Ht := hide ht
  have Hty := hide hty
  clear ht hty
  go_enter Tryd.func4, Tryd.ntmps4
  go_wp2_with fail
  refine (awake_any w Ht.out).mono ?_
  rintro r w1 ⟨rfl, hb1⟩
  obtain ⟨w2, c2, hc2, hcm2, hcv2, hby2, hb2⟩ := to_bytes w1 a (by unfold maxLen; omega)
  have HB2 := hide (hb1.trans (hb2.mono hb1.size))
  clear hb1 hb2
  go_wp2_with fail
  clear hcv2
  refine (Decode_none _ a.size c2 _ w2 (size_eq a) hc2 hby2 (Ht.out.below HB2.out hpos) HN.out HN2.out).mono ?_
  rintro r w3 ⟨⟨p3, rfl, hf3⟩, hb3⟩
  have HB3 := hide (HB2.out.trans (hb3.mono HB2.out.size))
  have hx4 := Bx.new w3 0 0 0 ⟨#[]⟩ 0
  have hb4 := box_below w3 0 0 0 ⟨#[]⟩ 0
  have HB4 := hide (HB3.out.trans (hb4.mono HB3.out.size))
  have hf4 := hf3.below (Nat.le_refl _) hb4
  clear hf3
  clear hb3 hb4 hby2 HB2 HB3
  go_wp2_with fail
  generalize w3.alloc _ = w4 at *
  refine (rDecode_none a w4 HN.out HN2.out).mono ?_
  rintro r w5 ⟨rfl, hb5⟩
  have hx5 := hx4.below hb5
  have HB5 := hide (HB4.out.trans (hb5.mono HB4.out.size))
  have hy6 := Bx.new w5 0 0 0 ⟨#[]⟩ 0
  have hb6 := box_below w5 0 0 0 ⟨#[]⟩ 0
  have hx6 := hx5.below hb6
  have HB6 := hide (HB5.out.trans (hb6.mono HB5.out.size))
  have hf5 := hf4.below (Nat.le_refl _) hb5
  have hf6 := hf5.below (Nat.le_refl _) hb6
  clear hf4 hf5
  clear hx4 hx5 hb5 hb6 HB4 HB5
  go_wp2_with fail
  generalize w5.alloc _ = w6 at *
  refine (First_flt _ 0 1 w6 (Hty.out.below HB6.out Hty.out.lt) hf6).mono ?_
  rintro r w7 ⟨rfl, hb7⟩
  have hx7 := hx6.below hb7
  have hy7 := hy6.below hb7
  have HB7 := hide (HB6.out.trans (hb7.mono HB6.out.size))
  have hf7 := hf6.below (Nat.le_refl _) hb7
  clear hf6
  have xc0 := hx7.c0
  have xc1 := hx7.c1
  have xc2 := hx7.c2
  have xc3 := hx7.c3
  have xc4 := hx7.c4
  have yc0 := hy7.c0
  have yc1 := hy7.c1
  have yc2 := hy7.c2
  have yc3 := hy7.c3
  have yc4 := hy7.c4
  have heq := fun W => rec_eql 0 0 0 ⟨#[]⟩ 0 0 0 0 ⟨#[]⟩ 0 true (same5_self _ _ _ _ _) W
  clear hx6 hy6 hb7 HB6 hx7 hy7
  go_wp2_with fail
  refine (Code_flt _ 0 1 w7 (Hty.out.below HB7.out Hty.out.lt) hf7).mono ?_
  rintro r w8 ⟨rfl, hb8⟩
  have HB8 := hide (HB7.out.trans (hb8.mono HB7.out.size))
  clear hb8 xc0 xc1 xc2 xc3 xc4 yc0 yc1 yc2 yc3 yc4 heq hf7
  go_wp2
  go_ret
  exact ⟨rfl, HB8.out⟩

set_option maxRecDepth 100000 in
set_option maxHeartbeats 2000000 in
theorem Decodes_rec (a : ByteArray) (w : World) (ht : Tab w) (hty : Ety w) (ha : a.size ≤ 2000) (g s k b : Int) (d : ByteArray) (m : Int) (hr : Rgt s k b d.size m) (hg : Num g) (hl : a.data.toList = sec g s k b d m) :
    Calls Tryd.prog 4 #[.string a] w fun e w' => e = .returned (.bool true) ∧ Below w.heap.size w w' := by
  have HR := hide hr
  have HG := hide hg
  have HL := hide hl
  clear hr hg hl
  have hpos := ht.pos
  have Ht := hide ht
  have Hty := hide hty
  clear ht hty
  go_enter Tryd.func4, Tryd.ntmps4
  go_wp2_with fail
  refine (awake_any w Ht.out).mono ?_
  rintro r w1 ⟨rfl, hb1⟩
  obtain ⟨w2, c2, hc2, hcm2, hcv2, hby2, hb2⟩ := to_bytes w1 a (by unfold maxLen; omega)
  have HB2 := hide (hb1.trans (hb2.mono hb1.size))
  clear hb1 hb2
  go_wp2_with fail
  clear hcv2
  have hsz : a.size = 64 := by rw [← size_eq a, HL.out]; exact sec_length HR.out
  rw [hsz] at hc2 ⊢
  rw [HL.out] at hby2
  refine (Decode_good _ c2 w2 g s k b d m hc2 hby2 (Ht.out.below HB2.out hpos) HR.out HG.out).mono ?_
  rintro r w3 ⟨rfl, hb3⟩
  have HB3 := hide (HB2.out.trans (hb3.mono HB2.out.size))
  have hx4 := Bx.new w3 s k b d m
  have hb4 := box_below w3 s k b d m
  have HB4 := hide (HB3.out.trans (hb4.mono HB3.out.size))
  clear hb3 hb4 hby2 HB2 HB3
  go_wp2_with fail
  generalize w3.alloc _ = w4 at *
  refine (rDecode_good a w4 g s k b d m HR.out HG.out HL.out).mono ?_
  rintro r w5 ⟨rfl, hb5⟩
  have hx5 := hx4.below hb5
  have HB5 := hide (HB4.out.trans (hb5.mono HB4.out.size))
  have hy6 := Bx.new w5 s k b d m
  have hb6 := box_below w5 s k b d m
  have hx6 := hx5.below hb6
  have HB6 := hide (HB5.out.trans (hb6.mono HB5.out.size))
  clear hx4 hx5 hb5 hb6 HB4 HB5
  go_wp2_with fail
  generalize w5.alloc _ = w6 at *
  refine (First_nil w6 (Hty.out.below HB6.out Hty.out.lt)).mono ?_
  rintro r w7 ⟨rfl, hb7⟩
  have hx7 := hx6.below hb7
  have hy7 := hy6.below hb7
  have HB7 := hide (HB6.out.trans (hb7.mono HB6.out.size))
  have xc0 := hx7.c0
  have xc1 := hx7.c1
  have xc2 := hx7.c2
  have xc3 := hx7.c3
  have xc4 := hx7.c4
  have yc0 := hy7.c0
  have yc1 := hy7.c1
  have yc2 := hy7.c2
  have yc3 := hy7.c3
  have yc4 := hy7.c4
  have heq := fun W => rec_eql s k b d m s k b d m true (same5_self _ _ _ _ _) W
  clear hx6 hy6 hb7 HB6 hx7 hy7
  go_wp2_with fail
  refine (Code_nil w7 (Hty.out.below HB7.out Hty.out.lt)).mono ?_
  rintro r w8 ⟨rfl, hb8⟩
  have HB8 := hide (HB7.out.trans (hb8.mono HB7.out.size))
  clear hb8 xc0 xc1 xc2 xc3 xc4 yc0 yc1 yc2 yc3 yc4 heq
  go_wp2
  go_ret
  exact ⟨rfl, HB8.out⟩

theorem Decodes_walk (a : ByteArray) (w : World) (ht : Tab w) (hty : Ety w) (ha : a.size ≤ maxLen) :
    Calls Tryd.prog 4 #[.string a] w fun e w' => e = .returned (.bool true) ∧ Below w.heap.size w w' := by
  unfold maxLen at ha
  rcases Nat.lt_or_ge 2000 a.size with h | h
  · exact Decodes_long a w ht h (by omega)
  · by_cases hn : NoSum a.data.toList
    · exact Decodes_sum a w ht hty h hn
    · by_cases hn2 : NoRec a.data.toList
      · exact Decodes_none a w ht hty h hn hn2
      · obtain ⟨g, s, k, b, d, m, hr, hg, hl⟩ := isRec hn2
        exact Decodes_rec a w ht hty h g s k b d m hr hg hl

end Go.Proofs.YtkimhfcnkbakiaaDoor.Rc
