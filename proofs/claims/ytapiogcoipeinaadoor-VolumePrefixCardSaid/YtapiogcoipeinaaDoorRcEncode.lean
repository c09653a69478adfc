/-
  The contract of record.Encode: a valid record's sector, a row of the call's own; of what is not valid the fault record, its number, around ErrArg. Nothing that was there is changed. Condition: the table of half bytes holds what the program's own text lays.
-/
import Derived.Test.YtapiogcoipeinaaDoorRcEnc
namespace Go.Proofs.YtapiogcoipeinaaDoor.Rc
open Go.RowKit
open Pk Sm Fa

theorem body_any (g s k b : Int) (d : ByteArray) (m : Int) (w : World) (h : Rgt s k b d.size m) :
    Calls Tryd.prog 75 #[.int .i64 g, rec5 s k b d m] w fun e w' => ∃ A n c, e = .returned (.slice A n c) ∧ (bod g s k b d m).length = n ∧ n ≤ 60 ∧ Byt w' w'.heap.size A (bod g s k b d m) ∧ Below w.heap.size w w' := by
  have hle := bod_le (g := g) h
  have h' := h
  unfold Rgt at h'
  by_cases hk : k = 2
  · subst hk
    refine (body_mark g s b d m w).mono ?_
    rintro e w' ⟨v, rfl, ho, hb⟩
    obtain ⟨A, c, rfl, _, _, hby⟩ := ho.form
    exact ⟨A, _, c, rfl, rfl, hle, hby, hb⟩
  · refine (body_write g s k b d m w (by simpa using hk) (by omega)).mono ?_
    rintro e w' ⟨v, rfl, ho, hb⟩
    obtain ⟨A, c, rfl, _, _, hby⟩ := ho.form
    exact ⟨A, _, c, rfl, rfl, hle, hby, hb⟩

set_option maxRecDepth 100000 in
set_option maxHeartbeats 1000000 in
theorem Encode_good (g s k b : Int) (d : ByteArray) (m : Int) (w : World) (h : Rgt s k b d.size m) (hg : Num g) (ht : Tab w) :
    Calls Tryd.prog 61 #[.int .i64 g, rec5 s k b d m] w fun e w' => ∃ p o c, e = .returned (.tuple #[.slice (some ⟨p, o, none⟩) 64 c, .nilIface]) ∧ 64 ≤ c ∧ c ≤ 9223372036854775807 ∧
      Own w' w.heap.size (.slice (some ⟨p, o, none⟩) 64 c) (sec g s k b d m) ∧ Byt w' w'.heap.size (some ⟨p, o, none⟩) (sec g s k b d m) ∧ Below w.heap.size w w' := by
  have hd : d.size ≤ 16 := by unfold Rgt at h; omega
  have hbx := Bx.new w s k b d m
  have HB := hide (box_below w s k b d m)
  have H := hide h
  have Ht := hide ht
  have hpos := ht.pos
  clear h ht
  go_enter Tryd.func61, Tryd.ntmps61
  go_wp2_with fail
  generalize w.alloc _ = w0 at *
  refine (Right_any s k b d m w0 (by omega)).mono ?_
  rintro r w1 ⟨⟨B, rfl, hB⟩, hb1⟩
  obtain rfl : B = true := hB.2 H.out
  have hbx1 := hbx.below hb1
  have hc0 := hbx1.c0
  have hc1 := hbx1.c1
  have hc2 := hbx1.c2
  have hc3 := hbx1.c3
  have hc4 := hbx1.c4
  have HB1 := hide (HB.out.trans (hb1.mono HB.out.size))
  clear hbx hb1 HB hB
  go_wp2_with fail
  refine (within_yes g 0 1152921504606846975 w1 hg.1 hg.2).mono ?_
  rintro r w' ⟨rfl, rfl⟩
  go_wp2_with fail
  refine (body_any g s k b d m w1 H.out).mono ?_
  rintro r w2 ⟨A, n, c, rfl, hn, hn60, hby, hb2⟩
  have HB2 := hide (HB1.out.trans (hb2.mono HB1.out.size))
  have HS := hide (Sector_told A _ n c w2 hn hn60 hby (Ht.out.below HB2.out hpos))
  clear hbx1 hc0 hc1 hc2 hc3 hc4 hb2 hby hn HB1
  go_wp2_with fail
  refine HS.out.mono ?_
  rintro r w3 ⟨p, o, c', rfl, hc1, hc2, hown, hby3, hb3⟩
  have HB3 := hide (HB2.out.trans (hb3.mono HB2.out.size))
  have HO := hide hown
  have HY := hide hby3
  clear HS hown hby3 hb3
  go_wp2
  go_ret2
  refine ⟨p, o, c', rfl, hc1, hc2, ?_, HY.out, HB3.out⟩
  have h := HO.out
  exact ⟨h.1, h.2.imp id fun ⟨g, cap, cur, e, hB, hr⟩ => ⟨g, cap, cur, e, Nat.le_trans HB2.out.size hB, hr⟩⟩

set_option maxRecDepth 100000 in
set_option maxHeartbeats 1000000 in
theorem Encode_bad (g s k b : Int) (d : ByteArray) (m : Int) (w : World) (h : ¬ (Rgt s k b d.size m ∧ Num g)) (hd : d.size ≤ 9223372036854775807) :
    Calls Tryd.prog 61 #[.int .i64 g, rec5 s k b d m] w fun e w' => ∃ p, e = .returned (.tuple #[.slice none 0 0, .iface 96 (.pointer (some ⟨p, 0, none⟩))]) ∧ Flt1 w' (.iface 96 (.pointer (some ⟨p, 0, none⟩))) s 1 ∧ Below w.heap.size w w' := by
  have hbx := Bx.new w s k b d m
  have HB := hide (box_below w s k b d m)
  have H := hide h
  clear h
  go_enter Tryd.func61, Tryd.ntmps61
  go_wp2_with fail
  generalize w.alloc _ = w0 at *
  refine (Right_any s k b d m w0 hd).mono ?_
  rintro r w1 ⟨⟨B, rfl, hB⟩, hb1⟩
  have hbx1 := hbx.below hb1
  have hc0 := hbx1.c0
  have HB1 := hide (HB.out.trans (hb1.mono HB.out.size))
  have HBB := hide hB
  have HF := hide (failed_flt s 1 w1 (by decide))
  clear hbx hb1 HB hB hbx1
  cases B with
  | false =>
    go_wp2_with fail
    refine HF.out.mono ?_
    rintro r w2 ⟨p, rfl, hf, hb2⟩
    have HB2 := hide (HB1.out.trans (hb2.mono HB1.out.size))
    have HF2 := hide hf
    clear hb2 hf HF hc0
    go_wp2
    go_ret2
    exact ⟨p, rfl, HF2.out, HB2.out⟩
  | true =>
    go_wp2_with fail
    refine (within_any g 0 1152921504606846975 w1).mono ?_
    rintro r w' ⟨⟨B2, rfl, hB2⟩, rfl⟩
    obtain rfl : B2 = false := by
      cases B2 with
      | false => rfl
      | true => exact absurd ⟨HBB.out.1 (by trivial), hB2.1 rfl⟩ H.out
    clear hB2
    go_wp2_with fail
    refine HF.out.mono ?_
    rintro r w2 ⟨p, rfl, hf, hb2⟩
    have HB2 := hide (HB1.out.trans (hb2.mono HB1.out.size))
    have HF2 := hide hf
    clear hb2 hf HF hc0
    go_wp2
    go_ret2
    exact ⟨p, rfl, HF2.out, HB2.out⟩

end Go.Proofs.YtapiogcoipeinaaDoor.Rc
