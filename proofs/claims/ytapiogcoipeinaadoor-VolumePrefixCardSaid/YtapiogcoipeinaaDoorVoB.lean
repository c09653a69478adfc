/-
  The statements' arguments: a slice of Ops, and one Op, as numbers and texts; what the statements' own few returns. Nothing is changed. Conditions: in each.
-/
import Derived.Test.YtapiogcoipeinaaDoorVoA
import Derived.Test.YtapiogcoipeinaaDoorJnA
import Derived.BigQuiet
import Derived.Deep.RegionHeld3
import Derived.Test.YtapiogcoipeinaaDoorDkWrite
import Derived.Test.YtapiogcoipeinaaDoorRows
import Derived.WalkKit
import Derived.ProofKit
import Derived.OpenShut
import Derived.ShutString
import Derived.ChangeOld
import Derived.Below
import Derived.Deep.SlicePairs
import Derived.Lib.SmallJoins

/-
  The contract of the volume's decode: the home that a sector contains, and true; or none, and false. Nothing that was there is changed. Condition: the table of half bytes holds what the program's own text lays.
-/
namespace Go.Proofs.YtapiogcoipeinaaDoor.Vo
open Go.RowKit
open Pk Sm Fa Rc Dk Jn

/-- None. -/
def NoHome (e : Ending) : Prop := e = .returned (.tuple #[hm2 hm0, .bool false])

set_option maxRecDepth 100000 in
set_option maxHeartbeats 2000000 in
theorem decode_zero (b : Nat) (A : Option Addr) (c : Nat) (w : World) (hb : Byt w w.heap.size A zer) (ht : Tab w) :
    Calls Tryd.prog 40 #[.int .i64 (b : Int), .slice A 64 c] w fun e w' => e = .returned (.tuple #[hm2 hm0, .bool true]) ∧ Below w.heap.size w w' := by
  have hbx := Mx.new w 0 ⟨#[]⟩
  have HB := hide (mx_below w 0 ⟨#[]⟩)
  have hpos := ht.pos
  have hby0 := (hb.below HB.out).more HB.out.size
  have ht0 := ht.below HB.out hpos
  clear hb ht
  go_enter Tryd.func40, Tryd.ntmps40
  go_wp2_with fail
  generalize w.alloc _ = w0 at *
  have HQ := hide (blank_any A zer 64 c w0 rfl hby0 true (by simp))
  refine HQ.out.mono ?_
  rintro r w1 ⟨rfl, hb1⟩
  have hbx1 := hbx.below hb1
  have HB1 := hide (HB.out.trans (hb1.mono HB.out.size))
  have hby1 := (hby0.below hb1).more hb1.size
  have ht1 := ht0.below hb1 (by have := HB.out.size; omega)
  clear hbx hb1 HQ HB hby0 ht0
  clear hby1 ht1
  have hz0 := hbx1.c0
  have hy0 := hbx1.free 0
  have hz1 := hbx1.c1
  have hy1 := hbx1.free 1
  have HX := hide (hbx1.put 0 ⟨#[]⟩)
  have HY := hide (below_put2 HB1.out (Nat.le_refl _) 0 ⟨#[]⟩)
  clear hbx1 HB1 
  go_wp2
  refine bodyPost_ret (results_ct rfl _ _ w.heap.size 59 _ (0, 0) _ rfl (show _ from HX.out) Tryd.underlying59 rfl home_size) rfl ?_
  exact ⟨rfl, HY.out⟩

set_option maxRecDepth 100000 in
set_option maxHeartbeats 2000000 in
theorem decode_open (b : Nat) (A : Option Addr) (c : Nat) (L : List UInt8) (w : World) (hn : L.length = 64) (hc : 64 ≤ c) (hb : Byt w w.heap.size A L) (ht : Tab w) (hz : L ≠ zer) (hno : ∀ m, L ≠ seal4 m) :
    Calls Tryd.prog 40 #[.int .i64 (b : Int), .slice A 64 c] w fun e w' => NoHome e ∧ Below w.heap.size w w' := by
  have hbx := Mx.new w 0 ⟨#[]⟩
  have HB := hide (mx_below w 0 ⟨#[]⟩)
  have hpos := ht.pos
  have hby0 := (hb.below HB.out).more HB.out.size
  have ht0 := ht.below HB.out hpos
  have Hn := hide hn
  have Hno := hide hno
  have Hz := hide hz
  clear hn hno hz hb ht
  go_enter Tryd.func40, Tryd.ntmps40
  go_wp2_with fail
  generalize w.alloc _ = w0 at *
  have HQ := hide (blank_any A L 64 c w0 Hn.out hby0 false (by rw [str_same]; exact decide_eq_false Hz.out))
  refine HQ.out.mono ?_
  rintro r w1 ⟨rfl, hb1⟩
  have hbx1 := hbx.below hb1
  have HB1 := hide (HB.out.trans (hb1.mono HB.out.size))
  have hby1 := (hby0.below hb1).more hb1.size
  have ht1 := ht0.below hb1 (by have := HB.out.size; omega)
  clear hbx hb1 HQ HB hby0 ht0
  go_wp2_with fail
  refine (Open_bad A 64 c L w1 Hn.out hc (by omega) hby1 ht1 Hno.out).mono ?_
  rintro r w2 ⟨rfl, hb2⟩
  have hbx2 := hbx1.below hb2
  have HB2 := hide (HB1.out.trans (hb2.mono HB1.out.size))
  clear hbx1 hb2 hby1 ht1 HB1
  have hz0 := hbx2.c0
  have hy0 := hbx2.free 0
  have hz1 := hbx2.c1
  have hy1 := hbx2.free 1
  have HX := hide (hbx2.put 0 ⟨#[]⟩)
  have HY := hide (below_put2 HB2.out (Nat.le_refl _) 0 ⟨#[]⟩)
  clear hbx2 HB2 
  go_wp2
  refine bodyPost_ret (results_ct rfl _ _ w.heap.size 59 _ (0, 0) _ rfl (show _ from HX.out) Tryd.underlying59 rfl home_size) rfl ?_
  exact ⟨rfl, HY.out⟩

section
variable (b : Nat) (A : Option Addr) (c : Nat) (M : List UInt8) (w : World) (hm : M.length = 60) (hc : 64 ≤ c) (hb : Byt w w.heap.size A (seal4 M)) (ht : Tab w) (s : Nat) (d : ByteArray) (hgot : mgot M = ⟨s, d⟩) (hd : d.size ≤ 16)
include hm hc hb ht hgot hd
set_option maxRecDepth 100000 in
set_option maxHeartbeats 2000000 in
theorem decode_low (h1 : ¬ 1 ≤ s) :
    Calls Tryd.prog 40 #[.int .i64 (b : Int), .slice A 64 c] w fun e w' => NoHome e ∧ Below w.heap.size w w' := by
  have h1i : (s : Int) < 1 := by omega
  clear h1
  have hbx := Mx.new w 0 ⟨#[]⟩
  have HB := hide (mx_below w 0 ⟨#[]⟩)
  have hpos := ht.pos
  have hby0 := (hb.below HB.out).more HB.out.size
  have ht0 := ht.below HB.out hpos
  have Hm := hide hm
  have Hgot := hide hgot
  have Ht := hide ht
  have Hd := hide hd
  clear ht hm hgot hb hd
  go_enter Tryd.func40, Tryd.ntmps40
  go_wp2_with fail
  generalize w.alloc _ = w0 at *
  have HQ := hide (blank_any A (seal4 M) 64 c w0 (by rw [seal4_length, Hm.out]) hby0 false (by rw [str_same]; exact decide_eq_false fun e => zer_no _ e.symm))
  refine HQ.out.mono ?_
  rintro r w1 ⟨rfl, hb1⟩
  have hbx1 := hbx.below hb1
  have HB1 := hide (HB.out.trans (hb1.mono HB.out.size))
  have hby1 := (hby0.below hb1).more hb1.size
  have ht1 := ht0.below hb1 (by have := HB.out.size; omega)
  clear hbx hb1 HQ HB hby0 ht0
  go_wp2_with fail
  refine (Open_good A 64 c 60 M w1 Hm.out rfl hc (by omega) hby1 ht1).mono ?_
  rintro r w2 ⟨b2, o2, rfl, hby2, hb2⟩
  have hbx2 := hbx1.below hb2
  have HB2 := hide (HB1.out.trans (hb2.mono HB1.out.size))
  have hbyB2 := (hby1.below hb2).more hb2.size
  clear hbx1 hb2 hby1 ht1 HB1
  go_wp2_with fail
  refine (read_any (some ⟨b2, o2, none⟩) M 60 60 w2 Hm.out hby2 (Nat.le_refl _) (by unfold maxLen; omega) _ Hgot.out).mono ?_
  rintro r w3 ⟨rfl, hb3⟩
  have hbx3 := hbx2.below hb3
  have HB3 := hide (HB2.out.trans (hb3.mono HB2.out.size))
  have hbyB3 := (hbyB2.below hb3).more hb3.size
  clear hbx2 hb3 hby2 hbyB2 HB2
  have hbl := mx_below w3 s d
  have hbr := Mx.new w3 s d
  have hbx4 := hbx3.below hbl
  have HB4 := hide (HB3.out.trans (hbl.mono HB3.out.size))
  have hbyB4 := (hbyB3.below hbl).more hbl.size
  clear hbl hbx3 hbyB3 HB3
  clear hbr hbyB4
  have hz0 := hbx4.c0
  have hy0 := hbx4.free 0
  have hz1 := hbx4.c1
  have hy1 := hbx4.free 1
  have HX := hide (hbx4.put 0 ⟨#[]⟩)
  have HY := hide (below_put2 HB4.out (Nat.le_refl _) 0 ⟨#[]⟩)
  clear hbx4 HB4 
  go_wp2
  refine bodyPost_ret (results_ct rfl _ _ w.heap.size 59 _ (0, 0) _ rfl (show _ from HX.out) Tryd.underlying59 rfl home_size) rfl ?_
  exact ⟨rfl, HY.out⟩

set_option maxRecDepth 100000 in
set_option maxHeartbeats 2000000 in
theorem decode_unlike (h1 : 1 ≤ s) (he : ((str (msec b ⟨s, d⟩)).toList == (str (seal4 M)).toList) = false) :
    Calls Tryd.prog 40 #[.int .i64 (b : Int), .slice A 64 c] w fun e w' => NoHome e ∧ Below w.heap.size w w' := by
  have h1i : ¬ ((s : Int) < 1) := by omega
  have HE := hide he
  clear h1 he
  have hbx := Mx.new w 0 ⟨#[]⟩
  have HB := hide (mx_below w 0 ⟨#[]⟩)
  have hpos := ht.pos
  have hby0 := (hb.below HB.out).more HB.out.size
  have ht0 := ht.below HB.out hpos
  have Hm := hide hm
  have Hgot := hide hgot
  have Ht := hide ht
  have Hd := hide hd
  clear ht hm hgot hb hd
  go_enter Tryd.func40, Tryd.ntmps40
  go_wp2_with fail
  generalize w.alloc _ = w0 at *
  have HQ := hide (blank_any A (seal4 M) 64 c w0 (by rw [seal4_length, Hm.out]) hby0 false (by rw [str_same]; exact decide_eq_false fun e => zer_no _ e.symm))
  refine HQ.out.mono ?_
  rintro r w1 ⟨rfl, hb1⟩
  have hbx1 := hbx.below hb1
  have HB1 := hide (HB.out.trans (hb1.mono HB.out.size))
  have hby1 := (hby0.below hb1).more hb1.size
  have ht1 := ht0.below hb1 (by have := HB.out.size; omega)
  clear hbx hb1 HQ HB hby0 ht0
  go_wp2_with fail
  refine (Open_good A 64 c 60 M w1 Hm.out rfl hc (by omega) hby1 ht1).mono ?_
  rintro r w2 ⟨b2, o2, rfl, hby2, hb2⟩
  have hbx2 := hbx1.below hb2
  have HB2 := hide (HB1.out.trans (hb2.mono HB1.out.size))
  have hbyB2 := (hby1.below hb2).more hb2.size
  clear hbx1 hb2 hby1 ht1 HB1
  go_wp2_with fail
  refine (read_any (some ⟨b2, o2, none⟩) M 60 60 w2 Hm.out hby2 (Nat.le_refl _) (by unfold maxLen; omega) _ Hgot.out).mono ?_
  rintro r w3 ⟨rfl, hb3⟩
  have hbx3 := hbx2.below hb3
  have HB3 := hide (HB2.out.trans (hb3.mono HB2.out.size))
  have hbyB3 := (hbyB2.below hb3).more hb3.size
  clear hbx2 hb3 hby2 hbyB2 HB2
  have hbl := mx_below w3 s d
  have hbr := Mx.new w3 s d
  have hbx4 := hbx3.below hbl
  have HB4 := hide (HB3.out.trans (hbl.mono HB3.out.size))
  have hbyB4 := (hbyB3.below hbl).more hbl.size
  clear hbl hbx3 hbyB3 HB3
  go_wp2_with fail
  generalize w3.alloc _ = w4 at *
  have HE4 := hide (encode_any ⟨s, d⟩ b w4 (Ht.out.below HB4.out hpos) Hd.out)
  refine HE4.out.mono ?_
  rintro r w5 ⟨p5, o5, c5, rfl, _, _, hby5, hb5⟩
  have hbx5 := hbx4.below hb5
  have hbr5 := hbr.below hb5
  have HB5 := hide (HB4.out.trans (hb5.mono HB4.out.size))
  have hbyB5 := hbyB4.below hb5
  have HQ := hide (Equal_any (some ⟨p5, o5, none⟩) A 64 c5 64 c _ _ _ _ w5 (msec_length Hd.out _) (by rw [seal4_length, Hm.out]) hby5 hbyB5 _ HE.out)
  clear hbx4 hb5 hbyB4 HB4 hbr hbyB5 hby5 HE4
  go_wp2_with fail
  refine HQ.out.mono ?_
  rintro r w' ⟨rfl, rfl⟩
  clear HQ
  clear hbr5
  have hz0 := hbx5.c0
  have hy0 := hbx5.free 0
  have hz1 := hbx5.c1
  have hy1 := hbx5.free 1
  have HX := hide (hbx5.put 0 ⟨#[]⟩)
  have HY := hide (below_put2 HB5.out (Nat.le_refl _) 0 ⟨#[]⟩)
  clear hbx5 HB5 
  go_wp2
  refine bodyPost_ret (results_ct rfl _ _ w.heap.size 59 _ (0, 0) _ rfl (show _ from HX.out) Tryd.underlying59 rfl home_size) rfl ?_
  exact ⟨rfl, HY.out⟩

set_option maxRecDepth 100000 in
set_option maxHeartbeats 2000000 in
theorem decode_same (h1 : 1 ≤ s) (he : ((str (msec b ⟨s, d⟩)).toList == (str (seal4 M)).toList) = true) :
    Calls Tryd.prog 40 #[.int .i64 (b : Int), .slice A 64 c] w fun e w' => e = .returned (.tuple #[hm2 ⟨s, d⟩, .bool true]) ∧ Below w.heap.size w w' := by
  have h1i : ¬ ((s : Int) < 1) := by omega
  have HE := hide he
  clear h1 he
  have hbx := Mx.new w 0 ⟨#[]⟩
  have HB := hide (mx_below w 0 ⟨#[]⟩)
  have hpos := ht.pos
  have hby0 := (hb.below HB.out).more HB.out.size
  have ht0 := ht.below HB.out hpos
  have Hm := hide hm
  have Hgot := hide hgot
  have Ht := hide ht
  have Hd := hide hd
  clear ht hm hgot hb hd
  go_enter Tryd.func40, Tryd.ntmps40
  go_wp2_with fail
  generalize w.alloc _ = w0 at *
  have HQ := hide (blank_any A (seal4 M) 64 c w0 (by rw [seal4_length, Hm.out]) hby0 false (by rw [str_same]; exact decide_eq_false fun e => zer_no _ e.symm))
  refine HQ.out.mono ?_
  rintro r w1 ⟨rfl, hb1⟩
  have hbx1 := hbx.below hb1
  have HB1 := hide (HB.out.trans (hb1.mono HB.out.size))
  have hby1 := (hby0.below hb1).more hb1.size
  have ht1 := ht0.below hb1 (by have := HB.out.size; omega)
  clear hbx hb1 HQ HB hby0 ht0
  go_wp2_with fail
  refine (Open_good A 64 c 60 M w1 Hm.out rfl hc (by omega) hby1 ht1).mono ?_
  rintro r w2 ⟨b2, o2, rfl, hby2, hb2⟩
  have hbx2 := hbx1.below hb2
  have HB2 := hide (HB1.out.trans (hb2.mono HB1.out.size))
  have hbyB2 := (hby1.below hb2).more hb2.size
  clear hbx1 hb2 hby1 ht1 HB1
  go_wp2_with fail
  refine (read_any (some ⟨b2, o2, none⟩) M 60 60 w2 Hm.out hby2 (Nat.le_refl _) (by unfold maxLen; omega) _ Hgot.out).mono ?_
  rintro r w3 ⟨rfl, hb3⟩
  have hbx3 := hbx2.below hb3
  have HB3 := hide (HB2.out.trans (hb3.mono HB2.out.size))
  have hbyB3 := (hbyB2.below hb3).more hb3.size
  clear hbx2 hb3 hby2 hbyB2 HB2
  have hbl := mx_below w3 s d
  have hbr := Mx.new w3 s d
  have hbx4 := hbx3.below hbl
  have HB4 := hide (HB3.out.trans (hbl.mono HB3.out.size))
  have hbyB4 := (hbyB3.below hbl).more hbl.size
  clear hbl hbx3 hbyB3 HB3
  go_wp2_with fail
  generalize w3.alloc _ = w4 at *
  have HE4 := hide (encode_any ⟨s, d⟩ b w4 (Ht.out.below HB4.out hpos) Hd.out)
  refine HE4.out.mono ?_
  rintro r w5 ⟨p5, o5, c5, rfl, _, _, hby5, hb5⟩
  have hbx5 := hbx4.below hb5
  have hbr5 := hbr.below hb5
  have HB5 := hide (HB4.out.trans (hb5.mono HB4.out.size))
  have hbyB5 := hbyB4.below hb5
  have HQ := hide (Equal_any (some ⟨p5, o5, none⟩) A 64 c5 64 c _ _ _ _ w5 (msec_length Hd.out _) (by rw [seal4_length, Hm.out]) hby5 hbyB5 _ HE.out)
  clear hbx4 hb5 hbyB4 HB4 hbr hbyB5 hby5 HE4
  go_wp2_with fail
  refine HQ.out.mono ?_
  rintro r w' ⟨rfl, rfl⟩
  clear HQ
  have hx0 := hbr5.c0
  have hx1 := hbr5.c1
  have hz0 := hbx5.c0
  have hy0 := hbx5.free 0
  have hz1 := hbx5.c1
  have hy1 := hbx5.free 1
  have HX := hide (hbx5.put s d)
  have HY := hide (below_put2 HB5.out (Nat.le_refl _) s d)
  clear hbx5 HB5 hbr5
  go_wp2
  refine bodyPost_ret (results_ct rfl _ _ w.heap.size 59 _ (0, 0) _ rfl (show _ from HX.out) Tryd.underlying59 rfl home_size) rfl ?_
  exact ⟨rfl, HY.out⟩

end

/-- What a home sector contains. -/
theorem decode_any (b : Nat) (hbb : NumN b) (A : Option Addr) (c : Nat) (L : List UInt8) (w : World) (hn : L.length = 64) (hc : 64 ≤ c) (hb : Byt w w.heap.size A L) (ht : Tab w) :
    Calls Tryd.prog 40 #[.int .i64 (b : Int), .slice A 64 c] w fun e w' => (match unm b L with | none => NoHome e | some h => e = .returned (.tuple #[hm2 h, .bool true])) ∧ Below w.heap.size w w' := by
  by_cases hz : L = zer
  · subst hz
    have hu := unm_some (b := b) (x := hm0) (Or.inl rfl) hbb
    rw [hom_zero] at hu
    rw [hu]
    exact decode_zero b A c w hb ht
  · have key : ∀ x, Wf x → L = hom b x → MOk x ∧ L = msec b x := fun x hx he => by
      rcases hx with rfl | hx
      · exact absurd (he.trans (hom_zero b)) hz
      · exact ⟨hx, he.trans (hom_ok hx)⟩
    by_cases hs : ∃ m, L = seal4 m
    · obtain ⟨M, rfl⟩ := hs
      have hM : M.length = 60 := by have := hn; rw [seal4_length] at this; omega
      have hl := mgot_len M
      have key2 : ∀ x, Wf x → seal4 M = hom b x → mgot M = x ∧ MOk x ∧ seal4 M = msec b x := fun x hx he => by
        obtain ⟨h1, h2⟩ := key x hx he
        have := seal4_inj h2
        exact ⟨by rw [this, mgot_pad h1 hbb], h1, h2⟩
      by_cases h1 : 1 ≤ (mgot M).s
      · by_cases he : seal4 M = msec b (mgot M)
        · have hok : MOk (mgot M) := ⟨h1, mgot_num M, hl⟩
          have hu := unm_some (b := b) (x := mgot M) (Or.inr hok) hbb
          rw [hom_ok hok, ← he] at hu
          rw [hu]
          refine decode_same b A c M w hM hc hb ht (mgot M).s (mgot M).d rfl hl h1 ?_
          rw [str_same]
          exact decide_eq_true he.symm
        · rw [unm_none (fun x hx h2 => he (by obtain ⟨h3, _, h4⟩ := key2 x hx h2; rw [h3]; exact h4))]
          refine decode_unlike b A c M w hM hc hb ht (mgot M).s (mgot M).d rfl hl h1 ?_
          rw [str_same]
          exact decide_eq_false fun e => he e.symm
      · rw [unm_none (fun x hx h2 => h1 (by obtain ⟨h3, h4, _⟩ := key2 x hx h2; rw [h3]; exact h4.pos))]
        exact decode_low b A c M w hM hc hb ht (mgot M).s (mgot M).d rfl hl h1
    · have hno : ∀ m, L ≠ seal4 m := fun m e => hs ⟨m, e⟩
      rw [unm_none (fun x hx h2 => hno _ (key x hx h2).2)]
      exact decode_open b A c L w hn hc hb ht hz hno

end Go.Proofs.YtapiogcoipeinaaDoor.Vo

/-
  The contract of the volume's load: what each home sector contains is told, and true; or false, if one of them contains none. Condition: the table of half bytes holds what the program's own text lays.
-/
namespace Go.Proofs.YtapiogcoipeinaaDoor.Vo
open Go.RowKit
open Pk Sm Fa Rc Dk Jn

/-- What is told of the first k home sectors. -/
def ldH (H : Nat → Hm) (k : Nat) : Nat → Hm := fun i => if i < k then H i else hm0
theorem ldH_zero (H : Nat → Hm) : ldH H 0 = fun _ => hm0 := funext fun _ => if_neg (Nat.not_lt_zero _)
theorem ldH_succ (H : Nat → Hm) (k : Nat) : ldH H (k + 1) = upH (ldH H k) k (H k) := by
  funext i
  show (if i < k + 1 then H i else hm0) = if i = k then H k else if i < k then H i else hm0
  rcases Nat.lt_trichotomy i k with h | h | h
  · rw [if_pos (by omega), if_neg (by omega), if_pos h]
  · subst h
    rw [if_pos (by omega), if_pos rfl]
  · rw [if_neg (by omega), if_neg (by omega), if_neg (by omega)]
section
variable {w0 w : World} {R : Nat → Prop} {v p q n : Nat} {S : List Sec} {L : List Wr} {h : Hd} {E : List Ent} {H H' : Nat → Hm}
theorem VB.congr (hv : VB w v q n p H) (hh : ∀ b, b < 8 → H b = H' b) : VB w v q n p H' := by
  have h0 := hh 0 (by omega)
  have h1 := hh 1 (by omega)
  have h2 := hh 2 (by omega)
  have h3 := hh 3 (by omega)
  have h4 := hh 4 (by omega)
  have h5 := hh 5 (by omega)
  have h6 := hh 6 (by omega)
  have h7 := hh 7 (by omega)
  unfold VB vcs at hv ⊢
  rw [← h0, ← h1, ← h2, ← h3, ← h4, ← h5, ← h6, ← h7]
  exact hv
theorem VW.congr (j : VW w0 R v p q n S L h E H w) (hh : ∀ b, b < 8 → H b = H' b) : VW w0 R v p q n S L h E H' w := ⟨j.jw, j.box.congr hh, j.ge, j.no⟩
/-- What load leaves: v1 tells whether all were told. -/
def Loaded (w0 : World) (R : Nat → Prop) (v p q n : Nat) (S : List Sec) (L : List Wr) (h : Hd) (E : List Ent) (H : Nat → Hm) (w : World) (e : Ending) (w' : World) : Prop :=
  ((∀ b, b < 8 → unm b ((all S L).getD (2 + n + b) []) = some (H b)) → e = .returned (.bool true) ∧ VW w0 R v p q n S L h E H w' ∧ RK R w w') ∧
  ((∃ b, b < 8 ∧ unm b ((all S L).getD (2 + n + b) []) = none) → e = .returned (.bool false) ∧ (∃ H', VW w0 R v p q n S L h E H' w') ∧ RK R w w')
set_option maxRecDepth 100000 in
set_option maxHeartbeats 4000000 in
theorem load_any (j : VW w0 R v p q n S L h E (fun _ => hm0) w) (ht : Tab w0) (hn : n ≤ 512) (hS : 2 + n + 8 ≤ S.length) (hL : L.length ≤ 1000000) (hH : ∀ b, b < 8 → ∀ x, unm b ((all S L).getD (2 + n + b) []) = some x → H b = x) :
    Calls Tryd.prog 22 #[.pointer (some ⟨v, 0, none⟩)] w (Loaded w0 R v p q n S L h E H w) := by
  have HT := hide ht
  have HL := hide hL
  have HN := hide hn
  have HS := hide hS
  have HH := hide hH
  have HJ := hide j
  have hful := JW.full j.jw
  have HF := hide hful
  obtain ⟨A, hA⟩ : ∃ A, all S L = A := ⟨_, rfl⟩
  unfold Loaded
  rw [hA] at HH HF ⊢
  have HA := hide hA
  clear j ht hL hn hS hH hful hA
  go_enter Tryd.func22, Tryd.ntmps22
  go_wp2
  go_loopw [8] (fun jx wr => ∃ (i : Nat), i ≤ 8 ∧ jx = .int .i64 i ∧ (∀ b, b < i → ∃ x, unm b (A.getD (2 + n + b) []) = some x) ∧ Hid (VW w0 R v p q n S L h E (ldH H i) wr) ∧ Hid (RK R w wr)) (fun jx _ => 8 - (intOf jx).toNat)
  case atStart => exact ⟨0, by omega, rfl, fun b hb => absurd hb (Nat.not_lt_zero _), hide (by rw [ldH_zero]; exact HJ.out), hide fun _ _ => rfl⟩
  case round =>
    obtain ⟨i, hi, rfl, hB, hj, hr⟩ := hrel
    have HB := hide hB
    clear hB
    rcases Nat.lt_or_ge i 8 with hi8 | hge8
    · have hii : (i : Int) < 8 := by omega
      have HSEC : Hid (∀ W, VB W v q n p (ldH H i) → Calls Tryd.prog 39 #[.pointer (some ⟨v, 0, none⟩), .int .i64 (i : Int)] W fun e w' => e = .returned (.int .i64 ((2 + n + i : Nat) : Int)) ∧ W = w') := hide fun W hv => sector_any hv i (by have := HN.out; omega) hi8
      have HRD := hide (JW.read hj.out.drew.jw (i := 2 + n + i) (by have := HS.out; omega) HL.out)
      have HLN : Hid ((A.getD (2 + n + i) []).length = 64) := hide (by
        have hlt : 2 + n + i < A.length := by rw [HF.out.2]; have := HS.out; omega
        have := HF.out.1 _ (List.getElem_mem hlt)
        rwa [List.getD_eq_getElem?_getD, List.getElem?_eq_getElem hlt])
      rw [HA.out] at HRD
      obtain ⟨z, hz⟩ : ∃ z, 2 + n + i = z := ⟨_, rfl⟩
      cases hu : unm i (A.getD (2 + n + i) []) with
      | some x =>
        have HHi := hide (HH.out i hi8 x hu)
        have HU := hide hu
        obtain ⟨cs, cd⟩ := x
        clear hu
        rw [hz] at HSEC HRD HLN HU
        have HZ := hide hz
        clear hz
        go_wp2
        refine wp_region_held (S := (fun W => W.cell? ⟨v, 0, none⟩ = some (.pointer (some ⟨q, 0, none⟩)))) (by kernel_rfl) ?_
        change wpAnyH _ _ _ _ _ _ _ _ (World.drew _)
        refine wpAnyH_take (i := 0) (oi := ⟨some 12, _, _, _, _, _⟩) (v := ?_) rfl (by kernel_rfl) (by kernel_rfl) (by kernel_rfl) (fun _ _ _ h => h) (Or.inl ⟨by rfl, ?_⟩) hj.out.drew.box.disk ?_
        rotate_left 1
        · (intro w hSw; obtain hSw1 := hSw; go_simp; try with_reducible rfl)
        simp only [Act.put, List.setIfInBounds_toArray, List.set_cons_zero, List.set_cons_succ]
        refine wpAnyH_take (i := 1) (oi := ⟨some 13, _, _, _, _, _⟩) (v := ?_) rfl (by kernel_rfl) (by kernel_rfl) (by kernel_rfl) (fun _ _ _ h => h) (Or.inl ⟨by rfl, ?_⟩) hj.out.drew.box.disk ?_
        rotate_left 1
        · (intro w hSw; obtain hSw1 := hSw; go_simp; try with_reducible rfl)
        simp only [Act.put, List.setIfInBounds_toArray, List.set_cons_zero, List.set_cons_succ]
        refine wpAnyH_take (i := 2) (oi := ⟨some 14, _, _, _, _, _⟩) (v := ?_) rfl (by kernel_rfl) (by kernel_rfl) (by kernel_rfl) (fun _ _ _ h => h) (Or.inl ⟨by rfl, ?_⟩) hj.out.drew.box.disk ?_
        rotate_left 1
        · (intro w hSw; obtain hSw1 := hSw; go_simp; try with_reducible rfl)
        simp only [Act.put, List.setIfInBounds_toArray, List.set_cons_zero, List.set_cons_succ]
        refine wpAnyH_take (i := 3) (oi := ⟨some 15, _, _, _, _, _⟩) (v := ?_) rfl (by kernel_rfl) (by kernel_rfl) (by kernel_rfl) (fun _ _ _ h => h) (Or.inl ⟨by rfl, ?_⟩) hj.out.drew.box.disk ?_
        rotate_left 1
        · (intro w hSw; obtain hSw1 := hSw; go_simp; try with_reducible rfl)
        simp only [Act.put, List.setIfInBounds_toArray, List.set_cons_zero, List.set_cons_succ]
        refine wpAnyH_take (i := 4) (oi := ⟨some 16, _, _, _, _, _⟩) (v := ?_) rfl (by kernel_rfl) (by kernel_rfl) (by kernel_rfl) (fun _ _ _ h => h) (Or.inl ⟨by rfl, ?_⟩) hj.out.drew.box.disk ?_
        rotate_left 1
        · (intro w hSw; obtain hSw1 := hSw; go_simp; try with_reducible rfl)
        simp only [Act.put, List.setIfInBounds_toArray, List.set_cons_zero, List.set_cons_succ]
        refine wpAnyH_take (i := 5) (oi := ⟨some 17, _, _, _, _, _⟩) (v := ?_) rfl (by kernel_rfl) (by kernel_rfl) (by kernel_rfl) (fun _ _ _ h => h) (Or.inl ⟨by rfl, ?_⟩) hj.out.drew.box.disk ?_
        rotate_left 1
        · (intro w hSw; obtain hSw1 := hSw; go_simp; try with_reducible rfl)
        simp only [Act.put, List.setIfInBounds_toArray, List.set_cons_zero, List.set_cons_succ]
        refine wpAnyH_ready (rs := [6]) (by kernel_rfl) (by simp) ?_
        refine AllReadyH.cons (o := ⟨some 18, _, _, _, _, _⟩) rfl (fun K hK => ?_) AllReadyH.nil
        go_simp
        refine (HSEC.out wr.drew hj.out.drew.box).mono ?_
        rintro r w2 ⟨rfl, rfl⟩
        refine hK.out _ _ hj.out.drew.box.disk (fun hHeld => ?_)
        clear hK K
        clear hHeld
        refine wpAnyH_ready (rs := [7]) (by kernel_rfl) (by simp) ?_
        refine AllReadyH.cons (o := ⟨some 19, _, _, _, _, _⟩) rfl (fun K hK => ?_) AllReadyH.nil
        go_simp
        refine (HRD.out).mono ?_
        rintro r w3 ⟨g, rfl, hg, hby, hb3⟩
        have hb3d := drew_below hb3
        have HJ3 := hide (hj.out.below hb3d).1
        have HK3 := hide (RK.trans hr.out (hj.out.below hb3d).2)
        have HBY := hide hby
        have hS3 := HJ3.out.box.disk
        clear hb3 hb3d hby hg
        refine hK.out _ _ hS3 (fun hHeld => ?_)
        clear hK K
        clear hHeld
        refine wpAnyH_take (i := 8) (oi := ⟨some 11, _, _, _, _, _⟩) (v := ?_) rfl (by kernel_rfl) (by kernel_rfl) (by kernel_rfl) (fun _ _ _ h => h) (Or.inl ⟨by rfl, ?_⟩) hS3 ?_
        rotate_left 1
        · (intro w hSw; obtain hSw1 := hSw; go_simp; try with_reducible rfl)
        simp only [Act.put, List.setIfInBounds_toArray, List.set_cons_zero, List.set_cons_succ]
        refine wpAnyH_take (i := 9) (oi := ⟨some 20, _, _, _, _, _⟩) (v := ?_) rfl (by kernel_rfl) (by kernel_rfl) (by kernel_rfl) (fun _ _ _ h => h) (Or.inl ⟨by rfl, ?_⟩) hS3 ?_
        rotate_left 1
        · (intro w hSw; obtain hSw1 := hSw; go_simp; try with_reducible rfl)
        simp only [Act.put, List.setIfInBounds_toArray, List.set_cons_zero, List.set_cons_succ]
        refine wpAnyH_take (i := 10) (oi := ⟨some 21, _, _, _, _, _⟩) (v := ?_) rfl (by kernel_rfl) (by kernel_rfl) (by kernel_rfl) (fun _ _ _ h => h) (Or.inl ⟨by rfl, ?_⟩) hS3 ?_
        rotate_left 1
        · (intro w hSw; obtain hSw1 := hSw; go_simp; try with_reducible rfl)
        simp only [Act.put, List.setIfInBounds_toArray, List.set_cons_zero, List.set_cons_succ]
        refine wpAnyH_take (i := 11) (oi := ⟨some 4, _, _, _, _, _⟩) (v := ?_) rfl (by kernel_rfl) (by kernel_rfl) (by kernel_rfl) (fun _ _ _ h => h) (Or.inl ⟨by rfl, ?_⟩) hS3 ?_
        rotate_left 1
        · (intro w hSw; obtain hSw1 := hSw; go_simp; try with_reducible rfl)
        simp only [Act.put, List.setIfInBounds_toArray, List.set_cons_zero, List.set_cons_succ]
        refine wpAnyH_take (i := 12) (oi := ⟨some 5, _, _, _, _, _⟩) (v := ?_) rfl (by kernel_rfl) (by kernel_rfl) (by kernel_rfl) (fun _ _ _ h => h) (Or.inl ⟨by rfl, ?_⟩) hS3 ?_
        rotate_left 1
        · (intro w hSw; obtain hSw1 := hSw; go_simp; try with_reducible rfl)
        simp only [Act.put, List.setIfInBounds_toArray, List.set_cons_zero, List.set_cons_succ]
        refine wpAnyH_done (by kernel_rfl) ?_ _
        clear hS3 HRD
        go_wp2_with fail
        refine (decode_any i (by show i ≤ _; omega) (some ⟨g, 0, none⟩) 64 _ w3 HLN.out (Nat.le_refl _) HBY.out (HJ3.out.tab HT.out)).mono ?_
        rintro e w4 ⟨he, hb4⟩
        rw [HU.out] at he
        obtain rfl : e = .returned (.tuple #[.agg #[.int .i64 (cs : Int), .string cd], .bool true]) := he
        have HJ4 := hide (HJ3.out.below hb4).1
        have HK4 := hide (RK.trans HK3.out (HJ3.out.below hb4).2)
        have hbm := mx_below w4 cs cd
        have hxm := Mx.new w4 cs cd
        have HJ5 := hide (HJ4.out.below hbm).1
        have HK5 := hide (RK.trans HK4.out (HJ4.out.below hbm).2)
        have z0 := hxm.c0
        have z1 := hxm.c1
        have v0 := HJ5.out.box.seq hi8
        have v1 := HJ5.out.box.dat hi8
        have u0 := HJ5.out.box.free (3 + i * 2)
        have u1 := HJ5.out.box.free (3 + i * 2 + 1)
        have hgl := hxm.lt
        clear hb4 HBY HJ3 HK3 HJ4 HK4 hbm
        go_wp2
        generalize w4.alloc _ = w5 at *
        go_region
        have hP := HJ5.out.stored (kept_put w5 v i ⟨cs, cd⟩) (HJ5.out.box.put hi8 ⟨cs, cd⟩)
        have HP := hide (show VW w0 R v p q n S L h E (ldH H (i + 1)) (putH w5 v i ⟨cs, cd⟩).drew ∧ RK R w (putH w5 v i ⟨cs, cd⟩).drew from ⟨by rw [ldH_succ, HHi.out]; exact hP.1.drew, RK.trans HK5.out hP.2⟩)
        have hB2 : ∀ b, b < i + 1 → ∃ x, unm b (A.getD (2 + n + b) []) = some x := by
          intro b hb
          rcases Nat.lt_or_ge b i with h | h
          · exact HB.out b h
          · obtain rfl : b = i := by omega
            exact ⟨_, by rw [HZ.out]; exact HU.out⟩
        have HB2 := hide hB2
        clear hP hB2 HJ5 HK5 z0 z1 v0 v1 u0 u1 hxm
        go_wp2
        go_roundw
        case rel => exact ⟨i + 1, by omega, by go_num, HB2.out, hide HP.out.1, hide HP.out.2⟩
        case measure => simp [intOf]; omega
      | none =>
        have HU := hide hu
        clear hu
        rw [hz] at HSEC HRD HLN HU
        have HZ := hide hz
        clear hz
        go_wp2
        refine wp_region_held (S := (fun W => W.cell? ⟨v, 0, none⟩ = some (.pointer (some ⟨q, 0, none⟩)))) (by kernel_rfl) ?_
        change wpAnyH _ _ _ _ _ _ _ _ (World.drew _)
        refine wpAnyH_take (i := 0) (oi := ⟨some 12, _, _, _, _, _⟩) (v := ?_) rfl (by kernel_rfl) (by kernel_rfl) (by kernel_rfl) (fun _ _ _ h => h) (Or.inl ⟨by rfl, ?_⟩) hj.out.drew.box.disk ?_
        rotate_left 1
        · (intro w hSw; obtain hSw1 := hSw; go_simp; try with_reducible rfl)
        simp only [Act.put, List.setIfInBounds_toArray, List.set_cons_zero, List.set_cons_succ]
        refine wpAnyH_take (i := 1) (oi := ⟨some 13, _, _, _, _, _⟩) (v := ?_) rfl (by kernel_rfl) (by kernel_rfl) (by kernel_rfl) (fun _ _ _ h => h) (Or.inl ⟨by rfl, ?_⟩) hj.out.drew.box.disk ?_
        rotate_left 1
        · (intro w hSw; obtain hSw1 := hSw; go_simp; try with_reducible rfl)
        simp only [Act.put, List.setIfInBounds_toArray, List.set_cons_zero, List.set_cons_succ]
        refine wpAnyH_take (i := 2) (oi := ⟨some 14, _, _, _, _, _⟩) (v := ?_) rfl (by kernel_rfl) (by kernel_rfl) (by kernel_rfl) (fun _ _ _ h => h) (Or.inl ⟨by rfl, ?_⟩) hj.out.drew.box.disk ?_
        rotate_left 1
        · (intro w hSw; obtain hSw1 := hSw; go_simp; try with_reducible rfl)
        simp only [Act.put, List.setIfInBounds_toArray, List.set_cons_zero, List.set_cons_succ]
        refine wpAnyH_take (i := 3) (oi := ⟨some 15, _, _, _, _, _⟩) (v := ?_) rfl (by kernel_rfl) (by kernel_rfl) (by kernel_rfl) (fun _ _ _ h => h) (Or.inl ⟨by rfl, ?_⟩) hj.out.drew.box.disk ?_
        rotate_left 1
        · (intro w hSw; obtain hSw1 := hSw; go_simp; try with_reducible rfl)
        simp only [Act.put, List.setIfInBounds_toArray, List.set_cons_zero, List.set_cons_succ]
        refine wpAnyH_take (i := 4) (oi := ⟨some 16, _, _, _, _, _⟩) (v := ?_) rfl (by kernel_rfl) (by kernel_rfl) (by kernel_rfl) (fun _ _ _ h => h) (Or.inl ⟨by rfl, ?_⟩) hj.out.drew.box.disk ?_
        rotate_left 1
        · (intro w hSw; obtain hSw1 := hSw; go_simp; try with_reducible rfl)
        simp only [Act.put, List.setIfInBounds_toArray, List.set_cons_zero, List.set_cons_succ]
        refine wpAnyH_take (i := 5) (oi := ⟨some 17, _, _, _, _, _⟩) (v := ?_) rfl (by kernel_rfl) (by kernel_rfl) (by kernel_rfl) (fun _ _ _ h => h) (Or.inl ⟨by rfl, ?_⟩) hj.out.drew.box.disk ?_
        rotate_left 1
        · (intro w hSw; obtain hSw1 := hSw; go_simp; try with_reducible rfl)
        simp only [Act.put, List.setIfInBounds_toArray, List.set_cons_zero, List.set_cons_succ]
        refine wpAnyH_ready (rs := [6]) (by kernel_rfl) (by simp) ?_
        refine AllReadyH.cons (o := ⟨some 18, _, _, _, _, _⟩) rfl (fun K hK => ?_) AllReadyH.nil
        go_simp
        refine (HSEC.out wr.drew hj.out.drew.box).mono ?_
        rintro r w2 ⟨rfl, rfl⟩
        refine hK.out _ _ hj.out.drew.box.disk (fun hHeld => ?_)
        clear hK K
        clear hHeld
        refine wpAnyH_ready (rs := [7]) (by kernel_rfl) (by simp) ?_
        refine AllReadyH.cons (o := ⟨some 19, _, _, _, _, _⟩) rfl (fun K hK => ?_) AllReadyH.nil
        go_simp
        refine (HRD.out).mono ?_
        rintro r w3 ⟨g, rfl, hg, hby, hb3⟩
        have hb3d := drew_below hb3
        have HJ3 := hide (hj.out.below hb3d).1
        have HK3 := hide (RK.trans hr.out (hj.out.below hb3d).2)
        have HBY := hide hby
        have hS3 := HJ3.out.box.disk
        clear hb3 hb3d hby hg
        refine hK.out _ _ hS3 (fun hHeld => ?_)
        clear hK K
        clear hHeld
        refine wpAnyH_take (i := 8) (oi := ⟨some 11, _, _, _, _, _⟩) (v := ?_) rfl (by kernel_rfl) (by kernel_rfl) (by kernel_rfl) (fun _ _ _ h => h) (Or.inl ⟨by rfl, ?_⟩) hS3 ?_
        rotate_left 1
        · (intro w hSw; obtain hSw1 := hSw; go_simp; try with_reducible rfl)
        simp only [Act.put, List.setIfInBounds_toArray, List.set_cons_zero, List.set_cons_succ]
        refine wpAnyH_take (i := 9) (oi := ⟨some 20, _, _, _, _, _⟩) (v := ?_) rfl (by kernel_rfl) (by kernel_rfl) (by kernel_rfl) (fun _ _ _ h => h) (Or.inl ⟨by rfl, ?_⟩) hS3 ?_
        rotate_left 1
        · (intro w hSw; obtain hSw1 := hSw; go_simp; try with_reducible rfl)
        simp only [Act.put, List.setIfInBounds_toArray, List.set_cons_zero, List.set_cons_succ]
        refine wpAnyH_take (i := 10) (oi := ⟨some 21, _, _, _, _, _⟩) (v := ?_) rfl (by kernel_rfl) (by kernel_rfl) (by kernel_rfl) (fun _ _ _ h => h) (Or.inl ⟨by rfl, ?_⟩) hS3 ?_
        rotate_left 1
        · (intro w hSw; obtain hSw1 := hSw; go_simp; try with_reducible rfl)
        simp only [Act.put, List.setIfInBounds_toArray, List.set_cons_zero, List.set_cons_succ]
        refine wpAnyH_take (i := 11) (oi := ⟨some 4, _, _, _, _, _⟩) (v := ?_) rfl (by kernel_rfl) (by kernel_rfl) (by kernel_rfl) (fun _ _ _ h => h) (Or.inl ⟨by rfl, ?_⟩) hS3 ?_
        rotate_left 1
        · (intro w hSw; obtain hSw1 := hSw; go_simp; try with_reducible rfl)
        simp only [Act.put, List.setIfInBounds_toArray, List.set_cons_zero, List.set_cons_succ]
        refine wpAnyH_take (i := 12) (oi := ⟨some 5, _, _, _, _, _⟩) (v := ?_) rfl (by kernel_rfl) (by kernel_rfl) (by kernel_rfl) (fun _ _ _ h => h) (Or.inl ⟨by rfl, ?_⟩) hS3 ?_
        rotate_left 1
        · (intro w hSw; obtain hSw1 := hSw; go_simp; try with_reducible rfl)
        simp only [Act.put, List.setIfInBounds_toArray, List.set_cons_zero, List.set_cons_succ]
        refine wpAnyH_done (by kernel_rfl) ?_ _
        clear hS3 HRD
        go_wp2_with fail
        refine (decode_any i (by show i ≤ _; omega) (some ⟨g, 0, none⟩) 64 _ w3 HLN.out (Nat.le_refl _) HBY.out (HJ3.out.tab HT.out)).mono ?_
        rintro e w4 ⟨he, hb4⟩
        rw [HU.out] at he
        obtain rfl : e = .returned (.tuple #[.agg #[.int .i64 0, .string ⟨#[]⟩], .bool false]) := he
        have HJ4 := hide (HJ3.out.below hb4).1
        have HK4 := hide (RK.trans HK3.out (HJ3.out.below hb4).2)
        have hbm := mx_below w4 0 ⟨#[]⟩
        have HJ5 := hide (HJ4.out.below hbm).1
        have HK5 := hide (RK.trans HK4.out (HJ4.out.below hbm).2)
        clear hb4 HBY HJ3 HK3 HJ4 HK4 hbm
        go_wp2
        go_ret
        exact ⟨fun hall => (by have := hall i hi8; rw [HZ.out, HU.out] at this; cases this), fun _ => ⟨rfl, ⟨_, HJ5.out⟩, HK5.out⟩⟩
    · obtain rfl : i = 8 := by omega
      clear hge8
      go_wp2
      go_ret
      refine ⟨fun hall => ⟨rfl, hj.out.congr fun b hb => ?_, hr.out⟩, fun ⟨b, hb, hnone⟩ => ?_⟩
      · exact if_pos hb
      · obtain ⟨x, hx⟩ := HB.out b hb
        rw [hx] at hnone
        cases hnone
end

end Go.Proofs.YtapiogcoipeinaaDoor.Vo

/-
  The contract of volume.Open: the volume, with what its home sectors contain; or the fault volume, ring, around ErrArg or ErrSum. Condition: the table of half bytes holds what the program's own text lays.
-/
namespace Go.Proofs.YtapiogcoipeinaaDoor.Vo
open Go.RowKit
open Pk Sm Fa Rc Dk Jn

theorem wpList_box_tld {P : Program} {ops : Array Oper} {rest : List Oper} {o : Oper} {a : Act} {w : World} {Q : Exit → Act → World → Prop} (hg : o.guard = none) (t : TypeId) (x : Operand) (ho : o.op = .box t x)
    (z : Array Value) (hz : a.eval x = .agg z)
    (h : ∀ w', Hid (w' = w.alloc (.cells z t)) → wpList P ops Q rest (a.put o.dst (.pointer (some ⟨w.heap.size, 0, none⟩))) w') : wpList P ops Q (o :: rest) a w := by
  refine wpList_plain hg fun K hK => ?_
  unfold Oper.wp execOp
  simp only [ho, hz, Sem.run_bind, Instr.box, newVar, newRow, run_newObj_alloc, Sem.run_pure, Result.andThen_ok, Value.cells]
  exact hK _ _ (h _ rfl)
theorem built_vol (q n p : Nat) : Tryd.prog.built 62 [(0, .pointer (some ⟨q, 0, none⟩)), (1, .int .i64 (n : Int)), (2, .pointer (some ⟨p, 0, none⟩))] = some (vcs q n p (fun _ => hm0)) := by kernel_rfl

section
variable {w0 w : World} {R : Nat → Prop} {v q n : Nat} {S : List Sec} {h : Hd} {E : List Ent} {H : Nat → Hm}
/-- What a journal's Open leaves. -/
def JO (w0 : World) (R : Nat → Prop) (q n : Nat) (S : List Sec) (h : Hd) (E : List Ent) (w : World) (e : Ending) (w' : World) : Prop :=
  ∃ p, e = .returned (.tuple #[.pointer (some ⟨p, 0, none⟩), .nilIface]) ∧ JW w0 R p q n S [] h E w' ∧ RK R w w'
/-- What a volume's Open leaves. -/
def VO (w0 : World) (R : Nat → Prop) (q n : Nat) (S : List Sec) (h : Hd) (E : List Ent) (H : Nat → Hm) (w : World) (e : Ending) (w' : World) : Prop :=
  ((∀ b, b < 8 → unm b (S.getD (2 + n + b) []) = some (H b)) → ∃ v p, e = .returned (.tuple #[.pointer (some ⟨v, 0, none⟩), .nilIface]) ∧ VW w0 R v p q n S [] h E H w' ∧ RK R w w') ∧
  ((∃ b, b < 8 ∧ unm b (S.getD (2 + n + b) []) = none) → ∃ pp, e = .returned (.tuple #[.pointer none, .iface 96 (.pointer (some ⟨pp, 0, none⟩))]) ∧ VErr w' pp (n : Int) 4 ∧ Below w0.heap.size w0 w' ∧ RK R w w')
set_option maxRecDepth 100000 in
set_option maxHeartbeats 2000000 in
theorem Open_any {m : Nat} (hl : Calls Tryd.prog 19 #[.pointer (some ⟨q, 0, none⟩)] w fun e w' => e = .returned (.int .i64 m) ∧ w = w')
    (ho : Calls Tryd.prog 21 #[.pointer (some ⟨q, 0, none⟩), .int .i64 (n : Int)] w (JO w0 R q n S h E w)) (ht : Tab w0) (h1n : 1 ≤ n) (h512 : n ≤ 512) (hm : 10 + n ≤ m) (hS : 2 + n + 8 ≤ S.length)
    (hH : ∀ b, b < 8 → ∀ x, unm b (S.getD (2 + n + b) []) = some x → H b = x) :
    Calls Tryd.prog 9 #[.pointer (some ⟨q, 0, none⟩), .int .i64 (n : Int)] w (VO w0 R q n S h E H w) := by
  have HLn := hide hl
  have HO := hide ho
  have HT := hide ht
  have HS := hide hS
  have HH := hide hH
  have HN := hide h512
  have HSC := hide (Sectors_any (n : Int) (by omega) (by omega) w)
  have g1 : ¬ ((n : Int) < 1) := by omega
  have g2 : ¬ ((512 : Int) < (n : Int)) := by omega
  have g3 : ¬ ((m : Int) < 10 + (n : Int)) := by omega
  clear hl ho ht h1n h512 hm hS hH
  go_enter Tryd.func9, Tryd.ntmps9
  go_wp2_with fail
  refine HLn.out.mono ?_
  rintro e w' ⟨rfl, rfl⟩
  clear HLn
  go_wp2_with fail
  refine HSC.out.mono ?_
  rintro e w' ⟨rfl, rfl⟩
  clear HSC
  go_wp2_with fail
  refine HO.out.mono ?_
  rintro e w1 ⟨p, rfl, hj, hk⟩
  have HJ1 := hide hj
  have HK1 := hide hk
  clear hj hk HO
  go_wp2_with (first | refine wpList_built rfl 62 _ rfl _ (built_vol q n p) ?_ | (refine wpList_box_tld rfl 62 _ rfl _ rfl ?_; intro w2 Hw2) | fail)
  have hfr : VW w0 R w1.heap.size p q n S [] h E (fun _ => hm0) w2 ∧ RK R w1 w2 := by rw [Hw2.out]; exact VW.fresh HJ1.out
  have HV2 := hide hfr.1
  have HK2 := hide (RK.trans HK1.out hfr.2)
  clear hfr Hw2
  generalize w1.heap.size = v at *
  have HLD := hide (load_any HV2.out HT.out HN.out HS.out (by simp) HH.out)
  refine HLD.out.mono ?_
  rintro e w3 ⟨ha, hb⟩
  by_cases hall : ∀ b, b < 8 → unm b (S.getD (2 + n + b) []) = some (H b)
  · obtain ⟨rfl, hv3, hk3⟩ := ha hall
    have HV3 := hide hv3
    have HK3 := hide (RK.trans HK2.out hk3)
    have HA := hide hall
    clear ha hb hv3 hk3 hall HLD HV2 HK2
    go_wp2
    go_ret2
    exact ⟨fun _ => ⟨v, p, rfl, HV3.out, HK3.out⟩, fun ⟨b, h1, h2⟩ => (by have := HA.out b h1; rw [this] at h2; cases h2)⟩
  · have hex : ∃ b, b < 8 ∧ unm b (S.getD (2 + n + b) []) = none := by
      refine Classical.byContradiction fun hc => hall fun b hb => ?_
      cases hu : unm b (S.getD (2 + n + b) []) with
      | none => exact absurd ⟨b, hb, hu⟩ hc
      | some x => rw [HH.out b hb x hu]
    obtain ⟨rfl, ⟨H', hv3⟩, hk3⟩ := hb hex
    have HB3 := hide hv3.bel
    have HK3 := hide (RK.trans HK2.out hk3)
    have HV3 := hide hv3
    have HA := hide hex
    clear ha hb hv3 hk3 hall hex HLD HV2 HK2
    go_wp2_with fail
    refine (failed_num (n : Int) 4 w3 (by decide)).mono ?_
    rintro e w4 ⟨pp, rfl, hf4, hb4⟩
    have HF := hide hf4
    have HB4 := hide (HB3.out.trans (hb4.mono HB3.out.size))
    have HK4 := hide (RK.trans HK3.out (HV3.out.below hb4).2)
    clear hf4 hb4
    go_wp2
    go_ret2
    exact ⟨fun hall => (by obtain ⟨b, h1, h2⟩ := HA.out; rw [hall b h1] at h2; cases h2), fun _ => ⟨pp, rfl, HF.out, HB4.out, HK4.out⟩⟩
end

end Go.Proofs.YtapiogcoipeinaaDoor.Vo

/-
  A volume that a statement made, with what is always so of its sectors: what each call leaves. Condition: the table of half bytes holds what the program's own text lays.
-/
namespace Go.Proofs.YtapiogcoipeinaaDoor.Vo
open Go.RowKit
open Pk Sm Fa Rc Dk Jn

structure Lim (n : Nat) (h : Hd) (E : List Ent) (T : Nat) : Prop where
  t : h.t ≤ T
  g : h.g ≤ T
  f : h.f + E.length ≤ T + 1
  T : T ≤ 1000
  n1 : 1 ≤ n
  n200 : n ≤ 200
theorem Lim.more {n T T' : Nat} {h : Hd} {E : List Ent} (l : Lim n h E T) (hT : T ≤ T') (hT' : T' ≤ 1000) : Lim n h E T' := ⟨Nat.le_trans l.t hT, Nat.le_trans l.g hT, by have := l.f; omega, hT', l.n1, l.n200⟩
theorem headok {t f g l : Nat} (ht : t ≤ 1001) (hf : f ≤ 2000) (hg : g ≤ 1001) (h1 : 1 ≤ f) (hl : l ≤ g) : HOk (t % 2) ⟨t, f, g, l⟩ :=
  ⟨by show t ≤ _; omega, by show f ≤ _; omega, by show g ≤ _; omega, by show l ≤ _; omega, h1, hl, rfl⟩
theorem all_one (S : List Sec) (i : Nat) (s : Sec) : all S ([] ++ [(i, s)]) = S.set i s := rfl

/-- The volume v on the disk q: what it holds, of which the first D records are flushed. -/
def VS (w0 : World) (R : Nat → Prop) (v p q n : Nat) (h : Hd) (E : List Ent) (H : Nat → Hm) (D T : Nat) (w : World) : Prop := ∃ S, VW w0 R v p q n S (wrs n (E.drop D)) h E H w ∧ Vg S n h E D h.g H ∧ Lim n h E T
/-- Behind a crash: the first i records are there. -/
def VC (w0 : World) (R : Nat → Prop) (v p q n : Nat) (h : Hd) (E : List Ent) (H : Nat → Hm) (i T : Nat) (w : World) : Prop := ∃ S, VW w0 R v p q n S [] h E H w ∧ Vg S n h (E.take i) i (h.g + 1) H ∧ i ≤ E.length ∧ Lim n h E T

section
variable {w0 w w' : World} {R : Nat → Prop} {v p q n : Nat} {h : Hd} {E : List Ent} {H : Nat → Hm} {D T i : Nat}
theorem VS.lim (j : VS w0 R v p q n h E H D T w) : Lim n h E T := by
  obtain ⟨S, _, _, h3⟩ := j
  exact h3
theorem VS.few (j : VS w0 R v p q n h E H D T w) : E.length ≤ n ∧ D ≤ E.length ∧ Seqs h.f E := by
  obtain ⟨S, _, h2, _⟩ := j
  exact ⟨h2.jg.few, h2.jg.le, h2.jg.seqs⟩
theorem VS.fit (j : VS w0 R v p q n h E H D T w) {b : Nat} (hb : b < 8) : Wf (cont b (H b) E) := by
  obtain ⟨S, _, h2, _⟩ := j
  exact h2.fit hb
theorem VS.pos (j : VS w0 R v p q n h E H D T w) : 1 ≤ h.f := by
  obtain ⟨S, _, h2, _⟩ := j
  exact h2.jg.head.1.pos
theorem VS.below (j : VS w0 R v p q n h E H D T w) (hb : Below w.heap.size w w') : VS w0 R v p q n h E H D T w' ∧ RK R w w' := by
  obtain ⟨S, h1, h2, h3⟩ := j
  exact ⟨⟨S, (h1.below hb).1, h2, h3⟩, (h1.below hb).2⟩
theorem VS.bel (j : VS w0 R v p q n h E H D T w) : Below w0.heap.size w0 w := by
  obtain ⟨S, h1, _⟩ := j
  exact h1.bel
theorem VS.hold {R' : Nat → Prop} (j : VS w0 R v p q n h E H D T w) (hb : Below w.heap.size w w') (hR : ∀ k, R' k → w.heap.size ≤ k ∧ k < w'.heap.size) : VS w0 (fun k => R k ∨ R' k) v p q n h E H D T w' := by
  obtain ⟨S, h1, h2, h3⟩ := j
  exact ⟨S, h1.hold hb hR, h2, h3⟩
theorem VS.mono {R' : Nat → Prop} (j : VS w0 R v p q n h E H D T w) (hR : ∀ k, R' k → R k) : VS w0 R' v p q n h E H D T w := by
  obtain ⟨S, h1, h2, h3⟩ := j
  exact ⟨S, h1.mono hR, h2, h3⟩
theorem VS.more {T' : Nat} (j : VS w0 R v p q n h E H D T w) (hT : T ≤ T') (hT' : T' ≤ 1000) : VS w0 R v p q n h E H D T' w := by
  obtain ⟨S, h1, h2, h3⟩ := j
  exact ⟨S, h1, h2, h3.more hT hT'⟩
theorem VS.tab (j : VS w0 R v p q n h E H D T w) (ht : Tab w0) : Tab w := ht.below j.bel ht.pos
theorem VS.short (j : VS w0 R v p q n h E H D T w) : (wrs n (E.drop D)).length ≤ 200 := by
  have := j.few.1
  have := j.lim.n200
  rw [wrs_length, List.length_drop]
  omega
theorem VS.next (j : VS w0 R v p q n h E H D T w) : Calls Tryd.prog 17 #[.pointer (some ⟨v, 0, none⟩)] w fun e w' => e = .returned (.int .i64 ((h.f + E.length : Nat) : Int)) ∧ Below w.heap.size w w' := by
  have l := j.lim
  have f := j.few
  obtain ⟨S, h1, _⟩ := j
  exact h1.next (by have := l.f; have := l.T; omega) (by have := l.n200; omega)
theorem VS.read (j : VS w0 R v p q n h E H D T w) {b : Nat} (hb : b < 8) :
    Calls Tryd.prog 18 #[.pointer (some ⟨v, 0, none⟩), .int .i64 (b : Int)] w fun e w' => e = .returned (.tuple #[.string (blk H E b), .nilIface]) ∧ Below w.heap.size w w' := by
  have l := j.lim
  have f := j.few
  obtain ⟨S, h1, _⟩ := j
  exact Read_good h1 b hb (by have := l.n200; omega)
theorem VS.of_append {S : List Sec} (h2 : Vg S n h E D h.g H) (l : Lim n h E T) (hT : T + 1 ≤ 1000) (he : E.length < n) {y : Ent} (hok : EOk y) (hs : y.s = h.f + E.length) (hg : y.g = h.g)
    (hv : VW w0 R v p q n S (wrs n (E.drop D) ++ [(2 + (h.f + E.length) % n, esec y)]) h (E ++ [y]) H w') : VS w0 R v p q n h (E ++ [y]) H D (T + 1) w' := by
  refine ⟨S, ?_, h2.append (Nat.le_refl _) he hok hs hg, ⟨by have := l.t; omega, by have := l.g; omega, by have := l.f; simp; omega, hT, l.n1, l.n200⟩⟩
  rw [List.drop_append_of_le_length h2.jg.le]
  simpa [wrs, wr, hs] using hv
theorem VS.eok (j : VS w0 R v p q n h E H D T w) {k b : Int} {d : ByteArray} {m : Int} : EOk ⟨h.g, h.f + E.length, k, b, d, m⟩ ↔ (k = 1 ∧ 0 ≤ b ∧ b ≤ 7 ∧ d.size ≤ 16 ∧ m = 0) ∨ (k = 2 ∧ b = 0 ∧ d.size = 0 ∧ 1 ≤ m ∧ m ≤ 1152921504606846975) := by
  have l := j.lim
  obtain ⟨S, _, h2, _⟩ := j
  have h1 := h2.jg.head.1.pos
  unfold EOk Rgt Num
  constructor
  · intro h; exact h.1.2
  · intro h'; exact ⟨⟨⟨by show (1 : Int) ≤ ((h.f + E.length : Nat) : Int); omega, by show ((h.f + E.length : Nat) : Int) ≤ _; have := l.f; have := l.T; omega⟩, h'⟩, by show (0 : Int) ≤ (h.g : Int); omega, by show (h.g : Int) ≤ _; have := l.g; have := l.T; omega⟩
/-- A write that is done. -/
theorem VS.write (j : VS w0 R v p q n h E H D T w) (ht : Tab w0) (hT : T + 1 ≤ 1000) (he : E.length < n) {b : Int} (h0 : 0 ≤ b) (h8 : b < 8) {d : ByteArray} (hd : d.size ≤ 16) :
    Calls Tryd.prog 11 #[.pointer (some ⟨v, 0, none⟩), .int .i64 b, .string d] w fun e w' => e = .returned (.tuple #[.int .i64 ((h.f + E.length : Nat) : Int), .nilIface]) ∧
      VS w0 R v p q n h (E ++ [⟨h.g, h.f + E.length, 1, b, d, 0⟩]) H D (T + 1) w' ∧ RK R w w' := by
  have l := j.lim
  have f := j.few
  have hs := j.short
  have hok : EOk ⟨h.g, h.f + E.length, 1, b, d, 0⟩ := j.eok.2 (Or.inl ⟨rfl, h0, by omega, hd, rfl⟩)
  obtain ⟨S, h1, h2, h3⟩ := j
  refine (Write_good h1 ht (by have := l.f; have := l.T; omega) (by have := l.n200; omega) he b d h0 h8 hd hok h2.jg.size (by omega)).mono ?_
  rintro e w' ⟨rfl, hj, hk⟩
  exact ⟨rfl, VS.of_append h2 h3 hT he hok rfl rfl hj, hk⟩
/-- A write that is refused: no such block, too long, or no room. -/
def wrong (n : Nat) (E : List Ent) (b : Int) (d : ByteArray) : Int := if ¬ (0 ≤ b ∧ b < 8) then 5 else if ¬ d.size ≤ 16 then 1 else if E.length = n then 6 else 0
theorem VS.write_no (j : VS w0 R v p q n h E H D T w) {b : Int} {d : ByteArray} (hw : wrong n E b d ≠ 0) :
    Calls Tryd.prog 11 #[.pointer (some ⟨v, 0, none⟩), .int .i64 b, .string d] w fun e w' => ∃ pp, e = .returned (.tuple #[.int .i64 0, .iface 96 (.pointer (some ⟨pp, 0, none⟩))]) ∧
      VErr w' pp b (wrong n E b d) ∧ Below w.heap.size w w' := by
  have l := j.lim
  have f := j.few
  obtain ⟨S, h1, h2, h3⟩ := j
  unfold wrong at hw ⊢
  by_cases hb : 0 ≤ b ∧ b < 8
  · rw [if_neg (by simpa using hb)] at hw ⊢
    by_cases hd : d.size ≤ 16
    · rw [if_neg (by simpa using hd)] at hw ⊢
      by_cases hE : E.length = n
      · have := Write_full h1 (by have := l.f; have := l.T; omega) (by have := l.n200; omega) f.1 b d hb.1 hb.2 hd (Or.inl hE)
        rw [if_pos hE] at this
        rw [if_pos hE]
        exact this
      · rw [if_neg hE] at hw
        exact absurd rfl hw
    · rw [if_pos hd]
      exact Write_long b d hb.1 hb.2 hd
  · rw [if_pos hb]
    exact Write_range b d hb
theorem wrong_zero {b : Int} {d : ByteArray} (hl : E.length ≤ n) (hw : wrong n E b d = 0) : 0 ≤ b ∧ b < 8 ∧ d.size ≤ 16 ∧ E.length < n := by
  unfold wrong at hw
  by_cases hb : 0 ≤ b ∧ b < 8
  · rw [if_neg (by simpa using hb)] at hw
    by_cases hd : d.size ≤ 16
    · rw [if_neg (by simpa using hd)] at hw
      by_cases hE : E.length = n
      · rw [if_pos hE] at hw; cases hw
      · exact ⟨hb.1, hb.2, hd, by omega⟩
    · rw [if_pos hd] at hw; cases hw
  · rw [if_pos hb] at hw; cases hw
/-- A marker that is told. -/
theorem VS.mark (j : VS w0 R v p q n h E H D T w) (ht : Tab w0) (hT : T + 1 ≤ 1000) (he : E.length < n) {m : Int} (h1m : 1 ≤ m) (h2m : m ≤ 1152921504606846975) :
    Calls Tryd.prog 12 #[.pointer (some ⟨v, 0, none⟩), .int .i64 m] w fun e w' => e = .returned (.tuple #[.int .i64 ((h.f + E.length : Nat) : Int), .nilIface]) ∧
      VS w0 R v p q n h (E ++ [⟨h.g, h.f + E.length, 2, 0, ⟨#[]⟩, m⟩]) H D (T + 1) w' ∧ RK R w w' := by
  have l := j.lim
  have f := j.few
  have hs := j.short
  have hok : EOk ⟨h.g, h.f + E.length, 2, 0, ⟨#[]⟩, m⟩ := j.eok.2 (Or.inr ⟨rfl, rfl, rfl, h1m, h2m⟩)
  obtain ⟨S, h1, h2, h3⟩ := j
  refine (Mark_good h1 ht (by have := l.f; have := l.T; omega) (by have := l.n200; omega) he m hok h2.jg.size (by omega)).mono ?_
  rintro e w' ⟨rfl, hj, hk⟩
  exact ⟨rfl, VS.of_append h2 h3 hT he hok rfl rfl hj, hk⟩
theorem VS.mark_no (j : VS w0 R v p q n h E H D T w) {m : Int} (hno : E.length = n ∨ ¬ (1 ≤ m ∧ m ≤ 1152921504606846975)) :
    Calls Tryd.prog 12 #[.pointer (some ⟨v, 0, none⟩), .int .i64 m] w fun e w' => ∃ pp, e = .returned (.tuple #[.int .i64 0, .iface 96 (.pointer (some ⟨pp, 0, none⟩))]) ∧
      VErr w' pp m (if E.length = n then 6 else 1) ∧ Below w.heap.size w w' := by
  have l := j.lim
  have f := j.few
  have hok : E.length = n ∨ ¬ EOk ⟨h.g, h.f + E.length, 2, 0, ⟨#[]⟩, m⟩ := hno.imp id fun h hk => h (by
    rcases j.eok.1 hk with h | h
    · exact absurd h.1 (by decide)
    · exact ⟨h.2.2.2.1, h.2.2.2.2⟩)
  obtain ⟨S, h1, h2, h3⟩ := j
  exact Mark_bad h1 (by have := l.f; have := l.T; omega) (by have := l.n200; omega) f.1 m hok
theorem VS.flush (j : VS w0 R v p q n h E H D T w) :
    Calls Tryd.prog 13 #[.pointer (some ⟨v, 0, none⟩)] w fun e w' => e = .returned (.tuple #[]) ∧ VS w0 R v p q n h E H E.length T w' ∧ RK R w w' := by
  have hs := j.short
  obtain ⟨S, h1, h2, h3⟩ := j
  refine (h1.flush (by omega)).mono ?_
  rintro e w' ⟨rfl, hj, hk⟩
  refine ⟨rfl, ⟨all S (wrs n (E.drop D)), ?_, h2.flush (by omega), h3⟩, hk⟩
  rw [List.drop_length]
  exact hj
/-- How many records a checkpoint up to u drops. -/
def upk (h : Hd) (u : Int) : Nat := (u + 1 - (h.f : Int)).toNat
theorem VS.checkpoint (j : VS w0 R v p q n h E H D T w) (ht : Tab w0) (hT : T + 1 ≤ 1000) {u : Int} (h0 : 0 ≤ u) (hu : u < ((h.f + E.length : Nat) : Int)) :
    Calls Tryd.prog 14 #[.pointer (some ⟨v, 0, none⟩), .int .i64 u] w fun e w' => e = .returned .nilIface ∧
      VS w0 R v p q n (trh h E (upk h u)) (E.drop (upk h u)) (hms H E 8) (E.length - upk h u) (T + 1) w' ∧ RK R w w' := by
  have l := j.lim
  have f := j.few
  have hs := j.short
  have hd : ∀ b, b < 8 → (cont b (H b) E).d.size ≤ 16 := fun b hb => (j.fit hb).len
  obtain ⟨S, h1, h2, h3⟩ := j
  have hkE : upk h u ≤ E.length := by unfold upk; omega
  refine (Checkpoint_good h1 ht (by have := l.t; have := l.T; omega) (by have := l.f; have := l.T; omega) (by have := l.n200; omega) hd (by have := l.n200; omega) h2.size (by omega) u h0 hu (upk h u) (by unfold upk; omega)).mono ?_
  rintro e w' ⟨rfl, hj, hk⟩
  refine ⟨rfl, ?_, hk⟩
  have h2h := (h2.flush (Nat.le_succ _)).homes
  have ed : (E.drop (upk h u)).drop (E.length - upk h u) = [] := List.drop_eq_nil_of_le (by rw [List.length_drop]; exact Nat.le_refl _)
  have hpos := h2.jg.head.1.pos
  have htt := l.t
  have hgg := l.g
  have hff := l.f
  have hTT := l.T
  refine ⟨trs (all (all S (wrs n (E.drop D))) (bws n H E 8)) h E (upk h u), ?_, ?_, ?_⟩
  · rw [ed]
    exact hj
  · unfold trs trh
    by_cases hk0 : upk h u = 0
    · rw [if_pos hk0, if_pos hk0, hk0]
      exact h2h
    · rw [if_neg hk0, if_neg hk0]
      have hle : lst h.l (E.take (upk h u)) ≤ h.g := (h2.jg.up.take (upk h u)).lst
      exact h2h.save (h' := ⟨h.t + 1, h.f + upk h u, h.g, lst h.l (E.take (upk h u))⟩) rfl (headok (t := h.t + 1) (f := h.f + upk h u) (g := h.g) (l := lst h.l (E.take (upk h u))) (by omega) (by omega) (by omega) (by omega) hle) hkE rfl rfl (Nat.le_refl _) (Nat.le_refl _)
  · unfold trh
    by_cases hk0 : upk h u = 0
    · rw [if_pos hk0, hk0]
      exact h3.more (Nat.le_succ _) hT
    · rw [if_neg hk0]
      exact ⟨by show h.t + 1 ≤ _; omega, by show h.g ≤ _; omega, by show h.f + upk h u + (E.drop (upk h u)).length ≤ _; rw [List.length_drop]; omega, hT, l.n1, l.n200⟩
theorem VS.checkpoint_no (j : VS w0 R v p q n h E H D T w) {u : Int} (hu : u < 0 ∨ ((h.f + E.length : Nat) : Int) ≤ u) :
    Calls Tryd.prog 14 #[.pointer (some ⟨v, 0, none⟩), .int .i64 u] w fun e w' => ∃ pp, e = .returned (.iface 96 (.pointer (some ⟨pp, 0, none⟩))) ∧ VErr w' pp u 5 ∧ Below w.heap.size w w' := by
  have l := j.lim
  have f := j.few
  obtain ⟨S, h1, h2, h3⟩ := j
  exact Checkpoint_range h1 (by have := l.f; have := l.T; omega) (by have := l.n200; omega) u hu
theorem VS.crash (j : VS w0 R v p q n h E H D T w) (K : Nat) (hK : K < 18446744073709551616) :
    Calls Tryd.prog 16 #[.pointer (some ⟨q, 0, none⟩), .int .u64 K] w fun e w' => e = .returned (.tuple #[]) ∧ ∃ i, D ≤ i ∧ i ≤ E.length ∧ VC w0 R v p q n h E H i T w' ∧ RK R w w' := by
  have hs := j.short
  obtain ⟨S, h1, h2, h3⟩ := j
  refine (h1.jw.crash K hK (by omega)).mono ?_
  rintro e w' ⟨rfl, hj, hk⟩
  obtain ⟨i, hi1, hi2, hi3⟩ := h2.crash K (Nat.le_succ _)
  exact ⟨rfl, i, hi1, hi2, ⟨_, (h1.after hj hk).1, hi3, hi2, h3⟩, (h1.after hj hk).2⟩
theorem VC.open (j : VC w0 R v p q n h E H i T w) (ht : Tab w0) (hT : T + 1 ≤ 1000) :
    Calls Tryd.prog 9 #[.pointer (some ⟨q, 0, none⟩), .int .i64 (n : Int)] w fun e w' => ∃ v' p', e = .returned (.tuple #[.pointer (some ⟨v', 0, none⟩), .nilIface]) ∧ VS w0 R v' p' q n ⟨h.t + 1, h.f, h.g + 1, h.l⟩ (E.take i) H i (T + 1) w' ∧ RK R w w' := by
  obtain ⟨S, h1, h2, hi, l⟩ := j
  have hlen : (E.take i).length = i := by rw [List.length_take]; omega
  have h2' : Vg S n h (E.take i) (E.take i).length (h.g + 1) H := by rw [hlen]; exact h2
  have hjw : JW w0 R p q n S [] h E w := h1.jw.mono fun k hk => Or.inl hk
  have hf := l.f
  have hTT := l.T
  have htt := l.t
  have hgg := l.g
  have hl : Jn.load (all S []) n h.g n h.f h.l = E.take i := h2'.jg.load
  have hsv := h2'.save (h' := ⟨h.t + 1, h.f, h.g + 1, h.l⟩) (k := 0) rfl (headok (t := h.t + 1) (f := h.f) (g := h.g + 1) (l := h.l) (by omega) (by omega) (by omega) h2.jg.head.1.pos (by have := h2.jg.head.1.low; omega)) (Nat.zero_le _) rfl rfl (Nat.le_succ _) (Nat.le_refl _)
  rw [List.drop_zero, Nat.sub_zero, hlen] at hsv
  have hopen := hjw.open ht l.n1 (by have := l.n200; omega) h2.jg.size (h' := h) h2.jg.cur (by simp)
  rw [hl, all_one] at hopen
  refine (Open_any (H := H) (JW.len hjw) hopen ht l.n1 (by have := l.n200; omega) (by have := h2.size; omega) hsv.size (fun b hb x hx => ?_)).mono ?_
  · rw [hsv.told hb] at hx
    cases hx
    rfl
  rintro e w' ⟨ha, _⟩
  obtain ⟨v', p', rfl, hv, hk⟩ := ha fun b hb => hsv.told hb
  refine ⟨v', p', rfl, ⟨_, ?_, hsv, ⟨by show h.t + 1 ≤ _; omega, by show h.g + 1 ≤ _; omega, by show h.f + (E.take i).length ≤ _; rw [hlen]; omega, hT, l.n1, l.n200⟩⟩, hk⟩
  rw [show (E.take i).drop i = [] from List.drop_eq_nil_of_le (by omega)]
  exact hv
theorem VS.start {N : Nat} {D : Nat → Prop} (hd : Dsk w D q (List.replicate N zero) []) (ht : Tab w0) (h2 : ∀ k, D k → w0.heap.size ≤ k) (h3 : Below w0.heap.size w0 w) (h4 : ∀ k, R k → k < w.heap.size ∧ ¬ D k) (h1n : 1 ≤ n) (h200 : n ≤ 200) (h2n : 10 + n ≤ N) :
    Calls Tryd.prog 9 #[.pointer (some ⟨q, 0, none⟩), .int .i64 (n : Int)] w fun e w' => ∃ v p, e = .returned (.tuple #[.pointer (some ⟨v, 0, none⟩), .nilIface]) ∧ VS w0 R v p q n ⟨1, 1, 1, 0⟩ [] (fun _ => hm0) 0 1 w' ∧ RK R w w' := by
  have hsv : Vg ((List.replicate N zer).set 1 (hsec ⟨1, 1, 1, 0⟩)) n ⟨1, 1, 1, 0⟩ [] 0 1 (fun _ => hm0) := Vg.fresh h1n (by omega)
  refine (Open_any (H := fun _ => hm0) (Len_any hd) (JW.start hd ht h2 h3 h4 h1n (by omega) (by omega)) ht h1n (by omega) (by simpa using h2n) hsv.size (fun b hb x hx => ?_)).mono ?_
  · rw [hsv.told hb] at hx
    cases hx
    rfl
  rintro e w' ⟨ha, _⟩
  obtain ⟨v', p', rfl, hv, hk⟩ := ha fun b hb => hsv.told hb
  exact ⟨v', p', rfl, ⟨_, hv, hsv, ⟨Nat.le_refl _, Nat.le_refl _, by decide, by decide, h1n, h200⟩⟩, hk⟩
end

end Go.Proofs.YtapiogcoipeinaaDoor.Vo

/-
  The statements' own awake. Condition: the table of half bytes holds what the program's own text lays.
-/
namespace Go.Proofs.YtapiogcoipeinaaDoor.Vo
open Go.RowKit
open Pk Sm Fa Rc Dk Jn

theorem blk_one (b : Nat) (s : Nat) (d : ByteArray) (m : Int) (g : Nat) (hs : 0 < s) : blk (fun _ => hm0) [⟨g, s, 1, (b : Int), d, m⟩] b = d :=
  congrArg Hm.d (show (if Hits b hm0 ⟨g, s, 1, (b : Int), d, m⟩ then (⟨s, d⟩ : Hm) else hm0) = ⟨s, d⟩ from if_pos ⟨rfl, rfl, hs⟩)
set_option maxRecDepth 100000 in
set_option maxHeartbeats 2000000 in
theorem awake_any (w : World) (ht : Tab w) : Calls Tryd.prog 5 #[] w fun r w' => r = .returned (.bool true) ∧ Below w.heap.size w w' := by
  have HT := hide ht
  have HN := hide (New_any 14 14 w (by decide))
  have HS := hide (fun W => Sectors_any 4 (by omega) (by omega) W)
  clear ht
  go_enter Tryd.func5, Tryd.ntmps5
  go_wp2_with fail
  refine (HS.out _).mono ?_
  rintro e w1 ⟨rfl, rfl⟩
  go_wp2_with fail
  refine HN.out.mono ?_
  rintro e w1 ⟨q, D, rfl, hd, hD, hb1⟩
  have HO := hide (VS.start (R := fun _ => False) (n := 4) hd HT.out hD hb1 (fun k hk => hk.elim) (by omega) (by omega) (by omega))
  clear hd hD hb1 HN
  go_wp2_with fail
  refine HO.out.mono ?_
  rintro e w2 ⟨v, p, rfl, hj, _⟩
  have HJ2 := hide hj
  clear hj HO
  go_wp2_with fail
  refine (HS.out _).mono ?_
  rintro e w1 ⟨rfl, rfl⟩
  have HA := hide (HJ2.out.write HT.out (by decide) (by decide) (b := 3) (by decide) (by decide) (d := ⟨#[97]⟩) (by decide))
  go_wp2_with fail
  refine HA.out.mono ?_
  rintro e w3 ⟨rfl, hj, _⟩
  have HJ3 := hide hj
  clear hj HA HJ2
  have HR := hide (HJ3.out.read (b := 3) (by decide))
  rw [show blk (fun _ => hm0) ([] ++ [(⟨(⟨1, 1, 1, 0⟩ : Hd).g, (⟨1, 1, 1, 0⟩ : Hd).f + ([] : List Ent).length, 1, 3, ⟨#[97]⟩, 0⟩ : Ent)]) 3 = ⟨#[97]⟩ from blk_one 3 1 ⟨#[97]⟩ 0 1 (by decide)] at HR
  go_wp2_with fail
  refine HR.out.mono ?_
  rintro e w4 ⟨rfl, hb4⟩
  have HB := hide (HJ3.out.below hb4).1.bel
  clear hb4 HJ3 HR
  go_wp2
  go_ret
  exact ⟨rfl, HB.out⟩

end Go.Proofs.YtapiogcoipeinaaDoor.Vo

/-
  The statements' own blocks and alike: the contents of all eight blocks, in a row of the call's own; whether two such rows are the same. Nothing that was there is changed.
-/
namespace Go.Proofs.YtapiogcoipeinaaDoor.Vo
open Go.RowKit
open Pk Sm Fa Rc Dk Jn

/-- The contents of all blocks. -/
def blks (H : Nat → Hm) (E : List Ent) : List ByteArray := (List.range 8).map (blk H E)
theorem blks_length (H : Nat → Hm) (E : List Ent) : (blks H E).length = 8 := by simp [blks]
theorem blks_get (H : Nat → Hm) (E : List Ent) {b : Nat} (hb : b < 8) : (blks H E)[b]? = some (blk H E b) := by simp [blks, hb]
theorem blks_ext {H H' : Nat → Hm} {E E' : List Ent} (h : ∀ b, b < 8 → blk H E b = blk H' E' b) : blks H E = blks H' E' :=
  List.map_congr_left fun b hb => h b (List.mem_range.1 hb)
def strs (L : List ByteArray) : List Value := L.map Value.string
theorem strs_length (L : List ByteArray) : (strs L).length = L.length := by simp [strs]
/-- A row of eight texts: its block. -/
structure Bks (w : World) (g c : Nat) (L : List ByteArray) : Prop where
  len : L.length = 8
  cap : 8 ≤ c
  max : c ≤ maxLen
  mem : ∃ cur, w.heap[g]? = some (.cells cur 9 (0, 0)) ∧ cur.size = c ∧ cur.toList.take 8 = strs L
section
variable {w w' : World} {g c : Nat} {L : List ByteArray}
theorem Bks.lt (h : Bks w g c L) : g < w.heap.size := by
  obtain ⟨cur, h1, _⟩ := h.mem
  exact (Array.getElem?_eq_some_iff.1 h1).1
theorem Bks.same (h : Bks w g c L) (hk : w'.heap[g]? = w.heap[g]?) : Bks w' g c L := by
  obtain ⟨cur, h1, h2⟩ := h.mem
  exact ⟨h.len, h.cap, h.max, cur, hk.trans h1, h2⟩
theorem Bks.below (h : Bks w g c L) (hb : Below w.heap.size w w') : Bks w' g c L := h.same (hb.block g h.lt)
theorem Bks.free (h : Bks w g c L) (i : Nat) : w.frozen? ⟨g, i, none⟩ = false := by
  obtain ⟨cur, h1, _⟩ := h.mem
  exact blk_free h1 i
theorem Bks.cell (h : Bks w g c L) {b : Nat} {s : ByteArray} (hs : L[b]? = some s) : w.cell? ⟨g, b, none⟩ = some (.string s) := by
  obtain ⟨cur, h1, h2, h3⟩ := h.mem
  have hb : b < 8 := by have := (List.getElem?_eq_some_iff.1 hs).1; have := h.len; omega
  have h4 : (cur.toList.take 8)[b]? = some (.string s) := by rw [h3]; simp [strs, hs]
  rw [List.getElem?_take, if_pos hb] at h4
  simp only [World.cell?, h1]
  rw [← Array.getElem?_toList]
  exact h4
theorem Bks.of_own {B : Nat} {v : Value} (h : w.ownsRow B 9 1 v 8 (strs L)) (hl : L.length = 8) : ∃ g c, v = .slice (some ⟨g, 0, none⟩) 8 c ∧ B ≤ g ∧ Bks w g c L := by
  rcases h.2 with ⟨_, h0⟩ | ⟨g, cap, cur, rfl, hb, hg, hn, hm, hs, ht⟩
  · cases h0
  · exact ⟨g, cap, rfl, hb, hl, hn, hm, cur, hg, by omega, by simpa using ht⟩
theorem Bks.set (h : Bks w g c L) (b : Nat) (s : ByteArray) : Bks (w.setCell ⟨g, b, none⟩ (.string s)) g c (L.set b s) := by
  obtain ⟨cur, h1, h2, h3⟩ := h.mem
  refine ⟨by rw [List.length_set]; exact h.len, h.cap, h.max, _, heap_setCell_same w g b _ _ (.string s) h1, by simp [h2], ?_⟩
  rw [Array.toList_setIfInBounds, List.take_set, h3]
  simp [strs]
end

section
variable {w0 w : World} {R : Nat → Prop} {v p q n : Nat} {h : Hd} {E : List Ent} {H : Nat → Hm} {D T : Nat}
set_option maxRecDepth 100000 in
set_option maxHeartbeats 2000000 in
theorem blocks_any (j : VS w0 R v p q n h E H D T w) :
    Calls Tryd.prog 10 #[.pointer (some ⟨v, 0, none⟩)] w fun e w' => ∃ g c, e = .returned (.slice (some ⟨g, 0, none⟩) 8 c) ∧ w.heap.size ≤ g ∧ Bks w' g c (blks H E) ∧ Below w.heap.size w w' := by
  obtain ⟨i0, hi0, hz0, hz1, hz2⟩ := info_parts (show (Tryd.prog.info? 9).map (fun i => (i.zero, i.size, i.bytes)) = some (some (.string ⟨#[]⟩), 1, 16) by kernel_rfl)
  have HJ := hide j
  clear j
  go_enter Tryd.func10, Tryd.ntmps10
  go_wp2
  go_loopw [3, 7] (fun x jx wr => ∃ k : Nat, k ≤ 8 ∧ jx = .int .i64 k ∧ Hid (wr.ownsRow w.heap.size 9 1 x k (strs ((blks H E).take k))) ∧ Hid (Below w.heap.size w wr)) (fun _ jx _ => 8 - (intOf jx).toNat)
  case atStart => exact ⟨0, by omega, rfl, ⟨rfl, Or.inl ⟨rfl, rfl⟩⟩, Below.refl _ _⟩
  case round =>
    obtain ⟨k, hk, rfl, how, hbel⟩ := hrel
    rcases Nat.lt_or_ge k 8 with hlt | hge
    · have hki : (k : Int) < 8 := by omega
      have HR := hide ((HJ.out.below hbel.out).1.read hlt)
      obtain ⟨s, hs⟩ : ∃ s, blk H E k = s := ⟨_, rfl⟩
      rw [hs] at HR
      have HS := hide (show strs ((blks H E).take (k + 1)) = strs ((blks H E).take k) ++ [.string s] by rw [List.take_add_one, blks_get H E hlt, hs]; simp [strs])
      clear hs
      go_wp2_with fail
      refine HR.out.mono ?_
      rintro r w2 ⟨rfl, hb2⟩
      have hown := own_below how.out hb2
      have HB2 := hide (hbel.out.trans (hb2.mono hbel.out.size))
      have hsz := HB2.out.size
      clear HR how hbel hb2
      go_wp2_with (at_builtin; go_must (refine wpList_append_own _ rfl (.tmp 16) (.tmp 18) 33 rfl w.heap.size 9 i0 (.string ⟨#[]⟩) 1 16 Tryd.underlying33 hi0 hz0 hz1 hz2 rfl (by decide) _ _ _ rfl (World.ownsRow.alloc hown _) ⟨w2.heap.size, 0, none⟩ 1 1 [.string s] rfl rfl (cell_new1 _ _ _) ?c2 ?c3 ?c4 ?c5 ?_))
      case c2 => intro u hu; simp at hu; subst hu; rfl
      case c3 => unfold maxLen; omega
      case c4 => omega
      case c5 => simp; omega
      intro v' w3 hown' hgrow _
      have HO := hide (show w3.ownsRow w.heap.size 9 1 v' (k + 1) (strs ((blks H E).take (k + 1))) by rw [HS.out]; exact hown')
      have HB3 := hide ((HB2.out.alloc hsz _).grown hgrow (by simp; omega) (fun k hk => (World.ownsRow.lt hown k hk).1))
      clear hown hown' hgrow hsz
      go_wp2
      go_roundw
      case rel => exact ⟨k + 1, by omega, by go_num, HO.out, HB3.out⟩
      case measure => simp [intOf]; omega
    · obtain rfl : k = 8 := by omega
      have hown := how.out
      rw [List.take_of_length_le (by rw [blks_length]; exact Nat.le_refl _)] at hown
      obtain ⟨g, c, rfl, hg, hbk⟩ := Bks.of_own hown (blks_length H E)
      have HBK := hide hbk
      have Hg := hide hg
      clear how hown hg hbk hge
      go_wp2
      go_ret
      exact ⟨g, c, rfl, Hg.out, HBK.out, hbel.out⟩
end

theorem Bks.drewn {w : World} {g c : Nat} {L : List ByteArray} (h : Bks w g c L) : Bks w.drew g c L := h.same rfl
/-- A store in a row that is held on to. -/
theorem VS.put_row {w0 w : World} {R : Nat → Prop} {v p q n : Nat} {h : Hd} {E : List Ent} {H : Nat → Hm} {D T : Nat} (j : VS w0 R v p q n h E H D T w) {g i : Nat} {s : ByteArray} (hR : R g) (hg : w0.heap.size ≤ g) : VS w0 R v p q n h E H D T (w.setCell ⟨g, i, none⟩ (.string s)) := by
  obtain ⟨S, h1, h2, h3⟩ := j
  refine ⟨S, ⟨?_, ?_, h1.ge, h1.no⟩, h2, h3⟩
  · exact JW.kept h1.jw (Kept.set (K := fun k => k = g) (Kept.refl (fun k => k = g) w) rfl i _) (Or.inl hR) hg
  · have := h1.box
    unfold VB at this ⊢
    rw [heap_setCell_other _ _ _ _ (fun e => h1.no (by have e' : v = g := e; rw [e']; exact hR))]
    exact this
/-- A write is the block's contents at once, and no other block's. -/
theorem blks_write {w0 w : World} {R : Nat → Prop} {v p q n : Nat} {h : Hd} {E : List Ent} {H : Nat → Hm} {D T : Nat} (j : VS w0 R v p q n h E H D T w) {b : Nat} (hb : b < 8) {e : Ent} (h1 : e.k = 1) (h2 : e.b = (b : Int)) (h3 : e.s = h.f + E.length) : blks H (E ++ [e]) = (blks H E).set b e.d := by
  apply List.ext_getElem?
  intro i
  rcases Nat.lt_or_ge i 8 with hi | hi
  · rw [blks_get H _ hi]
    by_cases hib : i = b
    · subst hib
      obtain ⟨S, _, k2, _⟩ := j
      rw [List.getElem?_set_self (by rw [blks_length]; exact hi), k2.blk_write hi h1 h2 h3]
    · rw [List.getElem?_set_ne (Ne.symm hib), blks_get H E hi, blk_other (by rw [h2]; omega)]
  · rw [List.getElem?_eq_none (by rw [blks_length]; exact hi), List.getElem?_eq_none (by rw [List.length_set, blks_length]; exact hi)]
theorem ext8 {L M : List ByteArray} (hl : L.length = 8) (hm : M.length = 8) (h : ∀ b, b < 8 → L[b]? = M[b]?) : L = M := by
  apply List.ext_getElem?
  intro i
  rcases Nat.lt_or_ge i 8 with hi | hi
  · exact h i hi
  · rw [List.getElem?_eq_none (by omega), List.getElem?_eq_none (by omega)]
set_option maxRecDepth 100000 in
set_option maxHeartbeats 2000000 in
theorem alike_any {w : World} {g1 c1 g2 c2 : Nat} {L M : List ByteArray} (h1 : Bks w g1 c1 L) (h2 : Bks w g2 c2 M) (d : Bool) (hd : (d = true ↔ L = M)) :
    Calls Tryd.prog 15 #[.slice (some ⟨g1, 0, none⟩) 8 c1, .slice (some ⟨g2, 0, none⟩) 8 c2] w fun e w' => e = .returned (.bool d) ∧ Below w.heap.size w w' := by
  have H1 := hide h1
  have H2 := hide h2
  have HD := hide hd
  have hc1 := h1.cap
  have hc2 := h2.cap
  clear h1 h2 hd
  go_enter Tryd.func15, Tryd.ntmps15
  go_wp2
  go_loopw [8] (fun jx wr => ∃ k : Nat, k ≤ 8 ∧ jx = .int .i64 k ∧ Hid (∀ b, b < k → L[b]? = M[b]?) ∧ Hid (Below w.heap.size w wr)) (fun jx _ => 8 - (intOf jx).toNat)
  case atStart => exact ⟨0, by omega, rfl, fun b hb => absurd hb (Nat.not_lt_zero _), Below.refl _ _⟩
  case round =>
    obtain ⟨k, hk, rfl, heq, hbel⟩ := hrel
    rcases Nat.lt_or_ge k 8 with hlt | hge
    · have hki : (k : Int) < 8 := by omega
      obtain ⟨s, hs⟩ : ∃ s, L[k]? = some s := ⟨_, List.getElem?_eq_getElem (by rw [H1.out.len]; exact hlt)⟩
      obtain ⟨t, ht⟩ : ∃ t, M[k]? = some t := ⟨_, List.getElem?_eq_getElem (by rw [H2.out.len]; exact hlt)⟩
      have x1 := (H1.out.below hbel.out).cell hs
      have x2 := (H2.out.below hbel.out).cell ht
      have HS := hide hs
      have HT := hide ht
      have hg1 := H1.out.lt
      have hg2 := H2.out.lt
      clear hs ht
      by_cases hst : s = t
      · subst hst
        go_wp2
        go_quiet (fail)
        have HB := hide (below_drewN hbel.out nq)
        have HQ := hide (show ∀ b, b < k + 1 → L[b]? = M[b]? by
          intro b hb
          rcases Nat.lt_or_ge b k with h | h
          · exact heq.out b h
          · obtain rfl : b = k := by omega
            rw [HS.out, HT.out])
        clear heq hbel x1 x2
        go_wp2
        go_roundw
        case rel => exact ⟨k + 1, by omega, by go_num, HQ, HB⟩
        case measure => simp [intOf]; omega
      · have hne : (s.toList == t.toList) = false := by
          refine beq_eq_false_iff_ne.2 fun e => hst ?_
          rw [ByteArray.toList_eq, ByteArray.toList_eq] at e
          rw [← str_of s, ← str_of t, e]
        go_wp2
        go_quiet (fail)
        have HB := hide (below_drewN hbel.out nq)
        clear hbel x1 x2 heq
        go_wp2
        go_ret
        refine ⟨?_, HB.out⟩
        have hd' : d = false := by
          cases hdd : d with
          | false => rfl
          | true =>
            have := HD.out.1 hdd
            have e1 := HS.out
            rw [this, HT.out] at e1
            exact absurd (Option.some.inj e1).symm hst
        rw [hd']
        rfl
    · obtain rfl : k = 8 := by omega
      go_wp2
      go_ret
      exact ⟨by rw [HD.out.2 (ext8 H1.out.len H2.out.len heq.out)]; rfl, hbel.out⟩

end Go.Proofs.YtapiogcoipeinaaDoor.Vo

namespace Go.Proofs.YtapiogcoipeinaaDoor.Vo
open Go.ChangeShapes Go.WideShapes Go.ChangeAt Go.RowKit Go.Deep Go.Joins
open Pk Sm Fa Rc Dk Jn

/-- Kind, N, S, Keep. -/
abbrev Oq := Int × Int × ByteArray × Nat

/-- A slice's address leads to the Ops l. -/
def Ops (W : World) (B : Nat) (A : Option Addr) (l : List Oq) : Prop :=
  l ≠ [] → ∃ b o, A = some ⟨b, o, none⟩ ∧ b < B ∧ ∀ j q, l[j]? = some q → W.cell? ⟨b, o + j * 4, none⟩ = some (.int .i64 q.1) ∧ W.cell? ⟨b, o + j * 4 + 1, none⟩ = some (.int .i64 q.2.1) ∧ W.cell? ⟨b, o + j * 4 + 2, none⟩ = some (.string q.2.2.1) ∧ W.cell? ⟨b, o + j * 4 + 3, none⟩ = some (.int .u64 q.2.2.2)
theorem Ops.below {W w' : World} {B : Nat} {A : Option Addr} {l : List Oq} (h : Ops W B A l) (hb : Below B W w') : Ops w' B A l := fun hl => by
  obtain ⟨b, o, e, hB, hc⟩ := h hl
  exact ⟨b, o, e, hB, fun i q hi => ⟨(hb.cell (p := ⟨b, o + i * 4, none⟩) hB).trans (hc i q hi).1, (hb.cell (p := ⟨b, o + i * 4 + 1, none⟩) hB).trans (hc i q hi).2.1, (hb.cell (p := ⟨b, o + i * 4 + 2, none⟩) hB).trans (hc i q hi).2.2.1, (hb.cell (p := ⟨b, o + i * 4 + 3, none⟩) hB).trans (hc i q hi).2.2.2⟩⟩
theorem Ops.more1 {W : World} {B B' : Nat} {A : Option Addr} {l : List Oq} (h : Ops W B A l) (hB : B ≤ B') : Ops W B' A l := fun hl => by
  obtain ⟨b, o, e, hb, hc⟩ := h hl
  exact ⟨b, o, e, by omega, hc⟩
theorem Ops.at_ {W : World} {B : Nat} {A : Option Addr} {l : List Oq} (h : Ops W B A l) {k : Nat} {q : Oq} (hk : l[k]? = some q) :
    ∃ b o, A = some ⟨b, o, none⟩ ∧ W.cell? ⟨b, o + k * 4, none⟩ = some (.int .i64 q.1) ∧ W.cell? ⟨b, o + k * 4 + 1, none⟩ = some (.int .i64 q.2.1) ∧ W.cell? ⟨b, o + k * 4 + 2, none⟩ = some (.string q.2.2.1) ∧ W.cell? ⟨b, o + k * 4 + 3, none⟩ = some (.int .u64 q.2.2.2) := by
  obtain ⟨b, o, e, _, hc⟩ := h (by rintro rfl; simp at hk)
  exact ⟨b, o, e, hc k q hk⟩
/-- One Op at a place. -/
def At4 (W : World) (b i : Nat) (q : Oq) : Prop := W.cell? ⟨b, i, none⟩ = some (.int .i64 q.1) ∧ W.cell? ⟨b, i + 1, none⟩ = some (.int .i64 q.2.1) ∧ W.cell? ⟨b, i + 2, none⟩ = some (.string q.2.2.1) ∧ W.cell? ⟨b, i + 3, none⟩ = some (.int .u64 q.2.2.2)
theorem At4.below {W W' : World} {B b i : Nat} {q : Oq} (h : At4 W b i q) (hB : b < B) (hb : Below B W W') : At4 W' b i q :=
  ⟨(hb.cell (p := ⟨b, i, none⟩) hB).trans h.1, (hb.cell (p := ⟨b, i + 1, none⟩) hB).trans h.2.1, (hb.cell (p := ⟨b, i + 2, none⟩) hB).trans h.2.2.1, (hb.cell (p := ⟨b, i + 3, none⟩) hB).trans h.2.2.2⟩
theorem Ops.at4 {W : World} {B : Nat} {A : Option Addr} {l : List Oq} (h : Ops W B A l) {k : Nat} {q : Oq} (hk : l[k]? = some q) :
    ∃ b o, A = some ⟨b, o, none⟩ ∧ b < B ∧ At4 W b (o + k * 4) q := by
  obtain ⟨b, o, e, hb, hc⟩ := h (by rintro rfl; simp at hk)
  exact ⟨b, o, e, hb, hc k q hk⟩
def OFit (q : Oq) : Prop := Int64 q.1 ∧ Int64 q.2.1 ∧ q.2.2.1.size ≤ maxLen ∧ q.2.2.2 < 18446744073709551616
def OFits (l : List Oq) : Prop := ∀ q ∈ l, OFit q

section
variable {H : Type} {enc : TypeId × Value → H} {W : World} {d : DataW H} {p : List MemPlace} {a0 : Option Addr} {len cap : Nat}
theorem op_parts {n : Nat} {v0 v1 v2 v3 : Value} {y0 y1 y2 y3 : DataW H × List MemPlace} (h0 : DataW.trod enc Tryd.prog W 0 (fun _ => true) true n 3 [v0] = some y0) (h1 : DataW.trod enc Tryd.prog W 0 (fun _ => true) true n 3 [v1] = some y1)
    (h2 : DataW.trod enc Tryd.prog W 0 (fun _ => true) true n 9 [v2] = some y2) (h3 : DataW.trod enc Tryd.prog W 0 (fun _ => true) true n 36 [v3] = some y3) :
    ∃ q : Oq, v0 = .int .i64 q.1 ∧ v1 = .int .i64 q.2.1 ∧ v2 = .string q.2.2.1 ∧ v3 = .int .u64 q.2.2.2 ∧ OFit q := by
  obtain ⟨k0, e0, _, w0⟩ := DataW.trod_int Tryd.underlying3 h0
  obtain ⟨k1, e1, _, w1⟩ := DataW.trod_int Tryd.underlying3 h1
  obtain ⟨s2, e2, _, w2⟩ := DataW.trod_string Tryd.underlying9 h2
  obtain ⟨k3, e3, _, w3⟩ := DataW.trod_int Tryd.underlying36 h3
  simp at e0 e1 e2 e3
  have b0 := bounds_i64 w0
  have b1 := bounds_i64 w1
  have b3 := bounds_u64 w3
  refine ⟨(k0, k1, s2, k3.toNat), e0, e1, e2, ?_, b0, b1, w2, ?_⟩
  · rw [e3]
    show _ = Value.int .u64 ((k3.toNat : Nat) : Int)
    rw [Int.toNat_of_nonneg b3.1]
  · show k3.toNat < _
    omega

set_option maxRecDepth 100000 in
theorem open_op {r : Reach} {b0 : Nat} {v : Value} (hv : Value.okWide Tryd.prog W r b0 38 v) (h : DataW.Trod enc Tryd.prog W 0 (fun _ => true) true 38 v d p) :
    ∃ q : Oq, v = .agg #[.int .i64 q.1, .int .i64 q.2.1, .string q.2.2.1, .int .u64 q.2.2.2] ∧ OFit q := by
  obtain ⟨v0, v1, v2, v3, y0, y1, y2, y3, n, rfl, _, _, h0, h1, h2, h3⟩ := open_agg4 Tryd.underlying38 (by kernel_rfl) (by kernel_rfl) hv h
  obtain ⟨q, rfl, rfl, rfl, rfl, hf⟩ := op_parts h0 h1 h2 h3
  exact ⟨q, rfl, hf⟩

set_option maxRecDepth 100000 in
theorem open_ops (h : DataW.Trod enc Tryd.prog W 0 (fun _ => true) true 22 (.slice a0 len cap) d p) :
    ∃ l : List Oq, l.length = len ∧ OFits l ∧ Ops W W.heap.size a0 l := by
  obtain ⟨fuel, hf⟩ := h
  rcases open_slice Tryd.underlying22 hf with ⟨hcs, _⟩ | ⟨x, l, c, m, n, D, Pl, hcs, _, hl, hm, hmm, _, hc⟩
  · simp [Value.cells] at hcs
    obtain ⟨rfl, rfl, rfl⟩ := hcs
    exact ⟨[], rfl, fun q hq => (by cases hq), fun hl => absurd rfl hl⟩
  · simp [Value.cells] at hcs
    obtain ⟨rfl, rfl, rfl⟩ := hcs
    have hmc : m = cap := by simpa using hmm
    subst hmc
    have ce : Tryd.prog.cellsOf 38 = 4 := by kernel_rfl
    have each : ∀ i, i < m → ∃ q : Oq, W.cell? (x.add (i * 4)) = some (.int .i64 q.1) ∧ W.cell? (x.add (i * 4 + 1)) = some (.int .i64 q.2.1) ∧ W.cell? (x.add (i * 4 + 2)) = some (.string q.2.2.1) ∧ W.cell? (x.add (i * 4 + 3)) = some (.int .u64 q.2.2.2) ∧ OFit q := fun i hi => by
      obtain ⟨cs', g1, g2⟩ := hc i hi
      rw [ce] at g1
      obtain ⟨_, hlen, hcell⟩ := World.cells?_some g1
      obtain ⟨y0, y1, y2, y3, k, _, _, t0, t1, t2, t3⟩ := trod_struct4 Tryd.underlying38 g2
      match cs', hlen with
      | [v0, v1, v2, v3], _ =>
        have c1 : Tryd.prog.cellsOf 3 = 1 := by kernel_rfl
        have c2 : Tryd.prog.cellsOf 9 = 1 := by kernel_rfl
        have c3 : Tryd.prog.cellsOf 36 = 1 := by kernel_rfl
        simp [c1, c2, c3] at t0 t1 t2 t3
        obtain ⟨q, rfl, rfl, rfl, rfl, hfq⟩ := op_parts t0 t1 t2 t3
        have e0 := hcell 0 (by omega)
        have e1 := hcell 1 (by omega)
        have e2 := hcell 2 (by omega)
        have e3 := hcell 3 (by omega)
        rw [Addr.add_add] at e0 e1 e2 e3
        exact ⟨q, by simpa using e0, by simpa using e1, by simpa using e2, by simpa using e3, hfq⟩
    obtain ⟨q, hq⟩ := choose_lt each
    refine ⟨(List.range len).map q, by simp, fun x hx => ?_, fun hpos => ?_⟩
    · obtain ⟨i, hi, rfl⟩ := List.mem_map.1 hx
      have hi' := List.mem_range.1 hi
      exact (hq i (by omega)).2.2.2.2
    · have hlp : 0 < len := by
        rcases Nat.eq_zero_or_pos len with h0 | h0
        · exact absurd (by rw [h0]; rfl) hpos
        · exact h0
      obtain ⟨b, o, sp⟩ := x
      have hsp : sp = none := by
        have := World.cell?_spot (hq 0 (by omega)).2.1
        simpa [Addr.add] using World.cell?_spot (hq 0 (by omega)).1
      subst hsp
      have hb : b < W.heap.size := by
        have := (hq 0 (by omega)).1
        rw [Addr.add_lit] at this
        exact World.block_lt_of_cell? W ⟨b, _, none⟩ this
      refine ⟨b, o, rfl, hb, fun i x hi => ?_⟩
      have hil : i < len := by
        have := (List.getElem?_eq_some_iff.1 hi).1
        simpa using this
      have hx : q i = x := by simpa [hil] using hi
      subst hx
      obtain ⟨c0, c1, c2, c3, _⟩ := hq i (by omega)
      rw [Addr.add_lit] at c0 c1 c2 c3
      exact ⟨c0, by rw [Nat.add_assoc]; exact c1, by rw [Nat.add_assoc]; exact c2, by rw [Nat.add_assoc]; exact c3⟩
end

def Shorts (l : List Oq) : Prop := ∀ q ∈ l, q.2.2.1.size ≤ 100
/-- Ops of a size that is looked at. -/
def Few (l : List Oq) : Prop := l.length ≤ 80 ∧ Shorts l
/-- What few returns. -/
def FewR (p : Prop) (r : Ending) : Prop := ∃ b : Bool, r = .returned (.bool b) ∧ (b = true ↔ p)

theorem few_long (A : Option Addr) (n c : Nat) (w : World) (hn : 80 < n) :
    Calls Tryd.prog 6 #[.slice A n c] w fun r w' => r = .returned (.bool false) ∧ w = w' := by
  go_enter Tryd.func6, Tryd.ntmps6
  go_wp2
  go_ret
  exact ⟨rfl, rfl⟩

set_option maxHeartbeats 1000000 in
theorem few_short (A : Option Addr) (n c : Nat) (l : List Oq) (w : World) (hl : l.length = n) (hn : n ≤ 80) (hp : Ops w w.heap.size A l) (hf : OFits l) :
    Calls Tryd.prog 6 #[.slice A n c] w fun r w' => FewR (Shorts l) r ∧ w = w' := by
  have Hl := hide hl
  have Hp := hide hp
  have Hf := hide hf
  clear hl hp hf
  go_enter Tryd.func6, Tryd.ntmps6
  go_wp2_with fail
  go_loop [9] (fun i => ∃ k : Nat, k ≤ n ∧ i = .int .i64 k ∧ Hid (∀ q ∈ l.take k, q.2.2.1.size ≤ 100)) (fun i => n - (intOf i).toNat)
  case atStart => exact ⟨0, Nat.zero_le _, rfl, by simp [Hid]⟩
  case round =>
    obtain ⟨k, hk, rfl, hq⟩ := hrel
    rcases Nat.lt_or_ge k n with hlt | hge
    · obtain ⟨q, hqk⟩ : ∃ q, l[k]? = some q := ⟨_, List.getElem?_eq_getElem (by rw [Hl.out]; exact hlt)⟩
      obtain ⟨b, o, rfl, _, _, hc0, _⟩ := Hp.out.at_ hqk
      have hmem : q ∈ l := List.mem_of_getElem? hqk
      have hqm := (Hf.out q hmem).2.2.1
      have Hqk := hide hqk
      have Hmem := hide hmem
      clear hqk hmem
      by_cases hsz : ¬ q.2.2.1.size ≤ 100
      · go_wp2
        go_ret
        exact ⟨⟨false, rfl, by simp only [Bool.false_eq_true, false_iff]; exact fun h => hsz (h q Hmem.out)⟩, rfl⟩
      · go_wp2
        go_round
        case rel =>
          refine ⟨k + 1, by omega, by go_num, ?_⟩
          show ∀ x ∈ l.take (k + 1), x.2.2.1.size ≤ 100
          rw [take_snoc l k q Hqk.out]
          intro x hx
          rcases List.mem_append.1 hx with hx | hx
          · exact hq.out x hx
          · rw [List.mem_singleton.1 hx]; omega
        case measure => simp [intOf]; omega
    · have hq' := hq.out
      rw [List.take_of_length_le (by rw [Hl.out]; omega)] at hq'
      have HQ := hide hq'
      clear hq' hq
      go_wp2
      go_ret
      exact ⟨⟨true, rfl, by simp only [true_iff]; exact HQ.out⟩, rfl⟩

theorem few_any (A : Option Addr) (n c : Nat) (l : List Oq) (w : World) (hl : l.length = n) (hp : Ops w w.heap.size A l) (hf : OFits l) :
    Calls Tryd.prog 6 #[.slice A n c] w fun r w' => FewR (Few l) r ∧ w = w' := by
  rcases Nat.lt_or_ge 80 n with h | h
  · refine (few_long A n c w h).mono ?_
    rintro r w' ⟨rfl, rfl⟩
    exact ⟨⟨false, rfl, by simp only [Bool.false_eq_true, false_iff]; intro h2; have := h2.1; omega⟩, rfl⟩
  · refine (few_short A n c l w hl h hp hf).mono ?_
    rintro r w' ⟨⟨b, rfl, hb⟩, rfl⟩
    exact ⟨⟨b, rfl, hb.trans ⟨fun h2 => ⟨by omega, h2⟩, fun h2 => h2.2⟩⟩, rfl⟩

end Go.Proofs.YtapiogcoipeinaaDoor.Vo
