/-
  The contract of record.Decode: a valid record's sector is decoded as it; what is no sealed sector has the fault record, 0, around ErrSum; what else is no record's sector, around ErrArg. Nothing that was there is changed. Condition: the table of half bytes holds what the program's own text lays.
-/
import Derived.Test.YtapiogcoipeinaaDoorRcRead
namespace Go.Proofs.YtapiogcoipeinaaDoor.Rc
open Go.RowKit
open Pk Sm Fa

theorem zero_below (w : World) : Below w.heap.size w (w.alloc (.cells #[.int .i64 0, .int .i64 0, .int .i64 0, .string ⟨#[]⟩, .int .i64 0] 67)) := (Below.refl _ _).alloc (Nat.le_refl _) _

/-- What is refused: nothing, and the fault. -/
def Refused (w' : World) (e : Ending) (code : Int) : Prop := ∃ p, e = .returned (.tuple #[.int .i64 0, rec5 0 0 0 ⟨#[]⟩ 0, .iface 96 (.pointer (some ⟨p, 0, none⟩))]) ∧ Flt1 w' (.iface 96 (.pointer (some ⟨p, 0, none⟩))) 0 code

theorem put5_same {w : World} {G : Nat} {v : Value} {s e : Int} {s' k b : Int} {d : ByteArray} {m : Int} (h : Flt1 w v s e) (hb : Bx w G s' k b d m) (x : Value) (i : Nat) : Flt1 (w.setCell ⟨G, i, none⟩ x) v s e := by
  obtain ⟨p, rfl, he, e', hp, hr⟩ := h
  refine ⟨p, rfl, he, e', ?_, hr⟩
  have hne : p ≠ G := by
    rintro rfl
    have := hp.symm.trans (show w.heap[p]? = _ from hb)
    simp at this
  exact (heap_setCell_other _ ⟨G, i, none⟩ p _ hne).trans hp
theorem Flt1.put {w : World} {G : Nat} {v : Value} {s e : Int} {s' k b : Int} {d : ByteArray} {m : Int} (h : Flt1 w v s e) (hb : Bx w G s' k b d m) (s2 k2 b2 : Int) (d2 : ByteArray) (m2 : Int) : Flt1 (put5 w G s2 k2 b2 d2 m2) v s e :=
  put5_same (put5_same (put5_same (put5_same (put5_same h hb _ 0) (hb.set0 _) _ 1) ((hb.set0 _).set1 _) _ 2) (((hb.set0 _).set1 _).set2 _) _ 3) ((((hb.set0 _).set1 _).set2 _).set3 _) _ 4

set_option maxRecDepth 100000 in
set_option maxHeartbeats 1000000 in
theorem Decode_len (A : Option Addr) (n c : Nat) (w : World) (hn : ((n : Int) == 64) = false) :
    Calls Tryd.prog 51 #[.slice A n c] w fun e w' => Refused w' e 4 ∧ Below w.heap.size w w' := by
  have hbx := Bx.new w 0 0 0 ⟨#[]⟩ 0
  have HB := hide (zero_below w)
  go_enter Tryd.func51, Tryd.ntmps51
  go_wp2_with fail
  generalize w.alloc _ = w0 at *
  refine (failed_flt 0 4 w0 (by decide)).mono ?_
  rintro r w1 ⟨p, rfl, hf, hb1⟩
  have hbx1 := hbx.below hb1
  have HB1 := hide (HB.out.trans (hb1.mono HB.out.size))
  have hz0 := hbx1.c0
  have hz1 := hbx1.c1
  have hz2 := hbx1.c2
  have hz3 := hbx1.c3
  have hz4 := hbx1.c4
  have hy0 := hbx1.free 0
  have hy1 := hbx1.free 1
  have hy2 := hbx1.free 2
  have hy3 := hbx1.free 3
  have hy4 := hbx1.free 4
  have HX := hide (hbx1.put 0 0 0 ⟨#[]⟩ 0)
  have HY := hide (below_put HB1.out (Nat.le_refl _) 0 0 0 ⟨#[]⟩ 0)
  have HF := hide (hf.put hbx1 0 0 0 ⟨#[]⟩ 0)
  clear hbx hb1 hbx1 hf HB1
  go_wp2
  refine bodyPost_ret (results_tct rfl _ _ w.heap.size 67 _ (0, 0) _ rfl (show _ from HX.out) Tryd.underlying67 rfl rec_size) rfl ?_
  exact ⟨⟨p, rfl, HF.out⟩, HY.out⟩

set_option maxRecDepth 100000 in
set_option maxHeartbeats 1000000 in
theorem Decode_open (A : Option Addr) (c : Nat) (l : List UInt8) (w : World) (hn : l.length = 64) (hc : 64 ≤ c) (hb : Byt w w.heap.size A l) (ht : Tab w) (hno : ∀ m, l ≠ seal4 m) :
    Calls Tryd.prog 51 #[.slice A 64 c] w fun e w' => Refused w' e 4 ∧ Below w.heap.size w w' := by
  have hbx := Bx.new w 0 0 0 ⟨#[]⟩ 0
  have HB := hide (zero_below w)
  have hpos := ht.pos
  have hby0 := (hb.below HB.out).more HB.out.size
  have ht0 := ht.below HB.out hpos
  have Hn := hide hn
  have Hno := hide hno
  clear hn hb ht hno
  go_enter Tryd.func51, Tryd.ntmps51
  go_wp2_with fail
  generalize w.alloc _ = w0 at *
  refine (Open_bad A 64 c l w0 Hn.out hc (by omega) hby0 ht0 Hno.out).mono ?_
  rintro r w1 ⟨rfl, hb1⟩
  have hbx1 := hbx.below hb1
  have HB1 := hide (HB.out.trans (hb1.mono HB.out.size))
  clear hbx hb1 hby0 ht0 HB
  go_wp2_with fail
  refine (failed_flt 0 4 w1 (by decide)).mono ?_
  rintro r wF ⟨p, rfl, hf, hbF⟩
  have hbxF := hbx1.below hbF
  have HBF := hide (HB1.out.trans (hbF.mono HB1.out.size))
  have hz0 := hbxF.c0
  have hz1 := hbxF.c1
  have hz2 := hbxF.c2
  have hz3 := hbxF.c3
  have hz4 := hbxF.c4
  have hy0 := hbxF.free 0
  have hy1 := hbxF.free 1
  have hy2 := hbxF.free 2
  have hy3 := hbxF.free 3
  have hy4 := hbxF.free 4
  have HX := hide (hbxF.put 0 0 0 ⟨#[]⟩ 0)
  have HY := hide (below_put HBF.out (Nat.le_refl _) 0 0 0 ⟨#[]⟩ 0)
  have HF := hide (hf.put hbxF 0 0 0 ⟨#[]⟩ 0)
  clear hbF hbxF hf HBF hbx1
  go_wp2
  refine bodyPost_ret (results_tct rfl _ _ w.heap.size 67 _ (0, 0) _ rfl (show _ from HX.out) Tryd.underlying67 rfl rec_size) rfl ?_
  exact ⟨⟨p, rfl, HF.out⟩, HY.out⟩

set_option maxRecDepth 100000 in
set_option maxHeartbeats 1000000 in
theorem Decode_arg (A : Option Addr) (c : Nat) (M : List UInt8) (w : World) (hm : M.length = 60) (hc : 64 ≤ c) (hb : Byt w w.heap.size A (seal4 M)) (ht : Tab w) (zg zs zk zb : Nat) (zd : List UInt8) (zm : Nat) (hgot : got M = (zg, zs, zk, zb, zd, zm)) (hno : ¬ (Rgt (zs : Int) (zk : Int) (zb : Int) (str zd).size (zm : Int) ∧ Num (zg : Int))) (hd : (str zd).size ≤ 9223372036854775807) :
    Calls Tryd.prog 51 #[.slice A 64 c] w fun e w' => Refused w' e 1 ∧ Below w.heap.size w w' := by
  have hbx := Bx.new w 0 0 0 ⟨#[]⟩ 0
  have HB := hide (zero_below w)
  have hpos := ht.pos
  have hby0 := (hb.below HB.out).more HB.out.size
  have ht0 := ht.below HB.out hpos
  have Hno := hide hno
  have Hd := hide hd
  clear hno hd
  have Hm := hide hm
  have Hgot := hide hgot
  have Ht := hide ht
  clear ht hm hgot
  go_enter Tryd.func51, Tryd.ntmps51
  go_wp2_with fail
  generalize w.alloc _ = w0 at *
  refine (Open_good A 64 c 60 M w0 Hm.out rfl hc (by omega) hby0 ht0).mono ?_
  rintro r w1 ⟨b1, o1, rfl, hby1, hb1⟩
  have hbx1 := hbx.below hb1
  have HB1 := hide (HB.out.trans (hb1.mono HB.out.size))
  have hbyB1 := (hby0.below hb1).more hb1.size
  clear hbx hb1 hby0 ht0 HB hb
  go_wp2_with fail
  refine (read_any (some ⟨b1, o1, none⟩) M 60 60 w1 Hm.out hby1 (Nat.le_refl _) (by unfold maxLen; omega) _ _ _ _ _ _ Hgot.out).mono ?_
  rintro r w2 ⟨rfl, hb2⟩
  have hbx2 := hbx1.below hb2
  have HB2 := hide (HB1.out.trans (hb2.mono HB1.out.size))
  have hbyB2 := (hbyB1.below hb2).more hb2.size
  clear hbx1 hb2 hby1 hbyB1 HB1
  have hbl := box_below w2 (zs : Int) (zk : Int) (zb : Int) (str zd) (zm : Int)
  have hbr := Bx.new w2 (zs : Int) (zk : Int) (zb : Int) (str zd) (zm : Int)
  have hbx3 := hbx2.below hbl
  have HB3 := hide (HB2.out.trans (hbl.mono HB2.out.size))
  have hbyB3 := (hbyB2.below hbl).more hbl.size
  clear hbl hbx2 hbyB2 HB2
  go_wp2_with fail
  generalize w2.alloc _ = w3 at *
  refine (Encode_bad (zg : Int) (zs : Int) (zk : Int) (zb : Int) (str zd) (zm : Int) w3 Hno.out Hd.out).mono ?_
  rintro r w4 ⟨p4, rfl, _, hb4⟩
  have hbx4 := hbx3.below hb4
  have HB4 := hide (HB3.out.trans (hb4.mono HB3.out.size))
  clear hbx3 hb4 hbyB3 HB3 hbr
  go_wp2_with fail
  refine (failed_flt 0 1 w4 (by decide)).mono ?_
  rintro r wF ⟨p, rfl, hf, hbF⟩
  have hbxF := hbx4.below hbF
  have HBF := hide (HB4.out.trans (hbF.mono HB4.out.size))
  have hz0 := hbxF.c0
  have hz1 := hbxF.c1
  have hz2 := hbxF.c2
  have hz3 := hbxF.c3
  have hz4 := hbxF.c4
  have hy0 := hbxF.free 0
  have hy1 := hbxF.free 1
  have hy2 := hbxF.free 2
  have hy3 := hbxF.free 3
  have hy4 := hbxF.free 4
  have HX := hide (hbxF.put 0 0 0 ⟨#[]⟩ 0)
  have HY := hide (below_put HBF.out (Nat.le_refl _) 0 0 0 ⟨#[]⟩ 0)
  have HF := hide (hf.put hbxF 0 0 0 ⟨#[]⟩ 0)
  clear hbF hbxF hf HBF hbx4
  go_wp2
  refine bodyPost_ret (results_tct rfl _ _ w.heap.size 67 _ (0, 0) _ rfl (show _ from HX.out) Tryd.underlying67 rfl rec_size) rfl ?_
  exact ⟨⟨p, rfl, HF.out⟩, HY.out⟩

set_option maxRecDepth 100000 in
set_option maxHeartbeats 1000000 in
theorem Decode_unlike (A : Option Addr) (c : Nat) (M : List UInt8) (w : World) (hm : M.length = 60) (hc : 64 ≤ c) (hb : Byt w w.heap.size A (seal4 M)) (ht : Tab w) (zg zs zk zb : Nat) (zd : List UInt8) (zm : Nat) (hgot : got M = (zg, zs, zk, zb, zd, zm)) (hr : Rgt (zs : Int) (zk : Int) (zb : Int) (str zd).size (zm : Int)) (hg : Num (zg : Int))
    (he : ((str (sec (zg : Int) (zs : Int) (zk : Int) (zb : Int) (str zd) (zm : Int))).toList == (str (seal4 M)).toList) = false) :
    Calls Tryd.prog 51 #[.slice A 64 c] w fun e w' => Refused w' e 1 ∧ Below w.heap.size w w' := by
  have hbx := Bx.new w 0 0 0 ⟨#[]⟩ 0
  have HB := hide (zero_below w)
  have hpos := ht.pos
  have hby0 := (hb.below HB.out).more HB.out.size
  have ht0 := ht.below HB.out hpos
  have HR := hide hr
  have HG := hide hg
  have HE := hide he
  clear hr hg he
  have Hm := hide hm
  have Hgot := hide hgot
  have Ht := hide ht
  clear ht hm hgot
  go_enter Tryd.func51, Tryd.ntmps51
  go_wp2_with fail
  generalize w.alloc _ = w0 at *
  refine (Open_good A 64 c 60 M w0 Hm.out rfl hc (by omega) hby0 ht0).mono ?_
  rintro r w1 ⟨b1, o1, rfl, hby1, hb1⟩
  have hbx1 := hbx.below hb1
  have HB1 := hide (HB.out.trans (hb1.mono HB.out.size))
  have hbyB1 := (hby0.below hb1).more hb1.size
  clear hbx hb1 hby0 ht0 HB hb
  go_wp2_with fail
  refine (read_any (some ⟨b1, o1, none⟩) M 60 60 w1 Hm.out hby1 (Nat.le_refl _) (by unfold maxLen; omega) _ _ _ _ _ _ Hgot.out).mono ?_
  rintro r w2 ⟨rfl, hb2⟩
  have hbx2 := hbx1.below hb2
  have HB2 := hide (HB1.out.trans (hb2.mono HB1.out.size))
  have hbyB2 := (hbyB1.below hb2).more hb2.size
  clear hbx1 hb2 hby1 hbyB1 HB1
  have hbl := box_below w2 (zs : Int) (zk : Int) (zb : Int) (str zd) (zm : Int)
  have hbr := Bx.new w2 (zs : Int) (zk : Int) (zb : Int) (str zd) (zm : Int)
  have hbx3 := hbx2.below hbl
  have HB3 := hide (HB2.out.trans (hbl.mono HB2.out.size))
  have hbyB3 := (hbyB2.below hbl).more hbl.size
  clear hbl hbx2 hbyB2 HB2
  go_wp2_with fail
  generalize w2.alloc _ = w3 at *
  refine (Encode_good (zg : Int) (zs : Int) (zk : Int) (zb : Int) (str zd) (zm : Int) w3 HR.out HG.out (Ht.out.below HB3.out hpos)).mono ?_
  rintro r w4 ⟨p4, o4, c4, rfl, _, _, _, hby4, hb4⟩
  have hbx4 := hbx3.below hb4
  have hbr4 := hbr.below hb4
  have HB4 := hide (HB3.out.trans (hb4.mono HB3.out.size))
  have hbyB4 := hbyB3.below hb4
  have HQ := hide (Equal_any (some ⟨p4, o4, none⟩) A 64 c4 64 c _ _ _ _ w4 (sec_length HR.out) (by rw [seal4_length, Hm.out]) hby4 hbyB4 _ HE.out)
  clear hbx3 hb4 hbyB3 HB3 hbr hbyB4 hby4
  go_wp2_with fail
  refine HQ.out.mono ?_
  rintro r w' ⟨rfl, rfl⟩
  clear HQ
  clear hbr4
  go_wp2_with fail
  refine (failed_flt 0 1 w4 (by decide)).mono ?_
  rintro r wF ⟨p, rfl, hf, hbF⟩
  have hbxF := hbx4.below hbF
  have HBF := hide (HB4.out.trans (hbF.mono HB4.out.size))
  have hz0 := hbxF.c0
  have hz1 := hbxF.c1
  have hz2 := hbxF.c2
  have hz3 := hbxF.c3
  have hz4 := hbxF.c4
  have hy0 := hbxF.free 0
  have hy1 := hbxF.free 1
  have hy2 := hbxF.free 2
  have hy3 := hbxF.free 3
  have hy4 := hbxF.free 4
  have HX := hide (hbxF.put 0 0 0 ⟨#[]⟩ 0)
  have HY := hide (below_put HBF.out (Nat.le_refl _) 0 0 0 ⟨#[]⟩ 0)
  have HF := hide (hf.put hbxF 0 0 0 ⟨#[]⟩ 0)
  clear hbF hbxF hf HBF hbx4
  go_wp2
  refine bodyPost_ret (results_tct rfl _ _ w.heap.size 67 _ (0, 0) _ rfl (show _ from HX.out) Tryd.underlying67 rfl rec_size) rfl ?_
  exact ⟨⟨p, rfl, HF.out⟩, HY.out⟩

set_option maxRecDepth 100000 in
set_option maxHeartbeats 1000000 in
theorem Decode_same (A : Option Addr) (c : Nat) (M : List UInt8) (w : World) (hm : M.length = 60) (hc : 64 ≤ c) (hb : Byt w w.heap.size A (seal4 M)) (ht : Tab w) (zg zs zk zb : Nat) (zd : List UInt8) (zm : Nat) (hgot : got M = (zg, zs, zk, zb, zd, zm)) (hr : Rgt (zs : Int) (zk : Int) (zb : Int) (str zd).size (zm : Int)) (hg : Num (zg : Int))
    (he : ((str (sec (zg : Int) (zs : Int) (zk : Int) (zb : Int) (str zd) (zm : Int))).toList == (str (seal4 M)).toList) = true) :
    Calls Tryd.prog 51 #[.slice A 64 c] w fun e w' => e = .returned (.tuple #[.int .i64 (zg : Int), rec5 (zs : Int) (zk : Int) (zb : Int) (str zd) (zm : Int), .nilIface]) ∧ Below w.heap.size w w' := by
  have hbx := Bx.new w 0 0 0 ⟨#[]⟩ 0
  have HB := hide (zero_below w)
  have hpos := ht.pos
  have hby0 := (hb.below HB.out).more HB.out.size
  have ht0 := ht.below HB.out hpos
  have HR := hide hr
  have HG := hide hg
  have HE := hide he
  clear hr hg he
  have Hm := hide hm
  have Hgot := hide hgot
  have Ht := hide ht
  clear ht hm hgot
  go_enter Tryd.func51, Tryd.ntmps51
  go_wp2_with fail
  generalize w.alloc _ = w0 at *
  refine (Open_good A 64 c 60 M w0 Hm.out rfl hc (by omega) hby0 ht0).mono ?_
  rintro r w1 ⟨b1, o1, rfl, hby1, hb1⟩
  have hbx1 := hbx.below hb1
  have HB1 := hide (HB.out.trans (hb1.mono HB.out.size))
  have hbyB1 := (hby0.below hb1).more hb1.size
  clear hbx hb1 hby0 ht0 HB hb
  go_wp2_with fail
  refine (read_any (some ⟨b1, o1, none⟩) M 60 60 w1 Hm.out hby1 (Nat.le_refl _) (by unfold maxLen; omega) _ _ _ _ _ _ Hgot.out).mono ?_
  rintro r w2 ⟨rfl, hb2⟩
  have hbx2 := hbx1.below hb2
  have HB2 := hide (HB1.out.trans (hb2.mono HB1.out.size))
  have hbyB2 := (hbyB1.below hb2).more hb2.size
  clear hbx1 hb2 hby1 hbyB1 HB1
  have hbl := box_below w2 (zs : Int) (zk : Int) (zb : Int) (str zd) (zm : Int)
  have hbr := Bx.new w2 (zs : Int) (zk : Int) (zb : Int) (str zd) (zm : Int)
  have hbx3 := hbx2.below hbl
  have HB3 := hide (HB2.out.trans (hbl.mono HB2.out.size))
  have hbyB3 := (hbyB2.below hbl).more hbl.size
  clear hbl hbx2 hbyB2 HB2
  go_wp2_with fail
  generalize w2.alloc _ = w3 at *
  refine (Encode_good (zg : Int) (zs : Int) (zk : Int) (zb : Int) (str zd) (zm : Int) w3 HR.out HG.out (Ht.out.below HB3.out hpos)).mono ?_
  rintro r w4 ⟨p4, o4, c4, rfl, _, _, _, hby4, hb4⟩
  have hbx4 := hbx3.below hb4
  have hbr4 := hbr.below hb4
  have HB4 := hide (HB3.out.trans (hb4.mono HB3.out.size))
  have hbyB4 := hbyB3.below hb4
  have HQ := hide (Equal_any (some ⟨p4, o4, none⟩) A 64 c4 64 c _ _ _ _ w4 (sec_length HR.out) (by rw [seal4_length, Hm.out]) hby4 hbyB4 _ HE.out)
  clear hbx3 hb4 hbyB3 HB3 hbr hbyB4 hby4
  go_wp2_with fail
  refine HQ.out.mono ?_
  rintro r w' ⟨rfl, rfl⟩
  clear HQ
  have hx0 := hbr4.c0
  have hx1 := hbr4.c1
  have hx2 := hbr4.c2
  have hx3 := hbr4.c3
  have hx4 := hbr4.c4
  have hz0 := hbx4.c0
  have hz1 := hbx4.c1
  have hz2 := hbx4.c2
  have hz3 := hbx4.c3
  have hz4 := hbx4.c4
  have hy0 := hbx4.free 0
  have hy1 := hbx4.free 1
  have hy2 := hbx4.free 2
  have hy3 := hbx4.free 3
  have hy4 := hbx4.free 4
  have HX := hide (hbx4.put (zs : Int) (zk : Int) (zb : Int) (str zd) (zm : Int))
  have HY := hide (below_put HB4.out (Nat.le_refl _) (zs : Int) (zk : Int) (zb : Int) (str zd) (zm : Int)).drew
  clear hbx4 hbr4 HB4
  go_wp2_with fail
  go_region
  go_wp2
  refine bodyPost_ret (results_tct rfl _ _ w.heap.size 67 _ (0, 0) _ rfl (show _ from HX.out) Tryd.underlying67 rfl rec_size) rfl ?_
  exact ⟨rfl, HY.out⟩

/-- A record's sector is decoded as it. -/
theorem Decode_good (A : Option Addr) (c : Nat) (w : World) (g s k b : Int) (d : ByteArray) (m : Int) (hc : 64 ≤ c) (hb : Byt w w.heap.size A (sec g s k b d m)) (ht : Tab w) (h : Rgt s k b d.size m) (hg : Num g) :
    Calls Tryd.prog 51 #[.slice A 64 c] w fun e w' => e = .returned (.tuple #[.int .i64 g, rec5 s k b d m, .nilIface]) ∧ Below w.heap.size w w' := by
  obtain ⟨hs, hk, hbl, hm⟩ := h.num
  have hgot := got_pad h hg
  have e1 : ((g.toNat : Nat) : Int) = g := Int.toNat_of_nonneg hg.1
  have e2 : ((s.toNat : Nat) : Int) = s := Int.toNat_of_nonneg hs.1
  have e3 : ((k.toNat : Nat) : Int) = k := Int.toNat_of_nonneg hk.1
  have e4 : ((b.toNat : Nat) : Int) = b := Int.toNat_of_nonneg hbl.1
  have e6 : ((m.toNat : Nat) : Int) = m := Int.toNat_of_nonneg hm.1
  have hD := Decode_same A c (pad (bod g s k b d m)) w (pad_length _ (bod_le h)) hc hb ht _ _ _ _ _ _ hgot
  rw [e1, e2, e3, e4, e6, str_of] at hD
  exact hD h hg (by rw [str_same]; exact decide_eq_true rfl)

/-- What is no sealed sector. -/
def NoSum (l : List UInt8) : Prop := l.length ≠ 64 ∨ ∀ m, l ≠ seal4 m
/-- What is no record's sector. -/
def NoRec (l : List UInt8) : Prop := ∀ (g s k b : Int) (d : ByteArray) (m : Int), Rgt s k b d.size m → Num g → l ≠ sec g s k b d m

theorem Decode_sum (A : Option Addr) (n c : Nat) (l : List UInt8) (w : World) (hn : l.length = n) (hc : n ≤ c) (hb : Byt w w.heap.size A l) (ht : Tab w) (h : NoSum l) :
    Calls Tryd.prog 51 #[.slice A n c] w fun e w' => Refused w' e 4 ∧ Below w.heap.size w w' := by
  by_cases h64 : n = 64
  · subst h64
    exact Decode_open A c l w hn hc hb ht (h.resolve_left (by omega))
  · exact Decode_len A n c w (by simp; omega)

theorem Decode_none (A : Option Addr) (n c : Nat) (l : List UInt8) (w : World) (hn : l.length = n) (hc : n ≤ c) (hb : Byt w w.heap.size A l) (ht : Tab w) (h : ¬ NoSum l) (h2 : NoRec l) :
    Calls Tryd.prog 51 #[.slice A n c] w fun e w' => Refused w' e 1 ∧ Below w.heap.size w w' := by
  unfold NoSum at h
  have h64 : l.length = 64 := by
    by_cases h64 : l.length = 64
    · exact h64
    · exact absurd (Or.inl h64) h
  obtain ⟨M, rfl⟩ : ∃ m, l = seal4 m := by
    apply Classical.byContradiction
    intro hc
    exact h (Or.inr fun m e => hc ⟨m, e⟩)
  obtain rfl : n = 64 := by omega
  have hM : M.length = 60 := by rw [seal4_length] at h64; omega
  obtain ⟨zg, zs, zk, zb, zd, zm, hgot⟩ : ∃ zg zs zk zb zd zm, got M = (zg, zs, zk, zb, zd, zm) := ⟨_, _, _, _, _, _, rfl⟩
  have hgl := got_gen M
  have hdl := got_data M
  rw [hgot] at hgl hdl
  have hsz : (str zd).size ≤ 16 := by rw [str_size]; exact hdl
  by_cases hr : Rgt (zs : Int) (zk : Int) (zb : Int) (str zd).size (zm : Int) ∧ Num (zg : Int)
  · refine Decode_unlike A c M w hM hc hb ht zg zs zk zb zd zm hgot hr.1 hr.2 ?_
    rw [str_same]
    exact decide_eq_false fun e => h2 _ _ _ _ _ _ hr.1 hr.2 e.symm
  · exact Decode_arg A c M w hM hc hb ht zg zs zk zb zd zm hgot hr (by omega)

end Go.Proofs.YtapiogcoipeinaaDoor.Rc
