/-
  The walk of SumOpens: for every b and more it returns true; nothing that was there is changed. Condition: the table of half bytes holds what the program's own text lays.
-/
import Derived.OpenShut
import Derived.Test.YtjiihkpbeogbcaaDoorSmJoin
namespace Go.Proofs.YtjiihkpbeogbcaaDoor.Sm
open Go.ChangeShapes Go.RowKit
open Pk

theorem Opens_long (a0 : ByteArray) (a1 : Int) (w : World) (ht : Tab w) (hs : 1000 < a0.size) :
    Calls Tryd.prog 4 #[.string a0, .int .u8 a1] w fun e w' => e = .returned (.bool true) ∧ Below w.heap.size w w' := by
  have hpos := ht.pos
  go_enter Tryd.func4, Tryd.ntmps4
  go_wp2_with fail
  refine (awake_any w ht).mono ?_
  rintro r w1 ⟨rfl, hb1⟩
  go_wp2_with fail
  refine (awake_any w1 (ht.below hb1 hpos)).mono ?_
  rintro r w2 ⟨rfl, hb2⟩
  go_wp2
  go_ret
  exact ⟨rfl, hb1.trans (hb2.mono hb1.size)⟩

set_option maxHeartbeats 2000000 in
theorem Opens_short (a0 : ByteArray) (x : UInt8) (w : World) (ht : Tab w) (hs : a0.size ≤ 1000) :
    Calls Tryd.prog 4 #[.string a0, .int .u8 (x.toNat : Int)] w fun e w' => e = .returned (.bool true) ∧ Below w.heap.size w w' := by
  have hpos := ht.pos
  go_enter Tryd.func4, Tryd.ntmps4
  go_wp2_with fail
  refine (awake_any w ht).mono ?_
  rintro r w1 ⟨rfl, hb1⟩
  obtain ⟨w2, c2, hc2, hcm2, hcv2, hby2, hbel2⟩ := to_bytes w1 a0 (by unfold maxLen; omega)
  have Hb12 := hide (hb1.trans (hbel2.mono hb1.size))
  have ht2 := ht.below Hb12.out hpos
  have HS := hide (Seal_told _ _ a0.size c2 w2 (size_eq a0) hby2 ht2 (by omega))
  clear hbel2 hb1 hby2
  go_wp2_with fail
  refine HS.out.mono ?_
  rintro r w3 ⟨b3, o3, c3, rfl, hc3, hcm3, _, hby3, hb3⟩
  have Hb13 := hide (Hb12.out.trans (hb3.mono Hb12.out.size))
  have ht3 := ht.below Hb13.out hpos
  have HO := hide (Open_good _ (a0.size + 4) c3 a0.size _ w3 (size_eq a0) rfl hc3 (by omega) hby3 ht3)
  clear hcv2 HS hb3
  go_wp2_with fail
  refine HO.out.mono ?_
  rintro r w4 ⟨b4, o4, rfl, hby4, hb4⟩
  have Hb14 := hide (Hb13.out.trans (hb4.mono Hb13.out.size))
  have hby34 := (hby3.below hb4).more hb4.size
  have hbS := (hby34.below ((Below.refl _ w4).alloc (Nat.le_refl _) (.cells #[] 5)))
  have hsl : (seal4 a0.data.toList).length = a0.size + 4 := by rw [seal4_length, size_eq]
  have HL := hide hsl
  clear HO hb4 hby3 hsl
  go_wp2_with (at_builtin; refine wpList_join _ rfl (.tmp 29) (.tmp 30) rfl w4.heap.size _ [] rfl (own_empty w4) b3 o3 (a0.size + 4) c3 w4.heap.size rfl (seal4 a0.data.toList) HL.out hbS ?c1 ?c2 ?_)
  case c1 => simp; omega
  case c2 => simp
  intro v1 w5 hown1 hg1
  have hbg1 := (((Below.refl w4.heap.size w4).alloc (Nat.le_refl _) (.cells #[] 5)).trans (own_below (own_empty w4) hg1 (by simp)))
  have hsz5 := hbg1.size
  have hll : (seal4 a0.data.toList).length ≤ 1004 := by rw [HL.out]; omega
  clear hg1 hbS
  go_wp2_with (at_builtin; refine wpList_join _ rfl (.tmp 31) (.tmp 33) rfl w4.heap.size _ _ rfl (World.ownsRow.alloc hown1 _) w5.heap.size 0 1 1 (w5.heap.size + 1) rfl [x] rfl ?d0 ?d1 ?d2 ?_)
  case d0 => exact fun _ => ⟨_, _, rfl, by omega, fun j u hu => by
    cases j with
    | zero => simp at hu; subst hu; exact cell_one_new w5 _ _ 0 _ rfl
    | succ j => simp at hu⟩
  case d1 => omega
  case d2 => simp; omega
  intro v2 w6 hown2 hg2
  have hbg2 := hbg1.trans (((Below.refl w4.heap.size w5).alloc hsz5 _).trans (own_below (World.ownsRow.alloc hown1 _) hg2 (by simp; omega)))
  have hsz6 := hbg2.size
  have Hb16 := hide (Hb14.out.trans (hbg2.mono Hb14.out.size))
  have ht6 := ht.below Hb16.out hpos
  have hby36 := (hby34.below hbg2).more hsz6
  have hby46 := (hby4.below hbg2).more hsz6
  obtain ⟨A6, c6, rfl, hlc6, hcm6, hby6⟩ := hown2.form
  have hlen6 : (seal4 a0.data.toList ++ [x]).length = a0.size + 5 := by rw [List.length_append, HL.out]; rfl
  rw [hlen6] at hlc6 ⊢
  have HO2 := hide (Open_len A6 (a0.size + 5) c6 _ w6 hlen6 hlc6 (by omega) hby6 ht6)
  clear hg2 hown1 hown2 hbg1 hbg2 hlen6 hby34 hby4 hby6
  go_wp2_with fail
  refine HO2.out.mono ?_
  rintro r w7 ⟨A7, k7, ok7, m7, rfl, hk7, hby7, hl7, hb7⟩
  have Hb17 := hide (Hb16.out.trans (hb7.mono Hb16.out.size))
  have ht7 := ht.below Hb17.out hpos
  have hby37 := (hby36.below hb7).more hb7.size
  have hby47 := (hby46.below hb7).more hb7.size
  have hlen7 : ((seal4 a0.data.toList).take (a0.size + 3)).length = a0.size + 3 := by rw [List.length_take, HL.out]; omega
  have HO3 := hide (Open_len _ (a0.size + 3) c3 _ w7 hlen7 (by omega) (by omega) (hby37.take _) ht7)
  have Hl7 := hide hl7
  have Hk7 := hide hk7
  clear HO2 hb7 hby36 hby46 hlen7 hl7 hk7 hby37
  go_wp2_with fail
  refine HO3.out.mono ?_
  rintro r w8 ⟨A8, k8, ok8, m8, rfl, hk8, hby8, hl8, hb8⟩
  have Hb18 := hide (Hb17.out.trans (hb8.mono Hb17.out.size))
  have hcvx := run_str w8 _ _ _ a0.size a0.size (size_eq a0) (hby47.below hb8)
  have hcvy := run_str w8 _ _ _ k7 k7 Hk7.out (hby7.below hb8)
  have hcvz := run_str w8 _ _ _ k8 k8 hk8 hby8
  have hex := str_like a0.data.toList a0 rfl
  rw [str_of] at hcvx hex
  have Hl8 := hide hl8
  have Hk8 := hide hk8
  clear HO3 hb8 hby7 hby8 hby47 hl8 hk8
  cases ok7 <;> cases ok8
  · go_wp2
    go_ret
    exact ⟨rfl, Hb18.out⟩
  · have hez := str_unlike m8 a0 (by have := Hl8.out rfl; have := Hk8.out; omega)
    go_wp2
    go_ret
    exact ⟨rfl, Hb18.out⟩
  · have hey := str_unlike m7 a0 (by have := Hl7.out rfl; have := Hk7.out; omega)
    go_wp2
    go_ret
    exact ⟨rfl, Hb18.out⟩
  · have hez := str_unlike m8 a0 (by have := Hl8.out rfl; have := Hk8.out; omega)
    have hey := str_unlike m7 a0 (by have := Hl7.out rfl; have := Hk7.out; omega)
    go_wp2
    go_ret
    exact ⟨rfl, Hb18.out⟩

theorem u8_back (z : Int) (h : (Lit.int .u8 z).wf = true) : ((UInt8.ofNat z.toNat).toNat : Int) = z := by
  have hb := bounds_u8 h
  rw [ofNat_toNat _ (by omega)]
  omega

theorem Opens_walk (a0 : ByteArray) (_hm : a0.size ≤ maxLen) (a1 : Int) (h1 : (Lit.int .u8 a1).wf = true) (w : World) (ht : Tab w) :
    Calls Tryd.prog 4 #[.string a0, .int .u8 a1] w fun e w' => e = .returned (.bool true) ∧ Below w.heap.size w w' := by
  rcases Nat.lt_or_ge 1000 a0.size with h | h
  · exact Opens_long a0 a1 w ht h
  · have := Opens_short a0 (UInt8.ofNat a1.toNat) w ht h
    rw [u8_back a1 h1] at this
    exact this

end Go.Proofs.YtjiihkpbeogbcaaDoor.Sm
