/-
  The reference's contracts: Of, Seal, Open and Sector of package isobarref02. Nothing that was there is changed.
-/
import Derived.Lib.IndexBytes
import Derived.Test.YtapiogcoipeinaaGreatDoorU5
namespace Go.Proofs.YtapiogcoipeinaaGreatDoor.Sm
open Go.RowKit
open Pk
theorem step_zero (d : Nat) (h : d % 2 = 0) : step d = d / 2 := by unfold step; rw [h, Nat.zero_mul, Nat.xor_zero]
theorem step_one (d : Nat) (h : d % 2 = 1) : step d = d / 2 ^^^ 2197175160 := by unfold step; rw [h, Nat.one_mul]
set_option maxHeartbeats 2000000 in
theorem rOf_any (s : ByteArray) (w : World) (hs : s.size ≤ 1000000) (r : Nat) (hr : Hid (crc s.data.toList = r)) :
 Calls Tryz.prog 116 #[.string s] w fun e w' => e = .returned (.int .u32 (r : Int)) ∧ w = w' := by
 have Hl := hide (size_eq s)
 go_enter Tryz.func116, Tryz.ntmps116
 go_wp2
 go_loop [3, 4] (fun c i => ∃ (k d : Nat), k ≤ s.size ∧ i = .int .i64 k ∧ c = .int .u32 d ∧ d < 4294967296 ∧ Hid (crcF d (s.data.toList.drop k) ^^^ ones = r)) (fun _ i => s.size - (intOf i).toNat)
 case atStart => exact ⟨0, 4294967295, by omega, rfl, rfl, by omega, hr⟩
 case round =>
  clear hr
  obtain ⟨k, d, hk, rfl, rfl, hd, hres⟩ := hrel
  by_cases hlt : k < s.size
  ·obtain ⟨x, hx, hsx⟩ : ∃ x : UInt8, s.data.toList[k]? = some x ∧ s[k]'hlt = x := ⟨s[k]'hlt, by rw [List.getElem?_eq_getElem (by rw [Hl.out]; exact hlt)]; rfl, rfl⟩
   obtain ⟨z, hz⟩ : ∃ z : Nat, z = x.toNat := ⟨_, rfl⟩
   have hz1 : z < 256 := by rw [hz]; exact x.toNat_lt
   have hw : ((s[k]'hlt).toNat : Int) = (z : Int) := by rw [hsx, hz]
   have hnext : Hid (crcF (steps 8 (d ^^^ z)) (s.data.toList.drop (k + 1)) ^^^ ones = r) := by
    have e := hres.out
    rw [drop_at _ k x hx] at e
    rw [hz]
    exact e
   have b1 := xor_lt d z hd (by omega)
   have e1 := u32_xor_nat d z hd (by omega)
   clear hres hx hz hsx
   generalize d ^^^ z = m1 at *
   go_wp2
   go_loop [3, 5] (fun c i => ∃ (j d' : Nat), j ≤ 8 ∧ i = .int .i64 j ∧ c = .int .u32 d' ∧ d' < 4294967296 ∧ Hid (steps (8 - j) d' = steps 8 m1)) (fun _ i => 8 - (intOf i).toNat)
   case atStart => exact ⟨0, m1, by omega, rfl, rfl, b1, rfl⟩
   case round =>
    clear b1 e1
    obtain ⟨j, d', hj, rfl, rfl, hd', hst⟩ := hrel
    by_cases hj8 : j < 8
    ·have hst2 : Hid (steps (8 - (j + 1)) (step d') = steps 8 m1) := by
      have e := hst.out
      rw [show 8 - j = (8 - (j + 1)) + 1 by omega] at e
      exact e
     have hsl := step_lt d' hd'
     clear hst
     rcases Nat.mod_two_eq_zero_or_one d' with hm | hm
     ·have f1 : ((d' : Int) % 2) = 0 := by omega
      have f2 : ((d' : Int) / 2) = ((d' / 2 : Nat) : Int) := by omega
      rw [step_zero d' hm] at hst2 hsl
      generalize d' / 2 = h2 at *
      clear hm
      go_wp2
      go_round
      case rel => exact ⟨j + 1, h2, by omega, by go_num, rfl, hsl, hst2⟩
      case measure => simp [intOf]; omega
     ·have f1 : ((d' : Int) % 2) = 1 := by omega
      have f2 : ((d' : Int) / 2) = ((d' / 2 : Nat) : Int) := by omega
      have f3 : bits .xor .u32 ((d' / 2 : Nat) : Int) 2197175160 = ((d' / 2 ^^^ 2197175160 : Nat) : Int) := u32_xor_nat (d' / 2) 2197175160 (by omega) (by omega)
      rw [step_one d' hm] at hst2 hsl
      generalize d' / 2 ^^^ 2197175160 = h3 at *
      generalize d' / 2 = h2 at *
      clear hm
      go_wp2
      go_round
      case rel => exact ⟨j + 1, h3, by omega, by go_num, rfl, hsl, hst2⟩
      case measure => simp [intOf]; omega
    ·have hst2 : d' = steps 8 m1 := by
      have e := hst.out
      rw [show 8 - j = 0 by omega] at e
      exact e
     have hfin : Hid (crcF d' (s.data.toList.drop (k + 1)) ^^^ ones = r) := by
      rw [hst2]
      exact hnext.out
     clear hst hst2 hnext
     go_wp2
     go_round
     case rel => exact ⟨k + 1, d', by omega, by go_num, rfl, hd', hfin⟩
     case measure => simp [intOf]; omega
  ·have e1 : (4294967295 : Int) - (d : Int) = (r : Int) := by
    have e := hres.out
    rw [List.drop_eq_nil_of_le (by rw [Hl.out]; omega)] at e
    have e2 := ones_sub d hd
    have e3 : ones - d = r := by rw [e2]; exact e
    unfold ones at e3
    omega
   clear hres
   go_wp2
   go_ret
   exact ⟨rfl, rfl⟩
theorem four_cels (C : Nat) (h : C < 4294967296) : (#[Value.int .u8 ((C : Int) % 256), Value.int .u8 ((C : Int) / 256 % 256), Value.int .u8 ((C : Int) / 65536 % 256), Value.int .u8 ((C : Int) / 16777216)] : Array Value) = (cels (le4 C)).toArray := by
 unfold le4
 simp only [cels, List.map_cons, List.map_nil, cel]
 rw [ofNat_toNat _ (by omega), ofNat_toNat _ (by omega), ofNat_toNat _ (by omega), ofNat_toNat _ (by omega), show C / 16777216 % 256 = C / 16777216 by omega]
 simp
theorem str_add (s : ByteArray) (m : List UInt8) : s ++ str m = str (s.data.toList ++ m) := by
 apply ByteArray.ext
 apply Array.ext'
 simp [str]
set_option maxHeartbeats 1000000 in
theorem rSeal_any (s : ByteArray) (w : World) (hs : s.size ≤ 1000000) :
 Calls Tryz.prog 97 #[.string s] w fun e w' => e = .returned (.string (str (seal4 s.data.toList))) ∧ Below w.heap.size w w' := by
 obtain ⟨C, hC⟩ : ∃ C, crc s.data.toList = C := ⟨_, rfl⟩
 have HO := hide (rOf_any s w hs C hC)
 have hC32 : C < 4294967296 := by rw [← hC]; exact crc_lt _
 have hcv : (convert 70 9 (.slice (some ⟨w.heap.size, 0, none⟩) 4 4)).run Tryz.prog (w.alloc (.cells #[Value.int .u8 ((C : Int) % 256), Value.int .u8 ((C : Int) / 256 % 256), Value.int .u8 ((C : Int) / 65536 % 256), Value.int .u8 ((C : Int) / 16777216)] 5)) =
  .ok (.string (str (le4 C))) (w.alloc (.cells #[Value.int .u8 ((C : Int) % 256), Value.int .u8 ((C : Int) / 256 % 256), Value.int .u8 ((C : Int) / 65536 % 256), Value.int .u8 ((C : Int) / 16777216)] 5)) :=
  run_str _ _ _ (le4 C) 4 4 rfl (by rw [four_cels C hC32]; exact byt_row (heap_alloc_new _ _))
 have hadd := str_add s (le4 C)
 have hfin : Hid (s.data.toList ++ le4 C = seal4 s.data.toList) := by unfold seal4; rw [hC]; rfl
 have hsz4 : (str (le4 C)).size = 4 := by rw [str_size]; rfl
 generalize s.data.toList ++ le4 C = L at *
 clear hC
 go_enter Tryz.func97, Tryz.ntmps97
 go_wp2_with fail
 refine HO.out.mono ?_
 rintro r w' ⟨rfl, rfl⟩
 clear HO
 go_wp2
 go_ret
 rw [← hfin.out]
 exact ⟨rfl, (Below.refl _ _).alloc (Nat.le_refl _) _⟩
def szOf : Value → Nat | .string s => s.size | _ => 0
theorem zero_add (s : ByteArray) : s ++ { data := #[0] } = str (s.data.toList ++ [0]) := str_add s [0]
theorem pad_more (l : List UInt8) (h : l.length < 60) : pad (l ++ [0]) = pad l := by
 unfold pad
 rw [List.length_append, List.append_assoc]
 congr 1
 rw [show 60 - l.length = (60 - (l.length + 1)) + 1 by omega, List.replicate_succ]
 rfl
theorem pad_full (l : List UInt8) (h : l.length = 60) : pad l = l := by
 unfold pad
 rw [h]
 simp
set_option maxHeartbeats 1000000 in
theorem rSector_any (s : ByteArray) (w : World) (hs : s.size ≤ 60) :
 Calls Tryz.prog 80 #[.string s] w fun e w' => e = .returned (.tuple #[.string (str (seal4 (pad s.data.toList))), .bool true]) ∧ Below w.heap.size w w' := by
 go_enter Tryz.func80, Tryz.ntmps80
 go_wp2
 go_loop [0] (fun v => ∃ s' : ByteArray, v = .string s' ∧ s'.size ≤ 60 ∧ Hid (pad s'.data.toList = pad s.data.toList)) (fun v => 60 - szOf v)
 case atStart => exact ⟨s, rfl, hs, rfl⟩
 case round =>
  obtain ⟨s', rfl, hs', hp⟩ := hrel
  by_cases hlt : s'.size < 60
  ·have hsz : (s' ++ { data := #[0] }).size = s'.size + 1 := by rw [zero_add, str_size, List.length_append, size_eq]; rfl
   have hp2 : Hid (pad (s' ++ { data := #[0] }).data.toList = pad s.data.toList) := by
    rw [zero_add, str_data, pad_more _ (by rw [size_eq]; exact hlt)]
    exact hp
   have Hsz := hide hsz
   clear hsz hp
   go_wp2
   go_round
   case rel => exact ⟨_, rfl, by rw [Hsz.out]; omega, hp2⟩
   case measure =>
    simp only [szOf]
    rw [Hsz.out]
    omega
  ·have hfull := pad_full s'.data.toList (by rw [size_eq]; omega)
   have e := hp.out
   rw [hfull] at e
   have HS := hide (rSeal_any s' w (by omega))
   rw [e] at HS
   clear hp e hfull
   go_wp2_with fail
   refine HS.out.mono ?_
   rintro r w' ⟨rfl, hb⟩
   clear HS
   go_wp2
   go_ret2
   exact ⟨rfl, hb⟩
theorem head_str (s : ByteArray) (k : Nat) : s.extract 0 k = str (s.data.toList.take k) := by
 apply ByteArray.ext
 apply Array.ext'
 rw [Lib.extract_data]
 simp [str]
set_option maxHeartbeats 1000000 in
theorem rOpen_short (s : ByteArray) (w : World) (hs : s.size < 4) :
 Calls Tryz.prog 71 #[.string s] w fun e w' => e = .returned (.tuple #[.string (str []), .bool false]) ∧ Below w.heap.size w w' := by
 go_enter Tryz.func71, Tryz.ntmps71
 go_wp2
 go_ret2
 exact ⟨rfl, Below.refl _ _⟩
set_option maxHeartbeats 1000000 in
theorem rOpen_no (s : ByteArray) (w : World) (hs : s.size ≤ 1000000) (h4 : 4 ≤ s.size) (hno : seal4 (s.data.toList.take (s.size - 4)) ≠ s.data.toList) :
 Calls Tryz.prog 71 #[.string s] w fun e w' => e = .returned (.tuple #[.string (str []), .bool false]) ∧ Below w.heap.size w w' := by
 have hh := head_str s (s.size - 4)
 have HS := hide (rSeal_any (str (s.data.toList.take (s.size - 4))) w (by rw [str_size, List.length_take]; omega))
 rw [str_data] at HS
 have hne : ((str (seal4 (s.data.toList.take (s.size - 4)))).toList == s.toList) = false := by
  have e := str_same (seal4 (s.data.toList.take (s.size - 4))) s.data.toList
  rw [str_of] at e
  rw [e, decide_eq_false hno]
 generalize seal4 (s.data.toList.take (s.size - 4)) = S at *
 generalize s.data.toList.take (s.size - 4) = T at *
 clear hno
 go_enter Tryz.func71, Tryz.ntmps71
 go_wp2_with fail
 refine HS.out.mono ?_
 rintro r w' ⟨rfl, hb⟩
 clear HS
 go_wp2
 go_ret2
 exact ⟨rfl, hb⟩
set_option maxHeartbeats 1000000 in
theorem rOpen_yes (s : ByteArray) (w : World) (hs : s.size ≤ 1000000) (h4 : 4 ≤ s.size) (hyes : seal4 (s.data.toList.take (s.size - 4)) = s.data.toList) :
 Calls Tryz.prog 71 #[.string s] w fun e w' => e = .returned (.tuple #[.string (str (s.data.toList.take (s.size - 4))), .bool true]) ∧ Below w.heap.size w w' := by
 have hh := head_str s (s.size - 4)
 have HS := hide (rSeal_any (str (s.data.toList.take (s.size - 4))) w (by rw [str_size, List.length_take]; omega))
 rw [str_data] at HS
 have hne : ((str (seal4 (s.data.toList.take (s.size - 4)))).toList == s.toList) = true := by
  have e := str_same (seal4 (s.data.toList.take (s.size - 4))) s.data.toList
  rw [str_of] at e
  rw [e, decide_eq_true hyes]
 generalize seal4 (s.data.toList.take (s.size - 4)) = S at *
 generalize s.data.toList.take (s.size - 4) = T at *
 clear hyes
 go_enter Tryz.func71, Tryz.ntmps71
 go_wp2_with fail
 refine HS.out.mono ?_
 rintro r w' ⟨rfl, hb⟩
 clear HS
 go_wp2
 go_ret2
 rw [← hh]
 exact ⟨rfl, hb⟩
end Go.Proofs.YtapiogcoipeinaaGreatDoor.Sm
