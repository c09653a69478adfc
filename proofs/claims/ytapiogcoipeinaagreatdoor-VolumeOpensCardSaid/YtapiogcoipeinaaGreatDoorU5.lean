/-
  Bytes appended to a row of the call's own; what an append leaves below it; Open of any bytes, told by one form. Plain theorems and contracts, for every world.
-/
import Derived.Lib.ConvBytes
import Derived.Lib.SlBytesConst
import Derived.Test.YtapiogcoipeinaaGreatDoorU3
namespace Go.Proofs.YtapiogcoipeinaaGreatDoor.Sm
open Go.RowKit
open Pk
def str (l : List UInt8) : ByteArray := ⟨l.toArray⟩
theorem str_data (l : List UInt8) : (str l).data.toList = l := rfl
theorem str_size (l : List UInt8) : (str l).size = l.length := by simp [str, ByteArray.size]
theorem str_of (s : ByteArray) : str s.data.toList = s := rfl
theorem size_eq (s : ByteArray) : s.data.toList.length = s.size := Array.length_toList
theorem nums_str (l : List UInt8) : strOfNums (l.map fun b => (b.toNat : Int)) = str l := by
 unfold strOfNums str
 congr 2
 rw [List.map_map]
 conv => rhs; rw [← List.map_id l]
 apply List.map_congr_left
 intro b _
 simp
theorem str_same (l m : List UInt8) : ((str l).toList == (str m).toList) = decide (l = m) := by
 rw [ByteArray.toList_eq, ByteArray.toList_eq, str_data, str_data]
 by_cases h : l = m
 ·simp [h]
 ·simp [h]
theorem run_str (w : World) (B : Nat) (A : Option Addr) (l : List UInt8) (n c : Nat) (hn : l.length = n) (hb : Byt w B A l) :
 (convert 70 9 (.slice A n c)).run Tryz.prog w = .ok (.string (str l)) w := by
 subst hn
 cases l with
 | nil =>
   cases A with
   | none => exact run_convert_bytes_nil w 70 5 Tryz.underlying70 Tryz.underlying5 0 c 9 Tryz.underlying9
   | some ad =>
     have h0 : (loadCells ad 0).run Tryz.prog w = .ok (([] : List Int).map (Value.int .u8)).toArray w := run_loadCells_list w ad [] (fun j v hj => by simp at hj)
     rw [List.length_nil, run_convert_bytes_string w _ _ 5 _ 0 c Tryz.underlying70 Tryz.underlying5 Tryz.underlying9, run_bytesToString w ad 0 c [] h0]
     rfl
 | cons x r =>
   obtain ⟨b, o, rfl, _, hc⟩ := hb (by simp)
   rw [← nums_str]
   refine run_convert_bytes_arg w 70 5 Tryz.underlying70 Tryz.underlying5 b o _ c _ (by simp) (fun i hi => ?_) 9 Tryz.underlying9
   rw [hc i _ (List.getElem?_eq_getElem hi)]
   rw [List.getD_eq_getElem?_getD, List.getElem?_map, List.getElem?_eq_getElem hi]
   rfl
theorem to_bytes (w : World) (s : ByteArray) (hs : s.size ≤ maxLen) : ∃ (w' : World) (c : Nat), s.size ≤ c ∧ c ≤ 9223372036854775807 ∧
 (convert 9 70 (.string s)).run Tryz.prog w = .ok (.slice (some ⟨w.heap.size, 0, none⟩) s.size c) w' ∧ Byt w' w'.heap.size (some ⟨w.heap.size, 0, none⟩) s.data.toList ∧ Below w.heap.size w w' := by
 refine ⟨_, _, grownCap_ge _ _ _ _, grownCap_le_maxLen _ _ _ _ hs, Lib.run_convert_string_bytes w 9 70 5 s Tryz.underlying9 Tryz.underlying70 Tryz.underlying5, fun _ => ⟨_, _, rfl, by rw [Lib.bytesWorld_size]; omega, fun j u hu => ?_⟩, ?_⟩
 ·have hj : j < s.size := by
   have := (List.getElem?_eq_some_iff.1 hu).1
   rw [size_eq] at this
   exact this
  rw [Nat.zero_add, Lib.bytesWorld_cell w _ s j hj, List.getD_eq_getElem?_getD, hu]
  rfl
 ·refine ⟨?_, ?_, ?_, by rw [Lib.bytesWorld_size]; omega, fun k hk => Lib.bytesWorld_at_old w _ s k hk⟩ <;> simp [Lib.bytesWorld, World.freeze, World.alloc, World.drew, -World.alloc_eq, -World.drew_eq]
end Go.Proofs.YtapiogcoipeinaaGreatDoor.Sm
namespace Go.Proofs.YtapiogcoipeinaaGreatDoor.Sm
open Go.RowKit
open Pk
set_option maxHeartbeats 400000 in
theorem Equal_any (A A' : Option Addr) (n c n' c' B B' : Nat) (l l' : List UInt8) (w : World) (hn : l.length = n) (hn' : l'.length = n') (hb : Byt w B A l) (hb' : Byt w B' A' l') (v : Bool) (hv : ((str l).toList == (str l').toList) = v) :
 Calls Tryz.prog 93 #[.slice A n c, .slice A' n' c'] w fun e w' => e = .returned (.bool v) ∧ w = w' := by
 have e1 := run_str w B A l n c hn hb
 have e2 := run_str w B' A' l' n' c' hn' hb'
 clear hn hn' hb hb'
 go_enter Tryz.func93, Tryz.ntmps93
 go_wp2
 go_ret
 exact ⟨rfl, rfl⟩
set_option maxHeartbeats 400000 in
theorem Open_short (A : Option Addr) (n c : Nat) (w : World) (hn : n < 4) :
 Calls Tryz.prog 91 #[.slice A n c] w fun e w' => e = .returned (.tuple #[.slice none 0 0, .bool false]) ∧ w = w' := by
 go_enter Tryz.func91, Tryz.ntmps91
 go_wp2
 go_ret2
 exact ⟨rfl, rfl⟩
theorem Seal_told (A : Option Addr) (l : List UInt8) (n c : Nat) (w : World) (hn : l.length = n) (hb : Byt w w.heap.size A l) (ht : Tab w) (hl : n ≤ 1000000) :
 Calls Tryz.prog 112 #[.slice A n c] w fun e w' =>
  ∃ b o c', e = .returned (.slice (some ⟨b, o, none⟩) (n + 4) c') ∧ n + 4 ≤ c' ∧ c' ≤ 9223372036854775807 ∧ Own w' w.heap.size (.slice (some ⟨b, o, none⟩) (n + 4) c') (seal4 l) ∧ Byt w' w'.heap.size (some ⟨b, o, none⟩) (seal4 l) ∧ Below w.heap.size w w' := by
 refine (Seal_any A l n c w hn hb ht (by omega)).mono ?_
 rintro e w' ⟨v, rfl, hown, hbel⟩
 obtain ⟨A', c', rfl, h1, h2, h3⟩ := hown.form
 have hlen := seal4_length l
 obtain ⟨b, o, rfl, _, _⟩ := h3 (by intro h; rw [h] at hlen; simp at hlen)
 rw [hlen, hn] at h1 hown
 rw [hlen, hn]
 exact ⟨b, o, c', rfl, h1, h2, hown, h3, hbel⟩
theorem seal4_take_length (l : List UInt8) (k : Nat) (hn : l.length = k + 4) : (seal4 (l.take k)).length = k + 4 := by
 rw [seal4_length, List.length_take]
 omega
set_option maxHeartbeats 1000000 in
theorem Open_no (b o k c : Nat) (l : List UInt8) (w : World) (hn : l.length = k + 4) (hc : k + 4 ≤ c) (hl : k ≤ 1000000) (hb : Byt w w.heap.size (some ⟨b, o, none⟩) l) (ht : Tab w) (hno : seal4 (l.take k) ≠ l) :
 Calls Tryz.prog 91 #[.slice (some ⟨b, o, none⟩) (k + 4) c] w fun e w' => e = .returned (.tuple #[.slice none 0 0, .bool false]) ∧ Below w.heap.size w w' := by
 have HS := hide (Seal_told (some ⟨b, o, none⟩) (l.take k) k c w (by rw [List.length_take]; omega) (hb.take k) ht (by omega))
 have Hno := hide hno
 have Hn := hide hn
 clear hno hn
 go_enter Tryz.func91, Tryz.ntmps91
 go_wp2_with fail
 refine HS.out.mono ?_
 rintro r w1 ⟨b1, o1, c1, rfl, hc1, hcm1, _, hby1, hbel⟩
 have HE := hide (Equal_any _ _ (k + 4) c1 (k + 4) c _ _ _ l w1 (seal4_take_length l k Hn.out) Hn.out hby1 (hb.below hbel) false (by rw [str_same]; exact decide_eq_false Hno.out))
 clear HS hby1
 go_wp2_with fail
 refine HE.out.mono ?_
 rintro r w' ⟨rfl, rfl⟩
 go_wp2
 go_ret2
 exact ⟨rfl, hbel⟩
set_option maxHeartbeats 1000000 in
theorem Open_yes (b o k c : Nat) (l : List UInt8) (w : World) (hn : l.length = k + 4) (hc : k + 4 ≤ c) (hl : k ≤ 1000000) (hb : Byt w w.heap.size (some ⟨b, o, none⟩) l) (ht : Tab w) (hyes : seal4 (l.take k) = l) :
 Calls Tryz.prog 91 #[.slice (some ⟨b, o, none⟩) (k + 4) c] w fun e w' => ∃ b1 o1, e = .returned (.tuple #[.slice (some ⟨b1, o1, none⟩) k k, .bool true]) ∧ Byt w' w'.heap.size (some ⟨b1, o1, none⟩) (l.take k) ∧ Below w.heap.size w w' := by
 have HS := hide (Seal_told (some ⟨b, o, none⟩) (l.take k) k c w (by rw [List.length_take]; omega) (hb.take k) ht (by omega))
 have Hyes := hide hyes
 have Hn := hide hn
 clear hyes hn
 go_enter Tryz.func91, Tryz.ntmps91
 go_wp2_with fail
 refine HS.out.mono ?_
 rintro r w1 ⟨b1, o1, c1, rfl, hc1, hcm1, _, hby1, hbel⟩
 have HE := hide (Equal_any _ _ (k + 4) c1 (k + 4) c _ _ _ l w1 (seal4_take_length l k Hn.out) Hn.out hby1 (hb.below hbel) true (by rw [str_same]; exact decide_eq_true Hyes.out))
 have R := hby1
 rw [Hyes.out] at R
 have HR := hide (R.take k)
 clear HS hby1 R
 go_wp2_with fail
 refine HE.out.mono ?_
 rintro r w' ⟨rfl, rfl⟩
 go_wp2
 go_ret2
 exact ⟨b1, o1, rfl, HR.out, hbel⟩
theorem Open_bad (A : Option Addr) (n c : Nat) (l : List UInt8) (w : World) (hn : l.length = n) (hc : n ≤ c) (hl : n ≤ 1000000) (hb : Byt w w.heap.size A l) (ht : Tab w) (hno : ∀ m, l ≠ seal4 m) :
 Calls Tryz.prog 91 #[.slice A n c] w fun e w' => e = .returned (.tuple #[.slice none 0 0, .bool false]) ∧ Below w.heap.size w w' := by
 rcases Nat.lt_or_ge n 4 with h | h
 ·refine (Open_short A n c w h).mono ?_
  rintro e w' ⟨rfl, rfl⟩
  exact ⟨rfl, Below.refl _ _⟩
 ·obtain ⟨k, rfl⟩ : ∃ k, n = k + 4 := ⟨n - 4, by omega⟩
  obtain ⟨b, o, rfl, _, _⟩ := hb (by rintro rfl; simp at hn)
  exact Open_no b o k c l w hn hc (by omega) hb ht (fun e => hno _ e.symm)
theorem Open_good (A : Option Addr) (n c k : Nat) (m : List UInt8) (w : World) (hk : m.length = k) (hn : n = k + 4) (hc : n ≤ c) (hl : n ≤ 1000000) (hb : Byt w w.heap.size A (seal4 m)) (ht : Tab w) :
 Calls Tryz.prog 91 #[.slice A n c] w fun e w' => ∃ b1 o1, e = .returned (.tuple #[.slice (some ⟨b1, o1, none⟩) k k, .bool true]) ∧ Byt w' w'.heap.size (some ⟨b1, o1, none⟩) m ∧ Below w.heap.size w w' := by
 subst hn
 subst hk
 have hlen := seal4_length m
 obtain ⟨b, o, rfl, _, _⟩ := hb (by intro h; rw [h] at hlen; simp at hlen)
 have := Open_yes b o m.length c (seal4 m) w hlen hc (by omega) hb ht (by rw [seal4_take])
 rw [seal4_take] at this
 exact this
end Go.Proofs.YtapiogcoipeinaaGreatDoor.Sm
namespace Go.Proofs.YtapiogcoipeinaaGreatDoor.Sm
open Go.RowKit
open Pk
def pad (l : List UInt8) : List UInt8 := l ++ List.replicate (60 - l.length) 0
theorem pad_length (l : List UInt8) (h : l.length ≤ 60) : (pad l).length = 60 := by
 unfold pad
 rw [List.length_append, List.length_replicate]
 omega
def nils (n : Nat) : List Value := List.replicate n (Value.int .u8 0)
theorem nils_length (n : Nat) : (nils n).length = n := List.length_replicate
theorem pad_cels (l : List UInt8) : splice (nils 60) 0 (cels l) = cels (pad l) := by
 unfold pad nils
 generalize 60 = m at *
 rw [cels_append]
 simp [splice, cels, cel]
theorem byt_row {w : World} {g t : Nat} {l : List UInt8} (hg : w.heap[g]? = some (.cells (cels l).toArray t (0, 0))) : Byt w w.heap.size (some ⟨g, 0, none⟩) l := fun _ => by
 refine ⟨g, 0, rfl, (Array.getElem?_eq_some_iff.1 hg).1, fun j u hu => ?_⟩
 have hj : (cels l)[j]? = some (cel u) := by simp [cels, hu]
 simp only [World.cell?, hg, Nat.zero_add]
 simp [hj]
end Go.Proofs.YtapiogcoipeinaaGreatDoor.Sm
namespace Go.Proofs.YtapiogcoipeinaaGreatDoor.Sm
open Go.RowKit
open Pk
end Go.Proofs.YtapiogcoipeinaaGreatDoor.Sm
namespace Go.Proofs.YtapiogcoipeinaaGreatDoor.Sm
open Go.RowKit
open Pk
theorem own_below {w w' : World} {base : Nat} {v : Value} {l : List UInt8} (hown : Own w base v l) (hg : w.grownBy w' v.ownBlock) (hbase : base ≤ w.heap.size) : Below base w w' :=
 (Below.refl _ _).grown hg hbase (fun k hk => (World.ownsRow.lt hown k hk).1)
end Go.Proofs.YtapiogcoipeinaaGreatDoor.Sm
