/-
  The contract of sum.Seal: a row of the call's own that holds the bytes and their checksum; nothing that was there is changed.
-/
import Derived.WalkKit
import Derived.WalkSpells
import Derived.WalkLawsBesides
import Derived.Laws.CopyOwn
import Derived.Lib.AppendStr
import Derived.Maps.AppendAt
import Derived.Laws.BytesArg
import Derived.Laws.BitsAllLaws
import Derived.Laws.BitsLemmas
import Derived.Test.YtapiogcoipeinaaGreatDoorChecked
import Derived.Test.YtapiogcoipeinaaGreatDoorU1
namespace Go.Proofs.YtapiogcoipeinaaGreatDoor.Pk
open Go.RowKit
theorem hide {p : Prop} (h : p) : Hid p := h
def cel (b : UInt8) : Value := .int .u8 (b.toNat : Int)
def cels (l : List UInt8) : List Value := l.map cel
theorem cels_length (l : List UInt8) : (cels l).length = l.length := by simp [cels]
theorem cels_append (l m : List UInt8) : cels (l ++ m) = cels l ++ cels m := by simp [cels]
theorem cels_one (l : List UInt8) : ∀ u ∈ cels l, u.oneCell' = true := by
 intro u hu
 simp only [cels, List.mem_map] at hu
 obtain ⟨b, _, rfl⟩ := hu
 rfl
theorem cels_get (l : List UInt8) (j : Nat) (u : Value) (h : (cels l)[j]? = some u) : ∃ b, l[j]? = some b ∧ u = cel b := by
 simp only [cels, List.getElem?_map, Option.map_eq_some_iff] at h
 obtain ⟨b, h1, h2⟩ := h
 exact ⟨b, h1, h2.symm⟩
def Byt (w : World) (B : Nat) (A : Option Addr) (l : List UInt8) : Prop :=
 l ≠ [] → ∃ b o, A = some ⟨b, o, none⟩ ∧ b < B ∧ ∀ j u, l[j]? = some u → w.cell? ⟨b, o + j, none⟩ = some (cel u)
section
variable {w w' : World} {B B' : Nat} {A : Option Addr} {l : List UInt8}
theorem Byt.nil : Byt w B A [] := fun h => absurd rfl h
theorem Byt.keep (h : Byt w B A l) (hk : ∀ p : Addr, p.block < B → w'.cell? p = w.cell? p) : Byt w' B A l := fun hn => by
 obtain ⟨b, o, e, hb, hc⟩ := h hn
 exact ⟨b, o, e, hb, fun j u hu => (hk ⟨b, o + j, none⟩ hb).trans (hc j u hu)⟩
theorem Byt.below (h : Byt w B A l) (hb : Below B w w') : Byt w' B A l := h.keep fun _ hp => hb.cell hp
theorem Byt.more (h : Byt w B A l) (hB : B ≤ B') : Byt w B' A l := fun hn => by
 obtain ⟨b, o, e, hb, hc⟩ := h hn
 exact ⟨b, o, e, by omega, hc⟩
theorem Byt.drop {b o k c : Nat} (h : Byt w B (some ⟨b, o, none⟩) l) (hk : k ≤ l.length) (hc : l.length ≤ c) :
 Byt w B (if c = k then some ⟨b, o, none⟩ else some ⟨b, o + k, none⟩) (l.drop k) := fun hn => by
 have hlt : k < l.length := by
  rcases Nat.lt_or_ge k l.length with h1 | h1
  ·exact h1
  ·exact absurd (List.drop_eq_nil_of_le h1) hn
 have hne : l ≠ [] := by rintro rfl; simp at hlt
 obtain ⟨b', o', e, hb, hcell⟩ := h hne
 simp only [Option.some.injEq, Addr.mk.injEq, and_true] at e
 obtain ⟨rfl, rfl⟩ := e
 rw [if_neg (by omega)]
 refine ⟨b, o + k, rfl, hb, fun j u hu => ?_⟩
 rw [List.getElem?_drop] at hu
 rw [Nat.add_assoc]
 exact hcell _ u hu
theorem Byt.take (h : Byt w B A l) (k : Nat) : Byt w B A (l.take k) := fun hn => by
 have hne : l ≠ [] := by rintro rfl; simp at hn
 obtain ⟨b, o, e, hb, hc⟩ := h hne
 refine ⟨b, o, e, hb, fun j u hu => hc j u ?_⟩
 rw [List.getElem?_take] at hu
 split at hu
 ·exact hu
 ·cases hu
end
def Own (w : World) (base : Nat) (v : Value) (l : List UInt8) : Prop := w.ownsRow base 5 1 v l.length (cels l)
theorem Own.form {w : World} {base : Nat} {v : Value} {l : List UInt8} (h : Own w base v l) :
 ∃ A c, v = .slice A l.length c ∧ l.length ≤ c ∧ c ≤ maxLen ∧ Byt w w.heap.size A l := by
 rcases h.2 with ⟨rfl, h0⟩ | ⟨g, cap, cur, rfl, hb, hg, hn, hm, hs, htk⟩
 ·exact ⟨none, 0, by rw [h0], by omega, by unfold maxLen; omega, fun hne => absurd (List.eq_nil_of_length_eq_zero h0) hne⟩
 ·refine ⟨_, cap, rfl, hn, hm, fun _ => ⟨g, 0, rfl, (Array.getElem?_eq_some_iff.1 hg).1, fun j u hu => ?_⟩⟩
  have hj : j < l.length := (List.getElem?_eq_some_iff.1 hu).1
  rw [Nat.zero_add, World.ownsRow.cellAt h j (by omega)]
  simp [cels, hu]
theorem Own.alloc {w : World} {base : Nat} {v : Value} {l : List UInt8} (h : Own w base v l) (o : Obj) : Own (w.alloc o) base v l := World.ownsRow.alloc h o
theorem u8_info : (Tryz.prog.info? 5).map (fun i => (i.zero, i.size, i.bytes)) = some (some (.int .u8 0), 1, 1) := by kernel_rfl
end Go.Proofs.YtapiogcoipeinaaGreatDoor.Pk
namespace Go.Proofs.YtapiogcoipeinaaGreatDoor.Pk
open Go.RowKit
theorem and127 (d : Nat) (h : d < 256) : bits .and .u8 (d : Int) 127 = ((d % 128 : Nat) : Int) := by
 have := u8_and_nat d 127 h (by omega)
 rw [nat_mask7] at this
 exact this
theorem and128_lo (d : Nat) (h : d < 128) : bits .and .u8 (d : Int) 128 = 0 := by
 have e := u8_and_nat d 128 (by omega) (by omega)
 have b := nat_bit 7 d
 rw [show (2 : Nat) ^ 7 = 128 from rfl, show d / 128 % 2 = 0 by omega, Nat.zero_mul] at b
 rw [b] at e
 exact e
theorem and128_hi (d : Nat) (h1 : 128 ≤ d) (h2 : d < 256) : bits .and .u8 (d : Int) 128 = 128 := by
 have e := u8_and_nat d 128 (by omega) (by omega)
 have b := nat_bit 7 d
 rw [show (2 : Nat) ^ 7 = 128 from rfl, show d / 128 % 2 = 1 by omega, Nat.one_mul] at b
 rw [b] at e
 exact e
theorem or64 (a b : Nat) (ha : a < 9223372036854775808) (hb : b < 9223372036854775808) : bits .or .i64 (a : Int) (b : Int) = ((a ||| b : Nat) : Int) := by
 have hx : a ||| b < 2 ^ 63 := Nat.or_lt_two_pow (by omega) (by omega)
 have h64 : ∀ n : Nat, n < 9223372036854775808 → (BitVec.ofInt 64 (n : Int)).toNat = n := fun n hn => by
  rw [BitVec.ofInt_natCast, BitVec.toNat_ofNat]
  exact Nat.mod_eq_of_lt (by omega)
 show IntKind.i64.wrap ((BitVec.ofInt 64 (a : Int) ||| BitVec.ofInt 64 (b : Int)).toNat : Int) = _
 rw [BitVec.toNat_or, h64 a ha, h64 b hb, IntKind.wrap_i64]
 omega
theorem pow7 (k : Nat) : (128 : Nat) ^ k = 2 ^ (7 * k) := by rw [Nat.pow_mul]
theorem group_at (acc d k : Nat) (hk : k ≤ 8) (ha : acc < 128 ^ k) (hd : d < 256) :
 bits .or .i64 (acc : Int) (wrap64 (wrap64 (bits .and .u8 (d : Int) 127) * 2 ^ (7 * k))) = ((acc + d % 128 * 128 ^ k : Nat) : Int) := by
 have hp : 128 ^ k ≤ 72057594037927936 := by have := pow_le k hk; rw [pow8] at this; exact this
 have hm : d % 128 * 128 ^ k ≤ 127 * 128 ^ k := Nat.mul_le_mul_right _ (by omega)
 have e1 : wrap64 ((d % 128 : Nat) : Int) = ((d % 128 : Nat) : Int) := IntWalk.wrap64_in _ ⟨by omega, by omega⟩
 have e2 : ((d % 128 : Nat) : Int) * 2 ^ (7 * k) = ((d % 128 * 128 ^ k : Nat) : Int) := by rw [pow7]; simp
 have e3 : wrap64 ((d % 128 * 128 ^ k : Nat) : Int) = ((d % 128 * 128 ^ k : Nat) : Int) := IntWalk.wrap64_in _ ⟨by omega, by omega⟩
 rw [and127 d hd, e1, e2, e3, or64 _ _ (by omega) (by omega)]
 congr 1
 rw [Nat.or_comm, nat_join (7 * k) _ acc (by rw [pow7]; exact Nat.mul_mod_left _ _) (by rw [← pow7]; exact ha)]
 omega
theorem drop_at (l : List UInt8) (k : Nat) (x : UInt8) (h : l[k]? = some x) : l.drop k = x :: l.drop (k + 1) := by
 obtain ⟨hk, e⟩ := List.getElem?_eq_some_iff.1 h
 rw [List.drop_eq_getElem_cons hk, e]
theorem way_big (k acc : Nat) (x : UInt8) (r : List UInt8) (h : 1152921504606846975 < acc + x.toNat % 128 * 128 ^ k) : decF k acc (x :: r) = (0, 0, 1) := by
 unfold decF; rw [if_pos (.inl h)]
theorem way_nine (acc : Nat) (x : UInt8) (r : List UInt8) (h : 128 ≤ x.toNat) : decF 8 acc (x :: r) = (0, 0, 1) := by
 unfold decF; rw [if_pos (.inr ⟨h, rfl⟩)]
theorem way_zero (k acc : Nat) (x : UInt8) (r : List UInt8) (h : x.toNat = 0) (hk : 0 < k) : decF k acc (x :: r) = (0, 0, 1) := by
 unfold decF
 split
 ·rfl
 ·rw [if_pos ⟨h, hk⟩]
set_option maxHeartbeats 1000000 in
theorem number_some (b o c : Nat) (l : List UInt8) (w : World) (hl : l.length ≤ 9223372036854775807)
 (hc : ∀ j u, l[j]? = some u → w.cell? ⟨b, o + j, none⟩ = some (cel u)) (n1 n2 n3 : Nat) (hres : Hid (dec l = (n1, n2, n3))) :
 Calls Tryz.prog 130 #[.slice (some ⟨b, o, none⟩) l.length c] w fun e w' =>
  e = .returned (.tuple #[.int .i64 n1, .int .i64 n2, .int .i64 n3]) ∧ w = w' := by
 generalize hlen : l.length = len at *
 have Hlen := hide hlen
 clear hlen
 go_enter Tryz.func130, Tryz.ntmps130
 go_wp2
 go_loop [2, 10] (fun n i => ∃ (k acc : Nat), k ≤ len ∧ k ≤ 8 ∧ i = .int .i64 k ∧ n = .int .i64 acc ∧ Hid (acc < 128 ^ k) ∧ Hid (decF k acc (l.drop k) = (n1, n2, n3))) (fun _ i => len - (intOf i).toNat)
 case atStart => exact ⟨0, 0, by omega, by omega, rfl, rfl, Nat.one_pos, hres⟩
 case round =>
  clear hres
  obtain ⟨k, acc, hk, hk8, rfl, rfl, hacc, hd⟩ := hrel
  by_cases hlt : k < len
  ·obtain ⟨x, hx⟩ : ∃ x : UInt8, l[k]? = some x := ⟨l[k]'(by rw [Hlen.out]; exact hlt), List.getElem?_eq_getElem _⟩
   obtain ⟨d, hd'⟩ : ∃ d : Nat, d = x.toNat := ⟨_, rfl⟩
   have hcell : w.cell? ⟨b, o + k, none⟩ = some (.int .u8 (d : Int)) := by rw [hc k x hx, cel, hd']
   have hdl : d < 256 := by rw [hd']; exact x.toNat_lt
   have hg := group_at acc d k hk8 hacc.out hdl
   obtain ⟨m, hm⟩ : ∃ m : Nat, m = acc + d % 128 * 128 ^ k := ⟨_, rfl⟩
   rw [← hm] at hg
   have hd2 := hd.out
   rw [drop_at l k x hx] at hd2
   have Hm : Hid (m = acc + x.toNat % 128 * 128 ^ k) := by rw [← hd']; exact hm
   have Hd2 := hide hd2
   have Hd := hide hd'
   clear hx hd' hc hm hd2 hd
   rcases Nat.lt_or_ge 1152921504606846975 m with hbig | hbig
   ·have hw : Hid ((n1, n2, n3) = (0, 0, 1)) := by
     rw [← Hd2.out]; exact way_big k acc x _ (by rw [← Hm.out]; exact hbig)
    clear Hm Hd2 Hd
    rcases Nat.lt_or_ge d 128 with hlo | hhi
    ·have e := and128_lo d hlo
     go_wp2
     go_ret3
     obtain ⟨rfl, rfl, rfl⟩ : n1 = 0 ∧ n2 = 0 ∧ n3 = 1 := by simpa using hw.out
     exact ⟨rfl, rfl⟩
    ·have e := and128_hi d hhi hdl
     go_wp2
     go_ret3
     obtain ⟨rfl, rfl, rfl⟩ : n1 = 0 ∧ n2 = 0 ∧ n3 = 1 := by simpa using hw.out
     exact ⟨rfl, rfl⟩
   ·rcases Nat.lt_or_ge d 128 with hlo | hhi
    ·have e := and128_lo d hlo
     by_cases hz : d = 0 ∧ 0 < k
     ·have hw : Hid ((n1, n2, n3) = (0, 0, 1)) := by
       rw [← Hd2.out]; exact way_zero k acc x _ (by rw [← Hd.out]; exact hz.1) hz.2
      have hz1 : d < 1 := by omega
      have hz2 := hz.2
      clear Hm Hd2 Hd hz
      go_wp2
      go_ret3
      obtain ⟨rfl, rfl, rfl⟩ : n1 = 0 ∧ n2 = 0 ∧ n3 = 1 := by simpa using hw.out
      exact ⟨rfl, rfl⟩
     ·have hw : Hid ((n1, n2, n3) = (m, k + 1, 0)) := by
       have hx := Hd.out
       have hm := Hm.out
       rw [Nat.mod_eq_of_lt (by omega)] at hm
       rw [← Hd2.out, hm]; exact decF_last k acc x _ (by omega) (by omega) (by omega)
      clear Hm Hd2 Hd
      rcases Nat.lt_or_ge 0 d with h0 | h0
      ·go_wp2
       go_ret3
       obtain ⟨rfl, rfl, rfl⟩ : n1 = m ∧ n2 = k + 1 ∧ n3 = 0 := by simpa using hw.out
       exact ⟨by simp, rfl⟩
      ·have hk0 : k < 1 := by omega
       clear hz
       go_wp2
       go_ret3
       obtain ⟨rfl, rfl, rfl⟩ : n1 = m ∧ n2 = k + 1 ∧ n3 = 0 := by simpa using hw.out
       exact ⟨by simp, rfl⟩
    ·have e := and128_hi d hhi hdl
     rcases Nat.lt_or_ge k 8 with hk9 | hk9
     ·have hw : Hid (decF (k + 1) m (l.drop (k + 1)) = (n1, n2, n3)) := by
       have hx := Hd.out
       have e2 := decF_more k acc x (l.drop (k + 1)) (by rw [← Hm.out]; omega) (by omega) (by omega)
       rw [Hd2.out, ← Hm.out] at e2
       exact e2.symm
      have hma : Hid (m < 128 ^ (k + 1)) := by rw [Hm.out]; exact acc_lt k acc _ hacc.out (by omega)
      clear Hm Hd2 Hd
      go_wp2
      go_round
      case rel => exact ⟨k + 1, m, by omega, by omega, by go_num, rfl, hma, hw⟩
      case measure => simp [intOf]; omega
     ·have hw : Hid ((n1, n2, n3) = (0, 0, 1)) := by
       have hx := Hd.out
       obtain rfl : k = 8 := by omega
       rw [← Hd2.out]; exact way_nine acc x _ (by omega)
      clear Hm Hd2 Hd
      go_wp2
      go_ret3
      obtain ⟨rfl, rfl, rfl⟩ : n1 = 0 ∧ n2 = 0 ∧ n3 = 1 := by simpa using hw.out
      exact ⟨rfl, rfl⟩
  ·have hw : Hid ((n1, n2, n3) = (0, 0, 2)) := by
    rw [← hd.out, List.drop_eq_nil_of_le (by rw [Hlen.out]; omega)]; rfl
   clear hd hc
   go_wp2
   go_ret3
   obtain ⟨rfl, rfl, rfl⟩ : n1 = 0 ∧ n2 = 0 ∧ n3 = 2 := by simpa using hw.out
   exact ⟨rfl, rfl⟩
set_option maxHeartbeats 400000 in
theorem number_none (A : Option Addr) (c : Nat) (w : World) :
 Calls Tryz.prog 130 #[.slice A 0 c] w fun e w' =>
  e = .returned (.tuple #[.int .i64 0, .int .i64 0, .int .i64 2]) ∧ w = w' := by
 go_enter Tryz.func130, Tryz.ntmps130
 go_wp2
 refine wp_loop_rounds 1 ?_
 rw [rounds_succ]
 go_wp2
 go_ret3
 exact ⟨rfl, rfl⟩
theorem number_any (A : Option Addr) (c B : Nat) (l : List UInt8) (w : World) (hl : l.length ≤ maxLen) (hb : Byt w B A l) (n1 n2 n3 : Nat) (hres : Hid (dec l = (n1, n2, n3))) :
 Calls Tryz.prog 130 #[.slice A l.length c] w fun e w' =>
  e = .returned (.tuple #[.int .i64 n1, .int .i64 n2, .int .i64 n3]) ∧ w = w' := by
 unfold maxLen at hl
 cases l with
 | nil =>
   obtain ⟨rfl, rfl, rfl⟩ : 0 = n1 ∧ 0 = n2 ∧ 2 = n3 := by
    have := hres.out
    simpa [dec, decF] using this
   exact number_none A c w
 | cons x r =>
   obtain ⟨b, o, rfl, _, hc⟩ := hb (by simp)
   exact number_some b o c (x :: r) w (by omega) hc n1 n2 n3 hres
end Go.Proofs.YtapiogcoipeinaaGreatDoor.Pk
namespace Go.Proofs.YtapiogcoipeinaaGreatDoor.Pk
open Go.RowKit
theorem u8_one : (Tryz.prog.info? 5).map (·.size) = some 1 := by kernel_rfl
theorem own_spliced {w : World} {g base len room : Nat} {l : List UInt8} {Z : List Value} (hg : w.heap[g]? = some (.cells (splice Z 0 (cels l)).toArray 5 (0, 0))) (hb : base ≤ g)
 (hl : l.length = len) (hz : Z.length = len + room) (hm : len + room ≤ maxLen) : Own w base (.slice (some ⟨g, 0, none⟩) len (len + room)) l := by
 subst hl
 refine ⟨by simp [cels_length], .inr ⟨g, l.length + room, _, rfl, hb, hg, by omega, hm, ?_, ?_⟩⟩
 ·rw [List.size_toArray, length_splice _ _ _ (by rw [cels_length]; omega), hz, Nat.mul_one]
 ·simp [splice, cels_length]
set_option maxHeartbeats 400000 in
theorem grown_any (A : Option Addr) (l : List UInt8) (c room : Nat) (w : World) (hb : Byt w w.heap.size A l) (hl : l.length + room ≤ 70368744177664) :
 Calls Tryz.prog 126 #[.slice A l.length c, .int .i64 room] w fun e w' =>
  ∃ v', e = .returned v' ∧ Own w' w.heap.size v' l ∧ Below w.heap.size w w' := by
 obtain ⟨i0, hi, hz0, hz1, hz2⟩ := info_parts u8_info
 generalize hlen : l.length = len at *
 have Hlen := hide hlen
 clear hlen
 have hmk := fun W => run_make (P := Tryz.prog) W 70 5 i0 (.int .u8 0) Tryz.underlying70 hi hz0 .i64 .i64 (len : Int) ((len : Int) + (room : Int)) (by omega) (by omega) (by rw [hz2]; omega) (by omega)
 go_enter Tryz.func126, Tryz.ntmps126
 go_wp2_with (with_reducible refine wpList_copy_splice rfl (.tmp 13) (.tmp 14) 70 70 rfl 5 Tryz.underlying70 u8_one (some ⟨w.heap.size, 0, none⟩) A len (len + room) len c rfl rfl w.heap.size 0 (madeCells #[.int .u8 0] (len + room)).toList 5 ?h1 (cels l) ?h2 ?h3 ?h4 (cels_one l) w.heap.size w ?h5 (Nat.le_refl _) ?h6)
 case h1 => rw [Array.toArray_toList]; exact heap_alloc_new w _
 case h2 => rw [cels_length, Hlen.out]; exact (Nat.min_self len).symm
 case h3 =>
  intro h0
  rw [cels_length] at h0
  obtain ⟨b, o, rfl, hbb, hc⟩ := hb (by rintro rfl; simp at h0)
  refine ⟨_, rfl, fun j u hu => ?_⟩
  obtain ⟨x, hx, rfl⟩ := cels_get l j u hu
  rw [Addr.add_lit, World.cell?_alloc_past _ _ _ hbb]
  exact hc j x hx
 case h4 => rw [cels_length, Hlen.out, Array.length_toList, size_madeCells]; omega
 case h5 => exact (Below.refl _ _).alloc (Nat.le_refl _) _
 case h6 =>
  intro w1 Hg hb1
  go_wp2
  go_ret
  exact ⟨_, rfl, own_spliced Hg.out (Nat.le_refl _) Hlen.out (by rw [Array.length_toList, size_madeCells]) (by unfold maxLen; omega), hb1⟩
theorem and127_64 (m : Nat) (h : m < 9223372036854775808) : bits .and .i64 (m : Int) 127 = ((m % 128 : Nat) : Int) := by
 have hx : m &&& 127 ≤ 127 := Nat.and_le_right
 have h64 : ∀ n : Nat, n < 9223372036854775808 → (BitVec.ofInt 64 (n : Int)).toNat = n := fun n hn => by
  rw [BitVec.ofInt_natCast, BitVec.toNat_ofNat]
  exact Nat.mod_eq_of_lt (by omega)
 show IntKind.i64.wrap ((BitVec.ofInt 64 (m : Int) &&& BitVec.ofInt 64 ((127 : Nat) : Int)).toNat : Int) = _
 rw [BitVec.toNat_and, h64 m h, h64 127 (by omega), IntKind.wrap_i64, nat_mask7]
 omega
theorem or128_64 (r : Nat) (h : r < 128) : bits .or .i64 (r : Int) 128 = (r : Int) + 128 := by
 have e := or64 r 128 (by omega) (by omega)
 have j := nat_join 7 128 r (by decide) (by omega)
 rw [Nat.or_comm, j] at e
 rw [show (128 : Int) = ((128 : Nat) : Int) from rfl, e]
 omega
theorem cel_more (m r : Nat) (h : r = m % 128) : [Value.int .u8 ((r : Int) + 128)] = cels [UInt8.ofNat (m % 128 + 128)] := by
 subst h
 simp only [cels, List.map_cons, List.map_nil, cel]
 rw [ofNat_toNat _ (by omega)]
 simp
theorem cel_last (m : Nat) (h : m < 128) : [Value.int .u8 (m : Int)] = cels [UInt8.ofNat m] := by
 simp only [cels, List.map_cons, List.map_nil, cel]
 rw [ofNat_toNat _ (by omega)]
theorem own_more {w : World} {base : Nat} {v : Value} {l : List UInt8} {x : UInt8} {n : Nat} (hn : l.length = n) (h : w.ownsRow base 5 1 v (n + 1) (cels l ++ cels [x])) : Own w base v (l ++ [x]) := by
 subst hn
 unfold Own
 rw [cels_append, List.length_append]
 exact h
theorem encF_lt (k m : Nat) (h : m < 128) : encF k m = [UInt8.ofNat m] := by
 cases k with
 | zero => rfl
 | succ k => unfold encF; rw [if_pos h]
theorem encF_ge (k m : Nat) (h : 128 ≤ m) : encF (k + 1) m = UInt8.ofNat (m % 128 + 128) :: encF k (m / 128) := by
 conv => lhs; unfold encF
 rw [if_neg (by omega)]
def Laid (l goal : List UInt8) (base : Nat) (w : World) (v x : Value) (wr : World) : Prop :=
 ∃ (k m : Nat) (done : List UInt8), x = .int .i64 (m : Int) ∧ m < lim k ∧ done.length + k = 8 ∧ done ++ encF k m = goal ∧ Own wr base v (l ++ done) ∧ Below base w wr
theorem grown_below {base : Nat} {w wr w1 : World} {u : Value} {l : List UInt8} {o : Obj} (hbel : Below base w wr) (hbase : base ≤ w.heap.size) (hown : Own wr base u l) (hg : (wr.alloc o).grownBy w1 u.ownBlock) : Below base w w1 := by
 have hs := hbel.size
 exact (hbel.alloc (by omega) o).grown hg (by simp; omega) (fun k hk => (World.ownsRow.lt hown k hk).1)
set_option maxRecDepth 100000 in
set_option maxHeartbeats 1000000 in
theorem put_any (base : Nat) (v : Value) (l : List UInt8) (n : Int) (w : World) (hv : Own w base v l) (hl : l.length ≤ 70368744177664) (hbase : base ≤ w.heap.size) :
 Calls Tryz.prog 125 #[v, .int .i64 n] w fun e w' =>
  ∃ v', e = .returned v' ∧ Own w' base v' (l ++ enc (clamp n)) ∧ Below base w w' := by
 obtain ⟨i0, hi, hz0, hz1, hz2⟩ := info_parts u8_info
 have hv0 : Own w base v (l ++ []) := by simpa using hv
 have Hgoal : Hid (enc (clamp n) = encF 8 (clamp n)) := rfl
 generalize hgoal : enc (clamp n) = goal at *
 clear hgoal
 rcases (by omega : n < 0 ∨ (0 ≤ n ∧ n ≤ 1152921504606846975) ∨ 1152921504606846975 < n) with h1 | ⟨h1, h2⟩ | h1
 ·have hn : clamp n = 0 := by unfold clamp; omega
  rw [hn] at Hgoal
  clear hn
  go_enter Tryz.func125, Tryz.ntmps125
  go_wp2
  go_loopw [0, 1] (Laid l goal base w) (fun _ x _ => (intOf x).toNat)
  case atStart => exact ⟨8, 0, [], rfl, by decide, rfl, Hgoal.out.symm, hv0, Below.refl _ _⟩
  case round =>
   obtain ⟨k, m, done, rfl, hm, hk, hg, hown, hbel⟩ := hrel
   have hll : l.length + done.length ≤ 70368744177700 := by omega
   have hsz := hbel.size
   have hm63 : m < 1152921504606846976 := by
    have h8 : lim k ≤ lim 8 := Nat.mul_le_mul_left _ (Nat.pow_le_pow_right (by omega) (by omega))
    rw [lim_eight] at h8; omega
   by_cases hmm : 127 < m
   ·obtain ⟨k, rfl⟩ : ∃ j, k = j + 1 := ⟨k - 1, by
     rcases Nat.eq_zero_or_pos k with h0 | h0
     ·subst h0; simp [lim] at hm; omega
     ·omega⟩
    obtain ⟨r, hr⟩ : ∃ r : Nat, r = m % 128 := ⟨_, rfl⟩
    have hr128 : r < 128 := by omega
    have e1 := and127_64 m (by omega)
    rw [← hr] at e1
    have e2 := or128_64 r hr128
    have hcel := cel_more m r hr
    rw [encF_ge k m (by omega)] at hg
    have hg' : (done ++ [UInt8.ofNat (m % 128 + 128)]) ++ encF k (m / 128) = goal := by rw [← hg]; simp
    have hm' : m / 128 < lim k := by rw [lim_succ] at hm; omega
    have Hcel := hide hcel
    have Hg := hide hg'
    have Hm := hide hm'
    have Hk := hide hk
    clear hm hk hg hr hcel hg' hm'
    go_wp2_with (at_builtin; refine wpList_append_own _ rfl (.tmp 10) (.tmp 15) 70 rfl base 5 i0 (.int .u8 0) 1 1 Tryz.underlying70 hi hz0 hz1 hz2 rfl (by decide) _ _ _ rfl (World.ownsRow.alloc hown _) ⟨wr.heap.size, 0, none⟩ 1 1 [.int .u8 ((r : Int) + 128)] rfl rfl (cell_one_new _ _ _) ?c2 ?c3 ?c4 ?c5 ?_)
    case c2 => intro u hu; simp at hu; subst hu; rfl
    case c3 => simp only [List.length_append]; unfold maxLen; omega
    case c4 => simp only [List.length_append]; omega
    case c5 => simp; omega
    intro v' w1 hown' hgrow _
    have R := grown_below hbel hbase hown hgrow
    rw [Hcel.out] at hown'
    have R2 := own_more (l := l ++ done) (List.length_append ..) hown'
    rw [List.append_assoc] at R2
    clear hown' hgrow hown hbel
    go_wp2
    go_roundw
    case rel => exact ⟨k, m / 128, done ++ [UInt8.ofNat (m % 128 + 128)], by go_num, Hm.out, by have := Hk.out; simp; omega, Hg.out, R2, R⟩
    case measure => simp [intOf]; omega
   ·have hcel := cel_last m (by omega)
    rw [encF_lt k m (by omega)] at hg
    have Hcel := hide hcel
    have Hg := hide hg
    clear hm hk hg hcel
    go_wp2_with (at_builtin; refine wpList_append_own _ rfl (.tmp 19) (.tmp 22) 70 rfl base 5 i0 (.int .u8 0) 1 1 Tryz.underlying70 hi hz0 hz1 hz2 rfl (by decide) _ _ _ rfl (World.ownsRow.alloc hown _) ⟨wr.heap.size, 0, none⟩ 1 1 [.int .u8 (m : Int)] rfl rfl (cell_one_new _ _ _) ?d2 ?d3 ?d4 ?d5 ?_)
    case d2 => intro u hu; simp at hu; subst hu; rfl
    case d3 => simp only [List.length_append]; unfold maxLen; omega
    case d4 => simp only [List.length_append]; omega
    case d5 => simp; omega
    intro v' w1 hown' hgrow _
    have R := grown_below hbel hbase hown hgrow
    rw [Hcel.out] at hown'
    have R2 := own_more (l := l ++ done) (List.length_append ..) hown'
    rw [List.append_assoc, Hg.out] at R2
    clear hown' hgrow hown hbel
    go_wp2
    go_ret
    exact ⟨_, rfl, R2, R⟩
 ·obtain ⟨N, hN⟩ : ∃ N : Nat, (N : Int) = n := ⟨n.toNat, by omega⟩
  have hn : clamp n = N := by unfold clamp; omega
  rw [hn] at Hgoal
  subst hN
  clear hn
  go_enter Tryz.func125, Tryz.ntmps125
  go_wp2
  go_loopw [0, 1] (Laid l goal base w) (fun _ x _ => (intOf x).toNat)
  case atStart => exact ⟨8, N, [], rfl, by rw [lim_eight]; omega, rfl, Hgoal.out.symm, hv0, Below.refl _ _⟩
  case round =>
   obtain ⟨k, m, done, rfl, hm, hk, hg, hown, hbel⟩ := hrel
   have hll : l.length + done.length ≤ 70368744177700 := by omega
   have hsz := hbel.size
   have hm63 : m < 1152921504606846976 := by
    have h8 : lim k ≤ lim 8 := Nat.mul_le_mul_left _ (Nat.pow_le_pow_right (by omega) (by omega))
    rw [lim_eight] at h8; omega
   by_cases hmm : 127 < m
   ·obtain ⟨k, rfl⟩ : ∃ j, k = j + 1 := ⟨k - 1, by
     rcases Nat.eq_zero_or_pos k with h0 | h0
     ·subst h0; simp [lim] at hm; omega
     ·omega⟩
    obtain ⟨r, hr⟩ : ∃ r : Nat, r = m % 128 := ⟨_, rfl⟩
    have hr128 : r < 128 := by omega
    have e1 := and127_64 m (by omega)
    rw [← hr] at e1
    have e2 := or128_64 r hr128
    have hcel := cel_more m r hr
    rw [encF_ge k m (by omega)] at hg
    have hg' : (done ++ [UInt8.ofNat (m % 128 + 128)]) ++ encF k (m / 128) = goal := by rw [← hg]; simp
    have hm' : m / 128 < lim k := by rw [lim_succ] at hm; omega
    have Hcel := hide hcel
    have Hg := hide hg'
    have Hm := hide hm'
    have Hk := hide hk
    clear hm hk hg hr hcel hg' hm'
    go_wp2_with (at_builtin; refine wpList_append_own _ rfl (.tmp 10) (.tmp 15) 70 rfl base 5 i0 (.int .u8 0) 1 1 Tryz.underlying70 hi hz0 hz1 hz2 rfl (by decide) _ _ _ rfl (World.ownsRow.alloc hown _) ⟨wr.heap.size, 0, none⟩ 1 1 [.int .u8 ((r : Int) + 128)] rfl rfl (cell_one_new _ _ _) ?c2 ?c3 ?c4 ?c5 ?_)
    case c2 => intro u hu; simp at hu; subst hu; rfl
    case c3 => simp only [List.length_append]; unfold maxLen; omega
    case c4 => simp only [List.length_append]; omega
    case c5 => simp; omega
    intro v' w1 hown' hgrow _
    have R := grown_below hbel hbase hown hgrow
    rw [Hcel.out] at hown'
    have R2 := own_more (l := l ++ done) (List.length_append ..) hown'
    rw [List.append_assoc] at R2
    clear hown' hgrow hown hbel
    go_wp2
    go_roundw
    case rel => exact ⟨k, m / 128, done ++ [UInt8.ofNat (m % 128 + 128)], by go_num, Hm.out, by have := Hk.out; simp; omega, Hg.out, R2, R⟩
    case measure => simp [intOf]; omega
   ·have hcel := cel_last m (by omega)
    rw [encF_lt k m (by omega)] at hg
    have Hcel := hide hcel
    have Hg := hide hg
    clear hm hk hg hcel
    go_wp2_with (at_builtin; refine wpList_append_own _ rfl (.tmp 19) (.tmp 22) 70 rfl base 5 i0 (.int .u8 0) 1 1 Tryz.underlying70 hi hz0 hz1 hz2 rfl (by decide) _ _ _ rfl (World.ownsRow.alloc hown _) ⟨wr.heap.size, 0, none⟩ 1 1 [.int .u8 (m : Int)] rfl rfl (cell_one_new _ _ _) ?d2 ?d3 ?d4 ?d5 ?_)
    case d2 => intro u hu; simp at hu; subst hu; rfl
    case d3 => simp only [List.length_append]; unfold maxLen; omega
    case d4 => simp only [List.length_append]; omega
    case d5 => simp; omega
    intro v' w1 hown' hgrow _
    have R := grown_below hbel hbase hown hgrow
    rw [Hcel.out] at hown'
    have R2 := own_more (l := l ++ done) (List.length_append ..) hown'
    rw [List.append_assoc, Hg.out] at R2
    clear hown' hgrow hown hbel
    go_wp2
    go_ret
    exact ⟨_, rfl, R2, R⟩
 ·have hn : clamp n = 1152921504606846975 := by unfold clamp; omega
  rw [hn] at Hgoal
  clear hn
  go_enter Tryz.func125, Tryz.ntmps125
  go_wp2
  go_loopw [0, 1] (Laid l goal base w) (fun _ x _ => (intOf x).toNat)
  case atStart => exact ⟨8, 1152921504606846975, [], rfl, by rw [lim_eight]; omega, rfl, Hgoal.out.symm, hv0, Below.refl _ _⟩
  case round =>
   obtain ⟨k, m, done, rfl, hm, hk, hg, hown, hbel⟩ := hrel
   have hll : l.length + done.length ≤ 70368744177700 := by omega
   have hsz := hbel.size
   have hm63 : m < 1152921504606846976 := by
    have h8 : lim k ≤ lim 8 := Nat.mul_le_mul_left _ (Nat.pow_le_pow_right (by omega) (by omega))
    rw [lim_eight] at h8; omega
   by_cases hmm : 127 < m
   ·obtain ⟨k, rfl⟩ : ∃ j, k = j + 1 := ⟨k - 1, by
     rcases Nat.eq_zero_or_pos k with h0 | h0
     ·subst h0; simp [lim] at hm; omega
     ·omega⟩
    obtain ⟨r, hr⟩ : ∃ r : Nat, r = m % 128 := ⟨_, rfl⟩
    have hr128 : r < 128 := by omega
    have e1 := and127_64 m (by omega)
    rw [← hr] at e1
    have e2 := or128_64 r hr128
    have hcel := cel_more m r hr
    rw [encF_ge k m (by omega)] at hg
    have hg' : (done ++ [UInt8.ofNat (m % 128 + 128)]) ++ encF k (m / 128) = goal := by rw [← hg]; simp
    have hm' : m / 128 < lim k := by rw [lim_succ] at hm; omega
    have Hcel := hide hcel
    have Hg := hide hg'
    have Hm := hide hm'
    have Hk := hide hk
    clear hm hk hg hr hcel hg' hm'
    go_wp2_with (at_builtin; refine wpList_append_own _ rfl (.tmp 10) (.tmp 15) 70 rfl base 5 i0 (.int .u8 0) 1 1 Tryz.underlying70 hi hz0 hz1 hz2 rfl (by decide) _ _ _ rfl (World.ownsRow.alloc hown _) ⟨wr.heap.size, 0, none⟩ 1 1 [.int .u8 ((r : Int) + 128)] rfl rfl (cell_one_new _ _ _) ?c2 ?c3 ?c4 ?c5 ?_)
    case c2 => intro u hu; simp at hu; subst hu; rfl
    case c3 => simp only [List.length_append]; unfold maxLen; omega
    case c4 => simp only [List.length_append]; omega
    case c5 => simp; omega
    intro v' w1 hown' hgrow _
    have R := grown_below hbel hbase hown hgrow
    rw [Hcel.out] at hown'
    have R2 := own_more (l := l ++ done) (List.length_append ..) hown'
    rw [List.append_assoc] at R2
    clear hown' hgrow hown hbel
    go_wp2
    go_roundw
    case rel => exact ⟨k, m / 128, done ++ [UInt8.ofNat (m % 128 + 128)], by go_num, Hm.out, by have := Hk.out; simp; omega, Hg.out, R2, R⟩
    case measure => simp [intOf]; omega
   ·have hcel := cel_last m (by omega)
    rw [encF_lt k m (by omega)] at hg
    have Hcel := hide hcel
    have Hg := hide hg
    clear hm hk hg hcel
    go_wp2_with (at_builtin; refine wpList_append_own _ rfl (.tmp 19) (.tmp 22) 70 rfl base 5 i0 (.int .u8 0) 1 1 Tryz.underlying70 hi hz0 hz1 hz2 rfl (by decide) _ _ _ rfl (World.ownsRow.alloc hown _) ⟨wr.heap.size, 0, none⟩ 1 1 [.int .u8 (m : Int)] rfl rfl (cell_one_new _ _ _) ?d2 ?d3 ?d4 ?d5 ?_)
    case d2 => intro u hu; simp at hu; subst hu; rfl
    case d3 => simp only [List.length_append]; unfold maxLen; omega
    case d4 => simp only [List.length_append]; omega
    case d5 => simp; omega
    intro v' w1 hown' hgrow _
    have R := grown_below hbel hbase hown hgrow
    rw [Hcel.out] at hown'
    have R2 := own_more (l := l ++ done) (List.length_append ..) hown'
    rw [List.append_assoc, Hg.out] at R2
    clear hown' hgrow hown hbel
    go_wp2
    go_ret
    exact ⟨_, rfl, R2, R⟩
end Go.Proofs.YtapiogcoipeinaaGreatDoor.Pk
namespace Go.Proofs.YtapiogcoipeinaaGreatDoor.Pk
open Go.RowKit
theorem grown_int (A : Option Addr) (l : List UInt8) (c : Nat) (room : Int) (w : World) (hb : Byt w w.heap.size A l) (h0 : 0 ≤ room) (hl : l.length + room ≤ 70368744177664) :
 Calls Tryz.prog 126 #[.slice A l.length c, .int .i64 room] w fun e w' =>
  ∃ v', e = .returned v' ∧ Own w' w.heap.size v' l ∧ Below w.heap.size w w' := by
 obtain ⟨r, rfl⟩ := Int.eq_ofNat_of_zero_le h0
 exact grown_any A l c r w hb (by omega)
set_option maxHeartbeats 400000 in
theorem Number_any (A : Option Addr) (l : List UInt8) (c : Nat) (n : Int) (w : World) (hb : Byt w w.heap.size A l) (hl : l.length ≤ 35184372088832) :
 Calls Tryz.prog 105 #[.slice A l.length c, .int .i64 n] w fun e w' =>
  ∃ v', e = .returned v' ∧ Own w' w.heap.size v' (l ++ enc (clamp n)) ∧ Below w.heap.size w w' := by
 go_enter Tryz.func105, Tryz.ntmps105
 go_wp2_with fail
 refine (grown_int A l c 9 w hb (by omega) (by omega)).mono ?_
 rintro e w1 ⟨v1, rfl, ho1, hb1⟩
 go_wp2_with fail
 refine (put_any w.heap.size v1 l n w1 ho1 (by omega) hb1.size).mono ?_
 rintro e w2 ⟨v2, rfl, ho2, hb2⟩
 go_wp2
 go_ret
 exact ⟨_, rfl, ho2, hb1.trans hb2⟩
theorem clamp_size (n : Nat) (h : n ≤ 1152921504606846975) : clamp (n : Int) = n := by unfold clamp; omega
theorem own_text {w : World} {base : Nat} {v : Value} {l : List UInt8} {s : ByteArray} {n : Nat} (hn : l.length = n) (h : w.ownsRow base 5 1 v (n + s.size) (cels l ++ Lib.strCells s)) : Own w base v (l ++ s.data.toList) := by
 subst hn
 unfold Own
 rw [cels_append, List.length_append, Array.length_toList]
 exact h
set_option maxHeartbeats 400000 in
theorem Text_any (A : Option Addr) (l : List UInt8) (c : Nat) (s : ByteArray) (w : World) (hb : Byt w w.heap.size A l) (hl : l.length + s.size ≤ 35184372088832) :
 Calls Tryz.prog 106 #[.slice A l.length c, .string s] w fun e w' =>
  ∃ v', e = .returned v' ∧ Own w' w.heap.size v' (l ++ enc s.size ++ s.data.toList) ∧ Below w.heap.size w w' := by
 obtain ⟨i0, hi, hz0, hz1, hz2⟩ := info_parts u8_info
 have hlen9 := enc_le s.size
 go_enter Tryz.func106, Tryz.ntmps106
 go_wp2_with fail
 refine (grown_int A l c _ w hb (by omega) (by omega)).mono ?_
 rintro e w1 ⟨v1, rfl, ho1, hb1⟩
 go_wp2_with fail
 refine (put_any w.heap.size v1 l s.size w1 ho1 (by omega) hb1.size).mono ?_
 rintro e w2 ⟨v2, rfl, ho2, hb2⟩
 rw [clamp_size _ (by omega)] at ho2
 have hb3 := hb1.trans hb2
 go_wp2_with (at_builtin; refine Lib.wpList_append_own_string _ rfl (.tmp 14) (.tmp 15) 70 9 rfl w.heap.size 5 i0 Tryz.underlying70 Tryz.underlying9 hi hz0 hz1 hz2 _ _ _ rfl ho2 s rfl ?c1 ?c2 ?c3 ?_)
 case c1 => simp only [List.length_append]; unfold maxLen; omega
 case c2 => simp only [List.length_append]; omega
 case c3 => exact hb3.size
 intro v3 w3 ho3 hg3 _
 have R := own_text (l := l ++ enc s.size) (List.length_append ..) ho3
 have R2 : Below w.heap.size w w3 := hb3.grown hg3 hb3.size (fun k hk => (World.ownsRow.lt ho2 k hk).1)
 clear ho3 hg3
 go_wp2
 go_ret
 exact ⟨_, rfl, R, R2⟩
end Go.Proofs.YtapiogcoipeinaaGreatDoor.Pk
namespace Go.Proofs.YtapiogcoipeinaaGreatDoor.Pk
open Go.RowKit
def Rd (w : World) (g : Nat) (l : List UInt8) (e : Nat) : Prop :=
 ∃ A c, w.heap[g]? = some (.cells #[.slice A l.length c, .int .i64 (e : Int)] 201 (0, 0)) ∧ l.length ≤ c ∧ c ≤ maxLen ∧ Byt w g A l
theorem blk_cell0 {w : World} {g t : Nat} {u v : Value} (h : w.heap[g]? = some (.cells #[u, v] t (0, 0))) : w.cell? ⟨g, 0, none⟩ = some u := by
 rw [cell_of_row w g 0 _ t (0, 0) h]; rfl
theorem blk_cell1 {w : World} {g t : Nat} {u v : Value} (h : w.heap[g]? = some (.cells #[u, v] t (0, 0))) : w.cell? ⟨g, 1, none⟩ = some v := by
 rw [cell_of_row w g 1 _ t (0, 0) h]; rfl
theorem blk_free {w : World} {g t : Nat} {cs : Array Value} (h : w.heap[g]? = some (.cells cs t (0, 0))) (i : Nat) : w.frozen? ⟨g, i, none⟩ = false := frozen_of_row w g i cs t h
theorem Rd.below {w w' : World} {g B : Nat} {l : List UInt8} {e : Nat} (h : Rd w g l e) (hb : Below B w w') (hg : g < B) : Rd w' g l e := by
 obtain ⟨A, c, h1, h2, h3, h4⟩ := h
 exact ⟨A, c, (hb.block g hg).trans h1, h2, h3, h4.below (hb.mono (by omega))⟩
theorem Rd.lt {w : World} {g : Nat} {l : List UInt8} {e : Nat} (h : Rd w g l e) : g < w.heap.size := by
 obtain ⟨A, c, h1, _⟩ := h
 exact (Array.getElem?_eq_some_iff.1 h1).1
theorem below_of_only {w w' : World} {g B : Nat} (h : w.grownBy w' (some g)) (hB : B ≤ g) (hg : g < w.heap.size) : Below B w w' :=
 (Below.refl _ _).grown h (by omega) (fun k hk => by injection hk with hk; omega)
set_option maxHeartbeats 400000 in
theorem Read_any (A : Option Addr) (l : List UInt8) (c : Nat) (w : World) (hb : Byt w w.heap.size A l) (hl : l.length ≤ c) (hc : c ≤ maxLen) :
 Calls Tryz.prog 113 #[.slice A l.length c] w fun e w' =>
  e = .returned (.pointer (some ⟨w.heap.size, 0, none⟩)) ∧ Rd w' w.heap.size l 0 ∧ Below w.heap.size w w' := by
 go_enter Tryz.func113, Tryz.ntmps113
 go_wp2
 go_ret
 refine ⟨rfl, ⟨A, c, heap_alloc_new w _, hl, hc, hb.below ((Below.refl _ _).alloc (Nat.le_refl _) _)⟩, (Below.refl _ _).alloc (Nat.le_refl _) _⟩
set_option maxHeartbeats 400000 in
theorem Err_any (g e : Nat) (l : List UInt8) (w : World) (h : Rd w g l e) :
 Calls Tryz.prog 129 #[.pointer (some ⟨g, 0, none⟩)] w fun r w' => r = .returned (.int .i64 (e : Int)) ∧ w = w' := by
 obtain ⟨A, c, h1, h2, h3, h4⟩ := h
 have hc1 := blk_cell1 h1
 clear h1 h4
 go_enter Tryz.func129, Tryz.ntmps129
 go_wp2
 go_ret
 exact ⟨rfl, rfl⟩
set_option maxHeartbeats 400000 in
theorem fail_any (g e e' : Nat) (l : List UInt8) (w : World) (h : Rd w g l e) :
 Calls Tryz.prog 131 #[.pointer (some ⟨g, 0, none⟩), .int .i64 (e' : Int)] w fun r w' => r = .returned (.tuple #[]) ∧ Rd w' g [] e' ∧ w.grownBy w' (some g) := by
 obtain ⟨A, c, h1, h2, h3, h4⟩ := h
 have hc0 := blk_cell0 h1
 have hc1 := blk_cell1 h1
 have hf0 := blk_free h1 0
 have hf1 := blk_free h1 1
 have R1 := heap_setCell_same w g 0 _ _ (.slice none 0 0) h1
 have R2 := heap_setCell_same (w.setCell ⟨g, 0, none⟩ (.slice none 0 0)) g 1 _ _ (.int .i64 (e' : Int)) R1
 have R3 : w.grownBy ((w.setCell ⟨g, 0, none⟩ (.slice none 0 0)).setCell ⟨g, 1, none⟩ (.int .i64 (e' : Int))) (some g) :=
  ⟨rfl, rfl, rfl, by simp, fun k _ hk => by
    have hne : k ≠ g := fun e => hk (by rw [e])
    rw [heap_setCell_other _ ⟨g, 1, none⟩ k _ hne, heap_setCell_other _ ⟨g, 0, none⟩ k _ hne]⟩
 have H2 := hide R2
 have H3 := hide R3
 clear h1 h4 R1 R2 R3
 go_enter Tryz.func131, Tryz.ntmps131
 go_wp2
 go_end0
 exact ⟨rfl, ⟨none, 0, H2.out, Nat.le_refl _, by unfold maxLen; omega, Byt.nil⟩, H3.out⟩
end Go.Proofs.YtapiogcoipeinaaGreatDoor.Pk
namespace Go.Proofs.YtapiogcoipeinaaGreatDoor.Pk
open Go.RowKit
def rnum (l : List UInt8) (e : Nat) : Nat × List UInt8 × Nat :=
 if e ≠ 0 then (0, l, e) else if (dec l).2.2 = 0 then ((dec l).1, l.drop (dec l).2.1, 0) else (0, [], (dec l).2.2)
def rtext (l : List UInt8) (e : Nat) (most : Int) : List UInt8 × List UInt8 × Nat :=
 if (rnum l e).2.2 ≠ 0 then ([], (rnum l e).2)
 else if most < ((rnum l e).1 : Int) then ([], [], 1)
 else if (rnum l e).2.1.length < (rnum l e).1 then ([], [], 2)
 else ((rnum l e).2.1.take (rnum l e).1, (rnum l e).2.1.drop (rnum l e).1, 0)
theorem rnum_err (l : List UInt8) (e : Nat) (h : e ≠ 0) : rnum l e = (0, l, e) := by unfold rnum; rw [if_pos h]
theorem rnum_ok (l : List UInt8) (n s : Nat) (h : dec l = (n, s, 0)) : rnum l 0 = (n, l.drop s, 0) := by
 unfold rnum; rw [if_neg (by omega), h, if_pos rfl]
theorem rnum_bad (l : List UInt8) (n s e : Nat) (h : dec l = (n, s, e)) (he : e ≠ 0) : rnum l 0 = (0, [], e) := by
 unfold rnum; rw [if_neg (by omega), h, if_neg he]
theorem rd_cut {w : World} {g b o c k : Nat} {l : List UInt8} (h1 : w.heap[g]? = some (.cells #[.slice (some ⟨b, o, none⟩) l.length c, .int .i64 0] 201 (0, 0))) (h2 : l.length ≤ c) (h3 : c ≤ maxLen)
 (h4 : Byt w g (some ⟨b, o, none⟩) l) (hk : k ≤ l.length) (A : Option Addr) (hA : A = if c = k then some ⟨b, o, none⟩ else some ⟨b, o + k, none⟩) :
 Rd (w.setCell ⟨g, 0, none⟩ (.slice A (l.length - k) (c - k))) g (l.drop k) 0 ∧ w.grownBy (w.setCell ⟨g, 0, none⟩ (.slice A (l.length - k) (c - k))) (some g) := by
 have R1 := heap_setCell_same w g 0 _ _ (.slice A (l.length - k) (c - k)) h1
 have hg := (Array.getElem?_eq_some_iff.1 h1).1
 have R3 : w.grownBy (w.setCell ⟨g, 0, none⟩ (.slice A (l.length - k) (c - k))) (some g) :=
  ⟨rfl, rfl, rfl, by simp, fun j _ hj => heap_setCell_other _ ⟨g, 0, none⟩ j _ (fun e => hj (by rw [e]))⟩
 refine ⟨⟨A, c - k, ?_, by rw [List.length_drop]; omega, by omega, ?_⟩, R3⟩
 ·rw [List.length_drop]; exact R1
 ·subst hA
  exact (h4.drop hk h2).below (below_of_only R3 (Nat.le_refl _) hg)
set_option maxHeartbeats 1000000 in
theorem Number_ok (g n s : Nat) (l : List UInt8) (w : World) (h : Rd w g l 0) (hd : dec l = (n, s, 0)) :
 Calls Tryz.prog 114 #[.pointer (some ⟨g, 0, none⟩)] w fun r w' =>
  r = .returned (.int .i64 (n : Int)) ∧ Rd w' g (l.drop s) 0 ∧ w.grownBy w' (some g) := by
 have h0 := h
 obtain ⟨A, c, h1, h2, h3, h4⟩ := h
 have hc0 := blk_cell0 h1
 have hf0 := blk_free h1 0
 have hs : s ≤ l.length := (dec_ok l n s hd).2.2.1
 have Hd := hide hd
 have hne : l ≠ [] := by rintro rfl; simp [dec, decF] at hd
 obtain ⟨b, o, rfl, _, _⟩ := h4 hne
 have hc2 : c ≤ 9223372036854775807 := h3
 have hl2 : l.length ≤ maxLen := Nat.le_trans h2 h3
 by_cases hcs : c = s
 ·have R := rd_cut h1 h2 h3 h4 hs (some ⟨b, o, none⟩) (by rw [if_pos hcs])
  rw [show l.length - s = 0 by omega, show c - s = 0 by omega] at R
  have H1 := hide R
  clear hd hne h1 R
  subst hcs
  go_enter Tryz.func114, Tryz.ntmps114
  go_wp2_with fail
  refine (Err_any g 0 l w h0).mono ?_
  rintro r w' ⟨rfl, rfl⟩
  go_wp2_with fail
  refine (number_any _ c g l w hl2 h4 n c 0 Hd).mono ?_
  rintro r w' ⟨rfl, rfl⟩
  go_wp2
  go_ret
  exact ⟨rfl, H1.out⟩
 ·have R := rd_cut h1 h2 h3 h4 hs (some ⟨b, o + s, none⟩) (by rw [if_neg hcs])
  have H1 := hide R
  clear hd hne h1 R
  go_enter Tryz.func114, Tryz.ntmps114
  go_wp2_with fail
  refine (Err_any g 0 l w h0).mono ?_
  rintro r w' ⟨rfl, rfl⟩
  go_wp2_with fail
  refine (number_any _ c g l w hl2 h4 n s 0 Hd).mono ?_
  rintro r w' ⟨rfl, rfl⟩
  go_wp2
  go_ret
  exact ⟨rfl, H1.out⟩
set_option maxHeartbeats 1000000 in
theorem Number_bad (g e : Nat) (l : List UInt8) (w : World) (h : Rd w g l 0) (hd : dec l = (0, 0, e)) (he : 0 < e) :
 Calls Tryz.prog 114 #[.pointer (some ⟨g, 0, none⟩)] w fun r w' =>
  r = .returned (.int .i64 0) ∧ Rd w' g [] e ∧ w.grownBy w' (some g) := by
 have h0 := h
 obtain ⟨A, c, h1, h2, h3, h4⟩ := h
 have hc0 := blk_cell0 h1
 have Hd := hide hd
 have hl2 : l.length ≤ maxLen := Nat.le_trans h2 h3
 clear hd h1
 go_enter Tryz.func114, Tryz.ntmps114
 go_wp2_with fail
 refine (Err_any g 0 l w h0).mono ?_
 rintro r w' ⟨rfl, rfl⟩
 go_wp2_with fail
 refine (number_any _ c g l w hl2 h4 0 0 e Hd).mono ?_
 rintro r w' ⟨rfl, rfl⟩
 go_wp2_with fail
 refine (fail_any g 0 e l w h0).mono ?_
 rintro r w' ⟨rfl, hr, hg⟩
 go_wp2
 go_ret
 exact ⟨rfl, hr, hg⟩
set_option maxHeartbeats 1000000 in
theorem Number_err (g e : Nat) (l : List UInt8) (w : World) (h : Rd w g l e) (he : 0 < e) :
 Calls Tryz.prog 114 #[.pointer (some ⟨g, 0, none⟩)] w fun r w' => r = .returned (.int .i64 0) ∧ w = w' := by
 go_enter Tryz.func114, Tryz.ntmps114
 go_wp2_with fail
 refine (Err_any g e l w h).mono ?_
 rintro r w' ⟨rfl, rfl⟩
 go_wp2
 go_ret
 exact ⟨rfl, rfl⟩
theorem only_refl (w : World) (g : Nat) : w.grownBy w (some g) := World.grownBy.refl w _
theorem Number_rd (g e : Nat) (l : List UInt8) (w : World) (h : Rd w g l e) :
 Calls Tryz.prog 114 #[.pointer (some ⟨g, 0, none⟩)] w fun r w' =>
  r = .returned (.int .i64 ((rnum l e).1 : Int)) ∧ Rd w' g (rnum l e).2.1 (rnum l e).2.2 ∧ w.grownBy w' (some g) := by
 by_cases he : e = 0
 ·subst he
  rcases dec_cases l with ⟨n, s, hd, _, _⟩ | hd | hd
  ·rw [rnum_ok l n s hd]
   exact Number_ok g n s l w h hd
  ·rw [rnum_bad l 0 0 1 hd (by omega)]
   exact Number_bad g 1 l w h hd (by omega)
  ·rw [rnum_bad l 0 0 2 hd (by omega)]
   exact Number_bad g 2 l w h hd (by omega)
 ·rw [rnum_err l e he]
  refine (Number_err g e l w h (by omega)).mono ?_
  rintro r w' ⟨rfl, rfl⟩
  exact ⟨rfl, h, only_refl w g⟩
end Go.Proofs.YtapiogcoipeinaaGreatDoor.Pk
namespace Go.Proofs.YtapiogcoipeinaaGreatDoor.Pk
open Go.RowKit
theorem nums_back (l : List UInt8) : strOfNums (l.map fun b => (b.toNat : Int)) = ⟨l.toArray⟩ := by
 unfold strOfNums
 congr 2
 rw [List.map_map]
 conv => rhs; rw [← List.map_id l]
 apply List.map_congr_left
 intro b _
 simp
theorem run_str (w : World) (B : Nat) (A : Option Addr) (l : List UInt8) (c : Nat) (hb : Byt w B A l) :
 (convert 70 9 (.slice A l.length c)).run Tryz.prog w = .ok (.string ⟨l.toArray⟩) w := by
 cases l with
 | nil =>
   cases A with
   | none => exact run_convert_bytes_nil w 70 5 Tryz.underlying70 Tryz.underlying5 0 c 9 Tryz.underlying9
   | some ad =>
     have h0 : (loadCells ad 0).run Tryz.prog w = .ok (([] : List Int).map (Value.int .u8)).toArray w := run_loadCells_list w ad [] (fun j v hj => by simp at hj)
     rw [List.length_nil, run_convert_bytes_string w _ _ 5 _ 0 c Tryz.underlying70 Tryz.underlying5 Tryz.underlying9, run_bytesToString w ad 0 c [] h0]
     rfl
 | cons x r =>
   obtain ⟨b, o, rfl, _, hc⟩ := hb (by simp)
   rw [← nums_back]
   refine run_convert_bytes_arg w 70 5 Tryz.underlying70 Tryz.underlying5 b o _ c _ (by simp) (fun i hi => ?_) 9 Tryz.underlying9
   rw [hc i _ (List.getElem?_eq_getElem hi)]
   rw [List.getD_eq_getElem?_getD, List.getElem?_map, List.getElem?_eq_getElem hi]
   rfl
theorem rd_set {w : World} {g c c' n' : Nat} {A A' : Option Addr} {l l' : List UInt8} (h1 : w.heap[g]? = some (.cells #[.slice A l.length c, .int .i64 0] 201 (0, 0)))
 (hn : l'.length = n') (hl : n' ≤ c') (hc : c' ≤ maxLen) (hA : Byt w g A' l') :
 Rd (w.setCell ⟨g, 0, none⟩ (.slice A' n' c')) g l' 0 ∧ w.grownBy (w.setCell ⟨g, 0, none⟩ (.slice A' n' c')) (some g) := by
 subst hn
 have R1 := heap_setCell_same w g 0 _ _ (.slice A' l'.length c') h1
 have hg := (Array.getElem?_eq_some_iff.1 h1).1
 have R3 : w.grownBy (w.setCell ⟨g, 0, none⟩ (.slice A' l'.length c')) (some g) :=
  ⟨rfl, rfl, rfl, by simp, fun j _ hj => heap_setCell_other _ ⟨g, 0, none⟩ j _ (fun e => hj (by rw [e]))⟩
 exact ⟨⟨A', c', R1, hl, hc, hA.below (below_of_only R3 (Nat.le_refl _) hg)⟩, R3⟩
theorem only_trans {a b c : World} {g : Nat} (h : a.grownBy b (some g)) (k : b.grownBy c (some g)) : a.grownBy c (some g) := World.grownBy.trans h k
set_option maxRecDepth 100000 in
set_option maxHeartbeats 1000000 in
theorem Text_fit (g n : Nat) (most : Int) (l l1 : List UInt8) (e : Nat) (w : World) (h : Rd w g l e) (hr : rnum l e = (n, l1, 0)) (hm : (n : Int) ≤ most) (hn : n ≤ l1.length)
 (S : ByteArray) (D : List UInt8) (HS : Hid ((⟨(l1.take n).toArray⟩ : ByteArray) = S)) (HD : Hid (l1.drop n = D)) :
 Calls Tryz.prog 115 #[.pointer (some ⟨g, 0, none⟩), .int .i64 most] w fun r w' =>
  r = .returned (.string S) ∧ Rd w' g D 0 ∧ w.grownBy w' (some g) := by
 have hN := Number_rd g e l w h
 rw [hr] at hN
 have HN := hide hN
 clear hr hN
 go_enter Tryz.func115, Tryz.ntmps115
 go_wp2_with fail
 refine HN.out.mono ?_
 rintro r w1 ⟨rfl, hr1, hg1⟩
 clear HN h
 go_wp2_with fail
 refine (Err_any g 0 l1 w1 hr1).mono ?_
 rintro r w' ⟨rfl, rfl⟩
 have hr2 := hr1
 obtain ⟨A, c, h1, h2, h3, h4⟩ := hr2
 have hc2 : c ≤ 9223372036854775807 := h3
 have hc0 := blk_cell0 h1
 have hf0 := blk_free h1 0
 have hstr := run_str w1 g A (l1.take n) c (h4.take n)
 rw [List.length_take, Nat.min_eq_left hn, HS.out] at hstr
 have hDl : D.length = l1.length - n := by rw [← HD.out, List.length_drop]
 have HDl := hide hDl
 have H1 := hide h1
 clear hDl h1
 by_cases hne : l1 = []
 ·subst hne
  have hn0 : n = 0 := by simpa using hn
  subst hn0
  have hD0 : D = [] := by rw [← HD.out]; rfl
  subst hD0
  go_wp2
  go_ret
  exact ⟨rfl, (rd_set (l' := []) H1.out rfl (by omega) (by unfold maxLen; omega) Byt.nil).1, only_trans hg1 (rd_set (l' := []) H1.out rfl (by omega) (by unfold maxLen; omega) Byt.nil).2⟩
 ·obtain ⟨b, o, rfl, _, _⟩ := h4 hne
  by_cases hcn : c = n
  ·have R := rd_set (l' := D) H1.out HDl.out (show l1.length - n ≤ c - n by omega) (by unfold maxLen; omega) (A' := some ⟨b, o, none⟩) (by have := h4.drop hn h2; rw [if_pos hcn, HD.out] at this; exact this)
   rw [show l1.length - n = 0 by omega, show c - n = 0 by omega] at R
   have HR := hide (And.intro R.1 (only_trans hg1 R.2))
   subst hcn
   clear R
   go_wp2
   go_ret
   exact ⟨rfl, HR.out⟩
  ·have R := rd_set (l' := D) H1.out HDl.out (show l1.length - n ≤ c - n by omega) (by unfold maxLen; omega) (A' := some ⟨b, o + n, none⟩) (by have := h4.drop hn h2; rw [if_neg hcn, HD.out] at this; exact this)
   have HR := hide (And.intro R.1 (only_trans hg1 R.2))
   clear R
   go_wp2
   go_ret
   exact ⟨rfl, HR.out⟩
set_option maxHeartbeats 1000000 in
theorem Text_wrong (g n e1 : Nat) (most : Int) (l l1 : List UInt8) (e : Nat) (w : World) (h : Rd w g l e) (hr : rnum l e = (n, l1, e1)) (he : 0 < e1) :
 Calls Tryz.prog 115 #[.pointer (some ⟨g, 0, none⟩), .int .i64 most] w fun r w' =>
  r = .returned (.string ⟨#[]⟩) ∧ Rd w' g l1 e1 ∧ w.grownBy w' (some g) := by
 have hN := Number_rd g e l w h
 rw [hr] at hN
 have HN := hide hN
 clear hr hN
 go_enter Tryz.func115, Tryz.ntmps115
 go_wp2_with fail
 refine HN.out.mono ?_
 rintro r w1 ⟨rfl, hr1, hg1⟩
 clear HN h
 go_wp2_with fail
 refine (Err_any g e1 l1 w1 hr1).mono ?_
 rintro r w' ⟨rfl, rfl⟩
 go_wp2
 go_ret
 exact ⟨rfl, hr1, hg1⟩
set_option maxHeartbeats 1000000 in
theorem Text_long (g n : Nat) (most : Int) (l l1 : List UInt8) (e : Nat) (w : World) (h : Rd w g l e) (hr : rnum l e = (n, l1, 0)) (hm : most < (n : Int)) :
 Calls Tryz.prog 115 #[.pointer (some ⟨g, 0, none⟩), .int .i64 most] w fun r w' =>
  r = .returned (.string ⟨#[]⟩) ∧ Rd w' g [] 1 ∧ w.grownBy w' (some g) := by
 have hN := Number_rd g e l w h
 rw [hr] at hN
 have HN := hide hN
 clear hr hN
 go_enter Tryz.func115, Tryz.ntmps115
 go_wp2_with fail
 refine HN.out.mono ?_
 rintro r w1 ⟨rfl, hr1, hg1⟩
 clear HN h
 go_wp2_with fail
 refine (Err_any g 0 l1 w1 hr1).mono ?_
 rintro r w' ⟨rfl, rfl⟩
 go_wp2_with fail
 refine (fail_any g 0 1 l1 w1 hr1).mono ?_
 rintro r w2 ⟨rfl, hr2, hg2⟩
 go_wp2
 go_ret
 exact ⟨rfl, hr2, only_trans hg1 hg2⟩
set_option maxHeartbeats 1000000 in
theorem Text_short (g n : Nat) (most : Int) (l l1 : List UInt8) (e : Nat) (w : World) (h : Rd w g l e) (hr : rnum l e = (n, l1, 0)) (hm : (n : Int) ≤ most) (hn : l1.length < n) :
 Calls Tryz.prog 115 #[.pointer (some ⟨g, 0, none⟩), .int .i64 most] w fun r w' =>
  r = .returned (.string ⟨#[]⟩) ∧ Rd w' g [] 2 ∧ w.grownBy w' (some g) := by
 have hN := Number_rd g e l w h
 rw [hr] at hN
 have HN := hide hN
 clear hr hN
 go_enter Tryz.func115, Tryz.ntmps115
 go_wp2_with fail
 refine HN.out.mono ?_
 rintro r w1 ⟨rfl, hr1, hg1⟩
 clear HN h
 go_wp2_with fail
 refine (Err_any g 0 l1 w1 hr1).mono ?_
 rintro r w' ⟨rfl, rfl⟩
 have hr2 := hr1
 obtain ⟨A, c, h1, h2, h3, h4⟩ := hr2
 have hc0 := blk_cell0 h1
 clear h1 h4
 go_wp2_with fail
 refine (fail_any g 0 2 l1 w1 hr1).mono ?_
 rintro r w2 ⟨rfl, hr2, hg2⟩
 go_wp2
 go_ret
 exact ⟨rfl, hr2, only_trans hg1 hg2⟩
theorem Text_rd (g : Nat) (most : Int) (l : List UInt8) (e : Nat) (w : World) (h : Rd w g l e) :
 Calls Tryz.prog 115 #[.pointer (some ⟨g, 0, none⟩), .int .i64 most] w fun r w' =>
  r = .returned (.string ⟨(rtext l e most).1.toArray⟩) ∧ Rd w' g (rtext l e most).2.1 (rtext l e most).2.2 ∧ w.grownBy w' (some g) := by
 obtain ⟨n, l1, e1, hr⟩ : ∃ n l1 e1, rnum l e = (n, l1, e1) := ⟨_, _, _, rfl⟩
 by_cases he : e1 = 0
 ·subst he
  by_cases hm : most < (n : Int)
  ·have : rtext l e most = ([], [], 1) := by unfold rtext; rw [hr]; simp [hm]
   rw [this]
   exact Text_long g n most l l1 e w h hr hm
  ·by_cases hn : l1.length < n
   ·have : rtext l e most = ([], [], 2) := by unfold rtext; rw [hr]; simp [hm, hn]
    rw [this]
    exact Text_short g n most l l1 e w h hr (by omega) hn
   ·have : rtext l e most = (l1.take n, l1.drop n, 0) := by unfold rtext; rw [hr]; simp [hm, hn]
    rw [this]
    exact Text_fit g n most l l1 e w h hr (by omega) (by omega) _ _ rfl rfl
 ·have : rtext l e most = ([], l1, e1) := by unfold rtext; rw [hr]; simp [he]
  rw [this]
  exact Text_wrong g n e1 most l l1 e w h hr (by omega)
end Go.Proofs.YtapiogcoipeinaaGreatDoor.Pk
namespace Go.Proofs.YtapiogcoipeinaaGreatDoor.Pk
open Go.RowKit
theorem rnum_enc (n : Nat) (r : List UInt8) (h : n < 1152921504606846976) : rnum (enc n ++ r) 0 = (n, r, 0) := by
 rw [rnum_ok _ _ _ (dec_enc n r h), List.drop_left]
theorem Byt.at_ {w : World} {B b o : Nat} {l : List UInt8} (h : Byt w B (some ⟨b, o, none⟩) l) (j : Nat) (u : UInt8) (hu : l[j]? = some u) : w.cell? ⟨b, o + j, none⟩ = some (cel u) := by
 have hne : l ≠ [] := by rintro rfl; simp at hu
 obtain ⟨b', o', e, _, hc⟩ := h hne
 simp only [Option.some.injEq, Addr.mk.injEq, and_true] at e
 obtain ⟨rfl, rfl⟩ := e
 exact hc j u hu
end Go.Proofs.YtapiogcoipeinaaGreatDoor.Pk
namespace Go.Proofs.YtapiogcoipeinaaGreatDoor.Sm
open Go.RowKit
open Pk
def Tab (w : World) : Prop := ∀ j, j < 16 → w.cell? ⟨1, j, none⟩ = some (.int .u32 ((halves.getD j 0 : Nat) : Int))
theorem Tab.pos {w : World} (h : Tab w) : 1 < w.heap.size := World.block_lt_of_cell? w ⟨1, 0, none⟩ (h 0 (by omega))
theorem Tab.below {w w' : World} {B : Nat} (h : Tab w) (hb : Below B w w') (hB : 1 < B) : Tab w' := fun j hj => (hb.cell (p := ⟨1, j, none⟩) hB).trans (h j hj)
theorem drop_at (l : List UInt8) (k : Nat) (x : UInt8) (h : l[k]? = some x) : l.drop k = x :: l.drop (k + 1) := by
 obtain ⟨hk, e⟩ := List.getElem?_eq_some_iff.1 h
 rw [List.drop_eq_getElem_cons hk, e]
theorem mask15 (m : Nat) (h : m < 4294967296) : bits .and .u32 (m : Int) 15 = ((m % 16 : Nat) : Int) := by
 have := u32_and_nat m 15 h (by omega)
 rw [nat_mask4] at this
 exact this
theorem halves_lt (j : Nat) : halves.getD j 0 < 4294967296 := by
 rcases Nat.lt_or_ge j 16 with h | h
 ·have : ∀ i : Fin 16, halves.getD i.val 0 < 4294967296 := by decide
  exact this ⟨j, h⟩
 ·rw [List.getD_eq_getElem?_getD, List.getElem?_eq_none (by simpa [halves] using h)]
  decide
theorem look (w : World) (ht : Tab w) (m : Nat) (h : m < 4294967296) : ∃ a t n : Nat, a < 16 ∧ n < 4294967296 ∧ Hid (n = steps 4 m) ∧ bits .and .u32 (m : Int) 15 = (a : Int) ∧
 w.cell? ⟨1, a, none⟩ = some (.int .u32 (t : Int)) ∧ bits .xor .u32 ((m : Int) / 16) (t : Int) = (n : Int) := by
 refine ⟨m % 16, halves.getD (m % 16) 0, steps 4 m, by omega, steps_lt 4 _ h, rfl, mask15 m h, ht _ (by omega), ?_⟩
 rw [← half, show (m : Int) / 16 = ((m / 16 : Nat) : Int) by omega]
 exact u32_xor_nat _ _ (by omega) (halves_lt _)
set_option maxHeartbeats 1000000 in
theorem Of_some (b o c : Nat) (l : List UInt8) (w : World) (hl : l.length ≤ 9223372036854775807) (ht : Tab w)
 (hc : ∀ j u, l[j]? = some u → w.cell? ⟨b, o + j, none⟩ = some (cel u)) (r : Nat) (hr : Hid (crc l = r)) :
 Calls Tryz.prog 128 #[.slice (some ⟨b, o, none⟩) l.length c] w fun e w' =>
  e = .returned (.int .u32 r) ∧ w = w' := by
 generalize hlen : l.length = len at *
 have Hlen := hide hlen
 clear hlen
 go_enter Tryz.func128, Tryz.ntmps128
 go_wp2
 go_loop [3, 8] (fun s i => ∃ (k d : Nat), k ≤ len ∧ i = .int .i64 k ∧ s = .int .u32 d ∧ d < 4294967296 ∧ Hid (crcF d (l.drop k) ^^^ ones = r)) (fun _ i => len - (intOf i).toNat)
 case atStart => exact ⟨0, 4294967295, by omega, rfl, rfl, by omega, hr⟩
 case round =>
  clear hr
  obtain ⟨k, d, hk, rfl, rfl, hd, hres⟩ := hrel
  by_cases hlt : k < len
  ·obtain ⟨x, hx⟩ : ∃ x : UInt8, l[k]? = some x := ⟨l[k]'(by rw [Hlen.out]; exact hlt), List.getElem?_eq_getElem _⟩
   obtain ⟨z, hz⟩ : ∃ z : Nat, z = x.toNat := ⟨_, rfl⟩
   have hcell : w.cell? ⟨b, o + k, none⟩ = some (.int .u8 (z : Int)) := by rw [hc k x hx, cel, hz]
   have hz1 : z < 256 := by rw [hz]; exact x.toNat_lt
   have hnext : Hid (crcF (upd d x) (l.drop (k + 1)) ^^^ ones = r) := by
    have e := hres.out
    rw [drop_at l k x hx] at e
    exact e
   have hud : Hid (upd d x = steps 4 (steps 4 (d ^^^ z))) := by rw [hz]; exact steps_add 4 4 _
   have b1 := xor_lt d z hd (by omega)
   have e1 := u32_xor_nat d z hd (by omega)
   clear hres hx hz hc
   generalize d ^^^ z = m1 at *
   obtain ⟨a1, t1, m2, ha1, b2, H2, f1, f2, f3⟩ := look w ht m1 b1
   obtain ⟨a2, t2, m3, ha2, b3, H3, f4, f5, f6⟩ := look w ht m2 b2
   have hfin : Hid (crcF m3 (l.drop (k + 1)) ^^^ ones = r) := by
    have e := hnext.out
    rw [hud.out, ← H2.out, ← H3.out] at e
    exact e
   clear hnext hud H2 H3
   go_wp2
   go_round
   case rel => exact ⟨k + 1, m3, by omega, by go_num, rfl, b3, hfin⟩
   case measure => simp [intOf]; omega
  ·have e1 : bits .xor .u32 (d : Int) 4294967295 = (r : Int) := by
    have e := hres.out
    rw [List.drop_eq_nil_of_le (by rw [Hlen.out]; omega)] at e
    rw [← e]
    exact u32_xor_nat d 4294967295 hd (by omega)
   clear hres hc
   go_wp2
   go_ret
   exact ⟨rfl, rfl⟩
set_option maxHeartbeats 400000 in
theorem Of_none (A : Option Addr) (c : Nat) (w : World) :
 Calls Tryz.prog 128 #[.slice A 0 c] w fun e w' => e = .returned (.int .u32 0) ∧ w = w' := by
 have e1 : bits .xor .u32 4294967295 4294967295 = 0 := by decide
 go_enter Tryz.func128, Tryz.ntmps128
 go_wp2
 refine wp_loop_rounds 1 ?_
 rw [rounds_succ]
 go_wp2
 go_ret
 exact ⟨rfl, rfl⟩
theorem Of_any (A : Option Addr) (n c B : Nat) (l : List UInt8) (w : World) (hn : l.length = n) (hl : n ≤ maxLen) (ht : Tab w) (hb : Byt w B A l) :
 Calls Tryz.prog 128 #[.slice A n c] w fun e w' => e = .returned (.int .u32 ((crc l : Nat) : Int)) ∧ w = w' := by
 subst hn
 unfold maxLen at hl
 cases l with
 | nil => exact Of_none A c w
 | cons x r =>
   obtain ⟨b, o, rfl, _, hc⟩ := hb (by simp)
   exact Of_some b o c (x :: r) w (by omega) ht hc _ rfl
end Go.Proofs.YtapiogcoipeinaaGreatDoor.Sm
namespace Go.Proofs.YtapiogcoipeinaaGreatDoor.Sm
open Go.RowKit
open Pk
theorem u8_one : (Tryz.prog.info? 5).map (·.size) = some 1 := by kernel_rfl
theorem own_spliced {w : World} {g base len room : Nat} {l : List UInt8} {Z : List Value} (hg : w.heap[g]? = some (.cells (splice Z 0 (cels l)).toArray 5 (0, 0))) (hb : base ≤ g)
 (hl : l.length = len) (hz : Z.length = len + room) (hm : len + room ≤ maxLen) : Own w base (.slice (some ⟨g, 0, none⟩) len (len + room)) l := by
 subst hl
 refine ⟨by simp [cels_length], .inr ⟨g, l.length + room, _, rfl, hb, hg, by omega, hm, ?_, ?_⟩⟩
 ·rw [List.size_toArray, length_splice _ _ _ (by rw [cels_length]; omega), hz, Nat.mul_one]
 ·simp [splice, cels_length]
theorem own_more {w : World} {base : Nat} {v : Value} {l : List UInt8} {x : UInt8} {n : Nat} (hn : l.length = n) (h : w.ownsRow base 5 1 v (n + 1) (cels l ++ cels [x])) : Own w base v (l ++ [x]) := by
 subst hn
 unfold Own
 rw [cels_append, List.length_append]
 exact h
theorem grown_below {base : Nat} {w wr w1 : World} {u : Value} {l : List UInt8} {o : Obj} (hbel : Below base w wr) (hbase : base ≤ w.heap.size) (hown : Own wr base u l) (hg : (wr.alloc o).grownBy w1 u.ownBlock) : Below base w w1 := by
 have hs := hbel.size
 exact (hbel.alloc (by omega) o).grown hg (by simp; omega) (fun k hk => (World.ownsRow.lt hown k hk).1)
def low : Nat → Nat → List UInt8
 | 0, _ => []
 | n + 1, d => UInt8.ofNat (d % 256) :: low n (d / 256)
theorem low_four (d : Nat) : low 4 d = le4 d := by
 unfold le4
 simp only [low]
 rw [show d / 256 / 256 = d / 65536 by omega, show d / 65536 / 256 = d / 16777216 by omega]
theorem cel_low (d : Nat) : [Value.int .u8 ((d : Int) % 256)] = cels [UInt8.ofNat (d % 256)] := by
 simp only [cels, List.map_cons, List.map_nil, cel]
 rw [ofNat_toNat _ (by omega)]
 simp
def Sld (l goal : List UInt8) (base : Nat) (w : World) (v c i : Value) (wr : World) : Prop :=
 ∃ (k m d : Nat) (done : List UInt8), i = .int .i64 (k : Int) ∧ c = .int .u32 (d : Int) ∧ k + m = 4 ∧ d < 4294967296 ∧ done.length = k ∧ Hid (done ++ low m d = goal) ∧ Own wr base v (l ++ done) ∧ Below base w wr
set_option maxRecDepth 100000 in
set_option maxHeartbeats 1000000 in
theorem Seal_any (A : Option Addr) (l : List UInt8) (n c : Nat) (w : World) (hn : l.length = n) (hb : Byt w w.heap.size A l) (ht : Tab w) (hl : n ≤ 70368744177000) :
 Calls Tryz.prog 112 #[.slice A n c] w fun e w' =>
  ∃ v', e = .returned v' ∧ Own w' w.heap.size v' (seal4 l) ∧ Below w.heap.size w w' := by
 obtain ⟨i0, hi, hz0, hz1, hz2⟩ := info_parts u8_info
 have Hlen := hide hn
 have hpos := ht.pos
 have hg := crc_lt l
 have Hgoal : Hid (seal4 l = l ++ low 4 (crc l)) := by rw [low_four]; rfl
 generalize hgoal : low 4 (crc l) = goal at *
 have Hlow : Hid (low 4 (crc l) = goal) := hgoal
 obtain ⟨C, hC0⟩ : ∃ C, crc l = C := ⟨_, rfl⟩
 rw [hC0] at hg Hlow
 have hC := hide hC0
 clear hC0
 clear hn hgoal
 have hmk := fun W => run_make (P := Tryz.prog) W 70 5 i0 (.int .u8 0) Tryz.underlying70 hi hz0 .i64 .i64 (n : Int) ((n : Int) + 4) (by omega) (by omega) (by rw [hz2]; omega) (by omega)
 go_enter Tryz.func112, Tryz.ntmps112
 go_wp2_with (with_reducible refine wpList_copy_splice rfl (.tmp 11) (.tmp 12) 70 70 rfl 5 Tryz.underlying70 u8_one (some ⟨w.heap.size, 0, none⟩) A n (n + 4) n c rfl rfl w.heap.size 0 (madeCells #[.int .u8 0] (n + 4)).toList 5 ?h1 (cels l) ?h2 ?h3 ?h4 (cels_one l) w.heap.size w ?h5 (Nat.le_refl _) ?h6)
 case h1 => rw [Array.toArray_toList]; exact heap_alloc_new w _
 case h2 => rw [cels_length, Hlen.out]; exact (Nat.min_self n).symm
 case h3 =>
  intro h0
  rw [cels_length] at h0
  obtain ⟨b, o, rfl, hbb, hc⟩ := hb (by rintro rfl; simp at h0)
  refine ⟨_, rfl, fun j u hu => ?_⟩
  obtain ⟨x, hx, rfl⟩ := cels_get l j u hu
  rw [Addr.add_lit, World.cell?_alloc_past _ _ _ hbb]
  exact hc j x hx
 case h4 => rw [cels_length, Hlen.out, Array.length_toList, size_madeCells]; omega
 case h5 => exact (Below.refl _ _).alloc (Nat.le_refl _) _
 case h6 =>
  intro w1 Hg hb1
  have hown1 := own_spliced (room := 4) Hg.out (Nat.le_refl _) Hlen.out (by rw [Array.length_toList, size_madeCells]) (by unfold maxLen; omega)
  have hOf := Of_any A n c _ l w1 Hlen.out (by unfold maxLen; omega) (ht.below hb1 hpos) (hb.below hb1)
  rw [hC.out] at hOf
  have HOf := hide hOf
  clear hOf Hg hmk
  go_wp2_with fail
  refine HOf.out.mono ?_
  rintro r w' ⟨rfl, rfl⟩
  have hown0 : Own w1 w.heap.size (.slice (some ⟨w.heap.size, 0, none⟩) n (n + 4)) (l ++ []) := by rw [List.append_nil]; exact hown1
  clear HOf hown1 hb
  go_wp2
  go_loopw [3, 4, 16] (Sld l goal w.heap.size w) (fun _ _ i _ => 4 - (intOf i).toNat)
  case atStart => exact ⟨0, 4, C, [], rfl, rfl, rfl, hg, rfl, Hlow, hown0, hb1⟩
  case round =>
   clear hown0 hb1 Hlow
   obtain ⟨k, m, d, done, rfl, rfl, hkm, hd, hdone, hgo, hown, hbel⟩ := hrel
   have hll : l.length + done.length ≤ 70368744177010 := by rw [Hlen.out]; omega
   have hsz := hbel.size
   by_cases hlt : k < 4
   ·obtain ⟨m, rfl⟩ : ∃ j, m = j + 1 := ⟨m - 1, by omega⟩
    have hcel := cel_low d
    have Hgo : Hid ((done ++ [UInt8.ofNat (d % 256)]) ++ low m (d / 256) = goal) := by
     have e := hgo.out
     simp only [low] at e
     rw [List.append_assoc]
     exact e
    have Hcel := hide hcel
    have Hk := hide hkm
    have Hdone := hide hdone
    clear hcel hgo hkm hdone
    go_wp2_with (at_builtin; refine wpList_append_own _ rfl (.tmp 18) (.tmp 21) 70 rfl w.heap.size 5 i0 (.int .u8 0) 1 1 Tryz.underlying70 hi hz0 hz1 hz2 rfl (by decide) _ _ _ rfl (World.ownsRow.alloc hown _) ⟨wr.heap.size, 0, none⟩ 1 1 [.int .u8 ((d : Int) % 256)] rfl rfl (cell_one_new _ _ _) ?c2 ?c3 ?c4 ?c5 ?_)
    case c2 => intro u hu; simp at hu; subst hu; rfl
    case c3 => simp only [List.length_append]; unfold maxLen; omega
    case c4 => simp only [List.length_append]; omega
    case c5 => simp; omega
    intro v' w1 hown' hgrow _
    have R := grown_below hbel (Nat.le_refl _) hown hgrow
    rw [Hcel.out] at hown'
    have R2 := own_more (l := l ++ done) (List.length_append ..) hown'
    rw [List.append_assoc] at R2
    clear hown' hgrow hown hbel
    go_wp2
    go_roundw
    case rel => exact ⟨k + 1, m, d / 256, done ++ [UInt8.ofNat (d % 256)], by go_num, by go_num, by have := Hk.out; omega, by omega, by rw [List.length_append, Hdone.out]; rfl, Hgo, R2, R⟩
    case measure => simp [intOf]; omega
   ·have hm : m = 0 := by omega
    have e : l ++ done = seal4 l := by
     have e := hgo.out
     rw [hm] at e
     simp only [low, List.append_nil] at e
     rw [Hgoal.out, ← e]
    have R := hown
    rw [e] at R
    have HR := hide R
    clear e R
    clear hm hgo hown hkm hdone
    go_wp2
    go_ret
    exact ⟨_, rfl, HR.out, hbel⟩
end Go.Proofs.YtapiogcoipeinaaGreatDoor.Sm
