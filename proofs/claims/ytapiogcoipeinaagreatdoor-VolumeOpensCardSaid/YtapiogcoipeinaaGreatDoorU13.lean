/-
  fault.Path and fault.First at a wrapped error: its places as texts, the number of the outermost place of a name. Nothing below is changed. Conditions: at most 1000 faults, whose names have at most 200 bytes and whose numbers' digits can be told; those of fault.unwrapped.
-/
import Derived.Test.YtapiogcoipeinaaGreatDoorU7
import Derived.Test.YtapiogcoipeinaaGreatDoorU5
import Derived.Lib.ItoaLen
import Derived.Lib.AppendIntMem
import Derived.Deep.RegionWith
namespace Go.Proofs.YtapiogcoipeinaaGreatDoor.Fa
open Go.RowKit
open Pk Sm
def Cod (i : Value) (k : Int) : Prop := (i = .nilIface ∧ k = 0) ∨ i = .iface 83 (.int .i64 k)
theorem Cod.inner {i : Value} {k : Int} (h : Cod i k) : Inner i := by
 rcases h with ⟨h, _⟩ | h
 ·exact Or.inl h
 ·exact Or.inr ⟨k, h⟩
theorem asNumber_inner (i : Value) (k : Int) (hi : Cod i k) (w : World) (hty : Ety w) :
 Calls Tryz.prog 77 #[i] w fun r w' => r = .returned (.int .i64 k) ∧ Below w.heap.size w w' := by
 rcases hi with ⟨rfl, rfl⟩ | rfl
 ·exact asNumber_nil w
 ·exact asNumber_hit k w hty
set_option maxHeartbeats 1000000 in
theorem Code_any (fs : List Flt) (e i : Value) (k : Int) (w : World) (hty : Ety w) (hch : Chain w fs e i) (hi : Cod i k) (hlen : fs.length ≤ 60000) :
 Calls Tryz.prog 47 #[e] w fun r w' => r = .returned (.int .i64 k) ∧ Below w.heap.size w w' := by
 have HU := hide (unwrapped_any fs e i _ w rfl hty hch hi.inner hlen)
 have Hi := hide hi
 have Hty := hide hty
 clear hch hi hlen hty
 go_enter Tryz.func47, Tryz.ntmps47
 go_wp2_with fail
 refine HU.out.mono ?_
 rintro r w1 ⟨A, c, rfl, _, _, _, hb1⟩
 have HA := hide (asNumber_inner i k Hi.out w1 (Hty.out.below hb1 Hty.out.lt))
 have HB := hide hb1
 clear HU hb1
 go_wp2_with fail
 refine HA.out.mono ?_
 rintro r w2 ⟨rfl, hb2⟩
 have HB2 := hide (HB.out.trans (hb2.mono HB.out.size))
 clear hb2
 go_wp2
 go_ret
 exact ⟨rfl, HB2.out⟩
/-! ### Digits -/
def Tab10 (w : World) : Prop := Lib.TabIs Tryz.prog w "internal/strconv.uint64pow10" .u64 Lib.pow10Tab
theorem Tab10.below {w w' : World} (h : Tab10 w) (hb : Below w.heap.size w w') : Tab10 w' := Lib.tabBelow_of_tabIs h w' hb
def Int64 (n : Int) : Prop := -9223372036854775808 ≤ n ∧ n ≤ 9223372036854775807
def Dig (w : World) (n : Int) : Prop := (0 ≤ n ∧ n < 100) ∨ (Tab10 w ∧ Int64 n)
theorem Dig.below {w w' : World} {n : Int} (h : Dig w n) (hb : Below w.heap.size w w') : Dig w' n := h.imp id fun ⟨h1, h2⟩ => ⟨h1.below hb, h2⟩
theorem str_append (l m : List UInt8) : str l ++ str m = str (l ++ m) := by
 apply ByteArray.ext
 apply Array.ext'
 simp [str]
end Go.Proofs.YtapiogcoipeinaaGreatDoor.Fa
namespace Go.Proofs.YtapiogcoipeinaaGreatDoor.Fa
open Go.RowKit
open Pk Sm
theorem drew_below {w w1 : World} (h : Below w.drew.heap.size w.drew w1) : Below w.heap.size w w1 := ⟨h.os, h.tape, h.output, h.size, h.block⟩
theorem run_add (l m : List UInt8) (h : l.length + m.length ≤ 1000000) (W : World) : (Op.stringOp .add (str l) (str m)).run Tryz.prog W = .ok (.string (str (l ++ m))) W := by
 rw [← str_append]
 exact run_string_add_sum (P := Tryz.prog) (w := W) _ _ (by rw [str_size, str_size]; omega)
theorem Dig.int {w : World} {n : Int} (h : Dig w n) : Int64 n := by
 rcases h with ⟨h0, h1⟩ | ⟨_, h⟩
 ·exact ⟨by omega, by omega⟩
 ·exact h
end Go.Proofs.YtapiogcoipeinaaGreatDoor.Fa
namespace Go.Proofs.YtapiogcoipeinaaGreatDoor.Fa
open Go.RowKit Go.Stop
open Pk Sm
theorem Wrap_nil (op : ByteArray) (n : Int) (w : World) :
 Calls Tryz.prog 61 #[.string op, .int .i64 n, .nilIface] w fun r w' => r = .returned .nilIface ∧ w' = w := by
 go_enter Tryz.func61, Tryz.ntmps61
 go_wp2
 go_ret
 exact ⟨rfl, rfl⟩
def Real (e : Value) : Prop := ∃ T v, e = .iface T v ∧ (T ≠ 83 ∨ (T = 83 ∧ ∃ k : Int, v = .int .i64 k ∧ k ≠ 0))
theorem Real.num {k : Int} (h : k ≠ 0) : Real (.iface 83 (.int .i64 k)) := ⟨_, _, rfl, Or.inr ⟨rfl, k, rfl, h⟩⟩
theorem Real.flt (v : Value) : Real (.iface 145 v) := ⟨_, _, rfl, Or.inl (by decide)⟩
theorem Real.eql {e : Value} (h : Real e) (w : World) : (binOp .eql 32 e (.iface 83 (.int .i64 0))).run Tryz.prog w = .ok (.bool false) w := by
 obtain ⟨T, v, rfl, h⟩ := h
 rcases h with h | ⟨rfl, k, rfl, h⟩
 ·exact run_eql_iface_types T 83 v _ Tryz.underlying32 h w
 ·rw [eql_errno]
  simp [h]
theorem Wrap_real (op : ByteArray) (n : Int) (e : Value) (w : World) (he : Real e) :
 Calls Tryz.prog 61 #[.string op, .int .i64 n, e] w fun r w' => r = .returned (.iface 145 (.pointer (some ⟨w.heap.size, 0, none⟩))) ∧ w' = w.alloc (.cells #[.string op, .int .i64 n, e] 147) := by
 have hq := he.eql
 obtain ⟨T, v, rfl, _⟩ := he
 go_enter Tryz.func61, Tryz.ntmps61
 go_wp2
 go_ret
 exact ⟨rfl, rfl⟩
theorem Chain.wrap {w : World} {fs : List Flt} {e i : Value} (h : Chain w fs e i) (op : ByteArray) (n : Int) :
 Chain (w.alloc (.cells #[.string op, .int .i64 n, e] 147)) ((w.heap.size, op, n) :: fs) (.iface 145 (.pointer (some ⟨w.heap.size, 0, none⟩))) i :=
 ⟨rfl, e, heap_alloc_new w _, h.below (Nat.le_refl _) ((Below.refl _ _).alloc (Nat.le_refl _) _)⟩
end Go.Proofs.YtapiogcoipeinaaGreatDoor.Fa
namespace Go.Proofs.YtapiogcoipeinaaGreatDoor.Fa
open Go.RowKit
open Pk Sm
abbrev Pl := ByteArray × Int
theorem Chain.at_ {w : World} : ∀ {fs : List Flt} {e i : Value} {k p : Nat} {op : ByteArray} {n : Int}, Chain w fs e i → fs[k]? = some (p, op, n) → ∃ e', w.heap[p]? = some (.cells #[.string op, .int .i64 n, e'] 147 (0, 0))
 | [], _, _, _, _, _, _, _, h => by simp at h
 | (p, op, n) :: r, _, _, 0, _, _, _, ⟨_, e', hp, _⟩, h => by
   simp at h
   obtain ⟨rfl, rfl, rfl⟩ := h
   exact ⟨e', hp⟩
 | (p, op, n) :: r, _, _, k + 1, _, _, _, ⟨_, e', hp, hr⟩, h => hr.at_ (by simpa using h)
def fnd : List Pl → ByteArray → Int × Bool
 | [], _ => (0, false)
 | q :: r, op => if (q.1.toList == op.toList) = true then (q.2, true) else fnd r op
theorem fnd_yes {q : Pl} {r : List Pl} {op : ByteArray} (h : (q.1.toList == op.toList) = true) : fnd (q :: r) op = (q.2, true) := if_pos h
theorem fnd_no {q : Pl} {r : List Pl} {op : ByteArray} (h : (q.1.toList == op.toList) = false) : fnd (q :: r) op = fnd r op := if_neg (by rw [h]; exact Bool.false_ne_true)
def pls (fs : List Flt) : List Pl := fs.map (·.2)
theorem pls_drop {fs : List Flt} {k p : Nat} {op : ByteArray} {n : Int} (h : fs[k]? = some (p, op, n)) : pls (fs.drop k) = (op, n) :: pls (fs.drop (k + 1)) := by
 obtain ⟨hk, he⟩ := List.getElem?_eq_some_iff.1 h
 rw [List.drop_eq_getElem_cons hk, he]
 rfl
set_option maxHeartbeats 1000000 in
theorem First_any (fs : List Flt) (e i : Value) (op : ByteArray) (n : Nat) (w : World) (hn : fs.length = n) (hty : Ety w) (hch : Chain w fs e i) (hi : Inner i) (hlen : n ≤ 1000) :
 Calls Tryz.prog 46 #[e, .string op] w fun r w' => r = .returned (.tuple #[.int .i64 (fnd (pls fs) op).1, .bool (fnd (pls fs) op).2]) ∧ Below w.heap.size w w' := by
 have HU := hide (unwrapped_any fs e i n w hn hty hch hi (by omega))
 have Hch := hide hch
 have Hn := hide hn
 obtain ⟨G, hG⟩ : ∃ G, G = fnd (pls fs) op := ⟨_, rfl⟩
 have HG := hide hG
 rw [← hG]
 clear hn hch hi hty hG
 go_enter Tryz.func46, Tryz.ntmps46
 go_wp2_with fail
 refine HU.out.mono ?_
 rintro r w1 ⟨A, c, rfl, hc1, hc2, hv1, hb1⟩
 have HV := hide hv1
 have HB1 := hide hb1
 clear HU hv1 hb1
 go_wp2_with fail
 go_loop [17] (fun j => ∃ k : Nat, k ≤ n ∧ j = .int .i64 k ∧ Hid (G = fnd (pls (fs.drop k)) op)) (fun j => n - (intOf j).toNat)
 case atStart => exact ⟨0, Nat.zero_le _, rfl, HG.out⟩
 case round =>
  obtain ⟨k, hk, rfl, hg⟩ := hrel
  rcases Nat.lt_or_ge k n with hlt | hge
  ·obtain ⟨⟨q, o', m⟩, hf⟩ : ∃ f, fs[k]? = some f := ⟨_, List.getElem?_eq_getElem (by rw [Hn.out]; exact hlt)⟩
   obtain ⟨e', hp⟩ := Hch.out.at_ hf
   have hp1 := (HB1.out.block q (heap_lt hp)).trans hp
   have hc0 : w1.cell? ⟨q, 0, none⟩ = some (.string o') := by simp [World.cell?, hp1]
   have hcn : w1.cell? ⟨q, 1, none⟩ = some (.int .i64 m) := by simp [World.cell?, hp1]
   obtain ⟨b, o, rfl, hb, hcell⟩ := HV.out (by
    intro h0
    have := ptrs_length fs
    rw [h0, Hn.out] at this
    simp at this
    omega)
   have hck := hcell k _ (ptrs_get hf)
   have hg' := hg.out
   rw [pls_drop hf] at hg'
   have Hg := hide hg'
   clear hf hp hp1 hcell hg hg'
   cases hb' : (o'.toList == op.toList) with
   | true =>
     have hG := Hg.out.trans (fnd_yes hb')
     have HGG := hide hG
     clear hG
     go_wp2
     go_ret2
     exact ⟨by rw [HGG.out]; rfl, HB1.out⟩
   | false =>
     have HGG := hide (Hg.out.trans (fnd_no hb'))
     go_wp2
     go_round
     case rel => exact ⟨k + 1, by omega, by go_num, HGG.out⟩
     case measure => simp [intOf]; omega
  ·have hg' := hg.out
   rw [List.drop_eq_nil_of_le (by rw [Hn.out]; omega)] at hg'
   have HGG := hide hg'
   clear hg hg'
   go_wp2
   go_ret2
   exact ⟨by rw [HGG.out]; rfl, HB1.out⟩
end Go.Proofs.YtapiogcoipeinaaGreatDoor.Fa
