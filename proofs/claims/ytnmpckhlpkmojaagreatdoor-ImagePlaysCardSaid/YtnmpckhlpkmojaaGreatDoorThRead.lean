/-
  The contracts of sum.Sector, pack.Number, pack.Text and the reader's calls, told apart from what is laid and read; results of which one is in memory. Nothing that was there is changed. Condition: the table of half bytes holds what the program's own text lays.
-/
import Derived.Deep.RegionWith
import Derived.Deep.RegionHeld3
import Derived.Test.YtnmpckhlpkmojaaGreatDoorPkText
import Derived.Test.YtnmpckhlpkmojaaGreatDoorSmSector
import Derived.Test.YtnmpckhlpkmojaaGreatDoorFaPlace
namespace Go.Proofs.YtnmpckhlpkmojaaGreatDoor.Rc
open Go.RowKit
open Pk Sm Fa

set_option maxHeartbeats 1000000 in
theorem Sector_told (A : Option Addr) (l : List UInt8) (n c : Nat) (w : World) (hn : l.length = n) (hl : n ≤ 60) (hb : Byt w w.heap.size A l) (ht : Tab w) :
    Calls Tryz.prog 77 #[.slice A n c] w fun e w' =>
      ∃ b o c', e = .returned (.tuple #[.slice (some ⟨b, o, none⟩) 64 c', .bool true]) ∧ 64 ≤ c' ∧ c' ≤ 9223372036854775807 ∧ Own w' w.heap.size (.slice (some ⟨b, o, none⟩) 64 c') (seal4 (pad l)) ∧ Byt w' w'.heap.size (some ⟨b, o, none⟩) (seal4 (pad l)) ∧ Below w.heap.size w w' := by
  have Hlen := hide hn
  have hpos := ht.pos
  clear hn
  go_enter Tryz.func77, Tryz.ntmps77
  go_wp2_with (with_reducible refine wpList_copy_splice rfl (.tmp 8) (.tmp 9) 60 60 rfl 5 Tryz.underlying60 Sm.u8_one (some ⟨w.heap.size, 0, none⟩) A 60 60 n c rfl rfl w.heap.size 0 (nils 60) 158 ?h1 (cels l) ?h2 ?h3 ?h4 (cels_one l) w.heap.size w ?h5 (Nat.le_refl _) ?h6)
  case h1 => exact heap_alloc_new w _
  case h2 => rw [cels_length, Hlen.out]; exact (Nat.min_eq_left hl).symm
  case h3 =>
    intro h0
    rw [cels_length] at h0
    obtain ⟨b, o, rfl, hbb, hc⟩ := hb (by rintro rfl; simp at h0)
    refine ⟨_, rfl, fun j u hu => ?_⟩
    obtain ⟨x, hx, rfl⟩ := cels_get l j u hu
    rw [Addr.add_lit, World.cell?_alloc_past _ _ _ hbb]
    exact hc j x hx
  case h4 => rw [cels_length, Hlen.out, nils_length]; omega
  case h5 => exact (Below.refl _ _).alloc (Nat.le_refl _) _
  case h6 =>
    intro w1 Hg hb1
    have hg := Hg.out
    rw [pad_cels l] at hg
    have HS := hide (Seal_told (some ⟨w.heap.size, 0, none⟩) (pad l) 60 60 w1 (pad_length l (by rw [Hlen.out]; exact hl)) (byt_row hg) (ht.below hb1 hpos) (by omega))
    clear Hg hg hb
    go_wp2_with fail
    refine HS.out.mono ?_
    rintro r w2 ⟨b, o, c', rfl, hc1, hc2, hown, hby, hb2⟩
    clear HS
    go_wp2
    go_ret2
    refine ⟨b, o, c', rfl, hc1, hc2, ?_, hby, hb1.trans (hb2.mono hb1.size)⟩
    exact ⟨hown.1, hown.2.imp id fun ⟨g, cap, cur, e, hB, hr⟩ => ⟨g, cap, cur, e, Nat.le_trans hb1.size hB, hr⟩⟩

/-- Number behind a row of the call's own, the length told apart. -/
theorem Number_own (v : Value) (l : List UInt8) (base : Nat) (n : Int) (w : World) (ho : Own w base v l) (hl : l.length ≤ 1000) :
    Calls Tryz.prog 76 #[v, .int .i64 n] w fun e w' => ∃ v', e = .returned v' ∧ Own w' w.heap.size v' (l ++ enc (clamp n)) ∧ Below w.heap.size w w' := by
  obtain ⟨A, c, rfl, h1, h2, hby⟩ := ho.form
  exact Number_any A l c n w hby (by omega)
theorem Text_own (v : Value) (l : List UInt8) (base : Nat) (s : ByteArray) (w : World) (ho : Own w base v l) (hl : l.length + s.size ≤ 1000) :
    Calls Tryz.prog 78 #[v, .string s] w fun e w' => ∃ v', e = .returned v' ∧ Own w' w.heap.size v' (l ++ enc s.size ++ s.data.toList) ∧ Below w.heap.size w w' := by
  obtain ⟨A, c, rfl, h1, h2, hby⟩ := ho.form
  exact Text_any A l c s w hby (by omega)
theorem own_none (w : World) : Own w w.heap.size (.slice none 0 0) [] := ⟨rfl, Or.inl ⟨rfl, rfl⟩⟩

/-- Results of which the second one is a record in memory. -/
theorem results_tc {P : Program} {fn : Func} {t p : Tmp} {ty : TypeId} (h : fn.results = #[.tmp t, .cell p ty]) (tmps : Array Value) (w : World) (g : Nat) (T : TypeId) (cs : Array Value) (fr : Nat × Nat) (d : TypeDesc)
    (hp : tmps.getD p undef = .pointer (some ⟨g, 0, none⟩)) (hg : w.heap[g]? = some (.cells cs T fr))
    (hu : P.underlying ty = some d) (hd : (match d with | .struct _ | .array _ _ => true | _ => false) = true) (hi : (P.info? ty).map (·.size) = some cs.size) :
    (results fn tmps).run P w = .ok (.tuple #[tmps.getD t undef, .agg cs]) w := by
  have hp' : tmps[p]?.getD undef = .pointer (some ⟨g, 0, none⟩) := by simpa using hp
  simp [results, h, hp', asAddr, run_loadVar_row w g T ty cs fr d hg hu hd hi]
theorem results_tct {P : Program} {fn : Func} {t p u : Tmp} {ty : TypeId} (h : fn.results = #[.tmp t, .cell p ty, .tmp u]) (tmps : Array Value) (w : World) (g : Nat) (T : TypeId) (cs : Array Value) (fr : Nat × Nat) (d : TypeDesc)
    (hp : tmps.getD p undef = .pointer (some ⟨g, 0, none⟩)) (hg : w.heap[g]? = some (.cells cs T fr))
    (hu : P.underlying ty = some d) (hd : (match d with | .struct _ | .array _ _ => true | _ => false) = true) (hi : (P.info? ty).map (·.size) = some cs.size) :
    (results fn tmps).run P w = .ok (.tuple #[tmps.getD t undef, .agg cs, tmps.getD u undef]) w := by
  have hp' : tmps[p]?.getD undef = .pointer (some ⟨g, 0, none⟩) := by simpa using hp
  simp [results, h, hp', asAddr, run_loadVar_row w g T ty cs fr d hg hu hd hi]
theorem results_ct {P : Program} {fn : Func} {p u : Tmp} {ty : TypeId} (h : fn.results = #[.cell p ty, .tmp u]) (tmps : Array Value) (w : World) (g : Nat) (T : TypeId) (cs : Array Value) (fr : Nat × Nat) (d : TypeDesc)
    (hp : tmps.getD p undef = .pointer (some ⟨g, 0, none⟩)) (hg : w.heap[g]? = some (.cells cs T fr))
    (hu : P.underlying ty = some d) (hd : (match d with | .struct _ | .array _ _ => true | _ => false) = true) (hi : (P.info? ty).map (·.size) = some cs.size) :
    (results fn tmps).run P w = .ok (.tuple #[.agg cs, tmps.getD u undef]) w := by
  have hp' : tmps[p]?.getD undef = .pointer (some ⟨g, 0, none⟩) := by simpa using hp
  simp [results, h, hp', asAddr, run_loadVar_row w g T ty cs fr d hg hu hd hi]
theorem Read_told (A : Option Addr) (l : List UInt8) (n c : Nat) (w : World) (hn : l.length = n) (hb : Byt w w.heap.size A l) (hl : n ≤ c) (hc : c ≤ maxLen) :
    Calls Tryz.prog 67 #[.slice A n c] w fun e w' => e = .returned (.pointer (some ⟨w.heap.size, 0, none⟩)) ∧ Rd w' w.heap.size l 0 ∧ Below w.heap.size w w' := by
  subst hn
  exact Read_any A l c w hb hl hc

theorem Number_at' (g e : Nat) (l : List UInt8) (w : World) (h : Rd w g l e) (n : Nat) (l1 : List UInt8) (e1 : Nat) (hr : rnum l e = (n, l1, e1)) :
    Calls Tryz.prog 68 #[.pointer (some ⟨g, 0, none⟩)] w fun r w' => r = .returned (.int .i64 (n : Int)) ∧ Rd w' g l1 e1 ∧ w.grownBy w' (some g) := by
  have := Number_rd g e l w h
  rw [hr] at this
  exact this
theorem Text_at' (g e : Nat) (most : Int) (l : List UInt8) (w : World) (h : Rd w g l e) (d l1 : List UInt8) (e1 : Nat) (hr : rtext l e most = (d, l1, e1)) :
    Calls Tryz.prog 70 #[.pointer (some ⟨g, 0, none⟩), .int .i64 most] w fun r w' => r = .returned (.string (str d)) ∧ Rd w' g l1 e1 ∧ w.grownBy w' (some g) := by
  have := Text_rd g most l e w h
  rw [hr] at this
  exact this


end Go.Proofs.YtnmpckhlpkmojaaGreatDoor.Rc
