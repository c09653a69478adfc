/-
  The walk of SumLinear: for every a, b and c it returns true; nothing that was there is changed. Condition: the table of half bytes holds what the program's own text lays.
-/
import Derived.Deep.RegionWith
import Derived.Deep.DeepCutAuto
import Derived.Lib.IndexBytes
import Derived.Test.YtjiihkpbeogbcaaDoorSmTurned
namespace Go.Proofs.YtjiihkpbeogbcaaDoor.Sm
open Go.RowKit
open Pk

theorem Linear_long1 (a0 a1 a2 : ByteArray) (w : World) (ht : Tab w) (hs : 1000 < a0.size) (hm : a0.size ≤ 9223372036854775807) :
    Calls Tryd.prog 7 #[.string a0, .string a1, .string a2] w fun e w' => e = .returned (.bool true) ∧ Below w.heap.size w w' := by
  have hpos := ht.pos
  go_enter Tryd.func7, Tryd.ntmps7
  go_wp2_with fail
  refine (awake_any w ht).mono ?_
  rintro r w1 ⟨rfl, hb1⟩
  go_wp2_with fail
  refine (awake_any w1 (ht.below hb1 hpos)).mono ?_
  rintro r w2 ⟨rfl, hb2⟩
  go_wp2
  go_ret
  exact ⟨rfl, hb1.trans (hb2.mono hb1.size)⟩

theorem Linear_long2 (a0 a1 a2 : ByteArray) (w : World) (ht : Tab w) (hs0 : a0.size ≤ 1000) (hs : 1000 < a1.size) (hm : a1.size ≤ 9223372036854775807) :
    Calls Tryd.prog 7 #[.string a0, .string a1, .string a2] w fun e w' => e = .returned (.bool true) ∧ Below w.heap.size w w' := by
  have hpos := ht.pos
  go_enter Tryd.func7, Tryd.ntmps7
  go_wp2_with fail
  refine (awake_any w ht).mono ?_
  rintro r w1 ⟨rfl, hb1⟩
  go_wp2_with fail
  refine (awake_any w1 (ht.below hb1 hpos)).mono ?_
  rintro r w2 ⟨rfl, hb2⟩
  go_wp2
  go_ret
  exact ⟨rfl, hb1.trans (hb2.mono hb1.size)⟩

theorem Linear_long3 (a0 a1 a2 : ByteArray) (w : World) (ht : Tab w) (hs0 : a0.size ≤ 1000) (hs1 : a1.size ≤ 1000) (hs : 1000 < a2.size) (hm : a2.size ≤ 9223372036854775807) :
    Calls Tryd.prog 7 #[.string a0, .string a1, .string a2] w fun e w' => e = .returned (.bool true) ∧ Below w.heap.size w w' := by
  have hpos := ht.pos
  go_enter Tryd.func7, Tryd.ntmps7
  go_wp2_with fail
  refine (awake_any w ht).mono ?_
  rintro r w1 ⟨rfl, hb1⟩
  go_wp2_with fail
  refine (awake_any w1 (ht.below hb1 hpos)).mono ?_
  rintro r w2 ⟨rfl, hb2⟩
  go_wp2
  go_ret
  exact ⟨rfl, hb1.trans (hb2.mono hb1.size)⟩

/-- How far the bytes are turned. -/
def Lin (a b c : ByteArray) : List UInt8 := List.zipWith (· ^^^ ·) (List.zipWith (· ^^^ ·) a.data.toList b.data.toList) c.data.toList

theorem Lin_at (a b c : ByteArray) (k : Nat) (x y z : UInt8) (hx : a.data.toList[k]? = some x) (hy : b.data.toList[k]? = some y) (hz : c.data.toList[k]? = some z) : (Lin a b c)[k]? = some (x ^^^ y ^^^ z) := by
  unfold Lin
  simp [List.getElem?_zipWith, hx, hy, hz]
theorem take_set (l m : List UInt8) (k : Nat) (x : UInt8) (h : l.take k = m.take k) (hk : k < l.length) (hm : m[k]? = some x) : (l.set k x).take (k + 1) = m.take (k + 1) := by
  rw [List.take_add_one, List.take_add_one, List.take_set_of_le (Nat.le_refl k), h, hm, List.getElem?_set_self hk]

def Lrn (goal : List UInt8) (g n : Nat) (w : World) (i : Value) (wr : World) : Prop :=
  ∃ (k : Nat) (l : List UInt8), i = .int .i64 (k : Int) ∧ k ≤ n ∧ l.length = n ∧ Hid (l.take k = goal.take k) ∧ Own wr g (.slice (some ⟨g, 0, none⟩) n n) l ∧ Below g w wr

theorem byte_at (s : ByteArray) (k : Nat) (h : k < s.size) : ∃ (x : UInt8) (z : Nat), s.data.toList[k]? = some x ∧ z = x.toNat ∧ z < 256 ∧ ((s[k]'h).toNat : Int) = (z : Int) :=
  ⟨s[k]'h, _, Lib.data_getElem? s k h, rfl, (s[k]'h).toNat_lt, rfl⟩
theorem own_made (w : World) (n : Nat) (h : n ≤ maxLen) : Own (w.alloc (.cells (madeCells #[.int .u8 0] n) 5)) w.heap.size (.slice (some ⟨w.heap.size, 0, none⟩) n n) (List.replicate n 0) := by
  have := World.ownsRow_lit (e := 5) (size := 1) (base := w.heap.size) w (madeCells #[.int .u8 0] n) n (Nat.le_refl _) h (by rw [size_madeCells, Nat.mul_one])
  rw [toList_madeCells_one] at this
  unfold Own
  rw [List.length_replicate]
  simpa [cels, cel] using this

/-- []byte(s) as a function of the world. -/
theorem bytes_fun (s : ByteArray) (n : Nat) (hn : s.size = n) (hs : n ≤ maxLen) : ∃ (bw : World → World) (cap : World → Nat), ∀ W : World,
    (convert 9 23 (.string s)).run Tryd.prog W = .ok (.slice (some ⟨W.heap.size, 0, none⟩) n (cap W)) (bw W) ∧ Byt (bw W) (bw W).heap.size (some ⟨W.heap.size, 0, none⟩) s.data.toList ∧ Below W.heap.size W (bw W) := by
  subst hn
  exact ⟨fun W => (to_bytes W s hs).choose, fun W => (to_bytes W s hs).choose_spec.choose, fun W => (to_bytes W s hs).choose_spec.choose_spec.2.2⟩

/-- What holds of the worlds of the last region: the table, the row of the call's own, all that was there. -/
structure Wld (w : World) (g n : Nat) (l : List UInt8) (W : World) : Prop where
  tab : Tab W
  row : Byt W W.heap.size (some ⟨g, 0, none⟩) l
  bel : Below w.heap.size w W

theorem Wld.next {w : World} {g n : Nat} {l : List UInt8} {W W' : World} (h : Wld w g n l W) (hb : Below W.heap.size W W') : Wld w g n l W' :=
  ⟨h.tab.below hb h.tab.pos, (h.row.below hb).more hb.size, h.bel.trans (hb.mono h.bel.size)⟩
theorem Byt.next {A : Option Addr} {l : List UInt8} {W W' : World} (h : Byt W W.heap.size A l) (hb : Below W.heap.size W W') : Byt W' W'.heap.size A l := (h.below hb).more hb.size

theorem zip_take (a b c : ByteArray) (n : Nat) : (Lin a b c).take n = List.zipWith (· ^^^ ·) (List.zipWith (· ^^^ ·) (a.data.toList.take n) (b.data.toList.take n)) (c.data.toList.take n) := by
  unfold Lin
  rw [List.take_zipWith, List.take_zipWith]

theorem head_of (s : ByteArray) (k : Nat) (h : k ≤ s.size) : ∃ S : ByteArray, s.extract 0 k = S ∧ S.size = k ∧ S.data.toList = s.data.toList.take k := by
  refine ⟨_, rfl, ?_, ?_⟩
  · simp [ByteArray.size_extract]
    omega
  · rw [Lib.extract_data]
    simp

theorem any_listed {P : Program} {md : Region.Mode} {ops : Array Oper} {Q : Exit → Act → World → Prop} {n : Nat} {l l' : Array Bool} {a : Act} {w : World} (h : l = l') (H : wpAny P md ops Q n l' a w) : wpAny P md ops Q n l a w := by rw [h]; exact H
theorem name_any {P : Program} {md : Region.Mode} {ops : Array Oper} {Q : Exit → Act → World → Prop} {n : Nat} {l : Array Bool} {a : Act} {w : World} (h : ∀ F : Nat → Array Bool → Act → World → Prop, F = wpAny P md ops Q → F n l a w) : wpAny P md ops Q n l a w := h _ rfl
theorem name_act {F : Nat → Array Bool → Act → World → Prop} {n : Nat} {l : Array Bool} {b : Act} {w : World} (h : ∀ a : Act, a = b → F n l a w) : F n l b w := h _ rfl

set_option maxHeartbeats 20000000 in
theorem Linear_short (a0 a1 a2 : ByteArray) (n : Nat) (w : World) (ht : Tab w) (hs0 : a0.size ≤ 1000) (hs1 : a1.size ≤ 1000) (hs2 : a2.size ≤ 1000) (hn : min (min a0.size a1.size) a2.size = n) :
    Calls Tryd.prog 7 #[.string a0, .string a1, .string a2] w fun e w' => e = .returned (.bool true) ∧ Below w.heap.size w w' := by
  have hpos := ht.pos
  obtain ⟨i0, hi, hz0, hz1, hz2⟩ := info_parts u8_info
  have hn0 : n ≤ a0.size := by omega
  have hn1 : n ≤ a1.size := by omega
  have hn2 : n ≤ a2.size := by omega
  have Hn := hide hn
  clear hn
  go_enter Tryd.func7, Tryd.ntmps7
  go_wp2_with fail
  refine (awake_any w ht).mono ?_
  rintro r w1 ⟨rfl, hb1⟩
  go_upto_region 3 with fail
  go_cut [7] (fun s wx => s = .int .i64 (n : Int) ∧ wx = w1)
  case first =>
    go_wp2_with fail
    all_goals
      go_meet
      have hn := Hn.out
      refine ⟨?_, rfl⟩
      congr 1
      omega
  case rest =>
    obtain ⟨rfl, rfl⟩ := hcut
    rename_i wc
    have hmk := fun W => run_make (P := Tryd.prog) W 23 5 i0 (.int .u8 0) Tryd.underlying23 hi hz0 .i64 .i64 (n : Int) (n : Int) (by omega) (by omega) (by rw [hz2]; omega) (by omega)
    have hown0 := own_made wc n (by unfold maxLen; omega)
    have hbel0 := (Below.refl wc.heap.size wc).alloc (Nat.le_refl _) (.cells (madeCells #[.int .u8 0] n) 5)
    go_wp2
    go_loopw [38] (Lrn (Lin a0 a1 a2) wc.heap.size n wc) (fun i _ => n - (intOf i).toNat)
    case atStart => exact ⟨0, _, rfl, by omega, List.length_replicate, rfl, hown0, hbel0⟩
    case round =>
      clear hown0 hbel0 hmk
      obtain ⟨k, l, rfl, hk, hl, htk, hown, hbel⟩ := hrel
      by_cases hlt : k < n
      · obtain ⟨x, zx, hx, hzx, hzx1, hwx⟩ := byte_at a0 k (by omega)
        obtain ⟨y, zy, hy, hzy, hzy1, hwy⟩ := byte_at a1 k (by omega)
        obtain ⟨z, zz, hz, hzz, hzz1, hwz⟩ := byte_at a2 k (by omega)
        have hat := Lin_at a0 a1 a2 k x y z hx hy hz
        obtain ⟨u, hu⟩ : ∃ u : UInt8, x ^^^ y ^^^ z = u := ⟨_, rfl⟩
        rw [hu] at hat
        have Hnext := hide (take_set l (Lin a0 a1 a2) k u htk.out (by omega) hat)
        have f1 := u8_xor_nat zx zy hzx1 hzy1
        have f2 : bits .xor .u8 ((zx ^^^ zy : Nat) : Int) (zz : Int) = (u.toNat : Int) := by
          rw [u8_xor_nat _ _ (Nat.xor_lt_two_pow (n := 8) hzx1 hzy1) hzz1, ← hu, UInt8.toNat_xor, UInt8.toNat_xor, hzx, hzy, hzz]
        have hm1 : zx ^^^ zy < 256 := Nat.xor_lt_two_pow (n := 8) hzx1 hzy1
        have hcell : ∃ v : Nat, wr.cell? ⟨wc.heap.size, k, none⟩ = some (.int .u8 (v : Int)) := by
          have := World.ownsRow.cellAt (by unfold Own at hown; rw [hl] at hown; exact hown) k (by omega)
          exact ⟨(l[k]'(by omega)).toNat, by rw [this]; simp [cels, cel, List.getElem?_eq_getElem (show k < l.length by omega)]⟩
        obtain ⟨v, hcell⟩ := hcell
        have hfroz : wr.frozen? ⟨wc.heap.size, k, none⟩ = false := World.ownsRow.frozenAt (by unfold Own at hown; rw [hl] at hown; exact hown) k
        have R1 := hide (Own.store hown hl hlt u)
        have R2 := hide (hbel.setCell (p := ⟨wc.heap.size, k, none⟩) (Nat.le_refl _) (cel u))
        have hl2 : (l.set k u).length = n := by rw [List.length_set]; exact hl
        generalize zx ^^^ zy = m1 at *
        clear hx hy hz hzx hzy hzz hat hu htk hown hbel
        go_wp2
        go_region
        go_wp2
        go_roundw
        case rel => exact ⟨k + 1, l.set k u, by go_num, by omega, hl2, Hnext, World.ownsRow.drew R1.out, Below.drew R2.out⟩
        case measure => simp [intOf]; omega
      · have hkn : k = n := by omega
        subst hkn
        have e := htk.out
        rw [List.take_of_length_le (by omega), zip_take] at e
        have hrow : Byt wr wr.heap.size (some ⟨wc.heap.size, 0, none⟩) l := by
          obtain ⟨A, c, e, _, _, h⟩ := hown.form
          rw [hl] at e
          cases e
          exact h
        have hb1r := hb1.trans (hbel.mono hb1.size)
        have h0 : Wld w wc.heap.size k l wr.drew := ⟨ht.below hb1r.drew hpos, hrow, hb1r.drew⟩
        obtain ⟨SA, hSA, hSAn, hSAl⟩ := head_of a0 k hn0
        obtain ⟨SB, hSB, hSBn, hSBl⟩ := head_of a1 k hn1
        obtain ⟨SC, hSC, hSCn, hSCl⟩ := head_of a2 k hn2
        obtain ⟨bA, cA, hA⟩ := bytes_fun SA k hSAn (by unfold maxLen; omega)
        obtain ⟨bB, cB, hB⟩ := bytes_fun SB k hSBn (by unfold maxLen; omega)
        obtain ⟨bC, cC, hC⟩ := bytes_fun SC k hSCn (by unfold maxLen; omega)
        have hcA := fun W => (hA W).1
        have hcB := fun W => (hB W).1
        have hcC := fun W => (hC W).1
        have hfin := crc_three SA.data.toList SB.data.toList SC.data.toList (by rw [size_eq, size_eq]; omega) (by rw [size_eq, size_eq]; omega)
        rw [hSAl, hSBl, hSCl, ← e, ← hSAl, ← hSBl, ← hSCl] at hfin
        have lA := crc_lt SA.data.toList
        have lB := crc_lt SB.data.toList
        have lC := crc_lt SC.data.toList
        have OX : Hid (∀ V, Wld w wc.heap.size k l V → Calls Tryd.prog 14 #[.slice (some ⟨wc.heap.size, 0, none⟩) k k] V fun e w' => e = .returned (.int .u32 ((crc l : Nat) : Int)) ∧ V = w') :=
          fun V hV => Of_any _ k k _ l V hl (by unfold maxLen; omega) hV.tab hV.row
        have OA : Hid (∀ W V, Wld w wc.heap.size k l V → Byt V V.heap.size (some ⟨W.heap.size, 0, none⟩) SA.data.toList → Calls Tryd.prog 14 #[.slice (some ⟨W.heap.size, 0, none⟩) k (cA W)] V fun e w' => e = .returned (.int .u32 ((crc SA.data.toList : Nat) : Int)) ∧ V = w') :=
          fun W V hV hb => Of_any _ k (cA W) _ _ V (by rw [size_eq]; exact hSAn) (by unfold maxLen; omega) hV.tab hb
        have OB : Hid (∀ W V, Wld w wc.heap.size k l V → Byt V V.heap.size (some ⟨W.heap.size, 0, none⟩) SB.data.toList → Calls Tryd.prog 14 #[.slice (some ⟨W.heap.size, 0, none⟩) k (cB W)] V fun e w' => e = .returned (.int .u32 ((crc SB.data.toList : Nat) : Int)) ∧ V = w') :=
          fun W V hV hb => Of_any _ k (cB W) _ _ V (by rw [size_eq]; exact hSBn) (by unfold maxLen; omega) hV.tab hb
        have OC : Hid (∀ W V, Wld w wc.heap.size k l V → Byt V V.heap.size (some ⟨W.heap.size, 0, none⟩) SC.data.toList → Calls Tryd.prog 14 #[.slice (some ⟨W.heap.size, 0, none⟩) k (cC W)] V fun e w' => e = .returned (.int .u32 ((crc SC.data.toList : Nat) : Int)) ∧ V = w') :=
          fun W V hV hb => Of_any _ k (cC W) _ _ V (by rw [size_eq]; exact hSCn) (by unfold maxLen; omega) hV.tab hb
        have H0 := hide h0
        have nA := hide (fun W => (hA W).2.2)
        have nB := hide (fun W => (hB W).2.2)
        have nC := hide (fun W => (hC W).2.2)
        have yA := hide (fun W => (hA W).2.1)
        have yB := hide (fun W => (hB W).2.1)
        have yC := hide (fun W => (hC W).2.1)
        have e1 := u32_xor_nat _ _ lA lB
        have e2 := u32_xor_nat _ _ (xor_lt _ _ lA lB) lC
        rw [← hfin] at e2
        clear hA hB hC hSAl hSBl hSCl hSAn hSBn hSCn h0 hb1r hrow hown hbel htk e hfin
        generalize crc SA.data.toList ^^^ crc SB.data.toList = m2 at *
        generalize crc l = cX at *
        generalize crc SA.data.toList = qA at *
        generalize crc SB.data.toList = qB at *
        generalize crc SC.data.toList = qC at *
        generalize SA.data.toList = LA at *
        generalize SB.data.toList = LB at *
        generalize SC.data.toList = LC at *
        clear hs0 hs1 hs2 hz0 hz1 hz2 hi Hn hb1 ht hpos lA lB lC
        go_wp2_with fail
        refine wp_region_any (by kernel_rfl) ?_
        change wpAny _ _ _ _ _ _ _ (World.drew _)
        refine wpAny_take (i := 0) (oi := ⟨some 56, _, _, _, _, _⟩) (v := ?_) rfl (by kernel_rfl) (by kernel_rfl) (by kernel_rfl) (fun _ _ _ h => h) (Or.inl ⟨by rfl, ?_⟩) ?_
        rotate_left 1
        · (intro w; go_simp; try with_reducible rfl)
        simp only [Act.put, List.setIfInBounds_toArray, List.set_cons_zero, List.set_cons_succ]
        refine wpAny_take (i := 2) (oi := ⟨some 58, _, _, _, _, _⟩) (v := ?_) rfl (by kernel_rfl) (by kernel_rfl) (by kernel_rfl) (fun _ _ _ h => h) (Or.inl ⟨by rfl, ?_⟩) ?_
        rotate_left 1
        · (intro w; go_simp; try with_reducible rfl)
        simp only [Act.put, List.setIfInBounds_toArray, List.set_cons_zero, List.set_cons_succ]
        refine wpAny_take (i := 3) (oi := ⟨some 59, _, _, _, _, _⟩) (v := ?_) rfl (by kernel_rfl) (by kernel_rfl) (by kernel_rfl) (fun _ _ _ h => h) (Or.inl ⟨by rfl, ?_⟩) ?_
        rotate_left 1
        · (intro w; go_simp; try with_reducible rfl)
        simp only [Act.put, List.setIfInBounds_toArray, List.set_cons_zero, List.set_cons_succ]
        refine wpAny_take (i := 4) (oi := ⟨some 60, _, _, _, _, _⟩) (v := ?_) rfl (by kernel_rfl) (by kernel_rfl) (by kernel_rfl) (fun _ _ _ h => h) (Or.inl ⟨by rfl, ?_⟩) ?_
        rotate_left 1
        · (intro w; go_simp; try with_reducible rfl)
        simp only [Act.put, List.setIfInBounds_toArray, List.set_cons_zero, List.set_cons_succ]
        refine wpAny_take (i := 7) (oi := ⟨some 63, _, _, _, _, _⟩) (v := ?_) rfl (by kernel_rfl) (by kernel_rfl) (by kernel_rfl) (fun _ _ _ h => h) (Or.inl ⟨by rfl, ?_⟩) ?_
        rotate_left 1
        · (intro w; go_simp; try with_reducible rfl)
        simp only [Act.put, List.setIfInBounds_toArray, List.set_cons_zero, List.set_cons_succ]
        refine wpAny_take (i := 8) (oi := ⟨some 64, _, _, _, _, _⟩) (v := ?_) rfl (by kernel_rfl) (by kernel_rfl) (by kernel_rfl) (fun _ _ _ h => h) (Or.inl ⟨by rfl, ?_⟩) ?_
        rotate_left 1
        · (intro w; go_simp; try with_reducible rfl)
        simp only [Act.put, List.setIfInBounds_toArray, List.set_cons_zero, List.set_cons_succ]
        refine wpAny_take (i := 9) (oi := ⟨some 65, _, _, _, _, _⟩) (v := ?_) rfl (by kernel_rfl) (by kernel_rfl) (by kernel_rfl) (fun _ _ _ h => h) (Or.inl ⟨by rfl, ?_⟩) ?_
        rotate_left 1
        · (intro w; go_simp; try with_reducible rfl)
        simp only [Act.put, List.setIfInBounds_toArray, List.set_cons_zero, List.set_cons_succ]
        refine wpAny_take (i := 13) (oi := ⟨some 69, _, _, _, _, _⟩) (v := ?_) rfl (by kernel_rfl) (by kernel_rfl) (by kernel_rfl) (fun _ _ _ h => h) (Or.inl ⟨by rfl, ?_⟩) ?_
        rotate_left 1
        · (intro w; go_simp; try with_reducible rfl)
        simp only [Act.put, List.setIfInBounds_toArray, List.set_cons_zero, List.set_cons_succ]
        refine wpAny_take (i := 14) (oi := ⟨some 70, _, _, _, _, _⟩) (v := ?_) rfl (by kernel_rfl) (by kernel_rfl) (by kernel_rfl) (fun _ _ _ h => h) (Or.inl ⟨by rfl, ?_⟩) ?_
        rotate_left 1
        · (intro w; go_simp; try with_reducible rfl)
        simp only [Act.put, List.setIfInBounds_toArray, List.set_cons_zero, List.set_cons_succ]
        refine wpAny_take (i := 15) (oi := ⟨some 71, _, _, _, _, _⟩) (v := ?_) rfl (by kernel_rfl) (by kernel_rfl) (by kernel_rfl) (fun _ _ _ h => h) (Or.inl ⟨by rfl, ?_⟩) ?_
        rotate_left 1
        · (intro w; go_simp; try with_reducible rfl)
        simp only [Act.put, List.setIfInBounds_toArray, List.set_cons_zero, List.set_cons_succ]
        refine any_listed (l' := #[true, false, true, true, true, false, false, true, true, true, false, false, false, true, true, true, false, false, false, false, false]) (by kernel_rfl) ?_
        refine name_any fun F hF => ?_
        refine name_act fun a ha => ?_
        have key3ABC : ∀ (V WA WB WC : World), Wld w wc.heap.size k l V → Byt V V.heap.size (some ⟨WA.heap.size, 0, none⟩) LA → Byt V V.heap.size (some ⟨WB.heap.size, 0, none⟩) LB → Byt V V.heap.size (some ⟨WC.heap.size, 0, none⟩) LC → F 4 #[true, true, true, true, true, true, true, true, true, true, true, true, true, true, true, true, true, false, false, false, false] (Act.put (Act.put (Act.put (Act.put (Act.put (Act.put (Act.put a (some 57) (.int .u32 (cX : Int))) (some 61) (.slice (some ⟨WA.heap.size, 0, none⟩) k (cA WA))) (some 62) (.int .u32 (qA : Int))) (some 66) (.slice (some ⟨WB.heap.size, 0, none⟩) k (cB WB))) (some 67) (.int .u32 (qB : Int))) (some 68) (.int .u32 (m2 : Int))) (some 72) (.slice (some ⟨WC.heap.size, 0, none⟩) k (cC WC))) V := by
          intro V WA WB WC hV bA bB bC
          rw [hF, ha]
          simp only [Act.put, List.setIfInBounds_toArray, List.set_cons_zero, List.set_cons_succ]
          refine wpAny_ready (rs := [17]) (by kernel_rfl) (by simp) ?_
          refine AllReady.cons (o := ⟨some 73, _, _, _, _, _⟩) rfl (fun K hK => ?_) AllReady.nil
          · go_simp
            refine (OC.out WC V hV bC).mono ?_
            rintro r w' ⟨rfl, rfl⟩
            refine hK _ _ ?_
            clear hK K
            refine wpAny_take (i := 18) (oi := ⟨some 74, _, _, _, _, _⟩) (v := ?_) rfl (by kernel_rfl) (by kernel_rfl) (by kernel_rfl) (fun _ _ _ h => h) (Or.inl ⟨by rfl, ?_⟩) ?_
            rotate_left 1
            · (intro w; go_simp; try with_reducible rfl)
            simp only [Act.put, List.setIfInBounds_toArray, List.set_cons_zero, List.set_cons_succ]
            refine wpAny_take (i := 19) (oi := ⟨some 75, _, _, _, _, _⟩) (v := ?_) rfl (by kernel_rfl) (by kernel_rfl) (by kernel_rfl) (fun _ _ _ h => h) (Or.inl ⟨by rfl, ?_⟩) ?_
            rotate_left 1
            · (intro w; go_simp; try with_reducible rfl)
            simp only [Act.put, List.setIfInBounds_toArray, List.set_cons_zero, List.set_cons_succ]
            refine wpAny_take (i := 20) (oi := ⟨some 6, _, _, _, _, _⟩) (v := ?_) rfl (by kernel_rfl) (by kernel_rfl) (by kernel_rfl) (fun _ _ _ h => h) (Or.inl ⟨by rfl, ?_⟩) ?_
            rotate_left 1
            · (intro w; go_simp; try with_reducible rfl)
            simp only [Act.put, List.setIfInBounds_toArray, List.set_cons_zero, List.set_cons_succ]
            refine wpAny_done (by kernel_rfl) ?_ _
            go_wp2
            go_ret
            exact ⟨rfl, hV.bel⟩
        have key3AB : ∀ (V WA WB : World), Wld w wc.heap.size k l V → Byt V V.heap.size (some ⟨WA.heap.size, 0, none⟩) LA → Byt V V.heap.size (some ⟨WB.heap.size, 0, none⟩) LB → F 5 #[true, true, true, true, true, true, true, true, true, true, true, true, true, true, true, true, false, false, false, false, false] (Act.put (Act.put (Act.put (Act.put (Act.put (Act.put a (some 57) (.int .u32 (cX : Int))) (some 61) (.slice (some ⟨WA.heap.size, 0, none⟩) k (cA WA))) (some 62) (.int .u32 (qA : Int))) (some 66) (.slice (some ⟨WB.heap.size, 0, none⟩) k (cB WB))) (some 67) (.int .u32 (qB : Int))) (some 68) (.int .u32 (m2 : Int))) V := by
          intro V WA WB hV bA bB
          rw [hF, ha]
          simp only [Act.put, List.setIfInBounds_toArray, List.set_cons_zero, List.set_cons_succ]
          refine wpAny_ready (rs := [16]) (by kernel_rfl) (by simp) ?_
          refine AllReady.cons (o := ⟨some 72, _, _, _, _, _⟩) rfl (fun K hK => ?_) AllReady.nil
          · go_simp
            refine hK _ _ ?_
            clear hK K
            have hk := key3ABC (bC V) WA WB V (hV.next (nC.out V)) (Byt.next bA (nC.out V)) (Byt.next bB (nC.out V)) (yC.out V)
            rw [hF, ha] at hk
            simp only [Act.put, List.setIfInBounds_toArray, List.set_cons_zero, List.set_cons_succ] at hk
            exact any_listed (by kernel_rfl) hk
        have key2ABC : ∀ (V WA WB WC : World), Wld w wc.heap.size k l V → Byt V V.heap.size (some ⟨WA.heap.size, 0, none⟩) LA → Byt V V.heap.size (some ⟨WB.heap.size, 0, none⟩) LB → Byt V V.heap.size (some ⟨WC.heap.size, 0, none⟩) LC → F 6 #[true, true, true, true, true, true, true, true, true, true, true, false, false, true, true, true, true, false, false, false, false] (Act.put (Act.put (Act.put (Act.put (Act.put a (some 57) (.int .u32 (cX : Int))) (some 61) (.slice (some ⟨WA.heap.size, 0, none⟩) k (cA WA))) (some 62) (.int .u32 (qA : Int))) (some 66) (.slice (some ⟨WB.heap.size, 0, none⟩) k (cB WB))) (some 72) (.slice (some ⟨WC.heap.size, 0, none⟩) k (cC WC))) V := by
          intro V WA WB WC hV bA bB bC
          rw [hF, ha]
          simp only [Act.put, List.setIfInBounds_toArray, List.set_cons_zero, List.set_cons_succ]
          refine wpAny_ready (rs := [11]) (by kernel_rfl) (by simp) ?_
          refine AllReady.cons (o := ⟨some 67, _, _, _, _, _⟩) rfl (fun K hK => ?_) AllReady.nil
          · go_simp
            refine (OB.out WB V hV bB).mono ?_
            rintro r w' ⟨rfl, rfl⟩
            refine hK _ _ ?_
            clear hK K
            refine wpAny_take (i := 12) (oi := ⟨some 68, _, _, _, _, _⟩) (v := ?_) rfl (by kernel_rfl) (by kernel_rfl) (by kernel_rfl) (fun _ _ _ h => h) (Or.inl ⟨by rfl, ?_⟩) ?_
            rotate_left 1
            · (intro w; go_simp; try with_reducible rfl)
            simp only [Act.put, List.setIfInBounds_toArray, List.set_cons_zero, List.set_cons_succ]
            have hk := key3ABC V WA WB WC hV bA bB bC
            rw [hF, ha] at hk
            simp only [Act.put, List.setIfInBounds_toArray, List.set_cons_zero, List.set_cons_succ] at hk
            exact any_listed (by kernel_rfl) hk
        have key2AB : ∀ (V WA WB : World), Wld w wc.heap.size k l V → Byt V V.heap.size (some ⟨WA.heap.size, 0, none⟩) LA → Byt V V.heap.size (some ⟨WB.heap.size, 0, none⟩) LB → F 7 #[true, true, true, true, true, true, true, true, true, true, true, false, false, true, true, true, false, false, false, false, false] (Act.put (Act.put (Act.put (Act.put a (some 57) (.int .u32 (cX : Int))) (some 61) (.slice (some ⟨WA.heap.size, 0, none⟩) k (cA WA))) (some 62) (.int .u32 (qA : Int))) (some 66) (.slice (some ⟨WB.heap.size, 0, none⟩) k (cB WB))) V := by
          intro V WA WB hV bA bB
          rw [hF, ha]
          simp only [Act.put, List.setIfInBounds_toArray, List.set_cons_zero, List.set_cons_succ]
          refine wpAny_ready (rs := [11, 16]) (by kernel_rfl) (by simp) ?_
          refine AllReady.cons (o := ⟨some 67, _, _, _, _, _⟩) rfl (fun K hK => ?_) (AllReady.cons (o := ⟨some 72, _, _, _, _, _⟩) rfl (fun K hK => ?_) AllReady.nil)
          · go_simp
            refine (OB.out WB V hV bB).mono ?_
            rintro r w' ⟨rfl, rfl⟩
            refine hK _ _ ?_
            clear hK K
            refine wpAny_take (i := 12) (oi := ⟨some 68, _, _, _, _, _⟩) (v := ?_) rfl (by kernel_rfl) (by kernel_rfl) (by kernel_rfl) (fun _ _ _ h => h) (Or.inl ⟨by rfl, ?_⟩) ?_
            rotate_left 1
            · (intro w; go_simp; try with_reducible rfl)
            simp only [Act.put, List.setIfInBounds_toArray, List.set_cons_zero, List.set_cons_succ]
            have hk := key3AB V WA WB hV bA bB
            rw [hF, ha] at hk
            simp only [Act.put, List.setIfInBounds_toArray, List.set_cons_zero, List.set_cons_succ] at hk
            exact any_listed (by kernel_rfl) hk
          · go_simp
            refine hK _ _ ?_
            clear hK K
            have hk := key2ABC (bC V) WA WB V (hV.next (nC.out V)) (Byt.next bA (nC.out V)) (Byt.next bB (nC.out V)) (yC.out V)
            rw [hF, ha] at hk
            simp only [Act.put, List.setIfInBounds_toArray, List.set_cons_zero, List.set_cons_succ] at hk
            exact any_listed (by kernel_rfl) hk
        have key2AC : ∀ (V WA WC : World), Wld w wc.heap.size k l V → Byt V V.heap.size (some ⟨WA.heap.size, 0, none⟩) LA → Byt V V.heap.size (some ⟨WC.heap.size, 0, none⟩) LC → F 7 #[true, true, true, true, true, true, true, true, true, true, false, false, false, true, true, true, true, false, false, false, false] (Act.put (Act.put (Act.put (Act.put a (some 57) (.int .u32 (cX : Int))) (some 61) (.slice (some ⟨WA.heap.size, 0, none⟩) k (cA WA))) (some 62) (.int .u32 (qA : Int))) (some 72) (.slice (some ⟨WC.heap.size, 0, none⟩) k (cC WC))) V := by
          intro V WA WC hV bA bC
          rw [hF, ha]
          simp only [Act.put, List.setIfInBounds_toArray, List.set_cons_zero, List.set_cons_succ]
          refine wpAny_ready (rs := [10]) (by kernel_rfl) (by simp) ?_
          refine AllReady.cons (o := ⟨some 66, _, _, _, _, _⟩) rfl (fun K hK => ?_) AllReady.nil
          · go_simp
            refine hK _ _ ?_
            clear hK K
            have hk := key2ABC (bB V) WA V WC (hV.next (nB.out V)) (Byt.next bA (nB.out V)) (yB.out V) (Byt.next bC (nB.out V))
            rw [hF, ha] at hk
            simp only [Act.put, List.setIfInBounds_toArray, List.set_cons_zero, List.set_cons_succ] at hk
            exact any_listed (by kernel_rfl) hk
        have key2A : ∀ (V WA : World), Wld w wc.heap.size k l V → Byt V V.heap.size (some ⟨WA.heap.size, 0, none⟩) LA → F 8 #[true, true, true, true, true, true, true, true, true, true, false, false, false, true, true, true, false, false, false, false, false] (Act.put (Act.put (Act.put a (some 57) (.int .u32 (cX : Int))) (some 61) (.slice (some ⟨WA.heap.size, 0, none⟩) k (cA WA))) (some 62) (.int .u32 (qA : Int))) V := by
          intro V WA hV bA
          rw [hF, ha]
          simp only [Act.put, List.setIfInBounds_toArray, List.set_cons_zero, List.set_cons_succ]
          refine wpAny_ready (rs := [10, 16]) (by kernel_rfl) (by simp) ?_
          refine AllReady.cons (o := ⟨some 66, _, _, _, _, _⟩) rfl (fun K hK => ?_) (AllReady.cons (o := ⟨some 72, _, _, _, _, _⟩) rfl (fun K hK => ?_) AllReady.nil)
          · go_simp
            refine hK _ _ ?_
            clear hK K
            have hk := key2AB (bB V) WA V (hV.next (nB.out V)) (Byt.next bA (nB.out V)) (yB.out V)
            rw [hF, ha] at hk
            simp only [Act.put, List.setIfInBounds_toArray, List.set_cons_zero, List.set_cons_succ] at hk
            exact any_listed (by kernel_rfl) hk
          · go_simp
            refine hK _ _ ?_
            clear hK K
            have hk := key2AC (bC V) WA V (hV.next (nC.out V)) (Byt.next bA (nC.out V)) (yC.out V)
            rw [hF, ha] at hk
            simp only [Act.put, List.setIfInBounds_toArray, List.set_cons_zero, List.set_cons_succ] at hk
            exact any_listed (by kernel_rfl) hk
        have key1ABC : ∀ (V WA WB WC : World), Wld w wc.heap.size k l V → Byt V V.heap.size (some ⟨WA.heap.size, 0, none⟩) LA → Byt V V.heap.size (some ⟨WB.heap.size, 0, none⟩) LB → Byt V V.heap.size (some ⟨WC.heap.size, 0, none⟩) LC → F 7 #[true, true, true, true, true, true, false, true, true, true, true, false, false, true, true, true, true, false, false, false, false] (Act.put (Act.put (Act.put (Act.put a (some 57) (.int .u32 (cX : Int))) (some 61) (.slice (some ⟨WA.heap.size, 0, none⟩) k (cA WA))) (some 66) (.slice (some ⟨WB.heap.size, 0, none⟩) k (cB WB))) (some 72) (.slice (some ⟨WC.heap.size, 0, none⟩) k (cC WC))) V := by
          intro V WA WB WC hV bA bB bC
          rw [hF, ha]
          simp only [Act.put, List.setIfInBounds_toArray, List.set_cons_zero, List.set_cons_succ]
          refine wpAny_ready (rs := [6]) (by kernel_rfl) (by simp) ?_
          refine AllReady.cons (o := ⟨some 62, _, _, _, _, _⟩) rfl (fun K hK => ?_) AllReady.nil
          · go_simp
            refine (OA.out WA V hV bA).mono ?_
            rintro r w' ⟨rfl, rfl⟩
            refine hK _ _ ?_
            clear hK K
            have hk := key2ABC V WA WB WC hV bA bB bC
            rw [hF, ha] at hk
            simp only [Act.put, List.setIfInBounds_toArray, List.set_cons_zero, List.set_cons_succ] at hk
            exact any_listed (by kernel_rfl) hk
        have key1AB : ∀ (V WA WB : World), Wld w wc.heap.size k l V → Byt V V.heap.size (some ⟨WA.heap.size, 0, none⟩) LA → Byt V V.heap.size (some ⟨WB.heap.size, 0, none⟩) LB → F 8 #[true, true, true, true, true, true, false, true, true, true, true, false, false, true, true, true, false, false, false, false, false] (Act.put (Act.put (Act.put a (some 57) (.int .u32 (cX : Int))) (some 61) (.slice (some ⟨WA.heap.size, 0, none⟩) k (cA WA))) (some 66) (.slice (some ⟨WB.heap.size, 0, none⟩) k (cB WB))) V := by
          intro V WA WB hV bA bB
          rw [hF, ha]
          simp only [Act.put, List.setIfInBounds_toArray, List.set_cons_zero, List.set_cons_succ]
          refine wpAny_ready (rs := [6, 16]) (by kernel_rfl) (by simp) ?_
          refine AllReady.cons (o := ⟨some 62, _, _, _, _, _⟩) rfl (fun K hK => ?_) (AllReady.cons (o := ⟨some 72, _, _, _, _, _⟩) rfl (fun K hK => ?_) AllReady.nil)
          · go_simp
            refine (OA.out WA V hV bA).mono ?_
            rintro r w' ⟨rfl, rfl⟩
            refine hK _ _ ?_
            clear hK K
            have hk := key2AB V WA WB hV bA bB
            rw [hF, ha] at hk
            simp only [Act.put, List.setIfInBounds_toArray, List.set_cons_zero, List.set_cons_succ] at hk
            exact any_listed (by kernel_rfl) hk
          · go_simp
            refine hK _ _ ?_
            clear hK K
            have hk := key1ABC (bC V) WA WB V (hV.next (nC.out V)) (Byt.next bA (nC.out V)) (Byt.next bB (nC.out V)) (yC.out V)
            rw [hF, ha] at hk
            simp only [Act.put, List.setIfInBounds_toArray, List.set_cons_zero, List.set_cons_succ] at hk
            exact any_listed (by kernel_rfl) hk
        have key1AC : ∀ (V WA WC : World), Wld w wc.heap.size k l V → Byt V V.heap.size (some ⟨WA.heap.size, 0, none⟩) LA → Byt V V.heap.size (some ⟨WC.heap.size, 0, none⟩) LC → F 8 #[true, true, true, true, true, true, false, true, true, true, false, false, false, true, true, true, true, false, false, false, false] (Act.put (Act.put (Act.put a (some 57) (.int .u32 (cX : Int))) (some 61) (.slice (some ⟨WA.heap.size, 0, none⟩) k (cA WA))) (some 72) (.slice (some ⟨WC.heap.size, 0, none⟩) k (cC WC))) V := by
          intro V WA WC hV bA bC
          rw [hF, ha]
          simp only [Act.put, List.setIfInBounds_toArray, List.set_cons_zero, List.set_cons_succ]
          refine wpAny_ready (rs := [6, 10]) (by kernel_rfl) (by simp) ?_
          refine AllReady.cons (o := ⟨some 62, _, _, _, _, _⟩) rfl (fun K hK => ?_) (AllReady.cons (o := ⟨some 66, _, _, _, _, _⟩) rfl (fun K hK => ?_) AllReady.nil)
          · go_simp
            refine (OA.out WA V hV bA).mono ?_
            rintro r w' ⟨rfl, rfl⟩
            refine hK _ _ ?_
            clear hK K
            have hk := key2AC V WA WC hV bA bC
            rw [hF, ha] at hk
            simp only [Act.put, List.setIfInBounds_toArray, List.set_cons_zero, List.set_cons_succ] at hk
            exact any_listed (by kernel_rfl) hk
          · go_simp
            refine hK _ _ ?_
            clear hK K
            have hk := key1ABC (bB V) WA V WC (hV.next (nB.out V)) (Byt.next bA (nB.out V)) (yB.out V) (Byt.next bC (nB.out V))
            rw [hF, ha] at hk
            simp only [Act.put, List.setIfInBounds_toArray, List.set_cons_zero, List.set_cons_succ] at hk
            exact any_listed (by kernel_rfl) hk
        have key1BC : ∀ (V WB WC : World), Wld w wc.heap.size k l V → Byt V V.heap.size (some ⟨WB.heap.size, 0, none⟩) LB → Byt V V.heap.size (some ⟨WC.heap.size, 0, none⟩) LC → F 8 #[true, true, true, true, true, false, false, true, true, true, true, false, false, true, true, true, true, false, false, false, false] (Act.put (Act.put (Act.put a (some 57) (.int .u32 (cX : Int))) (some 66) (.slice (some ⟨WB.heap.size, 0, none⟩) k (cB WB))) (some 72) (.slice (some ⟨WC.heap.size, 0, none⟩) k (cC WC))) V := by
          intro V WB WC hV bB bC
          rw [hF, ha]
          simp only [Act.put, List.setIfInBounds_toArray, List.set_cons_zero, List.set_cons_succ]
          refine wpAny_ready (rs := [5]) (by kernel_rfl) (by simp) ?_
          refine AllReady.cons (o := ⟨some 61, _, _, _, _, _⟩) rfl (fun K hK => ?_) AllReady.nil
          · go_simp
            refine hK _ _ ?_
            clear hK K
            have hk := key1ABC (bA V) V WB WC (hV.next (nA.out V)) (yA.out V) (Byt.next bB (nA.out V)) (Byt.next bC (nA.out V))
            rw [hF, ha] at hk
            simp only [Act.put, List.setIfInBounds_toArray, List.set_cons_zero, List.set_cons_succ] at hk
            exact any_listed (by kernel_rfl) hk
        have key1A : ∀ (V WA : World), Wld w wc.heap.size k l V → Byt V V.heap.size (some ⟨WA.heap.size, 0, none⟩) LA → F 9 #[true, true, true, true, true, true, false, true, true, true, false, false, false, true, true, true, false, false, false, false, false] (Act.put (Act.put a (some 57) (.int .u32 (cX : Int))) (some 61) (.slice (some ⟨WA.heap.size, 0, none⟩) k (cA WA))) V := by
          intro V WA hV bA
          rw [hF, ha]
          simp only [Act.put, List.setIfInBounds_toArray, List.set_cons_zero, List.set_cons_succ]
          refine wpAny_ready (rs := [6, 10, 16]) (by kernel_rfl) (by simp) ?_
          refine AllReady.cons (o := ⟨some 62, _, _, _, _, _⟩) rfl (fun K hK => ?_) (AllReady.cons (o := ⟨some 66, _, _, _, _, _⟩) rfl (fun K hK => ?_) (AllReady.cons (o := ⟨some 72, _, _, _, _, _⟩) rfl (fun K hK => ?_) AllReady.nil))
          · go_simp
            refine (OA.out WA V hV bA).mono ?_
            rintro r w' ⟨rfl, rfl⟩
            refine hK _ _ ?_
            clear hK K
            have hk := key2A V WA hV bA
            rw [hF, ha] at hk
            simp only [Act.put, List.setIfInBounds_toArray, List.set_cons_zero, List.set_cons_succ] at hk
            exact any_listed (by kernel_rfl) hk
          · go_simp
            refine hK _ _ ?_
            clear hK K
            have hk := key1AB (bB V) WA V (hV.next (nB.out V)) (Byt.next bA (nB.out V)) (yB.out V)
            rw [hF, ha] at hk
            simp only [Act.put, List.setIfInBounds_toArray, List.set_cons_zero, List.set_cons_succ] at hk
            exact any_listed (by kernel_rfl) hk
          · go_simp
            refine hK _ _ ?_
            clear hK K
            have hk := key1AC (bC V) WA V (hV.next (nC.out V)) (Byt.next bA (nC.out V)) (yC.out V)
            rw [hF, ha] at hk
            simp only [Act.put, List.setIfInBounds_toArray, List.set_cons_zero, List.set_cons_succ] at hk
            exact any_listed (by kernel_rfl) hk
        have key1B : ∀ (V WB : World), Wld w wc.heap.size k l V → Byt V V.heap.size (some ⟨WB.heap.size, 0, none⟩) LB → F 9 #[true, true, true, true, true, false, false, true, true, true, true, false, false, true, true, true, false, false, false, false, false] (Act.put (Act.put a (some 57) (.int .u32 (cX : Int))) (some 66) (.slice (some ⟨WB.heap.size, 0, none⟩) k (cB WB))) V := by
          intro V WB hV bB
          rw [hF, ha]
          simp only [Act.put, List.setIfInBounds_toArray, List.set_cons_zero, List.set_cons_succ]
          refine wpAny_ready (rs := [5, 16]) (by kernel_rfl) (by simp) ?_
          refine AllReady.cons (o := ⟨some 61, _, _, _, _, _⟩) rfl (fun K hK => ?_) (AllReady.cons (o := ⟨some 72, _, _, _, _, _⟩) rfl (fun K hK => ?_) AllReady.nil)
          · go_simp
            refine hK _ _ ?_
            clear hK K
            have hk := key1AB (bA V) V WB (hV.next (nA.out V)) (yA.out V) (Byt.next bB (nA.out V))
            rw [hF, ha] at hk
            simp only [Act.put, List.setIfInBounds_toArray, List.set_cons_zero, List.set_cons_succ] at hk
            exact any_listed (by kernel_rfl) hk
          · go_simp
            refine hK _ _ ?_
            clear hK K
            have hk := key1BC (bC V) WB V (hV.next (nC.out V)) (Byt.next bB (nC.out V)) (yC.out V)
            rw [hF, ha] at hk
            simp only [Act.put, List.setIfInBounds_toArray, List.set_cons_zero, List.set_cons_succ] at hk
            exact any_listed (by kernel_rfl) hk
        have key1C : ∀ (V WC : World), Wld w wc.heap.size k l V → Byt V V.heap.size (some ⟨WC.heap.size, 0, none⟩) LC → F 9 #[true, true, true, true, true, false, false, true, true, true, false, false, false, true, true, true, true, false, false, false, false] (Act.put (Act.put a (some 57) (.int .u32 (cX : Int))) (some 72) (.slice (some ⟨WC.heap.size, 0, none⟩) k (cC WC))) V := by
          intro V WC hV bC
          rw [hF, ha]
          simp only [Act.put, List.setIfInBounds_toArray, List.set_cons_zero, List.set_cons_succ]
          refine wpAny_ready (rs := [5, 10]) (by kernel_rfl) (by simp) ?_
          refine AllReady.cons (o := ⟨some 61, _, _, _, _, _⟩) rfl (fun K hK => ?_) (AllReady.cons (o := ⟨some 66, _, _, _, _, _⟩) rfl (fun K hK => ?_) AllReady.nil)
          · go_simp
            refine hK _ _ ?_
            clear hK K
            have hk := key1AC (bA V) V WC (hV.next (nA.out V)) (yA.out V) (Byt.next bC (nA.out V))
            rw [hF, ha] at hk
            simp only [Act.put, List.setIfInBounds_toArray, List.set_cons_zero, List.set_cons_succ] at hk
            exact any_listed (by kernel_rfl) hk
          · go_simp
            refine hK _ _ ?_
            clear hK K
            have hk := key1BC (bB V) V WC (hV.next (nB.out V)) (yB.out V) (Byt.next bC (nB.out V))
            rw [hF, ha] at hk
            simp only [Act.put, List.setIfInBounds_toArray, List.set_cons_zero, List.set_cons_succ] at hk
            exact any_listed (by kernel_rfl) hk
        have key1 : ∀ (V : World), Wld w wc.heap.size k l V → F 10 #[true, true, true, true, true, false, false, true, true, true, false, false, false, true, true, true, false, false, false, false, false] (Act.put a (some 57) (.int .u32 (cX : Int))) V := by
          intro V  hV 
          rw [hF, ha]
          simp only [Act.put, List.setIfInBounds_toArray, List.set_cons_zero, List.set_cons_succ]
          refine wpAny_ready (rs := [5, 10, 16]) (by kernel_rfl) (by simp) ?_
          refine AllReady.cons (o := ⟨some 61, _, _, _, _, _⟩) rfl (fun K hK => ?_) (AllReady.cons (o := ⟨some 66, _, _, _, _, _⟩) rfl (fun K hK => ?_) (AllReady.cons (o := ⟨some 72, _, _, _, _, _⟩) rfl (fun K hK => ?_) AllReady.nil))
          · go_simp
            refine hK _ _ ?_
            clear hK K
            have hk := key1A (bA V) V (hV.next (nA.out V)) (yA.out V)
            rw [hF, ha] at hk
            simp only [Act.put, List.setIfInBounds_toArray, List.set_cons_zero, List.set_cons_succ] at hk
            exact any_listed (by kernel_rfl) hk
          · go_simp
            refine hK _ _ ?_
            clear hK K
            have hk := key1B (bB V) V (hV.next (nB.out V)) (yB.out V)
            rw [hF, ha] at hk
            simp only [Act.put, List.setIfInBounds_toArray, List.set_cons_zero, List.set_cons_succ] at hk
            exact any_listed (by kernel_rfl) hk
          · go_simp
            refine hK _ _ ?_
            clear hK K
            have hk := key1C (bC V) V (hV.next (nC.out V)) (yC.out V)
            rw [hF, ha] at hk
            simp only [Act.put, List.setIfInBounds_toArray, List.set_cons_zero, List.set_cons_succ] at hk
            exact any_listed (by kernel_rfl) hk
        have key0ABC : ∀ (V WA WB WC : World), Wld w wc.heap.size k l V → Byt V V.heap.size (some ⟨WA.heap.size, 0, none⟩) LA → Byt V V.heap.size (some ⟨WB.heap.size, 0, none⟩) LB → Byt V V.heap.size (some ⟨WC.heap.size, 0, none⟩) LC → F 8 #[true, false, true, true, true, true, false, true, true, true, true, false, false, true, true, true, true, false, false, false, false] (Act.put (Act.put (Act.put a (some 61) (.slice (some ⟨WA.heap.size, 0, none⟩) k (cA WA))) (some 66) (.slice (some ⟨WB.heap.size, 0, none⟩) k (cB WB))) (some 72) (.slice (some ⟨WC.heap.size, 0, none⟩) k (cC WC))) V := by
          intro V WA WB WC hV bA bB bC
          rw [hF, ha]
          simp only [Act.put, List.setIfInBounds_toArray, List.set_cons_zero, List.set_cons_succ]
          refine wpAny_ready (rs := [1]) (by kernel_rfl) (by simp) ?_
          refine AllReady.cons (o := ⟨some 57, _, _, _, _, _⟩) rfl (fun K hK => ?_) AllReady.nil
          · go_simp
            refine (OX.out V hV).mono ?_
            rintro r w' ⟨rfl, rfl⟩
            refine hK _ _ ?_
            clear hK K
            have hk := key1ABC V WA WB WC hV bA bB bC
            rw [hF, ha] at hk
            simp only [Act.put, List.setIfInBounds_toArray, List.set_cons_zero, List.set_cons_succ] at hk
            exact any_listed (by kernel_rfl) hk
        have key0AB : ∀ (V WA WB : World), Wld w wc.heap.size k l V → Byt V V.heap.size (some ⟨WA.heap.size, 0, none⟩) LA → Byt V V.heap.size (some ⟨WB.heap.size, 0, none⟩) LB → F 9 #[true, false, true, true, true, true, false, true, true, true, true, false, false, true, true, true, false, false, false, false, false] (Act.put (Act.put a (some 61) (.slice (some ⟨WA.heap.size, 0, none⟩) k (cA WA))) (some 66) (.slice (some ⟨WB.heap.size, 0, none⟩) k (cB WB))) V := by
          intro V WA WB hV bA bB
          rw [hF, ha]
          simp only [Act.put, List.setIfInBounds_toArray, List.set_cons_zero, List.set_cons_succ]
          refine wpAny_ready (rs := [1, 16]) (by kernel_rfl) (by simp) ?_
          refine AllReady.cons (o := ⟨some 57, _, _, _, _, _⟩) rfl (fun K hK => ?_) (AllReady.cons (o := ⟨some 72, _, _, _, _, _⟩) rfl (fun K hK => ?_) AllReady.nil)
          · go_simp
            refine (OX.out V hV).mono ?_
            rintro r w' ⟨rfl, rfl⟩
            refine hK _ _ ?_
            clear hK K
            have hk := key1AB V WA WB hV bA bB
            rw [hF, ha] at hk
            simp only [Act.put, List.setIfInBounds_toArray, List.set_cons_zero, List.set_cons_succ] at hk
            exact any_listed (by kernel_rfl) hk
          · go_simp
            refine hK _ _ ?_
            clear hK K
            have hk := key0ABC (bC V) WA WB V (hV.next (nC.out V)) (Byt.next bA (nC.out V)) (Byt.next bB (nC.out V)) (yC.out V)
            rw [hF, ha] at hk
            simp only [Act.put, List.setIfInBounds_toArray, List.set_cons_zero, List.set_cons_succ] at hk
            exact any_listed (by kernel_rfl) hk
        have key0AC : ∀ (V WA WC : World), Wld w wc.heap.size k l V → Byt V V.heap.size (some ⟨WA.heap.size, 0, none⟩) LA → Byt V V.heap.size (some ⟨WC.heap.size, 0, none⟩) LC → F 9 #[true, false, true, true, true, true, false, true, true, true, false, false, false, true, true, true, true, false, false, false, false] (Act.put (Act.put a (some 61) (.slice (some ⟨WA.heap.size, 0, none⟩) k (cA WA))) (some 72) (.slice (some ⟨WC.heap.size, 0, none⟩) k (cC WC))) V := by
          intro V WA WC hV bA bC
          rw [hF, ha]
          simp only [Act.put, List.setIfInBounds_toArray, List.set_cons_zero, List.set_cons_succ]
          refine wpAny_ready (rs := [1, 10]) (by kernel_rfl) (by simp) ?_
          refine AllReady.cons (o := ⟨some 57, _, _, _, _, _⟩) rfl (fun K hK => ?_) (AllReady.cons (o := ⟨some 66, _, _, _, _, _⟩) rfl (fun K hK => ?_) AllReady.nil)
          · go_simp
            refine (OX.out V hV).mono ?_
            rintro r w' ⟨rfl, rfl⟩
            refine hK _ _ ?_
            clear hK K
            have hk := key1AC V WA WC hV bA bC
            rw [hF, ha] at hk
            simp only [Act.put, List.setIfInBounds_toArray, List.set_cons_zero, List.set_cons_succ] at hk
            exact any_listed (by kernel_rfl) hk
          · go_simp
            refine hK _ _ ?_
            clear hK K
            have hk := key0ABC (bB V) WA V WC (hV.next (nB.out V)) (Byt.next bA (nB.out V)) (yB.out V) (Byt.next bC (nB.out V))
            rw [hF, ha] at hk
            simp only [Act.put, List.setIfInBounds_toArray, List.set_cons_zero, List.set_cons_succ] at hk
            exact any_listed (by kernel_rfl) hk
        have key0BC : ∀ (V WB WC : World), Wld w wc.heap.size k l V → Byt V V.heap.size (some ⟨WB.heap.size, 0, none⟩) LB → Byt V V.heap.size (some ⟨WC.heap.size, 0, none⟩) LC → F 9 #[true, false, true, true, true, false, false, true, true, true, true, false, false, true, true, true, true, false, false, false, false] (Act.put (Act.put a (some 66) (.slice (some ⟨WB.heap.size, 0, none⟩) k (cB WB))) (some 72) (.slice (some ⟨WC.heap.size, 0, none⟩) k (cC WC))) V := by
          intro V WB WC hV bB bC
          rw [hF, ha]
          simp only [Act.put, List.setIfInBounds_toArray, List.set_cons_zero, List.set_cons_succ]
          refine wpAny_ready (rs := [1, 5]) (by kernel_rfl) (by simp) ?_
          refine AllReady.cons (o := ⟨some 57, _, _, _, _, _⟩) rfl (fun K hK => ?_) (AllReady.cons (o := ⟨some 61, _, _, _, _, _⟩) rfl (fun K hK => ?_) AllReady.nil)
          · go_simp
            refine (OX.out V hV).mono ?_
            rintro r w' ⟨rfl, rfl⟩
            refine hK _ _ ?_
            clear hK K
            have hk := key1BC V WB WC hV bB bC
            rw [hF, ha] at hk
            simp only [Act.put, List.setIfInBounds_toArray, List.set_cons_zero, List.set_cons_succ] at hk
            exact any_listed (by kernel_rfl) hk
          · go_simp
            refine hK _ _ ?_
            clear hK K
            have hk := key0ABC (bA V) V WB WC (hV.next (nA.out V)) (yA.out V) (Byt.next bB (nA.out V)) (Byt.next bC (nA.out V))
            rw [hF, ha] at hk
            simp only [Act.put, List.setIfInBounds_toArray, List.set_cons_zero, List.set_cons_succ] at hk
            exact any_listed (by kernel_rfl) hk
        have key0A : ∀ (V WA : World), Wld w wc.heap.size k l V → Byt V V.heap.size (some ⟨WA.heap.size, 0, none⟩) LA → F 10 #[true, false, true, true, true, true, false, true, true, true, false, false, false, true, true, true, false, false, false, false, false] (Act.put a (some 61) (.slice (some ⟨WA.heap.size, 0, none⟩) k (cA WA))) V := by
          intro V WA hV bA
          rw [hF, ha]
          simp only [Act.put, List.setIfInBounds_toArray, List.set_cons_zero, List.set_cons_succ]
          refine wpAny_ready (rs := [1, 10, 16]) (by kernel_rfl) (by simp) ?_
          refine AllReady.cons (o := ⟨some 57, _, _, _, _, _⟩) rfl (fun K hK => ?_) (AllReady.cons (o := ⟨some 66, _, _, _, _, _⟩) rfl (fun K hK => ?_) (AllReady.cons (o := ⟨some 72, _, _, _, _, _⟩) rfl (fun K hK => ?_) AllReady.nil))
          · go_simp
            refine (OX.out V hV).mono ?_
            rintro r w' ⟨rfl, rfl⟩
            refine hK _ _ ?_
            clear hK K
            have hk := key1A V WA hV bA
            rw [hF, ha] at hk
            simp only [Act.put, List.setIfInBounds_toArray, List.set_cons_zero, List.set_cons_succ] at hk
            exact any_listed (by kernel_rfl) hk
          · go_simp
            refine hK _ _ ?_
            clear hK K
            have hk := key0AB (bB V) WA V (hV.next (nB.out V)) (Byt.next bA (nB.out V)) (yB.out V)
            rw [hF, ha] at hk
            simp only [Act.put, List.setIfInBounds_toArray, List.set_cons_zero, List.set_cons_succ] at hk
            exact any_listed (by kernel_rfl) hk
          · go_simp
            refine hK _ _ ?_
            clear hK K
            have hk := key0AC (bC V) WA V (hV.next (nC.out V)) (Byt.next bA (nC.out V)) (yC.out V)
            rw [hF, ha] at hk
            simp only [Act.put, List.setIfInBounds_toArray, List.set_cons_zero, List.set_cons_succ] at hk
            exact any_listed (by kernel_rfl) hk
        have key0B : ∀ (V WB : World), Wld w wc.heap.size k l V → Byt V V.heap.size (some ⟨WB.heap.size, 0, none⟩) LB → F 10 #[true, false, true, true, true, false, false, true, true, true, true, false, false, true, true, true, false, false, false, false, false] (Act.put a (some 66) (.slice (some ⟨WB.heap.size, 0, none⟩) k (cB WB))) V := by
          intro V WB hV bB
          rw [hF, ha]
          simp only [Act.put, List.setIfInBounds_toArray, List.set_cons_zero, List.set_cons_succ]
          refine wpAny_ready (rs := [1, 5, 16]) (by kernel_rfl) (by simp) ?_
          refine AllReady.cons (o := ⟨some 57, _, _, _, _, _⟩) rfl (fun K hK => ?_) (AllReady.cons (o := ⟨some 61, _, _, _, _, _⟩) rfl (fun K hK => ?_) (AllReady.cons (o := ⟨some 72, _, _, _, _, _⟩) rfl (fun K hK => ?_) AllReady.nil))
          · go_simp
            refine (OX.out V hV).mono ?_
            rintro r w' ⟨rfl, rfl⟩
            refine hK _ _ ?_
            clear hK K
            have hk := key1B V WB hV bB
            rw [hF, ha] at hk
            simp only [Act.put, List.setIfInBounds_toArray, List.set_cons_zero, List.set_cons_succ] at hk
            exact any_listed (by kernel_rfl) hk
          · go_simp
            refine hK _ _ ?_
            clear hK K
            have hk := key0AB (bA V) V WB (hV.next (nA.out V)) (yA.out V) (Byt.next bB (nA.out V))
            rw [hF, ha] at hk
            simp only [Act.put, List.setIfInBounds_toArray, List.set_cons_zero, List.set_cons_succ] at hk
            exact any_listed (by kernel_rfl) hk
          · go_simp
            refine hK _ _ ?_
            clear hK K
            have hk := key0BC (bC V) WB V (hV.next (nC.out V)) (Byt.next bB (nC.out V)) (yC.out V)
            rw [hF, ha] at hk
            simp only [Act.put, List.setIfInBounds_toArray, List.set_cons_zero, List.set_cons_succ] at hk
            exact any_listed (by kernel_rfl) hk
        have key0C : ∀ (V WC : World), Wld w wc.heap.size k l V → Byt V V.heap.size (some ⟨WC.heap.size, 0, none⟩) LC → F 10 #[true, false, true, true, true, false, false, true, true, true, false, false, false, true, true, true, true, false, false, false, false] (Act.put a (some 72) (.slice (some ⟨WC.heap.size, 0, none⟩) k (cC WC))) V := by
          intro V WC hV bC
          rw [hF, ha]
          simp only [Act.put, List.setIfInBounds_toArray, List.set_cons_zero, List.set_cons_succ]
          refine wpAny_ready (rs := [1, 5, 10]) (by kernel_rfl) (by simp) ?_
          refine AllReady.cons (o := ⟨some 57, _, _, _, _, _⟩) rfl (fun K hK => ?_) (AllReady.cons (o := ⟨some 61, _, _, _, _, _⟩) rfl (fun K hK => ?_) (AllReady.cons (o := ⟨some 66, _, _, _, _, _⟩) rfl (fun K hK => ?_) AllReady.nil))
          · go_simp
            refine (OX.out V hV).mono ?_
            rintro r w' ⟨rfl, rfl⟩
            refine hK _ _ ?_
            clear hK K
            have hk := key1C V WC hV bC
            rw [hF, ha] at hk
            simp only [Act.put, List.setIfInBounds_toArray, List.set_cons_zero, List.set_cons_succ] at hk
            exact any_listed (by kernel_rfl) hk
          · go_simp
            refine hK _ _ ?_
            clear hK K
            have hk := key0AC (bA V) V WC (hV.next (nA.out V)) (yA.out V) (Byt.next bC (nA.out V))
            rw [hF, ha] at hk
            simp only [Act.put, List.setIfInBounds_toArray, List.set_cons_zero, List.set_cons_succ] at hk
            exact any_listed (by kernel_rfl) hk
          · go_simp
            refine hK _ _ ?_
            clear hK K
            have hk := key0BC (bB V) V WC (hV.next (nB.out V)) (yB.out V) (Byt.next bC (nB.out V))
            rw [hF, ha] at hk
            simp only [Act.put, List.setIfInBounds_toArray, List.set_cons_zero, List.set_cons_succ] at hk
            exact any_listed (by kernel_rfl) hk
        have key0 : ∀ (V : World), Wld w wc.heap.size k l V → F 11 #[true, false, true, true, true, false, false, true, true, true, false, false, false, true, true, true, false, false, false, false, false] a V := by
          intro V  hV 
          rw [hF, ha]
          refine wpAny_ready (rs := [1, 5, 10, 16]) (by kernel_rfl) (by simp) ?_
          refine AllReady.cons (o := ⟨some 57, _, _, _, _, _⟩) rfl (fun K hK => ?_) (AllReady.cons (o := ⟨some 61, _, _, _, _, _⟩) rfl (fun K hK => ?_) (AllReady.cons (o := ⟨some 66, _, _, _, _, _⟩) rfl (fun K hK => ?_) (AllReady.cons (o := ⟨some 72, _, _, _, _, _⟩) rfl (fun K hK => ?_) AllReady.nil)))
          · go_simp
            refine (OX.out V hV).mono ?_
            rintro r w' ⟨rfl, rfl⟩
            refine hK _ _ ?_
            clear hK K
            have hk := key1 V hV
            rw [hF, ha] at hk
            simp only [Act.put, List.setIfInBounds_toArray, List.set_cons_zero, List.set_cons_succ] at hk
            exact any_listed (by kernel_rfl) hk
          · go_simp
            refine hK _ _ ?_
            clear hK K
            have hk := key0A (bA V) V (hV.next (nA.out V)) (yA.out V)
            rw [hF, ha] at hk
            simp only [Act.put, List.setIfInBounds_toArray, List.set_cons_zero, List.set_cons_succ] at hk
            exact any_listed (by kernel_rfl) hk
          · go_simp
            refine hK _ _ ?_
            clear hK K
            have hk := key0B (bB V) V (hV.next (nB.out V)) (yB.out V)
            rw [hF, ha] at hk
            simp only [Act.put, List.setIfInBounds_toArray, List.set_cons_zero, List.set_cons_succ] at hk
            exact any_listed (by kernel_rfl) hk
          · go_simp
            refine hK _ _ ?_
            clear hK K
            have hk := key0C (bC V) V (hV.next (nC.out V)) (yC.out V)
            rw [hF, ha] at hk
            simp only [Act.put, List.setIfInBounds_toArray, List.set_cons_zero, List.set_cons_succ] at hk
            exact any_listed (by kernel_rfl) hk
        exact key0 _ H0.out

theorem Linear_walk (a0 : ByteArray) (h0 : a0.size ≤ maxLen) (a1 : ByteArray) (h1 : a1.size ≤ maxLen) (a2 : ByteArray) (h2 : a2.size ≤ maxLen) (w : World) (ht : Tab w) :
    Calls Tryd.prog 7 #[.string a0, .string a1, .string a2] w fun e w' => e = .returned (.bool true) ∧ Below w.heap.size w w' := by
  unfold maxLen at h0 h1 h2
  rcases Nat.lt_or_ge 1000 a0.size with h | h
  · exact Linear_long1 a0 a1 a2 w ht h (by omega)
  · rcases Nat.lt_or_ge 1000 a1.size with h' | h'
    · exact Linear_long2 a0 a1 a2 w ht h h' (by omega)
    · rcases Nat.lt_or_ge 1000 a2.size with h'' | h''
      · exact Linear_long3 a0 a1 a2 w ht h h' h'' (by omega)
      · exact Linear_short a0 a1 a2 _ w ht h h' h'' rfl

end Go.Proofs.YtjiihkpbeogbcaaDoor.Sm
