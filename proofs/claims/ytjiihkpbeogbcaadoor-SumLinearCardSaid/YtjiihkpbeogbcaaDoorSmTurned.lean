/-
  The walk of SumTurned: for every b, at and turn it returns true; nothing that was there is changed. Condition: the table of half bytes holds what the program's own text lays.
-/
import Derived.OpenShut
import Derived.Test.YtjiihkpbeogbcaaDoorSmJoin
namespace Go.Proofs.YtjiihkpbeogbcaaDoor.Sm
open Go.RowKit
open Pk

theorem Turned_long (a0 : ByteArray) (a1 a2 : Int) (w : World) (ht : Tab w) (hs : 1000 < a0.size) :
    Calls Tryd.prog 5 #[.string a0, .int .u64 a1, .int .u32 a2] w fun e w' => e = .returned (.bool true) ∧ Below w.heap.size w w' := by
  have hpos := ht.pos
  go_enter Tryd.func5, Tryd.ntmps5
  go_wp2_with fail
  refine (awake_any w ht).mono ?_
  rintro r w1 ⟨rfl, hb1⟩
  go_wp2_with fail
  refine (awake_any w1 (ht.below hb1 hpos)).mono ?_
  rintro r w2 ⟨rfl, hb2⟩
  go_wp2
  go_ret
  exact ⟨rfl, hb1.trans (hb2.mono hb1.size)⟩

theorem Turned_none (a0 : ByteArray) (a1 : Int) (w : World) (ht : Tab w) (hs : a0.size ≤ 1000) :
    Calls Tryd.prog 5 #[.string a0, .int .u64 a1, .int .u32 0] w fun e w' => e = .returned (.bool true) ∧ Below w.heap.size w w' := by
  have hpos := ht.pos
  go_enter Tryd.func5, Tryd.ntmps5
  go_wp2_with fail
  refine (awake_any w ht).mono ?_
  rintro r w1 ⟨rfl, hb1⟩
  go_wp2_with fail
  refine (awake_any w1 (ht.below hb1 hpos)).mono ?_
  rintro r w2 ⟨rfl, hb2⟩
  go_wp2
  go_ret
  exact ⟨rfl, hb1.trans (hb2.mono hb1.size)⟩

/-- A byte stored into a row of the call's own. -/
theorem Own.store {w : World} {base g n c q : Nat} {l : List UInt8} (h : Own w base (.slice (some ⟨g, 0, none⟩) n c) l) (hn : l.length = n) (hq : q < n) (u : UInt8) :
    Own (w.setCell ⟨g, q, none⟩ (cel u)) base (.slice (some ⟨g, 0, none⟩) n c) (l.set q u) := by
  subst hn
  have := (World.ownsRow.stored h q (cel u)).1
  unfold Own
  rw [List.length_set]
  simpa [cels, List.map_set] using this

theorem own_head {w : World} {base b o n c : Nat} {l : List UInt8} (h : Own w base (.slice (some ⟨b, o, none⟩) n c) l) (hn : l.length = n) : o = 0 ∧ base ≤ b := by
  rcases h.2 with ⟨e, _⟩ | ⟨g, cap, cur, e, hb, _⟩
  · cases e
  · cases e
    exact ⟨rfl, hb⟩

theorem bit_and (t j : Nat) (h : t < 4294967296) : bits .and .u32 ((t : Int) / 2 ^ j) 1 = ((t / 2 ^ j % 2 : Nat) : Int) := by
  have e : ((t : Int) / 2 ^ j) = ((t / 2 ^ j : Nat) : Int) := by simp
  have h' : t / 2 ^ j < 4294967296 := Nat.lt_of_le_of_lt (Nat.div_le_self _ _) h
  have := u32_and_nat (t / 2 ^ j) 1 h' (by omega)
  rw [Nat.and_one_is_mod] at this
  rw [e]
  exact this

def Trn (l0 : List UInt8) (base g n c k t : Nat) (w : World) (i : Value) (wr : World) : Prop :=
  ∃ (j : Nat) (l : List UInt8), i = .int .i64 (j : Int) ∧ j ≤ 32 ∧ l.length = n ∧ Hid (Burst l0 k t j l) ∧ Own wr base (.slice (some ⟨g, 0, none⟩) n c) l ∧ Below base w wr

set_option maxHeartbeats 2000000 in
theorem Turned_short (a0 : ByteArray) (a1 t : Nat) (w : World) (ht : Tab w) (hs : a0.size ≤ 1000) (h1 : a1 ≤ 18446744073709551615) (h2 : t ≤ 4294967295) (h0 : 0 < t) :
    Calls Tryd.prog 5 #[.string a0, .int .u64 (a1 : Int), .int .u32 (t : Int)] w fun e w' => e = .returned (.bool true) ∧ Below w.heap.size w w' := by
  have hpos := ht.pos
  have ht0 : ((t : Int) == 0) = false := by simp; omega
  go_enter Tryd.func5, Tryd.ntmps5
  go_wp2_with fail
  refine (awake_any w ht).mono ?_
  rintro r w1 ⟨rfl, hb1⟩
  obtain ⟨w2, c2, hc2, hcm2, hcv2, hby2, hbel2⟩ := to_bytes w1 a0 (by unfold maxLen; omega)
  have Hb12 := hide (hb1.trans (hbel2.mono hb1.size))
  have ht2 := ht.below Hb12.out hpos
  have HS := hide (Seal_told _ _ a0.size c2 w2 (size_eq a0) hby2 ht2 (by omega))
  clear hbel2 hb1 hby2
  go_wp2_with fail
  refine HS.out.mono ?_
  rintro r w3 ⟨b3, o3, c3, rfl, hc3, hcm3, hown3, _, hb3⟩
  have hsl : (seal4 a0.data.toList).length = a0.size + 4 := by rw [seal4_length, size_eq]
  obtain ⟨rfl, hb3b⟩ := own_head hown3 hsl
  have HL := hide hsl
  obtain ⟨k, hke, hk⟩ : ∃ k : Nat, wrap64 ((a1 : Int) % (8 * ((a0.size : Int) + 4) - 31)) = (k : Int) ∧ k + 32 ≤ 8 * (a0.size + 4) := by
    refine ⟨a1 % (8 * (a0.size + 4) - 31), ?_, ?_⟩
    · have hlt := Nat.mod_lt a1 (show 0 < 8 * (a0.size + 4) - 31 by omega)
      have e : (8 * ((a0.size : Int) + 4) - 31) = ((8 * (a0.size + 4) - 31 : Nat) : Int) := by omega
      have hd : 8 * (a0.size + 4) - 31 ≤ 10000 := by omega
      rw [e]
      generalize 8 * (a0.size + 4) - 31 = d at *
      rw [← Int.natCast_emod]
      generalize a1 % d = m at *
      unfold wrap64
      omega
    · have := Nat.mod_lt a1 (show 0 < 8 * (a0.size + 4) - 31 by omega)
      omega
  clear hcv2 HS hsl
  go_wp2
  rw [hke]
  clear hke
  go_loopw [9] (Trn (seal4 a0.data.toList) w2.heap.size b3 (a0.size + 4) c3 k t w2) (fun i _ => 32 - (intOf i).toNat)
  case atStart => exact ⟨0, _, rfl, by omega, HL.out, Burst.start _ _ _, hown3, hb3⟩
  case round =>
    clear hown3 hb3
    obtain ⟨j, l, rfl, hj, hl, hB, hown, hbel⟩ := hrel
    by_cases hlt : j < 32
    · rcases Nat.mod_two_eq_zero_or_one (t / 2 ^ j) with hbit | hbit
      · have e1 : bits .and .u32 ((t : Int) / 2 ^ j) 1 = 0 := by rw [bit_and t j (by omega), hbit]; rfl
        have Hnext := hide (hB.out.stay hbit)
        clear hbit hB
        go_wp2
        go_roundw
        case rel => exact ⟨j + 1, l, by go_num, by omega, hl, Hnext, hown, hbel⟩
        case measure => simp [intOf]; omega
      · have e1 : bits .and .u32 ((t : Int) / 2 ^ j) 1 = 1 := by rw [bit_and t j (by omega), hbit]; rfl
        obtain ⟨q, hq⟩ : ∃ q, (k + j) / 8 = q := ⟨_, rfl⟩
        obtain ⟨r, hr⟩ : ∃ r, (k + j) % 8 = r := ⟨_, rfl⟩
        have hqn : q < a0.size + 4 := by omega
        have hr8 : r < 8 := by omega
        have hkj : k + j = 8 * q + r := by omega
        obtain ⟨x, hx⟩ : ∃ x : UInt8, l[q]? = some x := ⟨l[q]'(by omega), List.getElem?_eq_getElem _⟩
        have Hnext := hide (hB.out.turn hbit (by rw [HL.out]; omega) hlt x (by rw [hq]; exact hx))
        rw [hq, hr] at Hnext
        have hcell : wr.cell? ⟨b3, q, none⟩ = some (.int .u8 (x.toNat : Int)) := by
          have := World.ownsRow.cellAt (by unfold Own at hown; rw [hl] at hown; exact hown) q (by omega)
          rw [this]
          simp [cels, hx, cel]
        have hfroz : wr.frozen? ⟨b3, q, none⟩ = false := World.ownsRow.frozenAt (by unfold Own at hown; rw [hl] at hown; exact hown) q
        have f1 : ((k : Int) + (j : Int)) / 8 = (q : Int) := by omega
        have f2 : ((k : Int) + (j : Int)) % 8 = (r : Int) := by omega
        obtain ⟨y, hy⟩ : ∃ y : UInt8, x ^^^ UInt8.ofNat (2 ^ r) = y := ⟨_, rfl⟩
        rw [hy] at Hnext
        have e5 : bits .xor .u8 (x.toNat : Int) (2 ^ r % 256) = (y.toNat : Int) := by
          rw [← hy, UInt8.toNat_xor, ofNat_toNat _ (pow_byte r hr8)]
          have hp := pow_byte r hr8
          have e : ((2 : Int) ^ r % 256) = ((2 ^ r : Nat) : Int) := by
            have : ((2 : Int) ^ r) = ((2 ^ r : Nat) : Int) := by simp
            rw [this]
            exact Int.emod_eq_of_lt (Int.natCast_nonneg _) (Int.ofNat_lt.2 hp)
          rw [e]
          exact u8_xor_nat _ _ x.toNat_lt hp
        have R1 := hide (Own.store hown hl hqn y)
        have R2 := hide (hbel.setCell (p := ⟨b3, q, none⟩) hb3b (cel y))
        have hl2 : (l.set q y).length = a0.size + 4 := by rw [List.length_set]; exact hl
        clear hbit hB hq hr hx hy hown hbel
        go_wp2
        go_region
        go_wp2
        go_roundw
        case rel => exact ⟨j + 1, l.set q y, by go_num, by omega, hl2, Hnext, World.ownsRow.drew R1.out, Below.drew R2.out⟩
        case measure => simp [intOf]; omega
    · have Hb := hide hB.out
      have hj32 : j = 32 := by omega
      subst hj32
      have Hno := hide (fun n => Hb.out.told (by omega) (by omega) n)
      have hbelw := Hb12.out.trans (hbel.mono Hb12.out.size)
      have HO := hide (Open_bad (some ⟨b3, 0, none⟩) (a0.size + 4) c3 l wr hl hc3 (by omega) (by obtain ⟨A, c, e, _, _, h⟩ := hown.form; rw [hl] at e; cases e; exact h) (ht.below hbelw hpos) Hno.out)
      have Hbelw := hide hbelw
      clear hB Hb Hno hbelw hown hbel
      go_wp2_with fail
      refine HO.out.mono ?_
      rintro r w' ⟨rfl, hb'⟩
      have Hfin := hide (Hbelw.out.trans (hb'.mono Hbelw.out.size))
      clear HO hb'
      go_wp2
      go_ret
      exact ⟨rfl, Hfin.out⟩

theorem Turned_walk (a0 : ByteArray) (_hm : a0.size ≤ maxLen) (a1 : Int) (h1 : (Lit.int .u64 a1).wf = true) (a2 : Int) (h2 : (Lit.int .u32 a2).wf = true) (w : World) (ht : Tab w) :
    Calls Tryd.prog 5 #[.string a0, .int .u64 a1, .int .u32 a2] w fun e w' => e = .returned (.bool true) ∧ Below w.heap.size w w' := by
  have b1 := Go.bounds_u64 h1
  have b2 := Go.bounds_u32 h2
  rcases Nat.lt_or_ge 1000 a0.size with h | h
  · exact Turned_long a0 a1 a2 w ht h
  · obtain ⟨n1, rfl⟩ : ∃ n : Nat, a1 = (n : Int) := ⟨a1.toNat, by omega⟩
    obtain ⟨n2, rfl⟩ : ∃ n : Nat, a2 = (n : Int) := ⟨a2.toNat, by omega⟩
    by_cases h0 : n2 = 0
    · subst h0
      exact Turned_none a0 _ w ht h
    · exact Turned_short a0 n1 n2 w ht h (by omega) (by omega) (by omega)

end Go.Proofs.YtjiihkpbeogbcaaDoor.Sm
