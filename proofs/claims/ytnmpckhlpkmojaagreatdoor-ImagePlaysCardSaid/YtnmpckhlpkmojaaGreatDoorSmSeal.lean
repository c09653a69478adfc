/-
  The contract of sum.Seal: a row of the call's own that holds the bytes and their checksum; nothing that was there is changed.
-/
import Derived.Test.YtnmpckhlpkmojaaGreatDoorSmOf
namespace Go.Proofs.YtnmpckhlpkmojaaGreatDoor.Sm
open Go.RowKit
open Pk

theorem u8_one : (Tryz.prog.info? 5).map (·.size) = some 1 := by kernel_rfl

/-- A copy over the head of a row of zeros. -/
theorem own_spliced {w : World} {g base len room : Nat} {l : List UInt8} {Z : List Value} (hg : w.heap[g]? = some (.cells (splice Z 0 (cels l)).toArray 5 (0, 0))) (hb : base ≤ g)
    (hl : l.length = len) (hz : Z.length = len + room) (hm : len + room ≤ maxLen) : Own w base (.slice (some ⟨g, 0, none⟩) len (len + room)) l := by
  subst hl
  refine ⟨by simp [cels_length], .inr ⟨g, l.length + room, _, rfl, hb, hg, by omega, hm, ?_, ?_⟩⟩
  · rw [List.size_toArray, length_splice _ _ _ (by rw [cels_length]; omega), hz, Nat.mul_one]
  · simp [splice, cels_length]
/-- One byte more on a row of the call's own. -/
theorem own_more {w : World} {base : Nat} {v : Value} {l : List UInt8} {x : UInt8} {n : Nat} (hn : l.length = n) (h : w.ownsRow base 5 1 v (n + 1) (cels l ++ cels [x])) : Own w base v (l ++ [x]) := by
  subst hn
  unfold Own
  rw [cels_append, List.length_append]
  exact h
theorem grown_below {base : Nat} {w wr w1 : World} {u : Value} {l : List UInt8} {o : Obj} (hbel : Below base w wr) (hbase : base ≤ w.heap.size) (hown : Own wr base u l) (hg : (wr.alloc o).grownBy w1 u.ownBlock) : Below base w w1 := by
  have hs := hbel.size
  exact (hbel.alloc (by omega) o).grown hg (by simp; omega) (fun k hk => (World.ownsRow.lt hown k hk).1)

/-- The lowest bytes of a number, the lowest first. -/
def low : Nat → Nat → List UInt8
  | 0, _ => []
  | n + 1, d => UInt8.ofNat (d % 256) :: low n (d / 256)
theorem low_four (d : Nat) : low 4 d = le4 d := by
  unfold le4
  simp only [low]
  rw [show d / 256 / 256 = d / 65536 by omega, show d / 65536 / 256 = d / 16777216 by omega]
theorem cel_low (d : Nat) : [Value.int .u8 ((d : Int) % 256)] = cels [UInt8.ofNat (d % 256)] := by
  simp only [cels, List.map_cons, List.map_nil, cel]
  rw [ofNat_toNat _ (by omega)]
  simp

/-- What the loop keeps: so much is laid, so much is still to be laid. -/
def Sld (l goal : List UInt8) (base : Nat) (w : World) (v c i : Value) (wr : World) : Prop :=
  ∃ (k m d : Nat) (done : List UInt8), i = .int .i64 (k : Int) ∧ c = .int .u32 (d : Int) ∧ k + m = 4 ∧ d < 4294967296 ∧ done.length = k ∧ Hid (done ++ low m d = goal) ∧ Own wr base v (l ++ done) ∧ Below base w wr

set_option maxRecDepth 100000 in
set_option maxHeartbeats 1000000 in
theorem Seal_any (A : Option Addr) (l : List UInt8) (n c : Nat) (w : World) (hn : l.length = n) (hb : Byt w w.heap.size A l) (ht : Tab w) (hl : n ≤ 70368744177000) :
    Calls Tryz.prog 79 #[.slice A n c] w fun e w' =>
      ∃ v', e = .returned v' ∧ Own w' w.heap.size v' (seal4 l) ∧ Below w.heap.size w w' := by
  obtain ⟨i0, hi, hz0, hz1, hz2⟩ := info_parts u8_info
  have Hlen := hide hn
  have hpos := ht.pos
  have hg := crc_lt l
  have Hgoal : Hid (seal4 l = l ++ low 4 (crc l)) := by rw [low_four]; rfl
  generalize hgoal : low 4 (crc l) = goal at *
  have Hlow : Hid (low 4 (crc l) = goal) := hgoal
  obtain ⟨C, hC0⟩ : ∃ C, crc l = C := ⟨_, rfl⟩
  rw [hC0] at hg Hlow
  have hC := hide hC0
  clear hC0
  clear hn hgoal
  have hmk := fun W => run_make (P := Tryz.prog) W 60 5 i0 (.int .u8 0) Tryz.underlying60 hi hz0 .i64 .i64 (n : Int) ((n : Int) + 4) (by omega) (by omega) (by rw [hz2]; omega) (by omega)
  go_enter Tryz.func79, Tryz.ntmps79
  go_wp2_with (with_reducible refine wpList_copy_splice rfl (.tmp 11) (.tmp 12) 60 60 rfl 5 Tryz.underlying60 u8_one (some ⟨w.heap.size, 0, none⟩) A n (n + 4) n c rfl rfl w.heap.size 0 (madeCells #[.int .u8 0] (n + 4)).toList 5 ?h1 (cels l) ?h2 ?h3 ?h4 (cels_one l) w.heap.size w ?h5 (Nat.le_refl _) ?h6)
  case h1 => rw [Array.toArray_toList]; exact heap_alloc_new w _
  case h2 => rw [cels_length, Hlen.out]; exact (Nat.min_self n).symm
  case h3 =>
    intro h0
    rw [cels_length] at h0
    obtain ⟨b, o, rfl, hbb, hc⟩ := hb (by rintro rfl; simp at h0)
    refine ⟨_, rfl, fun j u hu => ?_⟩
    obtain ⟨x, hx, rfl⟩ := cels_get l j u hu
    rw [Addr.add_lit, World.cell?_alloc_past _ _ _ hbb]
    exact hc j x hx
  case h4 => rw [cels_length, Hlen.out, Array.length_toList, size_madeCells]; omega
  case h5 => exact (Below.refl _ _).alloc (Nat.le_refl _) _
  case h6 =>
    intro w1 Hg hb1
    have hown1 := own_spliced (room := 4) Hg.out (Nat.le_refl _) Hlen.out (by rw [Array.length_toList, size_madeCells]) (by unfold maxLen; omega)
    have hOf := Of_any A n c _ l w1 Hlen.out (by unfold maxLen; omega) (ht.below hb1 hpos) (hb.below hb1)
    rw [hC.out] at hOf
    have HOf := hide hOf
    clear hOf Hg hmk
    go_wp2_with fail
    refine HOf.out.mono ?_
    rintro r w' ⟨rfl, rfl⟩
    have hown0 : Own w1 w.heap.size (.slice (some ⟨w.heap.size, 0, none⟩) n (n + 4)) (l ++ []) := by rw [List.append_nil]; exact hown1
    clear HOf hown1 hb
    go_wp2
    go_loopw [3, 4, 16] (Sld l goal w.heap.size w) (fun _ _ i _ => 4 - (intOf i).toNat)
    case atStart => exact ⟨0, 4, C, [], rfl, rfl, rfl, hg, rfl, Hlow, hown0, hb1⟩
    case round =>
      clear hown0 hb1 Hlow
      obtain ⟨k, m, d, done, rfl, rfl, hkm, hd, hdone, hgo, hown, hbel⟩ := hrel
      have hll : l.length + done.length ≤ 70368744177010 := by rw [Hlen.out]; omega
      have hsz := hbel.size
      by_cases hlt : k < 4
      · obtain ⟨m, rfl⟩ : ∃ j, m = j + 1 := ⟨m - 1, by omega⟩
        have hcel := cel_low d
        have Hgo : Hid ((done ++ [UInt8.ofNat (d % 256)]) ++ low m (d / 256) = goal) := by
          have e := hgo.out
          simp only [low] at e
          rw [List.append_assoc]
          exact e
        have Hcel := hide hcel
        have Hk := hide hkm
        have Hdone := hide hdone
        clear hcel hgo hkm hdone
        go_wp2_with (at_builtin; refine wpList_append_own _ rfl (.tmp 18) (.tmp 21) 60 rfl w.heap.size 5 i0 (.int .u8 0) 1 1 Tryz.underlying60 hi hz0 hz1 hz2 rfl (by decide) _ _ _ rfl (World.ownsRow.alloc hown _) ⟨wr.heap.size, 0, none⟩ 1 1 [.int .u8 ((d : Int) % 256)] rfl rfl (cell_one_new _ _ _) ?c2 ?c3 ?c4 ?c5 ?_)
        case c2 => intro u hu; simp at hu; subst hu; rfl
        case c3 => simp only [List.length_append]; unfold maxLen; omega
        case c4 => simp only [List.length_append]; omega
        case c5 => simp; omega
        intro v' w1 hown' hgrow _
        have R := grown_below hbel (Nat.le_refl _) hown hgrow
        rw [Hcel.out] at hown'
        have R2 := own_more (l := l ++ done) (List.length_append ..) hown'
        rw [List.append_assoc] at R2
        clear hown' hgrow hown hbel
        go_wp2
        go_roundw
        case rel => exact ⟨k + 1, m, d / 256, done ++ [UInt8.ofNat (d % 256)], by go_num, by go_num, by have := Hk.out; omega, by omega, by rw [List.length_append, Hdone.out]; rfl, Hgo, R2, R⟩
        case measure => simp [intOf]; omega
      · have hm : m = 0 := by omega
        have e : l ++ done = seal4 l := by
          have e := hgo.out
          rw [hm] at e
          simp only [low, List.append_nil] at e
          rw [Hgoal.out, ← e]
        have R := hown
        rw [e] at R
        have HR := hide R
        clear e R
        clear hm hgo hown hkm hdone
        go_wp2
        go_ret
        exact ⟨_, rfl, HR.out, hbel⟩

end Go.Proofs.YtnmpckhlpkmojaaGreatDoor.Sm
