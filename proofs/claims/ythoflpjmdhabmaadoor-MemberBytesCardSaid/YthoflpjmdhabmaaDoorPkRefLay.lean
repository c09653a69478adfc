/-
  The contracts of the reference's Number and Text (isobarref01): the result is the encoding as a string; nothing that was there is changed.
-/
import Derived.Test.YthoflpjmdhabmaaDoorPkRef
namespace Go.Proofs.YthoflpjmdhabmaaDoor.Pk
open Go.RowKit

theorem str_append (l m : List UInt8) : str l ++ str m = str (l ++ m) := by
  apply str_of
  simp [str]

theorem blk_first (w : World) (v : Value) : (w.alloc (.cells #[v] 5)).cell? ⟨w.heap.size, 0 + 0, none⟩ = some v := by
  rw [cell_of_row _ w.heap.size 0 #[v] 5 (0, 0) (heap_alloc_new w _)]
  rfl

theorem str_one (w : World) (x : UInt8) (v : Int) (hv : v = (x.toNat : Int)) :
    (convert 42 9 (.slice (some ⟨w.heap.size, 0, none⟩) 1 1)).run Tryd.prog (w.alloc (.cells #[.int .u8 v] 5)) = .ok (.string (str [x])) (w.alloc (.cells #[.int .u8 v] 5)) := by
  subst hv
  refine run_str _ (w.heap.size + 1) (some ⟨w.heap.size, 0, none⟩) [x] 1 (fun _ => ⟨w.heap.size, 0, rfl, by omega, fun j u hu => ?_⟩)
  match j, hu with
  | 0, hu =>
    simp at hu
    subst hu
    exact blk_first w _

/-- What the loop keeps. -/
def Spun (goal : List UInt8) (w : World) (x s : Value) (wr : World) : Prop :=
  ∃ (k m : Nat) (done : List UInt8), x = .int .i64 (m : Int) ∧ m < lim k ∧ done.length + k = 8 ∧ done ++ encF k m = goal ∧ s = .string (str done) ∧ Below w.heap.size w wr

set_option maxRecDepth 100000 in
set_option maxHeartbeats 1000000 in
theorem RNum_any (n : Int) (w : World) :
    Calls Tryd.prog 40 #[.int .i64 n] w fun e w' => e = .returned (.string (str (enc (clamp n)))) ∧ Below w.heap.size w w' := by
  have e0 := clamp_eq n
  have hlt := clamp_lt n
  have Hgoal : Hid (enc (clamp n) = encF 8 (clamp n)) := rfl
  generalize hgoal : enc (clamp n) = goal at *
  clear hgoal
  generalize clamp n = N at *
  go_enter Tryd.func40, Tryd.ntmps40
  go_wp2
  go_loopw [0, 3] (Spun goal w) (fun x _ _ => (intOf x).toNat)
  case atStart => exact ⟨8, N, [], rfl, by rw [lim_eight]; exact hlt, rfl, Hgoal.out.symm, rfl, Below.refl _ _⟩
  case round =>
    obtain ⟨k, m, done, rfl, hm, hk, hg, rfl, hbel⟩ := hrel
    have hm63 : m < 1152921504606846976 := by
      have h8 : lim k ≤ lim 8 := Nat.mul_le_mul_left _ (Nat.pow_le_pow_right (by omega) (by omega))
      rw [lim_eight] at h8; omega
    have hd8 : (str done).size ≤ 8 := by rw [str_size]; omega
    by_cases hmm : 127 < m
    · obtain ⟨k, rfl⟩ : ∃ j, k = j + 1 := ⟨k - 1, by
        rcases Nat.eq_zero_or_pos k with h0 | h0
        · subst h0; simp [lim] at hm; omega
        · omega⟩
      rw [encF_ge k m (by omega)] at hg
      obtain ⟨x, hx⟩ : ∃ x : UInt8, x = UInt8.ofNat (m % 128 + 128) := ⟨_, rfl⟩
      have hxn : x.toNat = m % 128 + 128 := by rw [hx]; exact ofNat_toNat _ (by omega)
      rw [← hx] at hg
      have hg' : (done ++ [x]) ++ encF k (m / 128) = goal := by rw [← hg]; simp
      have hm' : m / 128 < lim k := by rw [lim_succ] at hm; omega
      have hcv := str_one wr x ((m : Int) % 128 + 128) (by omega)
      have hx1 : (str [x]).size = 1 := str_size [x]
      have hap := str_append done [x]
      have Hg := hide hg'
      have Hm := hide hm'
      have Hk := hide hk
      have hx1' : (str [x]).size ≤ 1 := by omega
      have hsz := hbel.size
      clear hm hk hg hx hxn hg' hm' hx1
      go_wp2
      go_roundw
      case rel => exact ⟨k, m / 128, done ++ [x], by go_num, Hm.out, by have := Hk.out; simp; omega, Hg.out, by first | rfl | rw [hap], hbel.alloc hsz _⟩
      case measure => simp [intOf]; omega
    · rw [encF_lt k m (by omega)] at hg
      obtain ⟨x, hx⟩ : ∃ x : UInt8, x = UInt8.ofNat m := ⟨_, rfl⟩
      have hxn : x.toNat = m := by rw [hx]; exact ofNat_toNat _ (by omega)
      rw [← hx] at hg
      have hcv := str_one wr x (m : Int) (by omega)
      have hap := str_append done [x]
      have hx1 : (str [x]).size = 1 := str_size [x]
      have hx1' : (str [x]).size ≤ 1 := by omega
      have Hg := hide hg
      have hsz := hbel.size
      clear hm hk hg hx hxn hx1
      go_wp2
      go_ret
      first
        | exact ⟨by rw [← Hg.out]; rfl, hbel.alloc hsz _⟩
        | exact ⟨by rw [← Hg.out, ← hap]; rfl, hbel.alloc hsz _⟩

end Go.Proofs.YthoflpjmdhabmaaDoor.Pk
