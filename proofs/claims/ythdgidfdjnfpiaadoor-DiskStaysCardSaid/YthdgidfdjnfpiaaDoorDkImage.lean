/-
  What the statements' own image returns: all sectors, and zeros behind them; three disks side by side. Nothing but the disks' own memory is changed.
-/
import Derived.Test.YthdgidfdjnfpiaaDoorDkKeeps
namespace Go.Proofs.YthdgidfdjnfpiaaDoor.Dk
open Go.RowKit
open Pk Sm Fa

theorem i64_and15 (n : Int) : bits .and .i64 n 15 = n % 16 := by
  have h15 : (BitVec.ofInt 64 15).toNat = 2 ^ 4 - 1 := by decide
  have key : (BitVec.ofInt 64 n &&& BitVec.ofInt 64 15).toNat = (n % ((2 ^ 64 : Nat) : Int)).toNat % 2 ^ 4 := by
    rw [BitVec.toNat_and, BitVec.toNat_ofInt, h15, Nat.and_two_pow_sub_one_eq_mod]
  show IntKind.i64.wrap ((BitVec.ofInt 64 n &&& BitVec.ofInt 64 15).toNat : Nat) = n % 16
  rw [key, IntKind.wrap_i64]
  omega
theorem i64_and7 (n : Int) : bits .and .i64 n 7 = n % 8 := by
  have h7 : (BitVec.ofInt 64 7).toNat = 2 ^ 3 - 1 := by decide
  have key : (BitVec.ofInt 64 n &&& BitVec.ofInt 64 7).toNat = (n % ((2 ^ 64 : Nat) : Int)).toNat % 2 ^ 3 := by
    rw [BitVec.toNat_and, BitVec.toNat_ofInt, h7, Nat.and_two_pow_sub_one_eq_mod]
  show IntKind.i64.wrap ((BitVec.ofInt 64 n &&& BitVec.ofInt 64 7).toNat : Nat) = n % 8
  rw [key, IntKind.wrap_i64]
  omega
theorem crash_other {K : Nat} : ∀ {L : List Wr} {k : Nat} {S : List Sec} {i : Nat}, (∀ x ∈ L, x.1 ≠ i) → (crash K k L S)[i]? = S[i]?
  | [], _, _, _, _ => rfl
  | x :: L, k, S, i, h => by
    show (crash K (k + 1) L (if K.testBit (k % 64) then done S x else S))[i]? = _
    rw [crash_other (fun y hy => h y (by simp [hy]))]
    split
    · rw [done, List.getElem?_set_ne (h x (by simp))]
    · rfl
theorem crash_zero : ∀ (L : List Wr) (k : Nat) (S : List Sec), crash 0 k L S = S
  | [], _, _ => rfl
  | x :: L, k, S => by rw [crash_no (by simp), crash_zero L]

/-- All sectors, and zeros behind them. -/
def zs : List UInt8 := List.replicate 1024 0
theorem zs_length : zs.length = 1024 := List.length_replicate
def img (S : List Sec) (L : List Wr) : List UInt8 := (all S L).flatten ++ zs
theorem flat64 {S : List Sec} (h : Full S) : S.flatten.length = S.length * 64 := by
  have := flat_len (f := fun s : Sec => s) (m := 64) S h
  rw [List.flatMap_id'] at this
  exact this
theorem img_length {S : List Sec} {L : List Wr} {n : Nat} (h : Full S) (hf : Fits n L) : (img S L).length = S.length * 64 + 1024 := by
  rw [img, List.length_append, flat64 (h.all hf), all_length, zs_length]
theorem take_flat {S : List Sec} (h : Full S) (k : Nat) (hk : k ≤ S.length) : S.flatten.take (k * 64) = (S.take k).flatten := by
  have h1 : (S.take k).flatten.length = k * 64 := by
    rw [flat64 (fun s hs => h s (List.mem_of_mem_take hs)), List.length_take, Nat.min_eq_left hk]
  conv => lhs; rw [← List.take_append_drop k S]
  rw [List.flatten_append, List.take_append, h1, Nat.sub_self, List.take_zero, List.append_nil, List.take_of_length_le (by rw [h1]; exact Nat.le_refl _)]
theorem img_take {S S' : List Sec} (h : Full S) (h' : Full S') (hl : S.length = 16) (hl' : S'.length = 16) (he : ∀ i, i < 8 → S[i]? = S'[i]?) : (img S []).take 512 = (img S' []).take 512 := by
  show (S.flatten ++ zs).take 512 = (S'.flatten ++ zs).take 512
  rw [List.take_append_of_le_length (by rw [flat64 h]; omega), List.take_append_of_le_length (by rw [flat64 h']; omega), show 512 = 8 * 64 by rfl, take_flat h 8 (by omega), take_flat h' 8 (by omega)]
  congr 1
  apply List.ext_getElem?
  intro i
  rw [List.getElem?_take, List.getElem?_take]
  split
  · exact he i (by assumption)
  · rfl

set_option maxRecDepth 100000 in
set_option maxHeartbeats 2000000 in
theorem image_any (w : World) (G : Nat → Prop) (p : Nat) (S : List Sec) (L : List Wr) (n : Nat) (h : Dsk w G p S L) (hn : S.length = n) (hn2 : n ≤ 16) (hL : L.length ≤ 1000000) :
    Calls Tryd.prog 27 #[.pointer (some ⟨p, 0, none⟩)] w fun r w' => r = .returned (.string (str (img S L))) ∧ Below w.heap.size w w' := by
  obtain ⟨i0, hi0, hz0, hz1, hz2⟩ := info_parts u8_info
  have hlen := Len_any h
  rw [hn] at hlen
  have HLn := hide hlen
  have HD := hide h
  have Hn := hide hn
  have Hn2 := hide hn2
  have HL := hide hL
  have Hz1 := hide hz1
  have Hz2 := hide hz2
  have Hfull := hide (h.full.all h.fits)
  clear hlen h hn hn2 hL hz1 hz2
  go_enter Tryd.func27, Tryd.ntmps27
  go_wp2_with fail
  refine HLn.out.mono ?_
  rintro r w' ⟨rfl, rfl⟩
  clear HLn
  go_wp2
  go_loopw [3, 9] (fun s j wr => ∃ k : Nat, k ≤ n ∧ j = .int .i64 k ∧ s = .string (str ((all S L).take k).flatten) ∧ Hid (Below w.heap.size w wr)) (fun _ j _ => n - (intOf j).toNat)
  case atStart => exact ⟨0, Nat.zero_le _, rfl, rfl, Below.refl _ _⟩
  case round =>
    obtain ⟨k, hk, rfl, rfl, hb⟩ := hrel
    rcases Nat.lt_or_ge k n with hlt | hge
    · have Hlt := hide hlt
      have hki : (k : Int) < 16 := by have := Hn2.out; omega
      have hkn : (k : Int) < (n : Int) := by omega
      obtain ⟨x, hx⟩ : ∃ x, (all S L)[k]? = some x := ⟨_, List.getElem?_eq_getElem (by rw [all_length, Hn.out]; exact hlt)⟩
      have HR := hide (Read_any wr G p k S L x (HD.out.below hb.out) hx (by rw [Hn.out]; exact hlt) HL.out)
      have Hx := hide hx
      have Hxl := hide (Hfull.out x (List.mem_of_getElem? hx))
      clear hx hlt hk
      go_wp2_with fail
      refine HR.out.mono ?_
      rintro r w2 ⟨g2, rfl, hg2, hc2, hb2⟩
      have HB2 := hide (hb.out.trans (hb2.mono hb.out.size))
      have hrun := run_str w2 _ _ _ 64 64 Hxl.out (byt_row hc2.out)
      have hfl : ((all S L).take k).flatten.length ≤ 1024 := by
        rw [flat64 (fun s hs => Hfull.out s (List.mem_of_mem_take hs)), List.length_take]
        have := Hlt.out
        have := Hn2.out
        omega
      have hadd := run_add ((all S L).take k).flatten x (by rw [Hxl.out]; omega) w2
      have HE := hide (show ((all S L).take k).flatten ++ x = ((all S L).take (k + 1)).flatten by rw [take_snoc _ k x Hx.out, List.flatten_append]; simp)
      clear HR hg2 hc2 hb2 hb hfl
      go_wp2
      go_roundw
      case rel => exact ⟨k + 1, Hlt.out, by go_num, by rw [← HE.out], HB2.out⟩
      case measure => have := Hlt.out; simp [intOf]; omega
    · obtain rfl : k = n := by omega
      have htk : (all S L).take k = all S L := List.take_of_length_le (by rw [all_length, Hn.out]; exact Nat.le_refl _)
      rw [htk]
      have hfl : (all S L).flatten.length ≤ 1024 := by
        rw [flat64 Hfull.out, all_length, Hn.out]
        have := Hn2.out
        omega
      have Hfl := hide hfl
      clear hk hge htk hfl
      go_wp2_with (with_reducible refine wpList_make_told rfl 38 _ _ rfl 5 i0 _ Tryd.underlying38 hi0 hz0 .i64 .i64 1024 1024 rfl rfl (by omega) (by rw [Hz2.out]; decide) (by omega) 1 Hz1.out ?_)
      intro w2 Hw2
      have HB2 : Hid (Below w.heap.size w w2) := by rw [Hw2.out]; exact hb.out.alloc hb.out.size _
      have hg2 : w2.heap[wr.heap.size]? = some (.cells (cels zs).toArray 5 (0, 0)) := by
        rw [Hw2.out]
        refine (heap_alloc_new wr _).trans ?_
        rw [zs, ← made_bytes, Array.toArray_toList]
      have hrun := run_str w2 _ _ _ 1024 1024 zs_length (byt_row hg2)
      have hadd := run_add (all S L).flatten zs (by rw [zs_length]; have := Hfl.out; omega) w2
      clear Hw2 hg2
      go_wp2
      go_ret
      exact ⟨rfl, HB2.out⟩

open Classical in
theorem At.step2 {C : Nat → Option Nat} {w w' : World} {i p B : Nat} {S : List Sec} {L : List Wr} (h : Post w (fun k => C k = some i) p S L w') (hF : From C B) (hB : B ≤ w.heap.size) :
    ∃ C', At C' w' i p S L ∧ Others C C' i w w' ∧ From C' B ∧ Below B w w' ∧ Kept (fun k => C k = some i) w w' ∧ (∀ k j, C' k = some j → j = i ∨ C k = some j) ∧ (∀ k j, C' k = some j → C k = some j ∨ w.heap.size ≤ k) := by
  obtain ⟨G', hd, hg, hk⟩ := h
  refine ⟨fun k => if G' k then some i else if C k = some i then none else C k, hd.congr fun k => ?_, ?_, ?_, hk.below (fun k hk => hF k i hk) hB, hk, ?_, ?_⟩
  · by_cases h1 : G' k
    · simp [h1]
    · by_cases h2 : C k = some i
      · simp [h1, h2]
      · simp [h1, h2]
  · intro j q T M hj hq
    refine (Dsk.kept hq hk fun k h1 h2 => hj (Option.some.inj (h1.symm.trans h2))).congr fun k => ?_
    have hne : (some j : Option Nat) ≠ some i := fun e => hj (Option.some.inj e)
    by_cases h1 : G' k
    · have h3 : ¬ C k = some j := fun h3 => by
        rcases hg k h1 with h4 | h4
        · exact hne (h3.symm.trans h4)
        · have := Dsk.lt hq k h3
          omega
      simp [h1, h3, Ne.symm hj]
    · by_cases h2 : C k = some i
      · simp [h1, h2, Ne.symm hj]
      · simp [h1, h2]
  · intro k j hkj
    by_cases h1 : G' k
    · exact (hg.from (fun k hk => hF k i hk) hB) k h1
    · by_cases h2 : C k = some i
      · simp [h1, h2] at hkj
      · simp only [h1, h2, if_false] at hkj
        exact hF k j hkj
  · intro k j hkj
    by_cases h1 : G' k
    · simp only [h1, if_true] at hkj
      exact Or.inl (Option.some.inj hkj).symm
    · by_cases h2 : C k = some i
      · simp [h1, h2] at hkj
      · simp only [h1, h2, if_false] at hkj
        exact Or.inr hkj
  · intro k j hkj
    by_cases h1 : G' k
    · simp only [h1, if_true] at hkj
      rcases hg k h1 with h4 | h4
      · exact Or.inl (h4.trans hkj)
      · exact Or.inr h4
    · by_cases h2 : C k = some i
      · simp [h1, h2] at hkj
      · simp only [h1, h2, if_false] at hkj
        exact Or.inl hkj

/-- Three disks, side by side. -/
def Tri (w : World) (p q o : Nat) (Sd : List Sec) (Ld : List Wr) (Sa : List Sec) (La : List Wr) (Sn : List Sec) (Ln : List Wr) (wr : World) : Prop :=
  ∃ C, At C wr 0 p Sd Ld ∧ At C wr 1 q Sa La ∧ At C wr 2 o Sn Ln ∧ From C w.heap.size ∧ (∀ k j, C k = some j → j < 3) ∧ Below w.heap.size w wr
/-- And a row that is none's. -/
def TriX (w : World) (p q o : Nat) (Sd : List Sec) (Ld : List Wr) (Sa : List Sec) (La : List Wr) (Sn : List Sec) (Ln : List Wr) (gx : Nat) (l : Sec) (wr : World) : Prop :=
  ∃ C, At C wr 0 p Sd Ld ∧ At C wr 1 q Sa La ∧ At C wr 2 o Sn Ln ∧ From C w.heap.size ∧ (∀ k j, C k = some j → j < 3) ∧ Below w.heap.size w wr ∧ wr.heap[gx]? = some (.cells (cels l).toArray 5 (0, 0)) ∧ ∀ j, C gx ≠ some j
section
variable {w wr w' : World} {p q o gx : Nat} {Sd Sa Sn : List Sec} {Ld La Ln : List Wr} {l : Sec}
theorem TriX.tri (h : TriX w p q o Sd Ld Sa La Sn Ln gx l wr) : Tri w p q o Sd Ld Sa La Sn Ln wr := by
  obtain ⟨C, a0, a1, a2, hF, hC, hB, _⟩ := h
  exact ⟨C, a0, a1, a2, hF, hC, hB⟩
theorem Tri.size (h : Tri w p q o Sd Ld Sa La Sn Ln wr) : Below w.heap.size w wr := by
  obtain ⟨C, a0, a1, a2, hF, hC, hB⟩ := h
  exact hB
theorem TriX.size (h : TriX w p q o Sd Ld Sa La Sn Ln gx l wr) : Below w.heap.size w wr := h.tri.size
theorem Tri.below (h : Tri w p q o Sd Ld Sa La Sn Ln wr) (hb : Below wr.heap.size wr w') : Tri w p q o Sd Ld Sa La Sn Ln w' := by
  obtain ⟨C, a0, a1, a2, hF, hC, hB⟩ := h
  exact ⟨C, a0.below hb, a1.below hb, a2.below hb, hF, hC, hB.trans (hb.mono hB.size)⟩
theorem Tri.row (h : Tri w p q o Sd Ld Sa La Sn Ln wr) (hb : Below wr.heap.size wr w') (hg : wr.heap.size ≤ gx) (hx : w'.heap[gx]? = some (.cells (cels l).toArray 5 (0, 0))) : TriX w p q o Sd Ld Sa La Sn Ln gx l w' := by
  obtain ⟨C, a0, a1, a2, hF, hC, hB⟩ := h
  refine ⟨C, a0.below hb, a1.below hb, a2.below hb, hF, hC, hB.trans (hb.mono hB.size), hx, fun j hj => ?_⟩
  have h3 := hC gx j hj
  have : gx < wr.heap.size := by
    match j, h3 with
    | 0, _ => exact Dsk.lt a0 gx hj
    | 1, _ => exact Dsk.lt a1 gx hj
    | 2, _ => exact Dsk.lt a2 gx hj
  omega
theorem TriX.write0 {kk : Nat} (h : TriX w p q o Sd Ld Sa La Sn Ln gx l wr) (hl : l.length = 64) (hkk : kk < Sd.length) (hL : Ld.length ≤ 900000) :
    Calls Tryd.prog 15 #[.pointer (some ⟨p, 0, none⟩), .int .i64 kk, .slice (some ⟨gx, 0, none⟩) 64 64] wr fun r w' => r = .returned .nilIface ∧ TriX w p q o Sd (Ld ++ [(kk, l)]) Sa La Sn Ln gx l w' := by
  obtain ⟨C, a0, a1, a2, hF, hC, hB, hx, hxC⟩ := h
  refine (Write_any wr _ p kk 64 _ Sd Ld l a0 hkk (byt_row hx) hl hL).mono ?_
  rintro r w' ⟨rfl, hp⟩
  obtain ⟨C', b, ho, hF', hb', hk, hC1, hC2⟩ := At.step2 (B := w.heap.size) hp hF hB.size
  have hgx := heap_lt hx
  refine ⟨rfl, C', b, ho 1 q _ _ (by decide) a1, ho 2 o _ _ (by decide) a2, hF', fun k j hj => ?_, hB.trans hb', (hk.block gx hgx (hxC 0)).trans hx, fun j hj => ?_⟩
  · rcases hC1 k j hj with h | h
    · omega
    · exact hC k j h
  · rcases hC2 gx j hj with h | h
    · exact hxC j h
    · omega
theorem Tri.crash0 {K : Nat} (h : Tri w p q o Sd Ld Sa La Sn Ln wr) (hK : K < 18446744073709551616) (hL : Ld.length ≤ 1000000) :
    Calls Tryd.prog 21 #[.pointer (some ⟨p, 0, none⟩), .int .u64 K] wr fun r w' => r = .returned (.tuple #[]) ∧ Tri w p q o (crash K 0 Ld Sd) [] Sa La Sn Ln w' := by
  obtain ⟨C, a0, a1, a2, hF, hC, hB⟩ := h
  refine (Crash_any wr _ p K Sd Ld a0 hK hL).mono ?_
  rintro r w' ⟨rfl, hp⟩
  obtain ⟨C', b, ho, hF', hb', hk, hC1, hC2⟩ := At.step2 (B := w.heap.size) hp hF hB.size
  refine ⟨rfl, C', b, ho 1 q _ _ (by decide) a1, ho 2 o _ _ (by decide) a2, hF', fun k j hj => ?_, hB.trans hb'⟩
  rcases hC1 k j hj with h | h
  · omega
  · exact hC k j h
theorem Tri.flush0 (h : Tri w p q o Sd Ld Sa La Sn Ln wr) (hL : Ld.length ≤ 1000000) :
    Calls Tryd.prog 19 #[.pointer (some ⟨p, 0, none⟩)] wr fun r w' => r = .returned (.tuple #[]) ∧ Tri w p q o (all Sd Ld) [] Sa La Sn Ln w' := by
  obtain ⟨C, a0, a1, a2, hF, hC, hB⟩ := h
  refine (Flush_any wr _ p Sd Ld a0 hL).mono ?_
  rintro r w' ⟨rfl, hp⟩
  obtain ⟨C', b, ho, hF', hb', hk, hC1, hC2⟩ := At.step2 (B := w.heap.size) hp hF hB.size
  refine ⟨rfl, C', b, ho 1 q _ _ (by decide) a1, ho 2 o _ _ (by decide) a2, hF', fun k j hj => ?_, hB.trans hb'⟩
  rcases hC1 k j hj with h | h
  · omega
  · exact hC k j h
theorem Tri.image0 (h : Tri w p q o Sd Ld Sa La Sn Ln wr) (hS : Sd.length = 16) (hL : Ld.length ≤ 1000000) :
    Calls Tryd.prog 27 #[.pointer (some ⟨p, 0, none⟩)] wr fun r w' => r = .returned (.string (str (img Sd Ld))) ∧ Below wr.heap.size wr w' := by
  obtain ⟨C, a0, a1, a2, hF, hC, hB⟩ := h
  exact image_any wr _ p Sd Ld 16 a0 hS (by decide) hL
theorem Tri.loose0 (h : Tri w p q o Sd Ld Sa La Sn Ln wr) :
    Calls Tryd.prog 23 #[.pointer (some ⟨p, 0, none⟩)] wr fun r w' => r = .returned (.int .i64 Ld.length) ∧ wr = w' := by
  obtain ⟨C, a0, a1, a2, hF, hC, hB⟩ := h
  exact Loose_any a0
theorem Tri.full0 (h : Tri w p q o Sd Ld Sa La Sn Ln wr) : Full Sd ∧ Fits Sd.length Ld := by
  obtain ⟨C, a0, a1, a2, hF, hC, hB⟩ := h
  exact ⟨Dsk.full a0, Dsk.fits a0⟩
theorem TriX.write1 {kk : Nat} (h : TriX w p q o Sd Ld Sa La Sn Ln gx l wr) (hl : l.length = 64) (hkk : kk < Sa.length) (hL : La.length ≤ 900000) :
    Calls Tryd.prog 15 #[.pointer (some ⟨q, 0, none⟩), .int .i64 kk, .slice (some ⟨gx, 0, none⟩) 64 64] wr fun r w' => r = .returned .nilIface ∧ TriX w p q o Sd Ld Sa (La ++ [(kk, l)]) Sn Ln gx l w' := by
  obtain ⟨C, a0, a1, a2, hF, hC, hB, hx, hxC⟩ := h
  refine (Write_any wr _ q kk 64 _ Sa La l a1 hkk (byt_row hx) hl hL).mono ?_
  rintro r w' ⟨rfl, hp⟩
  obtain ⟨C', b, ho, hF', hb', hk, hC1, hC2⟩ := At.step2 (B := w.heap.size) hp hF hB.size
  have hgx := heap_lt hx
  refine ⟨rfl, C', ho 0 p _ _ (by decide) a0, b, ho 2 o _ _ (by decide) a2, hF', fun k j hj => ?_, hB.trans hb', (hk.block gx hgx (hxC 1)).trans hx, fun j hj => ?_⟩
  · rcases hC1 k j hj with h | h
    · omega
    · exact hC k j h
  · rcases hC2 gx j hj with h | h
    · exact hxC j h
    · omega
theorem Tri.crash1 {K : Nat} (h : Tri w p q o Sd Ld Sa La Sn Ln wr) (hK : K < 18446744073709551616) (hL : La.length ≤ 1000000) :
    Calls Tryd.prog 21 #[.pointer (some ⟨q, 0, none⟩), .int .u64 K] wr fun r w' => r = .returned (.tuple #[]) ∧ Tri w p q o Sd Ld (crash K 0 La Sa) [] Sn Ln w' := by
  obtain ⟨C, a0, a1, a2, hF, hC, hB⟩ := h
  refine (Crash_any wr _ q K Sa La a1 hK hL).mono ?_
  rintro r w' ⟨rfl, hp⟩
  obtain ⟨C', b, ho, hF', hb', hk, hC1, hC2⟩ := At.step2 (B := w.heap.size) hp hF hB.size
  refine ⟨rfl, C', ho 0 p _ _ (by decide) a0, b, ho 2 o _ _ (by decide) a2, hF', fun k j hj => ?_, hB.trans hb'⟩
  rcases hC1 k j hj with h | h
  · omega
  · exact hC k j h
theorem Tri.flush1 (h : Tri w p q o Sd Ld Sa La Sn Ln wr) (hL : La.length ≤ 1000000) :
    Calls Tryd.prog 19 #[.pointer (some ⟨q, 0, none⟩)] wr fun r w' => r = .returned (.tuple #[]) ∧ Tri w p q o Sd Ld (all Sa La) [] Sn Ln w' := by
  obtain ⟨C, a0, a1, a2, hF, hC, hB⟩ := h
  refine (Flush_any wr _ q Sa La a1 hL).mono ?_
  rintro r w' ⟨rfl, hp⟩
  obtain ⟨C', b, ho, hF', hb', hk, hC1, hC2⟩ := At.step2 (B := w.heap.size) hp hF hB.size
  refine ⟨rfl, C', ho 0 p _ _ (by decide) a0, b, ho 2 o _ _ (by decide) a2, hF', fun k j hj => ?_, hB.trans hb'⟩
  rcases hC1 k j hj with h | h
  · omega
  · exact hC k j h
theorem Tri.image1 (h : Tri w p q o Sd Ld Sa La Sn Ln wr) (hS : Sa.length = 16) (hL : La.length ≤ 1000000) :
    Calls Tryd.prog 27 #[.pointer (some ⟨q, 0, none⟩)] wr fun r w' => r = .returned (.string (str (img Sa La))) ∧ Below wr.heap.size wr w' := by
  obtain ⟨C, a0, a1, a2, hF, hC, hB⟩ := h
  exact image_any wr _ q Sa La 16 a1 hS (by decide) hL
theorem Tri.loose1 (h : Tri w p q o Sd Ld Sa La Sn Ln wr) :
    Calls Tryd.prog 23 #[.pointer (some ⟨q, 0, none⟩)] wr fun r w' => r = .returned (.int .i64 La.length) ∧ wr = w' := by
  obtain ⟨C, a0, a1, a2, hF, hC, hB⟩ := h
  exact Loose_any a1
theorem Tri.full1 (h : Tri w p q o Sd Ld Sa La Sn Ln wr) : Full Sa ∧ Fits Sa.length La := by
  obtain ⟨C, a0, a1, a2, hF, hC, hB⟩ := h
  exact ⟨Dsk.full a1, Dsk.fits a1⟩
theorem TriX.write2 {kk : Nat} (h : TriX w p q o Sd Ld Sa La Sn Ln gx l wr) (hl : l.length = 64) (hkk : kk < Sn.length) (hL : Ln.length ≤ 900000) :
    Calls Tryd.prog 15 #[.pointer (some ⟨o, 0, none⟩), .int .i64 kk, .slice (some ⟨gx, 0, none⟩) 64 64] wr fun r w' => r = .returned .nilIface ∧ TriX w p q o Sd Ld Sa La Sn (Ln ++ [(kk, l)]) gx l w' := by
  obtain ⟨C, a0, a1, a2, hF, hC, hB, hx, hxC⟩ := h
  refine (Write_any wr _ o kk 64 _ Sn Ln l a2 hkk (byt_row hx) hl hL).mono ?_
  rintro r w' ⟨rfl, hp⟩
  obtain ⟨C', b, ho, hF', hb', hk, hC1, hC2⟩ := At.step2 (B := w.heap.size) hp hF hB.size
  have hgx := heap_lt hx
  refine ⟨rfl, C', ho 0 p _ _ (by decide) a0, ho 1 q _ _ (by decide) a1, b, hF', fun k j hj => ?_, hB.trans hb', (hk.block gx hgx (hxC 2)).trans hx, fun j hj => ?_⟩
  · rcases hC1 k j hj with h | h
    · omega
    · exact hC k j h
  · rcases hC2 gx j hj with h | h
    · exact hxC j h
    · omega
theorem Tri.crash2 {K : Nat} (h : Tri w p q o Sd Ld Sa La Sn Ln wr) (hK : K < 18446744073709551616) (hL : Ln.length ≤ 1000000) :
    Calls Tryd.prog 21 #[.pointer (some ⟨o, 0, none⟩), .int .u64 K] wr fun r w' => r = .returned (.tuple #[]) ∧ Tri w p q o Sd Ld Sa La (crash K 0 Ln Sn) [] w' := by
  obtain ⟨C, a0, a1, a2, hF, hC, hB⟩ := h
  refine (Crash_any wr _ o K Sn Ln a2 hK hL).mono ?_
  rintro r w' ⟨rfl, hp⟩
  obtain ⟨C', b, ho, hF', hb', hk, hC1, hC2⟩ := At.step2 (B := w.heap.size) hp hF hB.size
  refine ⟨rfl, C', ho 0 p _ _ (by decide) a0, ho 1 q _ _ (by decide) a1, b, hF', fun k j hj => ?_, hB.trans hb'⟩
  rcases hC1 k j hj with h | h
  · omega
  · exact hC k j h
theorem Tri.flush2 (h : Tri w p q o Sd Ld Sa La Sn Ln wr) (hL : Ln.length ≤ 1000000) :
    Calls Tryd.prog 19 #[.pointer (some ⟨o, 0, none⟩)] wr fun r w' => r = .returned (.tuple #[]) ∧ Tri w p q o Sd Ld Sa La (all Sn Ln) [] w' := by
  obtain ⟨C, a0, a1, a2, hF, hC, hB⟩ := h
  refine (Flush_any wr _ o Sn Ln a2 hL).mono ?_
  rintro r w' ⟨rfl, hp⟩
  obtain ⟨C', b, ho, hF', hb', hk, hC1, hC2⟩ := At.step2 (B := w.heap.size) hp hF hB.size
  refine ⟨rfl, C', ho 0 p _ _ (by decide) a0, ho 1 q _ _ (by decide) a1, b, hF', fun k j hj => ?_, hB.trans hb'⟩
  rcases hC1 k j hj with h | h
  · omega
  · exact hC k j h
theorem Tri.image2 (h : Tri w p q o Sd Ld Sa La Sn Ln wr) (hS : Sn.length = 16) (hL : Ln.length ≤ 1000000) :
    Calls Tryd.prog 27 #[.pointer (some ⟨o, 0, none⟩)] wr fun r w' => r = .returned (.string (str (img Sn Ln))) ∧ Below wr.heap.size wr w' := by
  obtain ⟨C, a0, a1, a2, hF, hC, hB⟩ := h
  exact image_any wr _ o Sn Ln 16 a2 hS (by decide) hL
theorem Tri.loose2 (h : Tri w p q o Sd Ld Sa La Sn Ln wr) :
    Calls Tryd.prog 23 #[.pointer (some ⟨o, 0, none⟩)] wr fun r w' => r = .returned (.int .i64 Ln.length) ∧ wr = w' := by
  obtain ⟨C, a0, a1, a2, hF, hC, hB⟩ := h
  exact Loose_any a2
theorem Tri.full2 (h : Tri w p q o Sd Ld Sa La Sn Ln wr) : Full Sn ∧ Fits Sn.length Ln := by
  obtain ⟨C, a0, a1, a2, hF, hC, hB⟩ := h
  exact ⟨Dsk.full a2, Dsk.fits a2⟩
end

end Go.Proofs.YthdgidfdjnfpiaaDoor.Dk
