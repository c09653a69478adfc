/-
  DiskFaults at every number of sectors, every sector and every text: it returns true, and changes nothing that was there. Conditions: the library's variable errors.errorType holds its own type's handle, its table of powers of ten its own numbers.
-/
import Derived.Test.YthdgidfdjnfpiaaDoorFaPathB
import Derived.Test.YthdgidfdjnfpiaaDoorDkNew
namespace Go.Proofs.YthdgidfdjnfpiaaDoor.Dk
open Go.RowKit
open Pk Sm Fa

abbrev dsk : ByteArray := ⟨#[100, 105, 115, 107]⟩
theorem fnd_dsk (p : Nat) (i : Int) : fnd (pls [(p, dsk, i)]) dsk = (i, true) := fnd_yes (show (dsk.toList == dsk.toList) = true from beq_self_eq_true _)
theorem First_dsk (p : Nat) (i : Int) (e v : Value) (w : World) (hty : Ety w) (hch : Chain w [(p, dsk, i)] e v) (hi : Inner v) :
    Calls Tryd.prog 24 #[e, .string dsk] w fun r w' => r = .returned (.tuple #[.int .i64 i, .bool true]) ∧ Below w.heap.size w w' := by
  have := First_any [(p, dsk, i)] e v dsk 1 w rfl hty hch hi (by decide)
  rw [fnd_dsk] at this
  exact this
theorem First_none (w : World) (hty : Ety w) :
    Calls Tryd.prog 24 #[.nilIface, .string dsk] w fun r w' => r = .returned (.tuple #[.int .i64 0, .bool false]) ∧ Below w.heap.size w w' :=
  First_any [] .nilIface .nilIface dsk 0 w rfl hty rfl (Or.inl rfl) (by decide)

set_option maxRecDepth 100000 in
set_option maxHeartbeats 4000000 in
theorem Faults_any (sec i : Int) (s : ByteArray) (w : World) (hty : Ety w) (htab : Tab10 w) (_hsec : -9223372036854775808 ≤ sec ∧ sec ≤ 9223372036854775807) (hi : -9223372036854775808 ≤ i ∧ i ≤ 9223372036854775807) (hs : s.size ≤ maxLen) :
    Calls Tryd.prog 4 #[.int .i64 sec, .int .i64 i, .string s] w fun r w' => r = .returned (.bool true) ∧ Below w.heap.size w w' := by
  have HA := hide (awake_any w hty)
  have Hty := hide hty
  have Htab := hide htab
  have Hs := hide hs
  have Hi := hide hi
  clear hty htab hs hi
  go_enter Tryd.func4, Tryd.ntmps4
  go_wp2_with fail
  refine HA.out.mono ?_
  rintro r w1 ⟨rfl, hb1⟩
  have HB1 := hide hb1
  clear HA hb1
  by_cases hlong : (300 : Int) < (s.size : Int)
  · have HA := hide (awake_any w1 (Hty.out.below HB1.out Hty.out.lt))
    go_wp2_with fail
    refine HA.out.mono ?_
    rintro r w2 ⟨rfl, hb2⟩
    have HB2 := hide (HB1.out.trans (hb2.mono HB1.out.size))
    clear HA hb2
    go_wp2
    go_ret
    exact ⟨rfl, HB2.out⟩
  · obtain ⟨N, hN⟩ : ∃ N : Nat, (N : Int) = min (max sec 0) 1024 := ⟨(min (max sec 0) 1024).toNat, by omega⟩
    have HN := hide hN
    have hmx : max 0 (min sec 1024) = (N : Int) := by omega
    have hshort : (s.size : Int) ≤ 300 := by omega
    have Hshort := hide hshort
    clear hN hlong
    go_wp2_with fail
    refine (New_any sec N w1 HN.out).mono ?_
    rintro r w2 ⟨p, G, rfl, hd2, hG2, hb2⟩
    have HB2 := hide (HB1.out.trans (hb2.mono HB1.out.size))
    obtain ⟨w3, c3, hc3, hc3', hrun, hbyt, hb3⟩ := to_bytes w2 s Hs.out
    have HB3 := hide (HB2.out.trans (hb3.mono HB2.out.size))
    have hd3 := hd2.below hb3
    have HG := hide (show ∀ k, G k → w.heap.size ≤ k from fun k hk => Nat.le_trans HB1.out.size (hG2 k hk))
    have Hty3 := hide (Hty.out.below HB3.out Hty.out.lt)
    have Htab3 := hide (Htab.out.below HB3.out)
    have Hbyt := hide hbyt
    have HD3 := hide hd3
    have HL3 : Hid (Lens w3 (.pointer (some ⟨p, 0, none⟩)) N) := by
      have := Len_any hd3
      rw [List.length_replicate] at this
      exact this
    clear hd2 hG2 hb2 hc3 hc3' hbyt hb3 hd3 HB1 HB2
    by_cases hthere : 0 ≤ i ∧ i < (N : Int)
    · obtain ⟨h0, h1⟩ := hthere
      obtain ⟨k, rfl⟩ : ∃ k : Nat, i = (k : Int) := ⟨i.toNat, by omega⟩
      have hkn : k < (List.replicate N zero).length := by rw [List.length_replicate]; omega
      have Hkn := hide hkn
      clear hkn
      by_cases h64 : s.size = 64
      · have hby : Byt w3 w3.heap.size (some ⟨w2.heap.size, 0, none⟩) s.data.toList := Hbyt.out
        have Hw := hide (Write_any w3 G p k c3 _ _ _ s.data.toList HD3.out Hkn.out hby (by rw [size_eq]; exact h64) (by decide))
        rw [← h64] at Hw
        have h64' : (s.size : Int) = 64 := by omega
        have H64 := hide h64
        clear hby h64
        go_wp2_with fail
        refine Hw.out.mono ?_
        rintro r w4 ⟨rfl, G4, hd4, hg4, hk4⟩
        have HB4 := hide (HB3.out.trans (hk4.below HG.out HB3.out.size))
        have Hl4 := hide (show (all (List.replicate N zero) ([] ++ [(k, s.data.toList)]))[k]? = some s.data.toList from all_last (L := []) (M := []) Hkn.out (fun x hx => by cases hx))
        have HR := hide (Read_any w4 G4 p k _ _ _ hd4 Hl4.out Hkn.out (by simp))
        have HD4 := hide hd4
        clear Hw hd4 hg4 hk4
        go_wp2_with fail
        refine HR.out.mono ?_
        rintro r w5 ⟨g5, rfl, _, _, hb5⟩
        have HB5 := hide (HB4.out.trans (hb5.mono HB4.out.size))
        have hl5 := Len_any (HD4.out.below hb5)
        rw [List.length_replicate] at hl5
        have HL5 := hide hl5
        clear HR hb5 hl5
        go_wp2_with fail
        refine HL5.out.mono ?_
        rintro r w5' ⟨rfl, rfl⟩
        have HF := hide (First_none w5 (Hty.out.below HB5.out Hty.out.lt))
        clear HL5
        go_wp2_with fail
        refine HF.out.mono ?_
        rintro r w6 ⟨rfl, hb6⟩
        have HB6 := hide (HB5.out.trans (hb6.mono HB5.out.size))
        have HF := hide (First_none w6 (Hty.out.below HB6.out Hty.out.lt))
        clear hb6
        go_wp2_with fail
        refine HF.out.mono ?_
        rintro r w7 ⟨rfl, hb7⟩
        have HB7 := hide (HB6.out.trans (hb7.mono HB6.out.size))
        clear hb7 HF
        go_wp2
        go_ret
        exact ⟨rfl, HB7.out⟩
      · have h64' : ¬ ((s.size : Int) = 64) := by omega
        have Hw := hide (Write_bad (.pointer (some ⟨p, 0, none⟩)) k (some ⟨w2.heap.size, 0, none⟩) s.size c3 N w3 HL3.out h0 h1 h64')
        clear h64
        go_wp2_with fail
        refine Hw.out.mono ?_
        rintro r w4 ⟨rfl, hw4⟩
        have hb4 : Below w3.heap.size w3 w4 := by rw [hw4]; exact flt_below w3 k 1
        have HB4 := hide (HB3.out.trans (hb4.mono HB3.out.size))
        have HC4 : Hid (Chain w4 [(w3.heap.size, dsk, (k : Int))] (ptr w3) (.iface 33 (.int .i64 1))) := by rw [hw4]; exact flt_chain w3 k 1
        have hd4 := HD3.out.below hb4
        have HR := hide (Read_any w4 G p k _ _ zero hd4 (by show (List.replicate N zero)[k]? = _; rw [List.getElem?_replicate, if_pos (by have := Hkn.out; simpa using this)]) Hkn.out (by simp))
        have HD4 := hide hd4
        clear Hw hw4 hb4 hd4
        go_wp2_with fail
        refine HR.out.mono ?_
        rintro r w5 ⟨g5, rfl, _, _, hb5⟩
        have HB5 := hide (HB4.out.trans (hb5.mono HB4.out.size))
        have HC5 := hide (HC4.out.below (Nat.le_refl _) hb5)
        have hl5 := Len_any (HD4.out.below hb5)
        rw [List.length_replicate] at hl5
        have HL5 := hide hl5
        clear HR hb5 hl5 HC4
        go_wp2_with fail
        refine HL5.out.mono ?_
        rintro r w5' ⟨rfl, rfl⟩
        have HF := hide (First_dsk _ _ _ _ w5 (Hty.out.below HB5.out Hty.out.lt) HC5.out (Or.inr ⟨1, rfl⟩))
        clear HL5
        go_wp2_with fail
        refine HF.out.mono ?_
        rintro r w6 ⟨rfl, hb6⟩
        have HB6 := hide (HB5.out.trans (hb6.mono HB5.out.size))
        have hnice : Nice w6 [(w3.heap.size, dsk, (k : Int))] := fun f hf => by
          rw [List.mem_singleton.1 hf]
          exact ⟨show dsk.size ≤ 200 by decide, Or.inr ⟨Htab.out.below HB6.out, Hi.out⟩⟩
        have HP := hide (Path_any _ _ _ 1 w6 rfl (Hty.out.below HB6.out Hty.out.lt) (HC5.out.below (Nat.le_refl _) hb6) (Or.inr ⟨1, rfl⟩) hnice (by decide))
        clear hb6 HF hnice
        go_wp2_with fail
        refine HP.out.mono ?_
        rintro r w7 hp7
        obtain ⟨pA, pc, rfl, _, _, _, hb7⟩ := hp7
        have HB7 := hide (HB6.out.trans (hb7.mono HB6.out.size))
        have HF := hide (First_none w7 (Hty.out.below HB7.out Hty.out.lt))
        clear hb7 HP
        go_wp2_with fail
        refine HF.out.mono ?_
        rintro r w8 ⟨rfl, hb8⟩
        have HB8 := hide (HB7.out.trans (hb8.mono HB7.out.size))
        clear hb8 HF
        go_wp2
        go_ret
        exact ⟨rfl, HB8.out⟩
    · have Hw := hide (Write_out (.pointer (some ⟨p, 0, none⟩)) i (.slice (some ⟨w2.heap.size, 0, none⟩) s.size c3) N w3 HL3.out hthere)
      have hth : Hid (¬ (0 ≤ i ∧ i < (N : Int))) := hthere
      clear hthere
      go_wp2_with fail
      refine Hw.out.mono ?_
      rintro r w4 ⟨rfl, hw4⟩
      have hb4 : Below w3.heap.size w3 w4 := by rw [hw4]; exact flt_below w3 i 5
      have HB4 := hide (HB3.out.trans (hb4.mono HB3.out.size))
      have HC4 : Hid (Chain w4 [(w3.heap.size, dsk, i)] (ptr w3) (.iface 33 (.int .i64 5))) := by rw [hw4]; exact flt_chain w3 i 5
      have hd4 := HD3.out.below hb4
      have hl4 := Len_any hd4
      rw [List.length_replicate] at hl4
      have HR := hide (Read_out (.pointer (some ⟨p, 0, none⟩)) i N w4 hl4 hth.out)
      have HD4 := hide hd4
      clear Hw hw4 hb4 hd4 hl4
      go_wp2_with fail
      refine HR.out.mono ?_
      rintro r w5 ⟨rfl, hw5⟩
      have hb5 : Below w4.heap.size w4 w5 := by rw [hw5]; exact flt_below w4 i 5
      have HB5 := hide (HB4.out.trans (hb5.mono HB4.out.size))
      have HC5 := hide (HC4.out.below (Nat.le_refl _) hb5)
      have HE5 : Hid (Chain w5 [(w4.heap.size, dsk, i)] (ptr w4) (.iface 33 (.int .i64 5))) := by rw [hw5]; exact flt_chain w4 i 5
      have hl5 := Len_any (HD4.out.below hb5)
      rw [List.length_replicate] at hl5
      have HL5 := hide hl5
      clear HR hb5 hl5 HC4 hw5 HD4
      have hth' : 0 ≤ i → (N : Int) ≤ i := fun h => by have := hth.out; omega
      rcases Int.lt_or_le i 0 with hneg | hpos
      · go_wp2_with fail
        refine HL5.out.mono ?_
        rintro r w5' ⟨rfl, rfl⟩
        have HF := hide (First_dsk _ _ _ _ w5 (Hty.out.below HB5.out Hty.out.lt) HC5.out (Or.inr ⟨5, rfl⟩))
        clear HL5
        go_wp2_with fail
        refine HF.out.mono ?_
        rintro r w6 ⟨rfl, hb6⟩
        have HB6 := hide (HB5.out.trans (hb6.mono HB5.out.size))
        have hnice : Nice w6 [(w3.heap.size, dsk, i)] := fun f hf => by
          rw [List.mem_singleton.1 hf]
          exact ⟨show dsk.size ≤ 200 by decide, Or.inr ⟨Htab.out.below HB6.out, Hi.out⟩⟩
        have HC6 := hide (HC5.out.below (Nat.le_refl _) hb6)
        have HE6 := hide (HE5.out.below (Nat.le_refl _) hb6)
        have HP := hide (Path_any _ _ _ 1 w6 rfl (Hty.out.below HB6.out Hty.out.lt) HC6.out (Or.inr ⟨5, rfl⟩) hnice (by decide))
        clear hb6 HF hnice HC5 HE5
        go_wp2_with fail
        refine HP.out.mono ?_
        rintro r w7 hp7
        obtain ⟨pA, pc, rfl, _, _, _, hb7⟩ := hp7
        have HB7 := hide (HB6.out.trans (hb7.mono HB6.out.size))
        have HC7 := hide (HC6.out.below (Nat.le_refl _) hb7)
        have HE7 := hide (HE6.out.below (Nat.le_refl _) hb7)
        have HF := hide (First_dsk _ _ _ _ w7 (Hty.out.below HB7.out Hty.out.lt) HE7.out (Or.inr ⟨5, rfl⟩))
        clear hb7 HP HC6 HE6
        go_wp2_with fail
        refine HF.out.mono ?_
        rintro r w8 ⟨rfl, hb8⟩
        have HB8 := hide (HB7.out.trans (hb8.mono HB7.out.size))
        have HC8 := hide (HC7.out.below (Nat.le_refl _) hb8)
        have HE8 := hide (HE7.out.below (Nat.le_refl _) hb8)
        have HQ := hide (Code_any _ _ _ 5 w8 (Hty.out.below HB8.out Hty.out.lt) HE8.out (Or.inr rfl) (by simp))
        clear hb8 HF HC7 HE7
        go_wp2_with fail
        refine HQ.out.mono ?_
        rintro r w9 ⟨rfl, hb9⟩
        have HB9 := hide (HB8.out.trans (hb9.mono HB8.out.size))
        have HQ := hide (Code_any _ _ _ 5 w9 (Hty.out.below HB9.out Hty.out.lt) (HC8.out.below (Nat.le_refl _) hb9) (Or.inr rfl) (by simp))
        clear hb9 HC8 HE8
        go_wp2_with fail
        refine HQ.out.mono ?_
        rintro r w10 ⟨rfl, hb10⟩
        have HB10 := hide (HB9.out.trans (hb10.mono HB9.out.size))
        clear hb10 HQ
        go_wp2
        go_ret
        exact ⟨rfl, HB10.out⟩
      · have hni : ¬ (i < (N : Int)) := by have := hth' hpos; omega
        go_wp2_with fail
        refine HL5.out.mono ?_
        rintro r w5' ⟨rfl, rfl⟩
        have HF := hide (First_dsk _ _ _ _ w5 (Hty.out.below HB5.out Hty.out.lt) HC5.out (Or.inr ⟨5, rfl⟩))
        clear HL5
        go_wp2_with fail
        refine HF.out.mono ?_
        rintro r w6 ⟨rfl, hb6⟩
        have HB6 := hide (HB5.out.trans (hb6.mono HB5.out.size))
        have hnice : Nice w6 [(w3.heap.size, dsk, i)] := fun f hf => by
          rw [List.mem_singleton.1 hf]
          exact ⟨show dsk.size ≤ 200 by decide, Or.inr ⟨Htab.out.below HB6.out, Hi.out⟩⟩
        have HC6 := hide (HC5.out.below (Nat.le_refl _) hb6)
        have HE6 := hide (HE5.out.below (Nat.le_refl _) hb6)
        have HP := hide (Path_any _ _ _ 1 w6 rfl (Hty.out.below HB6.out Hty.out.lt) HC6.out (Or.inr ⟨5, rfl⟩) hnice (by decide))
        clear hb6 HF hnice HC5 HE5
        go_wp2_with fail
        refine HP.out.mono ?_
        rintro r w7 hp7
        obtain ⟨pA, pc, rfl, _, _, _, hb7⟩ := hp7
        have HB7 := hide (HB6.out.trans (hb7.mono HB6.out.size))
        have HC7 := hide (HC6.out.below (Nat.le_refl _) hb7)
        have HE7 := hide (HE6.out.below (Nat.le_refl _) hb7)
        have HF := hide (First_dsk _ _ _ _ w7 (Hty.out.below HB7.out Hty.out.lt) HE7.out (Or.inr ⟨5, rfl⟩))
        clear hb7 HP HC6 HE6
        go_wp2_with fail
        refine HF.out.mono ?_
        rintro r w8 ⟨rfl, hb8⟩
        have HB8 := hide (HB7.out.trans (hb8.mono HB7.out.size))
        have HC8 := hide (HC7.out.below (Nat.le_refl _) hb8)
        have HE8 := hide (HE7.out.below (Nat.le_refl _) hb8)
        have HQ := hide (Code_any _ _ _ 5 w8 (Hty.out.below HB8.out Hty.out.lt) HE8.out (Or.inr rfl) (by simp))
        clear hb8 HF HC7 HE7
        go_wp2_with fail
        refine HQ.out.mono ?_
        rintro r w9 ⟨rfl, hb9⟩
        have HB9 := hide (HB8.out.trans (hb9.mono HB8.out.size))
        have HQ := hide (Code_any _ _ _ 5 w9 (Hty.out.below HB9.out Hty.out.lt) (HC8.out.below (Nat.le_refl _) hb9) (Or.inr rfl) (by simp))
        clear hb9 HC8 HE8
        go_wp2_with fail
        refine HQ.out.mono ?_
        rintro r w10 ⟨rfl, hb10⟩
        have HB10 := hide (HB9.out.trans (hb10.mono HB9.out.size))
        clear hb10 HQ
        go_wp2
        go_ret
        exact ⟨rfl, HB10.out⟩
end Go.Proofs.YthdgidfdjnfpiaaDoor.Dk
