/-
  LinkOrder at every list of texts, from either end: it returns true, and changes nothing that was there. Condition: the library's variable errors.errorType holds what the program's own text lays.
-/
import Derived.BigQuiet
import Derived.Test.YtidojlagdodkkaaDoorLkErrD
import Derived.Test.YtidojlagdodkkaaDoorLkOp
import Derived.Test.YtidojlagdodkkaaDoorLkSt
import Derived.Test.YtidojlagdodkkaaDoorLiAwake
import Derived.Test.YtidojlagdodkkaaDoorLsPlay
namespace Go.Proofs.YtidojlagdodkkaaDoor.Ls
open Go.RowKit
open Pk Sm Fa Dk Wn Lk

theorem cap_nat {n : Nat} (h : n ≤ 200) : cap (n : Int) = n := by unfold cap; omega
set_option maxRecDepth 100000 in
set_option maxHeartbeats 8000000 in
theorem Order_any (A : Option Addr) (n c : Nat) (l : List ByteArray) (back : Bool) (w : World) (hty : Ety w) (hl : l.length = n) (hs : Src w A (texts l)) :
    Calls Tryd.prog 4 #[.slice A n c, .bool back] w fun e w' => e = .returned (.bool true) ∧ Below w.heap.size w w' := by
  have HE := hide hty
  have Hl := hide hl
  have Hs := hide hs
  clear hty hl hs
  go_enter Tryd.func4, Tryd.ntmps4
  go_wp2_with fail
  refine (Li.awake_any w).mono ?_
  rintro e w1 ⟨rfl, hb⟩
  have HS := hide ((St.start w).below hb)
  clear hb
  by_cases hn : 200 < n
  · have hni : (200 : Int) < (n : Int) := by omega
    go_wp2_with fail
    refine (Li.awake_any w1).mono ?_
    rintro e w2 ⟨rfl, hb2⟩
    have HB2 := hide (HS.out.below hb2).bel
    clear hb2
    go_wp2
    go_ret
    exact ⟨rfl, HB2.out⟩
  have hni : ¬ (200 : Int) < (n : Int) := by omega
  have hni2 : (n : Int) ≤ 200 := by omega
  have Hn := hide (show n ≤ 200 by omega)
  clear hn
  go_wp2_with fail
  refine (New_st HS.out (n : Int)).mono ?_
  rintro e w2 ⟨p, rfl, HS2⟩
  rw [cap_nat Hn.out] at HS2
  clear HS
  go_wp2_with fail
  go_loopw [27] (fun j wr => ∃ (i : Nat), i ≤ n ∧ j = .int .i64 (i : Int) ∧ Hid (St w [lnkT p (l.take i) n false] wr)) (fun j _ => n - (intOf j).toNat)
  case atStart => exact ⟨0, Nat.zero_le _, rfl, HS2⟩
  case round =>
    clear HS2
    obtain ⟨i, hin, rfl, HS⟩ := hrel
    rcases Nat.lt_or_ge i n with hlt | hge
    · have Hlt := hide hlt
      have hii : (i : Int) < (n : Int) := by omega
      obtain ⟨s, hsi⟩ : ∃ s, l[i]? = some s := ⟨_, List.getElem?_eq_getElem (by rw [Hl.out]; exact hlt)⟩
      have HT : Hid (l.take (i + 1) = l.take i ++ [s]) := by show _ = _; rw [List.take_add_one, hsi]; rfl
      obtain ⟨g, o, rfl, hgl, c0⟩ := Src.text (Hs.out.below HS.out.bel) hsi
      clear hlt hin hsi
      go_wp2_with fail
      refine (Send_room HS.out (i := 0) rfl s (by rw [List.length_take, Hl.out]; have := Hlt.out; omega)).mono ?_
      rintro e w5 ⟨rfl, HS5⟩
      have HS6 : Hid (St w [lnkT p (l.take (i + 1)) n false] w5) := by rw [HT.out]; exact HS5.out
      clear HS HS5
      go_wp2
      go_roundw
      case rel => exact ⟨i + 1, Hlt.out, by go_num, HS6⟩
      case measure => have := Hlt.out; simp [intOf]; omega
    · obtain rfl : i = n := by omega
      have HS1 : Hid (St w [lnkT p l i false] wr) := by have := HS.out; rw [List.take_of_length_le (by rw [Hl.out]; exact Nat.le_refl _)] at this; exact this
      clear HS hge hin
      go_wp2_with fail
      refine (Send_none HS1.out (i := 0) rfl ⟨#[]⟩ Hl.out).mono ?_
      rintro e w6 ⟨q, rfl, HF⟩
      have HS7 := hide (HS1.out.below HF.out.2)
      have HF7 := hide HF.out.1
      clear HF HS1
      go_wp2_with fail
      refine (Code_flt (HE.out.below HS7.out.bel HE.out.lt) HF7.out).mono ?_
      rintro e w7 ⟨rfl, hb⟩
      have HS8 := hide (HS7.out.below hb)
      clear hb HS7 HF7
      cases back with
      | false =>
        go_wp2_with fail
        go_loopw [44] (fun j wr => ∃ (k : Nat), k ≤ i ∧ j = .int .i64 (k : Int) ∧ Hid (St w [lnkT p (l.drop k) i false] wr)) (fun j _ => i - (intOf j).toNat)
        case atStart => exact ⟨0, Nat.zero_le _, rfl, by have := HS8.out; exact this⟩
        case round =>
          clear HS8
          obtain ⟨k, hki, rfl, HS⟩ := hrel
          rcases Nat.lt_or_ge k i with hlt | hge
          · have Hlt := hide hlt
            have hkii : (k : Int) < (i : Int) := by omega
            obtain ⟨s, hsi⟩ : ∃ s, l[k]? = some s := ⟨_, List.getElem?_eq_getElem (by rw [Hl.out]; exact hlt)⟩
            obtain ⟨g, o, rfl, hgl, c0⟩ := Src.text (Hs.out.below HS.out.bel) hsi
            have HZ : Hid ((l.drop k)[0]? = some s) := by show _ = _; rw [List.getElem?_drop]; exact hsi
            have HX : Hid ((l.drop k).eraseIdx 0 = l.drop (k + 1)) := by show _ = _; rw [List.eraseIdx_zero, List.tail_drop]
            clear hlt hki hsi hgl
            go_wp2_with fail
            go_quiet (fail)
            have HS3 := hide (HS.out.below (⟨rfl, rfl, rfl, Nat.le_refl _, fun _ _ => rfl⟩ : Below wr.heap.size wr (wr.drewN nq)))
            clear HS c0
            go_wp2_with fail
            refine (Deliver_at HS3.out (i := 0) rfl 0 s HZ.out).mono ?_
            rintro e w8 ⟨rfl, HS4⟩
            have HS5 : Hid (St w [lnkT p (l.drop (k + 1)) i false] w8) := by rw [← HX.out]; exact HS4.out
            clear HS3 HS4
            go_wp2
            go_roundw
            case rel => exact ⟨k + 1, Hlt.out, by go_num, HS5⟩
            case measure => have := Hlt.out; simp [intOf]; omega
          · obtain rfl : k = i := by omega
            have HS5 : Hid (St w [lnkT p [] k false] wr) := by have := HS.out; rw [List.drop_of_length_le (by rw [Hl.out]; exact Nat.le_refl _)] at this; exact this
            clear HS hge hki
            go_wp2_with fail
            refine (Deliver_none_st HS5.out (i := 0) rfl 0 (Or.inr (by show ((0 : Nat) : Int) ≤ 0; decide))).mono ?_
            rintro e w9 ⟨q, rfl, HF⟩
            have HS9 := hide (HS5.out.below HF.out.2)
            have HF9 := hide HF.out.1
            clear HF HS5
            go_wp2_with fail
            refine (Len_st HS9.out (i := 0) rfl).mono ?_
            rintro e w10 ⟨rfl, hb⟩
            have HS10 := hide (HS9.out.below hb)
            have HF10 := hide (HF9.out.below hb)
            clear hb HS9 HF9
            go_wp2_with fail
            refine (Code_flt (HE.out.below HS10.out.bel HE.out.lt) HF10.out).mono ?_
            rintro e w11 ⟨rfl, hb⟩
            have HB11 := hide (HS10.out.below hb).bel
            clear hb HS10 HF10
            go_wp2
            go_ret
            exact ⟨rfl, HB11.out⟩
      | true =>
        go_wp2_with fail
        go_loopw [44] (fun j wr => ∃ (k : Nat), k ≤ i ∧ j = .int .i64 (k : Int) ∧ Hid (St w [lnkT p (l.take (i - k)) i false] wr)) (fun j _ => i - (intOf j).toNat)
        case atStart => exact ⟨0, Nat.zero_le _, rfl, by have := HS8.out; rw [Nat.sub_zero, List.take_of_length_le (by rw [Hl.out]; exact Nat.le_refl _)]; exact this⟩
        case round =>
          clear HS8
          obtain ⟨k, hki, rfl, HS⟩ := hrel
          rcases Nat.lt_or_ge k i with hlt | hge
          · have Hlt := hide hlt
            have hkii : (k : Int) < (i : Int) := by omega
            obtain ⟨m, hm⟩ : ∃ m, i = k + 1 + m := ⟨i - (k + 1), by omega⟩
            obtain ⟨s, hsi⟩ : ∃ s, l[m]? = some s := ⟨_, List.getElem?_eq_getElem (by rw [Hl.out]; omega)⟩
            obtain ⟨s0, hs0⟩ : ∃ s0, l[k]? = some s0 := ⟨_, List.getElem?_eq_getElem (by rw [Hl.out]; omega)⟩
            obtain ⟨g, o, rfl, hgl, c0⟩ := Src.text (Hs.out.below HS.out.bel) hsi
            obtain ⟨g2, o2, hA2, -, c1⟩ := Src.text (Hs.out.below HS.out.bel) hs0
            simp only [Option.some.injEq, Addr.mk.injEq, and_true] at hA2
            obtain ⟨rfl, rfl⟩ := hA2
            have hlen : (l.take (i - k)).length = m + 1 := by rw [List.length_take, Hl.out]; omega
            have HZ : Hid ((l.take (i - k))[m]? = some s) := by show _ = _; rw [List.getElem?_take, if_pos (by omega)]; exact hsi
            have HX : Hid ((l.take (i - k)).eraseIdx m = l.take (i - (k + 1))) := by
              show _ = _
              rw [List.eraseIdx_eq_take_drop_succ, List.drop_of_length_le (by omega), List.append_nil, List.take_take]
              congr 1
              omega
            have y1 : ((m + 1 : Nat) : Int) - 1 = (m : Int) := by omega
            have y2 : IntKind.i64.wrap (m : Int) = (m : Int) := wrap_id (by omega) (by omega)
            have y3 : (i : Int) - 1 - (k : Int) = (m : Int) := by omega
            have y4 : IntKind.i64.wrap ((i : Int) - 1) = (i : Int) - 1 := wrap_id (by omega) (by omega)
            have y5 : (m : Int) < (i : Int) := by omega
            have y6 : m < i := by omega
            have HC : Hid (∀ W : World, Below wr.heap.size wr W → W.cell? ⟨g, o + m, none⟩ = some (.string s)) := fun W hW => (hW.cell (p := ⟨g, o + m, none⟩) hgl).trans c0
            have HQ : Hid (∀ W : World, Below wr.heap.size wr W → Calls Tryd.prog 22 #[.pointer (some ⟨p, 0, none⟩)] W fun e w' => e = .returned (.int .i64 ((m + 1 : Nat) : Int)) ∧ Below W.heap.size W w') := fun W hW => by rw [← hlen]; exact Len_st (HS.out.below hW) (i := 0) rfl
            clear hlt hki hsi hs0 hlen hgl hm
            go_wp2_with fail
            go_quiet (fail)
            have K0 : Hid (Below wr.heap.size wr _) := (⟨rfl, rfl, rfl, Nat.le_refl _, fun _ _ => rfl⟩ : Below wr.heap.size wr (wr.drewN nq).drew)
            clear c0 c1
            go_wp2_with fail
            refine wp_region_any (by kernel_rfl) ?_
            change wpAny _ _ _ _ _ _ _ (World.drew _)
            generalize World.drew _ = wd at *
            refine wpAny_take (i := 0) (oi := ⟨some 52, _, _, _, _, _⟩) (v := ?_) rfl (by kernel_rfl) (by kernel_rfl) (by kernel_rfl) (fun _ _ _ h => h) (Or.inl ⟨by rfl, ?_⟩) ?_
            rotate_left 1
            · (intro w; go_simp; try with_reducible rfl)
            simp only [Act.put, List.setIfInBounds_toArray, List.set_cons_zero, List.set_cons_succ]
            refine wpAny_take (i := 3) (oi := ⟨some 55, _, _, _, _, _⟩) (v := ?_) rfl (by kernel_rfl) (by kernel_rfl) (by kernel_rfl) (fun _ _ _ h => h) (Or.inl ⟨by rfl, ?_⟩) ?_
            rotate_left 1
            · (intro w; go_simp; try with_reducible rfl)
            simp only [Act.put, List.setIfInBounds_toArray, List.set_cons_zero, List.set_cons_succ]
            refine wpAny_take (i := 4) (oi := ⟨some 56, _, _, _, _, _⟩) (v := ?_) rfl (by kernel_rfl) (by kernel_rfl) (by kernel_rfl) (fun _ _ _ h => h) (Or.inl ⟨by rfl, ?_⟩) ?_
            rotate_left 1
            · (intro w; go_simp; try with_reducible rfl)
            simp only [Act.put, List.setIfInBounds_toArray, List.set_cons_zero, List.set_cons_succ]
            refine wpAny_take (i := 5) (oi := ⟨some 57, _, _, _, _, _⟩) (v := ?_) rfl (by kernel_rfl) (by kernel_rfl) (by kernel_rfl) (fun _ _ _ h => h) (Or.inl ⟨by rfl, ?_⟩) ?_
            rotate_left 1
            · (intro w; go_simp; try with_reducible rfl)
            simp only [Act.put, List.setIfInBounds_toArray, List.set_cons_zero, List.set_cons_succ]
            refine wpAny_take (i := 6) (oi := ⟨some 58, _, _, _, _, _⟩) (v := ?_) rfl (by kernel_rfl) (by kernel_rfl) (by kernel_rfl) (fun _ _ _ h => h) (Or.inl ⟨by rfl, ?_⟩) ?_
            rotate_left 1
            · (intro w; go_simp; try with_reducible rfl)
            simp only [Act.put, List.setIfInBounds_toArray, List.set_cons_zero, List.set_cons_succ]
            refine wpAny_take (i := 7) (oi := ⟨some 59, _, _, _, _, _⟩) (v := ?_) rfl (by kernel_rfl) (by kernel_rfl) (by kernel_rfl) (fun _ _ _ h => h) (Or.inl ⟨by rfl, ?_⟩) ?_
            rotate_left 1
            · (intro w; go_simp; try with_reducible rfl)
            simp only [Act.put, List.setIfInBounds_toArray, List.set_cons_zero, List.set_cons_succ]
            refine wpAny_take (i := 8) (oi := ⟨some 60, _, _, _, _, _⟩) (v := ?_) rfl (by kernel_rfl) (by kernel_rfl) (by kernel_rfl) (fun _ _ _ h => h) (Or.inl ⟨by rfl, ?_⟩) ?_
            rotate_left 1
            · (intro w; go_simp; try with_reducible rfl)
            simp only [Act.put, List.setIfInBounds_toArray, List.set_cons_zero, List.set_cons_succ]
            refine wpAny_take (i := 9) (oi := ⟨some 61, _, _, _, _, _⟩) (v := ?_) rfl (by kernel_rfl) (by kernel_rfl) (by kernel_rfl) (fun _ _ _ h => h) (Or.inl ⟨by rfl, ?_⟩) ?_
            rotate_left 1
            · (intro w; go_simp; try with_reducible rfl)
            simp only [Act.put, List.setIfInBounds_toArray, List.set_cons_zero, List.set_cons_succ]
            refine wpAny_ready (rs := [1, 10]) (by kernel_rfl) (by simp) ?_
            refine AllReady.cons (o := ⟨some 53, _, _, _, _, _⟩) rfl (fun K hK => ?_) (AllReady.cons (o := ⟨some 62, _, _, _, _, _⟩) rfl (fun K hK => ?_) AllReady.nil)
            · go_simp
              refine (HQ.out _ K0.out).mono ?_
              rintro e u1 ⟨rfl, hb⟩
              have K1 := hide (K0.out.trans (hb.mono K0.out.size))
              clear hb
              refine hK _ _ ?_
              clear hK K
              refine wpAny_take (i := 2) (oi := ⟨some 54, _, _, _, _, _⟩) (v := ?_) rfl (by kernel_rfl) (by kernel_rfl) (by kernel_rfl) (fun _ _ _ h => h) (Or.inl ⟨by rfl, ?_⟩) ?_
              rotate_left 1
              · (intro w; go_simp; try with_reducible rfl)
              simp only [Act.put, List.setIfInBounds_toArray, List.set_cons_zero, List.set_cons_succ]
              refine wpAny_take (i := 11) (oi := ⟨some 8, _, _, _, _, _⟩) (v := ?_) rfl (by kernel_rfl) (by kernel_rfl) (by kernel_rfl) (fun _ _ _ h => h) (Or.inl ⟨by rfl, ?_⟩) ?_
              rotate_left 1
              · (intro w; go_simp; try with_reducible rfl)
              simp only [Act.put, List.setIfInBounds_toArray, List.set_cons_zero, List.set_cons_succ]
              refine wpAny_ready (rs := [10]) (by kernel_rfl) (by simp) ?_
              refine AllReady.cons (o := ⟨some 62, _, _, _, _, _⟩) rfl (fun K hK => ?_) AllReady.nil
              have hq := HC.out _ K1.out
              go_simp
              clear hq
              refine hK _ _ ?_
              clear hK K
              refine wpAny_take (i := 12) (oi := ⟨some 9, _, _, _, _, _⟩) (v := ?_) rfl (by kernel_rfl) (by kernel_rfl) (by kernel_rfl) (fun _ _ _ h => h) (Or.inl ⟨by rfl, ?_⟩) ?_
              rotate_left 1
              · (intro w; go_simp; try with_reducible rfl)
              simp only [Act.put, List.setIfInBounds_toArray, List.set_cons_zero, List.set_cons_succ]
              refine wpAny_done (by kernel_rfl) ?_ _
              have HS3 := hide (HS.out.below K1.out)
              clear HS HC HQ
              go_wp2_with fail
              refine (Deliver_at HS3.out (i := 0) rfl m s HZ.out).mono ?_
              rintro e w8 ⟨rfl, HS4⟩
              have HS5 : Hid (St w [lnkT p (l.take (i - (k + 1))) i false] w8) := by rw [← HX.out]; exact HS4.out
              clear HS3 HS4
              go_wp2
              go_roundw
              case rel => exact ⟨k + 1, Hlt.out, by go_num, HS5⟩
              case measure => have := Hlt.out; simp [intOf]; omega
            · have hq := HC.out _ K0.out
              go_simp
              clear hq
              refine hK _ _ ?_
              clear hK K
              refine wpAny_ready (rs := [1]) (by kernel_rfl) (by simp) ?_
              refine AllReady.cons (o := ⟨some 53, _, _, _, _, _⟩) rfl (fun K hK => ?_) AllReady.nil
              go_simp
              refine (HQ.out _ K0.out).mono ?_
              rintro e u1 ⟨rfl, hb⟩
              have K1 := hide (K0.out.trans (hb.mono K0.out.size))
              clear hb
              refine hK _ _ ?_
              clear hK K
              refine wpAny_take (i := 2) (oi := ⟨some 54, _, _, _, _, _⟩) (v := ?_) rfl (by kernel_rfl) (by kernel_rfl) (by kernel_rfl) (fun _ _ _ h => h) (Or.inl ⟨by rfl, ?_⟩) ?_
              rotate_left 1
              · (intro w; go_simp; try with_reducible rfl)
              simp only [Act.put, List.setIfInBounds_toArray, List.set_cons_zero, List.set_cons_succ]
              refine wpAny_take (i := 11) (oi := ⟨some 8, _, _, _, _, _⟩) (v := ?_) rfl (by kernel_rfl) (by kernel_rfl) (by kernel_rfl) (fun _ _ _ h => h) (Or.inl ⟨by rfl, ?_⟩) ?_
              rotate_left 1
              · (intro w; go_simp; try with_reducible rfl)
              simp only [Act.put, List.setIfInBounds_toArray, List.set_cons_zero, List.set_cons_succ]
              refine wpAny_take (i := 12) (oi := ⟨some 9, _, _, _, _, _⟩) (v := ?_) rfl (by kernel_rfl) (by kernel_rfl) (by kernel_rfl) (fun _ _ _ h => h) (Or.inl ⟨by rfl, ?_⟩) ?_
              rotate_left 1
              · (intro w; go_simp; try with_reducible rfl)
              simp only [Act.put, List.setIfInBounds_toArray, List.set_cons_zero, List.set_cons_succ]
              refine wpAny_done (by kernel_rfl) ?_ _
              have HS3 := hide (HS.out.below K1.out)
              clear HS HC HQ
              go_wp2_with fail
              refine (Deliver_at HS3.out (i := 0) rfl m s HZ.out).mono ?_
              rintro e w8 ⟨rfl, HS4⟩
              have HS5 : Hid (St w [lnkT p (l.take (i - (k + 1))) i false] w8) := by rw [← HX.out]; exact HS4.out
              clear HS3 HS4
              go_wp2
              go_roundw
              case rel => exact ⟨k + 1, Hlt.out, by go_num, HS5⟩
              case measure => have := Hlt.out; simp [intOf]; omega
          · obtain rfl : k = i := by omega
            have HS5 : Hid (St w [lnkT p [] k false] wr) := by have := HS.out; rw [Nat.sub_self, List.take_zero] at this; exact this
            clear HS hge hki
            go_wp2_with fail
            refine (Deliver_none_st HS5.out (i := 0) rfl 0 (Or.inr (by show ((0 : Nat) : Int) ≤ 0; decide))).mono ?_
            rintro e w9 ⟨q, rfl, HF⟩
            have HS9 := hide (HS5.out.below HF.out.2)
            have HF9 := hide HF.out.1
            clear HF HS5
            go_wp2_with fail
            refine (Len_st HS9.out (i := 0) rfl).mono ?_
            rintro e w10 ⟨rfl, hb⟩
            have HS10 := hide (HS9.out.below hb)
            have HF10 := hide (HF9.out.below hb)
            clear hb HS9 HF9
            go_wp2_with fail
            refine (Code_flt (HE.out.below HS10.out.bel HE.out.lt) HF10.out).mono ?_
            rintro e w11 ⟨rfl, hb⟩
            have HB11 := hide (HS10.out.below hb).bel
            clear hb HS10 HF10
            go_wp2
            go_ret
            exact ⟨rfl, HB11.out⟩

end Go.Proofs.YtidojlagdodkkaaDoor.Ls
