/-
  isobarlaw13.MarksPlay, walked: whatever is put in and forgotten, each answer is the document's. Conditions: the arguments are read as numbers, each an int; the library's variable errors.errorType holds what the program's own text lays.
-/
import Derived.Deep.RegionHeld3
import Derived.Deep.DeepCutAuto
import Derived.Deep.CutBlock
import Derived.Test.YtenenhhijkjjfaaDoorMkOp
import Derived.Test.YtenenhhijkjjfaaDoorMkPair
namespace Go.Proofs.YtenenhhijkjjfaaDoor.Mk
open Go.RowKit Go.Maps
open Pk Dk Wn Lk Fa

def Both (w0 : World) (p q k : Nat) (Us : List Thg) (w : World) : Prop := ∃ A : Int → List Int, Lens A k ∧ St w0 (tblT p A (2 * k) :: rtbT q A :: Us) w
set_option maxRecDepth 100000 in
theorem MarksPlay_long (A0 : Option Addr) (n c : Nat) (A1 : Option Addr) (n1 c1 : Nat) (m : Int) (w : World) (hn : 200 < n) :
    Calls Tryd.prog 3 #[.slice A0 n c, .slice A1 n1 c1, .int .i64 m] w fun e w' => e = .returned (.bool true) ∧ Below w.heap.size w w' := by
  have hni : (200 : Int) < (n : Int) := by omega
  go_enter Tryd.func3, Tryd.ntmps3
  go_wp2_with fail
  refine (awake_any w).mono ?_
  rintro e w1 ⟨rfl, hb1⟩
  have HB1 := hide hb1
  clear hb1
  go_wp2_with fail
  refine (awake_any w1).mono ?_
  rintro e w2 ⟨rfl, hb2⟩
  have HB2 := hide (HB1.out.trans (hb2.mono HB1.out.size))
  clear hb2
  go_wp2
  go_ret
  exact ⟨rfl, HB2.out⟩
set_option maxRecDepth 100000 in
theorem MarksPlay_long2 (A0 : Option Addr) (n c : Nat) (A1 : Option Addr) (n1 c1 : Nat) (m : Int) (w : World) (hn : n ≤ 200) (hn1 : 20 < n1) :
    Calls Tryd.prog 3 #[.slice A0 n c, .slice A1 n1 c1, .int .i64 m] w fun e w' => e = .returned (.bool true) ∧ Below w.heap.size w w' := by
  have hni : ¬ (200 : Int) < (n : Int) := by omega
  have hni1 : (20 : Int) < (n1 : Int) := by omega
  go_enter Tryd.func3, Tryd.ntmps3
  go_wp2_with fail
  refine (awake_any w).mono ?_
  rintro e w1 ⟨rfl, hb1⟩
  have HB1 := hide hb1
  clear hb1
  go_wp2_with fail
  refine (awake_any w1).mono ?_
  rintro e w2 ⟨rfl, hb2⟩
  have HB2 := hide (HB1.out.trans (hb2.mono HB1.out.size))
  clear hb2
  go_wp2
  go_ret
  exact ⟨rfl, HB2.out⟩
set_option maxRecDepth 100000 in
set_option maxHeartbeats 16000000 in
theorem MarksPlay_law (A0 : Option Addr) (n c : Nat) (l : List Oq) (A1 : Option Addr) (n1 c1 : Nat) (vs : List Int) (mk : Int) (w : World) (hty : Ety w) (hl : l.length = n) (hn : n ≤ 200) (hf : OFits l) (hs : Src w A0 (ocels l)) (hl1 : vs.length = n1) (hn1 : n1 ≤ 20) (hf1 : Fits vs) (hs1 : Src w A1 (nums vs)) (hm : I64 mk) :
    Calls Tryd.prog 3 #[.slice A0 n c, .slice A1 n1 c1, .int .i64 mk] w fun e w' => e = .returned (.bool true) ∧ Below w.heap.size w w' := by
  have hni : ¬ (200 : Int) < (n : Int) := by omega
  have hni1 : ¬ (20 : Int) < (n1 : Int) := by omega
  have Hty := hide hty
  have Hl := hide hl
  have Hf := hide hf
  have Hs := hide hs
  have Hn := hide hn
  have Hl1 := hide hl1
  have Hf1 := hide hf1
  have Hs1 := hide hs1
  have Hn1 := hide hn1
  have Hm := hide hm
  clear hty hl hf hs hn hl1 hf1 hs1 hn1 hm
  go_enter Tryd.func3, Tryd.ntmps3
  go_wp2_with fail
  refine (awake_any w).mono ?_
  rintro e w1 ⟨rfl, hb1⟩
  have HS1 := hide (St.rtb_new (St.tbl_new ((St.start w).below hb1)))
  have hsz : (w1.alloc (.cells #[.map none] 28)).heap.size = w1.heap.size + 1 := by simp
  rw [hsz] at HS1
  clear hb1 hsz
  generalize hp : w1.heap.size = p at *
  have Hp := hide hp
  go_wp2_with fail
  go_loopw [33] (fun j wr => ∃ k : Nat, k ≤ n ∧ j = .int .i64 (k : Int) ∧ Hid (Both w p (p + 1) k [] wr)) (fun j _ => n - (RowKit.intOf j).toNat)
  case atStart => exact ⟨0, Nat.zero_le _, rfl, fun _ => [], fun _ => Nat.le_refl _, HS1.out⟩
  case round =>
    clear HS1
    obtain ⟨k, hk, rfl, A, hLk, hst⟩ := hrel
    rcases Nat.lt_or_ge k n with hlt | hge
    · have Hlt := hide hlt
      have hki : (k : Int) < (n : Int) := by omega
      obtain ⟨x, hx⟩ : ∃ x, l[k]? = some x := ⟨_, List.getElem?_eq_getElem (by rw [Hl.out]; exact hlt)⟩
      obtain ⟨g, o, rfl, hgl, ho⟩ := Src.op (Hs.out.below hst.bel) hx
      have hfx := Hf.out x (List.mem_of_getElem? hx)
      obtain ⟨okk, ov, om⟩ := x
      obtain ⟨o0, o1, o2⟩ := ho
      simp only at o0 o1 o2
      have Hov := hide (show I64 ov from hfx.2.1)
      have Hom := hide (show I64 om from hfx.2.2)
      have HLk := hide hLk
      have Hk2 := hide (show 2 * k < 1000000 by have := Hn.out; omega)
      have Hk1 := hide (show k + 1 ≤ 100000 by have := Hn.out; omega)
      have HO := hide (show St w [tblT p A (2 * k), rtbT (p + 1) A, blkT wr.heap.size #[.int .i64 okk, .int .i64 ov, .int .i64 om] 34] (wr.alloc (.cells #[.int .i64 okk, .int .i64 ov, .int .i64 om] 34)) from St.blk_new hst _ _)
      clear hx hgl hfx hLk hst hlt hk
      go_upto_block 2 with fail
      generalize wr.heap.size = Bo at *
      go_cut [] (fun wx => Hid (Both w p (p + 1) (k + 1) [blkT Bo #[.int .i64 okk, .int .i64 ov, .int .i64 om] 34] wx))
      case first =>
        clear o0 o1 o2
        generalize World.alloc _ _ = wo at *
        have hblk := St.blk HO.out (i := 2) rfl
        have d0 := hblk.1 0
        have d1 := hblk.1 1
        have d2 := hblk.1 2
        simp only [List.getElem?_toArray, List.getElem?_cons_succ, List.getElem?_cons_zero] at d0 d1 d2
        clear hblk
        by_cases hk1 : okk = 1
        · subst hk1
          obtain ⟨cd, hcd⟩ : ∃ cd, code ov om = cd := ⟨_, rfl⟩
          by_cases hc0 : cd = 0
          · have Hcd := hide (hcd.trans hc0)
            clear hcd hc0
            have hP := S_put_yes HO.out (i := 0) rfl Hom.out Hcd.out Hk2.out
            have HP := hide hP
            clear hP HO
            go_wp2_with fail
            refine HP.out.mono ?_
            rintro e w5 ⟨rfl, hst⟩
            have HO5 := hide (show St w [tblT p (step A ov om) (2 * k + 2), rtbT (p + 1) A, blkT Bo #[.int .i64 1, .int .i64 ov, .int .i64 om] 34] w5 from hst)
            clear hst HP d0 d1 d2
            go_wp2_with fail
            refine (First_none (Ety.below Hty.out HO5.out.bel Hty.out.lt)).mono ?_
            rintro e w6 ⟨rfl, hb6⟩
            have HO6 := hide (HO5.out.below hb6)
            have HOd := hide HO6.out.drew
            have hbk := St.blk HOd.out (i := 2) rfl
            have hS0 : (fun W : World => W.cell? ⟨Bo, 1, none⟩ = some (.int .i64 ov) ∧ W.cell? ⟨Bo, 2, none⟩ = some (.int .i64 om)) _ := ⟨hbk.1 1, hbk.1 2⟩
            clear hbk
            clear hb6 HO5 HO6
            go_wp2_with fail
            refine wp_region_held (S := (fun W : World => W.cell? ⟨Bo, 1, none⟩ = some (.int .i64 ov) ∧ W.cell? ⟨Bo, 2, none⟩ = some (.int .i64 om))) (by kernel_rfl) ?_
            change wpAnyH _ _ _ _ _ _ _ _ (World.drew _)
            refine wpAnyH_take (i := 0) (oi := ⟨some 55, _, _, _, _, _⟩) (v := ?_) rfl (by kernel_rfl) (by kernel_rfl) (by kernel_rfl) (fun _ _ _ h => h) (Or.inl ⟨by rfl, ?_⟩) hS0 ?_
            rotate_left 1
            · (intro w hSw; obtain ⟨hSw1, hSw2⟩ := hSw; go_simp; try with_reducible rfl)
            simp only [Act.put, List.setIfInBounds_toArray, List.set_cons_zero, List.set_cons_succ]
            refine wpAnyH_take (i := 2) (oi := ⟨some 57, _, _, _, _, _⟩) (v := ?_) rfl (by kernel_rfl) (by kernel_rfl) (by kernel_rfl) (fun _ _ _ h => h) (Or.inl ⟨by rfl, ?_⟩) hS0 ?_
            rotate_left 1
            · (intro w hSw; obtain ⟨hSw1, hSw2⟩ := hSw; go_simp; try with_reducible rfl)
            simp only [Act.put, List.setIfInBounds_toArray, List.set_cons_zero, List.set_cons_succ]
            refine wpAnyH_take (i := 3) (oi := ⟨some 58, _, _, _, _, _⟩) (v := ?_) rfl (by kernel_rfl) (by kernel_rfl) (by kernel_rfl) (fun _ _ _ h => h) (Or.inl ⟨by rfl, ?_⟩) hS0 ?_
            rotate_left 1
            · (intro w hSw; obtain ⟨hSw1, hSw2⟩ := hSw; go_simp; try with_reducible rfl)
            simp only [Act.put, List.setIfInBounds_toArray, List.set_cons_zero, List.set_cons_succ]
            refine wpAnyH_take (i := 4) (oi := ⟨some 59, _, _, _, _, _⟩) (v := ?_) rfl (by kernel_rfl) (by kernel_rfl) (by kernel_rfl) (fun _ _ _ h => h) (Or.inl ⟨by rfl, ?_⟩) hS0 ?_
            rotate_left 1
            · (intro w hSw; obtain ⟨hSw1, hSw2⟩ := hSw; go_simp; try with_reducible rfl)
            simp only [Act.put, List.setIfInBounds_toArray, List.set_cons_zero, List.set_cons_succ]
            refine wpAnyH_take (i := 5) (oi := ⟨some 60, _, _, _, _, _⟩) (v := ?_) rfl (by kernel_rfl) (by kernel_rfl) (by kernel_rfl) (fun _ _ _ h => h) (Or.inl ⟨by rfl, ?_⟩) hS0 ?_
            rotate_left 1
            · (intro w hSw; obtain ⟨hSw1, hSw2⟩ := hSw; go_simp; try with_reducible rfl)
            simp only [Act.put, List.setIfInBounds_toArray, List.set_cons_zero, List.set_cons_succ]
            refine wpAnyH_take (i := 6) (oi := ⟨some 61, _, _, _, _, _⟩) (v := ?_) rfl (by kernel_rfl) (by kernel_rfl) (by kernel_rfl) (fun _ _ _ h => h) (Or.inl ⟨by rfl, ?_⟩) hS0 ?_
            rotate_left 1
            · (intro w hSw; obtain ⟨hSw1, hSw2⟩ := hSw; go_simp; try with_reducible rfl)
            simp only [Act.put, List.setIfInBounds_toArray, List.set_cons_zero, List.set_cons_succ]
            refine wpAnyH_ready (rs := [1]) (by kernel_rfl) (by simp) ?_
            refine AllReadyH.cons (o := ⟨some 56, _, _, _, _, _⟩) rfl (fun K hK => ?_) AllReadyH.nil
            go_simp
            refine (Code_none (Ety.below Hty.out HOd.out.bel Hty.out.lt)).mono ?_
            rintro e w7 ⟨rfl, hb7⟩
            have HO7 := hide (HOd.out.below hb7)
            have hbk := St.blk HO7.out (i := 2) rfl
            have hS7 : (fun W : World => W.cell? ⟨Bo, 1, none⟩ = some (.int .i64 ov) ∧ W.cell? ⟨Bo, 2, none⟩ = some (.int .i64 om)) _ := ⟨hbk.1 1, hbk.1 2⟩
            clear hbk
            clear hb7
            refine hK.out _ _ hS7 (fun hHeld => ?_)
            clear hK K
            clear hHeld
            refine wpAnyH_ready (rs := [7]) (by kernel_rfl) (by simp) ?_
            refine AllReadyH.cons (o := ⟨some 62, _, _, _, _, _⟩) rfl (fun K hK => ?_) AllReadyH.nil
            go_simp
            have hR := R_put HO7.out (i := 1) rfl HLk.out (by have := Hk1.out; omega) ov Hom.out
            rw [Hcd.out] at hR
            refine hR.mono ?_
            rintro e w8 ⟨rfl, hst⟩
            have HO8 := hide (show St w [tblT p (step A ov om) (2 * k + 2), rtbT (p + 1) (step A ov om), blkT Bo #[.int .i64 1, .int .i64 ov, .int .i64 om] 34] w8 from hst)
            have hbk := St.blk HO8.out (i := 2) rfl
            have hS8 : (fun W : World => W.cell? ⟨Bo, 1, none⟩ = some (.int .i64 ov) ∧ W.cell? ⟨Bo, 2, none⟩ = some (.int .i64 om)) _ := ⟨hbk.1 1, hbk.1 2⟩
            clear hbk
            clear hst hR
            refine hK.out _ _ hS8 (fun hHeld => ?_)
            clear hK K
            clear hHeld
            refine wpAnyH_take (i := 8) (oi := ⟨some 63, _, _, _, _, _⟩) (v := ?_) rfl (by kernel_rfl) (by kernel_rfl) (by kernel_rfl) (fun _ _ _ h => h) (Or.inl ⟨by rfl, ?_⟩) hS8 ?_
            rotate_left 1
            · (intro w hSw; obtain ⟨hSw1, hSw2⟩ := hSw; go_simp; try with_reducible rfl)
            simp only [Act.put, List.setIfInBounds_toArray, List.set_cons_zero, List.set_cons_succ]
            refine wpAnyH_take (i := 9) (oi := ⟨some 64, _, _, _, _, _⟩) (v := ?_) rfl (by kernel_rfl) (by kernel_rfl) (by kernel_rfl) (fun _ _ _ h => h) (Or.inl ⟨by rfl, ?_⟩) hS8 ?_
            rotate_left 1
            · (intro w hSw; obtain ⟨hSw1, hSw2⟩ := hSw; go_simp; try with_reducible rfl)
            simp only [Act.put, List.setIfInBounds_toArray, List.set_cons_zero, List.set_cons_succ]
            refine wpAnyH_take (i := 10) (oi := ⟨some 65, _, _, _, _, _⟩) (v := ?_) rfl (by kernel_rfl) (by kernel_rfl) (by kernel_rfl) (fun _ _ _ h => h) (Or.inl ⟨by rfl, ?_⟩) hS8 ?_
            rotate_left 1
            · (intro w hSw; obtain ⟨hSw1, hSw2⟩ := hSw; go_simp; try with_reducible rfl)
            simp only [Act.put, List.setIfInBounds_toArray, List.set_cons_zero, List.set_cons_succ]
            refine wpAnyH_take (i := 11) (oi := ⟨some 66, _, _, _, _, _⟩) (v := ?_) rfl (by kernel_rfl) (by kernel_rfl) (by kernel_rfl) (fun _ _ _ h => h) (Or.inl ⟨by rfl, ?_⟩) hS8 ?_
            rotate_left 1
            · (intro w hSw; obtain ⟨hSw1, hSw2⟩ := hSw; go_simp; try with_reducible rfl)
            simp only [Act.put, List.setIfInBounds_toArray, List.set_cons_zero, List.set_cons_succ]
            refine wpAnyH_take (i := 12) (oi := ⟨some 67, _, _, _, _, _⟩) (v := ?_) rfl (by kernel_rfl) (by kernel_rfl) (by kernel_rfl) (fun _ _ _ h => h) (Or.inl ⟨by rfl, ?_⟩) hS8 ?_
            rotate_left 1
            · (intro w hSw; obtain ⟨hSw1, hSw2⟩ := hSw; go_simp; try with_reducible rfl)
            simp only [Act.put, List.setIfInBounds_toArray, List.set_cons_zero, List.set_cons_succ]
            refine wpAnyH_take (i := 13) (oi := ⟨some 68, _, _, _, _, _⟩) (v := ?_) rfl (by kernel_rfl) (by kernel_rfl) (by kernel_rfl) (fun _ _ _ h => h) (Or.inl ⟨by rfl, ?_⟩) hS8 ?_
            rotate_left 1
            · (intro w hSw; obtain ⟨hSw1, hSw2⟩ := hSw; go_simp; try with_reducible rfl)
            simp only [Act.put, List.setIfInBounds_toArray, List.set_cons_zero, List.set_cons_succ]
            refine wpAnyH_take (i := 14) (oi := ⟨some 69, _, _, _, _, _⟩) (v := ?_) rfl (by kernel_rfl) (by kernel_rfl) (by kernel_rfl) (fun _ _ _ h => h) (Or.inl ⟨by rfl, ?_⟩) hS8 ?_
            rotate_left 1
            · (intro w hSw; obtain ⟨hSw1, hSw2⟩ := hSw; go_simp; try with_reducible rfl)
            simp only [Act.put, List.setIfInBounds_toArray, List.set_cons_zero, List.set_cons_succ]
            refine wpAnyH_take (i := 15) (oi := ⟨some 70, _, _, _, _, _⟩) (v := ?_) rfl (by kernel_rfl) (by kernel_rfl) (by kernel_rfl) (fun _ _ _ h => h) (Or.inl ⟨by rfl, ?_⟩) hS8 ?_
            rotate_left 1
            · (intro w hSw; obtain ⟨hSw1, hSw2⟩ := hSw; go_simp; try with_reducible rfl)
            simp only [Act.put, List.setIfInBounds_toArray, List.set_cons_zero, List.set_cons_succ]
            refine wpAnyH_take (i := 16) (oi := ⟨some 71, _, _, _, _, _⟩) (v := ?_) rfl (by kernel_rfl) (by kernel_rfl) (by kernel_rfl) (fun _ _ _ h => h) (Or.inl ⟨by rfl, ?_⟩) hS8 ?_
            rotate_left 1
            · (intro w hSw; obtain ⟨hSw1, hSw2⟩ := hSw; go_simp; try with_reducible rfl)
            simp only [Act.put, List.setIfInBounds_toArray, List.set_cons_zero, List.set_cons_succ]
            refine wpAnyH_take (i := 17) (oi := ⟨some 72, _, _, _, _, _⟩) (v := ?_) rfl (by kernel_rfl) (by kernel_rfl) (by kernel_rfl) (fun _ _ _ h => h) (Or.inl ⟨by rfl, ?_⟩) hS8 ?_
            rotate_left 1
            · (intro w hSw; obtain ⟨hSw1, hSw2⟩ := hSw; go_simp; try with_reducible rfl)
            simp only [Act.put, List.setIfInBounds_toArray, List.set_cons_zero, List.set_cons_succ]
            refine wpAnyH_take (i := 18) (oi := ⟨some 73, _, _, _, _, _⟩) (v := undef) rfl (by kernel_rfl) (by kernel_rfl) (by kernel_rfl) (fun _ _ _ h => h) (Or.inr ⟨by rfl, rfl⟩) hS8 ?_
            simp only [Act.put, List.setIfInBounds_toArray, List.set_cons_zero, List.set_cons_succ]
            refine wpAnyH_take (i := 19) (oi := ⟨some 74, _, _, _, _, _⟩) (v := undef) rfl (by kernel_rfl) (by kernel_rfl) (by kernel_rfl) (fun _ _ _ h => h) (Or.inr ⟨by rfl, rfl⟩) hS8 ?_
            simp only [Act.put, List.setIfInBounds_toArray, List.set_cons_zero, List.set_cons_succ]
            refine wpAnyH_take (i := 20) (oi := ⟨some 75, _, _, _, _, _⟩) (v := undef) rfl (by kernel_rfl) (by kernel_rfl) (by kernel_rfl) (fun _ _ _ h => h) (Or.inr ⟨by rfl, rfl⟩) hS8 ?_
            simp only [Act.put, List.setIfInBounds_toArray, List.set_cons_zero, List.set_cons_succ]
            refine wpAnyH_take (i := 21) (oi := ⟨some 76, _, _, _, _, _⟩) (v := undef) rfl (by kernel_rfl) (by kernel_rfl) (by kernel_rfl) (fun _ _ _ h => h) (Or.inr ⟨by rfl, rfl⟩) hS8 ?_
            simp only [Act.put, List.setIfInBounds_toArray, List.set_cons_zero, List.set_cons_succ]
            refine wpAnyH_take (i := 22) (oi := ⟨some 77, _, _, _, _, _⟩) (v := ?_) rfl (by kernel_rfl) (by kernel_rfl) (by kernel_rfl) (fun _ _ _ h => h) (Or.inl ⟨by rfl, ?_⟩) hS8 ?_
            rotate_left 1
            · (intro w hSw; obtain ⟨hSw1, hSw2⟩ := hSw; go_simp; try with_reducible rfl)
            simp only [Act.put, List.setIfInBounds_toArray, List.set_cons_zero, List.set_cons_succ]
            refine wpAnyH_take (i := 23) (oi := ⟨some 78, _, _, _, _, _⟩) (v := ?_) rfl (by kernel_rfl) (by kernel_rfl) (by kernel_rfl) (fun _ _ _ h => h) (Or.inl ⟨by rfl, ?_⟩) hS8 ?_
            rotate_left 1
            · (intro w hSw; obtain ⟨hSw1, hSw2⟩ := hSw; go_simp; try with_reducible rfl)
            simp only [Act.put, List.setIfInBounds_toArray, List.set_cons_zero, List.set_cons_succ]
            refine wpAnyH_done (by kernel_rfl) ?_ _
            clear hS0 hS7 hS8 HOd HO7
            have HE : Hid (Both w p (p + 1) (k + 1) [blkT Bo #[.int .i64 1, .int .i64 ov, .int .i64 om] 34] w8) := ⟨(step A ov om), HLk.out.step ov om, HO8.out⟩
            clear HO8
            go_wp2
            go_meet
            exact HE.out
          · have Hcd := hide (show code ov om ≠ 0 by rw [hcd]; exact hc0)
            clear hcd hc0
            have hP := S_put_no HO.out (i := 0) rfl Hcd.out
            have HP := hide hP
            clear hP HO
            go_wp2_with fail
            refine HP.out.mono ?_
            rintro e w5 ⟨fb, rfl, hfl, hst⟩
            have HF5 := hide hfl
            clear hfl
            have HO5 := hide (show St w [tblT p (step A ov om) (2 * k + 2), rtbT (p + 1) A, blkT Bo #[.int .i64 1, .int .i64 ov, .int .i64 om] 34] w5 from hst)
            clear hst HP d0 d1 d2
            go_wp2_with fail
            refine (First_flt (Ety.below Hty.out HO5.out.bel Hty.out.lt) HF5.out).mono ?_
            rintro e w6 ⟨rfl, hb6⟩
            have HF6 := hide (HF5.out.below hb6)
            clear HF5
            have HO6 := hide (HO5.out.below hb6)
            have HOd := hide HO6.out.drew
            have hbk := St.blk HOd.out (i := 2) rfl
            have hS0 : (fun W : World => W.cell? ⟨Bo, 1, none⟩ = some (.int .i64 ov) ∧ W.cell? ⟨Bo, 2, none⟩ = some (.int .i64 om)) _ := ⟨hbk.1 1, hbk.1 2⟩
            clear hbk
            clear hb6 HO5 HO6
            go_wp2_with fail
            refine wp_region_held (S := (fun W : World => W.cell? ⟨Bo, 1, none⟩ = some (.int .i64 ov) ∧ W.cell? ⟨Bo, 2, none⟩ = some (.int .i64 om))) (by kernel_rfl) ?_
            change wpAnyH _ _ _ _ _ _ _ _ (World.drew _)
            refine wpAnyH_take (i := 0) (oi := ⟨some 55, _, _, _, _, _⟩) (v := ?_) rfl (by kernel_rfl) (by kernel_rfl) (by kernel_rfl) (fun _ _ _ h => h) (Or.inl ⟨by rfl, ?_⟩) hS0 ?_
            rotate_left 1
            · (intro w hSw; obtain ⟨hSw1, hSw2⟩ := hSw; go_simp; try with_reducible rfl)
            simp only [Act.put, List.setIfInBounds_toArray, List.set_cons_zero, List.set_cons_succ]
            refine wpAnyH_take (i := 2) (oi := ⟨some 57, _, _, _, _, _⟩) (v := ?_) rfl (by kernel_rfl) (by kernel_rfl) (by kernel_rfl) (fun _ _ _ h => h) (Or.inl ⟨by rfl, ?_⟩) hS0 ?_
            rotate_left 1
            · (intro w hSw; obtain ⟨hSw1, hSw2⟩ := hSw; go_simp; try with_reducible rfl)
            simp only [Act.put, List.setIfInBounds_toArray, List.set_cons_zero, List.set_cons_succ]
            refine wpAnyH_take (i := 3) (oi := ⟨some 58, _, _, _, _, _⟩) (v := ?_) rfl (by kernel_rfl) (by kernel_rfl) (by kernel_rfl) (fun _ _ _ h => h) (Or.inl ⟨by rfl, ?_⟩) hS0 ?_
            rotate_left 1
            · (intro w hSw; obtain ⟨hSw1, hSw2⟩ := hSw; go_simp; try with_reducible rfl)
            simp only [Act.put, List.setIfInBounds_toArray, List.set_cons_zero, List.set_cons_succ]
            refine wpAnyH_take (i := 4) (oi := ⟨some 59, _, _, _, _, _⟩) (v := ?_) rfl (by kernel_rfl) (by kernel_rfl) (by kernel_rfl) (fun _ _ _ h => h) (Or.inl ⟨by rfl, ?_⟩) hS0 ?_
            rotate_left 1
            · (intro w hSw; obtain ⟨hSw1, hSw2⟩ := hSw; go_simp; try with_reducible rfl)
            simp only [Act.put, List.setIfInBounds_toArray, List.set_cons_zero, List.set_cons_succ]
            refine wpAnyH_take (i := 5) (oi := ⟨some 60, _, _, _, _, _⟩) (v := ?_) rfl (by kernel_rfl) (by kernel_rfl) (by kernel_rfl) (fun _ _ _ h => h) (Or.inl ⟨by rfl, ?_⟩) hS0 ?_
            rotate_left 1
            · (intro w hSw; obtain ⟨hSw1, hSw2⟩ := hSw; go_simp; try with_reducible rfl)
            simp only [Act.put, List.setIfInBounds_toArray, List.set_cons_zero, List.set_cons_succ]
            refine wpAnyH_take (i := 6) (oi := ⟨some 61, _, _, _, _, _⟩) (v := ?_) rfl (by kernel_rfl) (by kernel_rfl) (by kernel_rfl) (fun _ _ _ h => h) (Or.inl ⟨by rfl, ?_⟩) hS0 ?_
            rotate_left 1
            · (intro w hSw; obtain ⟨hSw1, hSw2⟩ := hSw; go_simp; try with_reducible rfl)
            simp only [Act.put, List.setIfInBounds_toArray, List.set_cons_zero, List.set_cons_succ]
            refine wpAnyH_ready (rs := [1]) (by kernel_rfl) (by simp) ?_
            refine AllReadyH.cons (o := ⟨some 56, _, _, _, _, _⟩) rfl (fun K hK => ?_) AllReadyH.nil
            go_simp
            refine (Code_flt (Ety.below Hty.out HOd.out.bel Hty.out.lt) (show Flt (World.drew w6) fb ov (code ov om) from HF6.out)).mono ?_
            rintro e w7 ⟨rfl, hb7⟩
            have HO7 := hide (HOd.out.below hb7)
            have hbk := St.blk HO7.out (i := 2) rfl
            have hS7 : (fun W : World => W.cell? ⟨Bo, 1, none⟩ = some (.int .i64 ov) ∧ W.cell? ⟨Bo, 2, none⟩ = some (.int .i64 om)) _ := ⟨hbk.1 1, hbk.1 2⟩
            clear hbk
            clear hb7
            refine hK.out _ _ hS7 (fun hHeld => ?_)
            clear hK K
            clear hHeld
            refine wpAnyH_ready (rs := [7]) (by kernel_rfl) (by simp) ?_
            refine AllReadyH.cons (o := ⟨some 62, _, _, _, _, _⟩) rfl (fun K hK => ?_) AllReadyH.nil
            go_simp
            have hR := R_put HO7.out (i := 1) rfl HLk.out (by have := Hk1.out; omega) ov Hom.out
            refine hR.mono ?_
            rintro e w8 ⟨rfl, hst⟩
            have HO8 := hide (show St w [tblT p (step A ov om) (2 * k + 2), rtbT (p + 1) (step A ov om), blkT Bo #[.int .i64 1, .int .i64 ov, .int .i64 om] 34] w8 from hst)
            have hbk := St.blk HO8.out (i := 2) rfl
            have hS8 : (fun W : World => W.cell? ⟨Bo, 1, none⟩ = some (.int .i64 ov) ∧ W.cell? ⟨Bo, 2, none⟩ = some (.int .i64 om)) _ := ⟨hbk.1 1, hbk.1 2⟩
            clear hbk
            clear hst hR
            refine hK.out _ _ hS8 (fun hHeld => ?_)
            clear hK K
            clear hHeld
            refine wpAnyH_take (i := 8) (oi := ⟨some 63, _, _, _, _, _⟩) (v := ?_) rfl (by kernel_rfl) (by kernel_rfl) (by kernel_rfl) (fun _ _ _ h => h) (Or.inl ⟨by rfl, ?_⟩) hS8 ?_
            rotate_left 1
            · (intro w hSw; obtain ⟨hSw1, hSw2⟩ := hSw; go_simp; try with_reducible rfl)
            simp only [Act.put, List.setIfInBounds_toArray, List.set_cons_zero, List.set_cons_succ]
            refine wpAnyH_take (i := 9) (oi := ⟨some 64, _, _, _, _, _⟩) (v := ?_) rfl (by kernel_rfl) (by kernel_rfl) (by kernel_rfl) (fun _ _ _ h => h) (Or.inl ⟨by rfl, ?_⟩) hS8 ?_
            rotate_left 1
            · (intro w hSw; obtain ⟨hSw1, hSw2⟩ := hSw; go_simp; try with_reducible rfl)
            simp only [Act.put, List.setIfInBounds_toArray, List.set_cons_zero, List.set_cons_succ]
            refine wpAnyH_take (i := 10) (oi := ⟨some 65, _, _, _, _, _⟩) (v := ?_) rfl (by kernel_rfl) (by kernel_rfl) (by kernel_rfl) (fun _ _ _ h => h) (Or.inl ⟨by rfl, ?_⟩) hS8 ?_
            rotate_left 1
            · (intro w hSw; obtain ⟨hSw1, hSw2⟩ := hSw; go_simp; try with_reducible rfl)
            simp only [Act.put, List.setIfInBounds_toArray, List.set_cons_zero, List.set_cons_succ]
            refine wpAnyH_take (i := 11) (oi := ⟨some 66, _, _, _, _, _⟩) (v := ?_) rfl (by kernel_rfl) (by kernel_rfl) (by kernel_rfl) (fun _ _ _ h => h) (Or.inl ⟨by rfl, ?_⟩) hS8 ?_
            rotate_left 1
            · (intro w hSw; obtain ⟨hSw1, hSw2⟩ := hSw; go_simp; try with_reducible rfl)
            simp only [Act.put, List.setIfInBounds_toArray, List.set_cons_zero, List.set_cons_succ]
            refine wpAnyH_take (i := 12) (oi := ⟨some 67, _, _, _, _, _⟩) (v := ?_) rfl (by kernel_rfl) (by kernel_rfl) (by kernel_rfl) (fun _ _ _ h => h) (Or.inl ⟨by rfl, ?_⟩) hS8 ?_
            rotate_left 1
            · (intro w hSw; obtain ⟨hSw1, hSw2⟩ := hSw; go_simp; try with_reducible rfl)
            simp only [Act.put, List.setIfInBounds_toArray, List.set_cons_zero, List.set_cons_succ]
            refine wpAnyH_take (i := 13) (oi := ⟨some 68, _, _, _, _, _⟩) (v := ?_) rfl (by kernel_rfl) (by kernel_rfl) (by kernel_rfl) (fun _ _ _ h => h) (Or.inl ⟨by rfl, ?_⟩) hS8 ?_
            rotate_left 1
            · (intro w hSw; obtain ⟨hSw1, hSw2⟩ := hSw; go_simp; try with_reducible rfl)
            simp only [Act.put, List.setIfInBounds_toArray, List.set_cons_zero, List.set_cons_succ]
            refine wpAnyH_take (i := 14) (oi := ⟨some 69, _, _, _, _, _⟩) (v := ?_) rfl (by kernel_rfl) (by kernel_rfl) (by kernel_rfl) (fun _ _ _ h => h) (Or.inl ⟨by rfl, ?_⟩) hS8 ?_
            rotate_left 1
            · (intro w hSw; obtain ⟨hSw1, hSw2⟩ := hSw; go_simp; try with_reducible rfl)
            simp only [Act.put, List.setIfInBounds_toArray, List.set_cons_zero, List.set_cons_succ]
            refine wpAnyH_take (i := 15) (oi := ⟨some 70, _, _, _, _, _⟩) (v := ?_) rfl (by kernel_rfl) (by kernel_rfl) (by kernel_rfl) (fun _ _ _ h => h) (Or.inl ⟨by rfl, ?_⟩) hS8 ?_
            rotate_left 1
            · (intro w hSw; obtain ⟨hSw1, hSw2⟩ := hSw; go_simp; try with_reducible rfl)
            simp only [Act.put, List.setIfInBounds_toArray, List.set_cons_zero, List.set_cons_succ]
            refine wpAnyH_take (i := 16) (oi := ⟨some 71, _, _, _, _, _⟩) (v := ?_) rfl (by kernel_rfl) (by kernel_rfl) (by kernel_rfl) (fun _ _ _ h => h) (Or.inl ⟨by rfl, ?_⟩) hS8 ?_
            rotate_left 1
            · (intro w hSw; obtain ⟨hSw1, hSw2⟩ := hSw; go_simp; try with_reducible rfl)
            simp only [Act.put, List.setIfInBounds_toArray, List.set_cons_zero, List.set_cons_succ]
            refine wpAnyH_take (i := 17) (oi := ⟨some 72, _, _, _, _, _⟩) (v := ?_) rfl (by kernel_rfl) (by kernel_rfl) (by kernel_rfl) (fun _ _ _ h => h) (Or.inl ⟨by rfl, ?_⟩) hS8 ?_
            rotate_left 1
            · (intro w hSw; obtain ⟨hSw1, hSw2⟩ := hSw; go_simp; try with_reducible rfl)
            simp only [Act.put, List.setIfInBounds_toArray, List.set_cons_zero, List.set_cons_succ]
            refine wpAnyH_take (i := 18) (oi := ⟨some 73, _, _, _, _, _⟩) (v := ?_) rfl (by kernel_rfl) (by kernel_rfl) (by kernel_rfl) (fun _ _ _ h => h) (Or.inl ⟨by rfl, ?_⟩) hS8 ?_
            rotate_left 1
            · (intro w hSw; obtain ⟨hSw1, hSw2⟩ := hSw; go_simp; try with_reducible rfl)
            simp only [Act.put, List.setIfInBounds_toArray, List.set_cons_zero, List.set_cons_succ]
            refine wpAnyH_take (i := 19) (oi := ⟨some 74, _, _, _, _, _⟩) (v := ?_) rfl (by kernel_rfl) (by kernel_rfl) (by kernel_rfl) (fun _ _ _ h => h) (Or.inl ⟨by rfl, ?_⟩) hS8 ?_
            rotate_left 1
            · (intro w hSw; obtain ⟨hSw1, hSw2⟩ := hSw; go_simp; try with_reducible rfl)
            simp only [Act.put, List.setIfInBounds_toArray, List.set_cons_zero, List.set_cons_succ]
            refine wpAnyH_take (i := 20) (oi := ⟨some 75, _, _, _, _, _⟩) (v := ?_) rfl (by kernel_rfl) (by kernel_rfl) (by kernel_rfl) (fun _ _ _ h => h) (Or.inl ⟨by rfl, ?_⟩) hS8 ?_
            rotate_left 1
            · (intro w hSw; obtain ⟨hSw1, hSw2⟩ := hSw; go_simp; try with_reducible rfl)
            simp only [Act.put, List.setIfInBounds_toArray, List.set_cons_zero, List.set_cons_succ]
            refine wpAnyH_take (i := 21) (oi := ⟨some 76, _, _, _, _, _⟩) (v := ?_) rfl (by kernel_rfl) (by kernel_rfl) (by kernel_rfl) (fun _ _ _ h => h) (Or.inl ⟨by rfl, ?_⟩) hS8 ?_
            rotate_left 1
            · (intro w hSw; obtain ⟨hSw1, hSw2⟩ := hSw; go_simp; try with_reducible rfl)
            simp only [Act.put, List.setIfInBounds_toArray, List.set_cons_zero, List.set_cons_succ]
            refine wpAnyH_take (i := 22) (oi := ⟨some 77, _, _, _, _, _⟩) (v := ?_) rfl (by kernel_rfl) (by kernel_rfl) (by kernel_rfl) (fun _ _ _ h => h) (Or.inl ⟨by rfl, ?_⟩) hS8 ?_
            rotate_left 1
            · (intro w hSw; obtain ⟨hSw1, hSw2⟩ := hSw; go_simp; try with_reducible rfl)
            simp only [Act.put, List.setIfInBounds_toArray, List.set_cons_zero, List.set_cons_succ]
            refine wpAnyH_take (i := 23) (oi := ⟨some 78, _, _, _, _, _⟩) (v := ?_) rfl (by kernel_rfl) (by kernel_rfl) (by kernel_rfl) (fun _ _ _ h => h) (Or.inl ⟨by rfl, ?_⟩) hS8 ?_
            rotate_left 1
            · (intro w hSw; obtain ⟨hSw1, hSw2⟩ := hSw; go_simp; try with_reducible rfl)
            simp only [Act.put, List.setIfInBounds_toArray, List.set_cons_zero, List.set_cons_succ]
            refine wpAnyH_done (by kernel_rfl) ?_ _
            clear hS0 hS7 hS8 HOd HO7
            have HE : Hid (Both w p (p + 1) (k + 1) [blkT Bo #[.int .i64 1, .int .i64 ov, .int .i64 om] 34] w8) := ⟨(step A ov om), HLk.out.step ov om, HO8.out⟩
            clear HO8
            go_wp2
            go_meet
            exact HE.out
        · have hk1b : (okk == 1) = false := by simpa using hk1
          by_cases hk2 : okk = 2
          · subst hk2
            have HP := hide (S_forget HO.out (i := 0) rfl Hov.out om)
            clear HO
            go_wp2_with fail
            refine HP.out.mono ?_
            rintro e w5 ⟨rfl, hst⟩
            have HO5 := hide (show St w [tblT p (drop A ov om) (2 * k), rtbT (p + 1) A, blkT Bo #[.int .i64 2, .int .i64 ov, .int .i64 om] 34] w5 from hst)
            have hblk := St.blk HO5.out (i := 2) rfl
            have e1 := hblk.1 1
            have e2 := hblk.1 2
            simp only [List.getElem?_toArray, List.getElem?_cons_succ, List.getElem?_cons_zero] at e1 e2
            have HR := hide (R_forget HO5.out (i := 1) rfl HLk.out (by have := Hk1.out; omega) ov om)
            clear hst HP d0 d1 d2 hblk HO5
            go_wp2_with fail
            refine HR.out.mono ?_
            rintro e w6 ⟨rfl, hst⟩
            have HE : Hid (Both w p (p + 1) (k + 1) [blkT Bo #[.int .i64 2, .int .i64 ov, .int .i64 om] 34] w6) := ⟨drop A ov om, HLk.out.drop ov om, S_wide (show St w [tblT p (drop A ov om) (2 * k), rtbT (p + 1) (drop A ov om), blkT Bo #[.int .i64 2, .int .i64 ov, .int .i64 om] 34] w6 from hst) (i := 0) rfl (by omega)⟩
            clear hst HR e1 e2
            go_wp2
            go_meet
            exact HE.out
          · have hk2b : (okk == 2) = false := by simpa using hk2
            have HE : Hid (Both w p (p + 1) (k + 1) [blkT Bo #[.int .i64 okk, .int .i64 ov, .int .i64 om] 34] wo) := ⟨A, HLk.out.wide, S_wide HO.out (i := 0) rfl (by omega)⟩
            clear HO
            go_wp2
            go_meet
            exact HE.out
      case rest =>
        clear HO o0 o1 o2 HLk Hk2
        clear A
        obtain ⟨A, hLk, hst⟩ := hcut
        have HLk := hide hLk
        have Hk2 := hide (show 2 * (k + 1) ≤ 1000000 by have := Hk1.out; have := Hn.out; have := Hlt.out; omega)
        have HOd := hide hst.drew
        have hbk := St.blk HOd.out (i := 2) rfl
        have hS0 : (fun W : World => W.cell? ⟨Bo, 1, none⟩ = some (.int .i64 ov) ∧ W.cell? ⟨Bo, 2, none⟩ = some (.int .i64 om)) _ := ⟨hbk.1 1, hbk.1 2⟩
        clear hbk
        clear hLk hst
        go_wp2_with fail
        refine wp_region_held (S := (fun W : World => W.cell? ⟨Bo, 1, none⟩ = some (.int .i64 ov) ∧ W.cell? ⟨Bo, 2, none⟩ = some (.int .i64 om))) (by kernel_rfl) ?_
        change wpAnyH _ _ _ _ _ _ _ _ (World.drew _)
        refine wpAnyH_take (i := 0) (oi := ⟨some 93, _, _, _, _, _⟩) (v := ?_) rfl (by kernel_rfl) (by kernel_rfl) (by kernel_rfl) (fun _ _ _ h => h) (Or.inl ⟨by rfl, ?_⟩) hS0 ?_
        rotate_left 1
        · (intro w hSw; obtain ⟨hSw1, hSw2⟩ := hSw; go_simp; try with_reducible rfl)
        simp only [Act.put, List.setIfInBounds_toArray, List.set_cons_zero, List.set_cons_succ]
        refine wpAnyH_take (i := 1) (oi := ⟨some 94, _, _, _, _, _⟩) (v := ?_) rfl (by kernel_rfl) (by kernel_rfl) (by kernel_rfl) (fun _ _ _ h => h) (Or.inl ⟨by rfl, ?_⟩) hS0 ?_
        rotate_left 1
        · (intro w hSw; obtain ⟨hSw1, hSw2⟩ := hSw; go_simp; try with_reducible rfl)
        simp only [Act.put, List.setIfInBounds_toArray, List.set_cons_zero, List.set_cons_succ]
        refine wpAnyH_take (i := 2) (oi := ⟨some 95, _, _, _, _, _⟩) (v := ?_) rfl (by kernel_rfl) (by kernel_rfl) (by kernel_rfl) (fun _ _ _ h => h) (Or.inl ⟨by rfl, ?_⟩) hS0 ?_
        rotate_left 1
        · (intro w hSw; obtain ⟨hSw1, hSw2⟩ := hSw; go_simp; try with_reducible rfl)
        simp only [Act.put, List.setIfInBounds_toArray, List.set_cons_zero, List.set_cons_succ]
        refine wpAnyH_take (i := 4) (oi := ⟨some 97, _, _, _, _, _⟩) (v := ?_) rfl (by kernel_rfl) (by kernel_rfl) (by kernel_rfl) (fun _ _ _ h => h) (Or.inl ⟨by rfl, ?_⟩) hS0 ?_
        rotate_left 1
        · (intro w hSw; obtain ⟨hSw1, hSw2⟩ := hSw; go_simp; try with_reducible rfl)
        simp only [Act.put, List.setIfInBounds_toArray, List.set_cons_zero, List.set_cons_succ]
        refine wpAnyH_take (i := 5) (oi := ⟨some 98, _, _, _, _, _⟩) (v := ?_) rfl (by kernel_rfl) (by kernel_rfl) (by kernel_rfl) (fun _ _ _ h => h) (Or.inl ⟨by rfl, ?_⟩) hS0 ?_
        rotate_left 1
        · (intro w hSw; obtain ⟨hSw1, hSw2⟩ := hSw; go_simp; try with_reducible rfl)
        simp only [Act.put, List.setIfInBounds_toArray, List.set_cons_zero, List.set_cons_succ]
        refine wpAnyH_take (i := 6) (oi := ⟨some 99, _, _, _, _, _⟩) (v := ?_) rfl (by kernel_rfl) (by kernel_rfl) (by kernel_rfl) (fun _ _ _ h => h) (Or.inl ⟨by rfl, ?_⟩) hS0 ?_
        rotate_left 1
        · (intro w hSw; obtain ⟨hSw1, hSw2⟩ := hSw; go_simp; try with_reducible rfl)
        simp only [Act.put, List.setIfInBounds_toArray, List.set_cons_zero, List.set_cons_succ]
        refine wpAnyH_ready (rs := [3]) (by kernel_rfl) (by simp) ?_
        refine AllReadyH.cons (o := ⟨some 96, _, _, _, _, _⟩) rfl (fun K hK => ?_) AllReadyH.nil
        go_simp
        refine (S_of HOd.out (i := 0) rfl Hk2.out Hov.out).mono ?_
        rintro e w7 ⟨YA, yc, rfl, hst⟩
        have HO7 := hide hst
        have hbk := St.blk HO7.out (i := 2) rfl
        have hS7 : (fun W : World => W.cell? ⟨Bo, 1, none⟩ = some (.int .i64 ov) ∧ W.cell? ⟨Bo, 2, none⟩ = some (.int .i64 om)) _ := ⟨hbk.1 1, hbk.1 2⟩
        clear hbk
        clear hst
        refine hK.out _ _ hS7 (fun hHeld => ?_)
        clear hK K
        clear hHeld
        refine wpAnyH_ready (rs := [7]) (by kernel_rfl) (by simp) ?_
        refine AllReadyH.cons (o := ⟨some 100, _, _, _, _, _⟩) rfl (fun K hK => ?_) AllReadyH.nil
        go_simp
        refine (R_of HO7.out (i := 1) rfl ov).mono ?_
        rintro e w8 ⟨⟨RA, rc, rfl, hsrc⟩, hw8⟩
        have HR8 := hide hsrc
        subst hw8
        clear hsrc
        refine hK.out _ _ hS7 (fun hHeld => ?_)
        clear hK K
        clear hHeld
        refine wpAnyH_ready (rs := [8]) (by kernel_rfl) (by simp) ?_
        refine AllReadyH.cons (o := ⟨some 101, _, _, _, _, _⟩) rfl (fun K hK => ?_) AllReadyH.nil
        go_simp
        refine (same_any _ (A ov) _ YA RA yc rc rfl (Nat.le_trans (HLk.out ov) Hk1.out) (St.src HO7.out (i := 3) rfl) HR8.out).mono ?_
        rintro e w9 ⟨rfl, hb9⟩
        have HO9 := hide (show St w [tblT p A (2 * (k + 1)), rtbT (p + 1) A, blkT Bo #[.int .i64 okk, .int .i64 ov, .int .i64 om] 34] w9 from Wn.St.weaken (Us := [_]) (HO7.out.below hb9))
        have hbk := St.blk HO9.out (i := 2) rfl
        have hS9 : (fun W : World => W.cell? ⟨Bo, 1, none⟩ = some (.int .i64 ov) ∧ W.cell? ⟨Bo, 2, none⟩ = some (.int .i64 om)) _ := ⟨hbk.1 1, hbk.1 2⟩
        clear hbk
        clear hb9
        refine hK.out _ _ hS9 (fun hHeld => ?_)
        clear hK K
        clear hHeld
        refine wpAnyH_take (i := 9) (oi := ⟨some 102, _, _, _, _, _⟩) (v := ?_) rfl (by kernel_rfl) (by kernel_rfl) (by kernel_rfl) (fun _ _ _ h => h) (Or.inl ⟨by rfl, ?_⟩) hS9 ?_
        rotate_left 1
        · (intro w hSw; obtain ⟨hSw1, hSw2⟩ := hSw; go_simp; try with_reducible rfl)
        simp only [Act.put, List.setIfInBounds_toArray, List.set_cons_zero, List.set_cons_succ]
        refine wpAnyH_take (i := 10) (oi := ⟨some 103, _, _, _, _, _⟩) (v := ?_) rfl (by kernel_rfl) (by kernel_rfl) (by kernel_rfl) (fun _ _ _ h => h) (Or.inl ⟨by rfl, ?_⟩) hS9 ?_
        rotate_left 1
        · (intro w hSw; obtain ⟨hSw1, hSw2⟩ := hSw; go_simp; try with_reducible rfl)
        simp only [Act.put, List.setIfInBounds_toArray, List.set_cons_zero, List.set_cons_succ]
        refine wpAnyH_take (i := 11) (oi := ⟨some 104, _, _, _, _, _⟩) (v := ?_) rfl (by kernel_rfl) (by kernel_rfl) (by kernel_rfl) (fun _ _ _ h => h) (Or.inl ⟨by rfl, ?_⟩) hS9 ?_
        rotate_left 1
        · (intro w hSw; obtain ⟨hSw1, hSw2⟩ := hSw; go_simp; try with_reducible rfl)
        simp only [Act.put, List.setIfInBounds_toArray, List.set_cons_zero, List.set_cons_succ]
        refine wpAnyH_take (i := 12) (oi := ⟨some 105, _, _, _, _, _⟩) (v := ?_) rfl (by kernel_rfl) (by kernel_rfl) (by kernel_rfl) (fun _ _ _ h => h) (Or.inl ⟨by rfl, ?_⟩) hS9 ?_
        rotate_left 1
        · (intro w hSw; obtain ⟨hSw1, hSw2⟩ := hSw; go_simp; try with_reducible rfl)
        simp only [Act.put, List.setIfInBounds_toArray, List.set_cons_zero, List.set_cons_succ]
        refine wpAnyH_take (i := 14) (oi := ⟨some 107, _, _, _, _, _⟩) (v := ?_) rfl (by kernel_rfl) (by kernel_rfl) (by kernel_rfl) (fun _ _ _ h => h) (Or.inl ⟨by rfl, ?_⟩) hS9 ?_
        rotate_left 1
        · (intro w hSw; obtain ⟨hSw1, hSw2⟩ := hSw; go_simp; try with_reducible rfl)
        simp only [Act.put, List.setIfInBounds_toArray, List.set_cons_zero, List.set_cons_succ]
        refine wpAnyH_take (i := 15) (oi := ⟨some 108, _, _, _, _, _⟩) (v := ?_) rfl (by kernel_rfl) (by kernel_rfl) (by kernel_rfl) (fun _ _ _ h => h) (Or.inl ⟨by rfl, ?_⟩) hS9 ?_
        rotate_left 1
        · (intro w hSw; obtain ⟨hSw1, hSw2⟩ := hSw; go_simp; try with_reducible rfl)
        simp only [Act.put, List.setIfInBounds_toArray, List.set_cons_zero, List.set_cons_succ]
        refine wpAnyH_ready (rs := [13]) (by kernel_rfl) (by simp) ?_
        refine AllReadyH.cons (o := ⟨some 106, _, _, _, _, _⟩) rfl (fun K hK => ?_) AllReadyH.nil
        go_simp
        refine (S_newest HO9.out (i := 0) rfl A1 n1 c1 vs Hl1.out (by have := Hn1.out; omega) (Hs1.out.below HO9.out.bel) Hf1.out).mono ?_
        rintro e w10 ⟨⟨r, rfl, hr⟩, hst⟩
        have HO10 := hide hst
        have HR10 := hide hr
        have hbk := St.blk HO10.out (i := 2) rfl
        have hS10 : (fun W : World => W.cell? ⟨Bo, 1, none⟩ = some (.int .i64 ov) ∧ W.cell? ⟨Bo, 2, none⟩ = some (.int .i64 om)) _ := ⟨hbk.1 1, hbk.1 2⟩
        clear hbk
        clear hst hr
        refine hK.out _ _ hS10 (fun hHeld => ?_)
        clear hK K
        clear hHeld
        refine wpAnyH_ready (rs := [16]) (by kernel_rfl) (by simp) ?_
        refine AllReadyH.cons (o := ⟨some 109, _, _, _, _, _⟩) rfl (fun K hK => ?_) AllReadyH.nil
        go_simp
        refine (R_newest HO10.out (i := 1) rfl HLk.out Hk1.out A1 n1 c1 vs Hl1.out (by have := Hn1.out; omega) (Hs1.out.below HO10.out.bel)).mono ?_
        rintro e w11 ⟨⟨r2, rfl, hr2⟩, hst⟩
        obtain rfl := HR10.out.uniq hr2
        have HO11 := hide hst
        have hbk := St.blk HO11.out (i := 2) rfl
        have hS11 : (fun W : World => W.cell? ⟨Bo, 1, none⟩ = some (.int .i64 ov) ∧ W.cell? ⟨Bo, 2, none⟩ = some (.int .i64 om)) _ := ⟨hbk.1 1, hbk.1 2⟩
        clear hbk
        clear hst hr2
        refine hK.out _ _ hS11 (fun hHeld => ?_)
        clear hK K
        clear hHeld
        refine wpAnyH_take (i := 17) (oi := ⟨some 110, _, _, _, _, _⟩) (v := ?_) rfl (by kernel_rfl) (by kernel_rfl) (by kernel_rfl) (fun _ _ _ h => h) (Or.inl ⟨by rfl, ?_⟩) hS11 ?_
        rotate_left 1
        · (intro w hSw; obtain ⟨hSw1, hSw2⟩ := hSw; go_simp; try with_reducible rfl)
        simp only [Act.put, List.setIfInBounds_toArray, List.set_cons_zero, List.set_cons_succ]
        refine wpAnyH_take (i := 18) (oi := ⟨some 111, _, _, _, _, _⟩) (v := ?_) rfl (by kernel_rfl) (by kernel_rfl) (by kernel_rfl) (fun _ _ _ h => h) (Or.inl ⟨by rfl, ?_⟩) hS11 ?_
        rotate_left 1
        · (intro w hSw; obtain ⟨hSw1, hSw2⟩ := hSw; go_simp; try with_reducible rfl)
        simp only [Act.put, List.setIfInBounds_toArray, List.set_cons_zero, List.set_cons_succ]
        refine wpAnyH_take (i := 19) (oi := ⟨some 112, _, _, _, _, _⟩) (v := ?_) rfl (by kernel_rfl) (by kernel_rfl) (by kernel_rfl) (fun _ _ _ h => h) (Or.inl ⟨by rfl, ?_⟩) hS11 ?_
        rotate_left 1
        · (intro w hSw; obtain ⟨hSw1, hSw2⟩ := hSw; go_simp; try with_reducible rfl)
        simp only [Act.put, List.setIfInBounds_toArray, List.set_cons_zero, List.set_cons_succ]
        refine wpAnyH_take (i := 20) (oi := ⟨some 113, _, _, _, _, _⟩) (v := ?_) rfl (by kernel_rfl) (by kernel_rfl) (by kernel_rfl) (fun _ _ _ h => h) (Or.inl ⟨by rfl, ?_⟩) hS11 ?_
        rotate_left 1
        · (intro w hSw; obtain ⟨hSw1, hSw2⟩ := hSw; go_simp; try with_reducible rfl)
        simp only [Act.put, List.setIfInBounds_toArray, List.set_cons_zero, List.set_cons_succ]
        refine wpAnyH_take (i := 21) (oi := ⟨some 114, _, _, _, _, _⟩) (v := ?_) rfl (by kernel_rfl) (by kernel_rfl) (by kernel_rfl) (fun _ _ _ h => h) (Or.inl ⟨by rfl, ?_⟩) hS11 ?_
        rotate_left 1
        · (intro w hSw; obtain ⟨hSw1, hSw2⟩ := hSw; go_simp; try with_reducible rfl)
        simp only [Act.put, List.setIfInBounds_toArray, List.set_cons_zero, List.set_cons_succ]
        refine wpAnyH_take (i := 22) (oi := ⟨some 115, _, _, _, _, _⟩) (v := ?_) rfl (by kernel_rfl) (by kernel_rfl) (by kernel_rfl) (fun _ _ _ h => h) (Or.inl ⟨by rfl, ?_⟩) hS11 ?_
        rotate_left 1
        · (intro w hSw; obtain ⟨hSw1, hSw2⟩ := hSw; go_simp; try with_reducible rfl)
        simp only [Act.put, List.setIfInBounds_toArray, List.set_cons_zero, List.set_cons_succ]
        refine wpAnyH_take (i := 24) (oi := ⟨some 117, _, _, _, _, _⟩) (v := ?_) rfl (by kernel_rfl) (by kernel_rfl) (by kernel_rfl) (fun _ _ _ h => h) (Or.inl ⟨by rfl, ?_⟩) hS11 ?_
        rotate_left 1
        · (intro w hSw; obtain ⟨hSw1, hSw2⟩ := hSw; go_simp; try with_reducible rfl)
        simp only [Act.put, List.setIfInBounds_toArray, List.set_cons_zero, List.set_cons_succ]
        refine wpAnyH_take (i := 25) (oi := ⟨some 118, _, _, _, _, _⟩) (v := ?_) rfl (by kernel_rfl) (by kernel_rfl) (by kernel_rfl) (fun _ _ _ h => h) (Or.inl ⟨by rfl, ?_⟩) hS11 ?_
        rotate_left 1
        · (intro w hSw; obtain ⟨hSw1, hSw2⟩ := hSw; go_simp; try with_reducible rfl)
        simp only [Act.put, List.setIfInBounds_toArray, List.set_cons_zero, List.set_cons_succ]
        refine wpAnyH_take (i := 26) (oi := ⟨some 119, _, _, _, _, _⟩) (v := ?_) rfl (by kernel_rfl) (by kernel_rfl) (by kernel_rfl) (fun _ _ _ h => h) (Or.inl ⟨by rfl, ?_⟩) hS11 ?_
        rotate_left 1
        · (intro w hSw; obtain ⟨hSw1, hSw2⟩ := hSw; go_simp; try with_reducible rfl)
        simp only [Act.put, List.setIfInBounds_toArray, List.set_cons_zero, List.set_cons_succ]
        refine wpAnyH_ready (rs := [23]) (by kernel_rfl) (by simp) ?_
        refine AllReadyH.cons (o := ⟨some 116, _, _, _, _, _⟩) rfl (fun K hK => ?_) AllReadyH.nil
        go_simp
        refine (S_lacks HO11.out (i := 0) rfl Hm.out A1 n1 c1 vs Hl1.out (by have := Hn1.out; omega) (Hs1.out.below HO11.out.bel) Hf1.out).mono ?_
        rintro e w12 ⟨LA, lc, rfl, hst⟩
        have HO12 := hide hst
        have hbk := St.blk HO12.out (i := 2) rfl
        have hS12 : (fun W : World => W.cell? ⟨Bo, 1, none⟩ = some (.int .i64 ov) ∧ W.cell? ⟨Bo, 2, none⟩ = some (.int .i64 om)) _ := ⟨hbk.1 1, hbk.1 2⟩
        clear hbk
        clear hst
        refine hK.out _ _ hS12 (fun hHeld => ?_)
        clear hK K
        clear hHeld
        refine wpAnyH_ready (rs := [27]) (by kernel_rfl) (by simp) ?_
        refine AllReadyH.cons (o := ⟨some 120, _, _, _, _, _⟩) rfl (fun K hK => ?_) AllReadyH.nil
        go_simp
        refine (R_lacks HO12.out (i := 1) rfl HLk.out Hk1.out mk A1 n1 c1 vs Hl1.out (by have := Hn1.out; omega) (Hs1.out.below HO12.out.bel)).mono ?_
        rintro e w13 ⟨MA, mc, rfl, hst⟩
        have HO13 := hide hst
        have hbk := St.blk HO13.out (i := 2) rfl
        have hS13 : (fun W : World => W.cell? ⟨Bo, 1, none⟩ = some (.int .i64 ov) ∧ W.cell? ⟨Bo, 2, none⟩ = some (.int .i64 om)) _ := ⟨hbk.1 1, hbk.1 2⟩
        clear hbk
        clear hst
        refine hK.out _ _ hS13 (fun hHeld => ?_)
        clear hK K
        clear hHeld
        refine wpAnyH_ready (rs := [28]) (by kernel_rfl) (by simp) ?_
        refine AllReadyH.cons (o := ⟨some 121, _, _, _, _, _⟩) rfl (fun K hK => ?_) AllReadyH.nil
        go_simp
        refine (same_any _ (lack A mk vs) _ LA MA lc mc rfl (by have := lack_le (A := A) (m := mk) vs; have := Hl1.out; have := Hn1.out; omega) (St.src HO13.out (i := 3) rfl) (St.src HO13.out (i := 4) rfl)).mono ?_
        rintro e w14 ⟨rfl, hb14⟩
        have HO14 := hide (HO13.out.below hb14)
        have hbk := St.blk HO14.out (i := 2) rfl
        have hS14 : (fun W : World => W.cell? ⟨Bo, 1, none⟩ = some (.int .i64 ov) ∧ W.cell? ⟨Bo, 2, none⟩ = some (.int .i64 om)) _ := ⟨hbk.1 1, hbk.1 2⟩
        clear hbk
        clear hb14
        refine hK.out _ _ hS14 (fun hHeld => ?_)
        clear hK K
        clear hHeld
        refine wpAnyH_take (i := 29) (oi := ⟨some 122, _, _, _, _, _⟩) (v := ?_) rfl (by kernel_rfl) (by kernel_rfl) (by kernel_rfl) (fun _ _ _ h => h) (Or.inl ⟨by rfl, ?_⟩) hS14 ?_
        rotate_left 1
        · (intro w hSw; obtain ⟨hSw1, hSw2⟩ := hSw; go_simp; try with_reducible rfl)
        simp only [Act.put, List.setIfInBounds_toArray, List.set_cons_zero, List.set_cons_succ]
        refine wpAnyH_take (i := 30) (oi := ⟨some 123, _, _, _, _, _⟩) (v := ?_) rfl (by kernel_rfl) (by kernel_rfl) (by kernel_rfl) (fun _ _ _ h => h) (Or.inl ⟨by rfl, ?_⟩) hS14 ?_
        rotate_left 1
        · (intro w hSw; obtain ⟨hSw1, hSw2⟩ := hSw; go_simp; try with_reducible rfl)
        simp only [Act.put, List.setIfInBounds_toArray, List.set_cons_zero, List.set_cons_succ]
        refine wpAnyH_done (by kernel_rfl) ?_ _
        have HE : Hid (Both w p (p + 1) (k + 1) [] w14) := ⟨A, HLk.out, Wn.St.weaken (Ts := [tblT p A (2 * (k + 1)), rtbT (p + 1) A]) HO14.out⟩
        clear hS0 hS7 hS9 hS10 hS11 hS12 hS13 hS14 HOd HO7 HO9 HO10 HO11 HO12 HO13 HO14 HR8 HR10
        go_wp2
        go_roundw
        case rel => exact ⟨k + 1, Hlt.out, by go_num, HE.out⟩
        case measure => have := Hlt.out; simp [RowKit.intOf]; omega
    · obtain rfl : k = n := by omega
      have HBf := hide hst.bel
      clear hst hge hk hLk
      go_wp2
      go_ret
      exact ⟨rfl, HBf.out⟩
theorem MarksPlay_any (A0 : Option Addr) (n c : Nat) (l : List Oq) (A1 : Option Addr) (n1 c1 : Nat) (vs : List Int) (m : Int) (w : World) (hty : Ety w) (hl : l.length = n) (hf : OFits l) (hs : Src w A0 (ocels l)) (hl1 : vs.length = n1) (hf1 : Fits vs) (hs1 : Src w A1 (nums vs)) (hm : I64 m) :
    Calls Tryd.prog 3 #[.slice A0 n c, .slice A1 n1 c1, .int .i64 m] w fun e w' => e = .returned (.bool true) ∧ Below w.heap.size w w' := by
  rcases Nat.lt_or_ge 200 n with h | h
  · exact MarksPlay_long A0 n c A1 n1 c1 m w h
  · rcases Nat.lt_or_ge 20 n1 with h1 | h1
    · exact MarksPlay_long2 A0 n c A1 n1 c1 m w h h1
    · exact MarksPlay_law A0 n c l A1 n1 c1 vs m w hty hl h hf hs hl1 h1 hf1 hs1 hm

end Go.Proofs.YtenenhhijkjjfaaDoor.Mk
