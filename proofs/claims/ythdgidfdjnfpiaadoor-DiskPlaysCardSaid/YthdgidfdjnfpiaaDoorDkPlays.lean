/-
  DiskPlays at every number and every script: it returns true, and changes nothing that was there. Condition: the library's variable errors.errorType holds its own type's handle.
-/
import Derived.Deep.RegionHeld3
import Derived.Test.YthdgidfdjnfpiaaDoorDkTwo
namespace Go.Proofs.YthdgidfdjnfpiaaDoor.Dk
open Go.RowKit
open Pk Sm Fa

theorem wp_convert_made {P : Program} {op : Oper} {a : Act} {w w2 : World} {K : Act → World → Prop} {Q : Exit → Act → World → Prop} (t u : TypeId) (x : Operand) (ho : op.op = .convert t u x)
    (v : Value) (hx : a.eval x = v) {r : Value} (hrun : (convert t u v).run P w = .ok r w2) (h : K (a.put op.dst r) w2) : op.wp P a w K Q := by
  unfold Oper.wp execOp
  simp only [ho, hx, Sem.run_bind, hrun, Sem.run_pure, Result.andThen_ok]
  exact h
theorem Two.writeB {w wr : World} {p r bo nb i c : Nat} {S S2 : List Sec} {L L2 : List Wr} {ob : Obj} {A : Option Addr} {l : Sec} (hnb : nb = 64) (h : Two w p r S L S2 L2 bo ob wr) (hi : i < S.length) (hb : Byt wr wr.heap.size A l) (hl : l.length = 64) (hL : L.length ≤ 900000) :
    Calls Tryd.prog 15 #[.pointer (some ⟨p, 0, none⟩), .int .i64 i, .slice A nb c] wr fun e w' => e = .returned .nilIface ∧ Two w p r S (L ++ [(i, l)]) S2 L2 bo ob w' := by
  subst hnb
  exact h.write hi hb hl hL
def opob (kd I : Int) (K : Nat) (B : ByteArray) : List Value := [.int .i64 kd, .int .i64 I, .int .u64 K, .string B]
theorem op_size : (Tryd.prog.info? 32).map (·.size) = some 4 := by kernel_rfl
theorem op_zero : (Tryd.prog.info? 32).map (·.zero) = some (some (.agg (opob 0 0 0 ⟨#[]⟩).toArray)) := by kernel_rfl
theorem op_len (kd I : Int) (K : Nat) (B : ByteArray) : (Tryd.prog.info? 32).map (·.size) = some (opob kd I K B).length := op_size
theorem op_len2 (kd I : Int) (K : Nat) (B : ByteArray) : (Tryd.prog.info? 32).map (·.size) = some (opob kd I K B).toArray.size := op_size
theorem op_same (kd I : Int) (K : Nat) (B : ByteArray) : (opob 0 0 0 ⟨#[]⟩).toArray.size = (opob kd I K B).toArray.size := rfl
theorem opob_one (kd I : Int) (K : Nat) (B : ByteArray) : ∀ u ∈ opob kd I K B, u.oneCell' = true := by
  intro u hu
  simp [opob] at hu
  rcases hu with rfl | rfl | rfl | rfl <;> rfl

set_option maxRecDepth 100000 in
set_option maxHeartbeats 16000000 in
theorem Plays_any (sec : Nat) (A : Option Addr) (m c : Nat) (l : List Oq) (w : World) (hty : Ety w) (hsec : sec < 256) (hl : l.length = m) (hp : Ops w w.heap.size A l) (hf : OFits l) :
    Calls Tryd.prog 3 #[.int .u8 sec, .slice A m c] w fun r w' => r = .returned (.bool true) ∧ Below w.heap.size w w' := by
  have HA := hide (awake_any w hty)
  obtain ⟨n, hn⟩ : ∃ n : Nat, (sec : Int) % 20 = (n : Int) := ⟨sec % 20, by omega⟩
  have Hn20 := hide (show n ≤ 20 by omega)
  have hai : (sec : Int) < 256 := by omega
  have Hty := hide hty
  have Hl := hide hl
  have Hp := hide hp
  have Hf := hide hf
  clear hty hl hp hf hsec
  go_enter Tryd.func3, Tryd.ntmps3
  go_wp2_with fail
  refine HA.out.mono ?_
  rintro r w1 ⟨rfl, hb1⟩
  have HB1 := hide hb1
  have HFw := hide (few_any A m c l w1 Hl.out ((Hp.out.below hb1).more1 hb1.size) Hf.out)
  clear HA hb1
  go_wp2_with fail
  refine HFw.out.mono ?_
  rintro r w1' ⟨⟨bb, rfl, hbb⟩, rfl⟩
  have Hbb := hide hbb
  clear hbb HFw
  cases bb with
  | false =>
    have HA := hide (awake_any w1 (Hty.out.below HB1.out Hty.out.lt))
    go_wp2_with fail
    refine HA.out.mono ?_
    rintro r w2 ⟨rfl, hb2⟩
    have HB2 := hide (HB1.out.trans (hb2.mono HB1.out.size))
    clear HA hb2
    go_wp2
    go_ret
    exact ⟨rfl, HB2.out⟩
  | true =>
    have Hm := hide (show m ≤ 150 by rw [← Hl.out]; exact (Hbb.out.1 rfl).1)
    clear Hbb
    go_wp2_with fail
    refine (New_any _ n _ (by have := Hn20.out; omega)).mono ?_
    rintro r w2 ⟨p, G, rfl, hd2, hG2, hb2⟩
    have HB2 := hide (HB1.out.trans (hb2.mono HB1.out.size))
    have HG2 := hide (show ∀ i, G i → w.heap.size ≤ i from fun i hi => Nat.le_trans HB1.out.size (hG2 i hi))
    have HD2 := hide hd2
    clear hd2 hG2 hb2
    go_wp2_with fail
    refine (RNew_any n w2 Hn20.out).mono ?_
    rintro r w3 ⟨rr, Gr, rfl, hr3, hGr, hb3⟩
    have HT3 := hide (Two.start HD2.out HG2.out HB2.out hr3 hGr hb3)
    have hl3 := HT3.out.lens
    rw [List.length_replicate] at hl3
    have HL3 := hide hl3
    clear hr3 hGr hb3 HD2 HG2 hl3
    go_wp2_with fail
    refine HL3.out.mono ?_
    rintro r w3' ⟨rfl, rfl⟩
    clear HL3
    go_wp2
    clear hn
    go_loopw [44] (fun j wr => ∃ (k : Nat) (S : List Sec) (L : List Wr), k ≤ m ∧ j = .int .i64 k ∧ Hid (Two0 w p rr S L S L wr) ∧ Hid (S.length = n) ∧ Hid (L.length ≤ k)) (fun j _ => m - (intOf j).toNat)
    case atStart => exact ⟨0, _, _, Nat.zero_le _, rfl, HT3.out, List.length_replicate, Nat.le_refl _⟩
    case round =>
      clear HT3
      obtain ⟨k, S, L, hk, rfl, htwo, hSn, hLk⟩ := hrel
      have hm150 := Hm.out
      rcases Nat.lt_or_ge k m with hlt | hge
      · have Hlt := hide hlt
        have hki : (k : Int) < 150 := by omega
        have hkm : (k : Int) < (m : Int) := by omega
        obtain ⟨q, hq⟩ : ∃ q, l[k]? = some q := ⟨_, List.getElem?_eq_getElem (by rw [Hl.out]; exact hlt)⟩
        obtain ⟨b, o, rfl, hb, hcell⟩ := Hp.out (by rintro rfl; simp at hq)
        have hc4 := hcell k q hq
        have hfq := Hf.out q (List.mem_of_getElem? hq)
        obtain ⟨kd, I, K, B⟩ := q
        have Hfq := hide hfq
        have HB := hide (show B.size ≤ maxLen from hfq.2.2.2)
        have HKb := hide (show K < 18446744073709551616 from hfq.2.2.1)
        have HLk := hide hLk.out
        have HL9 := hide (show L.length ≤ 900000 by have := hLk.out; omega)
        have HSv := hSn
        have HLv := hide (show L.length ≤ k + 1 by have := hLk.out; omega)
        have HRg : Hid (wr.rangeAt b (o + k * 4) (opob kd I K B)) := by
          have hB := htwo.out.size
          intro j u hu
          match j, hu with
          | 0, hu => simp [opob] at hu; subst hu; exact (hB.cell (p := ⟨b, o + k * 4 + 0, none⟩) hb).trans hc4.1
          | 1, hu => simp [opob] at hu; subst hu; exact (hB.cell (p := ⟨b, o + k * 4 + 1, none⟩) hb).trans hc4.2.1
          | 2, hu => simp [opob] at hu; subst hu; exact (hB.cell (p := ⟨b, o + k * 4 + 2, none⟩) hb).trans hc4.2.2.1
          | 3, hu => simp [opob] at hu; subst hu; exact (hB.cell (p := ⟨b, o + k * 4 + 3, none⟩) hb).trans hc4.2.2.2
          | j + 4, hu => simp [opob] at hu
        clear hq hcell hb hc4 hfq hlt hk hm150 hSn hLk
        go_wp2_with (first | with_reducible refine wpList_load_mid rfl 32 (.tmp 49) rfl b (o + k * 4) rfl (opob kd I K B) _ HRg.out Tryd.underlying32 rfl (op_len kd I K B) ?_ | refine wpList_alloc_told rfl 32 rfl _ op_zero ?_)
        intro w1a Hw1
        have HB1a : Hid (Below wr.heap.size wr w1a) := by rw [Hw1.out]; exact (Below.refl _ _).alloc (Nat.le_refl _) _
        have HG1a : Hid (w1a.heap[wr.heap.size]? = some (.cells (opob 0 0 0 ⟨#[]⟩).toArray 32 (0, 0))) := by rw [Hw1.out]; exact heap_alloc_new wr _
        clear Hw1
        go_wp2_with (with_reducible refine wpList_store_row_told rfl 32 (.tmp 9) (.tmp 50) rfl wr.heap.size (opob kd I K B).toArray rfl rfl 32 _ HG1a.out (op_len2 kd I K B) (op_same kd I K B) (all_oneCell_toArray (opob_one kd I K B)) ?_)
        intro w2 Hw2
        have HT2 : Hid (Two w p rr S L S L wr.heap.size (.cells #[.int .i64 kd, .int .i64 I, .int .u64 K, .string B] 32) w2) :=
          htwo.out.with (by rw [Hw2.out]; exact below_setRow HB1a.out (Nat.le_refl _) _) (Nat.le_refl _) (by rw [Hw2.out]; exact setRow_heap _ _ _ _ _ _ HG1a.out)
        have hx0 : w2.cell? ⟨wr.heap.size, 0, none⟩ = some (.int .i64 kd) := by simp [World.cell?, HT2.out.obj]
        have hx1 : w2.cell? ⟨wr.heap.size, 1, none⟩ = some (.int .i64 I) := by simp [World.cell?, HT2.out.obj]
        have hx2 : w2.cell? ⟨wr.heap.size, 2, none⟩ = some (.int .u64 K) := by simp [World.cell?, HT2.out.obj]
        clear Hw2 HB1a HG1a htwo HRg
        by_cases h1 : kd = 1
        · subst h1
          by_cases hin : 0 ≤ I ∧ I < (S.length : Int)
          · obtain ⟨i, rfl⟩ : ∃ i : Nat, I = (i : Int) := ⟨I.toNat, by omega⟩
            have Hin := hide (show i < S.length by omega)
            clear hin hx1 hx2
            by_cases h64 : B.size = 64
            · have H64 := hide h64
              clear h64
              obtain ⟨w3, c3, hc3, hc3', hrun, hbyt, hb3'⟩ := to_bytes w2.drew B HB.out
              have HT3 := hide (HT2.out.below (drew_below hb3'))
              have hs1 : w2.drew.cell? ⟨wr.heap.size, 1, none⟩ = some (.int .i64 (i : Int)) := by show w2.cell? _ = _; simp [World.cell?, HT2.out.obj]
              have hs3 : w2.drew.cell? ⟨wr.heap.size, 3, none⟩ = some (.string B) := by show w2.cell? _ = _; simp [World.cell?, HT2.out.obj]
              have hi3 : w3.cell? ⟨wr.heap.size, 1, none⟩ = some (.int .i64 (i : Int)) := by simp [World.cell?, HT3.out.obj]
              have hb3 : w3.cell? ⟨wr.heap.size, 3, none⟩ = some (.string B) := by simp [World.cell?, HT3.out.obj]
              have Hbyt := hide hbyt
              have Hrun := hide hrun
              clear hc3 hc3' hb3' hbyt hrun
              go_wp2
              refine wp_region_held (S := fun W => W.cell? ⟨wr.heap.size, 1, none⟩ = some (.int .i64 (i : Int)) ∧ W.cell? ⟨wr.heap.size, 3, none⟩ = some (.string B)) (by kernel_rfl) ?_
              change wpAnyH _ _ _ _ _ _ _ _ (World.drew _)
              refine wpAnyH_take (i := 0) (oi := ⟨some 55, _, _, _, _, _⟩) (v := ?_) rfl (by kernel_rfl) (by kernel_rfl) (by kernel_rfl) (fun _ _ _ h => h) (Or.inl ⟨by rfl, ?_⟩) ⟨hs1, hs3⟩ ?_
              rotate_left 1
              · (intro w hSw; obtain ⟨hSw1, hSw2⟩ := hSw; go_simp; try with_reducible rfl)
              simp only [Act.put, List.setIfInBounds_toArray, List.set_cons_zero, List.set_cons_succ]
              refine wpAnyH_take (i := 1) (oi := ⟨some 56, _, _, _, _, _⟩) (v := ?_) rfl (by kernel_rfl) (by kernel_rfl) (by kernel_rfl) (fun _ _ _ h => h) (Or.inl ⟨by rfl, ?_⟩) ⟨hs1, hs3⟩ ?_
              rotate_left 1
              · (intro w hSw; obtain ⟨hSw1, hSw2⟩ := hSw; go_simp; try with_reducible rfl)
              simp only [Act.put, List.setIfInBounds_toArray, List.set_cons_zero, List.set_cons_succ]
              refine wpAnyH_take (i := 2) (oi := ⟨some 57, _, _, _, _, _⟩) (v := ?_) rfl (by kernel_rfl) (by kernel_rfl) (by kernel_rfl) (fun _ _ _ h => h) (Or.inl ⟨by rfl, ?_⟩) ⟨hs1, hs3⟩ ?_
              rotate_left 1
              · (intro w hSw; obtain ⟨hSw1, hSw2⟩ := hSw; go_simp; try with_reducible rfl)
              simp only [Act.put, List.setIfInBounds_toArray, List.set_cons_zero, List.set_cons_succ]
              refine wpAnyH_take (i := 3) (oi := ⟨some 58, _, _, _, _, _⟩) (v := ?_) rfl (by kernel_rfl) (by kernel_rfl) (by kernel_rfl) (fun _ _ _ h => h) (Or.inl ⟨by rfl, ?_⟩) ⟨hs1, hs3⟩ ?_
              rotate_left 1
              · (intro w hSw; obtain ⟨hSw1, hSw2⟩ := hSw; go_simp; try with_reducible rfl)
              simp only [Act.put, List.setIfInBounds_toArray, List.set_cons_zero, List.set_cons_succ]
              refine wpAnyH_take (i := 4) (oi := ⟨some 59, _, _, _, _, _⟩) (v := ?_) rfl (by kernel_rfl) (by kernel_rfl) (by kernel_rfl) (fun _ _ _ h => h) (Or.inl ⟨by rfl, ?_⟩) ⟨hs1, hs3⟩ ?_
              rotate_left 1
              · (intro w hSw; obtain ⟨hSw1, hSw2⟩ := hSw; go_simp; try with_reducible rfl)
              simp only [Act.put, List.setIfInBounds_toArray, List.set_cons_zero, List.set_cons_succ]
              refine wpAnyH_take (i := 8) (oi := ⟨some 63, _, _, _, _, _⟩) (v := ?_) rfl (by kernel_rfl) (by kernel_rfl) (by kernel_rfl) (fun _ _ _ h => h) (Or.inl ⟨by rfl, ?_⟩) ⟨hs1, hs3⟩ ?_
              rotate_left 1
              · (intro w hSw; obtain ⟨hSw1, hSw2⟩ := hSw; go_simp; try with_reducible rfl)
              simp only [Act.put, List.setIfInBounds_toArray, List.set_cons_zero, List.set_cons_succ]
              refine wpAnyH_take (i := 9) (oi := ⟨some 64, _, _, _, _, _⟩) (v := ?_) rfl (by kernel_rfl) (by kernel_rfl) (by kernel_rfl) (fun _ _ _ h => h) (Or.inl ⟨by rfl, ?_⟩) ⟨hs1, hs3⟩ ?_
              rotate_left 1
              · (intro w hSw; obtain ⟨hSw1, hSw2⟩ := hSw; go_simp; try with_reducible rfl)
              simp only [Act.put, List.setIfInBounds_toArray, List.set_cons_zero, List.set_cons_succ]
              refine wpAnyH_take (i := 10) (oi := ⟨some 65, _, _, _, _, _⟩) (v := ?_) rfl (by kernel_rfl) (by kernel_rfl) (by kernel_rfl) (fun _ _ _ h => h) (Or.inl ⟨by rfl, ?_⟩) ⟨hs1, hs3⟩ ?_
              rotate_left 1
              · (intro w hSw; obtain ⟨hSw1, hSw2⟩ := hSw; go_simp; try with_reducible rfl)
              simp only [Act.put, List.setIfInBounds_toArray, List.set_cons_zero, List.set_cons_succ]
              refine wpAnyH_take (i := 11) (oi := ⟨some 66, _, _, _, _, _⟩) (v := ?_) rfl (by kernel_rfl) (by kernel_rfl) (by kernel_rfl) (fun _ _ _ h => h) (Or.inl ⟨by rfl, ?_⟩) ⟨hs1, hs3⟩ ?_
              rotate_left 1
              · (intro w hSw; obtain ⟨hSw1, hSw2⟩ := hSw; go_simp; try with_reducible rfl)
              simp only [Act.put, List.setIfInBounds_toArray, List.set_cons_zero, List.set_cons_succ]
              refine wpAnyH_take (i := 12) (oi := ⟨some 67, _, _, _, _, _⟩) (v := ?_) rfl (by kernel_rfl) (by kernel_rfl) (by kernel_rfl) (fun _ _ _ h => h) (Or.inl ⟨by rfl, ?_⟩) ⟨hs1, hs3⟩ ?_
              rotate_left 1
              · (intro w hSw; obtain ⟨hSw1, hSw2⟩ := hSw; go_simp; try with_reducible rfl)
              simp only [Act.put, List.setIfInBounds_toArray, List.set_cons_zero, List.set_cons_succ]
              refine wpAnyH_ready (rs := [5]) (by kernel_rfl) (by simp) ?_
              refine AllReadyH.cons (o := ⟨some 60, _, _, _, _, _⟩) rfl (fun K hK => ?_) AllReadyH.nil
              refine step_wp2 (by rfl) (wp_convert_made 9 38 (.tmp 59) rfl _ rfl Hrun.out ?_)
              refine hK.out _ _ ⟨hi3, hb3⟩ (fun hHeld => ?_)
              clear hK K
              clear hHeld
              refine wpAnyH_ready (rs := [6]) (by kernel_rfl) (by simp) ?_
              refine AllReadyH.cons (o := ⟨some 61, _, _, _, _, _⟩) rfl (fun K hK => ?_) AllReadyH.nil
              go_simp
              refine (Two.writeB (c := c3) (l := B.data.toList) H64.out HT3.out Hin.out Hbyt.out (by rw [size_eq]; exact H64.out) HL9.out).mono ?_
              rintro r4 w4 ⟨rfl, ht4⟩
              have HT4 := hide ht4
              clear ht4
              have hi4 : w4.cell? ⟨wr.heap.size, 1, none⟩ = some (.int .i64 (i : Int)) := (by simp [World.cell?, HT4.out.obj])
              have hb4 : w4.cell? ⟨wr.heap.size, 3, none⟩ = some (.string B) := (by simp [World.cell?, HT4.out.obj])
              refine hK.out _ _ ⟨hi4, hb4⟩ (fun hHeld => ?_)
              clear hK K
              clear hHeld
              refine wpAnyH_ready (rs := [7]) (by kernel_rfl) (by simp) ?_
              refine AllReadyH.cons (o := ⟨some 62, _, _, _, _, _⟩) rfl (fun K hK => ?_) AllReadyH.nil
              go_simp
              refine (Code_any [] _ .nilIface 0 w4 (Hty.out.below HT4.out.size Hty.out.lt) rfl (Or.inl ⟨rfl, rfl⟩) (by simp)).mono ?_
              rintro r5 w5 ⟨rfl, hb5'⟩
              have HT5 := hide (HT4.out.below hb5')
              have hi5 : w5.cell? ⟨wr.heap.size, 1, none⟩ = some (.int .i64 (i : Int)) := (by simp [World.cell?, HT5.out.obj])
              have hb5 : w5.cell? ⟨wr.heap.size, 3, none⟩ = some (.string B) := (by simp [World.cell?, HT5.out.obj])
              clear hb5'
              refine hK.out _ _ ⟨hi5, hb5⟩ (fun hHeld => ?_)
              clear hK K
              clear hHeld
              refine wpAnyH_ready (rs := [13]) (by kernel_rfl) (by simp) ?_
              refine AllReadyH.cons (o := ⟨some 68, _, _, _, _, _⟩) rfl (fun K hK => ?_) AllReadyH.nil
              go_simp
              refine (Two.rwrite HT5.out Hin.out H64.out HL9.out).mono ?_
              rintro r6 w6 ⟨rfl, ht6⟩
              have HT6 := hide ht6
              clear ht6
              have hi6 : w6.cell? ⟨wr.heap.size, 1, none⟩ = some (.int .i64 (i : Int)) := (by simp [World.cell?, HT6.out.obj])
              have hb6 : w6.cell? ⟨wr.heap.size, 3, none⟩ = some (.string B) := (by simp [World.cell?, HT6.out.obj])
              refine hK.out _ _ ⟨hi6, hb6⟩ (fun hHeld => ?_)
              clear hK K
              clear hHeld
              refine wpAnyH_take (i := 14) (oi := ⟨some 69, _, _, _, _, _⟩) (v := ?_) rfl (by kernel_rfl) (by kernel_rfl) (by kernel_rfl) (fun _ _ _ h => h) (Or.inl ⟨by rfl, ?_⟩) ⟨hi6, hb6⟩ ?_
              rotate_left 1
              · (intro w hSw; obtain ⟨hSw1, hSw2⟩ := hSw; go_simp; try with_reducible rfl)
              simp only [Act.put, List.setIfInBounds_toArray, List.set_cons_zero, List.set_cons_succ]
              refine wpAnyH_done (by kernel_rfl) ?_ _
              have HV := hide HT6.out.two0
              have HLv := hide (show (L ++ [(i, B.data.toList)]).length ≤ k + 1 by rw [List.length_append]; have := HLk.out; simp; omega)
              have HVd : Hid (Two0 w p rr S (L ++ [(i, B.data.toList)]) S (L ++ [(i, B.data.toList)]) w6.drew) := HV.out.below (Below.refl _ _).drew
              have HLo := hide (Two0.loose HVd.out)
              obtain ⟨_, _, Bv, dv, hrh⟩ := Two0.rheap HV.out
              have hrW : w6.cell? ⟨rr, 1, none⟩ = some (.slice Bv ((L ++ [(i, B.data.toList)])).length dv) := by simp [World.cell?, hrh]
              clear hrh HV
              go_wp2
              refine wp_region_any (by kernel_rfl) ?_
              change wpAny _ _ _ _ _ _ _ (World.drew _)
              refine wpAny_take (i := 0) (oi := ⟨some 112, _, _, _, _, _⟩) (v := ?_) rfl (by kernel_rfl) (by kernel_rfl) (by kernel_rfl) (fun _ _ _ h => h) (Or.inl ⟨by rfl, ?_⟩) ?_
              rotate_left 1
              · (intro w; go_simp; try with_reducible rfl)
              simp only [Act.put, List.setIfInBounds_toArray, List.set_cons_zero, List.set_cons_succ]
              refine wpAny_take (i := 2) (oi := ⟨some 114, _, _, _, _, _⟩) (v := ?_) rfl (by kernel_rfl) (by kernel_rfl) (by kernel_rfl) (fun _ _ _ h => h) (Or.inl ⟨by rfl, ?_⟩) ?_
              rotate_left 1
              · (intro w; go_simp; try with_reducible rfl)
              simp only [Act.put, List.setIfInBounds_toArray, List.set_cons_zero, List.set_cons_succ]
              refine wpAny_take (i := 3) (oi := ⟨some 115, _, _, _, _, _⟩) (v := ?_) rfl (by kernel_rfl) (by kernel_rfl) (by kernel_rfl) (fun _ _ _ h => h) (Or.inl ⟨by rfl, ?_⟩) ?_
              rotate_left 1
              · (intro w; go_simp; try with_reducible rfl)
              simp only [Act.put, List.setIfInBounds_toArray, List.set_cons_zero, List.set_cons_succ]
              refine wpAny_take (i := 4) (oi := ⟨some 116, _, _, _, _, _⟩) (v := ?_) rfl (by kernel_rfl) (by kernel_rfl) (by kernel_rfl) (fun _ _ _ h => h) (Or.inl ⟨by rfl, ?_⟩) ?_
              rotate_left 1
              · (intro w; go_simp; try with_reducible rfl)
              simp only [Act.put, List.setIfInBounds_toArray, List.set_cons_zero, List.set_cons_succ]
              refine wpAny_ready (rs := [1, 5]) (by kernel_rfl) (by simp) ?_
              refine AllReady.cons (o := ⟨some 113, _, _, _, _, _⟩) rfl (fun K hK => ?_) (AllReady.cons (o := ⟨some 117, _, _, _, _, _⟩) rfl (fun K hK => ?_) AllReady.nil)
              · go_simp
                refine HLo.out.mono ?_
                rintro r9 v9 ⟨rfl, rfl⟩
                refine hK _ _ ?_
                clear hK K
                refine wpAny_ready (rs := [5]) (by kernel_rfl) (by simp) ?_
                refine AllReady.cons (o := ⟨some 117, _, _, _, _, _⟩) rfl (fun K hK => ?_) AllReady.nil
                go_simp
                refine hK _ _ ?_
                clear hK K
                refine wpAny_take (i := 6) (oi := ⟨some 118, _, _, _, _, _⟩) (v := ?_) rfl (by kernel_rfl) (by kernel_rfl) (by kernel_rfl) (fun _ _ _ h => h) (Or.inl ⟨by rfl, ?_⟩) ?_
                rotate_left 1
                · (intro w; go_simp; try with_reducible rfl)
                simp only [Act.put, List.setIfInBounds_toArray, List.set_cons_zero, List.set_cons_succ]
                refine wpAny_take (i := 7) (oi := ⟨some 119, _, _, _, _, _⟩) (v := ?_) rfl (by kernel_rfl) (by kernel_rfl) (by kernel_rfl) (fun _ _ _ h => h) (Or.inl ⟨by rfl, ?_⟩) ?_
                rotate_left 1
                · (intro w; go_simp; try with_reducible rfl)
                simp only [Act.put, List.setIfInBounds_toArray, List.set_cons_zero, List.set_cons_succ]
                refine wpAny_done (by kernel_rfl) ?_ _
                go_wp2
                go_roundw
                case rel => exact ⟨k + 1, _, _, Hlt.out, by go_num, HVd.out, HSv.out, HLv.out⟩
                case measure => have := Hlt.out; simp [intOf]; omega
              · go_simp
                refine hK _ _ ?_
                clear hK K
                refine wpAny_take (i := 6) (oi := ⟨some 118, _, _, _, _, _⟩) (v := ?_) rfl (by kernel_rfl) (by kernel_rfl) (by kernel_rfl) (fun _ _ _ h => h) (Or.inl ⟨by rfl, ?_⟩) ?_
                rotate_left 1
                · (intro w; go_simp; try with_reducible rfl)
                simp only [Act.put, List.setIfInBounds_toArray, List.set_cons_zero, List.set_cons_succ]
                refine wpAny_ready (rs := [1]) (by kernel_rfl) (by simp) ?_
                refine AllReady.cons (o := ⟨some 113, _, _, _, _, _⟩) rfl (fun K hK => ?_) AllReady.nil
                go_simp
                refine HLo.out.mono ?_
                rintro r9 v9 ⟨rfl, rfl⟩
                refine hK _ _ ?_
                clear hK K
                refine wpAny_take (i := 7) (oi := ⟨some 119, _, _, _, _, _⟩) (v := ?_) rfl (by kernel_rfl) (by kernel_rfl) (by kernel_rfl) (fun _ _ _ h => h) (Or.inl ⟨by rfl, ?_⟩) ?_
                rotate_left 1
                · (intro w; go_simp; try with_reducible rfl)
                simp only [Act.put, List.setIfInBounds_toArray, List.set_cons_zero, List.set_cons_succ]
                refine wpAny_done (by kernel_rfl) ?_ _
                go_wp2
                go_roundw
                case rel => exact ⟨k + 1, _, _, Hlt.out, by go_num, HVd.out, HSv.out, HLv.out⟩
                case measure => have := Hlt.out; simp [intOf]; omega
            · have Hbad := hide (show ¬ ((B.size : Int) = 64) by omega)
              clear h64
              obtain ⟨w3, c3, hc3, hc3', hrun, hbyt, hb3'⟩ := to_bytes w2.drew B HB.out
              have HT3 := hide (HT2.out.below (drew_below hb3'))
              have hs1 : w2.drew.cell? ⟨wr.heap.size, 1, none⟩ = some (.int .i64 (i : Int)) := by show w2.cell? _ = _; simp [World.cell?, HT2.out.obj]
              have hs3 : w2.drew.cell? ⟨wr.heap.size, 3, none⟩ = some (.string B) := by show w2.cell? _ = _; simp [World.cell?, HT2.out.obj]
              have hi3 : w3.cell? ⟨wr.heap.size, 1, none⟩ = some (.int .i64 (i : Int)) := by simp [World.cell?, HT3.out.obj]
              have hb3 : w3.cell? ⟨wr.heap.size, 3, none⟩ = some (.string B) := by simp [World.cell?, HT3.out.obj]
              have Hbyt := hide hbyt
              have Hrun := hide hrun
              clear hc3 hc3' hb3' hbyt hrun
              go_wp2
              refine wp_region_held (S := fun W => W.cell? ⟨wr.heap.size, 1, none⟩ = some (.int .i64 (i : Int)) ∧ W.cell? ⟨wr.heap.size, 3, none⟩ = some (.string B)) (by kernel_rfl) ?_
              change wpAnyH _ _ _ _ _ _ _ _ (World.drew _)
              refine wpAnyH_take (i := 0) (oi := ⟨some 55, _, _, _, _, _⟩) (v := ?_) rfl (by kernel_rfl) (by kernel_rfl) (by kernel_rfl) (fun _ _ _ h => h) (Or.inl ⟨by rfl, ?_⟩) ⟨hs1, hs3⟩ ?_
              rotate_left 1
              · (intro w hSw; obtain ⟨hSw1, hSw2⟩ := hSw; go_simp; try with_reducible rfl)
              simp only [Act.put, List.setIfInBounds_toArray, List.set_cons_zero, List.set_cons_succ]
              refine wpAnyH_take (i := 1) (oi := ⟨some 56, _, _, _, _, _⟩) (v := ?_) rfl (by kernel_rfl) (by kernel_rfl) (by kernel_rfl) (fun _ _ _ h => h) (Or.inl ⟨by rfl, ?_⟩) ⟨hs1, hs3⟩ ?_
              rotate_left 1
              · (intro w hSw; obtain ⟨hSw1, hSw2⟩ := hSw; go_simp; try with_reducible rfl)
              simp only [Act.put, List.setIfInBounds_toArray, List.set_cons_zero, List.set_cons_succ]
              refine wpAnyH_take (i := 2) (oi := ⟨some 57, _, _, _, _, _⟩) (v := ?_) rfl (by kernel_rfl) (by kernel_rfl) (by kernel_rfl) (fun _ _ _ h => h) (Or.inl ⟨by rfl, ?_⟩) ⟨hs1, hs3⟩ ?_
              rotate_left 1
              · (intro w hSw; obtain ⟨hSw1, hSw2⟩ := hSw; go_simp; try with_reducible rfl)
              simp only [Act.put, List.setIfInBounds_toArray, List.set_cons_zero, List.set_cons_succ]
              refine wpAnyH_take (i := 3) (oi := ⟨some 58, _, _, _, _, _⟩) (v := ?_) rfl (by kernel_rfl) (by kernel_rfl) (by kernel_rfl) (fun _ _ _ h => h) (Or.inl ⟨by rfl, ?_⟩) ⟨hs1, hs3⟩ ?_
              rotate_left 1
              · (intro w hSw; obtain ⟨hSw1, hSw2⟩ := hSw; go_simp; try with_reducible rfl)
              simp only [Act.put, List.setIfInBounds_toArray, List.set_cons_zero, List.set_cons_succ]
              refine wpAnyH_take (i := 4) (oi := ⟨some 59, _, _, _, _, _⟩) (v := ?_) rfl (by kernel_rfl) (by kernel_rfl) (by kernel_rfl) (fun _ _ _ h => h) (Or.inl ⟨by rfl, ?_⟩) ⟨hs1, hs3⟩ ?_
              rotate_left 1
              · (intro w hSw; obtain ⟨hSw1, hSw2⟩ := hSw; go_simp; try with_reducible rfl)
              simp only [Act.put, List.setIfInBounds_toArray, List.set_cons_zero, List.set_cons_succ]
              refine wpAnyH_take (i := 8) (oi := ⟨some 63, _, _, _, _, _⟩) (v := ?_) rfl (by kernel_rfl) (by kernel_rfl) (by kernel_rfl) (fun _ _ _ h => h) (Or.inl ⟨by rfl, ?_⟩) ⟨hs1, hs3⟩ ?_
              rotate_left 1
              · (intro w hSw; obtain ⟨hSw1, hSw2⟩ := hSw; go_simp; try with_reducible rfl)
              simp only [Act.put, List.setIfInBounds_toArray, List.set_cons_zero, List.set_cons_succ]
              refine wpAnyH_take (i := 9) (oi := ⟨some 64, _, _, _, _, _⟩) (v := ?_) rfl (by kernel_rfl) (by kernel_rfl) (by kernel_rfl) (fun _ _ _ h => h) (Or.inl ⟨by rfl, ?_⟩) ⟨hs1, hs3⟩ ?_
              rotate_left 1
              · (intro w hSw; obtain ⟨hSw1, hSw2⟩ := hSw; go_simp; try with_reducible rfl)
              simp only [Act.put, List.setIfInBounds_toArray, List.set_cons_zero, List.set_cons_succ]
              refine wpAnyH_take (i := 10) (oi := ⟨some 65, _, _, _, _, _⟩) (v := ?_) rfl (by kernel_rfl) (by kernel_rfl) (by kernel_rfl) (fun _ _ _ h => h) (Or.inl ⟨by rfl, ?_⟩) ⟨hs1, hs3⟩ ?_
              rotate_left 1
              · (intro w hSw; obtain ⟨hSw1, hSw2⟩ := hSw; go_simp; try with_reducible rfl)
              simp only [Act.put, List.setIfInBounds_toArray, List.set_cons_zero, List.set_cons_succ]
              refine wpAnyH_take (i := 11) (oi := ⟨some 66, _, _, _, _, _⟩) (v := ?_) rfl (by kernel_rfl) (by kernel_rfl) (by kernel_rfl) (fun _ _ _ h => h) (Or.inl ⟨by rfl, ?_⟩) ⟨hs1, hs3⟩ ?_
              rotate_left 1
              · (intro w hSw; obtain ⟨hSw1, hSw2⟩ := hSw; go_simp; try with_reducible rfl)
              simp only [Act.put, List.setIfInBounds_toArray, List.set_cons_zero, List.set_cons_succ]
              refine wpAnyH_take (i := 12) (oi := ⟨some 67, _, _, _, _, _⟩) (v := ?_) rfl (by kernel_rfl) (by kernel_rfl) (by kernel_rfl) (fun _ _ _ h => h) (Or.inl ⟨by rfl, ?_⟩) ⟨hs1, hs3⟩ ?_
              rotate_left 1
              · (intro w hSw; obtain ⟨hSw1, hSw2⟩ := hSw; go_simp; try with_reducible rfl)
              simp only [Act.put, List.setIfInBounds_toArray, List.set_cons_zero, List.set_cons_succ]
              refine wpAnyH_ready (rs := [5]) (by kernel_rfl) (by simp) ?_
              refine AllReadyH.cons (o := ⟨some 60, _, _, _, _, _⟩) rfl (fun K hK => ?_) AllReadyH.nil
              refine step_wp2 (by rfl) (wp_convert_made 9 38 (.tmp 59) rfl _ rfl Hrun.out ?_)
              refine hK.out _ _ ⟨hi3, hb3⟩ (fun hHeld => ?_)
              clear hK K
              clear hHeld
              refine wpAnyH_ready (rs := [6]) (by kernel_rfl) (by simp) ?_
              refine AllReadyH.cons (o := ⟨some 61, _, _, _, _, _⟩) rfl (fun K hK => ?_) AllReadyH.nil
              go_simp
              refine (Write_bad (.pointer (some ⟨p, 0, none⟩)) i _ B.size c3 S.length w3 HT3.out.two0.lens (by omega) (by have := Hin.out; omega) Hbad.out).mono ?_
              rintro r4 w4 ⟨rfl, hw4⟩
              have hb4' : Below w3.heap.size w3 w4 := (by rw [hw4]; exact flt_below w3 i 1)
              have HT4 := hide (HT3.out.below hb4')
              have HC4 : Hid (Chain w4 [(w3.heap.size, ⟨#[100, 105, 115, 107]⟩, (i : Int))] (ptr w3) (.iface 33 (.int .i64 1))) := (by rw [hw4]; exact flt_chain w3 i 1)
              clear hb4' hw4
              have hi4 : w4.cell? ⟨wr.heap.size, 1, none⟩ = some (.int .i64 (i : Int)) := (by simp [World.cell?, HT4.out.obj])
              have hb4 : w4.cell? ⟨wr.heap.size, 3, none⟩ = some (.string B) := (by simp [World.cell?, HT4.out.obj])
              refine hK.out _ _ ⟨hi4, hb4⟩ (fun hHeld => ?_)
              clear hK K
              clear hHeld
              refine wpAnyH_ready (rs := [7]) (by kernel_rfl) (by simp) ?_
              refine AllReadyH.cons (o := ⟨some 62, _, _, _, _, _⟩) rfl (fun K hK => ?_) AllReadyH.nil
              go_simp
              refine (Code_any _ _ _ 1 w4 (Hty.out.below HT4.out.size Hty.out.lt) HC4.out (Or.inr rfl) (by simp)).mono ?_
              rintro r5 w5 ⟨rfl, hb5'⟩
              have HT5 := hide (HT4.out.below hb5')
              have hi5 : w5.cell? ⟨wr.heap.size, 1, none⟩ = some (.int .i64 (i : Int)) := (by simp [World.cell?, HT5.out.obj])
              have hb5 : w5.cell? ⟨wr.heap.size, 3, none⟩ = some (.string B) := (by simp [World.cell?, HT5.out.obj])
              clear hb5'
              refine hK.out _ _ ⟨hi5, hb5⟩ (fun hHeld => ?_)
              clear hK K
              clear hHeld
              refine wpAnyH_ready (rs := [13]) (by kernel_rfl) (by simp) ?_
              refine AllReadyH.cons (o := ⟨some 68, _, _, _, _, _⟩) rfl (fun K hK => ?_) AllReadyH.nil
              go_simp
              refine (Two0.rwrite_bad HT5.out.two0 (by omega) (by have := Hin.out; omega) Hbad.out).mono ?_
              rintro r6 w6 ⟨rfl, hw6⟩
              have HT6 : Hid (Two w p rr S L S L wr.heap.size _ w6) := (by rw [← hw6]; exact HT5.out)
              clear hw6
              have hi6 : w6.cell? ⟨wr.heap.size, 1, none⟩ = some (.int .i64 (i : Int)) := (by simp [World.cell?, HT6.out.obj])
              have hb6 : w6.cell? ⟨wr.heap.size, 3, none⟩ = some (.string B) := (by simp [World.cell?, HT6.out.obj])
              refine hK.out _ _ ⟨hi6, hb6⟩ (fun hHeld => ?_)
              clear hK K
              clear hHeld
              refine wpAnyH_take (i := 14) (oi := ⟨some 69, _, _, _, _, _⟩) (v := ?_) rfl (by kernel_rfl) (by kernel_rfl) (by kernel_rfl) (fun _ _ _ h => h) (Or.inl ⟨by rfl, ?_⟩) ⟨hi6, hb6⟩ ?_
              rotate_left 1
              · (intro w hSw; obtain ⟨hSw1, hSw2⟩ := hSw; go_simp; try with_reducible rfl)
              simp only [Act.put, List.setIfInBounds_toArray, List.set_cons_zero, List.set_cons_succ]
              refine wpAnyH_done (by kernel_rfl) ?_ _
              have HV := hide HT6.out.two0
              have HVd : Hid (Two0 w p rr S L S L w6.drew) := HV.out.below (Below.refl _ _).drew
              have HLo := hide (Two0.loose HVd.out)
              obtain ⟨_, _, Bv, dv, hrh⟩ := Two0.rheap HV.out
              have hrW : w6.cell? ⟨rr, 1, none⟩ = some (.slice Bv (L).length dv) := by simp [World.cell?, hrh]
              clear hrh HV
              go_wp2
              refine wp_region_any (by kernel_rfl) ?_
              change wpAny _ _ _ _ _ _ _ (World.drew _)
              refine wpAny_take (i := 0) (oi := ⟨some 112, _, _, _, _, _⟩) (v := ?_) rfl (by kernel_rfl) (by kernel_rfl) (by kernel_rfl) (fun _ _ _ h => h) (Or.inl ⟨by rfl, ?_⟩) ?_
              rotate_left 1
              · (intro w; go_simp; try with_reducible rfl)
              simp only [Act.put, List.setIfInBounds_toArray, List.set_cons_zero, List.set_cons_succ]
              refine wpAny_take (i := 2) (oi := ⟨some 114, _, _, _, _, _⟩) (v := ?_) rfl (by kernel_rfl) (by kernel_rfl) (by kernel_rfl) (fun _ _ _ h => h) (Or.inl ⟨by rfl, ?_⟩) ?_
              rotate_left 1
              · (intro w; go_simp; try with_reducible rfl)
              simp only [Act.put, List.setIfInBounds_toArray, List.set_cons_zero, List.set_cons_succ]
              refine wpAny_take (i := 3) (oi := ⟨some 115, _, _, _, _, _⟩) (v := ?_) rfl (by kernel_rfl) (by kernel_rfl) (by kernel_rfl) (fun _ _ _ h => h) (Or.inl ⟨by rfl, ?_⟩) ?_
              rotate_left 1
              · (intro w; go_simp; try with_reducible rfl)
              simp only [Act.put, List.setIfInBounds_toArray, List.set_cons_zero, List.set_cons_succ]
              refine wpAny_take (i := 4) (oi := ⟨some 116, _, _, _, _, _⟩) (v := ?_) rfl (by kernel_rfl) (by kernel_rfl) (by kernel_rfl) (fun _ _ _ h => h) (Or.inl ⟨by rfl, ?_⟩) ?_
              rotate_left 1
              · (intro w; go_simp; try with_reducible rfl)
              simp only [Act.put, List.setIfInBounds_toArray, List.set_cons_zero, List.set_cons_succ]
              refine wpAny_ready (rs := [1, 5]) (by kernel_rfl) (by simp) ?_
              refine AllReady.cons (o := ⟨some 113, _, _, _, _, _⟩) rfl (fun K hK => ?_) (AllReady.cons (o := ⟨some 117, _, _, _, _, _⟩) rfl (fun K hK => ?_) AllReady.nil)
              · go_simp
                refine HLo.out.mono ?_
                rintro r9 v9 ⟨rfl, rfl⟩
                refine hK _ _ ?_
                clear hK K
                refine wpAny_ready (rs := [5]) (by kernel_rfl) (by simp) ?_
                refine AllReady.cons (o := ⟨some 117, _, _, _, _, _⟩) rfl (fun K hK => ?_) AllReady.nil
                go_simp
                refine hK _ _ ?_
                clear hK K
                refine wpAny_take (i := 6) (oi := ⟨some 118, _, _, _, _, _⟩) (v := ?_) rfl (by kernel_rfl) (by kernel_rfl) (by kernel_rfl) (fun _ _ _ h => h) (Or.inl ⟨by rfl, ?_⟩) ?_
                rotate_left 1
                · (intro w; go_simp; try with_reducible rfl)
                simp only [Act.put, List.setIfInBounds_toArray, List.set_cons_zero, List.set_cons_succ]
                refine wpAny_take (i := 7) (oi := ⟨some 119, _, _, _, _, _⟩) (v := ?_) rfl (by kernel_rfl) (by kernel_rfl) (by kernel_rfl) (fun _ _ _ h => h) (Or.inl ⟨by rfl, ?_⟩) ?_
                rotate_left 1
                · (intro w; go_simp; try with_reducible rfl)
                simp only [Act.put, List.setIfInBounds_toArray, List.set_cons_zero, List.set_cons_succ]
                refine wpAny_done (by kernel_rfl) ?_ _
                go_wp2
                go_roundw
                case rel => exact ⟨k + 1, _, _, Hlt.out, by go_num, HVd.out, HSv.out, HLv.out⟩
                case measure => have := Hlt.out; simp [intOf]; omega
              · go_simp
                refine hK _ _ ?_
                clear hK K
                refine wpAny_take (i := 6) (oi := ⟨some 118, _, _, _, _, _⟩) (v := ?_) rfl (by kernel_rfl) (by kernel_rfl) (by kernel_rfl) (fun _ _ _ h => h) (Or.inl ⟨by rfl, ?_⟩) ?_
                rotate_left 1
                · (intro w; go_simp; try with_reducible rfl)
                simp only [Act.put, List.setIfInBounds_toArray, List.set_cons_zero, List.set_cons_succ]
                refine wpAny_ready (rs := [1]) (by kernel_rfl) (by simp) ?_
                refine AllReady.cons (o := ⟨some 113, _, _, _, _, _⟩) rfl (fun K hK => ?_) AllReady.nil
                go_simp
                refine HLo.out.mono ?_
                rintro r9 v9 ⟨rfl, rfl⟩
                refine hK _ _ ?_
                clear hK K
                refine wpAny_take (i := 7) (oi := ⟨some 119, _, _, _, _, _⟩) (v := ?_) rfl (by kernel_rfl) (by kernel_rfl) (by kernel_rfl) (fun _ _ _ h => h) (Or.inl ⟨by rfl, ?_⟩) ?_
                rotate_left 1
                · (intro w; go_simp; try with_reducible rfl)
                simp only [Act.put, List.setIfInBounds_toArray, List.set_cons_zero, List.set_cons_succ]
                refine wpAny_done (by kernel_rfl) ?_ _
                go_wp2
                go_roundw
                case rel => exact ⟨k + 1, _, _, Hlt.out, by go_num, HVd.out, HSv.out, HLv.out⟩
                case measure => have := Hlt.out; simp [intOf]; omega
          · have Hout := hide hin
            clear hin hx1 hx2
            obtain ⟨w3, c3, hc3, hc3', hrun, hbyt, hb3'⟩ := to_bytes w2.drew B HB.out
            have HT3 := hide (HT2.out.below (drew_below hb3'))
            have hs1 : w2.drew.cell? ⟨wr.heap.size, 1, none⟩ = some (.int .i64 I) := by show w2.cell? _ = _; simp [World.cell?, HT2.out.obj]
            have hs3 : w2.drew.cell? ⟨wr.heap.size, 3, none⟩ = some (.string B) := by show w2.cell? _ = _; simp [World.cell?, HT2.out.obj]
            have hi3 : w3.cell? ⟨wr.heap.size, 1, none⟩ = some (.int .i64 I) := by simp [World.cell?, HT3.out.obj]
            have hb3 : w3.cell? ⟨wr.heap.size, 3, none⟩ = some (.string B) := by simp [World.cell?, HT3.out.obj]
            have Hbyt := hide hbyt
            have Hrun := hide hrun
            clear hc3 hc3' hb3' hbyt hrun
            go_wp2
            refine wp_region_held (S := fun W => W.cell? ⟨wr.heap.size, 1, none⟩ = some (.int .i64 I) ∧ W.cell? ⟨wr.heap.size, 3, none⟩ = some (.string B)) (by kernel_rfl) ?_
            change wpAnyH _ _ _ _ _ _ _ _ (World.drew _)
            refine wpAnyH_take (i := 0) (oi := ⟨some 55, _, _, _, _, _⟩) (v := ?_) rfl (by kernel_rfl) (by kernel_rfl) (by kernel_rfl) (fun _ _ _ h => h) (Or.inl ⟨by rfl, ?_⟩) ⟨hs1, hs3⟩ ?_
            rotate_left 1
            · (intro w hSw; obtain ⟨hSw1, hSw2⟩ := hSw; go_simp; try with_reducible rfl)
            simp only [Act.put, List.setIfInBounds_toArray, List.set_cons_zero, List.set_cons_succ]
            refine wpAnyH_take (i := 1) (oi := ⟨some 56, _, _, _, _, _⟩) (v := ?_) rfl (by kernel_rfl) (by kernel_rfl) (by kernel_rfl) (fun _ _ _ h => h) (Or.inl ⟨by rfl, ?_⟩) ⟨hs1, hs3⟩ ?_
            rotate_left 1
            · (intro w hSw; obtain ⟨hSw1, hSw2⟩ := hSw; go_simp; try with_reducible rfl)
            simp only [Act.put, List.setIfInBounds_toArray, List.set_cons_zero, List.set_cons_succ]
            refine wpAnyH_take (i := 2) (oi := ⟨some 57, _, _, _, _, _⟩) (v := ?_) rfl (by kernel_rfl) (by kernel_rfl) (by kernel_rfl) (fun _ _ _ h => h) (Or.inl ⟨by rfl, ?_⟩) ⟨hs1, hs3⟩ ?_
            rotate_left 1
            · (intro w hSw; obtain ⟨hSw1, hSw2⟩ := hSw; go_simp; try with_reducible rfl)
            simp only [Act.put, List.setIfInBounds_toArray, List.set_cons_zero, List.set_cons_succ]
            refine wpAnyH_take (i := 3) (oi := ⟨some 58, _, _, _, _, _⟩) (v := ?_) rfl (by kernel_rfl) (by kernel_rfl) (by kernel_rfl) (fun _ _ _ h => h) (Or.inl ⟨by rfl, ?_⟩) ⟨hs1, hs3⟩ ?_
            rotate_left 1
            · (intro w hSw; obtain ⟨hSw1, hSw2⟩ := hSw; go_simp; try with_reducible rfl)
            simp only [Act.put, List.setIfInBounds_toArray, List.set_cons_zero, List.set_cons_succ]
            refine wpAnyH_take (i := 4) (oi := ⟨some 59, _, _, _, _, _⟩) (v := ?_) rfl (by kernel_rfl) (by kernel_rfl) (by kernel_rfl) (fun _ _ _ h => h) (Or.inl ⟨by rfl, ?_⟩) ⟨hs1, hs3⟩ ?_
            rotate_left 1
            · (intro w hSw; obtain ⟨hSw1, hSw2⟩ := hSw; go_simp; try with_reducible rfl)
            simp only [Act.put, List.setIfInBounds_toArray, List.set_cons_zero, List.set_cons_succ]
            refine wpAnyH_take (i := 8) (oi := ⟨some 63, _, _, _, _, _⟩) (v := ?_) rfl (by kernel_rfl) (by kernel_rfl) (by kernel_rfl) (fun _ _ _ h => h) (Or.inl ⟨by rfl, ?_⟩) ⟨hs1, hs3⟩ ?_
            rotate_left 1
            · (intro w hSw; obtain ⟨hSw1, hSw2⟩ := hSw; go_simp; try with_reducible rfl)
            simp only [Act.put, List.setIfInBounds_toArray, List.set_cons_zero, List.set_cons_succ]
            refine wpAnyH_take (i := 9) (oi := ⟨some 64, _, _, _, _, _⟩) (v := ?_) rfl (by kernel_rfl) (by kernel_rfl) (by kernel_rfl) (fun _ _ _ h => h) (Or.inl ⟨by rfl, ?_⟩) ⟨hs1, hs3⟩ ?_
            rotate_left 1
            · (intro w hSw; obtain ⟨hSw1, hSw2⟩ := hSw; go_simp; try with_reducible rfl)
            simp only [Act.put, List.setIfInBounds_toArray, List.set_cons_zero, List.set_cons_succ]
            refine wpAnyH_take (i := 10) (oi := ⟨some 65, _, _, _, _, _⟩) (v := ?_) rfl (by kernel_rfl) (by kernel_rfl) (by kernel_rfl) (fun _ _ _ h => h) (Or.inl ⟨by rfl, ?_⟩) ⟨hs1, hs3⟩ ?_
            rotate_left 1
            · (intro w hSw; obtain ⟨hSw1, hSw2⟩ := hSw; go_simp; try with_reducible rfl)
            simp only [Act.put, List.setIfInBounds_toArray, List.set_cons_zero, List.set_cons_succ]
            refine wpAnyH_take (i := 11) (oi := ⟨some 66, _, _, _, _, _⟩) (v := ?_) rfl (by kernel_rfl) (by kernel_rfl) (by kernel_rfl) (fun _ _ _ h => h) (Or.inl ⟨by rfl, ?_⟩) ⟨hs1, hs3⟩ ?_
            rotate_left 1
            · (intro w hSw; obtain ⟨hSw1, hSw2⟩ := hSw; go_simp; try with_reducible rfl)
            simp only [Act.put, List.setIfInBounds_toArray, List.set_cons_zero, List.set_cons_succ]
            refine wpAnyH_take (i := 12) (oi := ⟨some 67, _, _, _, _, _⟩) (v := ?_) rfl (by kernel_rfl) (by kernel_rfl) (by kernel_rfl) (fun _ _ _ h => h) (Or.inl ⟨by rfl, ?_⟩) ⟨hs1, hs3⟩ ?_
            rotate_left 1
            · (intro w hSw; obtain ⟨hSw1, hSw2⟩ := hSw; go_simp; try with_reducible rfl)
            simp only [Act.put, List.setIfInBounds_toArray, List.set_cons_zero, List.set_cons_succ]
            refine wpAnyH_ready (rs := [5]) (by kernel_rfl) (by simp) ?_
            refine AllReadyH.cons (o := ⟨some 60, _, _, _, _, _⟩) rfl (fun K hK => ?_) AllReadyH.nil
            refine step_wp2 (by rfl) (wp_convert_made 9 38 (.tmp 59) rfl _ rfl Hrun.out ?_)
            refine hK.out _ _ ⟨hi3, hb3⟩ (fun hHeld => ?_)
            clear hK K
            clear hHeld
            refine wpAnyH_ready (rs := [6]) (by kernel_rfl) (by simp) ?_
            refine AllReadyH.cons (o := ⟨some 61, _, _, _, _, _⟩) rfl (fun K hK => ?_) AllReadyH.nil
            go_simp
            refine (Write_out (.pointer (some ⟨p, 0, none⟩)) I _ S.length w3 HT3.out.two0.lens Hout.out).mono ?_
            rintro r4 w4 ⟨rfl, hw4⟩
            have hb4' : Below w3.heap.size w3 w4 := (by rw [hw4]; exact flt_below w3 I 5)
            have HT4 := hide (HT3.out.below hb4')
            have HC4 : Hid (Chain w4 [(w3.heap.size, ⟨#[100, 105, 115, 107]⟩, I)] (ptr w3) (.iface 33 (.int .i64 5))) := (by rw [hw4]; exact flt_chain w3 I 5)
            clear hb4' hw4
            have hi4 : w4.cell? ⟨wr.heap.size, 1, none⟩ = some (.int .i64 I) := (by simp [World.cell?, HT4.out.obj])
            have hb4 : w4.cell? ⟨wr.heap.size, 3, none⟩ = some (.string B) := (by simp [World.cell?, HT4.out.obj])
            refine hK.out _ _ ⟨hi4, hb4⟩ (fun hHeld => ?_)
            clear hK K
            clear hHeld
            refine wpAnyH_ready (rs := [7]) (by kernel_rfl) (by simp) ?_
            refine AllReadyH.cons (o := ⟨some 62, _, _, _, _, _⟩) rfl (fun K hK => ?_) AllReadyH.nil
            go_simp
            refine (Code_any _ _ _ 5 w4 (Hty.out.below HT4.out.size Hty.out.lt) HC4.out (Or.inr rfl) (by simp)).mono ?_
            rintro r5 w5 ⟨rfl, hb5'⟩
            have HT5 := hide (HT4.out.below hb5')
            have hi5 : w5.cell? ⟨wr.heap.size, 1, none⟩ = some (.int .i64 I) := (by simp [World.cell?, HT5.out.obj])
            have hb5 : w5.cell? ⟨wr.heap.size, 3, none⟩ = some (.string B) := (by simp [World.cell?, HT5.out.obj])
            clear hb5'
            refine hK.out _ _ ⟨hi5, hb5⟩ (fun hHeld => ?_)
            clear hK K
            clear hHeld
            refine wpAnyH_ready (rs := [13]) (by kernel_rfl) (by simp) ?_
            refine AllReadyH.cons (o := ⟨some 68, _, _, _, _, _⟩) rfl (fun K hK => ?_) AllReadyH.nil
            go_simp
            refine (Two0.rwrite_out HT5.out.two0 Hout.out).mono ?_
            rintro r6 w6 ⟨rfl, hw6⟩
            have HT6 : Hid (Two w p rr S L S L wr.heap.size _ w6) := (by rw [← hw6]; exact HT5.out)
            clear hw6
            have hi6 : w6.cell? ⟨wr.heap.size, 1, none⟩ = some (.int .i64 I) := (by simp [World.cell?, HT6.out.obj])
            have hb6 : w6.cell? ⟨wr.heap.size, 3, none⟩ = some (.string B) := (by simp [World.cell?, HT6.out.obj])
            refine hK.out _ _ ⟨hi6, hb6⟩ (fun hHeld => ?_)
            clear hK K
            clear hHeld
            refine wpAnyH_take (i := 14) (oi := ⟨some 69, _, _, _, _, _⟩) (v := ?_) rfl (by kernel_rfl) (by kernel_rfl) (by kernel_rfl) (fun _ _ _ h => h) (Or.inl ⟨by rfl, ?_⟩) ⟨hi6, hb6⟩ ?_
            rotate_left 1
            · (intro w hSw; obtain ⟨hSw1, hSw2⟩ := hSw; go_simp; try with_reducible rfl)
            simp only [Act.put, List.setIfInBounds_toArray, List.set_cons_zero, List.set_cons_succ]
            refine wpAnyH_done (by kernel_rfl) ?_ _
            have HV := hide HT6.out.two0
            have HVd : Hid (Two0 w p rr S L S L w6.drew) := HV.out.below (Below.refl _ _).drew
            have HLo := hide (Two0.loose HVd.out)
            obtain ⟨_, _, Bv, dv, hrh⟩ := Two0.rheap HV.out
            have hrW : w6.cell? ⟨rr, 1, none⟩ = some (.slice Bv (L).length dv) := by simp [World.cell?, hrh]
            clear hrh HV
            go_wp2
            refine wp_region_any (by kernel_rfl) ?_
            change wpAny _ _ _ _ _ _ _ (World.drew _)
            refine wpAny_take (i := 0) (oi := ⟨some 112, _, _, _, _, _⟩) (v := ?_) rfl (by kernel_rfl) (by kernel_rfl) (by kernel_rfl) (fun _ _ _ h => h) (Or.inl ⟨by rfl, ?_⟩) ?_
            rotate_left 1
            · (intro w; go_simp; try with_reducible rfl)
            simp only [Act.put, List.setIfInBounds_toArray, List.set_cons_zero, List.set_cons_succ]
            refine wpAny_take (i := 2) (oi := ⟨some 114, _, _, _, _, _⟩) (v := ?_) rfl (by kernel_rfl) (by kernel_rfl) (by kernel_rfl) (fun _ _ _ h => h) (Or.inl ⟨by rfl, ?_⟩) ?_
            rotate_left 1
            · (intro w; go_simp; try with_reducible rfl)
            simp only [Act.put, List.setIfInBounds_toArray, List.set_cons_zero, List.set_cons_succ]
            refine wpAny_take (i := 3) (oi := ⟨some 115, _, _, _, _, _⟩) (v := ?_) rfl (by kernel_rfl) (by kernel_rfl) (by kernel_rfl) (fun _ _ _ h => h) (Or.inl ⟨by rfl, ?_⟩) ?_
            rotate_left 1
            · (intro w; go_simp; try with_reducible rfl)
            simp only [Act.put, List.setIfInBounds_toArray, List.set_cons_zero, List.set_cons_succ]
            refine wpAny_take (i := 4) (oi := ⟨some 116, _, _, _, _, _⟩) (v := ?_) rfl (by kernel_rfl) (by kernel_rfl) (by kernel_rfl) (fun _ _ _ h => h) (Or.inl ⟨by rfl, ?_⟩) ?_
            rotate_left 1
            · (intro w; go_simp; try with_reducible rfl)
            simp only [Act.put, List.setIfInBounds_toArray, List.set_cons_zero, List.set_cons_succ]
            refine wpAny_ready (rs := [1, 5]) (by kernel_rfl) (by simp) ?_
            refine AllReady.cons (o := ⟨some 113, _, _, _, _, _⟩) rfl (fun K hK => ?_) (AllReady.cons (o := ⟨some 117, _, _, _, _, _⟩) rfl (fun K hK => ?_) AllReady.nil)
            · go_simp
              refine HLo.out.mono ?_
              rintro r9 v9 ⟨rfl, rfl⟩
              refine hK _ _ ?_
              clear hK K
              refine wpAny_ready (rs := [5]) (by kernel_rfl) (by simp) ?_
              refine AllReady.cons (o := ⟨some 117, _, _, _, _, _⟩) rfl (fun K hK => ?_) AllReady.nil
              go_simp
              refine hK _ _ ?_
              clear hK K
              refine wpAny_take (i := 6) (oi := ⟨some 118, _, _, _, _, _⟩) (v := ?_) rfl (by kernel_rfl) (by kernel_rfl) (by kernel_rfl) (fun _ _ _ h => h) (Or.inl ⟨by rfl, ?_⟩) ?_
              rotate_left 1
              · (intro w; go_simp; try with_reducible rfl)
              simp only [Act.put, List.setIfInBounds_toArray, List.set_cons_zero, List.set_cons_succ]
              refine wpAny_take (i := 7) (oi := ⟨some 119, _, _, _, _, _⟩) (v := ?_) rfl (by kernel_rfl) (by kernel_rfl) (by kernel_rfl) (fun _ _ _ h => h) (Or.inl ⟨by rfl, ?_⟩) ?_
              rotate_left 1
              · (intro w; go_simp; try with_reducible rfl)
              simp only [Act.put, List.setIfInBounds_toArray, List.set_cons_zero, List.set_cons_succ]
              refine wpAny_done (by kernel_rfl) ?_ _
              go_wp2
              go_roundw
              case rel => exact ⟨k + 1, _, _, Hlt.out, by go_num, HVd.out, HSv.out, HLv.out⟩
              case measure => have := Hlt.out; simp [intOf]; omega
            · go_simp
              refine hK _ _ ?_
              clear hK K
              refine wpAny_take (i := 6) (oi := ⟨some 118, _, _, _, _, _⟩) (v := ?_) rfl (by kernel_rfl) (by kernel_rfl) (by kernel_rfl) (fun _ _ _ h => h) (Or.inl ⟨by rfl, ?_⟩) ?_
              rotate_left 1
              · (intro w; go_simp; try with_reducible rfl)
              simp only [Act.put, List.setIfInBounds_toArray, List.set_cons_zero, List.set_cons_succ]
              refine wpAny_ready (rs := [1]) (by kernel_rfl) (by simp) ?_
              refine AllReady.cons (o := ⟨some 113, _, _, _, _, _⟩) rfl (fun K hK => ?_) AllReady.nil
              go_simp
              refine HLo.out.mono ?_
              rintro r9 v9 ⟨rfl, rfl⟩
              refine hK _ _ ?_
              clear hK K
              refine wpAny_take (i := 7) (oi := ⟨some 119, _, _, _, _, _⟩) (v := ?_) rfl (by kernel_rfl) (by kernel_rfl) (by kernel_rfl) (fun _ _ _ h => h) (Or.inl ⟨by rfl, ?_⟩) ?_
              rotate_left 1
              · (intro w; go_simp; try with_reducible rfl)
              simp only [Act.put, List.setIfInBounds_toArray, List.set_cons_zero, List.set_cons_succ]
              refine wpAny_done (by kernel_rfl) ?_ _
              go_wp2
              go_roundw
              case rel => exact ⟨k + 1, _, _, Hlt.out, by go_num, HVd.out, HSv.out, HLv.out⟩
              case measure => have := Hlt.out; simp [intOf]; omega
        · by_cases h2 : kd = 2
          · subst h2
            clear h1
            by_cases hin : 0 ≤ I ∧ I < (S.length : Int)
            · obtain ⟨i, rfl⟩ : ∃ i : Nat, I = (i : Int) := ⟨I.toNat, by omega⟩
              have Hin := hide (show i < S.length by omega)
              clear hin hx2
              obtain ⟨s, hs⟩ : ∃ s, (all S L)[i]? = some s := ⟨_, List.getElem?_eq_getElem (by rw [all_length]; exact Hin.out)⟩
              have Hs := hide hs
              have Hsl := hide (HT2.out.two0.full s (List.mem_of_getElem? hs))
              clear hs
              go_wp2_with fail
              refine (Two0.read HT2.out.two0 Hs.out Hin.out (by have := HL9.out; omega)).mono ?_
              rintro r w3 ⟨g3, rfl, hg3, hc3, hb3⟩
              have HT3 := hide (HT2.out.below hb3)
              have hrun := run_str w3 _ _ _ 64 64 Hsl.out (byt_row hc3.out)
              have hy1 : w3.cell? ⟨wr.heap.size, 1, none⟩ = some (.int .i64 (i : Int)) := by simp [World.cell?, HT3.out.obj]
              clear hg3 hc3 hb3 hx0 hx1
              go_wp2_with fail
              refine (Two0.rread HT3.out.two0 Hs.out Hin.out (by have := HL9.out; omega)).mono ?_
              rintro r w3' ⟨rfl, rfl⟩
              go_wp2_with fail
              refine (Code_any [] _ .nilIface 0 w3 (Hty.out.below HT3.out.size Hty.out.lt) rfl (Or.inl ⟨rfl, rfl⟩) (by simp)).mono ?_
              rintro r w5 ⟨rfl, hb5⟩
              have HT5 := hide (HT3.out.below hb5)
              clear hb5 hrun hy1
              have HV := hide HT5.out.two0
              have HVd : Hid (Two0 w p rr S L S L w5.drew) := HV.out.below (Below.refl _ _).drew
              have HLo := hide (Two0.loose HVd.out)
              obtain ⟨_, _, Bv, dv, hrh⟩ := Two0.rheap HV.out
              have hrW : w5.cell? ⟨rr, 1, none⟩ = some (.slice Bv (L).length dv) := by simp [World.cell?, hrh]
              clear hrh HV
              go_wp2
              refine wp_region_any (by kernel_rfl) ?_
              change wpAny _ _ _ _ _ _ _ (World.drew _)
              refine wpAny_take (i := 0) (oi := ⟨some 112, _, _, _, _, _⟩) (v := ?_) rfl (by kernel_rfl) (by kernel_rfl) (by kernel_rfl) (fun _ _ _ h => h) (Or.inl ⟨by rfl, ?_⟩) ?_
              rotate_left 1
              · (intro w; go_simp; try with_reducible rfl)
              simp only [Act.put, List.setIfInBounds_toArray, List.set_cons_zero, List.set_cons_succ]
              refine wpAny_take (i := 2) (oi := ⟨some 114, _, _, _, _, _⟩) (v := ?_) rfl (by kernel_rfl) (by kernel_rfl) (by kernel_rfl) (fun _ _ _ h => h) (Or.inl ⟨by rfl, ?_⟩) ?_
              rotate_left 1
              · (intro w; go_simp; try with_reducible rfl)
              simp only [Act.put, List.setIfInBounds_toArray, List.set_cons_zero, List.set_cons_succ]
              refine wpAny_take (i := 3) (oi := ⟨some 115, _, _, _, _, _⟩) (v := ?_) rfl (by kernel_rfl) (by kernel_rfl) (by kernel_rfl) (fun _ _ _ h => h) (Or.inl ⟨by rfl, ?_⟩) ?_
              rotate_left 1
              · (intro w; go_simp; try with_reducible rfl)
              simp only [Act.put, List.setIfInBounds_toArray, List.set_cons_zero, List.set_cons_succ]
              refine wpAny_take (i := 4) (oi := ⟨some 116, _, _, _, _, _⟩) (v := ?_) rfl (by kernel_rfl) (by kernel_rfl) (by kernel_rfl) (fun _ _ _ h => h) (Or.inl ⟨by rfl, ?_⟩) ?_
              rotate_left 1
              · (intro w; go_simp; try with_reducible rfl)
              simp only [Act.put, List.setIfInBounds_toArray, List.set_cons_zero, List.set_cons_succ]
              refine wpAny_ready (rs := [1, 5]) (by kernel_rfl) (by simp) ?_
              refine AllReady.cons (o := ⟨some 113, _, _, _, _, _⟩) rfl (fun K hK => ?_) (AllReady.cons (o := ⟨some 117, _, _, _, _, _⟩) rfl (fun K hK => ?_) AllReady.nil)
              · go_simp
                refine HLo.out.mono ?_
                rintro r9 v9 ⟨rfl, rfl⟩
                refine hK _ _ ?_
                clear hK K
                refine wpAny_ready (rs := [5]) (by kernel_rfl) (by simp) ?_
                refine AllReady.cons (o := ⟨some 117, _, _, _, _, _⟩) rfl (fun K hK => ?_) AllReady.nil
                go_simp
                refine hK _ _ ?_
                clear hK K
                refine wpAny_take (i := 6) (oi := ⟨some 118, _, _, _, _, _⟩) (v := ?_) rfl (by kernel_rfl) (by kernel_rfl) (by kernel_rfl) (fun _ _ _ h => h) (Or.inl ⟨by rfl, ?_⟩) ?_
                rotate_left 1
                · (intro w; go_simp; try with_reducible rfl)
                simp only [Act.put, List.setIfInBounds_toArray, List.set_cons_zero, List.set_cons_succ]
                refine wpAny_take (i := 7) (oi := ⟨some 119, _, _, _, _, _⟩) (v := ?_) rfl (by kernel_rfl) (by kernel_rfl) (by kernel_rfl) (fun _ _ _ h => h) (Or.inl ⟨by rfl, ?_⟩) ?_
                rotate_left 1
                · (intro w; go_simp; try with_reducible rfl)
                simp only [Act.put, List.setIfInBounds_toArray, List.set_cons_zero, List.set_cons_succ]
                refine wpAny_done (by kernel_rfl) ?_ _
                go_wp2
                go_roundw
                case rel => exact ⟨k + 1, _, _, Hlt.out, by go_num, HVd.out, HSv.out, HLv.out⟩
                case measure => have := Hlt.out; simp [intOf]; omega
              · go_simp
                refine hK _ _ ?_
                clear hK K
                refine wpAny_take (i := 6) (oi := ⟨some 118, _, _, _, _, _⟩) (v := ?_) rfl (by kernel_rfl) (by kernel_rfl) (by kernel_rfl) (fun _ _ _ h => h) (Or.inl ⟨by rfl, ?_⟩) ?_
                rotate_left 1
                · (intro w; go_simp; try with_reducible rfl)
                simp only [Act.put, List.setIfInBounds_toArray, List.set_cons_zero, List.set_cons_succ]
                refine wpAny_ready (rs := [1]) (by kernel_rfl) (by simp) ?_
                refine AllReady.cons (o := ⟨some 113, _, _, _, _, _⟩) rfl (fun K hK => ?_) AllReady.nil
                go_simp
                refine HLo.out.mono ?_
                rintro r9 v9 ⟨rfl, rfl⟩
                refine hK _ _ ?_
                clear hK K
                refine wpAny_take (i := 7) (oi := ⟨some 119, _, _, _, _, _⟩) (v := ?_) rfl (by kernel_rfl) (by kernel_rfl) (by kernel_rfl) (fun _ _ _ h => h) (Or.inl ⟨by rfl, ?_⟩) ?_
                rotate_left 1
                · (intro w; go_simp; try with_reducible rfl)
                simp only [Act.put, List.setIfInBounds_toArray, List.set_cons_zero, List.set_cons_succ]
                refine wpAny_done (by kernel_rfl) ?_ _
                go_wp2
                go_roundw
                case rel => exact ⟨k + 1, _, _, Hlt.out, by go_num, HVd.out, HSv.out, HLv.out⟩
                case measure => have := Hlt.out; simp [intOf]; omega
            · have Hout := hide hin
              clear hin hx2
              go_wp2_with fail
              refine (Read_out (.pointer (some ⟨p, 0, none⟩)) I S.length w2 HT2.out.two0.lens Hout.out).mono ?_
              rintro r w3 ⟨rfl, hw3⟩
              have hb3 : Below w2.heap.size w2 w3 := by rw [hw3]; exact flt_below w2 I 5
              have HT3 := hide (HT2.out.below hb3)
              have HC3 : Hid (Chain w3 [(w2.heap.size, ⟨#[100, 105, 115, 107]⟩, I)] (ptr w2) (.iface 33 (.int .i64 5))) := by rw [hw3]; exact flt_chain w2 I 5
              have hrun : (convert 38 9 (.slice none 0 0)).run Tryd.prog w3 = .ok (.string ⟨#[]⟩) w3 := run_str w3 0 none [] 0 0 rfl Byt.nil
              have hy1 : w3.cell? ⟨wr.heap.size, 1, none⟩ = some (.int .i64 I) := by simp [World.cell?, HT3.out.obj]
              clear hw3 hb3 hx0 hx1
              go_wp2_with fail
              refine (Two0.rread_out HT3.out.two0 Hout.out).mono ?_
              rintro r w3' ⟨rfl, rfl⟩
              go_wp2_with fail
              refine (Code_any _ _ _ 5 w3 (Hty.out.below HT3.out.size Hty.out.lt) HC3.out (Or.inr rfl) (by simp)).mono ?_
              rintro r w5 ⟨rfl, hb5⟩
              have HT5 := hide (HT3.out.below hb5)
              clear hb5 hrun hy1 HC3
              have HV := hide HT5.out.two0
              have HVd : Hid (Two0 w p rr S L S L w5.drew) := HV.out.below (Below.refl _ _).drew
              have HLo := hide (Two0.loose HVd.out)
              obtain ⟨_, _, Bv, dv, hrh⟩ := Two0.rheap HV.out
              have hrW : w5.cell? ⟨rr, 1, none⟩ = some (.slice Bv (L).length dv) := by simp [World.cell?, hrh]
              clear hrh HV
              go_wp2
              refine wp_region_any (by kernel_rfl) ?_
              change wpAny _ _ _ _ _ _ _ (World.drew _)
              refine wpAny_take (i := 0) (oi := ⟨some 112, _, _, _, _, _⟩) (v := ?_) rfl (by kernel_rfl) (by kernel_rfl) (by kernel_rfl) (fun _ _ _ h => h) (Or.inl ⟨by rfl, ?_⟩) ?_
              rotate_left 1
              · (intro w; go_simp; try with_reducible rfl)
              simp only [Act.put, List.setIfInBounds_toArray, List.set_cons_zero, List.set_cons_succ]
              refine wpAny_take (i := 2) (oi := ⟨some 114, _, _, _, _, _⟩) (v := ?_) rfl (by kernel_rfl) (by kernel_rfl) (by kernel_rfl) (fun _ _ _ h => h) (Or.inl ⟨by rfl, ?_⟩) ?_
              rotate_left 1
              · (intro w; go_simp; try with_reducible rfl)
              simp only [Act.put, List.setIfInBounds_toArray, List.set_cons_zero, List.set_cons_succ]
              refine wpAny_take (i := 3) (oi := ⟨some 115, _, _, _, _, _⟩) (v := ?_) rfl (by kernel_rfl) (by kernel_rfl) (by kernel_rfl) (fun _ _ _ h => h) (Or.inl ⟨by rfl, ?_⟩) ?_
              rotate_left 1
              · (intro w; go_simp; try with_reducible rfl)
              simp only [Act.put, List.setIfInBounds_toArray, List.set_cons_zero, List.set_cons_succ]
              refine wpAny_take (i := 4) (oi := ⟨some 116, _, _, _, _, _⟩) (v := ?_) rfl (by kernel_rfl) (by kernel_rfl) (by kernel_rfl) (fun _ _ _ h => h) (Or.inl ⟨by rfl, ?_⟩) ?_
              rotate_left 1
              · (intro w; go_simp; try with_reducible rfl)
              simp only [Act.put, List.setIfInBounds_toArray, List.set_cons_zero, List.set_cons_succ]
              refine wpAny_ready (rs := [1, 5]) (by kernel_rfl) (by simp) ?_
              refine AllReady.cons (o := ⟨some 113, _, _, _, _, _⟩) rfl (fun K hK => ?_) (AllReady.cons (o := ⟨some 117, _, _, _, _, _⟩) rfl (fun K hK => ?_) AllReady.nil)
              · go_simp
                refine HLo.out.mono ?_
                rintro r9 v9 ⟨rfl, rfl⟩
                refine hK _ _ ?_
                clear hK K
                refine wpAny_ready (rs := [5]) (by kernel_rfl) (by simp) ?_
                refine AllReady.cons (o := ⟨some 117, _, _, _, _, _⟩) rfl (fun K hK => ?_) AllReady.nil
                go_simp
                refine hK _ _ ?_
                clear hK K
                refine wpAny_take (i := 6) (oi := ⟨some 118, _, _, _, _, _⟩) (v := ?_) rfl (by kernel_rfl) (by kernel_rfl) (by kernel_rfl) (fun _ _ _ h => h) (Or.inl ⟨by rfl, ?_⟩) ?_
                rotate_left 1
                · (intro w; go_simp; try with_reducible rfl)
                simp only [Act.put, List.setIfInBounds_toArray, List.set_cons_zero, List.set_cons_succ]
                refine wpAny_take (i := 7) (oi := ⟨some 119, _, _, _, _, _⟩) (v := ?_) rfl (by kernel_rfl) (by kernel_rfl) (by kernel_rfl) (fun _ _ _ h => h) (Or.inl ⟨by rfl, ?_⟩) ?_
                rotate_left 1
                · (intro w; go_simp; try with_reducible rfl)
                simp only [Act.put, List.setIfInBounds_toArray, List.set_cons_zero, List.set_cons_succ]
                refine wpAny_done (by kernel_rfl) ?_ _
                go_wp2
                go_roundw
                case rel => exact ⟨k + 1, _, _, Hlt.out, by go_num, HVd.out, HSv.out, HLv.out⟩
                case measure => have := Hlt.out; simp [intOf]; omega
              · go_simp
                refine hK _ _ ?_
                clear hK K
                refine wpAny_take (i := 6) (oi := ⟨some 118, _, _, _, _, _⟩) (v := ?_) rfl (by kernel_rfl) (by kernel_rfl) (by kernel_rfl) (fun _ _ _ h => h) (Or.inl ⟨by rfl, ?_⟩) ?_
                rotate_left 1
                · (intro w; go_simp; try with_reducible rfl)
                simp only [Act.put, List.setIfInBounds_toArray, List.set_cons_zero, List.set_cons_succ]
                refine wpAny_ready (rs := [1]) (by kernel_rfl) (by simp) ?_
                refine AllReady.cons (o := ⟨some 113, _, _, _, _, _⟩) rfl (fun K hK => ?_) AllReady.nil
                go_simp
                refine HLo.out.mono ?_
                rintro r9 v9 ⟨rfl, rfl⟩
                refine hK _ _ ?_
                clear hK K
                refine wpAny_take (i := 7) (oi := ⟨some 119, _, _, _, _, _⟩) (v := ?_) rfl (by kernel_rfl) (by kernel_rfl) (by kernel_rfl) (fun _ _ _ h => h) (Or.inl ⟨by rfl, ?_⟩) ?_
                rotate_left 1
                · (intro w; go_simp; try with_reducible rfl)
                simp only [Act.put, List.setIfInBounds_toArray, List.set_cons_zero, List.set_cons_succ]
                refine wpAny_done (by kernel_rfl) ?_ _
                go_wp2
                go_roundw
                case rel => exact ⟨k + 1, _, _, Hlt.out, by go_num, HVd.out, HSv.out, HLv.out⟩
                case measure => have := Hlt.out; simp [intOf]; omega
          · by_cases h3 : kd = 3
            · subst h3
              clear h1 h2 hx1 hx2
              go_wp2_with fail
              refine (Two.flush HT2.out (by have := HL9.out; omega)).mono ?_
              rintro r w3 ⟨rfl, ht3⟩
              have HT3 := hide ht3
              clear ht3 hx0
              go_wp2_with fail
              refine (Two.rflush HT3.out (by have := HL9.out; omega)).mono ?_
              rintro r w4 ⟨rfl, ht4⟩
              have HT4 := hide ht4
              have HSv := hide (show (all S L).length = n by rw [all_length]; exact HSv.out)
              have HLv := hide (show ([] : List Wr).length ≤ k + 1 by simp)
              clear ht4
              have HV := hide HT4.out.two0
              have HVd : Hid (Two0 w p rr (all S L) ([] : List Wr) (all S L) ([] : List Wr) w4.drew) := HV.out.below (Below.refl _ _).drew
              have HLo := hide (Two0.loose HVd.out)
              obtain ⟨_, _, Bv, dv, hrh⟩ := Two0.rheap HV.out
              have hrW : w4.cell? ⟨rr, 1, none⟩ = some (.slice Bv (([] : List Wr)).length dv) := by simp [World.cell?, hrh]
              clear hrh HV
              go_wp2
              refine wp_region_any (by kernel_rfl) ?_
              change wpAny _ _ _ _ _ _ _ (World.drew _)
              refine wpAny_take (i := 0) (oi := ⟨some 112, _, _, _, _, _⟩) (v := ?_) rfl (by kernel_rfl) (by kernel_rfl) (by kernel_rfl) (fun _ _ _ h => h) (Or.inl ⟨by rfl, ?_⟩) ?_
              rotate_left 1
              · (intro w; go_simp; try with_reducible rfl)
              simp only [Act.put, List.setIfInBounds_toArray, List.set_cons_zero, List.set_cons_succ]
              refine wpAny_take (i := 2) (oi := ⟨some 114, _, _, _, _, _⟩) (v := ?_) rfl (by kernel_rfl) (by kernel_rfl) (by kernel_rfl) (fun _ _ _ h => h) (Or.inl ⟨by rfl, ?_⟩) ?_
              rotate_left 1
              · (intro w; go_simp; try with_reducible rfl)
              simp only [Act.put, List.setIfInBounds_toArray, List.set_cons_zero, List.set_cons_succ]
              refine wpAny_take (i := 3) (oi := ⟨some 115, _, _, _, _, _⟩) (v := ?_) rfl (by kernel_rfl) (by kernel_rfl) (by kernel_rfl) (fun _ _ _ h => h) (Or.inl ⟨by rfl, ?_⟩) ?_
              rotate_left 1
              · (intro w; go_simp; try with_reducible rfl)
              simp only [Act.put, List.setIfInBounds_toArray, List.set_cons_zero, List.set_cons_succ]
              refine wpAny_take (i := 4) (oi := ⟨some 116, _, _, _, _, _⟩) (v := ?_) rfl (by kernel_rfl) (by kernel_rfl) (by kernel_rfl) (fun _ _ _ h => h) (Or.inl ⟨by rfl, ?_⟩) ?_
              rotate_left 1
              · (intro w; go_simp; try with_reducible rfl)
              simp only [Act.put, List.setIfInBounds_toArray, List.set_cons_zero, List.set_cons_succ]
              refine wpAny_ready (rs := [1, 5]) (by kernel_rfl) (by simp) ?_
              refine AllReady.cons (o := ⟨some 113, _, _, _, _, _⟩) rfl (fun K hK => ?_) (AllReady.cons (o := ⟨some 117, _, _, _, _, _⟩) rfl (fun K hK => ?_) AllReady.nil)
              · go_simp
                refine HLo.out.mono ?_
                rintro r9 v9 ⟨rfl, rfl⟩
                refine hK _ _ ?_
                clear hK K
                refine wpAny_ready (rs := [5]) (by kernel_rfl) (by simp) ?_
                refine AllReady.cons (o := ⟨some 117, _, _, _, _, _⟩) rfl (fun K hK => ?_) AllReady.nil
                go_simp
                refine hK _ _ ?_
                clear hK K
                refine wpAny_take (i := 6) (oi := ⟨some 118, _, _, _, _, _⟩) (v := ?_) rfl (by kernel_rfl) (by kernel_rfl) (by kernel_rfl) (fun _ _ _ h => h) (Or.inl ⟨by rfl, ?_⟩) ?_
                rotate_left 1
                · (intro w; go_simp; try with_reducible rfl)
                simp only [Act.put, List.setIfInBounds_toArray, List.set_cons_zero, List.set_cons_succ]
                refine wpAny_take (i := 7) (oi := ⟨some 119, _, _, _, _, _⟩) (v := ?_) rfl (by kernel_rfl) (by kernel_rfl) (by kernel_rfl) (fun _ _ _ h => h) (Or.inl ⟨by rfl, ?_⟩) ?_
                rotate_left 1
                · (intro w; go_simp; try with_reducible rfl)
                simp only [Act.put, List.setIfInBounds_toArray, List.set_cons_zero, List.set_cons_succ]
                refine wpAny_done (by kernel_rfl) ?_ _
                go_wp2
                go_roundw
                case rel => exact ⟨k + 1, _, _, Hlt.out, by go_num, HVd.out, HSv.out, HLv.out⟩
                case measure => have := Hlt.out; simp [intOf]; omega
              · go_simp
                refine hK _ _ ?_
                clear hK K
                refine wpAny_take (i := 6) (oi := ⟨some 118, _, _, _, _, _⟩) (v := ?_) rfl (by kernel_rfl) (by kernel_rfl) (by kernel_rfl) (fun _ _ _ h => h) (Or.inl ⟨by rfl, ?_⟩) ?_
                rotate_left 1
                · (intro w; go_simp; try with_reducible rfl)
                simp only [Act.put, List.setIfInBounds_toArray, List.set_cons_zero, List.set_cons_succ]
                refine wpAny_ready (rs := [1]) (by kernel_rfl) (by simp) ?_
                refine AllReady.cons (o := ⟨some 113, _, _, _, _, _⟩) rfl (fun K hK => ?_) AllReady.nil
                go_simp
                refine HLo.out.mono ?_
                rintro r9 v9 ⟨rfl, rfl⟩
                refine hK _ _ ?_
                clear hK K
                refine wpAny_take (i := 7) (oi := ⟨some 119, _, _, _, _, _⟩) (v := ?_) rfl (by kernel_rfl) (by kernel_rfl) (by kernel_rfl) (fun _ _ _ h => h) (Or.inl ⟨by rfl, ?_⟩) ?_
                rotate_left 1
                · (intro w; go_simp; try with_reducible rfl)
                simp only [Act.put, List.setIfInBounds_toArray, List.set_cons_zero, List.set_cons_succ]
                refine wpAny_done (by kernel_rfl) ?_ _
                go_wp2
                go_roundw
                case rel => exact ⟨k + 1, _, _, Hlt.out, by go_num, HVd.out, HSv.out, HLv.out⟩
                case measure => have := Hlt.out; simp [intOf]; omega
            · by_cases h4 : kd = 4
              · subst h4
                clear h1 h2 h3 hx1
                go_wp2_with fail
                refine (Two.crash HT2.out HKb.out (by have := HL9.out; omega)).mono ?_
                rintro r w3 ⟨rfl, ht3⟩
                have HT3 := hide ht3
                have hy2 : w3.cell? ⟨wr.heap.size, 2, none⟩ = some (.int .u64 K) := by simp [World.cell?, ht3.obj]
                clear ht3 hx0 hx2
                go_wp2_with fail
                refine (Two.rcrash HT3.out HKb.out (by have := HL9.out; omega)).mono ?_
                rintro r w4 ⟨rfl, ht4⟩
                have HT4 := hide ht4
                have HSv := hide (show (crash K 0 L S).length = n by rw [crash_length]; exact HSv.out)
                have HLv := hide (show ([] : List Wr).length ≤ k + 1 by simp)
                clear ht4 hy2
                have HV := hide HT4.out.two0
                have HVd : Hid (Two0 w p rr (crash K 0 L S) ([] : List Wr) (crash K 0 L S) ([] : List Wr) w4.drew) := HV.out.below (Below.refl _ _).drew
                have HLo := hide (Two0.loose HVd.out)
                obtain ⟨_, _, Bv, dv, hrh⟩ := Two0.rheap HV.out
                have hrW : w4.cell? ⟨rr, 1, none⟩ = some (.slice Bv (([] : List Wr)).length dv) := by simp [World.cell?, hrh]
                clear hrh HV
                go_wp2
                refine wp_region_any (by kernel_rfl) ?_
                change wpAny _ _ _ _ _ _ _ (World.drew _)
                refine wpAny_take (i := 0) (oi := ⟨some 112, _, _, _, _, _⟩) (v := ?_) rfl (by kernel_rfl) (by kernel_rfl) (by kernel_rfl) (fun _ _ _ h => h) (Or.inl ⟨by rfl, ?_⟩) ?_
                rotate_left 1
                · (intro w; go_simp; try with_reducible rfl)
                simp only [Act.put, List.setIfInBounds_toArray, List.set_cons_zero, List.set_cons_succ]
                refine wpAny_take (i := 2) (oi := ⟨some 114, _, _, _, _, _⟩) (v := ?_) rfl (by kernel_rfl) (by kernel_rfl) (by kernel_rfl) (fun _ _ _ h => h) (Or.inl ⟨by rfl, ?_⟩) ?_
                rotate_left 1
                · (intro w; go_simp; try with_reducible rfl)
                simp only [Act.put, List.setIfInBounds_toArray, List.set_cons_zero, List.set_cons_succ]
                refine wpAny_take (i := 3) (oi := ⟨some 115, _, _, _, _, _⟩) (v := ?_) rfl (by kernel_rfl) (by kernel_rfl) (by kernel_rfl) (fun _ _ _ h => h) (Or.inl ⟨by rfl, ?_⟩) ?_
                rotate_left 1
                · (intro w; go_simp; try with_reducible rfl)
                simp only [Act.put, List.setIfInBounds_toArray, List.set_cons_zero, List.set_cons_succ]
                refine wpAny_take (i := 4) (oi := ⟨some 116, _, _, _, _, _⟩) (v := ?_) rfl (by kernel_rfl) (by kernel_rfl) (by kernel_rfl) (fun _ _ _ h => h) (Or.inl ⟨by rfl, ?_⟩) ?_
                rotate_left 1
                · (intro w; go_simp; try with_reducible rfl)
                simp only [Act.put, List.setIfInBounds_toArray, List.set_cons_zero, List.set_cons_succ]
                refine wpAny_ready (rs := [1, 5]) (by kernel_rfl) (by simp) ?_
                refine AllReady.cons (o := ⟨some 113, _, _, _, _, _⟩) rfl (fun K hK => ?_) (AllReady.cons (o := ⟨some 117, _, _, _, _, _⟩) rfl (fun K hK => ?_) AllReady.nil)
                · go_simp
                  refine HLo.out.mono ?_
                  rintro r9 v9 ⟨rfl, rfl⟩
                  refine hK _ _ ?_
                  clear hK K
                  refine wpAny_ready (rs := [5]) (by kernel_rfl) (by simp) ?_
                  refine AllReady.cons (o := ⟨some 117, _, _, _, _, _⟩) rfl (fun K hK => ?_) AllReady.nil
                  go_simp
                  refine hK _ _ ?_
                  clear hK K
                  refine wpAny_take (i := 6) (oi := ⟨some 118, _, _, _, _, _⟩) (v := ?_) rfl (by kernel_rfl) (by kernel_rfl) (by kernel_rfl) (fun _ _ _ h => h) (Or.inl ⟨by rfl, ?_⟩) ?_
                  rotate_left 1
                  · (intro w; go_simp; try with_reducible rfl)
                  simp only [Act.put, List.setIfInBounds_toArray, List.set_cons_zero, List.set_cons_succ]
                  refine wpAny_take (i := 7) (oi := ⟨some 119, _, _, _, _, _⟩) (v := ?_) rfl (by kernel_rfl) (by kernel_rfl) (by kernel_rfl) (fun _ _ _ h => h) (Or.inl ⟨by rfl, ?_⟩) ?_
                  rotate_left 1
                  · (intro w; go_simp; try with_reducible rfl)
                  simp only [Act.put, List.setIfInBounds_toArray, List.set_cons_zero, List.set_cons_succ]
                  refine wpAny_done (by kernel_rfl) ?_ _
                  go_wp2
                  go_roundw
                  case rel => exact ⟨k + 1, _, _, Hlt.out, by go_num, HVd.out, HSv.out, HLv.out⟩
                  case measure => have := Hlt.out; simp [intOf]; omega
                · go_simp
                  refine hK _ _ ?_
                  clear hK K
                  refine wpAny_take (i := 6) (oi := ⟨some 118, _, _, _, _, _⟩) (v := ?_) rfl (by kernel_rfl) (by kernel_rfl) (by kernel_rfl) (fun _ _ _ h => h) (Or.inl ⟨by rfl, ?_⟩) ?_
                  rotate_left 1
                  · (intro w; go_simp; try with_reducible rfl)
                  simp only [Act.put, List.setIfInBounds_toArray, List.set_cons_zero, List.set_cons_succ]
                  refine wpAny_ready (rs := [1]) (by kernel_rfl) (by simp) ?_
                  refine AllReady.cons (o := ⟨some 113, _, _, _, _, _⟩) rfl (fun K hK => ?_) AllReady.nil
                  go_simp
                  refine HLo.out.mono ?_
                  rintro r9 v9 ⟨rfl, rfl⟩
                  refine hK _ _ ?_
                  clear hK K
                  refine wpAny_take (i := 7) (oi := ⟨some 119, _, _, _, _, _⟩) (v := ?_) rfl (by kernel_rfl) (by kernel_rfl) (by kernel_rfl) (fun _ _ _ h => h) (Or.inl ⟨by rfl, ?_⟩) ?_
                  rotate_left 1
                  · (intro w; go_simp; try with_reducible rfl)
                  simp only [Act.put, List.setIfInBounds_toArray, List.set_cons_zero, List.set_cons_succ]
                  refine wpAny_done (by kernel_rfl) ?_ _
                  go_wp2
                  go_roundw
                  case rel => exact ⟨k + 1, _, _, Hlt.out, by go_num, HVd.out, HSv.out, HLv.out⟩
                  case measure => have := Hlt.out; simp [intOf]; omega
              · clear hx1 hx2
                have HV := hide HT2.out.two0
                have HVd : Hid (Two0 w p rr S L S L w2.drew) := HV.out.below (Below.refl _ _).drew
                have HLo := hide (Two0.loose HVd.out)
                obtain ⟨_, _, Bv, dv, hrh⟩ := Two0.rheap HV.out
                have hrW : w2.cell? ⟨rr, 1, none⟩ = some (.slice Bv (L).length dv) := by simp [World.cell?, hrh]
                clear hrh HV
                go_wp2
                refine wp_region_any (by kernel_rfl) ?_
                change wpAny _ _ _ _ _ _ _ (World.drew _)
                refine wpAny_take (i := 0) (oi := ⟨some 112, _, _, _, _, _⟩) (v := ?_) rfl (by kernel_rfl) (by kernel_rfl) (by kernel_rfl) (fun _ _ _ h => h) (Or.inl ⟨by rfl, ?_⟩) ?_
                rotate_left 1
                · (intro w; go_simp; try with_reducible rfl)
                simp only [Act.put, List.setIfInBounds_toArray, List.set_cons_zero, List.set_cons_succ]
                refine wpAny_take (i := 2) (oi := ⟨some 114, _, _, _, _, _⟩) (v := ?_) rfl (by kernel_rfl) (by kernel_rfl) (by kernel_rfl) (fun _ _ _ h => h) (Or.inl ⟨by rfl, ?_⟩) ?_
                rotate_left 1
                · (intro w; go_simp; try with_reducible rfl)
                simp only [Act.put, List.setIfInBounds_toArray, List.set_cons_zero, List.set_cons_succ]
                refine wpAny_take (i := 3) (oi := ⟨some 115, _, _, _, _, _⟩) (v := ?_) rfl (by kernel_rfl) (by kernel_rfl) (by kernel_rfl) (fun _ _ _ h => h) (Or.inl ⟨by rfl, ?_⟩) ?_
                rotate_left 1
                · (intro w; go_simp; try with_reducible rfl)
                simp only [Act.put, List.setIfInBounds_toArray, List.set_cons_zero, List.set_cons_succ]
                refine wpAny_take (i := 4) (oi := ⟨some 116, _, _, _, _, _⟩) (v := ?_) rfl (by kernel_rfl) (by kernel_rfl) (by kernel_rfl) (fun _ _ _ h => h) (Or.inl ⟨by rfl, ?_⟩) ?_
                rotate_left 1
                · (intro w; go_simp; try with_reducible rfl)
                simp only [Act.put, List.setIfInBounds_toArray, List.set_cons_zero, List.set_cons_succ]
                refine wpAny_ready (rs := [1, 5]) (by kernel_rfl) (by simp) ?_
                refine AllReady.cons (o := ⟨some 113, _, _, _, _, _⟩) rfl (fun K hK => ?_) (AllReady.cons (o := ⟨some 117, _, _, _, _, _⟩) rfl (fun K hK => ?_) AllReady.nil)
                · go_simp
                  refine HLo.out.mono ?_
                  rintro r9 v9 ⟨rfl, rfl⟩
                  refine hK _ _ ?_
                  clear hK K
                  refine wpAny_ready (rs := [5]) (by kernel_rfl) (by simp) ?_
                  refine AllReady.cons (o := ⟨some 117, _, _, _, _, _⟩) rfl (fun K hK => ?_) AllReady.nil
                  go_simp
                  refine hK _ _ ?_
                  clear hK K
                  refine wpAny_take (i := 6) (oi := ⟨some 118, _, _, _, _, _⟩) (v := ?_) rfl (by kernel_rfl) (by kernel_rfl) (by kernel_rfl) (fun _ _ _ h => h) (Or.inl ⟨by rfl, ?_⟩) ?_
                  rotate_left 1
                  · (intro w; go_simp; try with_reducible rfl)
                  simp only [Act.put, List.setIfInBounds_toArray, List.set_cons_zero, List.set_cons_succ]
                  refine wpAny_take (i := 7) (oi := ⟨some 119, _, _, _, _, _⟩) (v := ?_) rfl (by kernel_rfl) (by kernel_rfl) (by kernel_rfl) (fun _ _ _ h => h) (Or.inl ⟨by rfl, ?_⟩) ?_
                  rotate_left 1
                  · (intro w; go_simp; try with_reducible rfl)
                  simp only [Act.put, List.setIfInBounds_toArray, List.set_cons_zero, List.set_cons_succ]
                  refine wpAny_done (by kernel_rfl) ?_ _
                  go_wp2
                  go_roundw
                  case rel => exact ⟨k + 1, _, _, Hlt.out, by go_num, HVd.out, HSv.out, HLv.out⟩
                  case measure => have := Hlt.out; simp [intOf]; omega
                · go_simp
                  refine hK _ _ ?_
                  clear hK K
                  refine wpAny_take (i := 6) (oi := ⟨some 118, _, _, _, _, _⟩) (v := ?_) rfl (by kernel_rfl) (by kernel_rfl) (by kernel_rfl) (fun _ _ _ h => h) (Or.inl ⟨by rfl, ?_⟩) ?_
                  rotate_left 1
                  · (intro w; go_simp; try with_reducible rfl)
                  simp only [Act.put, List.setIfInBounds_toArray, List.set_cons_zero, List.set_cons_succ]
                  refine wpAny_ready (rs := [1]) (by kernel_rfl) (by simp) ?_
                  refine AllReady.cons (o := ⟨some 113, _, _, _, _, _⟩) rfl (fun K hK => ?_) AllReady.nil
                  go_simp
                  refine HLo.out.mono ?_
                  rintro r9 v9 ⟨rfl, rfl⟩
                  refine hK _ _ ?_
                  clear hK K
                  refine wpAny_take (i := 7) (oi := ⟨some 119, _, _, _, _, _⟩) (v := ?_) rfl (by kernel_rfl) (by kernel_rfl) (by kernel_rfl) (fun _ _ _ h => h) (Or.inl ⟨by rfl, ?_⟩) ?_
                  rotate_left 1
                  · (intro w; go_simp; try with_reducible rfl)
                  simp only [Act.put, List.setIfInBounds_toArray, List.set_cons_zero, List.set_cons_succ]
                  refine wpAny_done (by kernel_rfl) ?_ _
                  go_wp2
                  go_roundw
                  case rel => exact ⟨k + 1, _, _, Hlt.out, by go_num, HVd.out, HSv.out, HLv.out⟩
                  case measure => have := Hlt.out; simp [intOf]; omega
      · obtain rfl : k = m := by omega
        have Hn := hide hSn.out
        have HL9 := hide (show L.length ≤ 1000000 by have := hLk.out; omega)
        have HT := hide htwo.out
        clear htwo hSn hLk hm150 hk hge
        go_wp2
        go_loopw [122] (fun j wr => ∃ i : Nat, i ≤ n ∧ j = .int .i64 i ∧ Hid (Two0 w p rr S L S L wr)) (fun j _ => n - (intOf j).toNat)
        case atStart => exact ⟨0, Nat.zero_le _, rfl, HT.out⟩
        case round =>
          clear HT
          obtain ⟨i, hi, rfl, htwo⟩ := hrel
          have hn20 := Hn20.out
          rcases Nat.lt_or_ge i n with hlt | hge
          · have Hlt := hide hlt
            have hii : (i : Int) < 20 := by omega
            have hin : (i : Int) < (n : Int) := by omega
            have Hin := hide (show i < S.length by rw [Hn.out]; exact hlt)
            obtain ⟨s, hs⟩ : ∃ s, (all S L)[i]? = some s := ⟨_, List.getElem?_eq_getElem (by rw [all_length]; exact Hin.out)⟩
            have Hs := hide hs
            have Hsl := hide (htwo.out.full s (List.mem_of_getElem? hs))
            have HT2 := hide htwo.out
            clear hs htwo hlt hi hn20
            go_wp2_with fail
            refine (Two0.read HT2.out Hs.out Hin.out HL9.out).mono ?_
            rintro r w3 ⟨g3, rfl, hg3, hc3, hb3⟩
            have HT3 := hide (HT2.out.below hb3)
            have hrun := run_str w3 _ _ _ 64 64 Hsl.out (byt_row hc3.out)
            clear hg3 hc3 hb3
            go_wp2_with fail
            refine (Two0.rread HT3.out Hs.out Hin.out HL9.out).mono ?_
            rintro r w3' ⟨rfl, rfl⟩
            go_wp2
            go_roundw
            case rel => exact ⟨i + 1, Hlt.out, by go_num, HT3.out⟩
            case measure => have := Hlt.out; simp [intOf]; omega
          · obtain rfl : i = n := by omega
            have HB9 := hide htwo.out.size
            clear htwo hi hge hn20
            go_wp2
            go_ret
            exact ⟨rfl, HB9.out⟩

end Go.Proofs.YthdgidfdjnfpiaaDoor.Dk
