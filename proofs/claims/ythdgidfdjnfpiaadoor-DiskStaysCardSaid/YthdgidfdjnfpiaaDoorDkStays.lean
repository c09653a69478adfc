/-
  DiskStays at every input: it returns true, and changes nothing that was there. Condition: the library's variable errors.errorType holds its own type's handle.
-/
import Derived.Test.YthdgidfdjnfpiaaDoorDkImage
namespace Go.Proofs.YthdgidfdjnfpiaaDoor.Dk
open Go.RowKit
open Pk Sm Fa

theorem extract_str (l : List UInt8) : (str l).extract 0 512 = str (l.take 512) := by
  show (ByteArray.mk l.toArray).extract 0 512 = _
  rw [ByteArray.extract_mk]
  rfl
def S16 : List Sec := List.replicate 16 zero
theorem S16_length : S16.length = 16 := List.length_replicate

set_option maxRecDepth 100000 in
set_option maxHeartbeats 8000000 in
theorem Stays_any (A : Option Addr) (m c : Nat) (l : List Oq) (A2 : Option Addr) (m2 c2 : Nat) (l2 : List Oq) (K : Nat) (w : World) (hty : Ety w) (hl : l.length = m) (hp : Ops w w.heap.size A l) (hf : OFits l) (hl2 : l2.length = m2) (hp2 : Ops w w.heap.size A2 l2) (hf2 : OFits l2) (hK : K < 18446744073709551616) :
    Calls Tryd.prog 5 #[.slice A m c, .slice A2 m2 c2, .int .u64 K] w fun r w' => r = .returned (.bool true) ∧ Below w.heap.size w w' := by
  have HA := hide (awake_any w hty)
  have Hty := hide hty
  have Hl := hide hl
  have Hp := hide hp
  have Hf := hide hf
  have Hl2 := hide hl2
  have Hp2 := hide hp2
  have Hf2 := hide hf2
  have HK := hide hK
  clear hty hl hp hf hl2 hp2 hf2 hK
  go_enter Tryd.func5, Tryd.ntmps5
  go_wp2_with fail
  refine HA.out.mono ?_
  rintro r w1 ⟨rfl, hb1⟩
  have HB1 := hide hb1
  have HFw := hide (few_any A m c l w1 Hl.out ((Hp.out.below hb1).more1 hb1.size) Hf.out)
  have HFw2 := hide (few_any A2 m2 c2 l2 w1 Hl2.out ((Hp2.out.below hb1).more1 hb1.size) Hf2.out)
  have HAw := hide (awake_any w1 (Hty.out.below HB1.out Hty.out.lt))
  clear HA hb1
  go_wp2_with fail
  refine HFw.out.mono ?_
  rintro r w1' ⟨⟨bb, rfl, hbb⟩, rfl⟩
  have Hbb := hide hbb
  clear hbb HFw
  cases bb with
  | false =>
    go_wp2_with fail
    refine HAw.out.mono ?_
    rintro r w2 ⟨rfl, hb2⟩
    have HB2 := hide (HB1.out.trans (hb2.mono HB1.out.size))
    clear HAw hb2
    go_wp2
    go_ret
    exact ⟨rfl, HB2.out⟩
  | true =>
    have Hm := hide (show m ≤ 150 by rw [← Hl.out]; exact (Hbb.out.1 rfl).1)
    clear Hbb
    go_wp2_with fail
    refine HFw2.out.mono ?_
    rintro r w1'' ⟨⟨bb, rfl, hbb⟩, rfl⟩
    have Hbb := hide hbb
    clear hbb HFw2
    cases bb with
    | false =>
      go_wp2_with fail
      refine HAw.out.mono ?_
      rintro r w2 ⟨rfl, hb2⟩
      have HB2 := hide (HB1.out.trans (hb2.mono HB1.out.size))
      clear HAw hb2
      go_wp2
      go_ret
      exact ⟨rfl, HB2.out⟩
    | true =>
      have Hm2 := hide (show m2 ≤ 150 by rw [← Hl2.out]; exact (Hbb.out.1 rfl).1)
      clear Hbb HAw
      go_wp2_with fail
      refine (New_any 16 16 w1 (by decide)).mono ?_
      intro r w2 hm2
      obtain ⟨p, C2, rfl, a2, _, hf2, hb2, hc2⟩ := At.fresh (C := none0) (i := 0) (B := w.heap.size) hm2 (none0_ne 0) (none0_from _) HB1.out.size
      have HB2 := hide (HB1.out.trans (hb2.mono HB1.out.size))
      have Ha2 := hide a2
      have HF2 := hide hf2
      have HC2 := hide (show ∀ k j, C2 k = some j → j = 0 from fun k j h => by rcases hc2 k j h with h | h; exact h; cases h)
      clear hm2 a2 hf2 hb2 hc2
      go_wp2_with fail
      refine (New_any 16 16 w2 (by decide)).mono ?_
      intro r w3 hm3
      obtain ⟨q, C3, rfl, a3, ho3, hf3, hb3, hc3⟩ := At.fresh (i := 1) (B := w.heap.size) hm3 (fun k h => by cases HC2.out k 1 h) HF2.out HB2.out.size
      have HB3 := hide (HB2.out.trans (hb3.mono HB2.out.size))
      have Ha3 := hide a3
      have Hp3 := hide (ho3 0 p _ _ (by decide) Ha2.out)
      have HF3 := hide hf3
      have HC3 := hide (show ∀ k j, C3 k = some j → j < 2 from fun k j h => by
        rcases hc3 k j h with h | h
        · omega
        · have := HC2.out k j h; omega)
      clear hm3 a3 ho3 hf3 hb3 hc3 Ha2 HF2 HC2
      go_wp2_with fail
      refine (New_any 16 16 w3 (by decide)).mono ?_
      intro r w4 hm4
      obtain ⟨o, C4, rfl, a4, ho4, hf4, hb4, hc4⟩ := At.fresh (i := 2) (B := w.heap.size) hm4 (fun k h => by have := HC3.out k 2 h; omega) HF3.out HB3.out.size
      have HT4 : Hid (Tri w p q o S16 [] S16 [] S16 [] w4) := ⟨C4, ho4 0 p _ _ (by decide) Hp3.out, ho4 1 q _ _ (by decide) Ha3.out, a4, hf4, fun k j h => by
        rcases hc4 k j h with h | h
        · omega
        · have := HC3.out k j h; omega, HB3.out.trans (hb4.mono HB3.out.size)⟩
      clear hm4 a4 ho4 hf4 hb4 hc4 Ha3 Hp3 HF3 HC3 HB1 HB2 HB3
      go_wp2
      go_loopw [47] (fun j wr => ∃ (k : Nat) (Ld La Ln : List Wr), k ≤ m ∧ j = .int .i64 k ∧ Hid (Tri w p q o S16 Ld S16 La S16 Ln wr) ∧ Hid (Ld.length ≤ k ∧ La.length ≤ k ∧ Ln.length ≤ k)) (fun j _ => m - (intOf j).toNat)
      case atStart => exact ⟨0, [], [], [], Nat.zero_le _, rfl, HT4.out, ⟨Nat.le_refl _, Nat.le_refl _, Nat.le_refl _⟩⟩
      case round =>
        obtain ⟨k, Ld, La, Ln, hk, rfl, htri, hlens⟩ := hrel
        have hm150 := Hm.out
        rcases Nat.lt_or_ge k m with hlt | hge
        · have Hlt := hide hlt
          have hki : (k : Int) < 150 := by omega
          have hkm : (k : Int) < (m : Int) := by omega
          obtain ⟨e, he⟩ : ∃ e, l[k]? = some e := ⟨_, List.getElem?_eq_getElem (by rw [Hl.out]; exact hlt)⟩
          obtain ⟨b, ob, rfl, hbl, hcell⟩ := Hp.out (by rintro rfl; simp at he)
          obtain ⟨_, hc1, _, _⟩ := hcell k e he
          have Hblt := hide hbl
          have Hc1 := hide hc1
          obtain ⟨kk, hk15, hkk⟩ : ∃ kk : Nat, bits .and .i64 e.2.1 15 = (kk : Int) ∧ kk < 16 := ⟨(e.2.1 % 16).toNat, by rw [i64_and15]; omega, by omega⟩
          obtain ⟨k8, hk7, hk8⟩ : ∃ k8 : Nat, bits .and .i64 (kk : Int) 7 = (k8 : Int) ∧ k8 < 8 := ⟨kk % 8, by rw [i64_and7]; omega, by omega⟩
          obtain ⟨k88, hk88⟩ : ∃ k88 : Nat, 8 + (k8 : Int) = (k88 : Int) := ⟨8 + k8, by omega⟩
          have Hkk := hide hkk
          have Hk8 := hide hk8
          have Hk88 := hide (show 8 ≤ k88 ∧ k88 < 16 by omega)
          have hki8 : (k8 : Int) < 8 := by omega
          clear he hcell hbl hlt hk hm150 hc1 hkk hk8
          have hmod : ((k : Int) + 1) % 256 = (k : Int) + 1 := by omega
          have Hlb := hide (show Ld.length ≤ 900000 ∧ La.length ≤ 900000 ∧ Ln.length ≤ 900000 by have := hlens.out; have := Hlt.out; have := Hm.out; omega)
          go_wp2_with fail
          refine (full_any (UInt8.ofNat (k + 1)) _ _ (by rw [ofNat8 _ (by have := Hlt.out; have := Hm.out; omega)]; omega)).mono ?_
          rintro r w5 ⟨gx, rfl, hgx, hcx, hb5⟩
          have HX5 := hide (htri.out.row hb5 hgx hcx)
          have hx1 : w5.cell? ⟨b, ob + k * 4 + 1, none⟩ = some (.int .i64 e.2.1) := (HX5.out.size.cell (p := ⟨b, ob + k * 4 + 1, none⟩) Hblt.out).trans Hc1.out
          clear htri hgx hcx hb5
          go_wp2_with fail
          refine (TriX.write0 HX5.out (fl_length _) (by rw [S16_length]; have := Hk8.out; omega) Hlb.out.1).mono ?_
          rintro r w6 ⟨rfl, hx6⟩
          have HX6 := hide hx6
          clear hx6 HX5 hx1
          go_wp2_with fail
          refine (TriX.write1 HX6.out (fl_length _) (by rw [S16_length]; exact Hkk.out) Hlb.out.2.1).mono ?_
          rintro r w7 ⟨rfl, hx7⟩
          have HX7 := hide hx7
          clear hx7 HX6
          go_wp2_with fail
          refine (TriX.write2 HX7.out (fl_length _) (by rw [S16_length]; exact Hkk.out) Hlb.out.2.2).mono ?_
          rintro r w8 ⟨rfl, hx8⟩
          have HX8 := hide hx8.tri
          have Hl8 := hide (show (Ld ++ [(k8, fl (UInt8.ofNat (k + 1)))]).length ≤ k + 1 ∧ (La ++ [(kk, fl (UInt8.ofNat (k + 1)))]).length ≤ k + 1 ∧ (Ln ++ [(kk, fl (UInt8.ofNat (k + 1)))]).length ≤ k + 1 by have := hlens.out; simp; omega)
          clear hx8 HX7 hlens
          go_wp2
          go_roundw
          case rel => exact ⟨k + 1, _, _, _, Hlt.out, by go_num, HX8.out, Hl8.out⟩
          case measure => have := Hlt.out; simp [intOf]; omega
        · obtain rfl : k = m := by omega
          have Hlb := hide (show Ld.length ≤ 1000000 ∧ La.length ≤ 150 ∧ Ln.length ≤ 1000000 by have := hlens.out; omega)
          have HT0 := hide htri.out
          clear htri hlens hm150 hk hge
          go_wp2_with fail
          refine (Tri.flush0 HT0.out Hlb.out.1).mono ?_
          rintro r w5 ⟨rfl, ht5⟩
          have HT5 := hide ht5
          clear ht5 HT0
          go_wp2_with fail
          refine (Tri.flush2 HT5.out Hlb.out.2.2).mono ?_
          rintro r w6 ⟨rfl, ht6⟩
          obtain ⟨Sd, hSd⟩ : ∃ Sd, all S16 Ld = Sd := ⟨_, rfl⟩
          obtain ⟨Sn, hSn⟩ : ∃ Sn, all S16 Ln = Sn := ⟨_, rfl⟩
          have HSd := hide (show Sd.length = 16 by rw [← hSd, all_length, S16_length])
          have HSn := hide (show Sn.length = 16 by rw [← hSn, all_length, S16_length])
          rw [hSd, hSn] at ht6
          have HT6 := hide ht6
          clear ht6 HT5 hSd hSn
          go_wp2_with fail
          refine (Tri.image0 HT6.out HSd.out (by simp)).mono ?_
          rintro r w7 ⟨rfl, hb7⟩
          have HT7 := hide (HT6.out.below hb7)
          clear hb7 HT6
          go_wp2_with fail
          refine (Tri.image2 HT7.out HSn.out (by simp)).mono ?_
          rintro r w8 ⟨rfl, hb8⟩
          have HT8 := hide (HT7.out.below hb8)
          obtain ⟨sd, hsd⟩ : ∃ sd, img Sd [] = sd := ⟨_, rfl⟩
          obtain ⟨sn, hsn⟩ : ∃ sn, img Sn [] = sn := ⟨_, rfl⟩
          rw [hsd, hsn]
          have Hsd := hide hsd
          have Hsn := hide hsn
          clear hb8 HT7 hsd hsn
          go_wp2
          go_loopw [91] (fun j wr => ∃ (i : Nat) (Ld La Ln : List Wr), i ≤ m2 ∧ j = .int .i64 i ∧ Hid (Tri w p q o Sd Ld S16 La Sn Ln wr) ∧ Hid (Ld.length ≤ i ∧ La.length ≤ 150 + i ∧ Ln.length ≤ i) ∧ Hid (∀ x ∈ Ld, 8 ≤ x.1)) (fun j _ => m2 - (intOf j).toNat)
          case atStart => exact ⟨0, [], La, [], Nat.zero_le _, rfl, HT8.out, ⟨Nat.le_refl _, Hlb.out.2.1, Nat.le_refl _⟩, fun x hx => by cases hx⟩
          case round =>
            clear HT8 Hlb
            obtain ⟨i, Ld, La, Ln, hk, rfl, htri, hlens, hall⟩ := hrel
            have hm150 := Hm2.out
            rcases Nat.lt_or_ge i m2 with hlt | hge
            · have Hlt := hide hlt
              have hki : (i : Int) < 150 := by omega
              have hkm : (i : Int) < (m2 : Int) := by omega
              obtain ⟨e, he⟩ : ∃ e, l2[i]? = some e := ⟨_, List.getElem?_eq_getElem (by rw [Hl2.out]; exact hlt)⟩
              obtain ⟨b, ob, rfl, hbl, hcell⟩ := Hp2.out (by rintro rfl; simp at he)
              obtain ⟨_, hc1, _, _⟩ := hcell i e he
              have Hblt := hide hbl
              have Hc1 := hide hc1
              obtain ⟨kk, hk15, hkk⟩ : ∃ kk : Nat, bits .and .i64 e.2.1 15 = (kk : Int) ∧ kk < 16 := ⟨(e.2.1 % 16).toNat, by rw [i64_and15]; omega, by omega⟩
              obtain ⟨k8, hk7, hk8⟩ : ∃ k8 : Nat, bits .and .i64 (kk : Int) 7 = (k8 : Int) ∧ k8 < 8 := ⟨kk % 8, by rw [i64_and7]; omega, by omega⟩
              obtain ⟨k88, hk88⟩ : ∃ k88 : Nat, 8 + (k8 : Int) = (k88 : Int) := ⟨8 + k8, by omega⟩
              have Hkk := hide hkk
              have Hk8 := hide hk8
              have Hk88 := hide (show 8 ≤ k88 ∧ k88 < 16 by omega)
              have hki8 : (k8 : Int) < 8 := by omega
              clear he hcell hbl hlt hk hm150 hc1 hkk hk8
              have hmod : (100 + (i : Int)) % 256 = 100 + (i : Int) := by omega
              have Hlb := hide (show Ld.length ≤ 900000 ∧ La.length ≤ 900000 ∧ Ln.length ≤ 900000 by have := hlens.out; have := Hlt.out; have := Hm2.out; omega)
              go_wp2_with fail
              refine (full_any (UInt8.ofNat (100 + i)) _ _ (by rw [ofNat8 _ (by have := Hlt.out; have := Hm2.out; omega)]; omega)).mono ?_
              rintro r w5 ⟨gx, rfl, hgx, hcx, hb5⟩
              have HX5 := hide (htri.out.row hb5 hgx hcx)
              have hx1 : w5.cell? ⟨b, ob + i * 4 + 1, none⟩ = some (.int .i64 e.2.1) := (HX5.out.size.cell (p := ⟨b, ob + i * 4 + 1, none⟩) Hblt.out).trans Hc1.out
              clear htri hgx hcx hb5
              go_wp2_with fail
              refine (TriX.write0 HX5.out (fl_length _) (by rw [HSd.out]; exact Hk88.out.2) Hlb.out.1).mono ?_
              rintro r w6 ⟨rfl, hx6⟩
              have HX6 := hide hx6
              clear hx6 HX5 hx1
              go_wp2_with fail
              refine (TriX.write1 HX6.out (fl_length _) (by rw [S16_length]; exact Hkk.out) Hlb.out.2.1).mono ?_
              rintro r w7 ⟨rfl, hx7⟩
              have HX7 := hide hx7
              clear hx7 HX6
              go_wp2_with fail
              refine (TriX.write2 HX7.out (fl_length _) (by rw [HSn.out]; exact Hkk.out) Hlb.out.2.2).mono ?_
              rintro r w8 ⟨rfl, hx8⟩
              have HX8 := hide hx8.tri
              have Hl8 := hide (show (Ld ++ [(k88, fl (UInt8.ofNat (100 + i)))]).length ≤ i + 1 ∧ (La ++ [(kk, fl (UInt8.ofNat (100 + i)))]).length ≤ 150 + (i + 1) ∧ (Ln ++ [(kk, fl (UInt8.ofNat (100 + i)))]).length ≤ i + 1 by have := hlens.out; simp; omega)
              have Ha8 := hide (show ∀ x ∈ Ld ++ [(k88, fl (UInt8.ofNat (100 + i)))], 8 ≤ x.1 from fun x hx => by
                rcases List.mem_append.1 hx with hx | hx
                · exact hall.out x hx
                · rw [List.mem_singleton.1 hx]; exact Hk88.out.1)
              clear hx8 HX7 hlens hall
              go_wp2
              go_roundw
              case rel => exact ⟨i + 1, _, _, _, Hlt.out, by go_num, HX8.out, Hl8.out, Ha8.out⟩
              case measure => have := Hlt.out; simp [intOf]; omega
            · obtain rfl : i = m2 := by omega
              have Hlb := hide (show Ld.length ≤ 1000000 ∧ La.length ≤ 1000000 ∧ Ln.length ≤ 1000000 by have := hlens.out; omega)
              have HT0 := hide htri.out
              clear htri hlens hm150 hk hge
              go_wp2_with fail
              refine (Tri.image1 HT0.out S16_length Hlb.out.2.1).mono ?_
              rintro r w5 ⟨rfl, hb5⟩
              have HT5 := hide (HT0.out.below hb5)
              clear hb5
              go_wp2_with fail
              refine (Tri.crash0 HT5.out HK.out Hlb.out.1).mono ?_
              rintro r w6 ⟨rfl, ht6⟩
              have HT6 := hide ht6
              clear ht6 HT5
              go_wp2_with fail
              refine (Tri.crash1 (K := 18446744073709551615) HT6.out (by decide) Hlb.out.2.1).mono ?_
              rintro r w7 ⟨rfl, ht7⟩
              rw [crash_all] at ht7
              have HT7 := hide ht7
              clear ht7 HT6
              go_wp2_with fail
              refine (Tri.crash2 (K := 0) HT7.out (by decide) Hlb.out.2.2).mono ?_
              rintro r w8 ⟨rfl, ht8⟩
              rw [crash_zero] at ht8
              have HTr := hide ht8
              have HT : Hid (Tri w p q o (crash K 0 Ld Sd) [] (all S16 La) [] Sn [] w8.drew) := ht8.below (Below.refl _ _).drew
              have Htk := hide (show (img (crash K 0 Ld Sd) []).take 512 = sd.take 512 from by
                rw [← Hsd.out]
                exact img_take ht8.full0.1 HT0.out.full0.1 (by rw [crash_length]; exact HSd.out) HSd.out (fun j hj => crash_other (fun x hx => by have := hall.out x hx; omega)))
              have HSd' := hide (show (crash K 0 Ld Sd).length = 16 by rw [crash_length]; exact HSd.out)
              have HSa := hide (show (all S16 La).length = 16 by rw [all_length, S16_length])
              have Hima : Hid (img (all S16 La) [] = img S16 La) := rfl
              have Himn := Hsn
              have hls : (sd.length : Int) = 2048 := by
                rw [← Hsd.out, img_length HT0.out.full0.1 (n := 0) (fun x hx => by cases hx), HSd.out]
                rfl
              have hlc : ((img (crash K 0 Ld Sd) []).length : Int) = 2048 := by
                rw [img_length ht8.full0.1 (n := 0) (fun x hx => by cases hx), HSd'.out]
                rfl
              have hcut1 : ∀ W : World, (Instr.slice 9 (.string (str (img (crash K 0 Ld Sd) []))) none (some (.int .i64 512)) none).run Tryd.prog W = .ok (.string (str (sd.take 512))) W := fun W => by
                rw [← Htk.out, ← extract_str]
                have hh : (512 : Int) ≤ ((str (img (crash K 0 Ld Sd) [])).size : Int) := by rw [str_size]; omega
                go_simp
              have hcut2 : ∀ W : World, (Instr.slice 9 (.string (str sd)) none (some (.int .i64 512)) none).run Tryd.prog W = .ok (.string (str (sd.take 512))) W := fun W => by
                rw [← extract_str]
                have hh : (512 : Int) ≤ ((str sd).size : Int) := by rw [str_size]; omega
                go_simp
              clear ht8 HT7 HT0 hls hlc HSd
              have HSd := HSd'
              clear HSd'
              go_wp2
              refine wp_region_any (by kernel_rfl) ?_
              change wpAny _ _ _ _ _ _ _ (World.drew _)
              refine wpAny_take (i := 0) (oi := ⟨some 128, _, _, _, _, _⟩) (v := ?_) rfl (by kernel_rfl) (by kernel_rfl) (by kernel_rfl) (fun _ _ _ h => h) (Or.inl ⟨by rfl, ?_⟩) ?_
              rotate_left 1
              · (intro w; go_simp; try with_reducible rfl)
              simp only [Act.put, List.setIfInBounds_toArray, List.set_cons_zero, List.set_cons_succ]
              refine wpAny_take (i := 3) (oi := ⟨some 131, _, _, _, _, _⟩) (v := ?_) rfl (by kernel_rfl) (by kernel_rfl) (by kernel_rfl) (fun _ _ _ h => h) (Or.inl ⟨by rfl, ?_⟩) ?_
              rotate_left 1
              · (intro w; go_simp; try with_reducible rfl)
              simp only [Act.put, List.setIfInBounds_toArray, List.set_cons_zero, List.set_cons_succ]
              refine wpAny_take (i := 4) (oi := ⟨some 132, _, _, _, _, _⟩) (v := ?_) rfl (by kernel_rfl) (by kernel_rfl) (by kernel_rfl) (fun _ _ _ h => h) (Or.inl ⟨by rfl, ?_⟩) ?_
              rotate_left 1
              · (intro w; go_simp; try with_reducible rfl)
              simp only [Act.put, List.setIfInBounds_toArray, List.set_cons_zero, List.set_cons_succ]
              refine wpAny_ready (rs := [1]) (by kernel_rfl) (by simp) ?_
              refine AllReady.cons (o := ⟨some 129, _, _, _, _, _⟩) rfl (fun K hK => ?_) AllReady.nil
              go_simp
              refine (Tri.image0 HT.out HSd.out (by simp)).mono ?_
              rintro r v1 ⟨rfl, hb1⟩
              have HV1 := hide (drew_below hb1)
              clear hb1
              refine hK _ _ ?_
              clear hK K
              refine wpAny_take (i := 2) (oi := ⟨some 130, _, _, _, _, _⟩) (v := ?_) rfl (by kernel_rfl) (by kernel_rfl) (by kernel_rfl) (fun _ _ _ h => h) (Or.inl ⟨by rfl, ?_⟩) ?_
              rotate_left 1
              · (intro w; go_simp; try with_reducible rfl)
              simp only [Act.put, List.setIfInBounds_toArray, List.set_cons_zero, List.set_cons_succ]
              refine wpAny_take (i := 5) (oi := ⟨some 133, _, _, _, _, _⟩) (v := ?_) rfl (by kernel_rfl) (by kernel_rfl) (by kernel_rfl) (fun _ _ _ h => h) (Or.inl ⟨by rfl, ?_⟩) ?_
              rotate_left 1
              · (intro w; go_simp; try with_reducible rfl)
              simp only [Act.put, List.setIfInBounds_toArray, List.set_cons_zero, List.set_cons_succ]
              refine wpAny_take (i := 6) (oi := ⟨some 134, _, _, _, _, _⟩) (v := ?_) rfl (by kernel_rfl) (by kernel_rfl) (by kernel_rfl) (fun _ _ _ h => h) (Or.inl ⟨by rfl, ?_⟩) ?_
              rotate_left 1
              · (intro w; go_simp; try with_reducible rfl)
              simp only [Act.put, List.setIfInBounds_toArray, List.set_cons_zero, List.set_cons_succ]
              refine wpAny_take (i := 7) (oi := ⟨some 135, _, _, _, _, _⟩) (v := ?_) rfl (by kernel_rfl) (by kernel_rfl) (by kernel_rfl) (fun _ _ _ h => h) (Or.inl ⟨by rfl, ?_⟩) ?_
              rotate_left 1
              · (intro w; go_simp; try with_reducible rfl)
              simp only [Act.put, List.setIfInBounds_toArray, List.set_cons_zero, List.set_cons_succ]
              refine wpAny_take (i := 9) (oi := ⟨some 137, _, _, _, _, _⟩) (v := ?_) rfl (by kernel_rfl) (by kernel_rfl) (by kernel_rfl) (fun _ _ _ h => h) (Or.inl ⟨by rfl, ?_⟩) ?_
              rotate_left 1
              · (intro w; go_simp; try with_reducible rfl)
              simp only [Act.put, List.setIfInBounds_toArray, List.set_cons_zero, List.set_cons_succ]
              refine wpAny_ready (rs := [8]) (by kernel_rfl) (by simp) ?_
              refine AllReady.cons (o := ⟨some 136, _, _, _, _, _⟩) rfl (fun K hK => ?_) AllReady.nil
              go_simp
              refine (Tri.image1 (HTr.out.below HV1.out) HSa.out (by simp)).mono ?_
              rintro r v2 ⟨rfl, hb2⟩
              rw [Hima.out]
              have HV2 := hide (HV1.out.trans (hb2.mono HV1.out.size))
              clear hb2
              refine hK _ _ ?_
              clear hK K
              refine wpAny_take (i := 10) (oi := ⟨some 138, _, _, _, _, _⟩) (v := ?_) rfl (by kernel_rfl) (by kernel_rfl) (by kernel_rfl) (fun _ _ _ h => h) (Or.inl ⟨by rfl, ?_⟩) ?_
              rotate_left 1
              · (intro w; go_simp; try with_reducible rfl)
              simp only [Act.put, List.setIfInBounds_toArray, List.set_cons_zero, List.set_cons_succ]
              refine wpAny_take (i := 11) (oi := ⟨some 139, _, _, _, _, _⟩) (v := ?_) rfl (by kernel_rfl) (by kernel_rfl) (by kernel_rfl) (fun _ _ _ h => h) (Or.inl ⟨by rfl, ?_⟩) ?_
              rotate_left 1
              · (intro w; go_simp; try with_reducible rfl)
              simp only [Act.put, List.setIfInBounds_toArray, List.set_cons_zero, List.set_cons_succ]
              refine wpAny_take (i := 12) (oi := ⟨some 140, _, _, _, _, _⟩) (v := ?_) rfl (by kernel_rfl) (by kernel_rfl) (by kernel_rfl) (fun _ _ _ h => h) (Or.inl ⟨by rfl, ?_⟩) ?_
              rotate_left 1
              · (intro w; go_simp; try with_reducible rfl)
              simp only [Act.put, List.setIfInBounds_toArray, List.set_cons_zero, List.set_cons_succ]
              refine wpAny_take (i := 13) (oi := ⟨some 141, _, _, _, _, _⟩) (v := ?_) rfl (by kernel_rfl) (by kernel_rfl) (by kernel_rfl) (fun _ _ _ h => h) (Or.inl ⟨by rfl, ?_⟩) ?_
              rotate_left 1
              · (intro w; go_simp; try with_reducible rfl)
              simp only [Act.put, List.setIfInBounds_toArray, List.set_cons_zero, List.set_cons_succ]
              refine wpAny_take (i := 15) (oi := ⟨some 143, _, _, _, _, _⟩) (v := ?_) rfl (by kernel_rfl) (by kernel_rfl) (by kernel_rfl) (fun _ _ _ h => h) (Or.inl ⟨by rfl, ?_⟩) ?_
              rotate_left 1
              · (intro w; go_simp; try with_reducible rfl)
              simp only [Act.put, List.setIfInBounds_toArray, List.set_cons_zero, List.set_cons_succ]
              refine wpAny_ready (rs := [14]) (by kernel_rfl) (by simp) ?_
              refine AllReady.cons (o := ⟨some 142, _, _, _, _, _⟩) rfl (fun K hK => ?_) AllReady.nil
              go_simp
              refine (Tri.image2 (HTr.out.below HV2.out) HSn.out (by simp)).mono ?_
              rintro r v3 ⟨rfl, hb3⟩
              rw [Himn.out]
              have HV3 := hide (HV2.out.trans (hb3.mono HV2.out.size))
              clear hb3
              refine hK _ _ ?_
              clear hK K
              refine wpAny_take (i := 16) (oi := ⟨some 144, _, _, _, _, _⟩) (v := ?_) rfl (by kernel_rfl) (by kernel_rfl) (by kernel_rfl) (fun _ _ _ h => h) (Or.inl ⟨by rfl, ?_⟩) ?_
              rotate_left 1
              · (intro w; go_simp; try with_reducible rfl)
              simp only [Act.put, List.setIfInBounds_toArray, List.set_cons_zero, List.set_cons_succ]
              refine wpAny_take (i := 17) (oi := ⟨some 145, _, _, _, _, _⟩) (v := ?_) rfl (by kernel_rfl) (by kernel_rfl) (by kernel_rfl) (fun _ _ _ h => h) (Or.inl ⟨by rfl, ?_⟩) ?_
              rotate_left 1
              · (intro w; go_simp; try with_reducible rfl)
              simp only [Act.put, List.setIfInBounds_toArray, List.set_cons_zero, List.set_cons_succ]
              refine wpAny_take (i := 18) (oi := ⟨some 146, _, _, _, _, _⟩) (v := ?_) rfl (by kernel_rfl) (by kernel_rfl) (by kernel_rfl) (fun _ _ _ h => h) (Or.inl ⟨by rfl, ?_⟩) ?_
              rotate_left 1
              · (intro w; go_simp; try with_reducible rfl)
              simp only [Act.put, List.setIfInBounds_toArray, List.set_cons_zero, List.set_cons_succ]
              refine wpAny_take (i := 19) (oi := ⟨some 147, _, _, _, _, _⟩) (v := ?_) rfl (by kernel_rfl) (by kernel_rfl) (by kernel_rfl) (fun _ _ _ h => h) (Or.inl ⟨by rfl, ?_⟩) ?_
              rotate_left 1
              · (intro w; go_simp; try with_reducible rfl)
              simp only [Act.put, List.setIfInBounds_toArray, List.set_cons_zero, List.set_cons_succ]
              refine wpAny_take (i := 21) (oi := ⟨some 149, _, _, _, _, _⟩) (v := ?_) rfl (by kernel_rfl) (by kernel_rfl) (by kernel_rfl) (fun _ _ _ h => h) (Or.inl ⟨by rfl, ?_⟩) ?_
              rotate_left 1
              · (intro w; go_simp; try with_reducible rfl)
              simp only [Act.put, List.setIfInBounds_toArray, List.set_cons_zero, List.set_cons_succ]
              refine wpAny_take (i := 24) (oi := ⟨some 152, _, _, _, _, _⟩) (v := ?_) rfl (by kernel_rfl) (by kernel_rfl) (by kernel_rfl) (fun _ _ _ h => h) (Or.inl ⟨by rfl, ?_⟩) ?_
              rotate_left 1
              · (intro w; go_simp; try with_reducible rfl)
              simp only [Act.put, List.setIfInBounds_toArray, List.set_cons_zero, List.set_cons_succ]
              refine wpAny_ready (rs := [20]) (by kernel_rfl) (by simp) ?_
              refine AllReady.cons (o := ⟨some 148, _, _, _, _, _⟩) rfl (fun K hK => ?_) AllReady.nil
              go_simp
              refine (Tri.loose0 (HTr.out.below HV3.out)).mono ?_
              rintro r v3a ⟨rfl, rfl⟩
              refine hK _ _ ?_
              clear hK K
              refine wpAny_ready (rs := [22]) (by kernel_rfl) (by simp) ?_
              refine AllReady.cons (o := ⟨some 150, _, _, _, _, _⟩) rfl (fun K hK => ?_) AllReady.nil
              go_simp
              refine (Tri.loose1 (HTr.out.below HV3.out)).mono ?_
              rintro r v3b ⟨rfl, rfl⟩
              refine hK _ _ ?_
              clear hK K
              refine wpAny_take (i := 23) (oi := ⟨some 151, _, _, _, _, _⟩) (v := ?_) rfl (by kernel_rfl) (by kernel_rfl) (by kernel_rfl) (fun _ _ _ h => h) (Or.inl ⟨by rfl, ?_⟩) ?_
              rotate_left 1
              · (intro w; go_simp; try with_reducible rfl)
              simp only [Act.put, List.setIfInBounds_toArray, List.set_cons_zero, List.set_cons_succ]
              refine wpAny_ready (rs := [25]) (by kernel_rfl) (by simp) ?_
              refine AllReady.cons (o := ⟨some 153, _, _, _, _, _⟩) rfl (fun K hK => ?_) AllReady.nil
              go_simp
              refine (Tri.loose2 (HTr.out.below HV3.out)).mono ?_
              rintro r v3c ⟨rfl, rfl⟩
              refine hK _ _ ?_
              clear hK K
              refine wpAny_take (i := 26) (oi := ⟨some 154, _, _, _, _, _⟩) (v := ?_) rfl (by kernel_rfl) (by kernel_rfl) (by kernel_rfl) (fun _ _ _ h => h) (Or.inl ⟨by rfl, ?_⟩) ?_
              rotate_left 1
              · (intro w; go_simp; try with_reducible rfl)
              simp only [Act.put, List.setIfInBounds_toArray, List.set_cons_zero, List.set_cons_succ]
              refine wpAny_take (i := 27) (oi := ⟨some 155, _, _, _, _, _⟩) (v := ?_) rfl (by kernel_rfl) (by kernel_rfl) (by kernel_rfl) (fun _ _ _ h => h) (Or.inl ⟨by rfl, ?_⟩) ?_
              rotate_left 1
              · (intro w; go_simp; try with_reducible rfl)
              simp only [Act.put, List.setIfInBounds_toArray, List.set_cons_zero, List.set_cons_succ]
              refine wpAny_take (i := 28) (oi := ⟨some 156, _, _, _, _, _⟩) (v := ?_) rfl (by kernel_rfl) (by kernel_rfl) (by kernel_rfl) (fun _ _ _ h => h) (Or.inl ⟨by rfl, ?_⟩) ?_
              rotate_left 1
              · (intro w; go_simp; try with_reducible rfl)
              simp only [Act.put, List.setIfInBounds_toArray, List.set_cons_zero, List.set_cons_succ]
              refine wpAny_take (i := 29) (oi := ⟨some 6, _, _, _, _, _⟩) (v := ?_) rfl (by kernel_rfl) (by kernel_rfl) (by kernel_rfl) (fun _ _ _ h => h) (Or.inl ⟨by rfl, ?_⟩) ?_
              rotate_left 1
              · (intro w; go_simp; try with_reducible rfl)
              simp only [Act.put, List.setIfInBounds_toArray, List.set_cons_zero, List.set_cons_succ]
              refine wpAny_done (by kernel_rfl) ?_ _
              go_wp2
              go_ret
              exact ⟨rfl, HTr.out.size.trans (HV3.out.mono HTr.out.size.size)⟩

end Go.Proofs.YthdgidfdjnfpiaaDoor.Dk
