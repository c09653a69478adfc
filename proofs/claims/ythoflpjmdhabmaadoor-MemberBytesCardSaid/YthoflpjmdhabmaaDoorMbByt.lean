/-
  The contracts of code and decodeChange, and of Bytes of a group. Nothing that was there is changed.
-/
import Derived.Test.YthoflpjmdhabmaaDoorMbCode
import Derived.Test.YthoflpjmdhabmaaDoorMbPlay
import Derived.Test.YthoflpjmdhabmaaDoorPkLay
import Derived.Test.YthoflpjmdhabmaaDoorFaChain
import Derived.Laws.Rows
namespace Go.Proofs.YthoflpjmdhabmaaDoor.Mb
open Go.RowKit
open Pk Dk Wn Lk

set_option maxRecDepth 100000 in
theorem code_any (m : Int) (v : Nat) (r : Bool) (hv : v < 4) (w : World) : Calls Tryd.prog 39 #[.agg #[.int .i64 m, .int .i64 (v : Int), .bool r]] w fun e w' => e = .returned (.int .i64 ((code ⟨m, (v : Int), r⟩ : Nat) : Int)) ∧ Below w.heap.size w w' := by
  have HB : Hid (Below w.heap.size w (w.alloc (.cells #[.int .i64 m, .int .i64 (v : Int), .bool r] 70))) := (Below.refl _ _).alloc (Nat.le_refl _) _
  cases r with
  | true =>
    have HE : Hid (((code ⟨m, (v : Int), true⟩ : Nat) : Int) = 2 * (v : Int) + 1) := by unfold code; simp [Hid]
    go_enter Tryd.func39, Tryd.ntmps39
    go_wp2
    go_ret
    exact ⟨by rw [HE.out]; rfl, HB.out⟩
  | false =>
    have HE : Hid (((code ⟨m, (v : Int), false⟩ : Nat) : Int) = 2 * (v : Int)) := by unfold code; simp [Hid]
    go_enter Tryd.func39, Tryd.ntmps39
    go_wp2
    go_ret
    exact ⟨by rw [HE.out]; rfl, HB.out⟩
set_option maxRecDepth 100000 in
theorem decodeChange_any (m c : Nat) (_hc : c < 1152921504606846976) (w : World) : Calls Tryd.prog 54 #[.int .i64 (m : Int), .int .i64 (c : Int)] w fun e w' => e = .returned (.agg #[.int .i64 (chOf m c).m, .int .i64 (chOf m c).v, .bool (chOf m c).r]) ∧ Below w.heap.size w w' := by
  have HB : Hid (Below w.heap.size w (w.alloc (.cells #[.int .i64 (m : Int), .int .i64 ((c : Int) / 2), .bool ((c : Int) % 2 == 1)] 70))) := (Below.refl _ _).alloc (Nat.le_refl _) _
  have HE : Hid ((Value.agg #[.int .i64 (m : Int), .int .i64 ((c : Int) / 2), .bool ((c : Int) % 2 == 1)]) = .agg #[.int .i64 (chOf m c).m, .int .i64 (chOf m c).v, .bool (chOf m c).r]) := by
    have h1 : (chOf m c).m = (m : Int) := rfl
    have h2 : (chOf m c).v = (c : Int) / 2 := by show ((c / 2 : Nat) : Int) = _; omega
    have h3 : (chOf m c).r = ((c : Int) % 2 == 1) := by
      show (c % 2 == 1) = _
      rw [Bool.eq_iff_iff]
      simp only [beq_iff_eq]
      omega
    rw [h1, h2, h3]
    rfl
  go_enter Tryd.func54, Tryd.ntmps54
  go_wp2
  refine bodyPost_ret (v := .agg #[.int .i64 (m : Int), .int .i64 ((c : Int) / 2), .bool ((c : Int) % 2 == 1)]) (results_cell_row rfl _ _ w.heap.size 70 _ (0, 0) _ rfl (heap_alloc_new w _) Tryd.underlying70 rfl (by kernel_rfl)) rfl ⟨?_, HB.out⟩
  rw [HE.out]
theorem own_mono {w : World} {base B : Nat} {v : Value} {l : List UInt8} (h : Own w base v l) (hb : B ≤ base) : Own w B v l :=
  ⟨h.1, h.2.imp id fun ⟨g, cap, cur, e, hB, hr⟩ => ⟨g, cap, cur, e, Nat.le_trans hb hB, hr⟩⟩
theorem own_nil (w : World) : Own w w.heap.size (.slice none 0 0) [] := ⟨rfl, Or.inl ⟨rfl, rfl⟩⟩
/-- A number behind a row of the call's own. -/
theorem Number_own (v : Value) (l : List UInt8) (base : Nat) (n : Nat) (w : World) (ho : Own w base v l) (hl : l.length ≤ 100000) (hn : n < 1152921504606846976) :
    Calls Tryd.prog 38 #[v, .int .i64 (n : Int)] w fun e w' => ∃ v', e = .returned v' ∧ Own w' w.heap.size v' (l ++ enc n) ∧ Below w.heap.size w w' := by
  obtain ⟨A, c, rfl, h1, h2, hby⟩ := ho.form
  have := Number_any A l c (n : Int) w hby (by omega)
  rw [clamp_size n (by omega)] at this
  exact this
section
variable {w : World} {G : Nat → Prop} {p s : Nat} {M : List Ch}
set_option maxRecDepth 100000 in
set_option maxHeartbeats 8000000 in
theorem Bytes_any (h : (grpT p s M).P w G) (hF : Fine s M) (hs : s < 1152921504606846976) : Calls Tryd.prog 20 #[.pointer (some ⟨p, 0, none⟩)] w fun e w' => ∃ v, e = .returned v ∧ Own w' w.heap.size v (wrote s M) ∧ Below w.heap.size w w' := by
  obtain ⟨A, n, c, _, hn, hnc, hcm, hsr, hp, c0, c1, _⟩ := Grp.cells h
  have Hn := hide hn
  have HF := hide hF
  have Hsr := hide hsr
  have HC1 : Hid (∀ W, Below w.heap.size w W → W.cell? ⟨p, 1, none⟩ = some (.slice A n c)) := fun W hW => (hW.cell (p := ⟨p, 1, none⟩) hp).trans c1
  have HN1 := hide (Number_own _ _ _ s w (own_nil w) (by simp) hs)
  have hn100 : n ≤ 100 := by rw [hn]; exact hF.len
  have Hn100 := hide hn100
  have hni : (n : Int) ≤ 100 := by omega
  have HL : Hid (∀ k, k ≤ n → (enc s ++ enc n ++ (M.take k).flatMap wch).length ≤ 1818) := fun k hk => by
    have h1 := enc_le s
    have h2 := enc_le n
    have h3 := flat_le (M.take k)
    have h4 := List.length_take_le k M
    rw [List.length_append, List.length_append]
    omega
  clear h hF hs hn hnc hcm hsr hp c1 hn100
  go_enter Tryd.func20, Tryd.ntmps20
  go_wp2_with fail
  refine HN1.out.mono ?_
  rintro e w1 ⟨v1, rfl, hO, hb⟩
  have HB1 := hide hb
  have HO1 := hide hO
  have c1 := HC1.out _ hb
  clear HN1 hO hb
  go_wp2_with fail
  refine (Number_own v1 _ _ n w1 HO1.out (by have := enc_le s; simp; omega) (by have := Hn100.out; omega)).mono ?_
  rintro e w2 ⟨v2, rfl, hO, hb⟩
  have HB2 := hide (HB1.out.trans (hb.mono HB1.out.size))
  have HO2 := hide (own_mono hO HB1.out.size)
  have c1 := HC1.out _ HB2.out
  clear hO hb HO1 HB1
  go_wp2_with fail
  go_loopw [3, 25] (fun v iv wr => ∃ k : Nat, k ≤ n ∧ iv = .int .i64 (k : Int) ∧ Hid (Own wr w.heap.size v (enc s ++ enc n ++ (M.take k).flatMap wch)) ∧ Hid (Below w.heap.size w wr)) (fun _ iv _ => n - (intOf iv).toNat)
  case atStart => exact ⟨0, Nat.zero_le _, rfl, by have := HO2.out; simpa [Hid] using this, HB2.out⟩
  case round =>
    obtain ⟨k, hk, rfl, hO, hb⟩ := hrel
    rcases Nat.lt_or_ge k n with hlt | hge
    · have Hlt := hide hlt
      have hki : (k : Int) < (n : Int) := by omega
      obtain ⟨d, hd⟩ : ∃ d, M[k]? = some d := ⟨_, List.getElem?_eq_getElem (by rw [← Hn.out]; exact hlt)⟩
      obtain ⟨g, o, rfl, hgl, hat⟩ := Src.chg (Hsr.out.below hb.out) hd
      have hdf := HF.out.last_le.2.2 d (List.mem_of_getElem? hd)
      have hdl := HF.out.last_le.2.1
      have HW := hide (show (enc s ++ enc n ++ (M.take k).flatMap wch) ++ enc d.m.toNat ++ enc (code d) = enc s ++ enc n ++ (M.take (k + 1)).flatMap wch by
        rw [List.take_add_one, hd, List.flatMap_append]
        simp [wch])
      obtain ⟨dm, dv, dr⟩ := d
      obtain ⟨a0, a1, a2⟩ := hat
      simp only at a0 a1 a2 hdf
      obtain ⟨v, rfl⟩ : ∃ v : Nat, dv = (v : Int) := ⟨dv.toNat, by omega⟩
      obtain ⟨m, rfl⟩ : ∃ m : Nat, dm = (m : Int) := ⟨dm.toNat, by omega⟩
      have hv4 : v < 4 := by omega
      have hm60 : m < 1152921504606846976 := by omega
      have hl1 := HL.out k hk
      obtain ⟨lk, hlk⟩ : ∃ lk, enc s ++ enc n ++ (M.take k).flatMap wch = lk := ⟨_, rfl⟩
      rw [hlk] at HW hl1 hO
      rw [show (⟨(m : Int), (v : Int), dr⟩ : Ch).m.toNat = m from Int.toNat_natCast m] at HW
      have hbw : Below wr.heap.size wr (wr.alloc (.cells #[.int .i64 (m : Int), .int .i64 (v : Int), .bool dr] 70)) := (Below.refl _ _).alloc (Nat.le_refl _) _
      have HBa := hide (hb.out.trans (hbw.mono hb.out.size))
      have hcel := fun j => cell_of_row (wr.alloc (.cells #[.int .i64 (m : Int), .int .i64 (v : Int), .bool dr] 70)) wr.heap.size j _ _ _ (heap_alloc_new wr _)
      have HV : Hid (∀ W, Below (wr.alloc (.cells #[.int .i64 (m : Int), .int .i64 (v : Int), .bool dr] 70)).heap.size (wr.alloc (.cells #[.int .i64 (m : Int), .int .i64 (v : Int), .bool dr] 70)) W → W.cell? ⟨wr.heap.size, 0, none⟩ = some (.int .i64 (m : Int)) ∧ W.cell? ⟨wr.heap.size, 1, none⟩ = some (.int .i64 (v : Int)) ∧ W.cell? ⟨wr.heap.size, 2, none⟩ = some (.bool dr)) := fun W hW =>
        ⟨(hW.cell (p := ⟨wr.heap.size, 0, none⟩) (by simp)).trans (hcel 0), (hW.cell (p := ⟨wr.heap.size, 1, none⟩) (by simp)).trans (hcel 1), (hW.cell (p := ⟨wr.heap.size, 2, none⟩) (by simp)).trans (hcel 2)⟩
      have HNa := hide (Number_own _ lk _ m (wr.alloc (.cells #[.int .i64 (m : Int), .int .i64 (v : Int), .bool dr] 70)) (hO.out.alloc _) (by omega) hm60)
      have HC := hide (fun W => code_any (m : Int) v dr hv4 W)
      have Hc7 := hide (show code ⟨(m : Int), (v : Int), dr⟩ ≤ 7 from code_lt (by show (v : Int) < 4; omega))
      have Hl2 := hide hl1
      generalize code ⟨(m : Int), (v : Int), dr⟩ = cd at *
      have q0 := hcel 0
      have q1 := hcel 1
      have q2 := hcel 2
      clear hlt hk hd hdf hdl hv4 hm60 hl1 hlk hbw hgl hcel
      go_wp2_with fail
      generalize World.alloc _ _ = wa at *
      refine HNa.out.mono ?_
      rintro e wb ⟨vb, rfl, hOb, hbb⟩
      have HOb := hide (own_mono hOb HBa.out.size)
      have HBb := hide (HBa.out.trans (hbb.mono HBa.out.size))
      obtain ⟨x0, x1, x2⟩ := HV.out _ hbb
      clear hOb hbb HNa HBa hO hb q0 q1 q2
      go_wp2_with fail
      refine (HC.out wb).mono ?_
      rintro e wc ⟨rfl, hbc⟩
      have HOc := hide (Fa.own_below HOb.out hbc)
      have HBc := hide (HBb.out.trans (hbc.mono HBb.out.size))
      clear hbc HC HOb HBb x0 x1 x2 HV
      go_wp2_with fail
      refine (Number_own vb (lk ++ enc m) _ cd wc HOc.out (by have := Hl2.out; have := enc_le m; rw [List.length_append]; omega) (by have := Hc7.out; omega)).mono ?_
      rintro e wd ⟨vd, rfl, hOd, hbd⟩
      have HOd := hide (own_mono hOd HBc.out.size)
      rw [HW.out] at HOd
      have HBd := hide (HBc.out.trans (hbd.mono HBc.out.size))
      clear hOd hbd HOc HBc
      go_wp2
      go_roundw
      case rel => exact ⟨k + 1, Hlt.out, by go_num, HOd.out, HBd.out⟩
      case measure => have := Hlt.out; simp [intOf]; omega
    · obtain rfl : k = n := by omega
      have HOw := hO.out
      rw [List.take_of_length_le (by rw [Hn.out]; exact Nat.le_refl _)] at HOw
      have HO9 := hide (show Own wr w.heap.size _ (wrote s M) by unfold wrote; rw [← Hn.out]; exact HOw)
      clear hge hk hO HOw
      go_wp2
      go_ret
      exact ⟨_, rfl, HO9.out, hb.out⟩
end

end Go.Proofs.YthoflpjmdhabmaaDoor.Mb
