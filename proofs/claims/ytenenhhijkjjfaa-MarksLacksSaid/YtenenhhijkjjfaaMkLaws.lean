/-
  isobarlaw13.MarksLacks, walked: who lacks a marker are those that were not told it, in their order; told, they do not. Conditions: the arguments are read as numbers, each an int.
-/
import Derived.Test.YtenenhhijkjjfaaMkForgets
namespace Go.Proofs.Ytenenhhijkjjfaa.Mk
open Go.RowKit Go.Maps
open Pk Dk Wn Lk

/-- A marker is put to all of these. -/
def tells (A : Int → List Int) (m : Int) (l : List Int) : Int → List Int := l.foldl (fun A v => step A v m) A
theorem tells_snoc (A : Int → List Int) (m : Int) (l : List Int) (k : Nat) (v : Int) (h : l[k]? = some v) : tells A m (l.take (k + 1)) = step (tells A m (l.take k)) v m := by
  unfold tells
  rw [List.take_add_one, h]
  simp [List.foldl_append]
theorem mem_tells {m u x : Int} : ∀ (l : List Int) (A : Int → List Int), x ∈ tells A m l u ↔ ((0 ≤ u ∧ u < 4) ∧ 1 ≤ m ∧ x = m ∧ u ∈ l) ∨ x ∈ A u
  | [], A => by simp [tells]
  | v :: l, A => by
    have e : tells A m (v :: l) = tells (step A v m) m l := rfl
    rw [e, mem_tells l, mem_step]
    constructor
    · rintro (⟨h1, h2, h3, h4⟩ | ⟨⟨h1, h2⟩, h3, h4⟩ | h)
      · exact Or.inl ⟨h1, h2, h3, List.mem_cons_of_mem _ h4⟩
      · exact Or.inl ⟨h3 ▸ h1, h2, h4, by rw [h3]; exact List.mem_cons_self ..⟩
      · exact Or.inr h
    · rintro (⟨h1, h2, h3, h4⟩ | h)
      · rcases List.mem_cons.1 h4 with rfl | h4
        · exact Or.inr (Or.inl ⟨⟨h1, h2⟩, rfl, h3⟩)
        · exact Or.inl ⟨h1, h2, h3, h4⟩
      · exact Or.inr (Or.inr h)
theorem lack_mono {A B : Int → List Int} {m : Int} (h : ∀ v, m ∈ A v → m ∈ B v) : ∀ vs : List Int, (lack B m vs).length ≤ (lack A m vs).length
  | [] => Nat.le_refl _
  | v :: vs => by
    have ih := lack_mono h vs
    unfold lack at *
    by_cases h1 : m ∈ B v
    · by_cases h2 : m ∈ A v
      · simpa [h1, h2] using ih
      · simp only [List.filter_cons, h1, h2, not_true_eq_false, not_false_eq_true, decide_true, decide_false, if_true, if_false, Bool.false_eq_true, List.length_cons]
        omega
    · have h2 : m ∉ A v := fun h2 => h1 (h v h2)
      simp only [List.filter_cons, h1, h2, not_false_eq_true, decide_true, if_true, List.length_cons]
      omega
/-- Told, they do not lack it. -/
theorem lack_told {A : Int → List Int} {m x : Int} {vs : List Int} (h : x ∈ lack (tells A m (lack A m vs)) m vs) : ¬ (1 ≤ m ∧ 0 ≤ x ∧ x < 4) := fun ⟨h1, h2, h3⟩ => by
  obtain ⟨hx, hn⟩ := mem_lack.1 h
  refine hn ((mem_tells _ _).2 ?_)
  by_cases hA : m ∈ A x
  · exact Or.inr hA
  · exact Or.inl ⟨⟨h2, h3⟩, h1, rfl, mem_lack.2 ⟨hx, hA⟩⟩
theorem lack_get {A : Int → List Int} {m y : Int} {vs : List Int} {k : Nat} (h : vs[k]? = some y) (hy : m ∉ A y) : (lack A m vs)[(lack A m (vs.take k)).length]? = some y := by
  have hlt := (List.getElem?_eq_some_iff.1 h).1
  have e : vs = vs.take k ++ y :: vs.drop (k + 1) := by
    have h2 : vs.drop k = y :: vs.drop (k + 1) := by
      rw [List.drop_eq_getElem_cons hlt]
      rw [(List.getElem?_eq_some_iff.1 h).2]
    rw [← h2, List.take_append_drop]
  have e2 : lack A m vs = lack A m (vs.take k) ++ y :: lack A m (vs.drop (k + 1)) := by
    have h3 : lack A m (y :: vs.drop (k + 1)) = y :: lack A m (vs.drop (k + 1)) := by simp [lack, hy]
    rw [← h3, ← lack_app, ← e]
  rw [e2, List.getElem?_append_right (Nat.le_refl _), Nat.sub_self]
  rfl
theorem lack_snoc {A : Int → List Int} {m y : Int} {vs : List Int} {k : Nat} (h : vs[k]? = some y) : (lack A m (vs.take (k + 1))).length = (lack A m (vs.take k)).length + (if m ∈ A y then 0 else 1) := by
  rw [List.take_add_one, h, lack_app, List.length_append]
  by_cases hy : m ∈ A y <;> simp [lack, hy]

set_option maxRecDepth 100000 in
/-- More than is looked at. -/
theorem MarksLacks_long (A0 : Option Addr) (n c : Nat) (A1 : Option Addr) (n1 c1 : Nat) (m : Int) (w : World) (hn : 200 < n) :
    Calls Try.prog 5 #[.slice A0 n c, .slice A1 n1 c1, .int .i64 m] w fun e w' => e = .returned (.bool true) ∧ Below w.heap.size w w' := by
  have hni : (200 : Int) < (n : Int) := by omega
  go_enter Try.func5, Try.ntmps5
  go_wp2_with fail
  refine (awake_any w).mono ?_
  rintro e w1 ⟨rfl, hb1⟩
  have HB1 := hide hb1
  clear hb1
  go_wp2_with fail
  refine (awake_any w1).mono ?_
  rintro e w2 ⟨rfl, hb2⟩
  have HB2 := hide (HB1.out.trans (hb2.mono HB1.out.size))
  clear hb2
  go_wp2
  go_ret
  exact ⟨rfl, HB2.out⟩
set_option maxRecDepth 100000 in
/-- More than is looked at. -/
theorem MarksLacks2_long (A0 : Option Addr) (n c : Nat) (A1 : Option Addr) (n1 c1 : Nat) (m : Int) (w : World) (hn : n ≤ 200) (hn1 : 20 < n1) :
    Calls Try.prog 5 #[.slice A0 n c, .slice A1 n1 c1, .int .i64 m] w fun e w' => e = .returned (.bool true) ∧ Below w.heap.size w w' := by
  have hni : ¬ (200 : Int) < (n : Int) := by omega
  have hni1 : (20 : Int) < (n1 : Int) := by omega
  go_enter Try.func5, Try.ntmps5
  go_wp2_with fail
  refine (awake_any w).mono ?_
  rintro e w1 ⟨rfl, hb1⟩
  have HB1 := hide hb1
  clear hb1
  go_wp2_with fail
  refine (awake_any w1).mono ?_
  rintro e w2 ⟨rfl, hb2⟩
  have HB2 := hide (HB1.out.trans (hb2.mono HB1.out.size))
  clear hb2
  go_wp2
  go_ret
  exact ⟨rfl, HB2.out⟩
set_option maxRecDepth 100000 in
set_option maxHeartbeats 4000000 in
theorem MarksLacks_law (A0 : Option Addr) (n c : Nat) (l : List Oq) (A1 : Option Addr) (n1 c1 : Nat) (vs : List Int) (m : Int) (w : World) (hl : l.length = n) (hn : n ≤ 200) (hf : OFits l) (hs : Src w A0 (ocels l)) (hl1 : vs.length = n1) (hn1 : n1 ≤ 20) (hf1 : Fits vs) (hs1 : Src w A1 (nums vs)) (hm : I64 m) :
    Calls Try.prog 5 #[.slice A0 n c, .slice A1 n1 c1, .int .i64 m] w fun e w' => e = .returned (.bool true) ∧ Below w.heap.size w w' := by
  have hni : ¬ (200 : Int) < (n : Int) := by omega
  have hni1 : ¬ (20 : Int) < (n1 : Int) := by omega
  have Hl := hide hl
  have Hf := hide hf
  have Hs := hide hs
  have Hn := hide hn
  have Hl1 := hide hl1
  have Hf1 := hide hf1
  have Hs1 := hide hs1
  have Hn1 := hide hn1
  have Hm := hide hm
  clear hl hf hs hn hl1 hf1 hs1 hn1 hm
  go_enter Try.func5, Try.ntmps5
  go_wp2_with fail
  refine (awake_any w).mono ?_
  rintro e w1 ⟨rfl, hb1⟩
  have HS1 := hide (St.tbl_new ((St.start w).below hb1))
  clear hb1
  generalize hp : w1.heap.size = p at *
  have Hp := hide hp
  go_wp2_with fail
  go_loopw [8, 35] (fun _ j wr => ∃ k : Nat, k ≤ n ∧ j = .int .i64 (k : Int) ∧ Hid (St w [tblT p (told (l.take k)) (2 * k)] wr)) (fun _ j _ => n - (RowKit.intOf j).toNat)
  case atStart => exact ⟨0, Nat.zero_le _, rfl, HS1.out⟩
  case round =>
    obtain ⟨k, hk, rfl, hS⟩ := hrel
    rcases Nat.lt_or_ge k n with hlt | hge
    · have Hlt := hide hlt
      have hki : (k : Int) < (n : Int) := by omega
      obtain ⟨q, hq⟩ : ∃ q, l[k]? = some q := ⟨_, List.getElem?_eq_getElem (by rw [Hl.out]; exact hlt)⟩
      obtain ⟨g, o, rfl, _, hat⟩ := Src.op (Hs.out.below hS.out.bel) hq
      have HT := hide (told_snoc l k q hq)
      have hn200 := Hn.out
      have HP := hide (S_put (v := q.v) hS.out.drew (i := 0) rfl (Hf.out q (List.mem_of_getElem? hq)).2.2 (by omega))
      have c1 := hat.v
      have c2 := hat.m
      obtain ⟨qv, hqv⟩ : ∃ x, q.v = x := ⟨_, rfl⟩
      obtain ⟨qm, hqm⟩ : ∃ x, q.m = x := ⟨_, rfl⟩
      rw [hqv, hqm] at HT HP
      rw [hqv] at c1
      rw [hqm] at c2
      clear hlt hk hq hat hS hqv hqm hn200
      go_wp2
      go_region_with (go_at_call 8; refine HP.out.mono ?_; rintro e w2 ⟨⟨x, rfl⟩, hS⟩; have HS2 := hide hS; clear hS)
      all_goals
        have HS3 := hide (show St w [tblT p (told (l.take (k + 1))) (2 * (k + 1))] w2 by rw [HT.out]; exact HS2.out)
        clear HS2 HP HT c1 c2
        go_wp2
        go_roundw
        case rel => exact ⟨k + 1, Hlt.out, by go_num, HS3.out⟩
        case measure => have := Hlt.out; simp [RowKit.intOf]; omega
    · obtain rfl : k = n := by omega
      have HS2 := hS
      rw [List.take_of_length_le (by rw [Hl.out]; exact Nat.le_refl _)] at HS2
      have Hnb := hide (show 2 * k ≤ 400 by have := Hn.out; omega)
      generalize 2 * k = nb at HS2 Hnb
      clear hge hk hS HS1
      have HG := hide (S_good HS2.out (i := 0) rfl)
      have HTl := hide (told_len l)
      have HL := hide (S_lacks HS2.out (i := 0) rfl Hm.out A1 n1 c1 vs Hl1.out (by have := Hn1.out; omega) (Hs1.out.below HS2.out.bel) Hf1.out)
      generalize told l = A at *
      clear HS2
      go_wp2_with fail
      refine HL.out.mono ?_
      rintro e w2 ⟨LA, lc, rfl, hS⟩
      obtain ⟨L, hL⟩ : ∃ L, (lack A m vs).length = L := ⟨_, rfl⟩
      rw [hL] at hS ⊢
      have HLn := hide hL
      have hL20 : L ≤ 20 := by
        have := lack_le (A := A) (m := m) vs
        have := Hl1.out
        have := Hn1.out
        omega
      have hLi : (L : Int) ≤ 20 := by omega
      have HL20 := hide hL20
      have HS3 := hide hS
      clear hS HL hL hL20
      go_wp2
      go_loopw [10, 57] (fun at_ j wr => ∃ k : Nat, k ≤ n1 ∧ at_ = .int .i64 ((lack A m (vs.take k)).length : Int) ∧ j = .int .i64 (k : Int) ∧ Hid (St w [tblT p A nb, rowT 3 1 (.slice LA L lc) L (nums (lack A m vs))] wr)) (fun _ j _ => n1 - (RowKit.intOf j).toNat)
      case atStart => exact ⟨0, Nat.zero_le _, rfl, rfl, HS3.out⟩
      case round =>
        obtain ⟨k, hk, rfl, rfl, hS⟩ := hrel
        rcases Nat.lt_or_ge k n1 with hlt | hge
        · have Hlt := hide hlt
          have hki : (k : Int) < (n1 : Int) := by omega
          obtain ⟨y, hy⟩ : ∃ y, vs[k]? = some y := ⟨_, List.getElem?_eq_getElem (by rw [Hl1.out]; exact hlt)⟩
          have Hy := hide hy
          obtain ⟨g, o, rfl, hgl, c0⟩ := Src.num (Hs1.out.below hS.out.bel) hy
          have HO := hide (S_of hS.out (i := 0) rfl (by have := Hnb.out; omega) (Hf1.out y (List.mem_of_getElem? hy)))
          obtain ⟨at_, hat⟩ : ∃ at_, (lack A m (vs.take k)).length = at_ := ⟨_, rfl⟩
          rw [hat]
          have Hat := hide hat
          clear hlt hy hk hgl hS hat
          go_wp2_with fail
          refine HO.out.mono ?_
          rintro e w5 ⟨YA, yc, rfl, hS⟩
          obtain ⟨N, hN⟩ : ∃ N, (A y).length = N := ⟨_, rfl⟩
          rw [hN] at hS ⊢
          have HN := hide hN
          have HS5 := hide hS
          have hNi : (N : Int) ≤ 400 := by
            have := HTl.out y
            rw [hN] at this
            have := Hl.out
            have := Hn.out
            omega
          clear hS HO hN c0
          go_wp2
          go_loopw [12, 68] (fun hs j wr => ∃ q : Nat, q ≤ N ∧ hs = .bool (decide (m ∈ (A y).take q)) ∧ j = .int .i64 (q : Int) ∧ Hid (St w [tblT p A nb, rowT 3 1 (.slice LA L lc) L (nums (lack A m vs)), rowT 3 1 (.slice YA N yc) N (nums (A y))] wr)) (fun _ j _ => N - (RowKit.intOf j).toNat)
          case atStart => exact ⟨0, Nat.zero_le _, by simp, rfl, HS5.out⟩
          case round =>
            obtain ⟨q, hq, rfl, rfl, hS⟩ := hrel
            rcases Nat.lt_or_ge q N with hlt | hge
            · have Hlq := hide hlt
              have hqi : (q : Int) < (N : Int) := by omega
              obtain ⟨x, hx⟩ : ∃ x, (A y)[q]? = some x := ⟨_, List.getElem?_eq_getElem (by rw [HN.out]; exact hlt)⟩
              obtain ⟨gg, oo, rfl, _, d1⟩ := Src.num (St.src hS.out (i := 2) rfl) hx
              have HT := hide (show decide (m ∈ (A y).take (q + 1)) = (decide (m ∈ (A y).take q) || x == m) by
                rw [List.take_add_one, hx]
                by_cases h1 : m ∈ (A y).take q
                · simp [h1]
                · by_cases h2 : x = m
                  · simp [h2]
                  · simp [h1, h2, Ne.symm h2])
              obtain ⟨b, hb⟩ : ∃ b, decide (m ∈ (A y).take q) = b := ⟨_, rfl⟩
              rw [hb] at HT ⊢
              have HS6 := hide hS.out
              clear hlt hx hq hS hb
              cases b
              case' true => go_wp2
              case' false =>
                obtain ⟨d, hd⟩ : ∃ d, (x == m) = d := ⟨_, rfl⟩
                rw [hd] at HT
                go_wp2
              all_goals
                go_roundw
                case rel => exact ⟨q + 1, Hlq.out, by rw [HT.out]; simp [*], by go_num, HS6.out⟩
                case measure => have := Hlq.out; simp [RowKit.intOf]; omega
            · obtain rfl : q = N := by omega
              rw [List.take_of_length_le (by rw [HN.out]; exact Nat.le_refl _)]
              have HS6 := hide (show St w [tblT p A nb, rowT 3 1 (.slice LA L lc) L (nums (lack A m vs))] wr from St.weaken (Us := [_]) hS.out)
              have HT := hide (lack_snoc (A := A) (m := m) Hy.out)
              clear hge hq hS HS5 hNi
              by_cases hmy : m ∈ A y
              · rw [if_pos hmy, Hat.out] at HT
                rw [decide_eq_true hmy]
                clear hmy
                go_wp2
                go_roundw
                case rel => exact ⟨k + 1, Hlt.out, by rw [HT.out]; rfl, by go_num, HS6.out⟩
                case measure => have := Hlt.out; simp [RowKit.intOf]; omega
              · rw [if_neg hmy, Hat.out] at HT
                rw [decide_eq_false hmy]
                have hget := lack_get Hy.out hmy
                rw [Hat.out] at hget
                have hatL : at_ < L := by
                  have := (List.getElem?_eq_some_iff.1 hget).1
                  rw [HLn.out] at this
                  exact this
                obtain ⟨gl, ol, rfl, _, d2⟩ := Src.num (St.src HS6.out (i := 1) rfl) hget
                obtain ⟨gv, ov, ev, _, d3⟩ := Src.num (Hs1.out.below HS6.out.bel) Hy.out
                obtain ⟨rfl, rfl⟩ : gv = g ∧ ov = o := by simpa using ev.symm
                have hai : (at_ : Int) < (L : Int) := by omega
                have hai2 : ¬ (L : Int) ≤ (at_ : Int) := by omega
                have hai3 : ¬ L ≤ at_ := by omega
                have hai4 : at_ < L := hatL
                clear hget ev hmy hatL
                go_wp2
                go_quiet (fail)
                go_wp2
                go_roundw
                case rel => exact ⟨k + 1, Hlt.out, by rw [HT.out]; go_num, by go_num, HS6.out.below ⟨rfl, rfl, rfl, Nat.le_refl _, fun _ _ => rfl⟩⟩
                case measure => have := Hlt.out; simp [RowKit.intOf]; omega
        · obtain rfl : k = n1 := by omega
          have HS4 := hide hS.out
          clear hge hk hS HS3
          rw [List.take_of_length_le (by rw [Hl1.out]; exact Nat.le_refl _), HLn.out]
          go_wp2
          go_loopw [107] (fun j wr => ∃ q : Nat, q ≤ L ∧ j = .int .i64 (q : Int) ∧ Hid (St w [tblT p (tells A m ((lack A m vs).take q)) (nb + 2 * q), rowT 3 1 (.slice LA L lc) L (nums (lack A m vs))] wr)) (fun j _ => L - (RowKit.intOf j).toNat)
          case atStart => exact ⟨0, Nat.zero_le _, rfl, HS4.out⟩
          case round =>
            obtain ⟨q, hq, rfl, hS⟩ := hrel
            rcases Nat.lt_or_ge q L with hlt | hge
            · have Hlq := hide hlt
              have hqi : (q : Int) < (L : Int) := by omega
              obtain ⟨x, hx⟩ : ∃ x, (lack A m vs)[q]? = some x := ⟨_, List.getElem?_eq_getElem (by rw [HLn.out]; exact hlt)⟩
              obtain ⟨gg, oo, rfl, _, d1⟩ := Src.num (St.src hS.out (i := 1) rfl) hx
              have HT := hide (tells_snoc A m (lack A m vs) q x hx)
              have hnb := Hnb.out
              have hl20 := HL20.out
              have HP := hide (S_put (v := x) hS.out (i := 0) rfl Hm.out (by omega))
              clear hlt hx hq hS hnb hl20
              go_wp2_with fail
              refine HP.out.mono ?_
              rintro e w6 ⟨⟨z, rfl⟩, hS⟩
              have HS5 := hide (show St w [tblT p (tells A m ((lack A m vs).take (q + 1))) (nb + 2 * (q + 1)), rowT 3 1 (.slice (some ⟨gg, oo, none⟩) L lc) L (nums (lack A m vs))] w6 by rw [HT.out]; exact hS)
              clear hS HP HT d1
              go_wp2
              go_roundw
              case rel => exact ⟨q + 1, Hlq.out, by go_num, HS5.out⟩
              case measure => have := Hlq.out; simp [RowKit.intOf]; omega
            · obtain rfl : q = L := by omega
              rw [List.take_of_length_le (by rw [HLn.out]; exact Nat.le_refl _)] at hS
              have HL2 := hide (S_lacks hS.out (i := 0) rfl Hm.out A1 k c1 vs Hl1.out (by have := Hn1.out; omega) (Hs1.out.below hS.out.bel) Hf1.out)
              have HTo := hide (fun x (hx : x ∈ lack (tells A m (lack A m vs)) m vs) => lack_told hx)
              have hml := lack_mono (A := A) (B := tells A m (lack A m vs)) (m := m) (fun v h => (mem_tells _ _).2 (Or.inr h)) vs
              rw [HLn.out] at hml
              obtain ⟨R, hR⟩ : ∃ R, (lack (tells A m (lack A m vs)) m vs).length = R := ⟨_, rfl⟩
              rw [hR] at hml
              have HRn := hide hR
              generalize lack (tells A m (lack A m vs)) m vs = rs at *
              generalize tells A m (lack A m vs) = B at *
              clear hge hq hS HS4 hR
              go_wp2_with fail
              refine HL2.out.mono ?_
              rintro e w6 ⟨RA, rc, rfl, hS⟩
              rw [HRn.out] at hS ⊢
              have HS5 := hide hS
              have hRi : (R : Int) ≤ (q : Int) := by omega
              clear hS HL2
              go_wp2
              go_loopw [124] (fun j wr => ∃ z : Nat, z ≤ R ∧ j = .int .i64 (z : Int) ∧ Hid (St w [tblT p B (nb + 2 * q), rowT 3 1 (.slice LA q lc) q (nums (lack A m vs)), rowT 3 1 (.slice RA R rc) R (nums rs)] wr)) (fun j _ => R - (RowKit.intOf j).toNat)
              case atStart => exact ⟨0, Nat.zero_le _, rfl, HS5.out⟩
              case round =>
                obtain ⟨z, hz, rfl, hS⟩ := hrel
                rcases Nat.lt_or_ge z R with hlt | hge
                · have Hlz := hide hlt
                  have hzi : (z : Int) < (R : Int) := by omega
                  obtain ⟨x, hx⟩ : ∃ x, rs[z]? = some x := ⟨_, List.getElem?_eq_getElem (by rw [HRn.out]; exact hlt)⟩
                  obtain ⟨gg, oo, rfl, _, d1⟩ := Src.num (St.src hS.out (i := 2) rfl) hx
                  have hno := HTo.out x (List.mem_of_getElem? hx)
                  have HS6 := hide hS.out
                  clear hlt hx hz hS
                  have hw : (¬ m ≥ 1) ∨ (m ≥ 1 ∧ ¬ x ≥ 0) ∨ (m ≥ 1 ∧ x ≥ 0 ∧ ¬ x < 4) := by omega
                  clear hno
                  rcases hw with h1 | ⟨h1, h2⟩ | ⟨h1, h2, h3⟩
                  all_goals go_wp2
                  all_goals
                    go_roundw
                    case rel => exact ⟨z + 1, Hlz.out, by go_num, HS6.out⟩
                    case measure => have := Hlz.out; simp [RowKit.intOf]; omega
                · obtain rfl : z = R := by omega
                  have HB := hide hS.out.bel
                  clear hge hz hS HS5
                  go_wp2
                  go_ret
                  exact ⟨by simp, HB.out⟩
theorem MarksLacks_any (A0 : Option Addr) (n c : Nat) (l : List Oq) (A1 : Option Addr) (n1 c1 : Nat) (vs : List Int) (m : Int) (w : World) (hl : l.length = n) (hf : OFits l) (hs : Src w A0 (ocels l)) (hl1 : vs.length = n1) (hf1 : Fits vs) (hs1 : Src w A1 (nums vs)) (hm : I64 m) :
    Calls Try.prog 5 #[.slice A0 n c, .slice A1 n1 c1, .int .i64 m] w fun e w' => e = .returned (.bool true) ∧ Below w.heap.size w w' := by
  rcases Nat.lt_or_ge 200 n with h | h
  · exact MarksLacks_long A0 n c A1 n1 c1 m w h
  · rcases Nat.lt_or_ge 20 n1 with h1 | h1
    · exact MarksLacks2_long A0 n c A1 n1 c1 m w h h1
    · exact MarksLacks_law A0 n c l A1 n1 c1 vs m w hl h hf hs hl1 h1 hf1 hs1 hm

end Go.Proofs.Ytenenhhijkjjfaa.Mk
