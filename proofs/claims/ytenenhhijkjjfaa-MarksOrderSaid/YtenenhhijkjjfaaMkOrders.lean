/-
  isobarlaw13.MarksOrder, walked: the order in which markers come plays no part, nor how often, nor the order of the volumes. Conditions: the arguments are read as numbers, each an int.
-/
import Derived.Test.YtenenhhijkjjfaaMkForgets
namespace Go.Proofs.Ytenenhhijkjjfaa.Mk
open Go.RowKit Go.Maps
open Pk Dk Wn Lk

theorem mem_told {u x : Int} (l : List Oq) : x ∈ told l u ↔ ∃ q ∈ l, ((0 ≤ q.v ∧ q.v < 4) ∧ 1 ≤ q.m) ∧ u = q.v ∧ x = q.m := by
  have : ∀ (l : List Oq) (A : Int → List Int), x ∈ l.foldl (fun A q => step A q.v q.m) A u ↔ (∃ q ∈ l, ((0 ≤ q.v ∧ q.v < 4) ∧ 1 ≤ q.m) ∧ u = q.v ∧ x = q.m) ∨ x ∈ A u := by
    intro l
    induction l with
    | nil => intro A; simp
    | cons q l ih =>
      intro A
      rw [List.foldl_cons, ih, mem_step]
      constructor
      · rintro (⟨r, hr, h⟩ | h | h)
        · exact Or.inl ⟨r, List.mem_cons_of_mem _ hr, h⟩
        · exact Or.inl ⟨q, List.mem_cons_self .., h⟩
        · exact Or.inr h
      · rintro (⟨r, hr, h⟩ | h)
        · rcases List.mem_cons.1 hr with rfl | hr
          · exact Or.inr (Or.inl h)
          · exact Or.inl ⟨r, hr, h⟩
        · exact Or.inr (Or.inr h)
  have := this l (fun _ => [])
  simpa [told] using this
/-- The place from which the other table is told. -/
def from_ (n K i : Nat) : Nat := (n - 1 - i + K) % n
theorem from_onto {n K j : Nat} (hj : j < n) : ∃ i, i < n ∧ from_ n K i = j := by
  refine ⟨(n - 1 + K - j) % n, Nat.mod_lt _ (by omega), ?_⟩
  unfold from_
  have h1 := Nat.mod_add_div (n - 1 + K - j) n
  have h2 := Nat.mod_lt (n - 1 + K - j) (show n > 0 by omega)
  have e : n - 1 - (n - 1 + K - j) % n + K = j + n * ((n - 1 + K - j) / n) := by omega
  rw [e, Nat.add_mul_mod_self_left, Nat.mod_eq_of_lt hj]
/-- Each twice. -/
def twice (B : Int → List Int) (q : Oq) : Int → List Int := step (step B q.v q.m) q.v q.m
def toldR (l : List Oq) (K k : Nat) : Int → List Int := (List.range k).foldl (fun B i => twice B (l.getD (from_ l.length K i) default)) (fun _ => [])
theorem toldR_succ (l : List Oq) (K k : Nat) (q : Oq) (h : l[from_ l.length K k]? = some q) : toldR l K (k + 1) = twice (toldR l K k) q := by
  unfold toldR
  rw [List.range_succ, List.foldl_append]
  simp [List.getD, h]
theorem mem_toldR {u x : Int} (l : List Oq) (K : Nat) : ∀ k, x ∈ toldR l K k u ↔ ∃ i, i < k ∧ ∃ q, q = l.getD (from_ l.length K i) default ∧ ((0 ≤ q.v ∧ q.v < 4) ∧ 1 ≤ q.m) ∧ u = q.v ∧ x = q.m
  | 0 => by simp [toldR]
  | k + 1 => by
    have e : toldR l K (k + 1) = twice (toldR l K k) (l.getD (from_ l.length K k) default) := by
      unfold toldR
      rw [List.range_succ, List.foldl_append]
      rfl
    rw [e]
    unfold twice
    rw [mem_step, mem_step, mem_toldR l K k]
    constructor
    · rintro (h | h | ⟨i, hi, h⟩)
      · exact ⟨k, by omega, _, rfl, h⟩
      · exact ⟨k, by omega, _, rfl, h⟩
      · exact ⟨i, by omega, h⟩
    · rintro ⟨i, hi, q, hq, h⟩
      by_cases hik : i = k
      · subst hik
        exact Or.inl (hq ▸ h)
      · exact Or.inr (Or.inr ⟨i, by omega, q, hq, h⟩)
theorem told_same {l : List Oq} {K : Nat} (hA : Good (told l)) (hB : Good (toldR l K l.length)) : toldR l K l.length = told l := hB.ext hA fun u x => by
  rw [mem_told, mem_toldR]
  constructor
  · rintro ⟨i, hi, q, hq, h⟩
    have hlt : from_ l.length K i < l.length := Nat.mod_lt _ (by omega)
    refine ⟨q, ?_, h⟩
    rw [hq, List.getD_eq_getElem?_getD, List.getElem?_eq_getElem hlt]
    exact List.getElem_mem hlt
  · rintro ⟨q, hq, h⟩
    obtain ⟨j, hj, e⟩ := List.mem_iff_getElem.1 hq
    obtain ⟨i, hi, hf⟩ := from_onto (K := K) hj
    refine ⟨i, hi, q, ?_, h⟩
    rw [hf, List.getD_eq_getElem?_getD, List.getElem?_eq_getElem hj, ← e]
    rfl
theorem New.back {A : Int → List Int} {vs : List Int} {r s : Int} (h : New A vs r) (h2 : New A vs.reverse s) : r = s := h.uniq (h2.congr fun _ => List.mem_reverse)
theorem two_tables {w0 w : World} {p n : Nat} {A : Int → List Int} (h : St w0 [tblT p A n] w) : St w0 [tblT p A n, tblT w.heap.size (fun _ => []) 0] (w.alloc (.cells #[.map none] 28)) := St.tbl_new h

set_option maxRecDepth 100000 in
/-- More than is looked at. -/
theorem MarksOrder_long (A0 : Option Addr) (n c : Nat) (A1 : Option Addr) (n1 c1 : Nat) (m : Nat) (w : World) (hn : 200 < n) :
    Calls Try.prog 4 #[.slice A0 n c, .slice A1 n1 c1, .int .u64 (m : Int)] w fun e w' => e = .returned (.bool true) ∧ Below w.heap.size w w' := by
  have hni : (200 : Int) < (n : Int) := by omega
  go_enter Try.func4, Try.ntmps4
  go_wp2_with fail
  refine (awake_any w).mono ?_
  rintro e w1 ⟨rfl, hb1⟩
  have HB1 := hide hb1
  clear hb1
  go_wp2_with fail
  refine (awake_any w1).mono ?_
  rintro e w2 ⟨rfl, hb2⟩
  have HB2 := hide (HB1.out.trans (hb2.mono HB1.out.size))
  clear hb2
  go_wp2
  go_ret
  exact ⟨rfl, HB2.out⟩
set_option maxRecDepth 100000 in
/-- More than is looked at. -/
theorem MarksOrder2_long (A0 : Option Addr) (n c : Nat) (A1 : Option Addr) (n1 c1 : Nat) (m : Nat) (w : World) (hn : n ≤ 200) (hn1 : 20 < n1) :
    Calls Try.prog 4 #[.slice A0 n c, .slice A1 n1 c1, .int .u64 (m : Int)] w fun e w' => e = .returned (.bool true) ∧ Below w.heap.size w w' := by
  have hni : ¬ (200 : Int) < (n : Int) := by omega
  have hni1 : (20 : Int) < (n1 : Int) := by omega
  go_enter Try.func4, Try.ntmps4
  go_wp2_with fail
  refine (awake_any w).mono ?_
  rintro e w1 ⟨rfl, hb1⟩
  have HB1 := hide hb1
  clear hb1
  go_wp2_with fail
  refine (awake_any w1).mono ?_
  rintro e w2 ⟨rfl, hb2⟩
  have HB2 := hide (HB1.out.trans (hb2.mono HB1.out.size))
  clear hb2
  go_wp2
  go_ret
  exact ⟨rfl, HB2.out⟩
set_option maxRecDepth 100000 in
/-- More than is looked at. -/
theorem MarksOrder3_long (A0 : Option Addr) (c : Nat) (A1 : Option Addr) (n1 c1 : Nat) (m : Nat) (w : World) (hn1 : n1 ≤ 20) :
    Calls Try.prog 4 #[.slice A0 0 c, .slice A1 n1 c1, .int .u64 (m : Int)] w fun e w' => e = .returned (.bool true) ∧ Below w.heap.size w w' := by
  have hni1 : ¬ (20 : Int) < (n1 : Int) := by omega
  go_enter Try.func4, Try.ntmps4
  go_wp2_with fail
  refine (awake_any w).mono ?_
  rintro e w1 ⟨rfl, hb1⟩
  have HB1 := hide hb1
  clear hb1
  go_wp2_with fail
  refine (awake_any w1).mono ?_
  rintro e w2 ⟨rfl, hb2⟩
  have HB2 := hide (HB1.out.trans (hb2.mono HB1.out.size))
  clear hb2
  go_wp2
  go_ret
  exact ⟨rfl, HB2.out⟩
set_option maxRecDepth 100000 in
set_option maxHeartbeats 4000000 in
theorem MarksOrder_law (A0 : Option Addr) (n c : Nat) (l : List Oq) (A1 : Option Addr) (n1 c1 : Nat) (vs : List Int) (m : Int) (K : Nat) (w : World) (hl : l.length = n) (hn : n ≤ 200) (hf : OFits l) (hs : Src w A0 (ocels l)) (hl1 : vs.length = n1) (hn1 : n1 ≤ 20) (hf1 : Fits vs) (hs1 : Src w A1 (nums vs)) (h0 : 0 < n) (hK : K < n) (hr : m.tmod (n : Int) = (K : Int)) :
    Calls Try.prog 4 #[.slice A0 n c, .slice A1 n1 c1, .int .u64 m] w fun e w' => e = .returned (.bool true) ∧ Below w.heap.size w w' := by
  have hni : ¬ (200 : Int) < (n : Int) := by omega
  have hni1 : ¬ (20 : Int) < (n1 : Int) := by omega
  have hn0 : ¬ n = 0 := by omega
  have hn0i : ¬ (n : Int) = 0 := by omega
  have hn0b : ((n : Int) == 0) = false := by simpa using hn0i
  have hcv : IntKind.u64.wrap (n : Int) = (n : Int) := by rw [show IntKind.u64.wrap (n : Int) = (n : Int) % 18446744073709551616 from rfl]; omega
  have hwk : wrap64 (K : Int) = (K : Int) := by unfold wrap64; omega
  have Hl := hide hl
  have Hf := hide hf
  have Hs := hide hs
  have Hn := hide hn
  have Hl1 := hide hl1
  have Hf1 := hide hf1
  have Hs1 := hide hs1
  have Hn1 := hide hn1
  have HK := hide hK
  have H0 := hide h0
  clear hl hf hs hn hl1 hf1 hs1 hn1 h0 hK
  go_enter Try.func4, Try.ntmps4
  go_wp2_with fail
  refine (awake_any w).mono ?_
  rintro e w1 ⟨rfl, hb1⟩
  have HS1 := hide (St.tbl_new ((St.start w).below hb1))
  clear hb1
  generalize hp : w1.heap.size = p at *
  have Hp := hide hp
  go_wp2_with fail
  have hsz : (w1.alloc (.cells #[.map none] 28)).heap.size = p + 1 := by simp [hp]
  have HS2 := hide (two_tables HS1.out)
  rw [hsz] at HS2
  have hKi : (K : Int) < (n : Int) := by have := HK.out; omega
  simp only [hwk]
  clear HS1 hsz hwk
  go_loopw [45] (fun j wr => ∃ k : Nat, k ≤ n ∧ j = .int .i64 (k : Int) ∧ Hid (St w [tblT p (told (l.take k)) (2 * k), tblT (p + 1) (toldR l K k) (4 * k)] wr)) (fun j _ => n - (RowKit.intOf j).toNat)
  case atStart => exact ⟨0, Nat.zero_le _, rfl, HS2.out⟩
  case round =>
    obtain ⟨k, hk, rfl, hS⟩ := hrel
    rcases Nat.lt_or_ge k n with hlt | hge
    · have Hlt := hide hlt
      have hki : (k : Int) < (n : Int) := by omega
      obtain ⟨q, hq⟩ : ∃ q, l[k]? = some q := ⟨_, List.getElem?_eq_getElem (by rw [Hl.out]; exact hlt)⟩
      obtain ⟨g, o, rfl, hgl, hat⟩ := Src.op Hs.out hq
      have hat1 := (Src.op (Hs.out.below hS.out.bel) hq)
      obtain ⟨g', o', e1, _, hat1⟩ := hat1
      obtain ⟨rfl, rfl⟩ : g' = g ∧ o' = o := by simpa using e1.symm
      have HT := hide (told_snoc l k q hq)
      obtain ⟨J, hJ⟩ : ∃ J, from_ n K k = J := ⟨_, rfl⟩
      have hJn : J < n := by rw [← hJ]; exact Nat.mod_lt _ (by omega)
      obtain ⟨u, hu⟩ : ∃ u, l[J]? = some u := ⟨_, List.getElem?_eq_getElem (by rw [Hl.out]; exact hJn)⟩
      have HU := hide (show toldR l K (k + 1) = twice (toldR l K k) u from toldR_succ l K k u (by rw [Hl.out, hJ]; exact hu))
      have Hfu := hide (Hf.out u (List.mem_of_getElem? hu))
      have Hu := hide hu
      have hn200 := Hn.out
      have HP := hide (S_put (v := q.v) hS.out.drew (i := 0) rfl (Hf.out q (List.mem_of_getElem? hq)).2.2 (by omega))
      have c1' := hat1.v
      have c2' := hat1.m
      obtain ⟨qv, hqv⟩ : ∃ x, q.v = x := ⟨_, rfl⟩
      obtain ⟨qm, hqm⟩ : ∃ x, q.m = x := ⟨_, rfl⟩
      rw [hqv, hqm] at HT HP
      rw [hqv] at c1'
      rw [hqm] at c2'
      have HJ := hide hJ
      have HJn := hide hJn
      clear hlt hk hq hat hat1 hS hqv hqm hn200 hu hJ hJn e1
      go_wp2
      go_region_with (go_at_call 8; refine HP.out.mono ?_; rintro e w2 ⟨⟨x, rfl⟩, hS⟩; have HS3 := hide hS; clear hS)
      all_goals
        have HS4 := hide (show St w [tblT p (told (l.take (k + 1))) (2 * (k + 1)), tblT (p + 1) (toldR l K k) (4 * k)] w2 by rw [HT.out]; exact HS3.out)
        obtain ⟨g2, o2, e2, _, hat2⟩ := Src.op (Hs.out.below HS4.out.bel) Hu.out
        obtain ⟨rfl, rfl⟩ : g2 = g' ∧ o2 = o' := by simpa using e2.symm
        have d0 := hat2.kind
        have d1 := hat2.v
        have d2 := hat2.m
        have hJl := HJn.out
        have hJi : (J : Int) < (n : Int) := by omega
        have hidx : ((n : Int) - 1 - (k : Int) + (K : Int)) % (n : Int) = (J : Int) := by
          have h1 := HJ.out
          unfold from_ at h1
          have h2 : (n : Int) - 1 - (k : Int) + (K : Int) = ((n - 1 - k + K : Nat) : Int) := by omega
          rw [h2, ← Int.natCast_emod, h1]
        obtain ⟨uk, huk⟩ : ∃ x, u.kind = x := ⟨_, rfl⟩
        obtain ⟨uv, huv⟩ : ∃ x, u.v = x := ⟨_, rfl⟩
        obtain ⟨um, hum⟩ : ∃ x, u.m = x := ⟨_, rfl⟩
        have HU2 := hide (show toldR l K (k + 1) = step (step (toldR l K k) uv um) uv um by rw [← huv, ← hum]; exact HU.out)
        have Hum := hide (show I64 um by rw [← hum]; exact Hfu.out.2.2)
        rw [huk] at d0
        rw [huv] at d1
        rw [hum] at d2
        have hn200 := Hn.out
        have hlt := Hlt.out
        have HP2 := hide (S_put (v := uv) (St.blk_new HS4.out #[.int .i64 uk, .int .i64 uv, .int .i64 um] 33) (i := 1) rfl Hum.out (by omega))
        have Hn4 := hide (show 4 * k + 2 < 1000000 by omega)
        obtain ⟨ob, hob⟩ : ∃ ob, w2.heap.size = ob := ⟨_, rfl⟩
        have Hob := hide hob
        clear huk huv hum hn200 hlt HU HS4 hob
        go_wp2_with fail
        refine HP2.out.mono ?_
        rintro e w3 ⟨⟨x3, rfl⟩, hS⟩
        rw [Hob.out] at hS ⊢
        have hblk := St.blk hS (i := 2) rfl
        have d3 := hblk.1 1
        have d4 := hblk.1 2
        simp only [List.getElem?_toArray, List.getElem?_cons_succ, List.getElem?_cons_zero] at d3 d4
        have HP3 := hide (S_put (v := uv) hS (i := 1) rfl Hum.out Hn4.out)
        clear hblk hS HP2 d0 d1 d2
        go_wp2_with fail
        refine HP3.out.mono ?_
        rintro e w4 ⟨⟨x4, rfl⟩, hS⟩
        have HS5 := hide (show St w [tblT p (told (l.take (k + 1))) (2 * (k + 1)), tblT (p + 1) (toldR l K (k + 1)) (4 * (k + 1))] w4 by rw [HU2.out]; exact St.weaken (Us := [_]) hS)
        clear hS HP3 HU2 d3 d4 hidx hJl hJi
        go_wp2
        go_roundw
        case rel => exact ⟨k + 1, Hlt.out, by go_num, HS5.out⟩
        case measure => have := Hlt.out; simp [RowKit.intOf]; omega
    · obtain rfl : k = n := by omega
      have HS3 := hS
      rw [List.take_of_length_le (by rw [Hl.out]; exact Nat.le_refl _)] at HS3
      have Hnb := hide (show 2 * k ≤ 800 ∧ 4 * k ≤ 800 by have := Hn.out; omega)
      have he := told_same (l := l) (K := K) (S_good HS3.out (i := 0) rfl) (by rw [Hl.out]; exact S_good HS3.out (i := 1) rfl)
      rw [Hl.out] at he
      rw [he] at HS3
      have HTl := hide (told_len l)
      generalize told l = A at *
      generalize 2 * k = na at HS3 Hnb
      generalize 4 * k = nb at HS3 Hnb
      clear hge hk hS HS2 hKi he hr
      have HS4 := hide (St.add HS3.out (Below.refl _ _) (T := rowT 3 1 (.slice none 0 0) 0 (nums [])) (G := fun _ => False) (Row.nil _ _ _) (fun _ h => h.elim))
      have hbk : vs.reverse.length = n1 := by rw [List.length_reverse, Hl1.out]
      have Hbk := hide hbk
      clear hbk HS3
      go_wp2
      go_loopw [12, 88] (fun bv j wr => ∃ (q : Nat) (VA : Option Addr) (vc : Nat), q ≤ n1 ∧ bv = .slice VA q vc ∧ j = .int .i64 (q : Int) ∧ Hid (St w [tblT p A na, tblT (p + 1) A nb, rowT 3 1 (.slice VA q vc) q (nums (vs.reverse.take q))] wr)) (fun _ j _ => n1 - (RowKit.intOf j).toNat)
      case atStart => exact ⟨0, none, 0, Nat.zero_le _, rfl, rfl, HS4.out⟩
      case round =>
        obtain ⟨q, VA, vc, hq, rfl, rfl, hS⟩ := hrel
        rcases Nat.lt_or_ge q n1 with hlt | hge
        · have Hlq := hide hlt
          have hqi : (q : Int) < (n1 : Int) := by omega
          obtain ⟨x, hx⟩ : ∃ x, vs[n1 - 1 - q]? = some x := ⟨_, List.getElem?_eq_getElem (by rw [Hl1.out]; omega)⟩
          have hxr : vs.reverse[q]? = some x := by
            rw [List.getElem?_reverse (by rw [Hl1.out]; exact hlt), Hl1.out]
            exact hx
          obtain ⟨gg, oo, rfl, _, d1⟩ := Src.num (Hs1.out.below hS.out.bel) hx
          have HT := hide (show vs.reverse.take (q + 1) = vs.reverse.take q ++ [x] by rw [List.take_add_one, hxr]; rfl)
          have hb5 : Below wr.heap.size wr (wr.alloc (.cells #[.int .i64 x] 3)) := (Below.refl _ _).alloc (Nat.le_refl _) _
          have HO := hide (St.orow (hS.out.below hb5) (i := 2) rfl)
          have HM : Hid (Src (wr.alloc (.cells #[.int .i64 x] 3)) (some ⟨wr.heap.size, 0, none⟩) (nums [x])) := (Made.row (Below.refl _ wr) #[.int .i64 x] 3).src
          have HA := hide (fun (W2 : World) (v2 : Value) (hg : Grown (wr.alloc (.cells #[.int .i64 x] 3)) 3 1 (.slice VA q vc) (q + 1) (nums (vs.reverse.take q) ++ nums [x]) v2 W2) => (⟨St.app hS.out (i := 2) rfl hb5 hg, hg.row.form⟩ : St w _ W2 ∧ _))
          have Hm1 := hide (show q + 1 ≤ maxLen by have := Hn1.out; unfold maxLen; omega)
          have Hm2 := hide (show (q + 1) * 8 ≤ 140737488355328 by have := Hn1.out; omega)
          clear hb5 hlt hx hxr hq hS
          go_wp2_with (at_builtin; go_must (refine wpList_app app_int rfl (.tmp 91) (.tmp 100) rfl (.slice VA q vc) q (nums (vs.reverse.take q)) rfl HO.out _ 1 1 (nums [x]) rfl rfl HM.out (fun u hu => by simp [nums] at hu; subst hu; rfl) (by decide) Hm1.out Hm2.out ?_))
          intro v2 W2 hg
          obtain ⟨hS2, VB, vd, rfl, _, _, _⟩ := HA.out _ _ hg.out
          have HS5 := hide (show St w [tblT p A na, tblT (p + 1) A nb, rowT 3 1 (.slice VB (q + 1) vd) (q + 1) (nums (vs.reverse.take (q + 1)))] W2 by
            have e : nums (vs.reverse.take (q + 1)) = nums (vs.reverse.take q) ++ nums [x] := by rw [HT.out]; simp [nums]
            rw [e]
            exact hS2)
          clear hS2 hg HA HO HM HT d1
          go_wp2
          go_roundw
          case rel => exact ⟨q + 1, VB, vd, Hlq.out, rfl, by go_num, HS5.out⟩
          case measure => have := Hlq.out; simp [RowKit.intOf]; omega
        · obtain rfl : q = n1 := by omega
          rw [List.take_of_length_le (by rw [Hbk.out]; exact Nat.le_refl _)] at hS
          have HS5 := hide hS.out
          clear hge hq hS HS4
          go_wp2
          go_loopw [103] (fun j wr => ∃ z : Nat, z ≤ 4 ∧ j = .int .i64 (z : Int) ∧ Hid (St w [tblT p A na, tblT (p + 1) A nb, rowT 3 1 (.slice VA q vc) q (nums vs.reverse)] wr)) (fun j _ => 4 - (RowKit.intOf j).toNat)
          case atStart => exact ⟨0, Nat.zero_le _, rfl, HS5.out⟩
          case round =>
            obtain ⟨z, hz, rfl, hS⟩ := hrel
            rcases Nat.lt_or_ge z 4 with hlt | hge
            · have Hlz := hide hlt
              have hzi : (z : Int) < 4 := by omega
              have HO1 := hide (S_of hS.out (i := 0) rfl (by have := Hnb.out.1; omega) (u := (z : Int)) (by unfold I64; omega))
              obtain ⟨N, hN⟩ : ∃ N, (A (z : Int)).length = N := ⟨_, rfl⟩
              have HN := hide hN
              have HN4 := hide (show N ≤ 100000 by
                have := HTl.out (z : Int)
                rw [hN] at this
                have := Hl.out
                have := Hn.out
                omega)
              clear hlt hz hS hN
              go_wp2_with fail
              refine HO1.out.mono ?_
              rintro e w5 ⟨YA, yc, rfl, hS⟩
              have HO2 := hide (S_of hS (i := 1) rfl (by have := Hnb.out.2; omega) (u := (z : Int)) (by unfold I64; omega))
              clear hS HO1
              go_wp2_with fail
              refine HO2.out.mono ?_
              rintro e w6 ⟨ZA, zc, rfl, hS⟩
              rw [HN.out] at hS ⊢
              have HM := hide (same_any w6 (A (z : Int)) N YA ZA yc zc HN.out HN4.out (St.src hS (i := 3) rfl) (St.src hS (i := 4) rfl))
              have HS6 := hide (show St w [tblT p A na, tblT (p + 1) A nb, rowT 3 1 (.slice VA q vc) q (nums vs.reverse)] w6 from St.weaken (Us := [_, _]) hS)
              clear hS HO2
              go_wp2_with fail
              refine HM.out.mono ?_
              rintro e w7 ⟨rfl, hb7⟩
              have HS7 := hide (HS6.out.below hb7)
              clear hb7 HM HS6
              go_wp2
              go_roundw
              case rel => exact ⟨z + 1, Hlz.out, by go_num, HS7.out⟩
              case measure => have := Hlz.out; simp [RowKit.intOf]; omega
            · obtain rfl : z = 4 := by omega
              have HN1 := hide (S_newest hS.out (i := 0) rfl A1 q c1 vs Hl1.out (by have := Hn1.out; omega) (Hs1.out.below hS.out.bel) Hf1.out)
              clear hge hz hS HS5
              go_wp2_with fail
              refine HN1.out.mono ?_
              rintro e w5 ⟨⟨r, rfl, hr⟩, hS⟩
              have HR := hide hr
              have HN2 := hide (S_newest hS (i := 1) rfl VA q vc vs.reverse Hbk.out (by have := Hn1.out; omega) (St.src hS (i := 2) rfl) (fun v hv => Hf1.out v (List.mem_reverse.1 hv)))
              clear hS HN1 hr
              go_wp2_with fail
              refine HN2.out.mono ?_
              rintro e w6 ⟨⟨s, rfl, hs⟩, hS⟩
              obtain rfl := HR.out.back hs
              have HB := hide hS.bel
              clear hs hS HN2
              go_wp2
              go_ret
              exact ⟨by simp, HB.out⟩
theorem MarksOrder_any (A0 : Option Addr) (n c : Nat) (l : List Oq) (A1 : Option Addr) (n1 c1 : Nat) (vs : List Int) (m : Nat) (w : World) (hl : l.length = n) (hf : OFits l) (hs : Src w A0 (ocels l)) (hl1 : vs.length = n1) (hf1 : Fits vs) (hs1 : Src w A1 (nums vs)) (_hm : m < 18446744073709551616) :
    Calls Try.prog 4 #[.slice A0 n c, .slice A1 n1 c1, .int .u64 (m : Int)] w fun e w' => e = .returned (.bool true) ∧ Below w.heap.size w w' := by
  rcases Nat.lt_or_ge 200 n with h | h
  · exact MarksOrder_long A0 n c A1 n1 c1 m w h
  · rcases Nat.lt_or_ge 20 n1 with h1 | h1
    · exact MarksOrder2_long A0 n c A1 n1 c1 m w h h1
    · rcases Nat.eq_zero_or_pos n with h0 | h0
      · subst h0
        exact MarksOrder3_long A0 c A1 n1 c1 m w h1
      · exact MarksOrder_law A0 n c l A1 n1 c1 vs (m : Int) (m % n) w hl h hf hs hl1 h1 hf1 hs1 h0 (Nat.mod_lt _ h0) (by rw [Int.tmod_eq_emod_of_nonneg (by omega)]; omega)

end Go.Proofs.Ytenenhhijkjjfaa.Mk
