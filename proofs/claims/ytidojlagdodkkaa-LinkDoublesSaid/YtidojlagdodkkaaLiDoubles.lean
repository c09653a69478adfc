/-
  The walk of isobarlaw10.LinkDoubles: it returns true, at every script and number; nothing that was there is changed.
-/
import Derived.Test.YtidojlagdodkkaaLkOp
import Derived.Test.YtidojlagdodkkaaLkSt
import Derived.Test.YtidojlagdodkkaaLiAwake
namespace Go.Proofs.Ytidojlagdodkkaa.Li
open Go.RowKit
open Pk Dk Wn Lk

theorem cap4096' : cap 4096 = 4096 := rfl
/-- How often a number is among those on their way. -/
def cn (L : List Int) (j : Nat) : Int := ((L.count (j : Int) : Nat) : Int)
theorem cn_snoc (L : List Int) (y j : Nat) : cn (L ++ [(y : Int)]) j = if j = y then cn L j + 1 else cn L j := by
  unfold cn
  rw [List.count_append, List.count_singleton]
  by_cases h : j = y
  · subst h; simp
  · simp [h, show ¬ (y : Int) = (j : Int) by omega]
theorem cn_erase {L : List Int} {i y : Nat} (h : L[i]? = some (y : Int)) (j : Nat) : cn (L.eraseIdx i) j = if j = y then cn L j - 1 else cn L j := by
  obtain ⟨hi, he⟩ := List.getElem?_eq_some_iff.1 h
  have h1 : L = L.take i ++ (y : Int) :: L.drop (i + 1) := by rw [← he, List.getElem_cons_drop hi, List.take_append_drop]
  unfold cn
  rw [List.eraseIdx_eq_take_drop_succ]
  have h2 : L.count (j : Int) = (L.take i).count (j : Int) + ((y : Int) :: L.drop (i + 1)).count (j : Int) := by
    conv => lhs; rw [h1]
    rw [List.count_append]
  rw [h2, List.count_append, List.count_cons]
  by_cases hj : j = y
  · subst hj; simp; omega
  · simp [hj, show ¬ (y : Int) = (j : Int) by omega]
theorem cn_pos {L : List Int} {i y : Nat} (h : L[i]? = some (y : Int)) : 1 ≤ cn L y := by
  have := List.count_pos_iff.2 (List.mem_of_getElem? h)
  unfold cn
  omega
theorem cn_le (L : List Int) (j : Nat) : 0 ≤ cn L j ∧ cn L j ≤ (L.length : Int) := by
  have := List.count_le_length (a := (j : Int)) (l := L)
  unfold cn
  omega
def rng (i : Nat) : List Int := (List.range i).map fun j : Nat => (j : Int)
theorem rng_len (i : Nat) : (rng i).length = i := by simp [rng]
theorem rng_succ (i : Nat) : rng (i + 1) = rng i ++ [(i : Int)] := by simp [rng, List.range_succ]
theorem rng_cn (i : Nat) : ∀ j, j < i → cn (rng i) j = 1 := by
  induction i with
  | zero => intro j hj; omega
  | succ i ih =>
    intro j hj
    rw [rng_succ, cn_snoc]
    by_cases h : j = i
    · subst h
      have : (rng j).count (j : Int) = 0 := List.count_eq_zero.2 fun hm => by
        simp only [rng, List.mem_map, List.mem_range] at hm
        obtain ⟨a, h1, h2⟩ := hm
        omega
      simp [cn, this]
    · rw [if_neg h]
      exact ih j (by omega)
theorem rng_mem {i : Nat} : ∀ x ∈ rng i, 0 ≤ x ∧ x < (i : Int) := by
  intro x hx
  simp only [rng, List.mem_map, List.mem_range] at hx
  obtain ⟨a, h1, rfl⟩ := hx
  omega
/-- What holds of those on their way, behind k steps. -/
def DI (L : List Int) (n k : Nat) : Prop := 1 ≤ L.length ∧ L.length ≤ n + k ∧ ∀ x ∈ L, 0 ≤ x ∧ x < (n : Int)
section
variable {L : List Int} {n k : Nat}
theorem DI.msg (h : DI L n k) {i : Nat} {x : Int} (hx : L[i]? = some x) : ∃ y : Nat, x = (y : Int) ∧ y < n := by
  have := h.2.2 x (List.mem_of_getElem? hx)
  exact ⟨x.toNat, by omega, by omega⟩
theorem DI.more (h : DI L n k) {i : Nat} {x : Int} (hx : L[i]? = some x) : DI (L ++ [x]) n (k + 1) := by
  refine ⟨by simp, by have := h.2.1; rw [List.length_append, List.length_singleton]; omega, fun z hz => ?_⟩
  rcases List.mem_append.1 hz with h5 | h5
  · exact h.2.2 z h5
  · rw [List.mem_singleton.1 h5]; exact h.2.2 x (List.mem_of_getElem? hx)
theorem DI.less (h : DI L n k) {i : Nat} (hi : i < L.length) (h1 : 1 < L.length) : DI (L.eraseIdx i) n (k + 1) := by
  have hl := List.length_eraseIdx_of_lt hi
  exact ⟨by omega, by have := h.2.1; omega, fun z hz => h.2.2 z (List.mem_of_mem_eraseIdx hz)⟩
theorem DI.skip (h : DI L n k) : DI L n (k + 1) := ⟨h.1, by have := h.2.1; omega, h.2.2⟩
end
/-- The link, the table, and those on their way, as the statement itself keeps them. -/
abbrev two (p g n : Nat) (LL : List Int) (xs : List Value) : List Thg := [lnkT p LL 4096 false, rowT 3 1 (.slice (some ⟨g, 0, none⟩) n n) n xs]
abbrev dbl (p g n : Nat) (LL L : List Int) (xs : List Value) (v : Value) : List Thg := [lnkT p LL 4096 false, rowT 3 1 (.slice (some ⟨g, 0, none⟩) n n) n xs, rowT 3 1 v L.length (vals L)]
theorem vals_take (L : List Int) (k : Nat) : vals (L.take k) = (vals L).take k := by have := flat_take L (cel_len L) k; rw [Nat.mul_one] at this; exact this
theorem vals_drop (L : List Int) (k : Nat) : vals (L.drop k) = (vals L).drop k := by have := flat_drop L (cel_len L) k; rw [Nat.mul_one] at this; exact this

set_option maxRecDepth 100000 in
set_option maxHeartbeats 16000000 in
theorem Doubles_any (A : Option Addr) (nl c : Nat) (l : List UInt8) (M : Nat) (w : World) (hl : l.length = nl) (hs : Src w A (cels l)) (hM : M < 256) :
    Calls Try.prog 4 #[.slice A nl c, .int .u8 (M : Int)] w fun e w' => e = .returned (.bool true) ∧ Below w.heap.size w w' := by
  have Hl := hide hl
  have Hs := hide hs
  clear hl hs
  obtain ⟨d, hd⟩ : ∃ d, M % 9 = d := ⟨_, rfl⟩
  obtain ⟨n, hn⟩ : ∃ n, n = d + 1 := ⟨_, rfl⟩
  have Hn1 := hide (show 1 ≤ n by omega)
  have Hn9 := hide (show n ≤ 9 by omega)
  have e1 : Int.tmod (M : Int) 9 = (d : Int) := by rw [Int.tmod_eq_emod_of_nonneg (by omega)]; omega
  have e2 : 1 + (d : Int) = (n : Int) := by omega
  have e3 : IntKind.i64.wrap (n : Int) = (n : Int) := wrap_id (by omega) (by omega)
  have e4 : IntKind.i64.wrap (d : Int) = (d : Int) := wrap_id (by omega) (by omega)
  have e5 : IntKind.i64.wrap (M : Int) = (M : Int) := wrap_id (by omega) (by omega)
  have hMi : (M : Int) ≤ 255 := by omega
  have hni : (n : Int) ≤ 9 := by omega
  clear hd hn hM
  go_enter Try.func4, Try.ntmps4
  go_wp2_with fail
  refine (awake_any w).mono ?_
  rintro e w1 ⟨rfl, hb1⟩
  have HB1 := hide hb1
  have Hs1 := hide (Hs.out.below hb1)
  clear hb1 Hs
  by_cases hbig : 100 < nl
  · have hbi : (100 : Int) < (nl : Int) := by omega
    go_wp2_with fail
    refine (awake_any w1).mono ?_
    rintro e w2 ⟨rfl, hb2⟩
    have HB2 := hide (HB1.out.trans (hb2.mono HB1.out.size))
    clear hb2
    go_wp2
    go_ret
    exact ⟨rfl, HB2.out⟩
  have hbi : ¬ (100 : Int) < (nl : Int) := by omega
  have Hnl := hide (show nl ≤ 100 by omega)
  have hnli : (nl : Int) ≤ 100 := by omega
  clear hbig
  go_wp2_with fail
  refine (New_st (St.start w1) 4096).mono ?_
  rintro e w3 ⟨p, rfl, HS3⟩
  clear e1 e2 e4 e5 hMi
  go_wp2_with (refine wpList_make app_el (.int .i64 0) (by kernel_rfl) rfl rfl _ _ rfl n rfl rfl (by have := Hn9.out; omega) (by decide) ?_)
  intro w4 HM
  obtain ⟨g, hg⟩ : ∃ g, w3.heap.size = g := ⟨_, rfl⟩
  have HS4 : Hid (St w1 (two p g n [] (List.replicate n (.int .i64 0))) w4) := by
    rw [← hg]
    exact HS3.out.add HM.out.2 (T := rowT 3 1 (.slice (some ⟨w3.heap.size, 0, none⟩) n n) n (List.replicate n (.int .i64 0))) HM.out.1 (fun k hk => by rw [hk]; exact Nat.le_refl _)
  rw [hg]
  clear HS3 HM hg
  go_wp2_with fail
  go_loopw [32] (fun j wr => ∃ (i : Nat) (xs : List Value), i ≤ n ∧ j = .int .i64 (i : Int) ∧ Hid (St w1 (two p g n (rng i) xs) wr) ∧ Hid (Tab xs n (fun j => if j < i then 1 else 0))) (fun j _ => n - (intOf j).toNat)
  case atStart => exact ⟨0, _, Nat.zero_le _, rfl, HS4, (Tab.zero n).congr fun j _ => by simp⟩
  case round =>
    clear HS4
    obtain ⟨i, xs, hin, rfl, HS, HT⟩ := hrel
    rcases Nat.lt_or_ge i n with hlt | hge
    · have Hlt := hide hlt
      have hii : (i : Int) < (n : Int) := by omega
      clear hin
      go_wp2_with fail
      refine (Send_room HS.out (i := 0) rfl (i : Int) (by rw [rng_len]; have := Hn9.out; omega)).mono ?_
      rintro e w5 ⟨rfl, HS5⟩
      have HS6 : Hid (St w1 (two p g n (rng (i + 1)) xs) w5) := by rw [rng_succ]; exact HS5.out
      obtain ⟨r1, r2, r3⟩ := St.row0 HS6.out (i := 1) rfl
      have d0 := r1 i _ (HT.out.2 i hlt)
      have d1 := r2 i
      have HR : Hid (St w1 (two p g n (rng (i + 1)) (xs.set i (.int .i64 1))) (w5.setCell ⟨g, i, none⟩ (.int .i64 1))) := r3 i (.int .i64 1) (by rw [HT.out.1]; exact hlt)
      have HT2 : Hid (Tab (xs.set i (.int .i64 1)) n (fun j => if j < i + 1 then 1 else 0)) := (HT.out.set i 1).congr fun j _ => by
        by_cases h1 : j = i
        · subst h1; simp
        · rw [if_neg h1]
          by_cases h2 : j < i
          · rw [if_pos h2, if_pos (by omega)]
          · rw [if_neg h2, if_neg (by omega)]
      clear HS HS5 HS6 r1 r2 r3 HT
      go_wp2
      go_roundw
      case rel => exact ⟨i + 1, _, Hlt.out, by go_num, HR, HT2⟩
      case measure => have := Hlt.out; simp [intOf]; omega
    · obtain rfl : i = n := by omega
      have HS0 : Hid (St w1 (dbl p g i (rng i) (rng 0) xs (.slice none 0 0)) wr) := HS.out.add (Below.refl _ _) (T := rowT 3 1 (.slice none 0 0) 0 []) (Row.nil _ _ _) (fun _ h => h.elim)
      have HT0 : Hid (Tab xs i (cn (rng i))) := HT.out.congr fun j hj => by rw [rng_cn i j hj, if_pos hj]
      clear hge hin HS HT
      go_wp2_with fail
      go_loopw [9, 44] (fun s9 j wr => ∃ (k : Nat) (v : Value), k ≤ i ∧ v = s9 ∧ j = .int .i64 (k : Int) ∧ Hid (St w1 (dbl p g i (rng i) (rng k) xs v) wr)) (fun _ j _ => i - (intOf j).toNat)
      case atStart => exact ⟨0, _, Nat.zero_le _, rfl, rfl, HS0⟩
      case round =>
        clear HS0
        obtain ⟨k, v, hki, rfl, rfl, HS⟩ := hrel
        rcases Nat.lt_or_ge k i with hlt | hge
        · have Hlt := hide hlt
          have hkii : (k : Int) < (i : Int) := by omega
          obtain ⟨hb, hsrc⟩ := made_msg (Below.refl wr.heap.size wr) (k : Int)
          have HO := hide ((St.orow HS.out (i := 2) rfl).below hb)
          rw [rng_len] at HO
          have HM := hide hsrc
          have Hm1 := hide (show k + 1 ≤ maxLen by have := Hn9.out; unfold maxLen; omega)
          have Hm2 := hide (show (k + 1) * 8 ≤ 140737488355328 by have := Hn9.out; omega)
          have HST : Hid (∀ v' w', Grown (wr.alloc (.cells #[.int .i64 (k : Int)] 3)) 3 1 v (k + 1) (vals (rng k) ++ cel (k : Int)) v' w' → St w1 (dbl p g i (rng i) (rng (k + 1)) xs v') w') := fun v' w' hg => by
            have := St.app HS.out (i := 2) rfl hb hg
            have hv : vals (rng (k + 1)) = vals (rng k) ++ cel (k : Int) := by rw [rng_succ, vals_append, vals_one1]; rfl
            show St w1 [_, _, rowT _ 1 v' (rng (k + 1)).length (vals (rng (k + 1)))] w'
            rw [rng_len, hv]
            exact this
          clear hb hsrc hlt hki
          go_wp2_with (at_builtin; go_must (refine wpList_app app_el rfl (.tmp 47) (.tmp 49) rfl v k (vals (rng k)) rfl HO.out _ 1 1 (cel (k : Int)) rfl rfl HM.out (cel_one _) (by decide) Hm1.out Hm2.out ?_))
          intro v' w' hg
          have HS6 := hide (HST.out v' w' hg.out)
          clear hg HST HO HM HS
          go_wp2
          go_roundw
          case rel => exact ⟨k + 1, v', Hlt.out, rfl, by go_num, HS6⟩
          case measure => have := Hlt.out; simp [intOf]; omega
        · obtain rfl : k = i := by omega
          have HS1 := hide HS.out
          clear HS hge hki
          go_wp2_with fail
          go_loopw [9, 54] (fun s9 j wr => ∃ (i : Nat) (L : List Int) (xs : List Value) (v : Value), i ≤ nl ∧ v = s9 ∧ j = .int .i64 (i : Int) ∧ Hid (St w1 (dbl p g k L L xs v) wr) ∧ Hid (Tab xs k (cn L)) ∧ Hid (DI L k i)) (fun _ j _ => nl - (intOf j).toNat)
          case atStart => exact ⟨0, rng k, xs, _, Nat.zero_le _, rfl, rfl, HS1, HT0, ⟨by rw [rng_len]; exact Hn1.out, by rw [rng_len]; omega, rng_mem⟩⟩
          case round =>
            clear HS1 HT0
            obtain ⟨i, L, xs, v, hil, rfl, rfl, HS, HT, HI⟩ := hrel
            obtain ⟨m, hm⟩ : ∃ m, L.length = m := ⟨_, rfl⟩
            have Hm := hide hm
            have hm1 : 1 ≤ m := by rw [← hm]; exact HI.out.1
            have hmx : m ≤ 109 := by have := HI.out.2.1; have := Hn9.out; have := Hnl.out; omega
            obtain ⟨A2, c2, hv, hmc, hcm, -⟩ := (St.orow HS.out (i := 2) rfl).form
            rw [hm] at hv hmc
            subst hv
            have hmi : (m : Int) ≤ 109 := by omega
            have hmi1 : 1 ≤ (m : Int) := by omega
            have hcx : c2 ≤ 9223372036854775807 := by unfold maxLen at hcm; omega
            rcases Nat.lt_or_ge i nl with hlt | hge
            · have Hlt := hide hlt
              have hii : (i : Int) < (nl : Int) := by omega
              obtain ⟨b, hb⟩ : ∃ b, l[i]? = some b := ⟨_, List.getElem?_eq_getElem (by rw [Hl.out]; exact hlt)⟩
              obtain ⟨gl, ol, rfl, -, b0⟩ := Src.byte (Hs1.out.below HS.out.bel) hb
              obtain ⟨x, hx⟩ : ∃ x, b.toNat = x := ⟨_, rfl⟩
              rw [hx] at b0
              have hx256 : x < 256 := by rw [← hx]; exact b.toNat_lt
              obtain ⟨h, hh⟩ : ∃ h, x / 2 = h := ⟨_, rfl⟩
              obtain ⟨t, ht⟩ : ∃ t, h % m = t := ⟨_, rfl⟩
              have htm : t < m := by rw [← ht]; exact Nat.mod_lt _ hm1
              have htmi : (t : Int) < (m : Int) := by omega
              have f1 : Int.tdiv (x : Int) 2 = (h : Int) := by rw [Int.tdiv_eq_ediv_of_nonneg (by omega)]; omega
              have f2 : IntKind.i64.wrap (h : Int) = (h : Int) := wrap_id (by omega) (by omega)
              have f3 : Int.tmod (h : Int) (m : Int) = (t : Int) := by rw [Int.tmod_eq_emod_of_nonneg (by omega), ← ht]; rfl
              have f4 : IntKind.i64.wrap (t : Int) = (t : Int) := wrap_id (by omega) (by omega)
              have f5 : IntKind.i64.wrap (x : Int) = (x : Int) := wrap_id (by omega) (by omega)
              have f6 : ((m : Int) == 0) = false := by simp; omega
              have f7 : ¬ (m : Int) = 0 := by omega
              have f8 : ¬ m = 0 := by omega
              have hxi : (x : Int) ≤ 255 := by omega
              obtain ⟨z0, hz⟩ : ∃ z0, L[t]? = some z0 := ⟨_, List.getElem?_eq_getElem (by rw [hm]; exact htm)⟩
              obtain ⟨y, rfl, hyk⟩ := HI.out.msg hz
              obtain ⟨go, oo, rfl, hgo, o0⟩ := Src.msg (St.src HS.out (i := 2) (by rw [← hm]; rfl)) hz
              obtain ⟨r1, r2, r3⟩ := St.row0 HS.out (i := 1) rfl
              obtain ⟨cy, hcy⟩ : ∃ cy, cn L y = cy := ⟨_, rfl⟩
              have hc1 := cn_pos hz
              have hc2 := (cn_le L y).2
              rw [hcy] at hc1 hc2
              rw [hm] at hc2
              have d0 := r1 y _ (HT.out.2 y hyk)
              rw [hcy] at d0
              have d1 := r2 y
              have hyi : (y : Int) < (k : Int) := by omega
              have g1 : IntKind.i64.wrap (cy + 1) = cy + 1 := wrap_id (by omega) (by omega)
              have g2 : IntKind.i64.wrap (cy - 1) = cy - 1 := wrap_id (by omega) (by omega)
              have HZ := hide hz
              have Htm := hide htm
              have hil' : i < nl := hlt
              rcases Nat.mod_two_eq_zero_or_one x with hp | hp
              · have p1 : Int.tmod (x : Int) 2 = 0 := by rw [Int.tmod_eq_emod_of_nonneg (by omega)]; omega
                obtain ⟨hb2, hsrc⟩ := made_msg (Below.refl wr.heap.size wr) (y : Int)
                have HO := hide ((St.orow HS.out (i := 2) rfl).below hb2)
                rw [hm] at HO
                have HM := hide hsrc
                have Hm1 := hide (show m + 1 ≤ maxLen by unfold maxLen; omega)
                have Hm2 := hide (show (m + 1) * 8 ≤ 140737488355328 by omega)
                have HST : Hid (∀ v' w', Grown (wr.alloc (.cells #[.int .i64 (y : Int)] 3)) 3 1 (.slice (some ⟨go, oo, none⟩) m c2) (m + 1) (vals L ++ cel (y : Int)) v' w' → St w1 (dbl p g k L (L ++ [(y : Int)]) xs v') w') := fun v' w' hg => by
                  have := St.app HS.out (i := 2) rfl hb2 hg
                  have hv : vals (L ++ [(y : Int)]) = vals L ++ cel (y : Int) := by rw [vals_append, vals_one1]; rfl
                  show St w1 [_, _, rowT _ 1 v' (L ++ [(y : Int)]).length (vals (L ++ [(y : Int)]))] w'
                  rw [hv, List.length_append, hm]
                  exact this
                have HTy : Hid (Tab (xs.set y (.int .i64 (cy + 1))) k (cn (L ++ [(y : Int)]))) := (HT.out.set y (cy + 1)).congr fun j _ => by
                  rw [cn_snoc]
                  by_cases hj : j = y
                  · rw [if_pos hj, if_pos hj, hj, hcy]
                  · rw [if_neg hj, if_neg hj]
                have HI2 := hide (HI.out.more HZ.out)
                have Hy := hide hyk
                have HL4 := hide (show L.length < 4096 by omega)
                have Hx2 := hide (show xs.length = k from HT.out.1)
                have Hr := hide (show ∀ w' v', St w1 (dbl p g k L (L ++ [(y : Int)]) xs v') w' → w'.cell? ⟨g, y, none⟩ = some (.int .i64 cy) ∧ w'.frozen? ⟨g, y, none⟩ = false ∧ St w1 (dbl p g k L (L ++ [(y : Int)]) (xs.set y (.int .i64 (cy + 1))) v') (w'.setCell ⟨g, y, none⟩ (.int .i64 (cy + 1))) ∧ ∃ g3 o3 c3, v' = .slice (some ⟨g3, o3, none⟩) (m + 1) c3 ∧ w'.cell? ⟨g3, o3 + t, none⟩ = some (.int .i64 (y : Int)) from fun w' v' hst => by
                  obtain ⟨r1, r2, r3⟩ := St.row0 hst (i := 1) rfl
                  obtain ⟨A3, c3, hv3, -, -, -⟩ := (St.orow hst (i := 2) rfl).form
                  have hv4 : v' = .slice A3 (m + 1) c3 := by rw [hv3, List.length_append, hm]; rfl
                  subst hv4
                  have hz3 : (L ++ [(y : Int)])[t]? = some (y : Int) := by rw [List.getElem?_append_left (by omega)]; exact hz
                  obtain ⟨g3, o3, rfl, -, h3⟩ := Src.msg (St.src hst (i := 2) (by show some (rowT _ 1 _ (L ++ [(y : Int)]).length _) = _; rw [List.length_append, hm]; rfl)) hz3
                  refine ⟨?_, r2 y, r3 y _ (by rw [HT.out.1]; exact hyk), g3, o3, c3, rfl, h3⟩
                  rw [← hcy]
                  exact r1 y _ (HT.out.2 y hyk))
                clear hb hx hh ht hp hx256 hlt hil hil' hcm r1 r2 r3 hc1 hc2 hz htm hm1 hmx hb2 hsrc d0 d1 hyk hm hgo hmc hcy
                as_aux_lemma =>
                  go_wp2_with (at_builtin; go_must (refine wpList_app app_el rfl (.tmp 72) (.tmp 77) rfl (.slice (some ⟨go, oo, none⟩) m c2) m (vals L) rfl HO.out _ 1 1 (cel (y : Int)) rfl rfl HM.out (cel_one _) (by decide) Hm1.out Hm2.out ?_))
                  intro v' w' hg
                  obtain ⟨q0, q1, q2, g3, o3, c3, rfl, q3⟩ := Hr.out w' v' (HST.out v' w' hg.out)
                  have HS7 := hide q2
                  have ht1 : (t : Int) < (m : Int) + 1 := by omega
                  have ht2 : t < m + 1 := by omega
                  clear hg HST HO HM HS q2 Hr o0 b0
                  go_wp2_with fail
                  refine (Double_at HS7.out (i := 0) rfl t (y : Int) HZ.out HL4.out).mono ?_
                  rintro e w7 ⟨rfl, HS8⟩
                  have HS9 : Hid (St w1 (dbl p g k (L ++ [(y : Int)]) (L ++ [(y : Int)]) (xs.set y (.int .i64 (cy + 1))) (.slice (some ⟨g3, o3, none⟩) (m + 1) c3)) w7) := HS8.out
                  clear HS7 HS8 q0 q1 q3
                  go_wp2
                  go_roundw
                  case rel => exact ⟨i + 1, L ++ [(y : Int)], _, _, Hlt.out, rfl, by go_num, HS9, HTy, HI2⟩
                  case measure => have := Hlt.out; simp [intOf]; omega
              · have p1 : Int.tmod (x : Int) 2 = 1 := by rw [Int.tmod_eq_emod_of_nonneg (by omega)]; omega
                by_cases h1 : m = 1
                · have h1i : ¬ (1 : Int) < (m : Int) := by omega
                  have h1n : ¬ 1 < m := by omega
                  have HI2 := hide HI.out.skip
                  have HS6 := hide HS.out
                  clear hb hx hh ht hp hx256 hlt hil hil' hcm r1 r2 r3 hc1 hc2 hz htm hm1 hmx d0 d1 hyk hm hgo hmc hcy h1 HS
                  as_aux_lemma =>
                    go_wp2
                    go_roundw
                    case rel => exact ⟨i + 1, L, xs, _, Hlt.out, rfl, by go_num, HS6, HT, HI2⟩
                    case measure => have := Hlt.out; simp [intOf]; omega
                · have h1i : (1 : Int) < (m : Int) := by omega
                  have h1n : 1 < m := by omega
                  have HI2 := hide (HI.out.less (show t < L.length by omega) (by omega))
                  have HTy : Hid (Tab (xs.set y (.int .i64 (cy - 1))) k (cn (L.eraseIdx t))) := (HT.out.set y (cy - 1)).congr fun j _ => by
                    rw [cn_erase HZ.out]
                    by_cases hj : j = y
                    · rw [if_pos hj, if_pos hj, hj, hcy]
                    · rw [if_neg hj, if_neg hj]
                  have HS5 : Hid (St w1 (dbl p g k L L (xs.set y (.int .i64 (cy - 1))) (.slice (some ⟨go, oo, none⟩) m c2)) (wr.setCell ⟨g, y, none⟩ (.int .i64 (cy - 1)))) := r3 y (.int .i64 (cy - 1)) (by rw [HT.out.1]; exact hyk)
                  obtain ⟨j, hj⟩ : ∃ j, j = t + 1 := ⟨_, rfl⟩
                  have hji : (t : Int) + 1 = (j : Int) := by omega
                  have hjw : IntKind.i64.wrap (j : Int) = (j : Int) := wrap_id (by omega) (by omega)
                  have b1 : (t : Int) ≤ (m : Int) := by omega
                  have b2 : (j : Int) ≤ (m : Int) := by omega
                  have b3 : (t : Int) ≤ (c2 : Int) := by omega
                  have b4 : (j : Int) ≤ (c2 : Int) := by omega
                  have b5 : (m : Int) ≤ (c2 : Int) := by omega
                  have bb1 : t ≤ m := by omega
                  have bb2 : j ≤ m := by omega
                  have bb3 : t ≤ c2 := by omega
                  have bb4 : j ≤ c2 := by omega
                  have Hj := hide hj
                  have Hl1 : Hid ((vals (L.take t)).length = t * 1) := by show _ = _; rw [vals_len, List.length_take]; omega
                  have Hl2 : Hid ((vals (L.drop (t + 1))).length = (m - j) * 1) := by show _ = _; rw [vals_len, List.length_drop]; omega
                  have Hm1 := hide (show 0 + t ≤ maxLen by unfold maxLen; omega)
                  have Hb1 := hide (show (0 + t) * 8 ≤ 140737488355328 by omega)
                  have Hm2 := hide (show 0 + t + (m - j) ≤ maxLen by unfold maxLen; omega)
                  have Hb2 := hide (show (0 + t + (m - j)) * 8 ≤ 140737488355328 by omega)
                  have HtL := hide (show t < L.length by omega)
                  have Hm := hide hm
                  clear hb hx hh ht hp hx256 hlt hil hil' hcm r1 r2 r3 hc1 hc2 hz htm hm1 hmx hyk hm hgo hmc hcy h1 HS hj
                  as_aux_lemma =>
                    go_wp2_with fail
                    generalize World.setCell _ _ _ = w5 at *
                    have K0 : Hid (Below w5.heap.size w5 w5.drew) := (Below.refl _ _).drew
                    have HK1 : Hid (∀ W, Below w5.heap.size w5 W → Below w5.heap.size w5 (W.alloc (.cells #[] 3))) := fun W hW => hW.alloc hW.size _
                    have HO0 : Hid (∀ W, Below w5.heap.size w5 W → ORow (W.alloc (.cells #[] 3)) 3 1 (.slice (some ⟨W.heap.size, 0, none⟩) 0 0) 0 [] ∧ w5.heap.size ≤ W.heap.size) := fun W hW => ⟨ORow.made (heap_alloc_new W _) rfl (Nat.zero_le _), hW.size⟩
                    have hsrc : Src w5 (some ⟨go, oo, none⟩) (vals L) := St.src HS5.out (i := 2) (by rw [← Hm.out]; rfl)
                    have HS1 : Hid (∀ W, Below w5.heap.size w5 W → Src W (some ⟨go, oo, none⟩) (vals (L.take t))) := fun W hW => by rw [vals_take]; exact (Src.take hsrc t).below hW
                    have HK2 : Hid (∀ (h : Nat) W v w, w5.heap.size ≤ h → Below w5.heap.size w5 W → Grown W 3 1 (.slice (some ⟨h, 0, none⟩) 0 0) (0 + t) ([] ++ vals (L.take t)) v w → Below w5.heap.size w5 w ∧ ∀ k, v.ownBlock = some k → w5.heap.size ≤ k) := fun h W v w hh hW hg => Grown.new hg hW (fun k hk => by simp [Value.ownBlock] at hk; omega)
                    have HST : Hid (∀ W v v2 w, Below w5.heap.size w5 W → (∀ k, v.ownBlock = some k → w5.heap.size ≤ k) → Grown W 3 1 v (0 + t + (m - j)) ([] ++ vals (L.take t) ++ vals (L.drop (t + 1))) v2 w → St w1 (dbl p g k L (L.eraseIdx t) (xs.set y (.int .i64 (cy - 1))) v2) w) := fun W v v2 w hW ho hg => by
                      have h2 := Grown.new hg hW ho
                      have h3 := hg.row
                      rw [List.nil_append, ← vals_append, ← List.eraseIdx_eq_take_drop_succ, show 0 + t + (m - j) = (L.eraseIdx t).length by rw [List.length_eraseIdx_of_lt HtL.out]; have := Hm.out; have := Hj.out; have := HtL.out; omega] at h3
                      exact St.fresh HS5.out (i := 2) rfl h2.1 h3 h2.2
                    by_cases he : c2 = j
                    · have HS2 : Hid (∀ W, Below w5.heap.size w5 W → Src W (some ⟨go, oo, none⟩) (vals (L.drop (t + 1)))) := fun W _ => by
                        rw [List.drop_of_length_le (by have := Hm.out; have := Hj.out; omega)]
                        exact Src.none _ _
                      subst he
                      clear hsrc HS5
                      refine wp_region_any (by kernel_rfl) ?_
                      change wpAny _ _ _ _ _ _ _ (World.drew _)
                      generalize World.drew _ = wd at *
                      refine wpAny_take (i := 1) (oi := ⟨some 105, _, _, _, _, _⟩) (v := ?_) rfl (by kernel_rfl) (by kernel_rfl) (by kernel_rfl) (fun _ _ _ h => h) (Or.inl ⟨by rfl, ?_⟩) ?_
                      rotate_left 1
                      · (intro w; go_simp; try with_reducible rfl)
                      simp only [Act.put, List.setIfInBounds_toArray, List.set_cons_zero, List.set_cons_succ]
                      refine wpAny_take (i := 2) (oi := ⟨some 106, _, _, _, _, _⟩) (v := ?_) rfl (by kernel_rfl) (by kernel_rfl) (by kernel_rfl) (fun _ _ _ h => h) (Or.inl ⟨by rfl, ?_⟩) ?_
                      rotate_left 1
                      · (intro w; go_simp; try with_reducible rfl)
                      simp only [Act.put, List.setIfInBounds_toArray, List.set_cons_zero, List.set_cons_succ]
                      refine wpAny_take (i := 3) (oi := ⟨some 107, _, _, _, _, _⟩) (v := ?_) rfl (by kernel_rfl) (by kernel_rfl) (by kernel_rfl) (fun _ _ _ h => h) (Or.inl ⟨by rfl, ?_⟩) ?_
                      rotate_left 1
                      · (intro w; go_simp; try with_reducible rfl)
                      simp only [Act.put, List.setIfInBounds_toArray, List.set_cons_zero, List.set_cons_succ]
                      refine wpAny_take (i := 5) (oi := ⟨some 109, _, _, _, _, _⟩) (v := ?_) rfl (by kernel_rfl) (by kernel_rfl) (by kernel_rfl) (fun _ _ _ h => h) (Or.inl ⟨by rfl, ?_⟩) ?_
                      rotate_left 1
                      · (intro w; go_simp; try with_reducible rfl)
                      simp only [Act.put, List.setIfInBounds_toArray, List.set_cons_zero, List.set_cons_succ]
                      refine wpAny_take (i := 6) (oi := ⟨some 110, _, _, _, _, _⟩) (v := ?_) rfl (by kernel_rfl) (by kernel_rfl) (by kernel_rfl) (fun _ _ _ h => h) (Or.inl ⟨by rfl, ?_⟩) ?_
                      rotate_left 1
                      · (intro w; go_simp; try with_reducible rfl)
                      simp only [Act.put, List.setIfInBounds_toArray, List.set_cons_zero, List.set_cons_succ]
                      refine wpAny_take (i := 7) (oi := ⟨some 111, _, _, _, _, _⟩) (v := ?_) rfl (by kernel_rfl) (by kernel_rfl) (by kernel_rfl) (fun _ _ _ h => h) (Or.inl ⟨by rfl, ?_⟩) ?_
                      rotate_left 1
                      · (intro w; go_simp; try with_reducible rfl)
                      simp only [Act.put, List.setIfInBounds_toArray, List.set_cons_zero, List.set_cons_succ]
                      refine wpAny_take (i := 8) (oi := ⟨some 112, _, _, _, _, _⟩) (v := ?_) rfl (by kernel_rfl) (by kernel_rfl) (by kernel_rfl) (fun _ _ _ h => h) (Or.inl ⟨by rfl, ?_⟩) ?_
                      rotate_left 1
                      · (intro w; go_simp; try with_reducible rfl)
                      simp only [Act.put, List.setIfInBounds_toArray, List.set_cons_zero, List.set_cons_succ]
                      refine wpAny_ready (rs := [0]) (by kernel_rfl) (by simp) ?_
                      refine AllReady.cons (o := ⟨some 104, _, _, _, _, _⟩) rfl (fun K hK => ?_) AllReady.nil
                      go_simp
                      have K1 := hide (HK1.out _ K0.out)
                      obtain ⟨ho1, hs1⟩ := HO0.out _ K0.out
                      have HO1 := hide ho1
                      clear ho1
                      generalize World.alloc _ _ = W1 at *
                      refine hK _ _ ?_
                      clear hK K
                      refine wpAny_ready (rs := [4]) (by kernel_rfl) (by simp) ?_
                      refine AllReady.cons (o := ⟨some 108, _, _, _, _, _⟩) rfl (fun K hK => ?_) AllReady.nil
                      refine step_app app_el (by rfl) (.tmp 104) (.tmp 107) rfl _ 0 [] rfl HO1.out (some ⟨go, oo, none⟩) t c2 (vals (L.take t)) rfl Hl1.out (HS1.out _ K1.out) (vals_one _) (by decide) Hm1.out Hb1.out ?_
                      intro v1 w2 hg
                      have hk2 := HK2.out _ _ _ _ hs1 K1.out hg.out
                      have K2 := hide hk2.1
                      have HW1 := hide hk2.2
                      have HR1 := hide hg.out.row
                      clear hg hk2 hs1
                      refine hK _ _ ?_
                      clear hK K
                      refine wpAny_ready (rs := [9]) (by kernel_rfl) (by simp) ?_
                      refine AllReady.cons (o := ⟨some 113, _, _, _, _, _⟩) rfl (fun K hK => ?_) AllReady.nil
                      refine step_app app_el (by rfl) (.tmp 108) (.tmp 112) rfl v1 _ _ rfl HR1.out (some ⟨go, oo, none⟩) (m - c2) 0 (vals (L.drop (t + 1))) rfl Hl2.out (HS2.out _ K2.out) (vals_one _) (by decide) Hm2.out Hb2.out ?_
                      intro v2 w3 hg
                      have HS6 := hide (HST.out _ _ _ _ K2.out HW1.out hg.out)
                      clear hg HR1 HW1
                      refine hK _ _ ?_
                      clear hK K
                      refine wpAny_take (i := 10) (oi := ⟨some 9, _, _, _, _, _⟩) (v := ?_) rfl (by kernel_rfl) (by kernel_rfl) (by kernel_rfl) (fun _ _ _ h => h) (Or.inl ⟨by rfl, ?_⟩) ?_
                      rotate_left 1
                      · (intro w; go_simp; try with_reducible rfl)
                      simp only [Act.put, List.setIfInBounds_toArray, List.set_cons_zero, List.set_cons_succ]
                      refine wpAny_done (by kernel_rfl) ?_ _
                      clear HS1 HS2 HO1 HK1 HK2 HO0 HST K0 K1 K2
                      go_wp2_with fail
                      refine (Drop_at HS6.out (i := 0) rfl t HtL.out).mono ?_
                      rintro e w7 ⟨rfl, HS7⟩
                      have HS8 : Hid (St w1 (dbl p g k (L.eraseIdx t) (L.eraseIdx t) (xs.set y (.int .i64 (cy - 1))) v2) w7) := HS7.out
                      clear HS6 HS7
                      go_wp2
                      go_roundw
                      case rel => exact ⟨i + 1, L.eraseIdx t, _, v2, Hlt.out, rfl, by go_num, HS8, HTy, HI2⟩
                      case measure => have := Hlt.out; simp [intOf]; omega
                    · have HS2 : Hid (∀ W, Below w5.heap.size w5 W → Src W (some ⟨go, oo + j, none⟩) (vals (L.drop (t + 1)))) := fun W hW => by rw [vals_drop, Hj.out]; exact (Src.drop hsrc (t + 1)).below hW
                      clear hsrc HS5
                      refine wp_region_any (by kernel_rfl) ?_
                      change wpAny _ _ _ _ _ _ _ (World.drew _)
                      generalize World.drew _ = wd at *
                      refine wpAny_take (i := 1) (oi := ⟨some 105, _, _, _, _, _⟩) (v := ?_) rfl (by kernel_rfl) (by kernel_rfl) (by kernel_rfl) (fun _ _ _ h => h) (Or.inl ⟨by rfl, ?_⟩) ?_
                      rotate_left 1
                      · (intro w; go_simp; try with_reducible rfl)
                      simp only [Act.put, List.setIfInBounds_toArray, List.set_cons_zero, List.set_cons_succ]
                      refine wpAny_take (i := 2) (oi := ⟨some 106, _, _, _, _, _⟩) (v := ?_) rfl (by kernel_rfl) (by kernel_rfl) (by kernel_rfl) (fun _ _ _ h => h) (Or.inl ⟨by rfl, ?_⟩) ?_
                      rotate_left 1
                      · (intro w; go_simp; try with_reducible rfl)
                      simp only [Act.put, List.setIfInBounds_toArray, List.set_cons_zero, List.set_cons_succ]
                      refine wpAny_take (i := 3) (oi := ⟨some 107, _, _, _, _, _⟩) (v := ?_) rfl (by kernel_rfl) (by kernel_rfl) (by kernel_rfl) (fun _ _ _ h => h) (Or.inl ⟨by rfl, ?_⟩) ?_
                      rotate_left 1
                      · (intro w; go_simp; try with_reducible rfl)
                      simp only [Act.put, List.setIfInBounds_toArray, List.set_cons_zero, List.set_cons_succ]
                      refine wpAny_take (i := 5) (oi := ⟨some 109, _, _, _, _, _⟩) (v := ?_) rfl (by kernel_rfl) (by kernel_rfl) (by kernel_rfl) (fun _ _ _ h => h) (Or.inl ⟨by rfl, ?_⟩) ?_
                      rotate_left 1
                      · (intro w; go_simp; try with_reducible rfl)
                      simp only [Act.put, List.setIfInBounds_toArray, List.set_cons_zero, List.set_cons_succ]
                      refine wpAny_take (i := 6) (oi := ⟨some 110, _, _, _, _, _⟩) (v := ?_) rfl (by kernel_rfl) (by kernel_rfl) (by kernel_rfl) (fun _ _ _ h => h) (Or.inl ⟨by rfl, ?_⟩) ?_
                      rotate_left 1
                      · (intro w; go_simp; try with_reducible rfl)
                      simp only [Act.put, List.setIfInBounds_toArray, List.set_cons_zero, List.set_cons_succ]
                      refine wpAny_take (i := 7) (oi := ⟨some 111, _, _, _, _, _⟩) (v := ?_) rfl (by kernel_rfl) (by kernel_rfl) (by kernel_rfl) (fun _ _ _ h => h) (Or.inl ⟨by rfl, ?_⟩) ?_
                      rotate_left 1
                      · (intro w; go_simp; try with_reducible rfl)
                      simp only [Act.put, List.setIfInBounds_toArray, List.set_cons_zero, List.set_cons_succ]
                      refine wpAny_take (i := 8) (oi := ⟨some 112, _, _, _, _, _⟩) (v := ?_) rfl (by kernel_rfl) (by kernel_rfl) (by kernel_rfl) (fun _ _ _ h => h) (Or.inl ⟨by rfl, ?_⟩) ?_
                      rotate_left 1
                      · (intro w; go_simp; try with_reducible rfl)
                      simp only [Act.put, List.setIfInBounds_toArray, List.set_cons_zero, List.set_cons_succ]
                      refine wpAny_ready (rs := [0]) (by kernel_rfl) (by simp) ?_
                      refine AllReady.cons (o := ⟨some 104, _, _, _, _, _⟩) rfl (fun K hK => ?_) AllReady.nil
                      go_simp
                      have K1 := hide (HK1.out _ K0.out)
                      obtain ⟨ho1, hs1⟩ := HO0.out _ K0.out
                      have HO1 := hide ho1
                      clear ho1
                      generalize World.alloc _ _ = W1 at *
                      refine hK _ _ ?_
                      clear hK K
                      refine wpAny_ready (rs := [4]) (by kernel_rfl) (by simp) ?_
                      refine AllReady.cons (o := ⟨some 108, _, _, _, _, _⟩) rfl (fun K hK => ?_) AllReady.nil
                      refine step_app app_el (by rfl) (.tmp 104) (.tmp 107) rfl _ 0 [] rfl HO1.out (some ⟨go, oo, none⟩) t c2 (vals (L.take t)) rfl Hl1.out (HS1.out _ K1.out) (vals_one _) (by decide) Hm1.out Hb1.out ?_
                      intro v1 w2 hg
                      have hk2 := HK2.out _ _ _ _ hs1 K1.out hg.out
                      have K2 := hide hk2.1
                      have HW1 := hide hk2.2
                      have HR1 := hide hg.out.row
                      clear hg hk2 hs1
                      refine hK _ _ ?_
                      clear hK K
                      refine wpAny_ready (rs := [9]) (by kernel_rfl) (by simp) ?_
                      refine AllReady.cons (o := ⟨some 113, _, _, _, _, _⟩) rfl (fun K hK => ?_) AllReady.nil
                      refine step_app app_el (by rfl) (.tmp 108) (.tmp 112) rfl v1 _ _ rfl HR1.out (some ⟨go, oo + j, none⟩) (m - j) (c2 - j) (vals (L.drop (t + 1))) rfl Hl2.out (HS2.out _ K2.out) (vals_one _) (by decide) Hm2.out Hb2.out ?_
                      intro v2 w3 hg
                      have HS6 := hide (HST.out _ _ _ _ K2.out HW1.out hg.out)
                      clear hg HR1 HW1
                      refine hK _ _ ?_
                      clear hK K
                      refine wpAny_take (i := 10) (oi := ⟨some 9, _, _, _, _, _⟩) (v := ?_) rfl (by kernel_rfl) (by kernel_rfl) (by kernel_rfl) (fun _ _ _ h => h) (Or.inl ⟨by rfl, ?_⟩) ?_
                      rotate_left 1
                      · (intro w; go_simp; try with_reducible rfl)
                      simp only [Act.put, List.setIfInBounds_toArray, List.set_cons_zero, List.set_cons_succ]
                      refine wpAny_done (by kernel_rfl) ?_ _
                      clear HS1 HS2 HO1 HK1 HK2 HO0 HST K0 K1 K2
                      go_wp2_with fail
                      refine (Drop_at HS6.out (i := 0) rfl t HtL.out).mono ?_
                      rintro e w7 ⟨rfl, HS7⟩
                      have HS8 : Hid (St w1 (dbl p g k (L.eraseIdx t) (L.eraseIdx t) (xs.set y (.int .i64 (cy - 1))) v2) w7) := HS7.out
                      clear HS6 HS7
                      go_wp2
                      go_roundw
                      case rel => exact ⟨i + 1, L.eraseIdx t, _, v2, Hlt.out, rfl, by go_num, HS8, HTy, HI2⟩
                      case measure => have := Hlt.out; simp [intOf]; omega
            · obtain rfl : i = nl := by omega
              have HS1 : Hid (St w1 (two p g k (L.drop 0) xs) wr) := St.weaken (Ts := two p g k L xs) (Us := [rowT 3 1 (.slice A2 m c2) L.length (vals L)]) HS.out
              have HT1 : Hid (Tab xs k (cn (L.drop 0))) := HT.out
              have HI1 := hide HI.out
              clear HS HT HI hge hil hm hm1 hmx hmc hcm hmi1 hcx
              go_wp2_with fail
              go_loopw [121] (fun j wr => ∃ (q : Nat) (xs : List Value), q ≤ m ∧ j = .int .i64 (q : Int) ∧ Hid (St w1 (two p g k (L.drop q) xs) wr) ∧ Hid (Tab xs k (cn (L.drop q)))) (fun j _ => m - (intOf j).toNat)
              case atStart => exact ⟨0, xs, Nat.zero_le _, rfl, HS1, HT1⟩
              case round =>
                clear HS1 HT1
                obtain ⟨q, xs, hqm, rfl, HS, HT⟩ := hrel
                rcases Nat.lt_or_ge q m with hlt | hge
                · have Hlt := hide hlt
                  have hqi : (q : Int) < (m : Int) := by omega
                  obtain ⟨z0, hz⟩ : ∃ z0, L[q]? = some z0 := ⟨_, List.getElem?_eq_getElem (by rw [Hm.out]; exact hlt)⟩
                  obtain ⟨y, rfl, hyk⟩ := HI1.out.msg hz
                  have hz0 : (L.drop q)[0]? = some (y : Int) := by rw [List.getElem?_drop]; exact hz
                  have HZ := hide hz0
                  have hyi : (y : Int) < (k : Int) := by omega
                  have hy0 : ¬ (y : Int) < 0 := by omega
                  have hyk2 : ¬ (k : Int) ≤ (y : Int) := by omega
                  have hyn : ¬ k ≤ y := by omega
                  obtain ⟨cy, hcy⟩ : ∃ cy, cn (L.drop q) y = cy := ⟨_, rfl⟩
                  have hc1 := cn_pos hz0
                  have hc2 := (cn_le (L.drop q) y).2
                  rw [hcy] at hc1 hc2
                  rw [List.length_drop, Hm.out] at hc2
                  have g2 : IntKind.i64.wrap (cy - 1) = cy - 1 := wrap_id (by omega) (by omega)
                  have HTy : Hid (Tab (xs.set y (.int .i64 (cy - 1))) k (cn (L.drop (q + 1)))) := (HT.out.set y (cy - 1)).congr fun j _ => by
                    have he : L.drop (q + 1) = (L.drop q).eraseIdx 0 := by rw [List.eraseIdx_zero, List.tail_drop]
                    rw [he, cn_erase HZ.out]
                    by_cases hj : j = y
                    · rw [if_pos hj, if_pos hj, hj, hcy]
                    · rw [if_neg hj, if_neg hj]
                  have Hr := hide (show ∀ w', St w1 ((two p g k (L.drop q) xs).set 0 (lnkT p ((L.drop q).eraseIdx 0) 4096 false)) w' → w'.cell? ⟨g, y, none⟩ = some (.int .i64 cy) ∧ w'.frozen? ⟨g, y, none⟩ = false ∧ St w1 (two p g k (L.drop (q + 1)) (xs.set y (.int .i64 (cy - 1)))) (w'.setCell ⟨g, y, none⟩ (.int .i64 (cy - 1))) from fun w' hst => by
                    rw [List.eraseIdx_zero, List.tail_drop] at hst
                    obtain ⟨r1, r2, r3⟩ := St.row0 hst (i := 1) rfl
                    refine ⟨?_, r2 y, r3 y _ (by rw [HT.out.1]; exact hyk)⟩
                    rw [← hcy]
                    exact r1 y _ (HT.out.2 y hyk))
                  clear hlt hqm hz hz0 hyk hcy hc1 hc2
                  as_aux_lemma =>
                    go_wp2_with fail
                    refine (Deliver_at HS.out (i := 0) rfl 0 (y : Int) HZ.out).mono ?_
                    rintro e w7 ⟨rfl, HS7⟩
                    obtain ⟨d0, d1, d2⟩ := Hr.out w7 HS7.out
                    have HS8 := hide d2
                    clear HS HS7 d2 Hr
                    go_wp2
                    go_roundw
                    case rel => exact ⟨q + 1, _, Hlt.out, by go_num, HS8, HTy⟩
                    case measure => have := Hlt.out; simp [intOf]; omega
                · obtain rfl : q = m := by omega
                  have hd : L.drop q = [] := List.drop_of_length_le (by rw [Hm.out]; exact Nat.le_refl _)
                  rw [hd] at HS HT
                  have HS8 := hide HS.out
                  have HT8 := hide HT.out
                  clear HS HT hge hqm hd
                  go_wp2_with fail
                  go_loopw [148] (fun j wr => ∃ (u : Nat), u ≤ k ∧ j = .int .i64 (u : Int) ∧ Hid (St w1 (two p g k [] xs) wr)) (fun j _ => k - (intOf j).toNat)
                  case atStart => exact ⟨0, Nat.zero_le _, rfl, HS8⟩
                  case round =>
                    clear HS8
                    obtain ⟨u, huk, rfl, HS⟩ := hrel
                    rcases Nat.lt_or_ge u k with hlt | hge
                    · have Hlt := hide hlt
                      have hui : (u : Int) < (k : Int) := by omega
                      obtain ⟨r1, -, -⟩ := St.row0 HS.out (i := 1) rfl
                      have d0 := r1 u _ (HT8.out.2 u hlt)
                      have hcz : cn [] u = 0 := rfl
                      rw [hcz] at d0
                      clear r1 hcz huk
                      go_wp2
                      go_roundw
                      case rel => exact ⟨u + 1, Hlt.out, by go_num, HS⟩
                      case measure => have := Hlt.out; simp [intOf]; omega
                    · obtain rfl : u = k := by omega
                      clear hge huk
                      go_wp2_with fail
                      refine (Len_st HS.out (i := 0) rfl).mono ?_
                      rintro e w9 ⟨rfl, hb9⟩
                      have HB9 := hide (HB1.out.trans ((HS.out.below hb9).bel.mono HB1.out.size))
                      clear HS hb9
                      go_wp2
                      go_ret
                      exact ⟨rfl, HB9.out⟩

end Go.Proofs.Ytidojlagdodkkaa.Li
