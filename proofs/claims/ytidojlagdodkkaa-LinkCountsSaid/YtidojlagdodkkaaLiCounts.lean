/-
  The walk of isobarlaw10.LinkCounts: it returns true, at every script; nothing that was there is changed.
-/
import Derived.Test.YtidojlagdodkkaaLkOp
import Derived.Test.YtidojlagdodkkaaLkSt
import Derived.Test.YtidojlagdodkkaaLiAwake
namespace Go.Proofs.Ytidojlagdodkkaa.Li
open Go.RowKit
open Pk Dk Wn Lk

/-- What holds of the numbers: made, gone, sent, behind k calls. -/
def CI (L : List Int) (k made gone sent : Nat) : Prop := made = gone + L.length ∧ made ≤ k ∧ sent ≤ k ∧ ∀ x ∈ L, 0 ≤ x ∧ x < (sent : Int)
section
variable {L : List Int} {k made gone sent : Nat}
theorem CI.skip (h : CI L k made gone sent) : CI L (k + 1) made gone sent := ⟨h.1, Nat.le_succ_of_le h.2.1, Nat.le_succ_of_le h.2.2.1, h.2.2.2⟩
theorem CI.send (h : CI L k made gone sent) : CI (L ++ [(sent : Int)]) (k + 1) (made + 1) gone (sent + 1) := by
  obtain ⟨h1, h2, h3, h4⟩ := h
  refine ⟨by rw [List.length_append, List.length_singleton]; omega, by omega, by omega, fun x hx => ?_⟩
  rcases List.mem_append.1 hx with h5 | h5
  · have := h4 x h5; omega
  · have := List.mem_singleton.1 h5; omega
theorem CI.double (h : CI L k made gone sent) {i : Nat} {x : Int} (hx : L[i]? = some x) : CI (L ++ [x]) (k + 1) (made + 1) gone sent := by
  obtain ⟨h1, h2, h3, h4⟩ := h
  refine ⟨by rw [List.length_append, List.length_singleton]; omega, by omega, by omega, fun y hy => ?_⟩
  rcases List.mem_append.1 hy with h5 | h5
  · exact h4 y h5
  · rw [List.mem_singleton.1 h5]; exact h4 x (List.mem_of_getElem? hx)
theorem CI.go (h : CI L k made gone sent) {i : Nat} (hi : i < L.length) : CI (L.eraseIdx i) (k + 1) made (gone + 1) sent := by
  obtain ⟨h1, h2, h3, h4⟩ := h
  refine ⟨by rw [List.length_eraseIdx_of_lt hi]; omega, by omega, by omega, fun y hy => h4 y (List.mem_of_mem_eraseIdx hy)⟩
theorem CI.msg (h : CI L k made gone sent) {i : Nat} {x : Int} (hx : L[i]? = some x) : ∃ y : Nat, x = (y : Int) ∧ y < sent := by
  have := h.2.2.2 x (List.mem_of_getElem? hx)
  exact ⟨x.toNat, by omega, by omega⟩
end
theorem cap4096 : cap 4096 = 4096 := rfl
/-- The link, and the table. -/
abbrev cts (p g : Nat) (L : List Int) (xs : List Value) : List Thg := [lnkT p L 4096 false, rowT 3 1 (.slice (some ⟨g, 0, none⟩) 400 400) 400 xs]

set_option maxRecDepth 100000 in
set_option maxHeartbeats 16000000 in
theorem Counts_any (A : Option Addr) (n c : Nat) (l : List Oq) (w : World) (hl : l.length = n) (hs : Src w A (ocels l)) :
    Calls Try.prog 3 #[.slice A n c] w fun e w' => e = .returned (.bool true) ∧ Below w.heap.size w w' := by
  have Hl := hide hl
  have Hs := hide hs
  clear hl hs
  go_enter Try.func3, Try.ntmps3
  go_wp2_with fail
  refine (awake_any w).mono ?_
  rintro e w1 ⟨rfl, hb1⟩
  have HB1 := hide hb1
  have HF := hide (few_any A n c l w1 Hl.out (Hs.out.below hb1))
  clear hb1
  go_wp2_with fail
  refine HF.out.mono ?_
  rintro e w2 ⟨b, rfl, hn, hb2⟩
  have HB2 := hide (HB1.out.trans (hb2.mono HB1.out.size))
  have Hn := hide hn
  clear hb2 hn HF HB1
  cases b with
  | false =>
    clear Hn
    go_wp2_with fail
    refine (awake_any w2).mono ?_
    rintro e w3 ⟨rfl, hb3⟩
    have HB3 := hide (HB2.out.trans (hb3.mono HB2.out.size))
    clear hb3
    go_wp2
    go_ret
    exact ⟨rfl, HB3.out⟩
  | true =>
    have Hn3 := hide (Hn.out rfl)
    have hn3 : (n : Int) ≤ 300 := by have := Hn3.out; omega
    clear Hn
    go_wp2_with fail
    refine (New_st (St.start w2) 4096).mono ?_
    rintro e w3 ⟨p, rfl, HS3⟩
    go_wp2_with (refine wpList_make app_el (.int .i64 0) (by kernel_rfl) rfl rfl _ _ rfl 400 rfl rfl (by decide) (by decide) ?_)
    intro w4 HM
    obtain ⟨g, hg⟩ : ∃ g, w3.heap.size = g := ⟨_, rfl⟩
    have HS4 : Hid (St w2 (cts p g [] (List.replicate 400 (.int .i64 0))) w4) := by
      rw [← hg]
      exact HS3.out.add HM.out.2 (T := rowT 3 1 (.slice (some ⟨w3.heap.size, 0, none⟩) 400 400) 400 (List.replicate 400 (.int .i64 0))) HM.out.1 (fun k hk => by rw [hk]; exact Nat.le_refl _)
    rw [hg]
    clear HS3 HM hg
    go_wp2_with fail
    go_loopw [4, 5, 7, 23] (fun m4 g5 s7 j wr => ∃ (k made gone sent : Nat) (L : List Int) (xs : List Value) (f : Nat → Int), k ≤ n ∧ m4 = .int .i64 (made : Int) ∧ g5 = .int .i64 (gone : Int) ∧ s7 = .int .i64 (sent : Int) ∧ j = .int .i64 (k : Int) ∧ Hid (St w2 (cts p g L xs) wr) ∧ Hid (Tab xs 400 f) ∧ Hid (CI L k made gone sent)) (fun _ _ _ j _ => n - (intOf j).toNat)
    case atStart => exact ⟨0, 0, 0, 0, [], _, _, Nat.zero_le _, rfl, rfl, rfl, rfl, HS4, Tab.zero 400, ⟨rfl, Nat.le_refl _, Nat.le_refl _, fun x hx => by cases hx⟩⟩
    case round =>
      clear HS4
      obtain ⟨k, made, gone, sent, L, xs, f, hk, rfl, rfl, rfl, rfl, HS, HT, HI⟩ := hrel
      rcases Nat.lt_or_ge k n with hlt | hge
      · have Hlt := hide hlt
        have hki : (k : Int) < (n : Int) := by omega
        obtain ⟨q, hq⟩ : ∃ q, l[k]? = some q := ⟨_, List.getElem?_eq_getElem (by rw [Hl.out]; exact hlt)⟩
        obtain ⟨go, oo, rfl, _, c0, c1, -, -⟩ := Src.op (Hs.out.below (HB2.out.trans (HS.out.bel.mono HB2.out.size))) hq
        obtain ⟨kd, hkd⟩ : ∃ kd, q.kind = kd := ⟨_, rfl⟩
        obtain ⟨qn, hqn⟩ : ∃ qn, q.n = qn := ⟨_, rfl⟩
        rw [hkd] at c0
        rw [hqn] at c1
        have hmi : (made : Int) ≤ 299 := by have := HI.out.2.1; omega
        have hsi : (sent : Int) ≤ 299 := by have := HI.out.2.2.1; omega
        have hgi : (gone : Int) ≤ 299 := by have := HI.out.1; omega
        have x1 : IntKind.i64.wrap ((made : Int) + 1) = (made : Int) + 1 := wrap_id (by omega) (by omega)
        have x2 : IntKind.i64.wrap ((gone : Int) + 1) = (gone : Int) + 1 := wrap_id (by omega) (by omega)
        have x3 : IntKind.i64.wrap ((sent : Int) + 1) = (sent : Int) + 1 := wrap_id (by omega) (by omega)
        clear hq hlt hkd hqn hk
        by_cases k1 : kd = 1
        · subst k1
          clear c1
          as_aux_lemma =>
            go_wp2_with fail
            refine (Send_st HS.out (i := 0) rfl (sent : Int)).mono ?_
            rintro e w5 (⟨-, rfl, HS5⟩ | ⟨-, q, rfl, HF⟩)
            · have hs4 : sent < 400 := by omega
              have HS6 : Hid (St w2 (cts p g (L ++ [(sent : Int)]) xs) w5) := HS5.out
              obtain ⟨r1, r2, r3⟩ := St.row0 HS6.out (i := 1) rfl
              obtain ⟨y, hy⟩ : ∃ y, f sent = y := ⟨_, rfl⟩
              obtain ⟨v, hv⟩ : ∃ v, IntKind.i64.wrap (y + 1) = v := ⟨_, rfl⟩
              have d0 := r1 sent _ (HT.out.2 sent hs4)
              rw [hy] at d0
              have d1 := r2 sent
              have HR : Hid (St w2 (cts p g (L ++ [(sent : Int)]) (xs.set sent (.int .i64 v))) (w5.setCell ⟨g, sent, none⟩ (.int .i64 v))) := r3 sent (.int .i64 v) (by rw [HT.out.1]; exact hs4)
              have HT2 := hide (HT.out.set sent v)
              clear HS HS5 HS6 r1 r2 r3 hy
              go_wp2
              go_roundw
              case rel => exact ⟨k + 1, made + 1, gone, sent + 1, (L ++ [(sent : Int)]), _, _, Hlt.out, by go_num, by go_num, by go_num, by go_num, HR, HT2, HI.out.send⟩
              case measure => have := Hlt.out; simp [intOf]; omega
            · have HS6 := hide (HS.out.below HF.out.2)
              clear HS HF
              go_wp2
              go_roundw
              case rel => exact ⟨k + 1, made, gone, sent, L, xs, f, Hlt.out, rfl, rfl, rfl, by go_num, HS6, HT, HI.out.skip⟩
              case measure => have := Hlt.out; simp [intOf]; omega
        have k1 : (kd == 1) = false := by simpa using k1
        by_cases k2 : kd = 2
        · subst k2
          clear k1
          as_aux_lemma =>
            go_wp2_with fail
            refine (Deliver_st HS.out (i := 0) rfl qn).mono ?_
            rintro e w5 (⟨i, x, rfl, -, Hx, rfl, HS5⟩ | ⟨q, e5, rfl, HF, -⟩)
            · obtain ⟨z, rfl, hz⟩ := HI.out.msg Hx
              have hs4 : z < 400 := by omega
              have hzi : (z : Int) < (sent : Int) := by omega
              have hz0 : (0 : Int) ≤ (z : Int) := by omega
              have hzn : ¬ (z : Int) < 0 := by omega
              have HX := hide (List.getElem?_eq_some_iff.1 Hx).1
              clear Hx hz
              have HS6 : Hid (St w2 (cts p g (L.eraseIdx i) xs) w5) := HS5.out
              obtain ⟨r1, r2, r3⟩ := St.row0 HS6.out (i := 1) rfl
              obtain ⟨y, hy⟩ : ∃ y, f z = y := ⟨_, rfl⟩
              obtain ⟨v, hv⟩ : ∃ v, IntKind.i64.wrap (y - 1) = v := ⟨_, rfl⟩
              have d0 := r1 z _ (HT.out.2 z hs4)
              rw [hy] at d0
              have d1 := r2 z
              have HR : Hid (St w2 (cts p g (L.eraseIdx i) (xs.set z (.int .i64 v))) (w5.setCell ⟨g, z, none⟩ (.int .i64 v))) := r3 z (.int .i64 v) (by rw [HT.out.1]; exact hs4)
              have HT2 := hide (HT.out.set z v)
              clear HS HS5 HS6 r1 r2 r3 hy
              go_wp2
              go_roundw
              case rel => exact ⟨k + 1, made, gone + 1, sent, (L.eraseIdx i), _, _, Hlt.out, by go_num, by go_num, by go_num, by go_num, HR, HT2, (HI.out.go HX.out)⟩
              case measure => have := Hlt.out; simp [intOf]; omega
            · have HS6 := hide (HS.out.below HF.out.2)
              clear HS HF
              go_wp2
              go_roundw
              case rel => exact ⟨k + 1, made, gone, sent, L, xs, f, Hlt.out, rfl, rfl, rfl, by go_num, HS6, HT, HI.out.skip⟩
              case measure => have := Hlt.out; simp [intOf]; omega
        have k2 : (kd == 2) = false := by simpa using k2
        by_cases k3 : kd = 3
        · subst k3
          clear k1 k2
          as_aux_lemma =>
            go_wp2_with fail
            refine (Double_st HS.out (i := 0) rfl qn).mono ?_
            rintro e w5 (⟨i, x, rfl, -, Hx, rfl, HS5⟩ | ⟨q, e5, rfl, HF, -⟩)
            · have HX := hide Hx
              have HS6 : Hid (St w2 (cts p g (L ++ [x]) xs) w5) := HS5.out
              clear Hx HS HS5
              go_wp2
              go_roundw
              case rel => exact ⟨k + 1, made + 1, gone, sent, L ++ [x], xs, f, Hlt.out, by go_num, rfl, rfl, by go_num, HS6, HT, HI.out.double HX.out⟩
              case measure => have := Hlt.out; simp [intOf]; omega
            · have HS6 := hide (HS.out.below HF.out.2)
              clear HS HF
              go_wp2
              go_roundw
              case rel => exact ⟨k + 1, made, gone, sent, L, xs, f, Hlt.out, rfl, rfl, rfl, by go_num, HS6, HT, HI.out.skip⟩
              case measure => have := Hlt.out; simp [intOf]; omega
        have k3 : (kd == 3) = false := by simpa using k3
        by_cases k4 : kd = 4
        · subst k4
          clear k1 k2 k3
          as_aux_lemma =>
            go_wp2_with fail
            refine (Drop_st HS.out (i := 0) rfl qn).mono ?_
            rintro e w5 (⟨i, rfl, Hx, rfl, HS5⟩ | ⟨q, rfl, HF, -⟩)
            · have HX := hide Hx
              have HS6 : Hid (St w2 (cts p g (L.eraseIdx i) xs) w5) := HS5.out
              clear Hx HS HS5
              go_wp2
              go_roundw
              case rel => exact ⟨k + 1, made, gone + 1, sent, L.eraseIdx i, xs, f, Hlt.out, rfl, by go_num, rfl, by go_num, HS6, HT, HI.out.go HX.out⟩
              case measure => have := Hlt.out; simp [intOf]; omega
            · have HS6 := hide (HS.out.below HF.out.2)
              clear HS HF
              go_wp2
              go_roundw
              case rel => exact ⟨k + 1, made, gone, sent, L, xs, f, Hlt.out, rfl, rfl, rfl, by go_num, HS6, HT, HI.out.skip⟩
              case measure => have := Hlt.out; simp [intOf]; omega
        have k4 : (kd == 4) = false := by simpa using k4
        clear c1
        have HS6 := hide HS.out
        clear HS
        go_wp2
        go_roundw
        case rel => exact ⟨k + 1, made, gone, sent, L, xs, f, Hlt.out, rfl, rfl, rfl, by go_num, HS6, HT, HI.out.skip⟩
        case measure => have := Hlt.out; simp [intOf]; omega
      · have HS5 := hide HS.out
        have HI5 := hide HI.out
        obtain ⟨ll, hll⟩ : ∃ ll, L.length = ll := ⟨_, rfl⟩
        have y1 : (made : Int) - (gone : Int) = (ll : Int) := by have := HI.out.1; omega
        have y2 : IntKind.i64.wrap (ll : Int) = (ll : Int) := wrap_id (by omega) (by have := HI.out.1; have := HI.out.2.1; omega)
        have Hll := hide hll
        obtain rfl : k = n := by omega
        clear HS hge hk HT HI HI5 hll
        go_wp2_with fail
        refine (Len_st HS5.out (i := 0) rfl).mono ?_
        rintro e w6 ⟨rfl, hb6⟩
        rw [Hll.out]
        have HB6 := hide (HB2.out.trans ((HS5.out.below hb6).bel.mono HB2.out.size))
        clear hb6 HS5
        go_wp2
        go_ret
        exact ⟨rfl, HB6.out⟩

end Go.Proofs.Ytidojlagdodkkaa.Li
