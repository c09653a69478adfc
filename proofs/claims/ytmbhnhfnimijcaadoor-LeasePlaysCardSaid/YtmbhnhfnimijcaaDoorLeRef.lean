/-
  The document's site and fence in memory (isobarref16), and the contracts of their calls: they answer and leave the same plain numbers.
-/
import Derived.Lib.MinMax
import Derived.BigQuiet
import Derived.Test.YtmbhnhfnimijcaaDoorLeOps
namespace Go.Proofs.YtmbhnhfnimijcaaDoor.Le
open Go.RowKit
open Pk Sm Fa Dk Wn Lk

def rscs (s : Sit) : Array Value := #[.int .i64 s.e, .int .i64 s.u, .int .i64 s.t]
def rfcs (s : Fen) : Array Value := #[.int .i64 s.l, .int .i64 s.f, .int .i64 s.u, .int .i64 s.t]
def rsitT (q : Nat) (s : Sit) : Thg := blkT q (rscs s) 31
def rfenT (q : Nat) (s : Fen) : Thg := blkT q (rfcs s) 37
section
variable {w0 w w' : World} {Ts : List Thg} {i q : Nat}
theorem St.rsite (h : St w0 Ts w) {s : Sit} (hi : Ts[i]? = some (rsitT q s)) : w.cell? ⟨q, 0, none⟩ = some (.int .i64 s.e) ∧ w.cell? ⟨q, 1, none⟩ = some (.int .i64 s.u) ∧ w.cell? ⟨q, 2, none⟩ = some (.int .i64 s.t) ∧ (∀ j, w.frozen? ⟨q, j, none⟩ = false) ∧ q < w.heap.size := by
  obtain ⟨h1, h2, h3, _⟩ := Lk.St.blk h hi
  exact ⟨h1 0, h1 1, h1 2, h2, h3⟩
theorem St.rfence (h : St w0 Ts w) {s : Fen} (hi : Ts[i]? = some (rfenT q s)) : w.cell? ⟨q, 0, none⟩ = some (.int .i64 s.l) ∧ w.cell? ⟨q, 1, none⟩ = some (.int .i64 s.f) ∧ w.cell? ⟨q, 2, none⟩ = some (.int .i64 s.u) ∧ w.cell? ⟨q, 3, none⟩ = some (.int .i64 s.t) ∧ (∀ j, w.frozen? ⟨q, j, none⟩ = false) ∧ q < w.heap.size := by
  obtain ⟨h1, h2, h3, _⟩ := Lk.St.blk h hi
  exact ⟨h1 0, h1 1, h1 2, h1 3, h2, h3⟩
set_option maxRecDepth 100000 in
theorem R_time_site (h : St w0 Ts w) {s : Sit} (hi : Ts[i]? = some (rsitT q s)) (n : Int) :
    Calls Tryd.prog 26 #[.pointer (some ⟨q, 0, none⟩), .int .i64 n] w fun e w' => e = .returned (.int .i64 (tk s.t n)) ∧ St w0 (Ts.set i (rsitT q (s.tick n))) w' := by
  obtain ⟨_, _, c2, hf, _⟩ := St.rsite h hi
  have HS := hide ((Lk.St.blk h hi).2.2.2 2 (.int .i64 (tk s.t n)))
  have hf2 := hf 2
  obtain ⟨T, E, U⟩ := s
  unfold Sit.tick
  simp only at c2 HS ⊢
  obtain ⟨m, hm⟩ : ∃ m, min n 1152921504606846976 = m := ⟨_, rfl⟩
  obtain ⟨t, ht⟩ : ∃ t, max T m = t := ⟨_, rfl⟩
  have e : tk T n = t := by unfold tk; rw [hm, ht]
  rw [e] at HS ⊢
  clear e hf h
  go_enter Tryd.func26, Tryd.ntmps26
  go_wp2
  go_ret
  exact ⟨rfl, HS.out⟩
set_option maxRecDepth 100000 in
theorem R_time_fen (h : St w0 Ts w) {s : Fen} (hi : Ts[i]? = some (rfenT q s)) (n : Int) :
    Calls Tryd.prog 27 #[.pointer (some ⟨q, 0, none⟩), .int .i64 n] w fun e w' => e = .returned (.int .i64 (tk s.t n)) ∧ St w0 (Ts.set i (rfenT q (s.tick n))) w' := by
  obtain ⟨_, _, _, c3, hf, _⟩ := St.rfence h hi
  have HS := hide ((Lk.St.blk h hi).2.2.2 3 (.int .i64 (tk s.t n)))
  have hf3 := hf 3
  obtain ⟨T, L, F, U⟩ := s
  unfold Fen.tick
  simp only at c3 HS ⊢
  obtain ⟨m, hm⟩ : ∃ m, min n 1152921504606846976 = m := ⟨_, rfl⟩
  obtain ⟨t, ht⟩ : ∃ t, max T m = t := ⟨_, rfl⟩
  have e : tk T n = t := by unfold tk; rw [hm, ht]
  rw [e] at HS ⊢
  clear e hf h
  go_enter Tryd.func27, Tryd.ntmps27
  go_wp2
  go_ret
  exact ⟨rfl, HS.out⟩

set_option maxRecDepth 100000 in
set_option maxHeartbeats 1000000 in
theorem R_grant (h : St w0 Ts w) {s : Sit} (hi : Ts[i]? = some (rsitT q s)) (hs : s.Ok) (e n : Int) :
    Calls Tryd.prog 12 #[.pointer (some ⟨q, 0, none⟩), .int .i64 e, .int .i64 n] w fun r w' => r = .returned (.int .i64 (s.gE e)) ∧ St w0 (Ts.set i (rsitT q (s.grant e n))) w' := by
  have HA := hide (R_time_site h hi n)
  obtain ⟨T, E, U⟩ := s
  obtain ⟨ht0, ht1⟩ := tk_ok (n := n) hs.t0 hs.t1
  unfold Sit.grant Sit.gE
  unfold Sit.tick at HA ⊢
  simp only at HA ht0 ht1 ⊢
  clear hs h
  generalize tk T n = t at *
  by_cases h1 : e < 1
  · rw [if_pos h1, if_neg (by decide)]
    go_enter Tryd.func12, Tryd.ntmps12
    go_wp2_with fail
    refine HA.out.mono ?_
    rintro r w1 ⟨rfl, hS⟩
    have HS := hide hS
    clear hS HA
    go_wp2
    go_ret
    exact ⟨rfl, HS.out⟩
  · by_cases h2 : e < E
    · rw [if_neg h1, if_pos h2, if_neg (by decide)]
      go_enter Tryd.func12, Tryd.ntmps12
      go_wp2_with fail
      refine HA.out.mono ?_
      rintro r w1 ⟨rfl, hS⟩
      have HS := hide hS
      obtain ⟨x0, x1, x2, xf, _⟩ := St.rsite hS (list_set_get hi _)
      clear hS HA
      go_wp2
      go_ret
      exact ⟨rfl, HS.out⟩
    · rw [if_neg h1, if_neg h2, if_pos rfl]
      go_enter Tryd.func12, Tryd.ntmps12
      go_wp2_with fail
      refine HA.out.mono ?_
      rintro r w1 ⟨rfl, hS⟩
      obtain ⟨x0, x1, x2, xf, _⟩ := St.rsite hS (list_set_get hi _)
      have h3 := (Lk.St.blk hS (list_set_get hi _)).2.2.2 0 (.int .i64 e)
      have h4 := (Lk.St.blk h3 (list_set_get (list_set_get hi _) _)).2.2.2 1 (.int .i64 (t + 10))
      rw [List.set_set, List.set_set] at h4
      have HS := hide h4
      have xf0 := xf 0
      have xf1 := xf 1
      clear hS HA h3 h4 xf
      go_wp2
      go_ret
      exact ⟨rfl, HS.out⟩
set_option maxRecDepth 100000 in
set_option maxHeartbeats 1000000 in
theorem R_check (h : St w0 Ts w) {s : Sit} (hi : Ts[i]? = some (rsitT q s)) (e n : Int) :
    Calls Tryd.prog 14 #[.pointer (some ⟨q, 0, none⟩), .int .i64 e, .int .i64 n] w fun r w' => r = .returned (.int .i64 (s.cE e n)) ∧ St w0 (Ts.set i (rsitT q (s.tick n))) w' := by
  have HA := hide (R_time_site h hi n)
  obtain ⟨T, E, U⟩ := s
  unfold Sit.cE
  unfold Sit.tick at HA ⊢
  simp only at HA ⊢
  clear h
  generalize tk T n = t at *
  by_cases h2 : E = 0
  · subst h2
    rw [if_pos (Or.inr rfl)]
    go_enter Tryd.func14, Tryd.ntmps14
    go_wp2_with fail
    refine HA.out.mono ?_
    rintro r w1 ⟨rfl, hS⟩
    have HS := hide hS
    obtain ⟨x0, x1, x2, xf, _⟩ := St.rsite hS (list_set_get hi _)
    clear hS HA
    go_wp2
    go_ret
    exact ⟨rfl, HS.out⟩
  · have h2' : (E == 0) = false := by simp [h2]
    by_cases h1 : e ≠ E
    · rw [if_pos (Or.inl h1)]
      have h1' : (e != E) = true := by simp [h1]
      clear h1 h2
      go_enter Tryd.func14, Tryd.ntmps14
      go_wp2_with fail
      refine HA.out.mono ?_
      rintro r w1 ⟨rfl, hS⟩
      have HS := hide hS
      obtain ⟨x0, x1, x2, xf, _⟩ := St.rsite hS (list_set_get hi _)
      clear hS HA
      go_wp2
      go_ret
      exact ⟨rfl, HS.out⟩
    · obtain rfl : e = E := by omega
      have hee : (e != e) = false := by simp
      rw [if_neg (by intro h; rcases h with h | h; · exact h1 h
                     · exact h2 h)]
      clear h1 h2
      by_cases h3 : U ≤ t
      · rw [if_pos h3]
        go_enter Tryd.func14, Tryd.ntmps14
        go_wp2_with fail
        refine HA.out.mono ?_
        rintro r w1 ⟨rfl, hS⟩
        have HS := hide hS
        obtain ⟨x0, x1, x2, xf, _⟩ := St.rsite hS (list_set_get hi _)
        clear hS HA
        go_wp2
        go_ret
        exact ⟨rfl, HS.out⟩
      · rw [if_neg h3]
        go_enter Tryd.func14, Tryd.ntmps14
        go_wp2_with fail
        refine HA.out.mono ?_
        rintro r w1 ⟨rfl, hS⟩
        have HS := hide hS
        obtain ⟨x0, x1, x2, xf, _⟩ := St.rsite hS (list_set_get hi _)
        clear hS HA
        go_wp2
        go_ret
        exact ⟨rfl, HS.out⟩
set_option maxRecDepth 100000 in
set_option maxHeartbeats 1000000 in
theorem R_renew (h : St w0 Ts w) {s : Fen} (hi : Ts[i]? = some (rfenT q s)) (hs : s.Ok) (e n : Int) :
    Calls Tryd.prog 18 #[.pointer (some ⟨q, 0, none⟩), .int .i64 e, .int .i64 n] w fun r w' => r = .returned (.int .i64 (s.rE e n)) ∧ St w0 (Ts.set i (rfenT q (s.renew e n))) w' := by
  have HA := hide (R_time_fen h hi n)
  obtain ⟨T, L, F, U⟩ := s
  obtain ⟨ht0, ht1⟩ := tk_ok (n := n) hs.t0 hs.t1
  unfold Fen.renew Fen.rE
  unfold Fen.tick at HA ⊢
  simp only at HA ht0 ht1 ⊢
  clear h hs
  generalize tk T n = t at *
  by_cases h2 : L = 0
  · subst h2
    rw [if_pos (Or.inr rfl), if_neg (by decide)]
    go_enter Tryd.func18, Tryd.ntmps18
    go_wp2_with fail
    refine HA.out.mono ?_
    rintro r w1 ⟨rfl, hS⟩
    have HS := hide hS
    obtain ⟨x0, x1, x2, x3, xf, _⟩ := St.rfence hS (list_set_get hi _)
    clear hS HA
    go_wp2
    go_ret
    exact ⟨rfl, HS.out⟩
  · have h2' : (L == 0) = false := by simp [h2]
    by_cases h1 : e ≠ L
    · rw [if_pos (Or.inl h1), if_neg (by decide)]
      have h1' : (e != L) = true := by simp [h1]
      clear h1 h2
      go_enter Tryd.func18, Tryd.ntmps18
      go_wp2_with fail
      refine HA.out.mono ?_
      rintro r w1 ⟨rfl, hS⟩
      have HS := hide hS
      obtain ⟨x0, x1, x2, x3, xf, _⟩ := St.rfence hS (list_set_get hi _)
      clear hS HA
      go_wp2
      go_ret
      exact ⟨rfl, HS.out⟩
    · obtain rfl : e = L := by omega
      have hee : (e != e) = false := by simp
      rw [if_neg (by intro h; rcases h with h | h; · exact h1 h
                     · exact h2 h)]
      clear h1 h2
      by_cases h3 : t < F
      · rw [if_pos h3, if_neg (by decide)]
        go_enter Tryd.func18, Tryd.ntmps18
        go_wp2_with fail
        refine HA.out.mono ?_
        rintro r w1 ⟨rfl, hS⟩
        have HS := hide hS
        obtain ⟨x0, x1, x2, x3, xf, _⟩ := St.rfence hS (list_set_get hi _)
        clear hS HA
        go_wp2
        go_ret
        exact ⟨rfl, HS.out⟩
      · rw [if_neg h3, if_pos rfl]
        go_enter Tryd.func18, Tryd.ntmps18
        go_wp2_with fail
        refine HA.out.mono ?_
        rintro r w1 ⟨rfl, hS⟩
        obtain ⟨x0, x1, x2, x3, xf, _⟩ := St.rfence hS (list_set_get hi _)
        have h4 := (Lk.St.blk hS (list_set_get hi _)).2.2.2 2 (.int .i64 (t + 10))
        rw [List.set_set] at h4
        have HS := hide h4
        have xf2 := xf 2
        clear hS HA h4 xf
        go_wp2
        go_ret
        exact ⟨rfl, HS.out⟩
set_option maxRecDepth 100000 in
set_option maxHeartbeats 1000000 in
theorem R_prom_ok (h : St w0 Ts w) {s : Fen} (hi : Ts[i]? = some (rfenT q s)) (hs : s.Ok) (n : Int) (hl : s.l < 1073741824) :
    Calls Tryd.prog 16 #[.pointer (some ⟨q, 0, none⟩), .int .i64 n] w fun r w' => r = .returned (.tuple #[.int .i64 (s.l + 1), .int .i64 (max (tk s.t n) s.u), .int .i64 0]) ∧ St w0 (Ts.set i (rfenT q (s.prom n))) w' := by
  have HA := hide (R_time_fen h hi n)
  obtain ⟨T, L, F, U⟩ := s
  obtain ⟨ht0, ht1⟩ := tk_ok (n := n) hs.t0 hs.t1
  have l0 := hs.l0
  rw [Fen.prom_ok hl]
  unfold Fen.tick at HA
  simp only at HA ht0 ht1 hl l0 ⊢
  clear hs h
  generalize tk T n = t at *
  obtain ⟨m, hm⟩ : ∃ m, max t U = m := ⟨_, rfl⟩
  rw [hm]
  have hWL : IntKind.i64.wrap (L + 1) = L + 1 := by rw [IntKind.wrap_i64]; omega
  obtain ⟨M, hM⟩ : ∃ M, L + 1 = M := ⟨_, rfl⟩
  rw [hM] at hWL ⊢
  have hMi : ¬ 1073741824 < M := by omega
  go_enter Tryd.func16, Tryd.ntmps16
  go_wp2_with fail
  refine HA.out.mono ?_
  rintro r w1 ⟨rfl, hS⟩
  obtain ⟨x0, x1, x2, x3, xf, _⟩ := St.rfence hS (list_set_get hi _)
  have h3 := (Lk.St.blk hS (list_set_get hi _)).2.2.2 0 (.int .i64 M)
  have h4 := (Lk.St.blk h3 (list_set_get (list_set_get hi _) _)).2.2.2 1 (.int .i64 m)
  rw [List.set_set, List.set_set] at h4
  have HS := hide h4
  have xf0 := xf 0
  have xf1 := xf 1
  clear hS HA h3 h4 xf
  go_wp2_with fail
  go_quiet (fail)
  go_wp2
  go_ret3
  exact ⟨rfl, HS.out.below ⟨rfl, rfl, rfl, Nat.le_refl _, fun _ _ => rfl⟩⟩
set_option maxRecDepth 100000 in
set_option maxHeartbeats 1000000 in
theorem R_prom_no (h : St w0 Ts w) {s : Fen} (hi : Ts[i]? = some (rfenT q s)) (hs : s.Ok) (n : Int) (hl : 1073741824 ≤ s.l) :
    Calls Tryd.prog 16 #[.pointer (some ⟨q, 0, none⟩), .int .i64 n] w fun r w' => r = .returned (.tuple #[.int .i64 0, .int .i64 0, .int .i64 6]) ∧ St w0 (Ts.set i (rfenT q (s.prom n))) w' := by
  have HA := hide (R_time_fen h hi n)
  obtain ⟨T, L, F, U⟩ := s
  have l1 := hs.l1
  rw [Fen.prom_no hl]
  unfold Fen.tick at HA ⊢
  simp only at HA l1 hl ⊢
  obtain rfl : L = 1073741824 := by omega
  clear hs h
  generalize tk T n = t at *
  go_enter Tryd.func16, Tryd.ntmps16
  go_wp2_with fail
  refine HA.out.mono ?_
  rintro r w1 ⟨rfl, hS⟩
  have HS := hide hS
  obtain ⟨x0, x1, x2, x3, xf, _⟩ := St.rfence hS (list_set_get hi _)
  clear hS HA
  go_wp2
  go_ret3
  exact ⟨rfl, HS.out⟩
set_option maxRecDepth 100000 in
set_option maxHeartbeats 1000000 in
theorem R_holds (h : St w0 Ts w) {s : Fen} (hi : Ts[i]? = some (rfenT q s)) (n : Int) :
    Calls Tryd.prog 20 #[.pointer (some ⟨q, 0, none⟩), .int .i64 n] w fun r w' => r = .returned (.int .i64 (s.hold n)) ∧ St w0 (Ts.set i (rfenT q (s.tick n))) w' := by
  have HA := hide (R_time_fen h hi n)
  obtain ⟨T, L, F, U⟩ := s
  unfold Fen.hold
  unfold Fen.tick at HA ⊢
  simp only at HA ⊢
  clear h
  generalize tk T n = t at *
  by_cases h1 : t < F
  · rw [if_pos h1]
    go_enter Tryd.func20, Tryd.ntmps20
    go_wp2_with fail
    refine HA.out.mono ?_
    rintro r w1 ⟨rfl, hS⟩
    have HS := hide hS
    obtain ⟨x0, x1, x2, x3, xf, _⟩ := St.rfence hS (list_set_get hi _)
    clear hS HA
    go_wp2
    go_ret
    exact ⟨rfl, HS.out⟩
  · rw [if_neg h1]
    go_enter Tryd.func20, Tryd.ntmps20
    go_wp2_with fail
    refine HA.out.mono ?_
    rintro r w1 ⟨rfl, hS⟩
    have HS := hide hS
    obtain ⟨x0, x1, x2, x3, xf, _⟩ := St.rfence hS (list_set_get hi _)
    clear hS HA
    go_wp2
    go_ret
    exact ⟨rfl, HS.out⟩
end

end Go.Proofs.YtmbhnhfnimijcaaDoor.Le
