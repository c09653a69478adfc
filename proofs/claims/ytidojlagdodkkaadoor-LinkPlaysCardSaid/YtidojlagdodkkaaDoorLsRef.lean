/-
  The document's link (isobarref10) in memory: New, Send, there, Drop, Deliver, Double. Nothing but the link's own blocks is changed.
-/
import Derived.Test.YtidojlagdodkkaaDoorLkSt
import Derived.Test.YtidojlagdodkkaaDoorLsPlay
namespace Go.Proofs.YtidojlagdodkkaaDoor.Ls
open Go.RowKit
open Pk Dk Wn Lk

/-- The document's link of the messages L, of capacity R, cut or not. -/
structure RLk (p : Nat) (L : List ByteArray) (R : Nat) (C : Bool) (w : World) (G : Nat → Prop) : Prop where
  ex : ∃ X, BAt 35 9 1 p X (more R C) L.length (vals L) w G
  len : L.length ≤ R
  room : R ≤ 4096
theorem RLk.kept {p R : Nat} {C : Bool} {L : List ByteArray} {w w' : World} {G K : Nat → Prop} (h : RLk p L R C w G) (hk : Kept K w w') (hd : ∀ k, G k → ¬ K k) : RLk p L R C w' G := by
  obtain ⟨X, hx⟩ := h.ex
  exact ⟨⟨X, BAt.kept hx hk hd⟩, h.len, h.room⟩
theorem RLk.lt {p R : Nat} {C : Bool} {L : List ByteArray} {w : World} {G : Nat → Prop} (h : RLk p L R C w G) : ∀ k, G k → k < w.heap.size := by
  obtain ⟨X, hx⟩ := h.ex
  exact hx.lt
def rlkT (p : Nat) (L : List ByteArray) (R : Nat) (C : Bool) : Thg := ⟨RLk p L R C, fun h hk hd => RLk.kept h hk hd, fun h => RLk.lt h⟩
section
variable {w w' : World} {G : Nat → Prop} {p R : Nat} {C C' : Bool} {L L' : List ByteArray} {X : Value}
theorem RLk.below (h : RLk p L R C w G) (hb : Below w.heap.size w w') : RLk p L R C w' G := h.kept (Kept.of_below (G := fun _ => False) hb) fun _ _ h => h
theorem RLk.after (h : RLk p L R C w G) (hb : Below w.heap.size w w') : After (rlkT p L R C) w G w' := ⟨G, h.below hb, Grew.refl _ _, Kept.of_below hb⟩
theorem RLk.cells (h : RLk p L R C w G) : ∃ A n c, BAt 35 9 1 p (.slice A n c) (more R C) n (vals L) w G ∧ n = L.length ∧ n ≤ c ∧ c ≤ maxLen ∧ Src w A (vals L) ∧ w.cell? ⟨p, 0, none⟩ = some (.slice A n c) ∧ w.cell? ⟨p, 1, none⟩ = some (.int .i64 (R : Int)) ∧ w.cell? ⟨p, 2, none⟩ = some (.bool C) ∧ ∀ j, w.frozen? ⟨p, j, none⟩ = false := by
  obtain ⟨X, hx⟩ := h.ex
  obtain ⟨A, c, rfl, h1, h2, _⟩ := hx.row.form
  exact ⟨A, _, c, hx, rfl, h1, h2, hx.row.src, hx.cell 0, hx.cell 1, hx.cell 2, hx.frozen⟩
theorem RLk.of {m : Nat} {ys : List Value} {h1 h2} (h : After ⟨BAt 35 9 1 p X (more R C) m ys, h1, h2⟩ w G w') (hm : m = L.length) (hy : ys = vals L) (hl : L.length ≤ R) (hr : R ≤ 4096) : After (rlkT p L R C) w G w' := by
  obtain ⟨G', hp, hg, hk⟩ := h
  subst hy hm
  exact ⟨G', ⟨⟨X, hp⟩, hl, hr⟩, hg, hk⟩
theorem RLk.setc (h : RLk p L R C w G) : After (rlkT p L R C') w G (w.setCell ⟨p, 2, none⟩ (.bool C')) := by
  obtain ⟨X, hx⟩ := h.ex
  have h5 := hx.set 1 (.bool C')
  exact ⟨G, ⟨⟨X, h5.1⟩, h.len, h.room⟩, Grew.refl _ _, h5.2⟩
end
theorem RLk.fresh (w : World) (R : Nat) (hR : R ≤ 4096) : RLk w.heap.size [] R false (w.alloc (.cells #[.slice none 0 0, .int .i64 (R : Int), .bool false] 35)) (· = w.heap.size) :=
  ⟨⟨_, BAt.fresh w _ _ 1 (more R false)⟩, Nat.zero_le _, hR⟩
set_option maxRecDepth 100000 in
theorem RNew_any (r : Int) (w : World) : Calls Tryd.prog 10 #[.int .i64 r] w fun e w' => e = .returned (.pointer (some ⟨w.heap.size, 0, none⟩)) ∧ RLk w.heap.size [] (cap r) false w' (· = w.heap.size) ∧ Below w.heap.size w w' := by
  obtain ⟨q, hq⟩ : ∃ q, cap r = q := ⟨_, rfl⟩
  have hqw : max 0 (min r 4096) = (q : Int) := by rw [← hq]; unfold cap; omega
  have HQ := hide (show q ≤ 4096 by rw [← hq]; exact cap_le r)
  rw [hq]
  clear hq
  go_enter Tryd.func10, Tryd.ntmps10
  go_wp2_with (refine wpList_box_told rfl 35 (.tmp 6) rfl #[.slice none 0 0, .int .i64 (q : Int), .bool false] ?_ ?_)
  · go_simp
  · intro w1 Hw1
    have HL : Hid (RLk w.heap.size [] q false w1 (· = w.heap.size) ∧ Below w.heap.size w w1) := by
      rw [Hw1.out]
      exact ⟨RLk.fresh w q HQ.out, (Below.refl _ _).alloc (Nat.le_refl _) _⟩
    clear Hw1
    go_wp2
    go_ret
    exact ⟨rfl, HL.out⟩
section
variable {w : World} {G : Nat → Prop} {p R : Nat} {C : Bool} {L : List ByteArray}
set_option maxRecDepth 100000 in
theorem there_yes (h : RLk p L R C w G) (i : Nat) (hi : i < L.length) : Calls Tryd.prog 33 #[.pointer (some ⟨p, 0, none⟩), .int .i64 (i : Int)] w fun e w' => e = .returned (.bool true) ∧ Below w.heap.size w w' := by
  obtain ⟨A, n, c, _, hn, _, _, _, c0, _⟩ := h.cells
  rw [← hn] at hi
  have hin : (i : Int) < (n : Int) := by omega
  have hi0 : (0 : Int) ≤ (i : Int) := by omega
  have HB := hide (Below.refl w.heap.size w)
  clear h hn
  go_enter Tryd.func33, Tryd.ntmps33
  go_wp2
  go_ret
  exact ⟨by first | rfl | simp | simp [hi], HB.out⟩
set_option maxRecDepth 100000 in
theorem there_no (h : RLk p L R C w G) (i : Int) (hi : i < 0 ∨ (L.length : Int) ≤ i) : Calls Tryd.prog 33 #[.pointer (some ⟨p, 0, none⟩), .int .i64 i] w fun e w' => e = .returned (.bool false) ∧ Below w.heap.size w w' := by
  obtain ⟨A, n, c, _, hn, _, _, _, c0, _⟩ := h.cells
  rw [← hn] at hi
  have HB := hide (Below.refl w.heap.size w)
  by_cases h1 : i < 0
  · have h2 : ¬ (0 : Int) ≤ i := by omega
    clear h hn hi
    go_enter Tryd.func33, Tryd.ntmps33
    go_wp2
    go_ret
    exact ⟨by first | rfl | simp [h1, h2], HB.out⟩
  · have h2 : (0 : Int) ≤ i := by omega
    have h3 : ¬ i < (n : Int) := by omega
    clear h hn hi
    go_enter Tryd.func33, Tryd.ntmps33
    go_wp2
    go_ret
    exact ⟨by first | rfl | simp [h3, h2], HB.out⟩
set_option maxRecDepth 100000 in
theorem RSend_full (h : RLk p L R C w G) (hf : L.length = R) (x : ByteArray) : Calls Tryd.prog 12 #[.pointer (some ⟨p, 0, none⟩), .string x] w fun e w' => e = .returned (.int .i64 6) ∧ Below w.heap.size w w' := by
  obtain ⟨A, n, c, _, hn, _, _, _, c0, c1, _⟩ := h.cells
  have hd : R ≤ n := by omega
  have hdi : (R : Int) ≤ (n : Int) := by omega
  clear h hn hf
  go_enter Tryd.func12, Tryd.ntmps12
  go_wp2_with fail
  go_quiet (fail)
  go_wp2
  go_ret
  exact ⟨rfl, ⟨rfl, rfl, rfl, Nat.le_refl _, fun _ _ => rfl⟩⟩
set_option maxRecDepth 100000 in
set_option maxHeartbeats 1000000 in
theorem RSend_ok (h : RLk p L R C w G) (hf : L.length < R) (x : ByteArray) : Calls Tryd.prog 12 #[.pointer (some ⟨p, 0, none⟩), .string x] w fun e w' => e = .returned (.int .i64 0) ∧ After (rlkT p (L ++ [x]) R C) w G w' := by
  have HH := hide h
  have Hf := hide hf
  obtain ⟨A, m, c, _, hm, _, _, _, c0, c1, _⟩ := h.cells
  have hd : ¬ R ≤ m := by omega
  have hdi : ¬ (R : Int) ≤ (m : Int) := by omega
  have Hm := hide hm
  clear h hf hm
  go_enter Tryd.func12, Tryd.ntmps12
  go_wp2_with fail
  go_quiet (fail)
  have HB1 : Hid (Below w.heap.size w (w.drewN nq)) := (⟨rfl, rfl, rfl, Nat.le_refl _, fun _ _ => rfl⟩ : Below w.heap.size w (w.drewN nq))
  generalize w.drewN nq = w1 at *
  have HH1 := hide (HH.out.below HB1.out)
  clear c0 c1
  obtain ⟨A1, m1, c', hx, hm, _, _, _, c0, _, _, _⟩ := HH1.out.cells
  obtain ⟨hb, hsrc⟩ := made_msg (Below.refl w1.heap.size w1) x
  have HO := hide (hx.row.below hb)
  have HM := hide hsrc
  have Hm1 := hide (show m1 + 1 ≤ maxLen by have := Hf.out; have := HH1.out.room; unfold maxLen; omega)
  have Hm2 := hide (show (m1 + 1) * 16 ≤ 140737488355328 by have := Hf.out; have := HH1.out.room; omega)
  have HS := hide (fun (v : Value) (W : World) (hg : Grown (w1.alloc (.cells #[.string x] 9)) 9 1 (.slice A1 m1 c') (m1 + 1) (vals L ++ cel x) v W) => (⟨(hx.cell' (hx.p_same hb hg) 0), hx.frozen' (hx.p_same hb hg) 0, RLk.of (L := L ++ [x]) (hx.put hb hg) (by rw [List.length_append, ← hm]; rfl) (by rw [vals_append, vals_one1]; rfl) (by rw [List.length_append]; exact Hf.out) HH1.out.room⟩ : W.cell? ⟨p, 0, none⟩ = some (.slice A1 m1 c') ∧ W.frozen? ⟨p, 0, none⟩ = false ∧ After (rlkT p (L ++ [x]) R C) w1 G (W.setCell ⟨p, 0, none⟩ v)))
  clear hx hm hb hsrc
  go_wp2_with (at_builtin; go_must (refine wpList_app app_el rfl (.tmp 19) (.tmp 21) rfl (.slice A1 m1 c') m1 (vals L) rfl HO.out _ 1 1 (cel x) rfl rfl HM.out (cel_one _) (by decide) Hm1.out Hm2.out ?_))
  intro v w' hg
  obtain ⟨s0, s1, s2⟩ := HS.out v w' hg.out
  have HA := hide (s2.from HB1.out)
  obtain ⟨A', c'', rfl, _, _, _⟩ := hg.out.row.form
  clear s2 hg HS HO HM c0
  go_wp2
  go_ret
  exact ⟨rfl, HA.out⟩
set_option maxRecDepth 100000 in
theorem RDrop_none (h : RLk p L R C w G) (i : Int) (hi : i < 0 ∨ (L.length : Int) ≤ i) : Calls Tryd.prog 18 #[.pointer (some ⟨p, 0, none⟩), .int .i64 i] w fun e w' => e = .returned (.int .i64 5) ∧ Below w.heap.size w w' := by
  have HH := hide h
  have Hi := hide hi
  clear h hi
  go_enter Tryd.func18, Tryd.ntmps18
  go_wp2_with fail
  refine (there_no HH.out i Hi.out).mono ?_
  rintro e w1 ⟨rfl, hb1⟩
  have HB1 := hide hb1
  clear hb1
  go_wp2
  go_ret
  exact ⟨rfl, HB1.out⟩
set_option maxRecDepth 100000 in
set_option maxHeartbeats 4000000 in
theorem RDrop_ok (h : RLk p L R C w G) (i : Nat) (hi : i < L.length) : Calls Tryd.prog 18 #[.pointer (some ⟨p, 0, none⟩), .int .i64 (i : Int)] w fun e w' => e = .returned (.int .i64 0) ∧ After (rlkT p (L.eraseIdx i) R C) w G w' := by
  have HH := hide h
  have Hi := hide hi
  clear h hi
  go_enter Tryd.func18, Tryd.ntmps18
  go_wp2_with fail
  refine (there_yes HH.out i Hi.out).mono ?_
  rintro e w1 ⟨rfl, hb1⟩
  have HB1 := hide hb1
  have HH1 := hide (HH.out.below hb1)
  obtain ⟨A, n, c, hx, hn, hnc, hcm, hs, c0, _, _, _⟩ := HH1.out.cells
  have hil : i < n := by rw [hn]; exact Hi.out
  obtain ⟨g, o, rfl, hgl, _⟩ := hs (by
    intro e
    have := vals_len L
    rw [e] at this
    simp only [List.length_nil] at this
    omega)
  obtain ⟨j, hj⟩ : ∃ j, j = i + 1 := ⟨_, rfl⟩
  have h1 := HH1.out.len
  have h2 := HH1.out.room
  have hji : (i : Int) + 1 = (j : Int) := by omega
  have hjw : IntKind.i64.wrap (j : Int) = (j : Int) := wrap_id (by omega) (by omega)
  have b1 : (i : Int) ≤ (n : Int) := by omega
  have b2 : (j : Int) ≤ (n : Int) := by omega
  have b4 : (i : Int) ≤ (c : Int) := by omega
  have b5 : (j : Int) ≤ (c : Int) := by omega
  have b7 : (n : Int) ≤ (c : Int) := by omega
  have bb1 : i ≤ n := by omega
  have bb2 : j ≤ n := by omega
  have bb4 : i ≤ c := by omega
  have bb5 : j ≤ c := by omega
  have hcx : c ≤ 9223372036854775807 := by unfold maxLen at hcm; omega
  have hpl := hx.lt p hx.mine
  have HO : Hid (ORow w1 9 1 (.slice none 0 0) 0 []) := ORow.nil _ _ _
  have HS1 : Hid (Src w1 (some ⟨g, o, none⟩) (vals (L.take i))) := by
    have h3 := flat_take L (cel_len L) i
    rw [Nat.mul_one] at h3
    show Src w1 _ ((L.take i).flatMap cel)
    rw [h3]
    exact Src.take hs i
  have Hl1 : Hid ((vals (L.take i)).length = i * 1) := by show _ = _; rw [vals_len, List.length_take]; omega
  have Hl2 : Hid ((vals (L.drop (i + 1))).length = (n - j) * 1) := by show _ = _; rw [vals_len, List.length_drop]; omega
  have Hm1 := hide (show 0 + i ≤ maxLen by unfold maxLen; omega)
  have Hb1 := hide (show (0 + i) * 16 ≤ 140737488355328 by omega)
  have Hm2 := hide (show i + (n - j) ≤ maxLen by unfold maxLen; omega)
  have Hb2 := hide (show (i + (n - j)) * 16 ≤ 140737488355328 by omega)
  have HK2 : Hid (∀ v w2, Grown w1 9 1 (.slice none 0 0) i (vals (L.take i)) v w2 → w2.cell? ⟨p, 0, none⟩ = some (.slice (some ⟨g, o, none⟩) n c) ∧ Below w1.heap.size w1 w2 ∧ ∀ k, v.ownBlock = some k → w1.heap.size ≤ k) := fun v w2 hg => by
    have h3 := Grown.new hg (Below.refl _ _) (fun k hk => by simp [Value.ownBlock] at hk)
    exact ⟨(h3.1.cell (p := ⟨p, 0, none⟩) hpl).trans c0, h3⟩
  have HS2 : Hid (∀ w2, Below w1.heap.size w1 w2 → Src w2 (if c = j then some ⟨g, o, none⟩ else some ⟨g, o + j, none⟩) (vals (L.drop (i + 1)))) := fun w2 hW => by
    split
    · rw [List.drop_of_length_le (by omega)]
      exact Src.none _ _
    · have h3 := flat_drop L (cel_len L) (i + 1)
      rw [Nat.mul_one] at h3
      show Src w2 _ ((L.drop (i + 1)).flatMap cel)
      rw [h3, hj]
      exact (Src.drop hs (i + 1)).below hW
  have HST : Hid (∀ v w2 v2 w3, Below w1.heap.size w1 w2 → (∀ k, v.ownBlock = some k → w1.heap.size ≤ k) → Grown w2 9 1 v (i + (n - j)) (vals (L.take i) ++ vals (L.drop (i + 1))) v2 w3 → w3.cell? ⟨p, 0, none⟩ = some (.slice (some ⟨g, o, none⟩) n c) ∧ w3.frozen? ⟨p, 0, none⟩ = false ∧ After (rlkT p (L.eraseIdx i) R C) w1 G (w3.setCell ⟨p, 0, none⟩ v2)) := fun v w2 v2 w3 hW ho hg => by
    have h3 := Grown.new hg hW ho
    have h4 := hg.row
    rw [← vals_append, ← List.eraseIdx_eq_take_drop_succ] at h4
    have hp : w3.heap[p]? = w1.heap[p]? := h3.1.block p hpl
    refine ⟨hx.cell' hp 0, hx.frozen' hp 0, ?_⟩
    exact RLk.of (hx.put0 (Kept.of_below h3.1) hp h4 fun k hk => Or.inr (h3.2 k hk)) (by rw [List.length_eraseIdx_of_lt (by omega)]; omega) rfl (by rw [List.length_eraseIdx_of_lt (by omega)]; omega) h2
  clear hb1 hx hn hnc hcm hs hgl hpl h1 h2 hj hil
  go_wp2_with (at_builtin; go_must (refine wpList_app app_el rfl (.tmp 10) (.tmp 16) rfl _ 0 [] rfl HO.out (some ⟨g, o, none⟩) i c (vals (L.take i)) rfl Hl1.out HS1.out (vals_one _) (by decide) Hm1.out Hb1.out ?_))
  intro v1 w2 hg
  obtain ⟨d0, k2, k3⟩ := HK2.out v1 w2 hg.out
  have HB2 := hide k2
  have HW2 := hide k3
  have HR2 := hide hg.out.row
  have HS3 := hide (HS2.out w2 k2)
  clear hg k2 k3 HK2 HS2 HO HS1 c0
  by_cases he : c = j
  · subst he
    rw [if_pos rfl] at HS3
    go_wp2_with (at_builtin; go_must (refine wpList_app app_el rfl (.tmp 19) (.tmp 26) rfl v1 _ _ rfl HR2.out (some ⟨g, o, none⟩) (n - c) 0 (vals (L.drop (i + 1))) rfl Hl2.out HS3.out (vals_one _) (by decide) Hm2.out Hb2.out ?_))
    intro v2 w3 hg
    obtain ⟨s0, s1, s2⟩ := HST.out v1 w2 v2 w3 HB2.out HW2.out hg.out
    have HA := hide (s2.from HB1.out)
    obtain ⟨A2, c2, rfl, _, _, _⟩ := hg.out.row.form
    clear s2 hg HST HR2 HS3 d0
    go_wp2
    go_ret
    exact ⟨rfl, HA.out⟩
  · rw [if_neg he] at HS3
    go_wp2_with (at_builtin; go_must (refine wpList_app app_el rfl (.tmp 19) (.tmp 26) rfl v1 _ _ rfl HR2.out (some ⟨g, o + j, none⟩) (n - j) (c - j) (vals (L.drop (i + 1))) rfl Hl2.out HS3.out (vals_one _) (by decide) Hm2.out Hb2.out ?_))
    intro v2 w3 hg
    obtain ⟨s0, s1, s2⟩ := HST.out v1 w2 v2 w3 HB2.out HW2.out hg.out
    have HA := hide (s2.from HB1.out)
    obtain ⟨A2, c2, rfl, _, _, _⟩ := hg.out.row.form
    clear s2 hg HST HR2 HS3 d0
    go_wp2
    go_ret
    exact ⟨rfl, HA.out⟩
set_option maxRecDepth 100000 in
theorem RDeliver_cut (h : RLk p L R true w G) (i : Int) : Calls Tryd.prog 14 #[.pointer (some ⟨p, 0, none⟩), .int .i64 i] w fun e w' => e = .returned (.tuple #[.string ⟨#[]⟩, .int .i64 11]) ∧ Below w.heap.size w w' := by
  obtain ⟨_, _, _, _, _, _, _, _, _, _, c2, _⟩ := h.cells
  have HB := hide (Below.refl w.heap.size w)
  clear h
  go_enter Tryd.func14, Tryd.ntmps14
  go_wp2
  go_ret2
  exact ⟨rfl, HB.out⟩
set_option maxRecDepth 100000 in
theorem RDeliver_none (h : RLk p L R false w G) (i : Int) (hi : i < 0 ∨ (L.length : Int) ≤ i) : Calls Tryd.prog 14 #[.pointer (some ⟨p, 0, none⟩), .int .i64 i] w fun e w' => e = .returned (.tuple #[.string ⟨#[]⟩, .int .i64 5]) ∧ Below w.heap.size w w' := by
  obtain ⟨_, _, _, _, _, _, _, _, _, _, c2, _⟩ := h.cells
  have HH := hide h
  have Hi := hide hi
  clear h hi
  go_enter Tryd.func14, Tryd.ntmps14
  go_wp2_with fail
  refine (there_no HH.out i Hi.out).mono ?_
  rintro e w1 ⟨rfl, hb1⟩
  have HB1 := hide hb1
  clear hb1
  go_wp2
  go_ret2
  exact ⟨rfl, HB1.out⟩
set_option maxRecDepth 100000 in
set_option maxHeartbeats 1000000 in
theorem RDeliver_ok (h : RLk p L R false w G) (i : Nat) (x : ByteArray) (hi : L[i]? = some x) : Calls Tryd.prog 14 #[.pointer (some ⟨p, 0, none⟩), .int .i64 (i : Int)] w fun e w' => e = .returned (.tuple #[.string x, .int .i64 0]) ∧ After (rlkT p (L.eraseIdx i) R false) w G w' := by
  obtain ⟨_, _, _, _, _, _, _, _, _, _, c2, _⟩ := h.cells
  have HH := hide h
  have hil := (List.getElem?_eq_some_iff.1 hi).1
  have Hi := hide hi
  have Hil := hide hil
  clear h hi hil
  go_enter Tryd.func14, Tryd.ntmps14
  go_wp2_with fail
  refine (there_yes HH.out i Hil.out).mono ?_
  rintro e w1 ⟨rfl, hb1⟩
  have HB1 := hide hb1
  have HH1 := hide (HH.out.below hb1)
  obtain ⟨A, n, c, _, hn, hnc, _, hs, c0, _, _, _⟩ := HH1.out.cells
  obtain ⟨g, o, rfl, _, hcell⟩ := Src.msg hs Hi.out
  have hin : i < n := by rw [hn]; exact Hil.out
  have hini : (i : Int) < (n : Int) := by omega
  clear hb1 hn hs c2
  go_wp2_with fail
  refine (RDrop_ok HH1.out i Hil.out).mono ?_
  rintro e w2 ⟨rfl, hA⟩
  have HA := hide (hA.from HB1.out)
  clear hA
  go_wp2
  go_ret2
  exact ⟨rfl, HA.out⟩
set_option maxRecDepth 100000 in
theorem RDouble_none (h : RLk p L R C w G) (i : Int) (hi : i < 0 ∨ (L.length : Int) ≤ i) : Calls Tryd.prog 16 #[.pointer (some ⟨p, 0, none⟩), .int .i64 i] w fun e w' => e = .returned (.int .i64 5) ∧ Below w.heap.size w w' := by
  have HH := hide h
  have Hi := hide hi
  clear h hi
  go_enter Tryd.func16, Tryd.ntmps16
  go_wp2_with fail
  refine (there_no HH.out i Hi.out).mono ?_
  rintro e w1 ⟨rfl, hb1⟩
  have HB1 := hide hb1
  clear hb1
  go_wp2
  go_ret
  exact ⟨rfl, HB1.out⟩
set_option maxRecDepth 100000 in
theorem RDouble_full (h : RLk p L R C w G) (i : Nat) (x : ByteArray) (hi : L[i]? = some x) (hf : L.length = R) : Calls Tryd.prog 16 #[.pointer (some ⟨p, 0, none⟩), .int .i64 (i : Int)] w fun e w' => e = .returned (.int .i64 6) ∧ Below w.heap.size w w' := by
  have HH := hide h
  have hil := (List.getElem?_eq_some_iff.1 hi).1
  have Hi := hide hi
  have Hil := hide hil
  have Hf := hide hf
  clear h hi hil hf
  go_enter Tryd.func16, Tryd.ntmps16
  go_wp2_with fail
  refine (there_yes HH.out i Hil.out).mono ?_
  rintro e w1 ⟨rfl, hb1⟩
  have HB1 := hide hb1
  have HH1 := hide (HH.out.below hb1)
  obtain ⟨A, n, c, _, hn, hnc, _, hs, c0, _, _, _⟩ := HH1.out.cells
  obtain ⟨g, o, rfl, _, hcell⟩ := Src.msg hs Hi.out
  have hin : i < n := by rw [hn]; exact Hil.out
  have hini : (i : Int) < (n : Int) := by omega
  clear hb1 hn hs
  go_wp2_with fail
  refine (RSend_full HH1.out Hf.out x).mono ?_
  rintro e w2 ⟨rfl, hb⟩
  have HB2 := hide (HB1.out.trans (hb.mono HB1.out.size))
  clear hb
  go_wp2
  go_ret
  exact ⟨rfl, HB2.out⟩
set_option maxRecDepth 100000 in
theorem RDouble_ok (h : RLk p L R C w G) (i : Nat) (x : ByteArray) (hi : L[i]? = some x) (hf : L.length < R) : Calls Tryd.prog 16 #[.pointer (some ⟨p, 0, none⟩), .int .i64 (i : Int)] w fun e w' => e = .returned (.int .i64 0) ∧ After (rlkT p (L ++ [x]) R C) w G w' := by
  have HH := hide h
  have hil := (List.getElem?_eq_some_iff.1 hi).1
  have Hi := hide hi
  have Hil := hide hil
  have Hf := hide hf
  clear h hi hil hf
  go_enter Tryd.func16, Tryd.ntmps16
  go_wp2_with fail
  refine (there_yes HH.out i Hil.out).mono ?_
  rintro e w1 ⟨rfl, hb1⟩
  have HB1 := hide hb1
  have HH1 := hide (HH.out.below hb1)
  obtain ⟨A, n, c, _, hn, hnc, _, hs, c0, _, _, _⟩ := HH1.out.cells
  obtain ⟨g, o, rfl, _, hcell⟩ := Src.msg hs Hi.out
  have hin : i < n := by rw [hn]; exact Hil.out
  have hini : (i : Int) < (n : Int) := by omega
  clear hb1 hn hs
  go_wp2_with fail
  refine (RSend_ok HH1.out Hf.out x).mono ?_
  rintro e w2 ⟨rfl, hA⟩
  have HA := hide (hA.from HB1.out)
  clear hA
  go_wp2
  go_ret
  exact ⟨rfl, HA.out⟩
end

end Go.Proofs.YtidojlagdodkkaaDoor.Ls
