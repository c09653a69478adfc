/-
  The document's window (isobarref09), further: Resend and Ack; one more element; a variable of the call's own. Nothing but the sender's own blocks is changed.
-/
import Derived.Test.YtabjoalkbobhdaaDoorWsRef
namespace Go.Proofs.YtabjoalkbobhdaaDoor.Ws
open Go.RowKit
open Pk Dk Wn

section
variable {w w' W : World} {G : Nat → Prop} {p n a k : Nat} {L : List ByteArray} {v : Value}
theorem RSnd.cellsL (h : RSnd p L n a w G) {k : Nat} {x : ByteArray} (hx : L[k]? = some x) : ∃ g o m c, m = L.length ∧ w.cell? ⟨p, 0, none⟩ = some (.slice (some ⟨g, o, none⟩) m c) ∧ w.cell? ⟨p, 1, none⟩ = some (.int .i64 (n : Int)) ∧ w.cell? ⟨g, o + k, none⟩ = some (.string x) := by
  obtain ⟨A, m, c, _, hm, _, _, hs, c0, c1, _, _⟩ := h.cells
  obtain ⟨g, o, rfl, _, hce⟩ := Src.el hs hx
  exact ⟨g, o, m, c, hm, c0, c1, hce⟩
set_option maxRecDepth 100000 in
set_option maxHeartbeats 4000000 in
theorem RResend_any (h : RSnd p L n a w G) : Calls Tryd.prog 13 #[.pointer (some ⟨p, 0, none⟩)] w fun e w' => ∃ v, e = .returned v ∧ RPk w' w.heap.size v (upTo L a n) ∧ Below w.heap.size w w' := by
  obtain ⟨_, _, _, -, -, -, -, -, -, -, c2, -⟩ := h.cells
  have HH := hide h
  have han := h.an
  have hnl := h.nl
  have hfew := h.few
  have hni : (n : Int) ≤ 100000 := by omega
  have Hn := hide hnl
  have HR0 : Hid (RPk w w.heap.size (.slice none 0 0) (upTo L a a)) := by rw [upTo_self]; exact RPk.nil _ _
  have Han := hide han
  clear h han hnl hfew
  go_enter Tryd.func13, Tryd.ntmps13
  go_wp2
  go_loopw [3, 4] (fun v j wr => ∃ k : Nat, a ≤ k ∧ k ≤ n ∧ j = .int .i64 (k : Int) ∧ Hid (RPk wr w.heap.size v (upTo L a k)) ∧ Hid (Below w.heap.size w wr)) (fun _ j _ => n - (intOf j).toNat)
  case atStart => exact ⟨a, Nat.le_refl _, Han.out, rfl, HR0.out, Below.refl _ _⟩
  case round =>
    clear HR0 c2
    obtain ⟨k, hak, hkn, rfl, hr, hb⟩ := hrel
    have HHr := hide (HH.out.below hb.out)
    obtain ⟨_, _, _, -, -, -, -, -, -, c1, -, -⟩ := HHr.out.cells
    rcases Nat.lt_or_ge k n with hlt | hge
    · have Hlt := hide hlt
      have hki : (k : Int) < (n : Int) := by omega
      obtain ⟨x, hx⟩ : ∃ x, L[k]? = some x := ⟨_, List.getElem?_eq_getElem (by have := Hn.out; omega)⟩
      obtain ⟨g, o, m, c, hm, c0, _, hce⟩ := HHr.out.cellsL hx
      have hkm : (k : Int) < (m : Int) := by have := Hn.out; omega
      have hkm2 : k < m := by have := Hn.out; omega
      obtain ⟨j, hj⟩ : ∃ j, j = k + 1 := ⟨_, rfl⟩
      have e3 : (k : Int) + 1 = (j : Int) := by omega
      have e4 : IntKind.i64.wrap (j : Int) = (j : Int) := wrap_id (by omega) (by omega)
      have hb4 : Below wr.heap.size wr (wr.alloc (.cells #[.int .i64 (j : Int), .string x] 73)) := (Below.refl _ _).alloc (Nat.le_refl _) _
      have HM := hide (Made.row (Below.refl wr.heap.size wr) #[.int .i64 (j : Int), .string x] 73).src
      obtain ⟨VA, vc, rfl, _, _, _⟩ := hr.out.form
      obtain ⟨ol, hol⟩ : ∃ ol, (upTo L a k).length = ol := ⟨_, rfl⟩
      have hr' := hr.out
      rw [hol] at hr' ⊢
      have HO := hide (show ORow (wr.alloc (.cells #[.int .i64 (j : Int), .string x] 73)) 73 2 (.slice VA ol vc) ol (pcels (upTo L a k)) by have := hr'.row.below hb4; rw [hol] at this; exact this)
      have HNX := hide (fun (W2 : World) (v2 : Value) (hg : Grown (wr.alloc (.cells #[.int .i64 (j : Int), .string x] 73)) 73 2 (.slice VA ol vc) (ol + 1) (pcels (upTo L a k) ++ pcel ((j : Int), x)) v2 W2) => (⟨by
          rw [upTo_snoc hak hx, ← hj]
          exact hr'.grown hb4 hb.out.size (by rw [hol]) hg, hb.out.trans ((hg.kept (G := fun i => w.heap.size ≤ i) hb4 (fun i hi => hr'.own i hi)).below (fun _ h => h) hb.out.size)⟩ : RPk W2 w.heap.size v2 (upTo L a (k + 1)) ∧ Below w.heap.size w W2))
      have Hol := hide (show ol ≤ 100000 by rw [← hol, upTo_len (by have := Hn.out; omega)]; omega)
      have Hm1 := hide (show ol + 1 ≤ maxLen by have := Hol.out; unfold maxLen; omega)
      have Hm2 := hide (show (ol + 1) * 24 ≤ 140737488355328 by have := Hol.out; omega)
      have Hak := hide hak
      clear hx hr hb hb4 hol hr' hlt hkn hj hm hak
      go_wp2_with (at_builtin; go_must (refine wpList_app app_rp rfl (.tmp 17) (.tmp 28) rfl (.slice VA ol vc) ol (pcels (upTo L a k)) rfl HO.out _ 1 1 (pcel ((j : Int), x)) rfl rfl HM.out (pcel_one _) (by decide) Hm1.out Hm2.out ?_))
      intro v2 w2 hg
      have HN := hide (HNX.out w2 v2 hg.out)
      clear hg HNX HO HM c0 c1 hce
      go_wp2
      go_roundw
      case rel => exact ⟨k + 1, by have := Hak.out; omega, Hlt.out, by go_num, HN.out.1, HN.out.2⟩
      case measure => have := Hlt.out; simp [intOf]; omega
    · obtain rfl : k = n := by omega
      have HR := hide hr.out
      have HB := hide hb.out
      clear hr hb hge hkn hak
      go_wp2
      go_ret
      exact ⟨_, rfl, HR.out, HB.out⟩

set_option maxRecDepth 100000 in
theorem RAck_bad (h : RSnd p L n a w G) (k : Int) (hk : k < 0 ∨ (n : Int) < k) : Calls Tryd.prog 17 #[.pointer (some ⟨p, 0, none⟩), .int .i64 k] w fun e w' => e = .returned (.int .i64 5) ∧ Below w.heap.size w w' := by
  obtain ⟨_, _, _, _, _, _, _, _, _, c1, _, _⟩ := h.cells
  have HB := hide (Below.refl w.heap.size w)
  clear h
  by_cases h1 : k < 0
  · clear hk
    go_enter Tryd.func17, Tryd.ntmps17
    go_wp2
    go_ret
    exact ⟨rfl, HB.out⟩
  · have h2 : (n : Int) < k := by omega
    clear hk
    go_enter Tryd.func17, Tryd.ntmps17
    go_wp2
    go_ret
    exact ⟨rfl, HB.out⟩
set_option maxRecDepth 100000 in
theorem RAck_ok (h : RSnd p L n a w G) (k : Nat) (hk : k ≤ n) : Calls Tryd.prog 17 #[.pointer (some ⟨p, 0, none⟩), .int .i64 (k : Int)] w fun e w' => e = .returned (.int .i64 0) ∧ After (rsT p L n (max a k)) w G w' := by
  obtain ⟨_, _, _, _, _, _, _, _, _, c1, c2, fz⟩ := h.cells
  have hf2 := fz 2
  have h0 : ¬ (k : Int) < 0 := by omega
  have h1 : ¬ (n : Int) < (k : Int) := by omega
  obtain ⟨q, hq⟩ : ∃ q, max a k = q := ⟨_, rfl⟩
  have hqi : max (a : Int) (k : Int) = (q : Int) := by omega
  have HA : Hid (After (rsT p L n q) w G (w.setCell ⟨p, 2, none⟩ (.int .i64 (q : Int)))) := by
    obtain ⟨X, hx⟩ := h.ex
    have h5 := hx.set 1 (.int .i64 (q : Int))
    have := h.an
    have := h.win
    exact ⟨G, ⟨⟨X, h5.1⟩, by omega, h.nl, by omega, h.few⟩, Grew.refl _ _, h5.2⟩
  rw [hq]
  clear h fz hk hq
  go_enter Tryd.func17, Tryd.ntmps17
  go_wp2
  go_ret
  exact ⟨rfl, HA.out⟩
end
theorem RSnd.fresh (w : World) : RSnd w.heap.size [] 0 0 (w.alloc (.cells #[.slice none 0 0, .int .i64 0, .int .i64 0] 31)) (· = w.heap.size) :=
  ⟨⟨_, BAt.fresh w _ _ 1 (more 0 0)⟩, Nat.le_refl _, Nat.le_refl _, by omega, by simp⟩

/-! ### A variable that a call made -/
structure Box (ty : TypeId) (b : Nat) (cs : List Value) (w : World) (G : Nat → Prop) : Prop where
  box : w.heap[b]? = some (.cells cs.toArray ty (0, 0))
  lt : ∀ k, G k → k < w.heap.size
  mine : G b
theorem Box.kept {ty : TypeId} {b : Nat} {cs : List Value} {w w' : World} {G K : Nat → Prop} (h : Box ty b cs w G) (hk : Kept K w w') (hd : ∀ k, G k → ¬ K k) : Box ty b cs w' G :=
  ⟨(hk.block b (h.lt b h.mine) (hd b h.mine)).trans h.box, fun k hk2 => Nat.lt_of_lt_of_le (h.lt k hk2) hk.size, h.mine⟩
def boxT (ty : TypeId) (b : Nat) (cs : List Value) : Thg := ⟨Box ty b cs, fun h hk hd => Box.kept h hk hd, fun h => h.lt⟩
theorem Box.cell {ty : TypeId} {b : Nat} {cs : List Value} {w : World} {G : Nat → Prop} (h : Box ty b cs w G) (j : Nat) : w.cell? ⟨b, j, none⟩ = cs[j]? := by
  rw [cell_of_row w b j _ _ _ h.box]
  simp

end Go.Proofs.YtabjoalkbobhdaaDoor.Ws
