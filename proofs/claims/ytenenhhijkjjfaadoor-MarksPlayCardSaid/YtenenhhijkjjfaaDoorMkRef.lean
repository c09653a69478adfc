/-
  The document's table in memory: four slices in a struct; the contracts of its in, has, Has, Of, Lacks and Newest. Nothing that was there is changed.
-/
import Derived.Lib.MinMax
import Derived.Test.YtenenhhijkjjfaaDoorMkWalk
namespace Go.Proofs.YtenenhhijkjjfaaDoor.Mk
open Go.RowKit Go.Maps
open Pk Dk Wn Lk

/-- The document's table: its block q, and each volume's list. -/
structure Rtb (q : Nat) (s : Nat → Value) (A : Int → List Int) (w : World) (G : Nat → Prop) : Prop where
  box : w.heap[q]? = some (.cells #[s 0, s 1, s 2, s 3] 32 (0, 0))
  mine : G q
  lt : ∀ k, G k → k < w.heap.size
  good : Good A
  row : ∀ i, i < 4 → ORow w 3 1 (s i) (A (i : Int)).length (nums (A (i : Int)))
  own : ∀ i, i < 4 → ∀ k, (s i).ownBlock = some k → G k ∧ k ≠ q
section
variable {q : Nat} {s : Nat → Value} {A : Int → List Int} {w w' : World} {G : Nat → Prop}
theorem Rtb.same (h : Rtb q s A w G) (hk : ∀ k, G k → w'.heap[k]? = w.heap[k]?) (hs : w.heap.size ≤ w'.heap.size) : Rtb q s A w' G :=
  ⟨(hk q h.mine).trans h.box, h.mine, fun k hg => Nat.lt_of_lt_of_le (h.lt k hg) hs, h.good, fun i hi => (h.row i hi).same fun k e => hk k (h.own i hi k e).1, h.own⟩
theorem Rtb.kept (h : Rtb q s A w G) {K : Nat → Prop} (hk : Kept K w w') (hd : ∀ k, G k → ¬ K k) : Rtb q s A w' G := h.same (fun k hg => hk.block k (h.lt k hg) (hd k hg)) hk.size
theorem Rtb.below (h : Rtb q s A w G) (hb : Below w.heap.size w w') : Rtb q s A w' G := h.same (fun k hg => hb.block k (h.lt k hg)) hb.size
theorem Rtb.cell (h : Rtb q s A w G) {i : Nat} (hi : i < 4) : w.cell? ⟨q, i, none⟩ = some (s i) := by
  rw [cell_of_row w q i _ _ _ h.box]
  match i, hi with
  | 0, _ => rfl
  | 1, _ => rfl
  | 2, _ => rfl
  | 3, _ => rfl
theorem Rtb.frozen (h : Rtb q s A w G) (i : Nat) : w.frozen? ⟨q, i, none⟩ = false := by
  have := h.box
  simp [World.frozen?, this]
/-- A volume's slice. -/
theorem Rtb.slice (h : Rtb q s A w G) {i : Nat} (hi : i < 4) : ∃ RA c, s i = .slice RA (A (i : Int)).length c ∧ (A (i : Int)).length ≤ c ∧ c ≤ maxLen ∧ Src w RA (nums (A (i : Int))) := by
  have hr := h.row i hi
  obtain ⟨RA, c, e, h1, h2, _⟩ := hr.form
  rw [e] at hr
  exact ⟨RA, c, e, h1, h2, hr.src⟩
/-- Another slice is stored. -/
theorem Rtb.store (h : Rtb q s A w G) {i : Nat} (hi : i < 4) {B : Int → List Int} {v : Value} (hB : Good B) (hb : Below w.heap.size w w') (hr : ORow w' 3 1 v (B (i : Int)).length (nums (B (i : Int)))) (ho : ∀ k, v.ownBlock = some k → w.heap.size ≤ k) (hs : ∀ j : Nat, j < 4 → j ≠ i → B (j : Int) = A (j : Int)) :
    ∃ G', Rtb q (fun j => if j = i then v else s j) B (w'.setCell ⟨q, i, none⟩ v) G' ∧ Grew w G G' ∧ Kept G w (w'.setCell ⟨q, i, none⟩ v) := by
  have hql := h.lt q h.mine
  have hsz : (w'.setCell ⟨q, i, none⟩ v).heap.size = w'.heap.size := by simp [World.setCell]
  have old : ∀ k, k ≠ q → (w'.setCell ⟨q, i, none⟩ v).heap[k]? = w'.heap[k]? := fun k hn => heap_setCell_other _ _ _ _ hn
  refine ⟨fun k => G k ∨ (w.heap.size ≤ k ∧ k < w'.heap.size), ⟨?_, Or.inl h.mine, fun k hk => ?_, hB, fun j hj => ?_, fun j hj k hk => ?_⟩, fun k hk => hk.imp id And.left, ⟨hb.os, hb.tape, hb.output, by rw [hsz]; exact hb.size, fun k hl hn => (old k (fun e => hn (e ▸ h.mine))).trans (hb.block k hl)⟩⟩
  · rw [heap_setCell_same w' q i _ _ _ ((hb.block q hql).trans h.box)]
    match i, hi with
    | 0, _ => rfl
    | 1, _ => rfl
    | 2, _ => rfl
    | 3, _ => rfl
  · rw [hsz]
    rcases hk with hk | hk
    · exact Nat.lt_of_lt_of_le (h.lt k hk) hb.size
    · exact hk.2
  · by_cases e : j = i
    · subst e
      simp only [if_true]
      exact hr.same fun k hk => old k (by have := ho k hk; omega)
    · simp only [e, if_false]
      rw [hs j hj e]
      exact (h.row j hj).same fun k hk => (old k (h.own j hj k hk).2).trans (hb.block k (h.lt k (h.own j hj k hk).1))
  · by_cases e : j = i
    · subst e
      simp only [if_true] at hk
      have := ho k hk
      have := hr.lt k hk
      exact ⟨Or.inr ⟨by omega, by omega⟩, by omega⟩
    · simp only [e, if_false] at hk
      exact ⟨Or.inl (h.own j hj k hk).1, (h.own j hj k hk).2⟩
end
def RtbA (q : Nat) (A : Int → List Int) (w : World) (G : Nat → Prop) : Prop := ∃ s, Rtb q s A w G
def rtbT (q : Nat) (A : Int → List Int) : Thg := ⟨RtbA q A, fun ⟨s, h⟩ hk hd => ⟨s, h.kept hk hd⟩, fun ⟨_, h⟩ => h.lt⟩
theorem RtbA.fresh (w : World) : RtbA w.heap.size (fun _ => []) (w.alloc (.cells #[.slice none 0 0, .slice none 0 0, .slice none 0 0, .slice none 0 0] 32)) (· = w.heap.size) :=
  ⟨fun _ => .slice none 0 0, heap_alloc_new w _, rfl, fun k hk => (by rw [hk]; simp), Good.none, fun i _ => ORow.nil _ _ _, fun i _ k hk => (by simp [Value.ownBlock] at hk)⟩

theorem in_any (v : Int) (w : World) :
    Calls Tryd.prog 23 #[.int .i64 v] w fun e w' => e = .returned (.bool (decide (0 ≤ v ∧ v < 4))) ∧ w' = w := by
  by_cases h1 : 0 ≤ v
  · by_cases h2 : v ≤ 3
    · have e : decide (0 ≤ v ∧ v < 4) = true := by simp; omega
      rw [e]
      clear e
      go_enter Tryd.func23, Tryd.ntmps23
      go_wp2
      go_ret
      exact ⟨rfl, rfl⟩
    · have e : decide (0 ≤ v ∧ v < 4) = false := by simp; omega
      rw [e]
      clear e
      go_enter Tryd.func23, Tryd.ntmps23
      go_wp2
      go_ret
      exact ⟨rfl, rfl⟩
  · have e : decide (0 ≤ v ∧ v < 4) = false := by simp [h1]
    rw [e]
    clear e
    go_enter Tryd.func23, Tryd.ntmps23
    go_wp2
    go_ret
    exact ⟨rfl, rfl⟩
set_option maxRecDepth 100000 in
set_option maxHeartbeats 2000000 in
theorem rhas_any (VA : Option Addr) (N c : Nat) (l : List Int) (m : Int) (w : World) (hn : l.length = N) (hlim : N ≤ 100000) (hs : Src w VA (nums l)) :
    Calls Tryd.prog 24 #[.slice VA N c, .int .i64 m] w fun e w' => e = .returned (.bool (decide (m ∈ l))) ∧ w' = w := by
  have Hn := hide hn
  have Hs := hide hs
  clear hn hs
  go_enter Tryd.func24, Tryd.ntmps24
  go_wp2
  go_loop [8] (fun j => ∃ k : Nat, k ≤ N ∧ j = .int .i64 (k : Int) ∧ Hid (m ∉ l.take k)) (fun j => N - (RowKit.intOf j).toNat)
  case atStart => exact ⟨0, Nat.zero_le _, rfl, by simp [Hid]⟩
  case round =>
    obtain ⟨k, hk, rfl, hq⟩ := hrel
    rcases Nat.lt_or_ge k N with hlt | hge
    · have Hlt := hide hlt
      have hki : (k : Int) < (N : Int) := by omega
      obtain ⟨x, hx⟩ : ∃ x, l[k]? = some x := ⟨_, List.getElem?_eq_getElem (by rw [Hn.out]; exact hlt)⟩
      obtain ⟨g, o, rfl, _, c0⟩ := Src.num Hs.out hx
      have Hx := hide hx
      clear hlt hk hx
      by_cases hb : x = m
      · subst hb
        have HE := hide (decide_eq_true (List.mem_of_getElem? Hx.out))
        have hbb : (x == x) = true := by simp
        go_wp2
        go_ret
        exact ⟨by rw [HE.out]; rfl, rfl⟩
      · have hbb : (x == m) = false := by simpa using hb
        have Hb := hide hb
        clear hb
        go_wp2
        go_round
        case rel =>
          refine ⟨k + 1, Hlt.out, by go_num, ?_⟩
          show m ∉ l.take (k + 1)
          rw [List.take_add_one, Hx.out]
          intro hm
          rcases List.mem_append.1 hm with hm | hm
          · exact hq.out hm
          · simp at hm
            exact Hb.out hm.symm
        case measure => have := Hlt.out; simp [RowKit.intOf]; omega
    · have hq' := hq.out
      rw [List.take_of_length_le (by rw [Hn.out]; omega)] at hq'
      have HE := hide (decide_eq_false hq')
      obtain rfl : k = N := by omega
      clear hq' hq hge hk
      go_wp2
      go_ret
      exact ⟨by rw [HE.out]; rfl, rfl⟩
section
variable {q : Nat} {s : Nat → Value} {A : Int → List Int} {w w' : World} {G : Nat → Prop}
set_option maxRecDepth 100000 in
theorem RHas_any (h : Rtb q s A w G) (v m : Int) (hlim : ∀ u, (A u).length ≤ 100000) :
    Calls Tryd.prog 33 #[.pointer (some ⟨q, 0, none⟩), .int .i64 v, .int .i64 m] w fun e w' => e = .returned (.bool (decide (m ∈ A v))) ∧ w' = w := by
  have HV := hide (in_any v w)
  by_cases hv : 0 ≤ v ∧ v < 4
  · rw [decide_eq_true hv] at HV
    obtain ⟨i, rfl⟩ : ∃ i : Nat, v = (i : Int) := ⟨v.toNat, by omega⟩
    have hi : i < 4 := by omega
    have c0 := h.cell hi
    obtain ⟨RA, c, hsl, h1, h2, hsrc⟩ := h.slice hi
    rw [hsl] at c0
    have HH := hide (rhas_any RA _ c (A (i : Int)) m w rfl (hlim _) hsrc)
    obtain ⟨L, hL⟩ : ∃ L, (A (i : Int)).length = L := ⟨_, rfl⟩
    rw [hL] at c0 HH
    have hii : (i : Int) < 4 := by omega
    clear h hsl h1 h2 hsrc hv hL hlim
    go_enter Tryd.func33, Tryd.ntmps33
    go_wp2_with fail
    refine HV.out.mono ?_
    rintro e w1 ⟨rfl, rfl⟩
    clear HV
    go_wp2_with fail
    refine HH.out.mono ?_
    rintro e w2 ⟨rfl, rfl⟩
    clear HH
    go_wp2
    go_ret
    exact ⟨rfl, rfl⟩
  · rw [decide_eq_false hv] at HV
    have HE := hide (show decide (m ∈ A v) = false by rw [h.good.out hv]; rfl)
    clear h hv hlim
    go_enter Tryd.func33, Tryd.ntmps33
    go_wp2_with fail
    refine HV.out.mono ?_
    rintro e w1 ⟨rfl, rfl⟩
    clear HV
    go_wp2
    go_ret
    exact ⟨by rw [HE.out]; rfl, rfl⟩
set_option maxRecDepth 100000 in
/-- Of: the table's own slice. -/
theorem ROf_any (h : Rtb q s A w G) (v : Int) :
    Calls Tryd.prog 14 #[.pointer (some ⟨q, 0, none⟩), .int .i64 v] w fun e w' => (∃ RA c, e = .returned (.slice RA (A v).length c) ∧ Src w RA (nums (A v))) ∧ w' = w := by
  have HV := hide (in_any v w)
  by_cases hv : 0 ≤ v ∧ v < 4
  · rw [decide_eq_true hv] at HV
    obtain ⟨i, rfl⟩ : ∃ i : Nat, v = (i : Int) := ⟨v.toNat, by omega⟩
    have hi : i < 4 := by omega
    have c0 := h.cell hi
    obtain ⟨RA, c, hsl, h1, h2, hsrc⟩ := h.slice hi
    rw [hsl] at c0
    have HS := hide hsrc
    obtain ⟨L, hL⟩ : ∃ L, (A (i : Int)).length = L := ⟨_, rfl⟩
    rw [hL] at c0 ⊢
    have hii : (i : Int) < 4 := by omega
    clear h hsl h1 h2 hsrc hv hL
    go_enter Tryd.func14, Tryd.ntmps14
    go_wp2_with fail
    refine HV.out.mono ?_
    rintro e w1 ⟨rfl, rfl⟩
    clear HV
    go_wp2
    go_ret
    exact ⟨⟨RA, c, rfl, HS.out⟩, rfl⟩
  · rw [decide_eq_false hv] at HV
    rw [h.good.out hv]
    clear h hv
    go_enter Tryd.func14, Tryd.ntmps14
    go_wp2_with fail
    refine HV.out.mono ?_
    rintro e w1 ⟨rfl, rfl⟩
    clear HV
    go_wp2
    go_ret
    exact ⟨⟨none, 0, rfl, fun h => absurd rfl h⟩, rfl⟩
end

end Go.Proofs.YtenenhhijkjjfaaDoor.Mk
