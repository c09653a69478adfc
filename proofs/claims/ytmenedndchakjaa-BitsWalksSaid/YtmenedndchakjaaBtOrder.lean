/-
  BitsOrder at every slice and number: it returns true, and changes nothing that was there.
-/
import Derived.IntWalk
import Derived.Deep.AppendLies
import Derived.Test.YtmenedndchakjaaBtEq
import Derived.Test.YtmenedndchakjaaBtAwake
namespace Go.Proofs.Ytmenedndchakjaa.Bt
open Go.RowKit
open Pk Sm

theorem of_mem (l : List Int) (k : Nat) (hk : k < 8) : (of l)[k]? = some (decide ((k : Int) ∈ l)) := by
  have H : ∀ (l : List Int) (S : BSet) (c : Bool), S.length = 8 → S[k]? = some c → (l.foldl (fun S b => put S b true) S)[k]? = some (c || decide ((k : Int) ∈ l)) := by
    intro l
    induction l with
    | nil => intro S c _ h; simpa using h
    | cons b l ih =>
      intro S c hS h
      rw [List.foldl_cons]
      by_cases e : b = (k : Int)
      · rw [ih (put S b true) true (by rw [put_length]; exact hS) (by rw [put_get S hS b true k hk, if_pos e])]
        simp [e]
      · rw [ih (put S b true) c (by rw [put_length]; exact hS) (by rw [put_get S hS b true k hk, if_neg e]; exact h)]
        have : ((k : Int) ∈ b :: l) ↔ (k : Int) ∈ l := by
          rw [List.mem_cons]
          constructor
          · rintro (e' | h')
            · exact absurd e'.symm e
            · exact h'
          · exact Or.inr
        simp [this]
  have := H l empty false rfl (empty_get hk)
  simpa [of] using this
theorem of_same {l m : List Int} (h : ∀ x, x ∈ l ↔ x ∈ m) : of l = of m := by
  refine same_of (of_length _) (of_length _) fun k hk => ?_
  rw [of_mem l k hk, of_mem m k hk]
  congr 1
  exact decide_eq_decide.2 (h _)

/-- What the statement lays in its loop: for each i the element at (n - 1 - i + k) % n, and the one at i. -/
def turned (a : List Int) (k : Nat) : Nat → List Int
  | 0 => []
  | i + 1 => turned a k i ++ [a[(a.length - 1 - i + k) % a.length]?.getD 0, a[i]?.getD 0]
theorem turned_length (a : List Int) (k : Nat) : ∀ i, (turned a k i).length = 2 * i
  | 0 => rfl
  | i + 1 => by
    show (turned a k i ++ _).length = _
    rw [List.length_append, turned_length a k i]
    simp
    omega
theorem turned_mem (a : List Int) (k : Nat) (x : Int) : ∀ i, i ≤ a.length → ((x ∈ turned a k i → x ∈ a) ∧ (∀ j, j < i → a[j]? = some x → x ∈ turned a k i))
  | 0, _ => ⟨(fun h => by cases h), fun j hj => by omega⟩
  | i + 1, hi => by
    have ih := turned_mem a k x i (by omega)
    have g : ∀ j, j < a.length → a[j]?.getD 0 ∈ a := fun j hj => by
      rw [List.getElem?_eq_getElem hj]
      exact List.getElem_mem hj
    constructor
    · intro h
      rcases List.mem_append.1 (show x ∈ turned a k i ++ _ from h) with h | h
      · exact ih.1 h
      · simp only [List.mem_cons, List.not_mem_nil, or_false] at h
        rcases h with rfl | rfl
        · exact g _ (Nat.mod_lt _ (by omega))
        · exact g _ (by omega)
    · intro j hj hx
      show x ∈ turned a k i ++ _
      rcases Nat.lt_or_ge j i with h | h
      · exact List.mem_append.2 (Or.inl (ih.2 j h hx))
      · obtain rfl : j = i := by omega
        rw [hx]
        exact List.mem_append.2 (Or.inr (by simp))
theorem turned_of (a : List Int) (k : Nat) : of (turned a k a.length) = of a := of_same fun x => by
  refine ⟨(turned_mem a k x a.length (Nat.le_refl _)).1, fun h => ?_⟩
  obtain ⟨j, hj, e⟩ := List.mem_iff_getElem.1 h
  exact (turned_mem a k x a.length (Nat.le_refl _)).2 j hj (by rw [List.getElem?_eq_getElem hj, e])

/-! ### A row of integers of the call's own -/
def Row7 (W : World) (base : Nat) (v : Value) (l : List Int) : Prop := W.ownsRow base 3 1 v l.length (l.map (Value.int .i64))
theorem int_info : (Try.prog.info? 3).map (fun i => (i.zero, i.size, i.bytes)) = some (some (.int .i64 0), 1, 8) := by kernel_rfl
theorem row7_form {W : World} {base : Nat} {v : Value} {l : List Int} (h : Row7 W base v l) : ∃ A c, v = .slice A l.length c ∧ Ints W W.heap.size A l := by
  rcases h.2 with ⟨rfl, h0⟩ | ⟨g, cap, cur, rfl, hb, hg, hn, hm, hs, htk⟩
  · exact ⟨none, 0, by rw [h0], fun hne => absurd (List.eq_nil_of_length_eq_zero h0) hne⟩
  · refine ⟨_, cap, rfl, fun _ => ⟨g, 0, rfl, (Array.getElem?_eq_some_iff.1 hg).1, fun j u hu => ?_⟩⟩
    have hj : j < l.length := (List.getElem?_eq_some_iff.1 hu).1
    rw [Nat.zero_add, World.ownsRow.cellAt h j (by omega)]
    simp [hu]
theorem own_drew7 {w : World} {B n : Nat} {v : Value} {l : List Int} (h : Row7 w B v l) (hn : l.length = n) : w.drew.ownsRow B 3 1 v n (l.map (Value.int .i64)) := by subst hn; exact h
theorem drew_below7 {B : Nat} {w w1 : World} (h : Below B w w1) : Below B w w1.drew := ⟨h.os, h.tape, h.output, h.size, h.block⟩
theorem cell_new2 (w : World) (x y : Value) (t : TypeId) : ∀ j u, [x, y][j]? = some u → (w.alloc (.cells #[x, y] t)).cell? ((⟨w.heap.size, 0, none⟩ : Addr).add j) = some u := by
  intro j u hu
  have h := World.alloc_heap_new w (.cells #[x, y] t)
  rw [Addr.add_lit, Nat.zero_add, cell_of_row _ w.heap.size j _ _ _ h]
  simpa using hu
theorem two_one (x y : Int) : ∀ u ∈ [Value.int .i64 x, Value.int .i64 y], u.oneCell' = true := by
  intro u hu
  simp only [List.mem_cons, List.not_mem_nil, or_false] at hu
  rcases hu with rfl | rfl <;> rfl
theorem row7_more {l m : List Int} {x1 x2 : Int} {i : Nat} (h : m = l ++ [x1, x2]) (hl : l.length = 2 * i) : ∀ (W : World) (base : Nat) (v : Value), W.ownsRow base 3 1 v (2 * i + 2) (l.map (Value.int .i64) ++ [.int .i64 x1, .int .i64 x2]) → Row7 W base v m := by
  intro W base v hr
  subst h
  unfold Row7
  rw [List.length_append, hl, List.map_append]
  exact hr
theorem Ints.has {w : World} {B : Nat} {A : Option Addr} {xs : List Int} (h : Ints w B A xs) {k : Nat} {x : Int} (hk : xs[k]? = some x) : ∃ b o, A = some ⟨b, o, none⟩ ∧ ∀ j y, xs[j]? = some y → w.cell? ⟨b, o + j, none⟩ = some (.int .i64 y) := by
  obtain ⟨b, o, e, _, hc⟩ := h (by rintro rfl; simp at hk)
  exact ⟨b, o, e, hc⟩
theorem wrap64_small (x : Int) (h0 : 0 ≤ x) (h1 : x < 9223372036854775808) : wrap64 x = x := by unfold wrap64; omega

set_option maxRecDepth 100000 in
set_option maxHeartbeats 2000000 in
theorem Order_any (A : Option Addr) (xs : List Int) (n c by_ : Nat) (w : World) (hx : xs.length = n) (hA : Ints w w.heap.size A xs) (hn : n ≤ maxLen) (hby : by_ < 18446744073709551616) :
    Calls Try.prog 7 #[.slice A n c, .int .u64 by_] w fun e w' => e = .returned (.bool true) ∧ Below w.heap.size w w' := by
  replace hn : n ≤ 9223372036854775807 := hn
  by_cases h100 : 100 < n
  · go_enter Try.func7, Try.ntmps7
    go_wp2_with fail
    refine (awake_any w).mono ?_
    rintro e w1 ⟨rfl, hb1⟩
    have z1 := hb1.size
    have HB1 := hide hb1
    clear hb1
    go_wp2_with fail
    refine (awake_any w1).mono ?_
    rintro e w2 ⟨rfl, hb2⟩
    have HB2 := hide (HB1.out.trans (hb2.mono z1))
    clear hb2
    go_wp2
    go_ret
    exact ⟨rfl, HB2.out⟩
  · by_cases h0 : n = 0
    · subst h0
      go_enter Try.func7, Try.ntmps7
      go_wp2_with fail
      refine (awake_any w).mono ?_
      rintro e w1 ⟨rfl, hb1⟩
      have z1 := hb1.size
      have HB1 := hide hb1
      clear hb1
      go_wp2_with fail
      refine (awake_any w1).mono ?_
      rintro e w2 ⟨rfl, hb2⟩
      have HB2 := hide (HB1.out.trans (hb2.mono z1))
      clear hb2
      go_wp2
      go_ret
      exact ⟨rfl, HB2.out⟩
    · have hn0 : ((n : Int) == 0) = false := by simpa using h0
      have hpos : 0 < n := by omega
      have hle : n ≤ 100 := by omega
      have HA := hide hA
      have HX := hide hx
      clear hA hx h0 h100
      go_enter Try.func7, Try.ntmps7
      go_wp2_with fail
      refine (awake_any w).mono ?_
      rintro e w1 ⟨rfl, hb1⟩
      have z1 := hb1.size
      have HA1 := hide ((HA.out.below hb1).more z1)
      have HB1 := hide hb1
      clear hb1
      -- THE LOOP
      obtain ⟨i0, hi0, hz0, hz1, hz2⟩ := info_parts int_info
      obtain ⟨k, hk⟩ : ∃ k : Nat, k = by_ % n := ⟨_, rfl⟩
      have hkn : k < n := by rw [hk]; exact Nat.mod_lt _ hpos
      have ek : wrap64 ((by_ : Int) % (n : Int)) = (k : Int) := by rw [hk, ← Int.natCast_emod]; exact wrap64_small _ (by omega) (by have := Nat.mod_lt by_ hpos; omega)
      have Hek := hide ek
      clear hk ek
      go_wp2
      rw [Hek.out]
      clear Hek
      go_loopw [6, 7, 29] (fun v _ i wr => ∃ j : Nat, j ≤ n ∧ i = .int .i64 j ∧ Row7 wr w.heap.size v (turned xs k j) ∧ Below w.heap.size w wr) (fun _ _ i _ => n - (intOf i).toNat)
      case atStart => exact ⟨0, Nat.zero_le _, rfl, World.ownsRow_nil _ _ _ _, HB1.out⟩
      case round =>
        obtain ⟨i, hin, rfl, hO, hB⟩ := hrel
        have HO := hide hO
        have HB := hide hB
        clear hO hB
        by_cases hlt : i < n
        · obtain ⟨j, hj⟩ : ∃ j : Nat, j = (n - 1 - i + k) % n := ⟨_, rfl⟩
          have hjn : j < n := by rw [hj]; exact Nat.mod_lt _ hpos
          obtain ⟨x1, hx1⟩ : ∃ x, xs[j]? = some x := ⟨_, List.getElem?_eq_getElem (by rw [HX.out]; exact hjn)⟩
          obtain ⟨x2, hx2⟩ : ∃ x, xs[i]? = some x := ⟨_, List.getElem?_eq_getElem (by rw [HX.out]; exact hlt)⟩
          have HTu : turned xs k (i + 1) = turned xs k i ++ [x1, x2] := by
            show turned xs k i ++ _ = _
            rw [HX.out, ← hj, hx1, hx2]
            rfl
          have hlen := turned_length xs k i
          have HT := hide (row7_more HTu hlen)
          obtain ⟨m1, hm1⟩ : ∃ m : Nat, m = n - 1 := ⟨_, rfl⟩
          obtain ⟨m2, hm2⟩ : ∃ m : Nat, m = m1 - i := ⟨_, rfl⟩
          obtain ⟨m3, hm3⟩ : ∃ m : Nat, m = m2 + k := ⟨_, rfl⟩
          have e1 : IntKind.i64.wrap ((n : Int) - 1) = (m1 : Int) := by rw [show (n : Int) - 1 = (m1 : Int) by omega]; exact IntWalk.i64_in _ (by omega)
          have e2 : IntKind.i64.wrap ((m1 : Int) - (i : Int)) = (m2 : Int) := by rw [show (m1 : Int) - (i : Int) = (m2 : Int) by omega]; exact IntWalk.i64_in _ (by omega)
          have e3 : IntKind.i64.wrap ((m2 : Int) + (k : Int)) = (m3 : Int) := by rw [show (m2 : Int) + (k : Int) = (m3 : Int) by omega]; exact IntWalk.i64_in _ (by omega)
          have e4 : Int.tmod (m3 : Int) (n : Int) = (j : Int) := by rw [Int.tmod_eq_emod_of_nonneg (by omega), hj, hm3, hm2, hm1, Int.natCast_emod]
          have e5 : IntKind.i64.wrap (j : Int) = (j : Int) := IntWalk.i64_in _ (by omega)
          have hne : ¬ (n : Int) = 0 := by omega
          have hne' : ¬ n = 0 := by omega
          have hm3b : m3 ≤ 200 := by omega
          clear hm1 hm2 hm3 hj HTu
          obtain ⟨b, o, hAe, hcs⟩ := (HA.out.below HB.out).has hx2
          subst hAe
          have hc1 := hcs j x1 hx1
          have hc2 := hcs i x2 hx2
          clear hcs hx1 hx2
          go_wp2
          refine wp_region_any (by kernel_rfl) ?_
          change wpAny _ _ _ _ _ _ _ (World.drew _)
          refine wpAny_take (i := 0) (oi := ⟨some 32, _, _, _, _, _⟩) (v := ?_) rfl (by kernel_rfl) (by kernel_rfl) (by kernel_rfl) (fun _ _ _ h => h) (Or.inl ⟨by rfl, ?_⟩) ?_
          rotate_left 1
          · (intro w; go_simp; try with_reducible rfl)
          simp only [Act.put, List.setIfInBounds_toArray, List.set_cons_zero, List.set_cons_succ]
          refine wpAny_take (i := 1) (oi := ⟨some 33, _, _, _, _, _⟩) (v := ?_) rfl (by kernel_rfl) (by kernel_rfl) (by kernel_rfl) (fun _ _ _ h => h) (Or.inl ⟨by rfl, ?_⟩) ?_
          rotate_left 1
          · (intro w; go_simp; try with_reducible rfl)
          simp only [Act.put, List.setIfInBounds_toArray, List.set_cons_zero, List.set_cons_succ]
          refine wpAny_take (i := 2) (oi := ⟨some 34, _, _, _, _, _⟩) (v := ?_) rfl (by kernel_rfl) (by kernel_rfl) (by kernel_rfl) (fun _ _ _ h => h) (Or.inl ⟨by rfl, ?_⟩) ?_
          rotate_left 1
          · (intro w; go_simp; try with_reducible rfl)
          simp only [Act.put, List.setIfInBounds_toArray, List.set_cons_zero, List.set_cons_succ]
          refine wpAny_take (i := 3) (oi := ⟨some 35, _, _, _, _, _⟩) (v := ?_) rfl (by kernel_rfl) (by kernel_rfl) (by kernel_rfl) (fun _ _ _ h => h) (Or.inl ⟨by rfl, ?_⟩) ?_
          rotate_left 1
          · (intro w; go_simp; try with_reducible rfl)
          simp only [Act.put, List.setIfInBounds_toArray, List.set_cons_zero, List.set_cons_succ]
          refine wpAny_take (i := 4) (oi := ⟨some 36, _, _, _, _, _⟩) (v := ?_) rfl (by kernel_rfl) (by kernel_rfl) (by kernel_rfl) (fun _ _ _ h => h) (Or.inl ⟨by rfl, ?_⟩) ?_
          rotate_left 1
          · (intro w; go_simp; try with_reducible rfl)
          simp only [Act.put, List.setIfInBounds_toArray, List.set_cons_zero, List.set_cons_succ]
          refine wpAny_take (i := 5) (oi := ⟨some 37, _, _, _, _, _⟩) (v := ?_) rfl (by kernel_rfl) (by kernel_rfl) (by kernel_rfl) (fun _ _ _ h => h) (Or.inl ⟨by rfl, ?_⟩) ?_
          rotate_left 1
          · (intro w; go_simp; try with_reducible rfl)
          simp only [Act.put, List.setIfInBounds_toArray, List.set_cons_zero, List.set_cons_succ]
          refine wpAny_take (i := 6) (oi := ⟨some 38, _, _, _, _, _⟩) (v := ?_) rfl (by kernel_rfl) (by kernel_rfl) (by kernel_rfl) (fun _ _ _ h => h) (Or.inl ⟨by rfl, ?_⟩) ?_
          rotate_left 1
          · (intro w; go_simp; try with_reducible rfl)
          simp only [Act.put, List.setIfInBounds_toArray, List.set_cons_zero, List.set_cons_succ]
          refine wpAny_take (i := 7) (oi := ⟨some 39, _, _, _, _, _⟩) (v := ?_) rfl (by kernel_rfl) (by kernel_rfl) (by kernel_rfl) (fun _ _ _ h => h) (Or.inl ⟨by rfl, ?_⟩) ?_
          rotate_left 1
          · (intro w; go_simp; try with_reducible rfl)
          simp only [Act.put, List.setIfInBounds_toArray, List.set_cons_zero, List.set_cons_succ]
          refine wpAny_take (i := 8) (oi := ⟨some 40, _, _, _, _, _⟩) (v := ?_) rfl (by kernel_rfl) (by kernel_rfl) (by kernel_rfl) (fun _ _ _ h => h) (Or.inl ⟨by rfl, ?_⟩) ?_
          rotate_left 1
          · (intro w; go_simp; try with_reducible rfl)
          simp only [Act.put, List.setIfInBounds_toArray, List.set_cons_zero, List.set_cons_succ]
          refine wpAny_take (i := 9) (oi := ⟨some 41, _, _, _, _, _⟩) (v := ?_) rfl (by kernel_rfl) (by kernel_rfl) (by kernel_rfl) (fun _ _ _ h => h) (Or.inl ⟨by rfl, ?_⟩) ?_
          rotate_left 1
          · (intro w; go_simp; try with_reducible rfl)
          simp only [Act.put, List.setIfInBounds_toArray, List.set_cons_zero, List.set_cons_succ]
          refine wpAny_take (i := 10) (oi := ⟨some 42, _, _, _, _, _⟩) (v := ?_) rfl (by kernel_rfl) (by kernel_rfl) (by kernel_rfl) (fun _ _ _ h => h) (Or.inl ⟨by rfl, ?_⟩) ?_
          rotate_left 1
          · (intro w; go_simp; try with_reducible rfl)
          simp only [Act.put, List.setIfInBounds_toArray, List.set_cons_zero, List.set_cons_succ]
          refine wpAny_take (i := 11) (oi := ⟨some 43, _, _, _, _, _⟩) (v := ?_) rfl (by kernel_rfl) (by kernel_rfl) (by kernel_rfl) (fun _ _ _ h => h) (Or.inl ⟨by rfl, ?_⟩) ?_
          rotate_left 1
          · (intro w; go_simp; try with_reducible rfl)
          simp only [Act.put, List.setIfInBounds_toArray, List.set_cons_zero, List.set_cons_succ]
          refine wpAny_take (i := 12) (oi := ⟨some 44, _, _, _, _, _⟩) (v := ?_) rfl (by kernel_rfl) (by kernel_rfl) (by kernel_rfl) (fun _ _ _ h => h) (Or.inl ⟨by rfl, ?_⟩) ?_
          rotate_left 1
          · (intro w; go_simp; try with_reducible rfl)
          simp only [Act.put, List.setIfInBounds_toArray, List.set_cons_zero, List.set_cons_succ]
          refine wpAny_take (i := 14) (oi := ⟨some 46, _, _, _, _, _⟩) (v := ?_) rfl (by kernel_rfl) (by kernel_rfl) (by kernel_rfl) (fun _ _ _ h => h) (Or.inl ⟨by rfl, ?_⟩) ?_
          rotate_left 1
          · (intro w; go_simp; try with_reducible rfl)
          simp only [Act.put, List.setIfInBounds_toArray, List.set_cons_zero, List.set_cons_succ]
          refine wpAny_take (i := 15) (oi := ⟨some 47, _, _, _, _, _⟩) (v := ?_) rfl (by kernel_rfl) (by kernel_rfl) (by kernel_rfl) (fun _ _ _ h => h) (Or.inl ⟨by rfl, ?_⟩) ?_
          rotate_left 1
          · (intro w; go_simp; try with_reducible rfl)
          simp only [Act.put, List.setIfInBounds_toArray, List.set_cons_zero, List.set_cons_succ]
          refine wpAny_take (i := 16) (oi := ⟨some 48, _, _, _, _, _⟩) (v := ?_) rfl (by kernel_rfl) (by kernel_rfl) (by kernel_rfl) (fun _ _ _ h => h) (Or.inl ⟨by rfl, ?_⟩) ?_
          rotate_left 1
          · (intro w; go_simp; try with_reducible rfl)
          simp only [Act.put, List.setIfInBounds_toArray, List.set_cons_zero, List.set_cons_succ]
          refine wpAny_ready (rs := [13, 17]) (by kernel_rfl) (by simp) ?_
          refine AllReady.cons (o := ⟨some 45, _, _, _, _, _⟩) rfl (fun K hK => ?_) (AllReady.cons (o := ⟨some 49, _, _, _, _, _⟩) rfl (fun K hK => ?_) AllReady.nil)
          · go_simp
            refine hK _ _ ?_
            clear hK K
            refine wpAny_ready (rs := [17]) (by kernel_rfl) (by simp) ?_
            refine AllReady.cons (o := ⟨some 49, _, _, _, _, _⟩) rfl (fun K hK => ?_) AllReady.nil
            go_simp
            refine hK _ _ ?_
            clear hK K
            refine wpAny_ready (rs := [18]) (by kernel_rfl) (by simp) ?_
            refine AllReady.cons (o := ⟨some 50, _, _, _, _, _⟩) rfl (fun K hK => ?_) AllReady.nil
            go_simp
            refine hK _ _ ?_
            clear hK K
            refine wpAny_ready (rs := [19]) (by kernel_rfl) (by simp) ?_
            refine AllReady.cons (o := ⟨some 51, _, _, _, _, _⟩) rfl (fun K hK => ?_) AllReady.nil
            refine step_append_lies _ rfl (.tmp 32) (.tmp 50) 22 rfl w.heap.size 3 i0 (.int .i64 0) 1 8 Try.underlying22 hi0 hz0 hz1 hz2 rfl (by decide) _ _ _ rfl (World.ownsRow.alloc (own_drew7 HO.out hlen) _) ⟨wr.heap.size, 0, none⟩ 2 2 [.int .i64 x1, .int .i64 x2] rfl rfl (cell_new2 _ _ _ _) (two_one x1 x2) (by decide) (by unfold maxLen; omega) (by omega) (by have := HB.out.size; simp; omega) _ rfl ?_
            intro g cap w2 hown2 hgr2 _ _
            have HO2 := hide hown2
            have HB2 := hide (((drew_below7 HB.out).alloc (by have := HB.out.size; simpa using this) _).grown hgr2 (by have := HB.out.size; simp; omega) (fun j hj => (World.ownsRow.lt HO.out j hj).1))
            clear hown2 hgr2
            refine hK _ _ ?_
            clear hK K
            refine wpAny_take (i := 20) (oi := ⟨some 6, _, _, _, _, _⟩) (v := ?_) rfl (by kernel_rfl) (by kernel_rfl) (by kernel_rfl) (fun _ _ _ h => h) (Or.inl ⟨by rfl, ?_⟩) ?_
            rotate_left 1
            · (intro w; go_simp; try with_reducible rfl)
            simp only [Act.put, List.setIfInBounds_toArray, List.set_cons_zero, List.set_cons_succ]
            refine wpAny_done (by kernel_rfl) ?_ _
            go_wp2
            go_roundw
            case rel => exact ⟨i + 1, by omega, by go_num, HT.out _ _ _ HO2.out, HB2.out⟩
            case measure => simp [intOf]; omega
          · go_simp
            refine hK _ _ ?_
            clear hK K
            refine wpAny_ready (rs := [13]) (by kernel_rfl) (by simp) ?_
            refine AllReady.cons (o := ⟨some 45, _, _, _, _, _⟩) rfl (fun K hK => ?_) AllReady.nil
            go_simp
            refine hK _ _ ?_
            clear hK K
            refine wpAny_ready (rs := [18]) (by kernel_rfl) (by simp) ?_
            refine AllReady.cons (o := ⟨some 50, _, _, _, _, _⟩) rfl (fun K hK => ?_) AllReady.nil
            go_simp
            refine hK _ _ ?_
            clear hK K
            refine wpAny_ready (rs := [19]) (by kernel_rfl) (by simp) ?_
            refine AllReady.cons (o := ⟨some 51, _, _, _, _, _⟩) rfl (fun K hK => ?_) AllReady.nil
            refine step_append_lies _ rfl (.tmp 32) (.tmp 50) 22 rfl w.heap.size 3 i0 (.int .i64 0) 1 8 Try.underlying22 hi0 hz0 hz1 hz2 rfl (by decide) _ _ _ rfl (World.ownsRow.alloc (own_drew7 HO.out hlen) _) ⟨wr.heap.size, 0, none⟩ 2 2 [.int .i64 x1, .int .i64 x2] rfl rfl (cell_new2 _ _ _ _) (two_one x1 x2) (by decide) (by unfold maxLen; omega) (by omega) (by have := HB.out.size; simp; omega) _ rfl ?_
            intro g cap w2 hown2 hgr2 _ _
            have HO2 := hide hown2
            have HB2 := hide (((drew_below7 HB.out).alloc (by have := HB.out.size; simpa using this) _).grown hgr2 (by have := HB.out.size; simp; omega) (fun j hj => (World.ownsRow.lt HO.out j hj).1))
            clear hown2 hgr2
            refine hK _ _ ?_
            clear hK K
            refine wpAny_take (i := 20) (oi := ⟨some 6, _, _, _, _, _⟩) (v := ?_) rfl (by kernel_rfl) (by kernel_rfl) (by kernel_rfl) (fun _ _ _ h => h) (Or.inl ⟨by rfl, ?_⟩) ?_
            rotate_left 1
            · (intro w; go_simp; try with_reducible rfl)
            simp only [Act.put, List.setIfInBounds_toArray, List.set_cons_zero, List.set_cons_succ]
            refine wpAny_done (by kernel_rfl) ?_ _
            go_wp2
            go_roundw
            case rel => exact ⟨i + 1, by omega, by go_num, HT.out _ _ _ HO2.out, HB2.out⟩
            case measure => simp [intOf]; omega
        · obtain rfl : i = n := by omega
          have hT : of (turned xs k i) = of xs := by rw [← HX.out]; exact turned_of xs k
          have hl := turned_length xs k i
          obtain ⟨B, cap, hv, hI⟩ := row7_form HO.out
          rw [hl] at hv
          subst hv
          have HO1 := hide (Of_any B (turned xs k i) (2 * i) cap wr hl hI (by unfold maxLen; omega))
          have HO2 := hide (fun (W : World) (hb : Below wr.heap.size wr W) => Of_any A xs i c W HX.out (((HA.out.below (HB.out.trans (hb.mono HB.out.size))).more (Nat.le_trans HB.out.size hb.size))) (by unfold maxLen; omega))
          rw [hT] at HO1
          have hq := set_eql (of xs) (of xs) (of_length _) (of_length _) true (decide_eq_true rfl)
          have hg := fun o x y => set_eqg o x y (of xs) (of xs)
          generalize of xs = S at *
          clear hT hI HO hl
          go_wp2_with fail
          refine HO1.out.mono ?_
          rintro e w3 ⟨rfl, hb3⟩
          have HB3 := hide (HB.out.trans (hb3.mono HB.out.size))
          have HO4 := hide (HO2.out w3 hb3)
          have z3 := hb3.size
          have z0 := HB.out.size
          clear hb3 HO1 HO2
          go_wp2_with fail
          refine HO4.out.mono ?_
          rintro e w4 ⟨rfl, hb4⟩
          have HB4 := hide (HB3.out.trans (hb4.mono (by omega)))
          clear hb4 HO4
          go_wp2
          go_ret
          exact ⟨rfl, HB4.out⟩

end Go.Proofs.Ytmenedndchakjaa.Bt
