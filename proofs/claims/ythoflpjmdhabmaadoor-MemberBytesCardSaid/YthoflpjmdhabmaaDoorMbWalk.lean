/-
  A group among other things in memory: one contract for each of its calls; what the statements' own same and has return. Plain consequences of the calls' own contracts.
-/
import Derived.Test.YthoflpjmdhabmaaDoorMbNew
namespace Go.Proofs.YthoflpjmdhabmaaDoor.Mb
open Go.RowKit
open Pk Dk Wn Lk

/-- What becomes of the changes. -/
def add1 (s : Nat) (L : List Ch) (v m : Int) (r : Bool) : List Ch := if chk s L v m r = 0 then L ++ [⟨m, v, r⟩] else L
theorem Fine.add {s : Nat} {L : List Ch} (h : Fine s L) (v m : Int) (r : Bool) : Fine s (add1 s L v m r) := by
  unfold add1
  split
  · rename_i hk
    exact Fine.snoc (c := ⟨m, v, r⟩) h hk
  · exact h
/-- What Add and Remove return. -/
def AddR (w' : World) (v x : Int) (e : Ending) : Prop := (x = 0 ∧ e = .returned .nilIface) ∨ (x ≠ 0 ∧ ∃ q, e = .returned (.iface 86 (.pointer (some ⟨q, 0, none⟩))) ∧ Flt w' q v x)
theorem AddR.ok {w' : World} {v : Int} {e : Ending} (h : AddR w' v 0 e) : e = .returned .nilIface := by
  rcases h with ⟨_, h⟩ | ⟨h, _⟩
  · exact h
  · exact absurd rfl h
theorem AddR.no {w' : World} {v x : Int} {e : Ending} (h : AddR w' v x e) (hx : x ≠ 0) : ∃ q, e = .returned (.iface 86 (.pointer (some ⟨q, 0, none⟩))) ∧ Flt w' q v x := by
  rcases h with ⟨h, _⟩ | ⟨_, h⟩
  · exact absurd h hx
  · exact h
theorem AddR.gives {w' : World} {v x : Int} {e : Ending} (h : AddR w' v x e) : ∃ u, e = .returned u := by
  rcases h with ⟨_, h⟩ | ⟨_, q, h, _⟩
  · exact ⟨_, h⟩
  · exact ⟨_, h⟩
theorem AddR.two {w' : World} {v x : Int} {e : Ending} (h : AddR w' v x e) : ∃ u, e = .returned u ∧ (u = .nilIface ∨ ∃ q, u = .iface 86 (.pointer (some ⟨q, 0, none⟩))) := by
  rcases h with ⟨_, h⟩ | ⟨_, q, h, _⟩
  · exact ⟨_, h, Or.inl rfl⟩
  · exact ⟨_, h, Or.inr ⟨q, rfl⟩⟩
/-- A slice that a call made is a thing more. -/
def RowR (w0 : World) (Ts : List Thg) (l : List Int) (e : Ending) (w' : World) : Prop := ∃ VA c, e = .returned (.slice VA l.length c) ∧ St w0 (Ts ++ [rowT 3 1 (.slice VA l.length c) l.length (nums l)]) w'
theorem St.ints {w0 w w' : World} {Ts : List Thg} {v : Value} {l : List Int} (h : St w0 Ts w) (hI : Ints w' w.heap.size v l) (hb : Below w.heap.size w w') : ∃ VA c, v = .slice VA l.length c ∧ St w0 (Ts ++ [rowT 3 1 (.slice VA l.length c) l.length (nums l)]) w' := by
  obtain ⟨VA, c, rfl, _, _, _⟩ := hI.form
  exact ⟨VA, c, rfl, h.add hb (T := rowT 3 1 (.slice VA l.length c) l.length (nums l)) (G := fun k => (Value.slice VA l.length c).ownBlock = some k) ⟨hI.row, fun k hk => hk, fun k hk => hI.row.lt k hk⟩ fun k hk => hI.own k hk⟩
section
variable {w0 w w' : World} {Ts : List Thg} {i p s : Nat} {L : List Ch}
theorem S_last (h : St w0 Ts w) (hi : Ts[i]? = some (grpT p s L)) (hF : Fine s L) : Calls Tryd.prog 14 #[.pointer (some ⟨p, 0, none⟩)] w fun e w' => e = .returned (.int .i64 (last L)) ∧ St w0 Ts w' :=
  Lk.St.read (R := fun e _ => e = .returned (.int .i64 (last L))) h hi fun _ hp => Last_any hp hF.len
theorem S_at (h : St w0 Ts w) (hi : Ts[i]? = some (grpT p s L)) (hF : Fine s L) (hs : s < 16) (mark : Int) : Calls Tryd.prog 17 #[.pointer (some ⟨p, 0, none⟩), .int .i64 mark] w fun e w' => RowR w0 Ts (vols (atS s L mark) 4) e w' := by
  obtain ⟨G, hp, _, _⟩ := St.opened h hi
  refine (At_any hp hF.len hs hF.vok mark).mono ?_
  rintro e w' ⟨v, rfl, hI, hb⟩
  obtain ⟨VA, c, rfl, hS⟩ := St.ints h hI hb
  exact ⟨VA, c, rfl, hS⟩
theorem S_now (h : St w0 Ts w) (hi : Ts[i]? = some (grpT p s L)) (hF : Fine s L) (hs : s < 16) : Calls Tryd.prog 19 #[.pointer (some ⟨p, 0, none⟩)] w fun e w' => RowR w0 Ts (vols (atS s L (last L)) 4) e w' := by
  obtain ⟨G, hp, _, _⟩ := St.opened h hi
  refine (Now_any hp hF.len hs hF.vok).mono ?_
  rintro e w' ⟨v, rfl, hI, hb⟩
  obtain ⟨VA, c, rfl, hS⟩ := St.ints h hI hb
  exact ⟨VA, c, rfl, hS⟩
theorem St.same (h : St w0 Ts w) (hi : Ts[i]? = some (grpT p s L)) (hb : Below w.heap.size w w') : St w0 (Ts.set i (grpT p s L)) w' := by
  obtain ⟨G, hp, _, hs⟩ := St.opened h hi
  exact hs _ _ (Lk.Thg.after hp hb)
theorem S_add (h : St w0 Ts w) (hi : Ts[i]? = some (grpT p s L)) (hF : Fine s L) (hs : s < 16) (v m : Int) : Calls Tryd.prog 11 #[.pointer (some ⟨p, 0, none⟩), .int .i64 v, .int .i64 m] w fun e w' => AddR w' v (chk s L v m false) e ∧ St w0 (Ts.set i (grpT p s (add1 s L v m false))) w' := by
  unfold add1
  by_cases hk : chk s L v m false = 0
  · rw [if_pos hk]
    refine (Lk.St.call (R := fun e _ => e = .returned .nilIface) h hi fun G hp _ => Add_ok hp (by omega) hF.vok hk).mono ?_
    rintro e w' ⟨h1, h2⟩
    exact ⟨Or.inl ⟨hk, h1⟩, h2⟩
  · rw [if_neg hk]
    obtain ⟨G, hp, _, _⟩ := St.opened h hi
    refine (Add_no hp hF.len (by omega) hF.vok rfl (by simpa using hk)).mono ?_
    rintro e w' ⟨q, h1, h2, h3⟩
    exact ⟨Or.inr ⟨hk, q, h1, h2⟩, St.same h hi h3⟩
theorem S_remove (h : St w0 Ts w) (hi : Ts[i]? = some (grpT p s L)) (hF : Fine s L) (hs : s < 16) (v m : Int) : Calls Tryd.prog 13 #[.pointer (some ⟨p, 0, none⟩), .int .i64 v, .int .i64 m] w fun e w' => AddR w' v (chk s L v m true) e ∧ St w0 (Ts.set i (grpT p s (add1 s L v m true))) w' := by
  unfold add1
  by_cases hk : chk s L v m true = 0
  · rw [if_pos hk]
    refine (Lk.St.call (R := fun e _ => e = .returned .nilIface) h hi fun G hp _ => Remove_ok hp (by omega) hF.vok hk).mono ?_
    rintro e w' ⟨h1, h2⟩
    exact ⟨Or.inl ⟨hk, h1⟩, h2⟩
  · rw [if_neg hk]
    obtain ⟨G, hp, _, _⟩ := St.opened h hi
    refine (Remove_no hp hF.len (by omega) hF.vok rfl (by simpa using hk)).mono ?_
    rintro e w' ⟨q, h1, h2, h3⟩
    exact ⟨Or.inr ⟨hk, q, h1, h2⟩, St.same h hi h3⟩
/-- A new group is a thing more. -/
theorem St.of_new (h : St w0 Ts w) {t : Nat} (h2 : St w [grpT w.heap.size t []] w') : St w0 (Ts ++ [grpT w.heap.size t []]) w' := by
  obtain ⟨G, hp, hG, _⟩ := St.opened h2 (i := 0) rfl
  exact h.add h2.bel hp hG
end

/-! ### The statements' own same and has -/
section
variable {w : World}
set_option maxRecDepth 100000 in
set_option maxHeartbeats 4000000 in
theorem same_any (L M : List Int) (n m : Nat) (A1 A2 : Option Addr) (c1 c2 : Nat) (hn : L.length = n) (hm : M.length = m) (hlim : n ≤ 100000) (h1 : Src w A1 (nums L)) (h2 : Src w A2 (nums M)) :
    Calls Tryd.prog 16 #[.slice A1 n c1, .slice A2 m c2] w fun e w' => e = .returned (.bool (decide (L = M))) ∧ Below w.heap.size w w' := by
  obtain ⟨B, hB⟩ : ∃ B, decide (L = M) = B := ⟨_, rfl⟩
  have HB := hide hB
  have Hn := hide hn
  have Hm := hide hm
  have H1 := hide h1
  have H2 := hide h2
  have hni : (n : Int) ≤ 100000 := by omega
  rw [hB]
  by_cases he : n = m
  · subst he
    clear hn hm h1 h2 hlim hB
    go_enter Tryd.func16, Tryd.ntmps16
    go_wp2
    go_loopw [13] (fun j wr => ∃ k : Nat, k ≤ n ∧ j = .int .i64 k ∧ Hid (L.take k = M.take k) ∧ Hid (Below w.heap.size w wr)) (fun j _ => n - (RowKit.intOf j).toNat)
    case atStart => exact ⟨0, Nat.zero_le _, rfl, rfl, Below.refl _ _⟩
    case round =>
      obtain ⟨k, hk, rfl, ht, hb⟩ := hrel
      rcases Nat.lt_or_ge k n with hlt | hge
      · have Hlt := hide hlt
        have hki : (k : Int) < (n : Int) := by omega
        obtain ⟨x, hx⟩ : ∃ x, L[k]? = some x := ⟨_, List.getElem?_eq_getElem (by rw [Hn.out]; exact hlt)⟩
        obtain ⟨y, hy⟩ : ∃ y, M[k]? = some y := ⟨_, List.getElem?_eq_getElem (by rw [Hm.out]; exact hlt)⟩
        obtain ⟨g1, o1, rfl, _, a0⟩ := Src.num (H1.out.below hb.out) hx
        obtain ⟨g2, o2, rfl, _, b0⟩ := Src.num (H2.out.below hb.out) hy
        cases hxy : (x == y) with
        | true =>
          have HT : Hid (L.take (k + 1) = M.take (k + 1)) := by
            obtain rfl : x = y := by simpa using hxy
            show _ = _
            rw [List.take_add_one, List.take_add_one, hx, hy, ht.out]
          have hne : (x != y) = false := by simp [bne, hxy]
          clear hx hy hlt ht
          go_wp2
          go_quiet (fail)
          go_wp2
          go_roundw
          case rel => exact ⟨k + 1, Hlt.out, by go_num, HT.out, hb.out.trans ⟨rfl, rfl, rfl, Nat.le_refl _, fun _ _ => rfl⟩⟩
          case measure => have := Hlt.out; simp [RowKit.intOf]; omega
        | false =>
          have HF : Hid (B = false) := by
            rw [← HB.out]
            show _ = _
            simp only [decide_eq_false_iff_not]
            rintro rfl
            rw [hx] at hy
            simp_all
          have hne : (x != y) = true := by simp [bne, hxy]
          clear hx hy hlt ht
          go_wp2
          go_quiet (fail)
          go_wp2
          go_ret
          exact ⟨by rw [HF.out]; rfl, hb.out.trans ⟨rfl, rfl, rfl, Nat.le_refl _, fun _ _ => rfl⟩⟩
      · obtain rfl : k = n := by omega
        have HF : Hid (B = true) := by
          have := ht.out
          rw [List.take_of_length_le (by rw [Hn.out]; exact Nat.le_refl _), List.take_of_length_le (by rw [Hm.out]; exact Nat.le_refl _)] at this
          rw [← HB.out]
          show _ = _
          simp [this]
        clear hge hk ht
        go_wp2
        go_ret
        exact ⟨by rw [HF.out]; rfl, hb.out⟩
  · have HF : Hid (B = false) := by
      rw [← HB.out]
      show _ = _
      simp only [decide_eq_false_iff_not]
      rintro rfl
      omega
    have hne : ¬ (n : Int) = (m : Int) := by omega
    clear hn hm h1 h2 hlim hB he
    go_enter Tryd.func16, Tryd.ntmps16
    go_wp2
    go_ret
    exact ⟨by rw [HF.out]; rfl, Below.refl _ _⟩
set_option maxRecDepth 100000 in
set_option maxHeartbeats 4000000 in
theorem hasL_any (L : List Int) (n : Nat) (A1 : Option Addr) (c1 : Nat) (v : Int) (hn : L.length = n) (hlim : n ≤ 100000) (h1 : Src w A1 (nums L)) :
    Calls Tryd.prog 26 #[.slice A1 n c1, .int .i64 v] w fun e w' => e = .returned (.bool (decide (v ∈ L))) ∧ w = w' := by
  obtain ⟨B, hB⟩ : ∃ B, decide (v ∈ L) = B := ⟨_, rfl⟩
  have HB := hide hB
  have Hn := hide hn
  have H1 := hide h1
  have hni : (n : Int) ≤ 100000 := by omega
  rw [hB]
  clear hn h1 hlim hB
  go_enter Tryd.func26, Tryd.ntmps26
  go_wp2
  go_loop [8] (fun j => ∃ k : Nat, k ≤ n ∧ j = .int .i64 k ∧ Hid (¬ v ∈ L.take k)) (fun j => n - (RowKit.intOf j).toNat)
  case atStart => exact ⟨0, Nat.zero_le _, rfl, by simp [Hid]⟩
  case round =>
    obtain ⟨k, hk, rfl, ht⟩ := hrel
    rcases Nat.lt_or_ge k n with hlt | hge
    · have Hlt := hide hlt
      have hki : (k : Int) < (n : Int) := by omega
      obtain ⟨x, hx⟩ : ∃ x, L[k]? = some x := ⟨_, List.getElem?_eq_getElem (by rw [Hn.out]; exact hlt)⟩
      obtain ⟨g1, o1, rfl, _, a0⟩ := Src.num H1.out hx
      cases hxy : (x == v) with
      | false =>
        have HT : Hid (¬ v ∈ L.take (k + 1)) := by
          rw [List.take_add_one, hx]
          intro h
          rcases List.mem_append.1 h with h | h
          · exact ht.out h
          · obtain rfl : v = x := by simpa using h
            simp at hxy
        clear hx hlt ht
        go_wp2
        go_round
        case rel => exact ⟨k + 1, Hlt.out, by go_num, HT.out⟩
        case measure => have := Hlt.out; simp [RowKit.intOf]; omega
      | true =>
        have HF : Hid (B = true) := by
          obtain rfl : x = v := by simpa using hxy
          rw [← HB.out]
          show _ = _
          simpa using List.mem_of_getElem? hx
        clear hx hlt ht
        go_wp2
        go_ret
        exact ⟨by rw [HF.out]; rfl, rfl⟩
    · obtain rfl : k = n := by omega
      have HF : Hid (B = false) := by
        have := ht.out
        rw [List.take_of_length_le (by rw [Hn.out]; exact Nat.le_refl _)] at this
        rw [← HB.out]
        show _ = _
        simpa using this
      clear hge hk ht
      go_wp2
      go_ret
      exact ⟨by rw [HF.out]; rfl, rfl⟩
end

end Go.Proofs.YthoflpjmdhabmaaDoor.Mb
