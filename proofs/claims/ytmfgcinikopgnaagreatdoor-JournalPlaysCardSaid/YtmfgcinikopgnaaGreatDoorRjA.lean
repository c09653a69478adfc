/-
  The contracts of the document's own journal (isobarref06): Next, save, Append, Trim. Nothing but its own memory and its disk's is changed.
-/
import Derived.Deep.AppendLies
import Derived.Test.YtmfgcinikopgnaaGreatDoorJnA
import Derived.Test.YtmfgcinikopgnaaGreatDoorJnB
import Derived.Test.YtmfgcinikopgnaaGreatDoorDkB
import Derived.Test.YtmfgcinikopgnaaGreatDoorRcZ
import Derived.BigQuiet
import Derived.Deep.RegionHeld3

/-
  Slices of the call's own that begin anywhere in their block: what append leaves of one, what a later beginning leaves. Plain theorems, no program of the project.
-/
namespace Go.Proofs.YtmfgcinikopgnaaGreatDoor.Jn
open Go.RowKit
open Pk Sm Fa Rc Dk

/-- v has n elements of size cells, xs, from some cell of its block on; what lies behind them up to its capacity is its own. -/
def ORow (w : World) (e : TypeId) (size : Nat) (v : Value) (n : Nat) (xs : List Value) : Prop :=
  xs.length = n * size ∧
  ((v = .slice none 0 0 ∧ n = 0) ∨
   ∃ g o cap cur, v = .slice (some ⟨g, o, none⟩) n cap ∧ w.heap[g]? = some (.cells cur e (0, 0)) ∧ n ≤ cap ∧ cap ≤ maxLen ∧ o + cap * size ≤ cur.size ∧ (cur.toList.drop o).take (n * size) = xs)
section
variable {w w' : World} {e : TypeId} {size n : Nat} {v : Value} {xs : List Value}
theorem ORow.nil (w : World) (e : TypeId) (size : Nat) : ORow w e size (.slice none 0 0) 0 [] := ⟨by simp, .inl ⟨rfl, rfl⟩⟩
theorem ORow.lt (h : ORow w e size v n xs) : ∀ k, v.ownBlock = some k → k < w.heap.size := by
  intro k hk
  rcases h.2 with ⟨rfl, _⟩ | ⟨g, o, cap, cur, rfl, hg, _⟩
  · simp [Value.ownBlock] at hk
  · simp [Value.ownBlock] at hk
    subst hk
    exact heap_lt hg
theorem ORow.same (h : ORow w e size v n xs) (hk : ∀ k, v.ownBlock = some k → w'.heap[k]? = w.heap[k]?) : ORow w' e size v n xs := by
  refine ⟨h.1, ?_⟩
  rcases h.2 with hn | ⟨g, o, cap, cur, rfl, hg, hr⟩
  · exact Or.inl hn
  · exact Or.inr ⟨g, o, cap, cur, rfl, (hk g rfl).trans hg, hr⟩
theorem ORow.form (h : ORow w e size v n xs) : ∃ A c, v = .slice A n c ∧ n ≤ c ∧ c ≤ maxLen ∧ (xs ≠ [] → ∃ g o, A = some ⟨g, o, none⟩ ∧ g < w.heap.size ∧ ∀ j u, xs[j]? = some u → w.cell? ⟨g, o + j, none⟩ = some u) := by
  rcases h.2 with ⟨rfl, rfl⟩ | ⟨g, o, cap, cur, rfl, hg, h1, h2, h3, h4⟩
  · refine ⟨none, 0, rfl, Nat.le_refl _, Nat.zero_le _, fun hne => absurd ?_ hne⟩
    have := h.1
    exact List.eq_nil_of_length_eq_zero (by omega)
  · refine ⟨some ⟨g, o, none⟩, cap, rfl, h1, h2, fun _ => ⟨g, o, rfl, heap_lt hg, fun j u hj => ?_⟩⟩
    rw [← h4] at hj
    have hlt := (List.getElem?_eq_some_iff.1 hj).1
    rw [List.getElem?_take, if_pos (by simp at hlt; omega), List.getElem?_drop] at hj
    simp [World.cell?, hg, ← Array.getElem?_toList, hj]
theorem ORow.kept (h : ORow w e size v n xs) {G : Nat → Prop} (hk : Kept G w w') (hd : ∀ k, v.ownBlock = some k → ¬ G k) : ORow w' e size v n xs := h.same fun k hb => hk.block k (h.lt k hb) (hd k hb)
/-- A later beginning. -/
theorem ORow.cut {A : Option Addr} {c k : Nat} (h : ORow w e size (.slice A n c) n xs) (hk : k ≤ n) {g o : Nat} (hA : A = some ⟨g, o, none⟩) : ORow w e size (.slice (some ⟨g, o + k * size, none⟩) (n - k) (c - k)) (n - k) (xs.drop (k * size)) := by
  subst hA
  have hmul : n * size = k * size + (n - k) * size := by rw [← Nat.add_mul]; congr 1; omega
  refine ⟨by rw [List.length_drop, h.1]; omega, ?_⟩
  rcases h.2 with ⟨h0, _⟩ | ⟨g', o', cap, cur, h0, hg, h1, h2, h3, h4⟩
  · simp at h0
  · simp only [Value.slice.injEq, Option.some.injEq, Addr.mk.injEq] at h0
    obtain ⟨⟨rfl, rfl, _⟩, _, rfl⟩ := h0
    have hmc : c * size = k * size + (c - k) * size := by rw [← Nat.add_mul]; congr 1; omega
    refine Or.inr ⟨g, o + k * size, c - k, cur, rfl, hg, by omega, by omega, by omega, ?_⟩
    rw [← h4, hmul, List.drop_take, Nat.add_sub_cancel_left, List.drop_drop]
/-- Nothing of it, and no room. -/
theorem ORow.none0 {A : Option Addr} {c : Nat} (h : ORow w e size (.slice A n c) n xs) : ORow w e size (.slice A 0 0) 0 [] := by
  refine ⟨by simp, ?_⟩
  rcases h.2 with ⟨h0, _⟩ | ⟨g, o, cap, cur, h0, hg, h1, h2, h3, h4⟩
  · simp at h0
    obtain ⟨rfl, _, _⟩ := h0
    exact Or.inl ⟨rfl, rfl⟩
  · simp only [Value.slice.injEq] at h0
    obtain ⟨rfl, _, rfl⟩ := h0
    exact Or.inr ⟨g, o, 0, cur, rfl, hg, Nat.le_refl _, Nat.zero_le _, by omega, by simp⟩
/-- A fresh block. -/
theorem ORow.of_own {base : Nat} (h : w.ownsRow base e size v n xs) : ORow w e size v n xs := by
  refine ⟨h.1, ?_⟩
  rcases h.2 with hn | ⟨g, cap, cur, rfl, _, hg, h1, h2, h3, h4⟩
  · exact Or.inl hn
  · exact Or.inr ⟨g, 0, cap, cur, rfl, hg, h1, h2, by omega, by simpa using h4⟩
end

section
variable {P : Program} (w : World)
theorem run_append_room_at (t ty e : TypeId) (i : TypeInfo) (ht : P.underlying t = some (.slice e)) (hi : P.info? e = some i)
    (g o sLen sCap : Nat) (cur : Array Value) (hg : w.heap[g]? = some (.cells cur e (0, 0)))
    (a : Addr) (m c : Nat) (news : List Value) (hl : news.length = m * i.size) (hnews : ∀ j u, news[j]? = some u → w.cell? (a.add j) = some u) (h1 : ∀ u ∈ news, u.oneCell' = true)
    (hroom : sLen + m ≤ sCap) (hfit : o + sLen * i.size + news.length ≤ cur.size) :
    (Builtin.append_ #[t, t] ty #[.slice (some ⟨g, o, none⟩) sLen sCap, .slice (some a) m c]).run P w =
      .ok (.slice (some ⟨g, o, none⟩) (sLen + m) sCap) (w.setRow g (cur.toList.take (o + sLen * i.size) ++ news ++ cur.toList.drop (o + sLen * i.size + news.length)).toArray) := by
  have hf := run_firstCells_some (P := P) w i.size m a m c news hl hnews
  have hst := run_storeCells_at P g (o + sLen * i.size) e news 0 cur w hg (by simpa using hfit) h1
  simp only [Nat.add_zero] at hst
  simp [Builtin.append_, run_underlying ht, sizeOf, typeInfo, hi, Builtin.lenOf, hroom, hf, Addr.add_lit, hst]

theorem run_append_o (t ty : TypeId) (e : TypeId) (i : TypeInfo) (z : Value) (size bytes : Nat) (ht : P.underlying t = some (.slice e)) (hi : P.info? e = some i) (hz : i.zero = some z)
    (hsize : i.size = size) (hby : i.bytes = bytes) (hzs : z.cells.size = size)
    (v : Value) (n : Nat) (xs : List Value) (hown : ORow w e size v n xs)
    (a : Addr) (m c : Nat) (news : List Value) (hl : news.length = m * size) (hnews : ∀ j u, news[j]? = some u → w.cell? (a.add j) = some u) (h1 : ∀ u ∈ news, u.oneCell' = true)
    (hm : 0 < m) (h63 : n + m ≤ maxLen) (hbytes : (n + m) * bytes ≤ 140737488355328) :
    ∃ g o cap w', (Builtin.append_ #[t, t] ty #[v, .slice (some a) m c]).run P w = .ok (.slice (some ⟨g, o, none⟩) (n + m) cap) w' ∧ ORow w' e size (.slice (some ⟨g, o, none⟩) (n + m) cap) (n + m) (xs ++ news) ∧ w.grownBy w' v.ownBlock ∧ (v.ownBlock = some g ∨ g = w.heap.size) ∧ g < w'.heap.size := by
  subst hsize
  subst hby
  have hsmall : n + m ≤ 9223372036854775807 := by simp only [maxLen] at h63; omega
  have hlen : (xs ++ news).length = (n + m) * i.size := by rw [List.length_append, hown.1, hl, Nat.add_mul]
  have grown : ∀ (old : Nat), ∀ (row : Option Nat),
      ORow (w.drew.alloc (.cells (xs.toArray ++ news.toArray ++ Builtin.zeroCells z.cells (grownCap w (n + m) old e - (n + m))) e)) e i.size
        (.slice (some ⟨w.heap.size, 0, none⟩) (n + m) (grownCap w (n + m) old e)) (n + m) (xs ++ news) ∧
      w.grownBy (w.drew.alloc (.cells (xs.toArray ++ news.toArray ++ Builtin.zeroCells z.cells (grownCap w (n + m) old e - (n + m))) e)) row := by
    intro old row
    have hge := grownCap_ge w (n + m) old e
    have hcm : grownCap w (n + m) old e ≤ maxLen := grownCap_le_maxLen w (n + m) old e h63
    refine ⟨⟨hlen, .inr ⟨w.heap.size, 0, _, _, rfl, heap_alloc_new w.drew _, hge, hcm, ?_, ?_⟩⟩, ⟨rfl, rfl, rfl, by simp, fun k hk _ => by first | exact Go.heap_alloc_old w.drew _ hk | exact Go.heap_alloc_old w.drew _ k hk⟩⟩
    · simp only [Array.size_append, List.size_toArray, size_zeroCells, hzs, hown.1, hl, ← Nat.add_mul]
      rw [Nat.zero_add]
      exact Nat.mul_le_mul_right _ (by omega)
    · simp only [Array.toList_append, List.append_assoc, List.drop_zero]
      rw [← List.append_assoc, ← hlen]
      exact List.take_left
  rcases hown.2 with ⟨rfl, rfl⟩ | ⟨g, o, cap, cur, rfl, hg, hnc, hcm, hcs, htake⟩
  · have hx : xs = [] := List.eq_nil_of_length_eq_zero (by simpa using hown.1)
    subst hx
    have hr := run_append_nil (P := P) w t ty e i z ht hi hz a m c news hl hnews (by omega) (by omega) (by have hb := hbytes; simp only [Nat.zero_add] at hb; omega)
    have hgr := grown 0 (Value.ownBlock (.slice none 0 0))
    simp only [Nat.zero_add, List.nil_append, Array.empty_append] at hgr ⊢
    exact ⟨_, _, _, _, hr, hgr.1, hgr.2, Or.inr rfl, by simp⟩
  · by_cases hroom : n + m ≤ cap
    · have hle : n * i.size + m * i.size ≤ cap * i.size := by rw [← Nat.add_mul]; exact Nat.mul_le_mul_right _ hroom
      have hfit : o + n * i.size + news.length ≤ cur.size := by rw [hl]; omega
      have hr := run_append_room_at (P := P) w t ty e i ht hi g o n cap cur hg a m c news hl hnews h1 hroom hfit
      refine ⟨_, _, _, _, hr, ⟨hlen, .inr ⟨g, o, cap, _, rfl, setRow_heap w g cur _ e _ hg, hroom, hcm, ?_, ?_⟩⟩, ⟨rfl, rfl, rfl, by simp, fun k _ hk => setRow_other w g k _ (fun e => hk (by simp [Value.ownBlock, e]))⟩, Or.inl rfl, by simpa using heap_lt hg⟩
      · simp only [List.size_toArray, List.length_append, List.length_take, List.length_drop, Array.length_toList]
        omega
      · have e1 : cur.toList.take (o + n * i.size) = cur.toList.take o ++ xs := by
          rw [← htake, List.take_add]
        have hto : (cur.toList.take o).length = o := by rw [List.length_take, Array.length_toList]; omega
        rw [List.append_assoc, e1, List.append_assoc, List.drop_append_of_le_length (by omega), List.drop_of_length_le (by omega), List.nil_append, ← List.append_assoc, ← hlen]
        exact List.take_left
    · obtain ⟨A, c', hA, _, _, hcell⟩ := hown.form
      have holds : ∀ j u, xs[j]? = some u → w.cell? ((⟨g, o, none⟩ : Addr).add j) = some u := fun j u hj => by
        obtain ⟨g', o', e1, _, h2⟩ := hcell (by rintro rfl; simp at hj)
        subst e1
        simp only [Value.slice.injEq, Option.some.injEq, Addr.mk.injEq] at hA
        obtain ⟨⟨rfl, rfl, _⟩, _, _⟩ := hA
        rw [Addr.add_lit]
        exact h2 j u hj
      have hr := run_append_grow (P := P) w t ty e i z ht hi hz ⟨g, o, none⟩ n cap xs hown.1 holds a m c news hl hnews (by omega) (by omega) (growslice_fits (by omega) hbytes)
      have hgr := grown cap (Value.ownBlock (.slice (some ⟨g, o, none⟩) n cap))
      exact ⟨_, _, _, _, hr, hgr.1, hgr.2, Or.inr rfl, by simp⟩

theorem wp_append_o {o : Oper} {a : Act} {K : Act → World → Prop} {Q : Exit → Act → World → Prop} (s x : Operand) (t : TypeId)
    (ho : o.op = .call { callee := .builtin .append, args := #[s, x], argTypes := #[t, t] })
    (e : TypeId) (i : TypeInfo) (z : Value) (size bytes : Nat) (ht : P.underlying t = some (.slice e)) (hi : P.info? e = some i) (hz : i.zero = some z)
    (hsize : i.size = size) (hby : i.bytes = bytes) (hzs : z.cells.size = size)
    (v : Value) (n : Nat) (xs : List Value) (hs : a.eval s = v) (hown : ORow w e size v n xs)
    (ad : Addr) (m c : Nat) (news : List Value) (hx : a.eval x = .slice (some ad) m c) (hl : news.length = m * size) (hnews : ∀ j u, news[j]? = some u → w.cell? (ad.add j) = some u) (h1 : ∀ u ∈ news, u.oneCell' = true)
    (hm : 0 < m) (h63 : n + m ≤ maxLen) (hbytes : (n + m) * bytes ≤ 140737488355328) (H : Nat) (hH : w.heap.size = H)
    (h : ∀ g o' cap w', ORow w' e size (.slice (some ⟨g, o', none⟩) (n + m) cap) (n + m) (xs ++ news) → w.grownBy w' v.ownBlock → (v.ownBlock = some g ∨ g = H) → g < w'.heap.size → K (a.put o.dst (.slice (some ⟨g, o', none⟩) (n + m) cap)) w') : o.wp P a w K Q := by
  obtain ⟨g, o', cap, w', hr, h2, h3, h4, h5⟩ := run_append_o (P := P) w t o.type e i z size bytes ht hi hz hsize hby hzs v n xs hown ad m c news hl hnews h1 hm h63 hbytes
  unfold Oper.wp execOp
  simp only [ho, resolve, invoke, builtin, Sem.run_bind, Sem.run_pure, Result.andThen_ok, List.map_toArray, List.map_cons, List.map_nil, hs, hx, hr]
  exact h g o' cap w' h2 h3 (by rw [← hH]; exact h4) h5

theorem wpList_append_o {ops : Array Oper} {rest : List Oper} {o : Oper} {a : Act} {Q : Exit → Act → World → Prop} (hgd : o.guard = none) (s x : Operand) (t : TypeId)
    (ho : o.op = .call { callee := .builtin .append, args := #[s, x], argTypes := #[t, t] })
    (e : TypeId) (i : TypeInfo) (z : Value) (size bytes : Nat) (ht : P.underlying t = some (.slice e)) (hi : P.info? e = some i) (hz : i.zero = some z)
    (hsize : i.size = size) (hby : i.bytes = bytes) (hzs : z.cells.size = size)
    (v : Value) (n : Nat) (xs : List Value) (hs : a.eval s = v) (hown : ORow w e size v n xs)
    (ad : Addr) (m c : Nat) (news : List Value) (hx : a.eval x = .slice (some ad) m c) (hl : news.length = m * size) (hnews : ∀ j u, news[j]? = some u → w.cell? (ad.add j) = some u) (h1 : ∀ u ∈ news, u.oneCell' = true)
    (hm : 0 < m) (h63 : n + m ≤ maxLen) (hbytes : (n + m) * bytes ≤ 140737488355328) (H : Nat) (hH : w.heap.size = H)
    (h : ∀ g o' cap w', ORow w' e size (.slice (some ⟨g, o', none⟩) (n + m) cap) (n + m) (xs ++ news) → w.grownBy w' v.ownBlock → (v.ownBlock = some g ∨ g = H) → g < w'.heap.size → wpList P ops Q rest (a.put o.dst (.slice (some ⟨g, o', none⟩) (n + m) cap)) w') : wpList P ops Q (o :: rest) a w :=
  wpList_plain hgd fun _ hK => wp_append_o w s x t ho e i z size bytes ht hi hz hsize hby hzs v n xs hs hown ad m c news hx hl hnews h1 hm h63 hbytes H hH fun g o' cap w' h2 h3 h4 h5 => hK _ _ (h g o' cap w' h2 h3 h4 h5)
theorem step_append_o {ops : Array Oper} {o : Oper} {a : Act} {K : Act → World → Prop} {Q : Exit → Act → World → Prop} {E : Prop} (hgd : o.guard = none) (s x : Operand) (t : TypeId)
    (ho : o.op = .call { callee := .builtin .append, args := #[s, x], argTypes := #[t, t] })
    (e : TypeId) (i : TypeInfo) (z : Value) (size bytes : Nat) (ht : P.underlying t = some (.slice e)) (hi : P.info? e = some i) (hz : i.zero = some z)
    (hsize : i.size = size) (hby : i.bytes = bytes) (hzs : z.cells.size = size)
    (v : Value) (n : Nat) (xs : List Value) (hs : a.eval s = v) (hown : ORow w e size v n xs)
    (ad : Addr) (m c : Nat) (news : List Value) (hx : a.eval x = .slice (some ad) m c) (hl : news.length = m * size) (hnews : ∀ j u, news[j]? = some u → w.cell? (ad.add j) = some u) (h1 : ∀ u ∈ news, u.oneCell' = true)
    (hm : 0 < m) (h63 : n + m ≤ maxLen) (hbytes : (n + m) * bytes ≤ 140737488355328) (H : Nat) (hH : w.heap.size = H)
    (h : ∀ g o' cap w', ORow w' e size (.slice (some ⟨g, o', none⟩) (n + m) cap) (n + m) (xs ++ news) → w.grownBy w' v.ownBlock → (v.ownBlock = some g ∨ g = H) → g < w'.heap.size → K (a.put o.dst (.slice (some ⟨g, o', none⟩) (n + m) cap)) w') :
    if Region.wanted o (yielded ops a.tmps) = true then Oper.wp P o a w K Q else E := by
  have hw : Region.wanted o (yielded ops a.tmps) = true := by simp [Region.wanted, hgd]
  rw [if_pos hw]
  exact wp_append_o w s x t ho e i z size bytes ht hi hz hsize hby hzs v n xs hs hown ad m c news hx hl hnews h1 hm h63 hbytes H hH h
end

end Go.Proofs.YtmfgcinikopgnaaGreatDoor.Jn

/-
  The document's own journal in memory, beside the document's own disk: what a store, and a call on the disk, leave of it. Plain theorems, no premise beyond those in each.
-/
namespace Go.Proofs.YtmfgcinikopgnaaGreatDoor.Jn
open Go.RowKit
open Pk Sm Fa Rc Dk

def gcels (E : List Ent) : List Value := E.map fun e => .int .i64 (e.g : Int)
theorem gcels_snoc (E : List Ent) (e : Ent) : gcels (E ++ [e]) = gcels E ++ [.int .i64 (e.g : Int)] := by simp [gcels]
theorem gcels_drop (E : List Ent) (k : Nat) : (gcels E).drop k = gcels (E.drop k) := by simp [gcels]
theorem rcels_drop (E : List Ent) (k : Nat) : (rcels E).drop (k * 5) = rcels (E.drop k) := by
  have h1 : rcels E = rcels (E.take k) ++ rcels (E.drop k) := by simp only [rcels, ← List.flatMap_append, List.take_append_drop]
  have h2 : (rcels (E.take k)).length = (E.take k).length * 5 := flat_len _ (fun e he => rcel_len _ e he)
  rcases Nat.lt_or_ge k E.length with h | h
  · rw [List.length_take, Nat.min_eq_left (by omega)] at h2
    rw [h1, ← h2, List.drop_left]
  · have h3 : (rcels E).length = E.length * 5 := flat_len _ (fun e he => rcel_len _ e he)
    rw [List.drop_of_length_le (by omega), List.drop_of_length_le h]
    rfl
abbrev rjs (q n : Nat) (h : Hd) (X Y : Value) : Array Value := #[.pointer (some ⟨q, 0, none⟩), .int .i64 (n : Int), .int .i64 (h.t : Int), .int .i64 (h.f : Int), .int .i64 (h.g : Int), .int .i64 (h.l : Int), X, Y]
/-- The journal: its blocks are J's. -/
structure RjAt (w : World) (J : Nat → Prop) (p q n : Nat) (h : Hd) (E F : List Ent) (X Y : Value) : Prop where
  box : w.heap[p]? = some (.cells (rjs q n h X Y) 59 (0, 0))
  rows : ORow w 42 5 X E.length (rcels E)
  gens : ORow w 3 1 Y F.length (gcels F)
  mine : J p
  row : ∀ k, X.ownBlock = some k → J k ∧ k ≠ p
  gen : ∀ k, Y.ownBlock = some k → J k ∧ k ≠ p ∧ X.ownBlock ≠ some k
  lt : ∀ k, J k → k < w.heap.size
def Rj (w : World) (G : Nat → Prop) (p q : Nat) (S : List Sec) (L : List Wr) (n : Nat) (h : Hd) (E : List Ent) : Prop :=
  ∃ D J X Y, RDsk w D q S L ∧ RjAt w J p q n h E E X Y ∧ (∀ k, D k → ¬ J k) ∧ (∀ k, G k ↔ D k ∨ J k)
def RjPost (w : World) (G : Nat → Prop) (p q : Nat) (S : List Sec) (L : List Wr) (n : Nat) (h : Hd) (E : List Ent) (w' : World) : Prop := ∃ G', Rj w' G' p q S L n h E ∧ Grew w G G' ∧ Kept G w w'

section
variable {w w' : World} {G J : Nat → Prop} {p q n : Nat} {S : List Sec} {L : List Wr} {h : Hd} {E F : List Ent} {X Y : Value}
theorem RjAt.kept (j : RjAt w J p q n h E F X Y) {K : Nat → Prop} (hk : Kept K w w') (hd : ∀ k, J k → ¬ K k) : RjAt w' J p q n h E F X Y where
  box := (hk.block p (j.lt p j.mine) (hd p j.mine)).trans j.box
  rows := j.rows.kept hk fun k hb => hd k (j.row k hb).1
  gens := j.gens.kept hk fun k hb => hd k (j.gen k hb).1
  mine := j.mine
  row := j.row
  gen := j.gen
  lt := fun k hk2 => Nat.lt_of_lt_of_le (j.lt k hk2) hk.size
theorem RjAt.below (j : RjAt w J p q n h E F X Y) (hb : Below w.heap.size w w') : RjAt w' J p q n h E F X Y := j.kept (Kept.of_below (G := fun _ => False) hb) fun _ _ h => h
theorem Rj.lt (j : Rj w G p q S L n h E) : ∀ k, G k → k < w.heap.size := by
  obtain ⟨D, J, X, Y, hd, hj, _, hg⟩ := j
  intro k hk
  rcases (hg k).1 hk with h1 | h1
  · exact hd.lt k h1
  · exact hj.lt k h1
theorem Rj.kept (j : Rj w G p q S L n h E) {K : Nat → Prop} (hk : Kept K w w') (hd : ∀ k, G k → ¬ K k) : Rj w' G p q S L n h E := by
  obtain ⟨D, J, X, Y, h1, h2, h3, h4⟩ := j
  exact ⟨D, J, X, Y, h1.kept hk fun k hk => hd k ((h4 k).2 (Or.inl hk)), h2.kept hk fun k hk => hd k ((h4 k).2 (Or.inr hk)), h3, h4⟩
theorem Rj.below (j : Rj w G p q S L n h E) (hb : Below w.heap.size w w') : Rj w' G p q S L n h E := j.kept (Kept.of_below (G := fun _ => False) hb) fun _ _ h => h
theorem Rj.post (j : Rj w G p q S L n h E) (hb : Below w.heap.size w w') : RjPost w G p q S L n h E w' := ⟨G, j.below hb, Grew.refl _ _, Kept.of_below hb⟩
theorem RjPost.then {S' S'' : List Sec} {L' L'' : List Wr} {h' h'' : Hd} {E' E'' : List Ent} {w'' : World} (a : RjPost w G p q S' L' n h' E' w')
    (b : ∀ G', Rj w' G' p q S' L' n h' E' → RjPost w' G' p q S'' L'' n h'' E'' w'') : RjPost w G p q S'' L'' n h'' E'' w'' := by
  obtain ⟨G', j, hg, hk⟩ := a
  obtain ⟨G'', j2, hg2, hk2⟩ := b G' j
  exact ⟨G'', j2, hg.trans hk.size hg2, hk.trans hg hk2⟩
theorem RjPost.below {w'' : World} (a : RjPost w G p q S L n h E w') (hb : Below w'.heap.size w' w'') : RjPost w G p q S L n h E w'' := a.then fun _ j => j.post hb
theorem RjPost.of {G1 : Nat → Prop} {w1 : World} (hg : Grew w G G1) (hk : Kept G w w1) (b : RjPost w1 G1 p q S L n h E w') : RjPost w G p q S L n h E w' := by
  obtain ⟨G2, j, hg2, hk2⟩ := b
  exact ⟨G2, j, hg.trans hk.size hg2, hk.trans hg hk2⟩
theorem RjPost.after {w1 : World} (hb : Below w.heap.size w w1) (b : RjPost w1 G p q S L n h E w') : RjPost w G p q S L n h E w' := RjPost.of (Grew.refl _ _) (Kept.of_below hb) b
/-- A store in the journal's own struct. -/
theorem RjAt.set {i : Nat} {v : Value} {h' : Hd} (j : RjAt w J p q n h E F X Y) (hc : (rjs q n h X Y).setIfInBounds i v = rjs q n h' X Y) : RjAt (w.setCell ⟨p, i, none⟩ v) J p q n h' E F X Y where
  box := by rw [heap_setCell_same w p i _ _ v j.box, hc]
  rows := j.rows.same fun k hb => heap_setCell_other _ _ _ _ (j.row k hb).2
  gens := j.gens.same fun k hb => heap_setCell_other _ _ _ _ (j.gen k hb).2.1
  mine := j.mine
  row := j.row
  gen := j.gen
  lt := fun k hk => by have := j.lt k hk; simpa [World.setCell] using this
theorem Rj.set {i : Nat} {v : Value} {h' : Hd} (j : Rj w G p q S L n h E) (hc : ∀ X Y, (rjs q n h X Y).setIfInBounds i v = rjs q n h' X Y) : RjPost w G p q S L n h' E (w.setCell ⟨p, i, none⟩ v) := by
  obtain ⟨D, J, X, Y, h1, h2, h3, h4⟩ := j
  have hk := Kept.set (Kept.refl J w) h2.mine i v
  exact ⟨G, ⟨D, J, X, Y, h1.kept hk fun k hk => h3 k hk, h2.set (hc X Y), h3, h4⟩, Grew.refl _ _, Kept.set (Kept.refl G w) ((h4 p).2 (Or.inr h2.mine)) i v⟩
/-- What a call on the disk alone leaves. -/
theorem Rj.disk {D : Nat → Prop} {S' : List Sec} {L' : List Wr} (h2 : RjAt w J p q n h E E X Y) (h3 : ∀ k, D k → ¬ J k) (h4 : ∀ k, G k ↔ D k ∨ J k) (hp : RPost w D q S' L' w') : RjPost w G p q S' L' n h E w' := by
  obtain ⟨D', hd, hg, hk⟩ := hp
  refine ⟨fun k => D' k ∨ J k, ⟨D', J, X, Y, hd, h2.kept hk fun k hj hD => h3 k hD hj, fun k hD' hj => ?_, fun k => Iff.rfl⟩, fun k hk' => ?_, ⟨hk.os, hk.tape, hk.output, hk.size, fun k hlt hn => hk.block k hlt fun hD => hn ((h4 k).2 (Or.inl hD))⟩⟩
  · rcases hg k hD' with h5 | h5
    · exact h3 k h5 hj
    · have := h2.lt k hj
      omega
  · rcases hk' with h5 | h5
    · exact (hg k h5).imp (fun h6 => (h4 k).2 (Or.inl h6)) id
    · exact Or.inl ((h4 k).2 (Or.inr h5))
/-- What a change in the journal's own rows leaves. -/
theorem Rj.mine {D J' : Nat → Prop} {h' : Hd} {E' : List Ent} {X' Y' : Value} (h1 : RDsk w D q S L) (h3 : ∀ k, D k → ¬ J k) (h4 : ∀ k, G k ↔ D k ∨ J k) (hg : Grew w J J') (hk : Kept J w w') (hn : RjAt w' J' p q n h' E' E' X' Y') : RjPost w G p q S L n h' E' w' := by
  refine ⟨fun k => D k ∨ J' k, ⟨D, J', X', Y', h1.kept hk h3, hn, fun k hD hj => ?_, fun k => Iff.rfl⟩, fun k hk' => ?_, ⟨hk.os, hk.tape, hk.output, hk.size, fun k hlt hn => hk.block k hlt fun hJ => hn ((h4 k).2 (Or.inr hJ))⟩⟩
  · rcases hg k hj with h5 | h5
    · exact h3 k hD h5
    · have := h1.lt k hD
      omega
  · rcases hk' with h5 | h5
    · exact Or.inl ((h4 k).2 (Or.inl h5))
    · exact (hg k h5).imp (fun h6 => (h4 k).2 (Or.inr h6)) id
/-- The cells of the struct. -/
theorem RjAt.cells (j : RjAt w J p q n h E F X Y) : ∃ A c B d, X = .slice A E.length c ∧ Y = .slice B F.length d ∧ w.cell? ⟨p, 0, none⟩ = some (.pointer (some ⟨q, 0, none⟩)) ∧ w.cell? ⟨p, 1, none⟩ = some (.int .i64 (n : Int)) ∧ w.cell? ⟨p, 2, none⟩ = some (.int .i64 (h.t : Int)) ∧
    w.cell? ⟨p, 3, none⟩ = some (.int .i64 (h.f : Int)) ∧ w.cell? ⟨p, 4, none⟩ = some (.int .i64 (h.g : Int)) ∧ w.cell? ⟨p, 5, none⟩ = some (.int .i64 (h.l : Int)) ∧ w.cell? ⟨p, 6, none⟩ = some (.slice A E.length c) ∧ w.cell? ⟨p, 7, none⟩ = some (.slice B F.length d) ∧ (∀ i, w.frozen? ⟨p, i, none⟩ = false) := by
  obtain ⟨A, c, rfl, _⟩ := j.rows.form
  obtain ⟨B, d, rfl, _⟩ := j.gens.form
  refine ⟨A, c, B, d, rfl, rfl, ?_, ?_, ?_, ?_, ?_, ?_, ?_, ?_, fun i => blk_free j.box i⟩ <;> simp [World.cell?, j.box]

/-! ### Changes of its own rows -/
section
variable {w5 W w6 : World} {g o cap m : Nat} {y : Ent}
theorem RjAt.box6 (j : RjAt w5 J p q n h E F X Y) (hb : Below w5.heap.size w5 W) {v : Value} (hv : v = X ∨ v = Y) (hgr : W.grownBy w6 v.ownBlock) : w6.heap[p]? = some (.cells (rjs q n h X Y) 59 (0, 0)) := by
  have hl := j.lt p j.mine
  rw [hgr.block p (Nat.lt_of_lt_of_le hl hb.size) (fun e => by rcases hv with rfl | rfl; exact (j.row p e.symm).2 rfl; exact (j.gen p e.symm).2.1 rfl), hb.block p hl]
  exact j.box
/-- One more record. -/
theorem RjAt.appendedL (j : RjAt w5 J p q n h E F X Y) (hb : Below w5.heap.size w5 W) (hgr : W.grownBy w6 X.ownBlock)
    (hown : ORow w6 42 5 (.slice (some ⟨g, o, none⟩) (m + 1) cap) (m + 1) (rcels E ++ rcel y)) (hor : X.ownBlock = some g ∨ g = W.heap.size) (hm : E.length = m) :
    RjAt (w6.setCell ⟨p, 6, none⟩ (.slice (some ⟨g, o, none⟩) (m + 1) cap)) (fun k => J k ∨ (w5.heap.size ≤ k ∧ k < w6.heap.size)) p q n h (E ++ [y]) F (.slice (some ⟨g, o, none⟩) (m + 1) cap) Y ∧ Kept J w5 (w6.setCell ⟨p, 6, none⟩ (.slice (some ⟨g, o, none⟩) (m + 1) cap)) := by
  have hp := j.box6 hb (Or.inl rfl) hgr
  have hsz : (w6.setCell ⟨p, 6, none⟩ (.slice (some ⟨g, o, none⟩) (m + 1) cap)).heap.size = w6.heap.size := by simp [World.setCell]
  have hgs := hgr.size
  have hbs := hb.size
  have hgp : g ≠ p := by
    rcases hor with h | h
    · exact (j.row g h).2
    · have := j.lt p j.mine; omega
  have hgl : g < w6.heap.size := hown.lt g rfl
  have hk : Kept J w5 (w6.setCell ⟨p, 6, none⟩ (.slice (some ⟨g, o, none⟩) (m + 1) cap)) := by
    refine ⟨hgr.os.trans hb.os, hgr.tape.trans hb.tape, hgr.output.trans hb.output, by rw [hsz]; omega, fun k hk hn => ?_⟩
    rw [heap_setCell_other _ _ _ _ (fun e => hn (by have e' : k = p := e; rw [e']; exact j.mine)), hgr.block k (by omega) (fun e => hn (j.row k e.symm).1), hb.block k hk]
  refine ⟨⟨?_, ?_, ?_, Or.inl j.mine, ?_, ?_, ?_⟩, hk⟩
  · rw [heap_setCell_same w6 p 6 _ _ _ hp]; rfl
  · rw [List.length_append, hm, rcels_snoc]
    exact hown.same fun k hk => by
      have : g = k := by simpa [Value.ownBlock] using hk
      rw [heap_setCell_other _ _ _ _ (by rw [← this]; exact hgp)]
  · exact j.gens.same fun k hk => by
      have hj := j.gen k hk
      have hl := j.lt k hj.1
      rw [heap_setCell_other _ _ _ _ hj.2.1, hgr.block k (by omega) (fun e => hj.2.2 e.symm), hb.block k hl]
  · intro k hk
    have hk' : g = k := by simpa [Value.ownBlock] using hk
    subst hk'
    refine ⟨?_, hgp⟩
    rcases hor with h | h
    · exact Or.inl (j.row g h).1
    · exact Or.inr ⟨by omega, hgl⟩
  · intro k hk
    have hj := j.gen k hk
    refine ⟨Or.inl hj.1, hj.2.1, fun e => ?_⟩
    have e' : g = k := by simpa [Value.ownBlock] using e
    subst e'
    rcases hor with h | h
    · exact hj.2.2 h
    · have := j.lt g hj.1; omega
  · intro k hk
    rw [hsz]
    rcases hk with hk | hk
    · have := j.lt k hk; omega
    · exact hk.2
/-- One more generation. -/
theorem RjAt.appendedG (j : RjAt w5 J p q n h E F X Y) (hb : Below w5.heap.size w5 W) (hgr : W.grownBy w6 Y.ownBlock)
    (hown : ORow w6 3 1 (.slice (some ⟨g, o, none⟩) (m + 1) cap) (m + 1) (gcels F ++ [.int .i64 (y.g : Int)])) (hor : Y.ownBlock = some g ∨ g = W.heap.size) (hm : F.length = m) :
    RjAt (w6.setCell ⟨p, 7, none⟩ (.slice (some ⟨g, o, none⟩) (m + 1) cap)) (fun k => J k ∨ (w5.heap.size ≤ k ∧ k < w6.heap.size)) p q n h E (F ++ [y]) X (.slice (some ⟨g, o, none⟩) (m + 1) cap) ∧ Kept J w5 (w6.setCell ⟨p, 7, none⟩ (.slice (some ⟨g, o, none⟩) (m + 1) cap)) := by
  have hp := j.box6 hb (Or.inr rfl) hgr
  have hsz : (w6.setCell ⟨p, 7, none⟩ (.slice (some ⟨g, o, none⟩) (m + 1) cap)).heap.size = w6.heap.size := by simp [World.setCell]
  have hgs := hgr.size
  have hbs := hb.size
  have hgp : g ≠ p := by
    rcases hor with h | h
    · exact (j.gen g h).2.1
    · have := j.lt p j.mine; omega
  have hgl : g < w6.heap.size := hown.lt g rfl
  have hk : Kept J w5 (w6.setCell ⟨p, 7, none⟩ (.slice (some ⟨g, o, none⟩) (m + 1) cap)) := by
    refine ⟨hgr.os.trans hb.os, hgr.tape.trans hb.tape, hgr.output.trans hb.output, by rw [hsz]; omega, fun k hk hn => ?_⟩
    rw [heap_setCell_other _ _ _ _ (fun e => hn (by have e' : k = p := e; rw [e']; exact j.mine)), hgr.block k (by omega) (fun e => hn (j.gen k e.symm).1), hb.block k hk]
  refine ⟨⟨?_, ?_, ?_, Or.inl j.mine, ?_, ?_, ?_⟩, hk⟩
  · rw [heap_setCell_same w6 p 7 _ _ _ hp]; rfl
  · exact j.rows.same fun k hk => by
      have hj := j.row k hk
      have hl := j.lt k hj.1
      rw [heap_setCell_other _ _ _ _ hj.2, hgr.block k (by omega) (fun e => (j.gen k e.symm).2.2 hk), hb.block k hl]
  · rw [List.length_append, hm, gcels_snoc]
    exact hown.same fun k hk => by
      have : g = k := by simpa [Value.ownBlock] using hk
      rw [heap_setCell_other _ _ _ _ (by rw [← this]; exact hgp)]
  · intro k hk
    exact ⟨Or.inl (j.row k hk).1, (j.row k hk).2⟩
  · intro k hk
    have hk' : g = k := by simpa [Value.ownBlock] using hk
    subst hk'
    refine ⟨?_, hgp, fun e => ?_⟩
    · rcases hor with h | h
      · exact Or.inl (j.gen g h).1
      · exact Or.inr ⟨by omega, hgl⟩
    · rcases hor with h | h
      · exact (j.gen g h).2.2 e
      · have := j.lt g (j.row g e).1; omega
  · intro k hk
    rw [hsz]
    rcases hk with hk | hk
    · have := j.lt k hk; omega
    · exact hk.2
end
/-- The first ones are left out. -/
theorem RjAt.cutL {X' : Value} {E' : List Ent} (j : RjAt w J p q n h E F X Y) (hX : X'.ownBlock = X.ownBlock) (hown : ORow w 42 5 X' E'.length (rcels E')) : RjAt (w.setCell ⟨p, 6, none⟩ X') J p q n h E' F X' Y where
  box := by rw [heap_setCell_same w p 6 _ _ X' j.box]; rfl
  rows := hown.same fun k hb => heap_setCell_other _ _ _ _ (j.row k (by rw [← hX]; exact hb)).2
  gens := j.gens.same fun k hb => heap_setCell_other _ _ _ _ (j.gen k hb).2.1
  mine := j.mine
  row := fun k hb => j.row k (by rw [← hX]; exact hb)
  gen := fun k hb => ⟨(j.gen k hb).1, (j.gen k hb).2.1, by rw [hX]; exact (j.gen k hb).2.2⟩
  lt := fun k hk => by have := j.lt k hk; simpa [World.setCell] using this
theorem RjAt.cutG {Y' : Value} {F' : List Ent} (j : RjAt w J p q n h E F X Y) (hY : Y'.ownBlock = Y.ownBlock) (hown : ORow w 3 1 Y' F'.length (gcels F')) : RjAt (w.setCell ⟨p, 7, none⟩ Y') J p q n h E F' X Y' where
  box := by rw [heap_setCell_same w p 7 _ _ Y' j.box]; rfl
  rows := j.rows.same fun k hb => heap_setCell_other _ _ _ _ (j.row k hb).2
  gens := hown.same fun k hb => heap_setCell_other _ _ _ _ (j.gen k (by rw [← hY]; exact hb)).2.1
  mine := j.mine
  row := j.row
  gen := fun k hb => j.gen k (by rw [← hY]; exact hb)
  lt := fun k hk => by have := j.lt k hk; simpa [World.setCell] using this
/-- A fresh journal in a fresh block. -/
theorem RjAt.fresh (w : World) (q n : Nat) : RjAt (w.alloc (.cells (rjs q n ⟨0, 1, 0, 0⟩ (.slice none 0 0) (.slice none 0 0)) 59)) (fun k => k = w.heap.size) w.heap.size q n ⟨0, 1, 0, 0⟩ [] [] (.slice none 0 0) (.slice none 0 0) where
  box := heap_alloc_new w _
  rows := ORow.nil _ _ _
  gens := ORow.nil _ _ _
  mine := rfl
  row := fun k hk => by simp [Value.ownBlock] at hk
  gen := fun k hk => by simp [Value.ownBlock] at hk
  lt := fun k hk => by rw [hk]; simp
end
end Go.Proofs.YtmfgcinikopgnaaGreatDoor.Jn

/-
  The contracts of the document's own headBytes and head (isobarref06): a head's sector, and the head that a sector contains, or none. Nothing that was there is changed.
-/
namespace Go.Proofs.YtmfgcinikopgnaaGreatDoor.Jn
open Go.RowKit
open Pk hiding str str_data str_size str_of run_str head_str str_append
open Sm hiding run_str
open Fa Rc Dk

theorem results_tmp4 {fn : Func} {t u v x : Tmp} (h : fn.results = #[.tmp t, .tmp u, .tmp v, .tmp x]) (tmps : Array Value) (P : Program) (w : World) :
    (results fn tmps).run P w = .ok (.tuple #[tmps.getD t undef, tmps.getD u undef, tmps.getD v undef, tmps.getD x undef]) w := by
  simp [results, h]
theorem hd_chain {i : Nat} {x : Hd} (k : HOk i x) {M : List UInt8} (hM : M = pad (hbod x)) {l1 l2 l3 l4 : List UInt8} {t f g v e1 e2 e3 e4 : Nat} (h1 : rnum M 0 = (t, l1, e1)) (h2 : rnum l1 e1 = (f, l2, e2)) (h3 : rnum l2 e2 = (g, l3, e3)) (h4 : rnum l3 e3 = (v, l4, e4)) : x = ⟨t, f, g, v⟩ ∧ e4 = 0 := by
  subst hM
  refine ⟨by rw [← hgot_pad k]; exact hgot_step h1 h2 h3 h4, ?_⟩
  have e : ∀ n, NumN n → ∀ r, rnum (enc (clamp (n : Int)) ++ r) 0 = (n, r, 0) := fun n hn r => by
    rw [clampN hn]; exact rnum_enc _ _ (by unfold NumN at hn; omega)
  have e0 : pad (hbod x) = enc (clamp x.t) ++ (enc (clamp x.f) ++ (enc (clamp x.g) ++ (enc (clamp x.l) ++ List.replicate (60 - (hbod x).length) 0))) := by unfold pad; simp [hbod]
  rw [e0, e _ k.t] at h1
  cases h1
  rw [e _ k.f] at h2
  cases h2
  rw [e _ k.g] at h3
  cases h3
  rw [e _ k.l] at h4
  cases h4
  rfl
theorem unh_bad {i : Nat} {M : List UInt8} {l1 l2 l3 l4 : List UInt8} {t f g v e1 e2 e3 e4 : Nat} (h1 : rnum M 0 = (t, l1, e1)) (h2 : rnum l1 e1 = (f, l2, e2)) (h3 : rnum l2 e2 = (g, l3, e3)) (h4 : rnum l3 e3 = (v, l4, e4)) (hb : e4 ≠ 0 ∨ g < v ∨ f < 1 ∨ t % 2 ≠ i ∨ hsec ⟨t, f, g, v⟩ ≠ seal4 M) : unh i (seal4 M) = none := by
  refine unh_none fun x hx he => ?_
  obtain ⟨rfl, rfl⟩ := hd_chain hx (seal4_inj he) h1 h2 h3 h4
  have l1 : v ≤ g := hx.low
  have l2 : 1 ≤ f := hx.pos
  have l3 : t % 2 = i := hx.par
  rcases hb with h | h | h | h | h
  · exact h rfl
  · omega
  · omega
  · exact h l3
  · exact h he.symm
theorem unh_good {i : Nat} {M : List UInt8} {l1 l2 l3 l4 : List UInt8} {t f g v e1 e2 e3 e4 : Nat} (h1 : rnum M 0 = (t, l1, e1)) (h2 : rnum l1 e1 = (f, l2, e2)) (h3 : rnum l2 e2 = (g, l3, e3)) (h4 : rnum l3 e3 = (v, l4, e4)) (hg : v ≤ g) (hf : 1 ≤ f) (ht : t % 2 = i) (he : hsec ⟨t, f, g, v⟩ = seal4 M) : unh i (seal4 M) = some ⟨t, f, g, v⟩ := by
  have b1 : NumN t := by have := rnum_lt M 0; rw [h1] at this; exact this
  have b2 : NumN f := by have := rnum_lt l1 e1; rw [h2] at this; exact this
  have b3 : NumN g := by have := rnum_lt l2 e2; rw [h3] at this; exact this
  have b4 : NumN v := by have := rnum_lt l3 e3; rw [h4] at this; exact this
  rw [← he]
  exact unh_some ⟨b1, b2, b3, b4, hf, hg, ht⟩

set_option maxRecDepth 100000 in
set_option maxHeartbeats 2000000 in
theorem rHeadBytes_any (h : Hd) (w : World) (SF : ByteArray) (hSF : str (hsec h) = SF) :
    Calls Tryz.prog 57 #[.int .i64 (h.t : Int), .int .i64 (h.f : Int), .int .i64 (h.g : Int), .int .i64 (h.l : Int)] w fun e w' => e = .returned (.string SF) ∧ Below w.heap.size w w' := by
  obtain ⟨S1, h1⟩ : ∃ S, str (enc (clamp h.t)) = S := ⟨_, rfl⟩
  obtain ⟨S2, h2⟩ : ∃ S, str (enc (clamp h.f)) = S := ⟨_, rfl⟩
  obtain ⟨S3, h3⟩ : ∃ S, str (enc (clamp h.g)) = S := ⟨_, rfl⟩
  obtain ⟨S4, h4⟩ : ∃ S, str (enc (clamp h.l)) = S := ⟨_, rfl⟩
  obtain ⟨S12, h12⟩ : ∃ S, str (enc (clamp h.t) ++ enc (clamp h.f)) = S := ⟨_, rfl⟩
  obtain ⟨S123, h123⟩ : ∃ S, str (enc (clamp h.t) ++ enc (clamp h.f) ++ enc (clamp h.g)) = S := ⟨_, rfl⟩
  obtain ⟨SB, hSB⟩ : ∃ S, str (hbod h) = S := ⟨_, rfl⟩
  have q1 := enc_le (clamp h.t)
  have q2 := enc_le (clamp h.f)
  have q3 := enc_le (clamp h.g)
  have q4 := enc_le (clamp h.l)
  have ha1 := fun W => add_run (enc (clamp h.t)) (enc (clamp h.f)) (by omega) S1 S2 S12 h1 h2 h12 W
  have ha2 := fun W => add_run (enc (clamp h.t) ++ enc (clamp h.f)) (enc (clamp h.g)) (by simp only [List.length_append]; omega) S12 S3 S123 h12 h3 h123 W
  have ha3 := fun W => add_run (enc (clamp h.t) ++ enc (clamp h.f) ++ enc (clamp h.g)) (enc (clamp h.l)) (by simp only [List.length_append]; omega) S123 S4 SB h123 h4 hSB W
  have HN1 := hide (fun W => rNum_told h.t W S1 h1)
  have HN2 := hide (fun W => rNum_told h.f W S2 h2)
  have HN3 := hide (fun W => rNum_told h.g W S3 h3)
  have HN4 := hide (fun W => rNum_told h.l W S4 h4)
  have hSsz : SB.size ≤ 60 := by rw [← hSB, str_size]; have := hbod_le h; omega
  have HS := hide (fun W => rSector_told SB W hSsz SF (by rw [← hSF, ← hSB]; rfl))
  clear h1 h2 h3 h4 h12 h123 hSB q1 q2 q3 q4 hSsz hSF
  go_enter Tryz.func57, Tryz.ntmps57
  go_wp2_with fail
  refine (HN1.out _).mono ?_
  rintro e w1 ⟨rfl, hb1⟩
  have HB1 := hide hb1
  clear hb1
  go_wp2_with fail
  refine (HN2.out _).mono ?_
  rintro e w2 ⟨rfl, hb2⟩
  have HB2 := hide (HB1.out.trans (hb2.mono HB1.out.size))
  clear hb2 HB1
  go_wp2_with fail
  refine (HN3.out _).mono ?_
  rintro e w3 ⟨rfl, hb3⟩
  have HB3 := hide (HB2.out.trans (hb3.mono HB2.out.size))
  clear hb3 HB2
  go_wp2_with fail
  refine (HN4.out _).mono ?_
  rintro e w4 ⟨rfl, hb4⟩
  have HB4 := hide (HB3.out.trans (hb4.mono HB3.out.size))
  clear hb4 HB3
  go_wp2_with fail
  refine (HS.out _).mono ?_
  rintro e w5 ⟨rfl, hb5⟩
  have HB5 := hide (HB4.out.trans (hb5.mono HB4.out.size))
  clear hb5 HB4
  go_wp2
  go_ret
  exact ⟨rfl, HB5.out⟩

/-- What head answers. -/
def HdTup : Option Hd → Value
  | some h => .tuple #[.int .i64 (h.t : Int), .int .i64 (h.f : Int), .int .i64 (h.g : Int), .int .i64 (h.l : Int)]
  | none => .tuple #[.int .i64 (-1), .int .i64 0, .int .i64 0, .int .i64 0]

set_option maxRecDepth 100000 in
set_option maxHeartbeats 2000000 in
theorem rHead_sum (s : ByteArray) (i : Nat) (w : World) (hs : s.size ≤ 1000000) (hno : ∀ m, s.data.toList ≠ seal4 m) :
    Calls Tryz.prog 33 #[.string s, .int .i64 (i : Int)] w fun e w' => e = .returned (HdTup none) ∧ Below w.heap.size w w' := by
  have Hno := hide hno
  clear hno
  go_enter Tryz.func33, Tryz.ntmps33
  go_wp2_with fail
  refine (rOpen_bad s w hs Hno.out).mono ?_
  rintro e w1 ⟨rfl, hb1⟩
  have HB1 := hide hb1
  clear hb1
  go_wp2
  (try simp only [Exit.inBlock, Exit.then])
  refine bodyPost_ret (results_tmp4 rfl _ _ _) rfl ?_
  exact ⟨rfl, HB1.out⟩

set_option maxRecDepth 100000 in
set_option maxHeartbeats 2000000 in
theorem rHead_err (s : ByteArray) (i : Nat) (w : World) (M : List UInt8) (hs : s.size ≤ 1000000) (hM : s.data.toList = seal4 M) (hM60 : M.length ≤ 60) {l1 l2 l3 l4 : List UInt8} {t f g v e1 e2 e3 e4 : Nat} (h1 : rnum M 0 = (t, l1, e1)) (h2 : rnum l1 e1 = (f, l2, e2)) (h3 : rnum l2 e2 = (g, l3, e3)) (h4 : rnum l3 e3 = (v, l4, e4)) (he : e4 ≠ 0) :
    Calls Tryz.prog 33 #[.string s, .int .i64 (i : Int)] w fun e w' => e = .returned (HdTup none) ∧ Below w.heap.size w w' := by
  obtain ⟨S0, hS0⟩ : ∃ S, str M = S := ⟨_, rfl⟩
  have he0 : ((e4 : Int) != 0) = true := by simp; omega
  have HS0 := hide hS0
  have HM := hide hM
  have HL0 := hide hM60
  have H1 := hide h1
  have H2 := hide h2
  have H3 := hide h3
  have H4 := hide h4
  clear hS0 hM hM60 h1 h2 h3 h4
  go_enter Tryz.func33, Tryz.ntmps33
  go_wp2_with fail
  refine (rOpen_good s w M hs HM.out S0 HS0.out).mono ?_
  rintro e w1 ⟨rfl, hb1⟩
  have HB1 := hide hb1
  have hr0 := rr_new w1 S0
  have HB2 := hide (hb1.trans ((rr_below w1 S0).mono hb1.size))
  have hRl := hb1.size
  obtain ⟨R, hR⟩ : ∃ R, R = w1.heap.size := ⟨_, rfl⟩
  rw [← hR] at hr0 hRl
  rw [← HS0.out] at hr0
  clear hb1 HB1
  go_wp2_with fail
  rw [← hR]
  clear hR
  rw [HS0.out] at hr0
  generalize w1.alloc _ = w2 at *
  rw [← HS0.out] at hr0
  refine (rNumber_at R 0 M w2 hr0 HL0.out t l1 e1 H1.out).mono ?_
  rintro r w3 ⟨rfl, hr1, hg1, hl1⟩
  have HL1 := hide hl1
  have HB3 := hide (HB2.out.trans (only_below hg1 hRl hr0.lt))
  clear hg1 hr0 hl1 HB2
  go_wp2_with fail
  refine (rNumber_at R e1 l1 w3 hr1 HL1.out f l2 e2 H2.out).mono ?_
  rintro r w4 ⟨rfl, hr2, hg2, hl2⟩
  have HL2 := hide hl2
  have HB4 := hide (HB3.out.trans (only_below hg2 hRl hr1.lt))
  clear hg2 hr1 hl2 HB3
  go_wp2_with fail
  refine (rNumber_at R e2 l2 w4 hr2 HL2.out g l3 e3 H3.out).mono ?_
  rintro r w5 ⟨rfl, hr3, hg3, hl3⟩
  have HL3 := hide hl3
  have HB5 := hide (HB4.out.trans (only_below hg3 hRl hr2.lt))
  clear hg3 hr2 hl3 HB4
  go_wp2_with fail
  refine (rNumber_at R e3 l3 w5 hr3 HL3.out v l4 e4 H4.out).mono ?_
  rintro r w6 ⟨rfl, hr4, hg4, hl4⟩
  have HB6 := hide (HB5.out.trans (only_below hg4 hRl hr3.lt))
  have hc1 : w6.cell? ⟨R, 1, none⟩ = some (.int .i64 (e4 : Int)) := by have := hr4; unfold Rr at this; simp [World.cell?, this]
  clear hg4 hr3 hl4 HB5 hr4 hRl
  go_wp2
  (try simp only [Exit.inBlock, Exit.then])
  refine bodyPost_ret (results_tmp4 rfl _ _ _) rfl ?_
  exact ⟨rfl, HB6.out⟩

set_option maxRecDepth 100000 in
set_option maxHeartbeats 2000000 in
theorem rHead_low (s : ByteArray) (i : Nat) (w : World) (M : List UInt8) (hs : s.size ≤ 1000000) (hM : s.data.toList = seal4 M) (hM60 : M.length ≤ 60) {l1 l2 l3 l4 : List UInt8} {t f g v e1 e2 e3 e4 : Nat} (h1 : rnum M 0 = (t, l1, e1)) (h2 : rnum l1 e1 = (f, l2, e2)) (h3 : rnum l2 e2 = (g, l3, e3)) (h4 : rnum l3 e3 = (v, l4, e4)) (he : e4 = 0) (hlow0 : g < v) :
    Calls Tryz.prog 33 #[.string s, .int .i64 (i : Int)] w fun e w' => e = .returned (HdTup none) ∧ Below w.heap.size w w' := by
  obtain ⟨S0, hS0⟩ : ∃ S, str M = S := ⟨_, rfl⟩
  have he0 : ((e4 : Int) != 0) = false := by simp; omega
  have hlow : (g : Int) < (v : Int) := by omega
  have HS0 := hide hS0
  have HM := hide hM
  have HL0 := hide hM60
  have H1 := hide h1
  have H2 := hide h2
  have H3 := hide h3
  have H4 := hide h4
  clear hS0 hM hM60 h1 h2 h3 h4
  go_enter Tryz.func33, Tryz.ntmps33
  go_wp2_with fail
  refine (rOpen_good s w M hs HM.out S0 HS0.out).mono ?_
  rintro e w1 ⟨rfl, hb1⟩
  have HB1 := hide hb1
  have hr0 := rr_new w1 S0
  have HB2 := hide (hb1.trans ((rr_below w1 S0).mono hb1.size))
  have hRl := hb1.size
  obtain ⟨R, hR⟩ : ∃ R, R = w1.heap.size := ⟨_, rfl⟩
  rw [← hR] at hr0 hRl
  rw [← HS0.out] at hr0
  clear hb1 HB1
  go_wp2_with fail
  rw [← hR]
  clear hR
  rw [HS0.out] at hr0
  generalize w1.alloc _ = w2 at *
  rw [← HS0.out] at hr0
  refine (rNumber_at R 0 M w2 hr0 HL0.out t l1 e1 H1.out).mono ?_
  rintro r w3 ⟨rfl, hr1, hg1, hl1⟩
  have HL1 := hide hl1
  have HB3 := hide (HB2.out.trans (only_below hg1 hRl hr0.lt))
  clear hg1 hr0 hl1 HB2
  go_wp2_with fail
  refine (rNumber_at R e1 l1 w3 hr1 HL1.out f l2 e2 H2.out).mono ?_
  rintro r w4 ⟨rfl, hr2, hg2, hl2⟩
  have HL2 := hide hl2
  have HB4 := hide (HB3.out.trans (only_below hg2 hRl hr1.lt))
  clear hg2 hr1 hl2 HB3
  go_wp2_with fail
  refine (rNumber_at R e2 l2 w4 hr2 HL2.out g l3 e3 H3.out).mono ?_
  rintro r w5 ⟨rfl, hr3, hg3, hl3⟩
  have HL3 := hide hl3
  have HB5 := hide (HB4.out.trans (only_below hg3 hRl hr2.lt))
  clear hg3 hr2 hl3 HB4
  go_wp2_with fail
  refine (rNumber_at R e3 l3 w5 hr3 HL3.out v l4 e4 H4.out).mono ?_
  rintro r w6 ⟨rfl, hr4, hg4, hl4⟩
  have HB6 := hide (HB5.out.trans (only_below hg4 hRl hr3.lt))
  have hc1 : w6.cell? ⟨R, 1, none⟩ = some (.int .i64 (e4 : Int)) := by have := hr4; unfold Rr at this; simp [World.cell?, this]
  clear hg4 hr3 hl4 HB5 hr4 hRl
  go_wp2
  (try simp only [Exit.inBlock, Exit.then])
  refine bodyPost_ret (results_tmp4 rfl _ _ _) rfl ?_
  exact ⟨rfl, HB6.out⟩

set_option maxRecDepth 100000 in
set_option maxHeartbeats 2000000 in
theorem rHead_first (s : ByteArray) (i : Nat) (w : World) (M : List UInt8) (hs : s.size ≤ 1000000) (hM : s.data.toList = seal4 M) (hM60 : M.length ≤ 60) {l1 l2 l3 l4 : List UInt8} {t f g v e1 e2 e3 e4 : Nat} (h1 : rnum M 0 = (t, l1, e1)) (h2 : rnum l1 e1 = (f, l2, e2)) (h3 : rnum l2 e2 = (g, l3, e3)) (h4 : rnum l3 e3 = (v, l4, e4)) (he : e4 = 0) (hlow0 : v ≤ g) (hf0 : f < 1) :
    Calls Tryz.prog 33 #[.string s, .int .i64 (i : Int)] w fun e w' => e = .returned (HdTup none) ∧ Below w.heap.size w w' := by
  obtain ⟨S0, hS0⟩ : ∃ S, str M = S := ⟨_, rfl⟩
  have he0 : ((e4 : Int) != 0) = false := by simp; omega
  have hlow : ¬ ((g : Int) < (v : Int)) := by omega
  have hfst : (f : Int) < 1 := by omega
  have HS0 := hide hS0
  have HM := hide hM
  have HL0 := hide hM60
  have H1 := hide h1
  have H2 := hide h2
  have H3 := hide h3
  have H4 := hide h4
  clear hS0 hM hM60 h1 h2 h3 h4
  go_enter Tryz.func33, Tryz.ntmps33
  go_wp2_with fail
  refine (rOpen_good s w M hs HM.out S0 HS0.out).mono ?_
  rintro e w1 ⟨rfl, hb1⟩
  have HB1 := hide hb1
  have hr0 := rr_new w1 S0
  have HB2 := hide (hb1.trans ((rr_below w1 S0).mono hb1.size))
  have hRl := hb1.size
  obtain ⟨R, hR⟩ : ∃ R, R = w1.heap.size := ⟨_, rfl⟩
  rw [← hR] at hr0 hRl
  rw [← HS0.out] at hr0
  clear hb1 HB1
  go_wp2_with fail
  rw [← hR]
  clear hR
  rw [HS0.out] at hr0
  generalize w1.alloc _ = w2 at *
  rw [← HS0.out] at hr0
  refine (rNumber_at R 0 M w2 hr0 HL0.out t l1 e1 H1.out).mono ?_
  rintro r w3 ⟨rfl, hr1, hg1, hl1⟩
  have HL1 := hide hl1
  have HB3 := hide (HB2.out.trans (only_below hg1 hRl hr0.lt))
  clear hg1 hr0 hl1 HB2
  go_wp2_with fail
  refine (rNumber_at R e1 l1 w3 hr1 HL1.out f l2 e2 H2.out).mono ?_
  rintro r w4 ⟨rfl, hr2, hg2, hl2⟩
  have HL2 := hide hl2
  have HB4 := hide (HB3.out.trans (only_below hg2 hRl hr1.lt))
  clear hg2 hr1 hl2 HB3
  go_wp2_with fail
  refine (rNumber_at R e2 l2 w4 hr2 HL2.out g l3 e3 H3.out).mono ?_
  rintro r w5 ⟨rfl, hr3, hg3, hl3⟩
  have HL3 := hide hl3
  have HB5 := hide (HB4.out.trans (only_below hg3 hRl hr2.lt))
  clear hg3 hr2 hl3 HB4
  go_wp2_with fail
  refine (rNumber_at R e3 l3 w5 hr3 HL3.out v l4 e4 H4.out).mono ?_
  rintro r w6 ⟨rfl, hr4, hg4, hl4⟩
  have HB6 := hide (HB5.out.trans (only_below hg4 hRl hr3.lt))
  have hc1 : w6.cell? ⟨R, 1, none⟩ = some (.int .i64 (e4 : Int)) := by have := hr4; unfold Rr at this; simp [World.cell?, this]
  clear hg4 hr3 hl4 HB5 hr4 hRl
  go_wp2
  (try simp only [Exit.inBlock, Exit.then])
  refine bodyPost_ret (results_tmp4 rfl _ _ _) rfl ?_
  exact ⟨rfl, HB6.out⟩

set_option maxRecDepth 100000 in
set_option maxHeartbeats 2000000 in
theorem rHead_turn (s : ByteArray) (i : Nat) (w : World) (M : List UInt8) (hs : s.size ≤ 1000000) (hM : s.data.toList = seal4 M) (hM60 : M.length ≤ 60) {l1 l2 l3 l4 : List UInt8} {t f g v e1 e2 e3 e4 : Nat} (h1 : rnum M 0 = (t, l1, e1)) (h2 : rnum l1 e1 = (f, l2, e2)) (h3 : rnum l2 e2 = (g, l3, e3)) (h4 : rnum l3 e3 = (v, l4, e4)) (he : e4 = 0) (hlow0 : v ≤ g) (hf0 : 1 ≤ f) (hp0 : t % 2 ≠ i) :
    Calls Tryz.prog 33 #[.string s, .int .i64 (i : Int)] w fun e w' => e = .returned (HdTup none) ∧ Below w.heap.size w w' := by
  obtain ⟨S0, hS0⟩ : ∃ S, str M = S := ⟨_, rfl⟩
  have he0 : ((e4 : Int) != 0) = false := by simp; omega
  have hlow : ¬ ((g : Int) < (v : Int)) := by omega
  have hfst : ¬ ((f : Int) < 1) := by omega
  have hrm := remN t 2
  obtain ⟨tp, htp⟩ : ∃ tp, t % 2 = tp := ⟨_, rfl⟩
  rw [htp] at hrm
  have hrm' : (t : Int).tmod 2 = (tp : Int) := hrm
  have hpar : ((tp : Int) != (i : Int)) = true := by simp; omega
  clear hrm
  have HS0 := hide hS0
  have HM := hide hM
  have HL0 := hide hM60
  have H1 := hide h1
  have H2 := hide h2
  have H3 := hide h3
  have H4 := hide h4
  clear hS0 hM hM60 h1 h2 h3 h4
  go_enter Tryz.func33, Tryz.ntmps33
  go_wp2_with fail
  refine (rOpen_good s w M hs HM.out S0 HS0.out).mono ?_
  rintro e w1 ⟨rfl, hb1⟩
  have HB1 := hide hb1
  have hr0 := rr_new w1 S0
  have HB2 := hide (hb1.trans ((rr_below w1 S0).mono hb1.size))
  have hRl := hb1.size
  obtain ⟨R, hR⟩ : ∃ R, R = w1.heap.size := ⟨_, rfl⟩
  rw [← hR] at hr0 hRl
  rw [← HS0.out] at hr0
  clear hb1 HB1
  go_wp2_with fail
  rw [← hR]
  clear hR
  rw [HS0.out] at hr0
  generalize w1.alloc _ = w2 at *
  rw [← HS0.out] at hr0
  refine (rNumber_at R 0 M w2 hr0 HL0.out t l1 e1 H1.out).mono ?_
  rintro r w3 ⟨rfl, hr1, hg1, hl1⟩
  have HL1 := hide hl1
  have HB3 := hide (HB2.out.trans (only_below hg1 hRl hr0.lt))
  clear hg1 hr0 hl1 HB2
  go_wp2_with fail
  refine (rNumber_at R e1 l1 w3 hr1 HL1.out f l2 e2 H2.out).mono ?_
  rintro r w4 ⟨rfl, hr2, hg2, hl2⟩
  have HL2 := hide hl2
  have HB4 := hide (HB3.out.trans (only_below hg2 hRl hr1.lt))
  clear hg2 hr1 hl2 HB3
  go_wp2_with fail
  refine (rNumber_at R e2 l2 w4 hr2 HL2.out g l3 e3 H3.out).mono ?_
  rintro r w5 ⟨rfl, hr3, hg3, hl3⟩
  have HL3 := hide hl3
  have HB5 := hide (HB4.out.trans (only_below hg3 hRl hr2.lt))
  clear hg3 hr2 hl3 HB4
  go_wp2_with fail
  refine (rNumber_at R e3 l3 w5 hr3 HL3.out v l4 e4 H4.out).mono ?_
  rintro r w6 ⟨rfl, hr4, hg4, hl4⟩
  have HB6 := hide (HB5.out.trans (only_below hg4 hRl hr3.lt))
  have hc1 : w6.cell? ⟨R, 1, none⟩ = some (.int .i64 (e4 : Int)) := by have := hr4; unfold Rr at this; simp [World.cell?, this]
  clear hg4 hr3 hl4 HB5 hr4 hRl
  go_wp2
  (try simp only [Exit.inBlock, Exit.then])
  refine bodyPost_ret (results_tmp4 rfl _ _ _) rfl ?_
  exact ⟨rfl, HB6.out⟩

set_option maxRecDepth 100000 in
set_option maxHeartbeats 2000000 in
theorem rHead_unlike (s : ByteArray) (i : Nat) (w : World) (M : List UInt8) (hs : s.size ≤ 1000000) (hM : s.data.toList = seal4 M) (hM60 : M.length ≤ 60) {l1 l2 l3 l4 : List UInt8} {t f g v e1 e2 e3 e4 : Nat} (h1 : rnum M 0 = (t, l1, e1)) (h2 : rnum l1 e1 = (f, l2, e2)) (h3 : rnum l2 e2 = (g, l3, e3)) (h4 : rnum l3 e3 = (v, l4, e4)) (he : e4 = 0) (hlow0 : v ≤ g) (hf0 : 1 ≤ f) (hp0 : t % 2 = i) (hu : hsec ⟨t, f, g, v⟩ ≠ seal4 M) :
    Calls Tryz.prog 33 #[.string s, .int .i64 (i : Int)] w fun e w' => e = .returned (HdTup none) ∧ Below w.heap.size w w' := by
  obtain ⟨S0, hS0⟩ : ∃ S, str M = S := ⟨_, rfl⟩
  have he0 : ((e4 : Int) != 0) = false := by simp; omega
  have hlow : ¬ ((g : Int) < (v : Int)) := by omega
  have hfst : ¬ ((f : Int) < 1) := by omega
  have hrm := remN t 2
  obtain ⟨tp, htp⟩ : ∃ tp, t % 2 = tp := ⟨_, rfl⟩
  rw [htp] at hrm
  have hrm' : (t : Int).tmod 2 = (tp : Int) := hrm
  have hpar : ((tp : Int) != (i : Int)) = false := by simp; omega
  obtain ⟨SF, hSF⟩ : ∃ S, str (hsec ⟨t, f, g, v⟩) = S := ⟨_, rfl⟩
  have HHB := hide (fun W => rHeadBytes_any ⟨t, f, g, v⟩ W SF hSF)
  have hne : (SF.toList == s.toList) = false := by
    rw [beq_eq_false_iff_ne, ByteArray.toList_eq, ByteArray.toList_eq, hM, ← hSF, str_data]
    exact hu
  clear hSF hrm hu
  have HS0 := hide hS0
  have HM := hide hM
  have HL0 := hide hM60
  have H1 := hide h1
  have H2 := hide h2
  have H3 := hide h3
  have H4 := hide h4
  clear hS0 hM hM60 h1 h2 h3 h4
  go_enter Tryz.func33, Tryz.ntmps33
  go_wp2_with fail
  refine (rOpen_good s w M hs HM.out S0 HS0.out).mono ?_
  rintro e w1 ⟨rfl, hb1⟩
  have HB1 := hide hb1
  have hr0 := rr_new w1 S0
  have HB2 := hide (hb1.trans ((rr_below w1 S0).mono hb1.size))
  have hRl := hb1.size
  obtain ⟨R, hR⟩ : ∃ R, R = w1.heap.size := ⟨_, rfl⟩
  rw [← hR] at hr0 hRl
  rw [← HS0.out] at hr0
  clear hb1 HB1
  go_wp2_with fail
  rw [← hR]
  clear hR
  rw [HS0.out] at hr0
  generalize w1.alloc _ = w2 at *
  rw [← HS0.out] at hr0
  refine (rNumber_at R 0 M w2 hr0 HL0.out t l1 e1 H1.out).mono ?_
  rintro r w3 ⟨rfl, hr1, hg1, hl1⟩
  have HL1 := hide hl1
  have HB3 := hide (HB2.out.trans (only_below hg1 hRl hr0.lt))
  clear hg1 hr0 hl1 HB2
  go_wp2_with fail
  refine (rNumber_at R e1 l1 w3 hr1 HL1.out f l2 e2 H2.out).mono ?_
  rintro r w4 ⟨rfl, hr2, hg2, hl2⟩
  have HL2 := hide hl2
  have HB4 := hide (HB3.out.trans (only_below hg2 hRl hr1.lt))
  clear hg2 hr1 hl2 HB3
  go_wp2_with fail
  refine (rNumber_at R e2 l2 w4 hr2 HL2.out g l3 e3 H3.out).mono ?_
  rintro r w5 ⟨rfl, hr3, hg3, hl3⟩
  have HL3 := hide hl3
  have HB5 := hide (HB4.out.trans (only_below hg3 hRl hr2.lt))
  clear hg3 hr2 hl3 HB4
  go_wp2_with fail
  refine (rNumber_at R e3 l3 w5 hr3 HL3.out v l4 e4 H4.out).mono ?_
  rintro r w6 ⟨rfl, hr4, hg4, hl4⟩
  have HB6 := hide (HB5.out.trans (only_below hg4 hRl hr3.lt))
  have hc1 : w6.cell? ⟨R, 1, none⟩ = some (.int .i64 (e4 : Int)) := by have := hr4; unfold Rr at this; simp [World.cell?, this]
  clear hg4 hr3 hl4 HB5 hr4 hRl
  go_wp2_with fail
  refine (HHB.out w6).mono ?_
  rintro e w7 ⟨rfl, hb7⟩
  have HB7 := hide (HB6.out.trans (hb7.mono HB6.out.size))
  clear hb7 HB6
  go_wp2
  (try simp only [Exit.inBlock, Exit.then])
  refine bodyPost_ret (results_tmp4 rfl _ _ _) rfl ?_
  exact ⟨rfl, HB7.out⟩

set_option maxRecDepth 100000 in
set_option maxHeartbeats 2000000 in
theorem rHead_like (s : ByteArray) (i : Nat) (w : World) (M : List UInt8) (hs : s.size ≤ 1000000) (hM : s.data.toList = seal4 M) (hM60 : M.length ≤ 60) {l1 l2 l3 l4 : List UInt8} {t f g v e1 e2 e3 e4 : Nat} (h1 : rnum M 0 = (t, l1, e1)) (h2 : rnum l1 e1 = (f, l2, e2)) (h3 : rnum l2 e2 = (g, l3, e3)) (h4 : rnum l3 e3 = (v, l4, e4)) (he : e4 = 0) (hlow0 : v ≤ g) (hf0 : 1 ≤ f) (hp0 : t % 2 = i) (hu : hsec ⟨t, f, g, v⟩ = seal4 M) :
    Calls Tryz.prog 33 #[.string s, .int .i64 (i : Int)] w fun e w' => e = .returned (HdTup (some ⟨t, f, g, v⟩)) ∧ Below w.heap.size w w' := by
  obtain ⟨S0, hS0⟩ : ∃ S, str M = S := ⟨_, rfl⟩
  have he0 : ((e4 : Int) != 0) = false := by simp; omega
  have hlow : ¬ ((g : Int) < (v : Int)) := by omega
  have hfst : ¬ ((f : Int) < 1) := by omega
  have hrm := remN t 2
  obtain ⟨tp, htp⟩ : ∃ tp, t % 2 = tp := ⟨_, rfl⟩
  rw [htp] at hrm
  have hrm' : (t : Int).tmod 2 = (tp : Int) := hrm
  have hpar : ((tp : Int) != (i : Int)) = false := by simp; omega
  obtain ⟨SF, hSF⟩ : ∃ S, str (hsec ⟨t, f, g, v⟩) = S := ⟨_, rfl⟩
  have HHB := hide (fun W => rHeadBytes_any ⟨t, f, g, v⟩ W SF hSF)
  have hne : (SF.toList == s.toList) = true := by
    rw [beq_iff_eq, ByteArray.toList_eq, ByteArray.toList_eq, hM, ← hSF, str_data]
    exact hu
  clear hSF hrm hu
  have HS0 := hide hS0
  have HM := hide hM
  have HL0 := hide hM60
  have H1 := hide h1
  have H2 := hide h2
  have H3 := hide h3
  have H4 := hide h4
  clear hS0 hM hM60 h1 h2 h3 h4
  go_enter Tryz.func33, Tryz.ntmps33
  go_wp2_with fail
  refine (rOpen_good s w M hs HM.out S0 HS0.out).mono ?_
  rintro e w1 ⟨rfl, hb1⟩
  have HB1 := hide hb1
  have hr0 := rr_new w1 S0
  have HB2 := hide (hb1.trans ((rr_below w1 S0).mono hb1.size))
  have hRl := hb1.size
  obtain ⟨R, hR⟩ : ∃ R, R = w1.heap.size := ⟨_, rfl⟩
  rw [← hR] at hr0 hRl
  rw [← HS0.out] at hr0
  clear hb1 HB1
  go_wp2_with fail
  rw [← hR]
  clear hR
  rw [HS0.out] at hr0
  generalize w1.alloc _ = w2 at *
  rw [← HS0.out] at hr0
  refine (rNumber_at R 0 M w2 hr0 HL0.out t l1 e1 H1.out).mono ?_
  rintro r w3 ⟨rfl, hr1, hg1, hl1⟩
  have HL1 := hide hl1
  have HB3 := hide (HB2.out.trans (only_below hg1 hRl hr0.lt))
  clear hg1 hr0 hl1 HB2
  go_wp2_with fail
  refine (rNumber_at R e1 l1 w3 hr1 HL1.out f l2 e2 H2.out).mono ?_
  rintro r w4 ⟨rfl, hr2, hg2, hl2⟩
  have HL2 := hide hl2
  have HB4 := hide (HB3.out.trans (only_below hg2 hRl hr1.lt))
  clear hg2 hr1 hl2 HB3
  go_wp2_with fail
  refine (rNumber_at R e2 l2 w4 hr2 HL2.out g l3 e3 H3.out).mono ?_
  rintro r w5 ⟨rfl, hr3, hg3, hl3⟩
  have HL3 := hide hl3
  have HB5 := hide (HB4.out.trans (only_below hg3 hRl hr2.lt))
  clear hg3 hr2 hl3 HB4
  go_wp2_with fail
  refine (rNumber_at R e3 l3 w5 hr3 HL3.out v l4 e4 H4.out).mono ?_
  rintro r w6 ⟨rfl, hr4, hg4, hl4⟩
  have HB6 := hide (HB5.out.trans (only_below hg4 hRl hr3.lt))
  have hc1 : w6.cell? ⟨R, 1, none⟩ = some (.int .i64 (e4 : Int)) := by have := hr4; unfold Rr at this; simp [World.cell?, this]
  clear hg4 hr3 hl4 HB5 hr4 hRl
  go_wp2_with fail
  refine (HHB.out w6).mono ?_
  rintro e w7 ⟨rfl, hb7⟩
  have HB7 := hide (HB6.out.trans (hb7.mono HB6.out.size))
  clear hb7 HB6
  go_wp2
  (try simp only [Exit.inBlock, Exit.then])
  refine bodyPost_ret (results_tmp4 rfl _ _ _) rfl ?_
  exact ⟨rfl, HB7.out⟩

theorem rHead_any (s : ByteArray) (i : Nat) (w : World) (hs : s.size = 64) :
    Calls Tryz.prog 33 #[.string s, .int .i64 (i : Int)] w fun e w' => e = .returned (HdTup (unh i s.data.toList)) ∧ Below w.heap.size w w' := by
  by_cases hn : ∀ m, s.data.toList ≠ seal4 m
  · rw [unh_none fun x _ => hn _]
    exact rHead_sum s i w (by omega) hn
  · obtain ⟨M, hM⟩ : ∃ m, s.data.toList = seal4 m := by
      by_cases h : ∃ m, s.data.toList = seal4 m
      · exact h
      · exact absurd (fun m hm => h ⟨m, hm⟩) hn
    have hl : s.size = M.length + 4 := by rw [← size_eq s, hM, seal4_length]
    have hs' : s.size ≤ 1000000 := by omega
    have hM60 : M.length ≤ 60 := by omega
    obtain ⟨⟨t, l1, e1⟩, h1⟩ : ∃ x, rnum M 0 = x := ⟨_, rfl⟩
    obtain ⟨⟨f, l2, e2⟩, h2⟩ : ∃ x, rnum l1 e1 = x := ⟨_, rfl⟩
    obtain ⟨⟨g, l3, e3⟩, h3⟩ : ∃ x, rnum l2 e2 = x := ⟨_, rfl⟩
    obtain ⟨⟨v, l4, e4⟩, h4⟩ : ∃ x, rnum l3 e3 = x := ⟨_, rfl⟩
    rw [hM]
    by_cases he : e4 = 0
    · by_cases hl0 : v ≤ g
      · by_cases hf0 : 1 ≤ f
        · by_cases hp0 : t % 2 = i
          · by_cases hu : hsec ⟨t, f, g, v⟩ = seal4 M
            · rw [unh_good h1 h2 h3 h4 hl0 hf0 hp0 hu]
              exact rHead_like s i w M hs' hM hM60 h1 h2 h3 h4 he hl0 hf0 hp0 hu
            · rw [unh_bad h1 h2 h3 h4 (Or.inr (Or.inr (Or.inr (Or.inr hu))))]
              exact rHead_unlike s i w M hs' hM hM60 h1 h2 h3 h4 he hl0 hf0 hp0 hu
          · rw [unh_bad h1 h2 h3 h4 (Or.inr (Or.inr (Or.inr (Or.inl hp0))))]
            exact rHead_turn s i w M hs' hM hM60 h1 h2 h3 h4 he hl0 hf0 hp0
        · rw [unh_bad h1 h2 h3 h4 (Or.inr (Or.inr (Or.inl (by omega))))]
          exact rHead_first s i w M hs' hM hM60 h1 h2 h3 h4 he hl0 (by omega)
      · rw [unh_bad h1 h2 h3 h4 (Or.inr (Or.inl (by omega)))]
        exact rHead_low s i w M hs' hM hM60 h1 h2 h3 h4 he (by omega)
    · rw [unh_bad h1 h2 h3 h4 (Or.inl he)]
      exact rHead_err s i w M hs' hM hM60 h1 h2 h3 h4 he
end Go.Proofs.YtmfgcinikopgnaaGreatDoor.Jn

namespace Go.Proofs.YtmfgcinikopgnaaGreatDoor.Jn
open Go.RowKit
open Pk hiding str str_data str_size str_of run_str head_str str_append
open Sm hiding run_str
open Fa Rc Dk

theorem RjAt.heads {w : World} {J : Nat → Prop} {p q n : Nat} {h : Hd} {E F : List Ent} {X Y : Value} (j : RjAt w J p q n h E F X Y) : w.cell? ⟨p, 0, none⟩ = some (.pointer (some ⟨q, 0, none⟩)) ∧ w.cell? ⟨p, 2, none⟩ = some (.int .i64 (h.t : Int)) ∧ w.cell? ⟨p, 3, none⟩ = some (.int .i64 (h.f : Int)) ∧ w.cell? ⟨p, 4, none⟩ = some (.int .i64 (h.g : Int)) ∧ w.cell? ⟨p, 5, none⟩ = some (.int .i64 (h.l : Int)) := by
  refine ⟨?_, ?_, ?_, ?_, ?_⟩ <;> simp [World.cell?, j.box]
theorem RjAt.ring {w : World} {J : Nat → Prop} {p q n : Nat} {h : Hd} {E F : List Ent} {X Y : Value} (j : RjAt w J p q n h E F X Y) : w.cell? ⟨p, 1, none⟩ = some (.int .i64 (n : Int)) := by simp [World.cell?, j.box]
theorem fill_rec (cs : List Value) (hc : cs.length = 5) (i0 : TypeInfo) (h : i0.size = 5) (z : Value) : Instr.fill (fun i => some (i * i0.size, i0.size)) ((Array.range (1 * i0.size)).map (z.cells[· % z.cells.size]!)) [(0, .agg cs.toArray)] = some cs.toArray := by
  rw [h]
  exact fill_whole 5 _ _ (by simp) hc
theorem int_info : (Tryz.prog.info? 3).map (fun i => (i.zero, i.size, i.bytes)) = some (some (.int .i64 0), 1, 8) := by kernel_rfl

section
variable (w : World) (G : Nat → Prop) (p q : Nat) (S : List Sec) (L : List Wr) (n : Nat) (h : Hd) (E : List Ent) (hj : Rj w G p q S L n h E)
include hj
theorem RNext_any (hf : h.f ≤ 2000000000000000000) (he : E.length ≤ 1000) : Calls Tryz.prog 23 #[.pointer (some ⟨p, 0, none⟩)] w fun e w' => e = .returned (.int .i64 ((h.f + E.length : Nat) : Int)) ∧ Below w.heap.size w w' := by
  obtain ⟨D, J, X, Y, _, h2, _⟩ := hj
  obtain ⟨A, c, B, d, rfl, rfl, c0, c1, c2, c3, c4, c5, c6, c7, fz⟩ := h2.cells
  obtain ⟨t, f, g, l⟩ := h
  obtain ⟨m, hm⟩ : ∃ m, E.length = m := ⟨_, rfl⟩
  rw [hm] at c6 he
  rw [hm]
  have hf2 : f ≤ 2000000000000000000 := hf
  have c3' : w.cell? ⟨p, 3, none⟩ = some (.int .i64 (f : Int)) := c3
  clear h2 c0 c1 c2 c3 c4 c5 c7 fz hm hf
  go_enter Tryz.func23, Tryz.ntmps23
  go_wp2
  go_quiet (fail)
  go_wp2
  go_ret
  exact ⟨by go_num, ⟨rfl, rfl, rfl, Nat.le_refl _, fun _ _ => rfl⟩⟩

set_option maxRecDepth 100000 in
set_option maxHeartbeats 4000000 in
theorem RSave_any (hb : h.t ≤ 2000000000000000000) (hn : 2 ≤ S.length) (hL : L.length ≤ 900000) :
    Calls Tryz.prog 35 #[.pointer (some ⟨p, 0, none⟩)] w fun e w' => e = .returned (.tuple #[]) ∧
      RjPost w G p q (all S (L ++ [((h.t + 1) % 2, hsec ⟨h.t + 1, h.f, h.g, h.l⟩)])) [] n ⟨h.t + 1, h.f, h.g, h.l⟩ E w' := by
  have hjs := Rj.set (i := 2) (v := .int .i64 ((h.t : Int) + 1)) (h' := ⟨h.t + 1, h.f, h.g, h.l⟩) hj (fun X Y => rfl)
  obtain ⟨D, J, X, Y, h1, h2, h3, h4⟩ := hj
  obtain ⟨A, c, B, d, rfl, rfl, c0, c1, c2, c3, c4, c5, c6, c7, fz⟩ := h2.cells
  obtain ⟨t, f, g, l⟩ := h
  have f2 := fz 2
  have c2' : w.cell? ⟨p, 2, none⟩ = some (.int .i64 (t : Int)) := c2
  have hb' : t ≤ 2000000000000000000 := hb
  have HL := hide hL
  have HN := hide hn
  clear c0 c1 c2 c3 c4 c5 c6 c7 fz h1 h2 h3 h4 hb hL hn
  go_enter Tryz.func35, Tryz.ntmps35
  go_wp2_with fail
  generalize w.setCell _ _ = w1 at *
  obtain ⟨G1, hj1, hg1, hk0⟩ := hjs
  obtain ⟨D, J, X, Y, h1, h2, h3, h4⟩ := hj1
  obtain ⟨t1, ht1⟩ : ∃ t1, t + 1 = t1 := ⟨_, rfl⟩
  obtain ⟨r2, hr2⟩ : ∃ r2, t1 % 2 = r2 := ⟨_, rfl⟩
  have hrem := rem2 t1 (by omega)
  show _
  simp only [ht1, hr2] at h2 hrem ⊢
  have HR := hide (show r2 < 2 by omega)
  have HE1 := hide ht1
  have HE2 := hide hr2
  have H11 := hide h1
  have H21 := hide h2
  have H3 := hide h3
  have H4 := hide h4
  have HG1 := hide hg1
  have HK0 := hide hk0
  have hS1 := h2.heads
  have ht1' : (t : Int) + 1 = (t1 : Int) := by omega
  obtain ⟨SF, hSF⟩ : ∃ S, str (hsec ⟨t1, f, g, l⟩) = S := ⟨_, rfl⟩
  have HSF := hide hSF
  have HSD := hide (show SF.data.toList = hsec ⟨t1, f, g, l⟩ by rw [← hSF, str_data])
  have HSZ := hide (show SF.size = 64 by rw [← hSF, str_size, hsec_length])
  clear h1 h2 h3 h4 hg1 hk0 hr2 ht1 c2' f2 hSF
  refine wp_region_held (S := (fun W => W.cell? ⟨p, 0, none⟩ = some (.pointer (some ⟨q, 0, none⟩)) ∧ W.cell? ⟨p, 2, none⟩ = some (.int .i64 (t1 : Int)) ∧ W.cell? ⟨p, 3, none⟩ = some (.int .i64 (f : Int)) ∧ W.cell? ⟨p, 4, none⟩ = some (.int .i64 (g : Int)) ∧ W.cell? ⟨p, 5, none⟩ = some (.int .i64 (l : Int)))) (by kernel_rfl) ?_
  change wpAnyH _ _ _ _ _ _ _ _ (World.drew _)
  refine wpAnyH_take (i := 0) (oi := ⟨some 9, _, _, _, _, _⟩) (v := ?_) rfl (by kernel_rfl) (by kernel_rfl) (by kernel_rfl) (fun _ _ _ h => h) (Or.inl ⟨by rfl, ?_⟩) hS1 ?_
  rotate_left 1
  · (intro w hSw; obtain ⟨hSw1, hSw2, hSw3, hSw4, hSw5⟩ := hSw; go_simp; try with_reducible rfl)
  simp only [Act.put, List.setIfInBounds_toArray, List.set_cons_zero, List.set_cons_succ]
  refine wpAnyH_take (i := 1) (oi := ⟨some 10, _, _, _, _, _⟩) (v := ?_) rfl (by kernel_rfl) (by kernel_rfl) (by kernel_rfl) (fun _ _ _ h => h) (Or.inl ⟨by rfl, ?_⟩) hS1 ?_
  rotate_left 1
  · (intro w hSw; obtain ⟨hSw1, hSw2, hSw3, hSw4, hSw5⟩ := hSw; go_simp; try with_reducible rfl)
  simp only [Act.put, List.setIfInBounds_toArray, List.set_cons_zero, List.set_cons_succ]
  refine wpAnyH_take (i := 2) (oi := ⟨some 11, _, _, _, _, _⟩) (v := ?_) rfl (by kernel_rfl) (by kernel_rfl) (by kernel_rfl) (fun _ _ _ h => h) (Or.inl ⟨by rfl, ?_⟩) hS1 ?_
  rotate_left 1
  · (intro w hSw; obtain ⟨hSw1, hSw2, hSw3, hSw4, hSw5⟩ := hSw; go_simp; try with_reducible rfl)
  simp only [Act.put, List.setIfInBounds_toArray, List.set_cons_zero, List.set_cons_succ]
  refine wpAnyH_take (i := 3) (oi := ⟨some 12, _, _, _, _, _⟩) (v := ?_) rfl (by kernel_rfl) (by kernel_rfl) (by kernel_rfl) (fun _ _ _ h => h) (Or.inl ⟨by rfl, ?_⟩) hS1 ?_
  rotate_left 1
  · (intro w hSw; obtain ⟨hSw1, hSw2, hSw3, hSw4, hSw5⟩ := hSw; go_simp; try with_reducible rfl)
  simp only [Act.put, List.setIfInBounds_toArray, List.set_cons_zero, List.set_cons_succ]
  refine wpAnyH_take (i := 4) (oi := ⟨some 13, _, _, _, _, _⟩) (v := ?_) rfl (by kernel_rfl) (by kernel_rfl) (by kernel_rfl) (fun _ _ _ h => h) (Or.inl ⟨by rfl, ?_⟩) hS1 ?_
  rotate_left 1
  · (intro w hSw; obtain ⟨hSw1, hSw2, hSw3, hSw4, hSw5⟩ := hSw; go_simp; try with_reducible rfl)
  simp only [Act.put, List.setIfInBounds_toArray, List.set_cons_zero, List.set_cons_succ]
  refine wpAnyH_take (i := 5) (oi := ⟨some 14, _, _, _, _, _⟩) (v := ?_) rfl (by kernel_rfl) (by kernel_rfl) (by kernel_rfl) (fun _ _ _ h => h) (Or.inl ⟨by rfl, ?_⟩) hS1 ?_
  rotate_left 1
  · (intro w hSw; obtain ⟨hSw1, hSw2, hSw3, hSw4, hSw5⟩ := hSw; go_simp; try with_reducible rfl)
  simp only [Act.put, List.setIfInBounds_toArray, List.set_cons_zero, List.set_cons_succ]
  refine wpAnyH_take (i := 6) (oi := ⟨some 15, _, _, _, _, _⟩) (v := ?_) rfl (by kernel_rfl) (by kernel_rfl) (by kernel_rfl) (fun _ _ _ h => h) (Or.inl ⟨by rfl, ?_⟩) hS1 ?_
  rotate_left 1
  · (intro w hSw; obtain ⟨hSw1, hSw2, hSw3, hSw4, hSw5⟩ := hSw; go_simp; try with_reducible rfl)
  simp only [Act.put, List.setIfInBounds_toArray, List.set_cons_zero, List.set_cons_succ]
  refine wpAnyH_take (i := 7) (oi := ⟨some 16, _, _, _, _, _⟩) (v := ?_) rfl (by kernel_rfl) (by kernel_rfl) (by kernel_rfl) (fun _ _ _ h => h) (Or.inl ⟨by rfl, ?_⟩) hS1 ?_
  rotate_left 1
  · (intro w hSw; obtain ⟨hSw1, hSw2, hSw3, hSw4, hSw5⟩ := hSw; go_simp; try with_reducible rfl)
  simp only [Act.put, List.setIfInBounds_toArray, List.set_cons_zero, List.set_cons_succ]
  refine wpAnyH_take (i := 8) (oi := ⟨some 17, _, _, _, _, _⟩) (v := ?_) rfl (by kernel_rfl) (by kernel_rfl) (by kernel_rfl) (fun _ _ _ h => h) (Or.inl ⟨by rfl, ?_⟩) hS1 ?_
  rotate_left 1
  · (intro w hSw; obtain ⟨hSw1, hSw2, hSw3, hSw4, hSw5⟩ := hSw; go_simp; try with_reducible rfl)
  simp only [Act.put, List.setIfInBounds_toArray, List.set_cons_zero, List.set_cons_succ]
  refine wpAnyH_take (i := 9) (oi := ⟨some 18, _, _, _, _, _⟩) (v := ?_) rfl (by kernel_rfl) (by kernel_rfl) (by kernel_rfl) (fun _ _ _ h => h) (Or.inl ⟨by rfl, ?_⟩) hS1 ?_
  rotate_left 1
  · (intro w hSw; obtain ⟨hSw1, hSw2, hSw3, hSw4, hSw5⟩ := hSw; go_simp; try with_reducible rfl)
  simp only [Act.put, List.setIfInBounds_toArray, List.set_cons_zero, List.set_cons_succ]
  refine wpAnyH_take (i := 10) (oi := ⟨some 19, _, _, _, _, _⟩) (v := ?_) rfl (by kernel_rfl) (by kernel_rfl) (by kernel_rfl) (fun _ _ _ h => h) (Or.inl ⟨by rfl, ?_⟩) hS1 ?_
  rotate_left 1
  · (intro w hSw; obtain ⟨hSw1, hSw2, hSw3, hSw4, hSw5⟩ := hSw; go_simp; try with_reducible rfl)
  simp only [Act.put, List.setIfInBounds_toArray, List.set_cons_zero, List.set_cons_succ]
  refine wpAnyH_take (i := 11) (oi := ⟨some 20, _, _, _, _, _⟩) (v := ?_) rfl (by kernel_rfl) (by kernel_rfl) (by kernel_rfl) (fun _ _ _ h => h) (Or.inl ⟨by rfl, ?_⟩) hS1 ?_
  rotate_left 1
  · (intro w hSw; obtain ⟨hSw1, hSw2, hSw3, hSw4, hSw5⟩ := hSw; go_simp; try with_reducible rfl)
  simp only [Act.put, List.setIfInBounds_toArray, List.set_cons_zero, List.set_cons_succ]
  refine wpAnyH_take (i := 12) (oi := ⟨some 21, _, _, _, _, _⟩) (v := ?_) rfl (by kernel_rfl) (by kernel_rfl) (by kernel_rfl) (fun _ _ _ h => h) (Or.inl ⟨by rfl, ?_⟩) hS1 ?_
  rotate_left 1
  · (intro w hSw; obtain ⟨hSw1, hSw2, hSw3, hSw4, hSw5⟩ := hSw; go_simp; try with_reducible rfl)
  simp only [Act.put, List.setIfInBounds_toArray, List.set_cons_zero, List.set_cons_succ]
  refine wpAnyH_take (i := 13) (oi := ⟨some 22, _, _, _, _, _⟩) (v := ?_) rfl (by kernel_rfl) (by kernel_rfl) (by kernel_rfl) (fun _ _ _ h => h) (Or.inl ⟨by rfl, ?_⟩) hS1 ?_
  rotate_left 1
  · (intro w hSw; obtain ⟨hSw1, hSw2, hSw3, hSw4, hSw5⟩ := hSw; go_simp; try with_reducible rfl)
  simp only [Act.put, List.setIfInBounds_toArray, List.set_cons_zero, List.set_cons_succ]
  refine wpAnyH_take (i := 14) (oi := ⟨some 23, _, _, _, _, _⟩) (v := ?_) rfl (by kernel_rfl) (by kernel_rfl) (by kernel_rfl) (fun _ _ _ h => h) (Or.inl ⟨by rfl, ?_⟩) hS1 ?_
  rotate_left 1
  · (intro w hSw; obtain ⟨hSw1, hSw2, hSw3, hSw4, hSw5⟩ := hSw; go_simp; try with_reducible rfl)
  simp only [Act.put, List.setIfInBounds_toArray, List.set_cons_zero, List.set_cons_succ]
  refine wpAnyH_take (i := 15) (oi := ⟨some 24, _, _, _, _, _⟩) (v := ?_) rfl (by kernel_rfl) (by kernel_rfl) (by kernel_rfl) (fun _ _ _ h => h) (Or.inl ⟨by rfl, ?_⟩) hS1 ?_
  rotate_left 1
  · (intro w hSw; obtain ⟨hSw1, hSw2, hSw3, hSw4, hSw5⟩ := hSw; go_simp; try with_reducible rfl)
  simp only [Act.put, List.setIfInBounds_toArray, List.set_cons_zero, List.set_cons_succ]
  refine wpAnyH_take (i := 16) (oi := ⟨some 25, _, _, _, _, _⟩) (v := ?_) rfl (by kernel_rfl) (by kernel_rfl) (by kernel_rfl) (fun _ _ _ h => h) (Or.inl ⟨by rfl, ?_⟩) hS1 ?_
  rotate_left 1
  · (intro w hSw; obtain ⟨hSw1, hSw2, hSw3, hSw4, hSw5⟩ := hSw; go_simp; try with_reducible rfl)
  simp only [Act.put, List.setIfInBounds_toArray, List.set_cons_zero, List.set_cons_succ]
  refine wpAnyH_take (i := 17) (oi := ⟨some 26, _, _, _, _, _⟩) (v := ?_) rfl (by kernel_rfl) (by kernel_rfl) (by kernel_rfl) (fun _ _ _ h => h) (Or.inl ⟨by rfl, ?_⟩) hS1 ?_
  rotate_left 1
  · (intro w hSw; obtain ⟨hSw1, hSw2, hSw3, hSw4, hSw5⟩ := hSw; go_simp; try with_reducible rfl)
  simp only [Act.put, List.setIfInBounds_toArray, List.set_cons_zero, List.set_cons_succ]
  refine wpAnyH_take (i := 18) (oi := ⟨some 27, _, _, _, _, _⟩) (v := ?_) rfl (by kernel_rfl) (by kernel_rfl) (by kernel_rfl) (fun _ _ _ h => h) (Or.inl ⟨by rfl, ?_⟩) hS1 ?_
  rotate_left 1
  · (intro w hSw; obtain ⟨hSw1, hSw2, hSw3, hSw4, hSw5⟩ := hSw; go_simp; try with_reducible rfl)
  simp only [Act.put, List.setIfInBounds_toArray, List.set_cons_zero, List.set_cons_succ]
  refine wpAnyH_take (i := 19) (oi := ⟨some 28, _, _, _, _, _⟩) (v := ?_) rfl (by kernel_rfl) (by kernel_rfl) (by kernel_rfl) (fun _ _ _ h => h) (Or.inl ⟨by rfl, ?_⟩) hS1 ?_
  rotate_left 1
  · (intro w hSw; obtain ⟨hSw1, hSw2, hSw3, hSw4, hSw5⟩ := hSw; go_simp; try with_reducible rfl)
  simp only [Act.put, List.setIfInBounds_toArray, List.set_cons_zero, List.set_cons_succ]
  refine wpAnyH_take (i := 20) (oi := ⟨some 29, _, _, _, _, _⟩) (v := ?_) rfl (by kernel_rfl) (by kernel_rfl) (by kernel_rfl) (fun _ _ _ h => h) (Or.inl ⟨by rfl, ?_⟩) hS1 ?_
  rotate_left 1
  · (intro w hSw; obtain ⟨hSw1, hSw2, hSw3, hSw4, hSw5⟩ := hSw; go_simp; try with_reducible rfl)
  simp only [Act.put, List.setIfInBounds_toArray, List.set_cons_zero, List.set_cons_succ]
  refine wpAnyH_take (i := 21) (oi := ⟨some 30, _, _, _, _, _⟩) (v := ?_) rfl (by kernel_rfl) (by kernel_rfl) (by kernel_rfl) (fun _ _ _ h => h) (Or.inl ⟨by rfl, ?_⟩) hS1 ?_
  rotate_left 1
  · (intro w hSw; obtain ⟨hSw1, hSw2, hSw3, hSw4, hSw5⟩ := hSw; go_simp; try with_reducible rfl)
  simp only [Act.put, List.setIfInBounds_toArray, List.set_cons_zero, List.set_cons_succ]
  refine wpAnyH_take (i := 22) (oi := ⟨some 31, _, _, _, _, _⟩) (v := ?_) rfl (by kernel_rfl) (by kernel_rfl) (by kernel_rfl) (fun _ _ _ h => h) (Or.inl ⟨by rfl, ?_⟩) hS1 ?_
  rotate_left 1
  · (intro w hSw; obtain ⟨hSw1, hSw2, hSw3, hSw4, hSw5⟩ := hSw; go_simp; try with_reducible rfl)
  simp only [Act.put, List.setIfInBounds_toArray, List.set_cons_zero, List.set_cons_succ]
  refine wpAnyH_take (i := 23) (oi := ⟨some 32, _, _, _, _, _⟩) (v := ?_) rfl (by kernel_rfl) (by kernel_rfl) (by kernel_rfl) (fun _ _ _ h => h) (Or.inl ⟨by rfl, ?_⟩) hS1 ?_
  rotate_left 1
  · (intro w hSw; obtain ⟨hSw1, hSw2, hSw3, hSw4, hSw5⟩ := hSw; go_simp; try with_reducible rfl)
  simp only [Act.put, List.setIfInBounds_toArray, List.set_cons_zero, List.set_cons_succ]
  refine wpAnyH_take (i := 24) (oi := ⟨some 33, _, _, _, _, _⟩) (v := ?_) rfl (by kernel_rfl) (by kernel_rfl) (by kernel_rfl) (fun _ _ _ h => h) (Or.inl ⟨by rfl, ?_⟩) hS1 ?_
  rotate_left 1
  · (intro w hSw; obtain ⟨hSw1, hSw2, hSw3, hSw4, hSw5⟩ := hSw; go_simp; try with_reducible rfl)
  simp only [Act.put, List.setIfInBounds_toArray, List.set_cons_zero, List.set_cons_succ]
  refine wpAnyH_ready (rs := [25]) (by kernel_rfl) (by simp) ?_
  refine AllReadyH.cons (o := ⟨some 34, _, _, _, _, _⟩) rfl (fun K hK => ?_) AllReadyH.nil
  go_simp
  refine (rHeadBytes_any ⟨t1, f, g, l⟩ w1.drew SF HSF.out).mono ?_
  rintro r w2 ⟨rfl, hb2'⟩
  have hb2 := drew_below hb2'
  have H12 := hide (H11.out.below hb2)
  have H22 := hide (H21.out.below hb2)
  have HB2 := hide hb2
  have hS2 := H22.out.heads
  clear hb2' hb2
  refine hK.out _ _ hS2 (fun hHeld => ?_)
  clear hK K
  clear hHeld
  refine wpAnyH_ready (rs := [26]) (by kernel_rfl) (by simp) ?_
  refine AllReadyH.cons (o := ⟨some 35, _, _, _, _, _⟩) rfl (fun K hK => ?_) AllReadyH.nil
  go_simp
  refine (RWrite_any w2 D q r2 S L SF H12.out (by have := HN.out; have := HR.out; omega) HSZ.out HL.out).mono ?_
  rintro r w3 ⟨rfl, hp3⟩
  rw [HSD.out] at hp3
  have HJ3 := hide (RjPost.after HB2.out (Rj.disk H22.out H3.out H4.out hp3))
  have hS3 : w3.cell? ⟨p, 0, none⟩ = some (.pointer (some ⟨q, 0, none⟩)) ∧ w3.cell? ⟨p, 2, none⟩ = some (.int .i64 (t1 : Int)) ∧ w3.cell? ⟨p, 3, none⟩ = some (.int .i64 (f : Int)) ∧ w3.cell? ⟨p, 4, none⟩ = some (.int .i64 (g : Int)) ∧ w3.cell? ⟨p, 5, none⟩ = some (.int .i64 (l : Int)) := by
    obtain ⟨G2, ⟨D2, J2, X2, Y2, k1, k2, k3, k4⟩, _, _⟩ := HJ3.out
    exact k2.heads
  clear hp3 H12 H22 HB2
  refine hK.out _ _ hS3 (fun hHeld => ?_)
  clear hK K
  clear hHeld
  refine wpAnyH_done (by kernel_rfl) ?_ _
  obtain ⟨G3, hj3, hg3, hk3⟩ := HJ3.out
  obtain ⟨D3, J3, X3, Y3, k1, k2, k3, k4⟩ := hj3
  have hq3 := hS3.1
  have HK1 := hide k1
  have HK2 := hide k2
  have HK3 := hide k3
  have HK4 := hide k4
  have HG3 := hide hg3
  have HKP := hide hk3
  have HF := hide (RFlush_any w3 D3 q S _ k1 (by have := HL.out; simp; omega))
  clear k1 k2 k3 k4 hg3 hk3 hS3 HJ3
  go_wp2_with fail
  refine HF.out.mono ?_
  rintro r w4 ⟨rfl, hp4⟩
  have HJ4 := hide (RjPost.of HG1.out HK0.out (RjPost.of HG3.out HKP.out (Rj.disk HK2.out HK3.out HK4.out hp4)))
  clear hp4 hq3
  go_wp2
  go_end0
  have e2 := HE2.out
  have e1 := HE1.out
  subst e2
  subst e1
  exact ⟨rfl, HJ4.out⟩
end


section
variable (w : World) (G : Nat → Prop) (p q : Nat) (S : List Sec) (L : List Wr) (n : Nat) (h : Hd) (E : List Ent) (hj : Rj w G p q S L n h E) (s k b : Int) (d : ByteArray) (m : Int) (hf : h.f ≤ 2000000000000000000) (hn : n ≤ 512)
include hj hf hn
set_option maxRecDepth 100000 in
set_option maxHeartbeats 4000000 in
theorem RAppend_full (he : E.length = n) :
    Calls Tryz.prog 14 #[.pointer (some ⟨p, 0, none⟩), rec5 s k b d m] w fun r w' => r = .returned (.tuple #[.int .i64 0, .int .i64 6]) ∧ Below w.heap.size w w' := by
  have hb0 := box_below w s k b d m
  have hbx0 := Bx.new w s k b d m
  have HLT := hide hj.lt
  have HJ0 := hide (hj.below hb0)
  have HB0 := hide hb0
  obtain ⟨sq, hsq⟩ : ∃ sq, h.f + E.length = sq := ⟨_, rfl⟩
  have Hel := hide (show E.length ≤ 512 by omega)
  have Hel3 := hide he
  have Hf := hide hf
  have Hn := hide hn
  have Hsq := hide hsq

  clear hb0 hj hsq he hf hn
  go_enter Tryz.func14, Tryz.ntmps14
  go_wp2_with fail
  generalize w.alloc _ = w0 at *
  obtain ⟨el, hel⟩ : ∃ el, E.length = el := ⟨_, rfl⟩
  have Hel4 := hide hel
  have hcmp : ((el : Int) == (n : Int)) = true := by have := Hel3.out; simp; omega
  obtain ⟨c6, c1⟩ : (∃ A c, w0.cell? ⟨p, 6, none⟩ = some (.slice A el c)) ∧ w0.cell? ⟨p, 1, none⟩ = some (.int .i64 (n : Int)) := by
    obtain ⟨D, J, X, Y, _, h2, _⟩ := HJ0.out
    obtain ⟨A, c, B, d, rfl, rfl, c0, c1, c2, c3, c4, c5, c6, c7, fz⟩ := h2.cells
    rw [hel] at c6
    exact ⟨⟨A, c, c6⟩, c1⟩
  obtain ⟨A0, cc0, c6⟩ := c6
  clear hel
  go_quiet (fail)
  clear c6 c1
  have hbq : Below w0.heap.size w0 (w0.drewN nq) := ⟨rfl, rfl, rfl, Nat.le_refl _, fun _ _ => rfl⟩
  have HJ0d := hide (HJ0.out.below hbq)
  have HB0d := hide (HB0.out.trans (hbq.mono HB0.out.size))
  have hbx0d := hbx0.below hbq
  clear hbq
  generalize w0.drewN nq = w0d at *
  clear hbx0 HJ0 HB0
  clear hbx0d
  go_wp2
  go_ret2
  exact ⟨rfl, HB0d.out⟩

set_option maxRecDepth 100000 in
set_option maxHeartbeats 4000000 in
theorem RAppend_bad (he : E.length < n) (hno : ¬ EOk ⟨h.g, h.f + E.length, k, b, d, m⟩) :
    Calls Tryz.prog 14 #[.pointer (some ⟨p, 0, none⟩), rec5 s k b d m] w fun r w' => r = .returned (.tuple #[.int .i64 0, .int .i64 1]) ∧ Below w.heap.size w w' := by
  have hb0 := box_below w s k b d m
  have hbx0 := Bx.new w s k b d m
  have HLT := hide hj.lt
  have HJ0 := hide (hj.below hb0)
  have HB0 := hide hb0
  obtain ⟨sq, hsq⟩ : ∃ sq, h.f + E.length = sq := ⟨_, rfl⟩
  have Hel := hide (show E.length ≤ 512 by omega)
  have Hel3 := hide he
  have Hf := hide hf
  have Hn := hide hn
  have Hsq := hide hsq
  rw [hsq] at hno
  have Hno := hide (show ¬ (Rgt (sq : Int) k b d.size m ∧ Num (h.g : Int)) from hno)
  clear hno
  clear hb0 hj hsq he hf hn
  go_enter Tryz.func14, Tryz.ntmps14
  go_wp2_with fail
  generalize w.alloc _ = w0 at *
  obtain ⟨el, hel⟩ : ∃ el, E.length = el := ⟨_, rfl⟩
  have Hel4 := hide hel
  have hcmp : ((el : Int) == (n : Int)) = false := by have := Hel3.out; simp; omega
  obtain ⟨c6, c1⟩ : (∃ A c, w0.cell? ⟨p, 6, none⟩ = some (.slice A el c)) ∧ w0.cell? ⟨p, 1, none⟩ = some (.int .i64 (n : Int)) := by
    obtain ⟨D, J, X, Y, _, h2, _⟩ := HJ0.out
    obtain ⟨A, c, B, d, rfl, rfl, c0, c1, c2, c3, c4, c5, c6, c7, fz⟩ := h2.cells
    rw [hel] at c6
    exact ⟨⟨A, c, c6⟩, c1⟩
  obtain ⟨A0, cc0, c6⟩ := c6
  clear hel
  go_quiet (fail)
  clear c6 c1
  have hbq : Below w0.heap.size w0 (w0.drewN nq) := ⟨rfl, rfl, rfl, Nat.le_refl _, fun _ _ => rfl⟩
  have HJ0d := hide (HJ0.out.below hbq)
  have HB0d := hide (HB0.out.trans (hbq.mono HB0.out.size))
  have hbx0d := hbx0.below hbq
  clear hbq
  generalize w0.drewN nq = w0d at *
  clear hbx0 HJ0 HB0
  go_wp2_with fail
  refine (RNext_any w0d G p q S L n h E HJ0d.out Hf.out (by have := Hel.out; omega)).mono ?_
  rintro e w1 ⟨rfl, hb1⟩
  rw [Hsq.out]
  have hbx1 := hbx0d.below hb1
  have hj1 := HJ0d.out.below hb1
  have HB1 := hide (HB0d.out.trans (hb1.mono HB0d.out.size))
  have hx0 := hbx1.c0
  have hy0 := hbx1.free 0
  have hbx2 := hbx1.set0 (sq : Int)
  have HB2 := hide (HB1.out.setCell (p := ⟨w.heap.size, 0, none⟩) (Nat.le_refl _) (.int .i64 (sq : Int)))
  have HJ2 := hide (hj1.kept (Kept.set (K := fun i => i = w.heap.size) (Kept.refl _ w1) rfl 0 (.int .i64 (sq : Int))) (fun i hi e => by have := HLT.out i hi; omega))
  clear hbx0d hb1 hj1 hbx1 HB0d HB1 HJ0d
  go_wp2_with fail
  generalize w1.setCell _ _ = w3 at *
  have hbx3 := hbx2
  have HJ3 := HJ2
  have HB3 := HB2
  clear hx0 hy0 hbx2 HB2 HJ2
  obtain ⟨D, J, X, Y, h1, h2, h3, h4⟩ := HJ3.out
  have hq4 := h2.heads.2.2.2.1
  have hS0 : w3.drew.cell? ⟨p, 4, none⟩ = some (.int .i64 (h.g : Int)) ∧ w3.drew.cell? ⟨w.heap.size, 0, none⟩ = some (.int .i64 (sq : Int)) ∧ w3.drew.cell? ⟨w.heap.size, 1, none⟩ = some (.int .i64 k) ∧ w3.drew.cell? ⟨w.heap.size, 2, none⟩ = some (.int .i64 b) ∧ w3.drew.cell? ⟨w.heap.size, 3, none⟩ = some (.string d) ∧ w3.drew.cell? ⟨w.heap.size, 4, none⟩ = some (.int .i64 m) := ⟨hq4, hbx3.c0, hbx3.c1, hbx3.c2, hbx3.c3, hbx3.c4⟩
  clear h1 h2 h3 h4 hq4
  have HE := hide (rEncode_bad (h.g : Int) (sq : Int) k b d m w3.drew Hno.out)
  go_wp2_with fail
  refine wp_region_held (S := (fun W => W.cell? ⟨p, 4, none⟩ = some (.int .i64 (h.g : Int)) ∧ W.cell? ⟨w.heap.size, 0, none⟩ = some (.int .i64 (sq : Int)) ∧ W.cell? ⟨w.heap.size, 1, none⟩ = some (.int .i64 k) ∧ W.cell? ⟨w.heap.size, 2, none⟩ = some (.int .i64 b) ∧ W.cell? ⟨w.heap.size, 3, none⟩ = some (.string d) ∧ W.cell? ⟨w.heap.size, 4, none⟩ = some (.int .i64 m))) (by kernel_rfl) ?_
  change wpAnyH _ _ _ _ _ _ _ _ (World.drew _)
  refine wpAnyH_take (i := 0) (oi := ⟨some 22, _, _, _, _, _⟩) (v := ?_) rfl (by kernel_rfl) (by kernel_rfl) (by kernel_rfl) (fun _ _ _ h => h) (Or.inl ⟨by rfl, ?_⟩) hS0 ?_
  rotate_left 1
  · (intro w hSw; obtain ⟨hSw1, hSw2, hSw3, hSw4, hSw5, hSw6⟩ := hSw; go_simp; try with_reducible rfl)
  simp only [Act.put, List.setIfInBounds_toArray, List.set_cons_zero, List.set_cons_succ]
  refine wpAnyH_take (i := 1) (oi := ⟨some 23, _, _, _, _, _⟩) (v := ?_) rfl (by kernel_rfl) (by kernel_rfl) (by kernel_rfl) (fun _ _ _ h => h) (Or.inl ⟨by rfl, ?_⟩) hS0 ?_
  rotate_left 1
  · (intro w hSw; obtain ⟨hSw1, hSw2, hSw3, hSw4, hSw5, hSw6⟩ := hSw; go_simp; try with_reducible rfl)
  simp only [Act.put, List.setIfInBounds_toArray, List.set_cons_zero, List.set_cons_succ]
  refine wpAnyH_take (i := 2) (oi := ⟨some 24, _, _, _, _, _⟩) (v := ?_) rfl (by kernel_rfl) (by kernel_rfl) (by kernel_rfl) (fun _ _ _ h => h) (Or.inl ⟨by rfl, ?_⟩) hS0 ?_
  rotate_left 1
  · (intro w hSw; obtain ⟨hSw1, hSw2, hSw3, hSw4, hSw5, hSw6⟩ := hSw; go_simp; try with_reducible rfl)
  simp only [Act.put, List.setIfInBounds_toArray, List.set_cons_zero, List.set_cons_succ]
  refine wpAnyH_take (i := 3) (oi := ⟨some 25, _, _, _, _, _⟩) (v := ?_) rfl (by kernel_rfl) (by kernel_rfl) (by kernel_rfl) (fun _ _ _ h => h) (Or.inl ⟨by rfl, ?_⟩) hS0 ?_
  rotate_left 1
  · (intro w hSw; obtain ⟨hSw1, hSw2, hSw3, hSw4, hSw5, hSw6⟩ := hSw; go_simp; try with_reducible rfl)
  simp only [Act.put, List.setIfInBounds_toArray, List.set_cons_zero, List.set_cons_succ]
  refine wpAnyH_take (i := 4) (oi := ⟨some 26, _, _, _, _, _⟩) (v := ?_) rfl (by kernel_rfl) (by kernel_rfl) (by kernel_rfl) (fun _ _ _ h => h) (Or.inl ⟨by rfl, ?_⟩) hS0 ?_
  rotate_left 1
  · (intro w hSw; obtain ⟨hSw1, hSw2, hSw3, hSw4, hSw5, hSw6⟩ := hSw; go_simp; try with_reducible rfl)
  simp only [Act.put, List.setIfInBounds_toArray, List.set_cons_zero, List.set_cons_succ]
  refine wpAnyH_ready (rs := [5]) (by kernel_rfl) (by simp) ?_
  refine AllReadyH.cons (o := ⟨some 27, _, _, _, _, _⟩) rfl (fun K hK => ?_) AllReadyH.nil
  go_simp
  refine HE.out.mono ?_
  rintro r w4 ⟨rfl, hb4⟩
  have hb4' := drew_below hb4
  have hbx4 := hbx3.below hb4'
  have hj4 := HJ3.out.below hb4'
  have hS1 : w4.cell? ⟨p, 4, none⟩ = some (.int .i64 (h.g : Int)) ∧ w4.cell? ⟨w.heap.size, 0, none⟩ = some (.int .i64 (sq : Int)) ∧ w4.cell? ⟨w.heap.size, 1, none⟩ = some (.int .i64 k) ∧ w4.cell? ⟨w.heap.size, 2, none⟩ = some (.int .i64 b) ∧ w4.cell? ⟨w.heap.size, 3, none⟩ = some (.string d) ∧ w4.cell? ⟨w.heap.size, 4, none⟩ = some (.int .i64 m) := by
    obtain ⟨D, J, X, Y, h1, h2, h3, h4⟩ := hj4
    exact ⟨h2.heads.2.2.2.1, hbx4.c0, hbx4.c1, hbx4.c2, hbx4.c3, hbx4.c4⟩
  have HB4 := hide (HB3.out.trans (hb4'.mono HB3.out.size))
  clear hb4 hb4' hbx3 hbx4 hj4 HE HB3 HJ3 hS0
  refine hK.out _ _ hS1 (fun hHeld => ?_)
  clear hK K
  clear hHeld
  refine wpAnyH_take (i := 6) (oi := ⟨some 21, _, _, _, _, _⟩) (v := ?_) rfl (by kernel_rfl) (by kernel_rfl) (by kernel_rfl) (fun _ _ _ h => h) (Or.inl ⟨by rfl, ?_⟩) hS1 ?_
  rotate_left 1
  · (intro w hSw; obtain ⟨hSw1, hSw2, hSw3, hSw4, hSw5, hSw6⟩ := hSw; go_simp; try with_reducible rfl)
  simp only [Act.put, List.setIfInBounds_toArray, List.set_cons_zero, List.set_cons_succ]
  refine wpAnyH_take (i := 7) (oi := ⟨some 28, _, _, _, _, _⟩) (v := ?_) rfl (by kernel_rfl) (by kernel_rfl) (by kernel_rfl) (fun _ _ _ h => h) (Or.inl ⟨by rfl, ?_⟩) hS1 ?_
  rotate_left 1
  · (intro w hSw; obtain ⟨hSw1, hSw2, hSw3, hSw4, hSw5, hSw6⟩ := hSw; go_simp; try with_reducible rfl)
  simp only [Act.put, List.setIfInBounds_toArray, List.set_cons_zero, List.set_cons_succ]
  refine wpAnyH_take (i := 8) (oi := ⟨some 29, _, _, _, _, _⟩) (v := ?_) rfl (by kernel_rfl) (by kernel_rfl) (by kernel_rfl) (fun _ _ _ h => h) (Or.inl ⟨by rfl, ?_⟩) hS1 ?_
  rotate_left 1
  · (intro w hSw; obtain ⟨hSw1, hSw2, hSw3, hSw4, hSw5, hSw6⟩ := hSw; go_simp; try with_reducible rfl)
  simp only [Act.put, List.setIfInBounds_toArray, List.set_cons_zero, List.set_cons_succ]
  refine wpAnyH_take (i := 9) (oi := ⟨some 6, _, _, _, _, _⟩) (v := ?_) rfl (by kernel_rfl) (by kernel_rfl) (by kernel_rfl) (fun _ _ _ h => h) (Or.inl ⟨by rfl, ?_⟩) hS1 ?_
  rotate_left 1
  · (intro w hSw; obtain ⟨hSw1, hSw2, hSw3, hSw4, hSw5, hSw6⟩ := hSw; go_simp; try with_reducible rfl)
  simp only [Act.put, List.setIfInBounds_toArray, List.set_cons_zero, List.set_cons_succ]
  refine wpAnyH_take (i := 10) (oi := ⟨some 7, _, _, _, _, _⟩) (v := ?_) rfl (by kernel_rfl) (by kernel_rfl) (by kernel_rfl) (fun _ _ _ h => h) (Or.inl ⟨by rfl, ?_⟩) hS1 ?_
  rotate_left 1
  · (intro w hSw; obtain ⟨hSw1, hSw2, hSw3, hSw4, hSw5, hSw6⟩ := hSw; go_simp; try with_reducible rfl)
  simp only [Act.put, List.setIfInBounds_toArray, List.set_cons_zero, List.set_cons_succ]
  refine wpAnyH_done (by kernel_rfl) ?_ _
  clear hS1
  go_wp2
  go_ret2
  exact ⟨rfl, HB4.out⟩

set_option maxRecDepth 100000 in
set_option maxHeartbeats 4000000 in
theorem RAppend_good (he : E.length < n) (hok : EOk ⟨h.g, h.f + E.length, k, b, d, m⟩) (h2n : 2 + n ≤ S.length) (hL : L.length ≤ 900000) :
    Calls Tryz.prog 14 #[.pointer (some ⟨p, 0, none⟩), rec5 s k b d m] w fun r w' => r = .returned (.tuple #[.int .i64 ((h.f + E.length : Nat) : Int), .int .i64 0]) ∧
      RjPost w G p q S (L ++ [(2 + (h.f + E.length) % n, esec ⟨h.g, h.f + E.length, k, b, d, m⟩)]) n h (E ++ [⟨h.g, h.f + E.length, k, b, d, m⟩]) w' := by
  obtain ⟨i0, hi0, hz0, hz1, hz2⟩ := info_parts rec_info
  have Hz1 := hide hz1
  have Hz2 := hide hz2
  obtain ⟨j0, hj0, hy0, hy1, hy2⟩ := info_parts int_info
  have Hy1 := hide hy1
  have Hy2 := hide hy2
  clear hz1 hz2 hy1 hy2
  have hb0 := box_below w s k b d m
  have hbx0 := Bx.new w s k b d m
  have HLT := hide hj.lt
  have HJ0 := hide (hj.below hb0)
  have HB0 := hide hb0
  obtain ⟨sq, hsq⟩ : ∃ sq, h.f + E.length = sq := ⟨_, rfl⟩
  have Hel := hide (show E.length ≤ 512 by omega)
  have Hel3 := hide he
  have Hf := hide hf
  have Hn := hide hn
  have Hsq := hide hsq
  rw [hsq] at hok
  have HOK := hide hok
  have HL := hide hL
  have H2n := hide h2n
  obtain ⟨SF, hSF⟩ : ∃ S, str (esec ⟨h.g, sq, k, b, d, m⟩) = S := ⟨_, rfl⟩
  have HSD := hide (show SF.data.toList = esec ⟨h.g, sq, k, b, d, m⟩ by rw [← hSF, str_data])
  have HSZ := hide (show SF.size = 64 by rw [← hSF, str_size, esec_length hok])
  unfold esec at hSF
  have HSF := hide hSF
  clear hok hL h2n hSF
  clear hb0 hj hsq he hf hn
  go_enter Tryz.func14, Tryz.ntmps14
  go_wp2_with fail
  generalize w.alloc _ = w0 at *
  obtain ⟨el, hel⟩ : ∃ el, E.length = el := ⟨_, rfl⟩
  have Hel4 := hide hel
  have hcmp : ((el : Int) == (n : Int)) = false := by have := Hel3.out; simp; omega
  obtain ⟨c6, c1⟩ : (∃ A c, w0.cell? ⟨p, 6, none⟩ = some (.slice A el c)) ∧ w0.cell? ⟨p, 1, none⟩ = some (.int .i64 (n : Int)) := by
    obtain ⟨D, J, X, Y, _, h2, _⟩ := HJ0.out
    obtain ⟨A, c, B, d, rfl, rfl, c0, c1, c2, c3, c4, c5, c6, c7, fz⟩ := h2.cells
    rw [hel] at c6
    exact ⟨⟨A, c, c6⟩, c1⟩
  obtain ⟨A0, cc0, c6⟩ := c6
  clear hel
  go_quiet (fail)
  clear c6 c1
  have hbq : Below w0.heap.size w0 (w0.drewN nq) := ⟨rfl, rfl, rfl, Nat.le_refl _, fun _ _ => rfl⟩
  have HJ0d := hide (HJ0.out.below hbq)
  have HB0d := hide (HB0.out.trans (hbq.mono HB0.out.size))
  have hbx0d := hbx0.below hbq
  clear hbq
  generalize w0.drewN nq = w0d at *
  clear hbx0 HJ0 HB0
  go_wp2_with fail
  refine (RNext_any w0d G p q S L n h E HJ0d.out Hf.out (by have := Hel.out; omega)).mono ?_
  rintro e w1 ⟨rfl, hb1⟩
  rw [Hsq.out]
  have hbx1 := hbx0d.below hb1
  have hj1 := HJ0d.out.below hb1
  have HB1 := hide (HB0d.out.trans (hb1.mono HB0d.out.size))
  have hx0 := hbx1.c0
  have hy0 := hbx1.free 0
  have hbx2 := hbx1.set0 (sq : Int)
  have HB2 := hide (HB1.out.setCell (p := ⟨w.heap.size, 0, none⟩) (Nat.le_refl _) (.int .i64 (sq : Int)))
  have HJ2 := hide (hj1.kept (Kept.set (K := fun i => i = w.heap.size) (Kept.refl _ w1) rfl 0 (.int .i64 (sq : Int))) (fun i hi e => by have := HLT.out i hi; omega))
  clear hbx0d hb1 hj1 hbx1 HB0d HB1 HJ0d
  go_wp2_with fail
  generalize w1.setCell _ _ = w3 at *
  have hbx3 := hbx2
  have HJ3 := HJ2
  have HB3 := HB2
  clear hx0 hy0 hbx2 HB2 HJ2
  obtain ⟨D, J, X, Y, h1, h2, h3, h4⟩ := HJ3.out
  have hq4 := h2.heads.2.2.2.1
  have hS0 : w3.drew.cell? ⟨p, 4, none⟩ = some (.int .i64 (h.g : Int)) ∧ w3.drew.cell? ⟨w.heap.size, 0, none⟩ = some (.int .i64 (sq : Int)) ∧ w3.drew.cell? ⟨w.heap.size, 1, none⟩ = some (.int .i64 k) ∧ w3.drew.cell? ⟨w.heap.size, 2, none⟩ = some (.int .i64 b) ∧ w3.drew.cell? ⟨w.heap.size, 3, none⟩ = some (.string d) ∧ w3.drew.cell? ⟨w.heap.size, 4, none⟩ = some (.int .i64 m) := ⟨hq4, hbx3.c0, hbx3.c1, hbx3.c2, hbx3.c3, hbx3.c4⟩
  clear h1 h2 h3 h4 hq4
  have HE := hide (rEncode_good (h.g : Int) (sq : Int) k b d m w3.drew HOK.out.1 HOK.out.2 SF HSF.out)
  go_wp2_with fail
  refine wp_region_held (S := (fun W => W.cell? ⟨p, 4, none⟩ = some (.int .i64 (h.g : Int)) ∧ W.cell? ⟨w.heap.size, 0, none⟩ = some (.int .i64 (sq : Int)) ∧ W.cell? ⟨w.heap.size, 1, none⟩ = some (.int .i64 k) ∧ W.cell? ⟨w.heap.size, 2, none⟩ = some (.int .i64 b) ∧ W.cell? ⟨w.heap.size, 3, none⟩ = some (.string d) ∧ W.cell? ⟨w.heap.size, 4, none⟩ = some (.int .i64 m))) (by kernel_rfl) ?_
  change wpAnyH _ _ _ _ _ _ _ _ (World.drew _)
  refine wpAnyH_take (i := 0) (oi := ⟨some 22, _, _, _, _, _⟩) (v := ?_) rfl (by kernel_rfl) (by kernel_rfl) (by kernel_rfl) (fun _ _ _ h => h) (Or.inl ⟨by rfl, ?_⟩) hS0 ?_
  rotate_left 1
  · (intro w hSw; obtain ⟨hSw1, hSw2, hSw3, hSw4, hSw5, hSw6⟩ := hSw; go_simp; try with_reducible rfl)
  simp only [Act.put, List.setIfInBounds_toArray, List.set_cons_zero, List.set_cons_succ]
  refine wpAnyH_take (i := 1) (oi := ⟨some 23, _, _, _, _, _⟩) (v := ?_) rfl (by kernel_rfl) (by kernel_rfl) (by kernel_rfl) (fun _ _ _ h => h) (Or.inl ⟨by rfl, ?_⟩) hS0 ?_
  rotate_left 1
  · (intro w hSw; obtain ⟨hSw1, hSw2, hSw3, hSw4, hSw5, hSw6⟩ := hSw; go_simp; try with_reducible rfl)
  simp only [Act.put, List.setIfInBounds_toArray, List.set_cons_zero, List.set_cons_succ]
  refine wpAnyH_take (i := 2) (oi := ⟨some 24, _, _, _, _, _⟩) (v := ?_) rfl (by kernel_rfl) (by kernel_rfl) (by kernel_rfl) (fun _ _ _ h => h) (Or.inl ⟨by rfl, ?_⟩) hS0 ?_
  rotate_left 1
  · (intro w hSw; obtain ⟨hSw1, hSw2, hSw3, hSw4, hSw5, hSw6⟩ := hSw; go_simp; try with_reducible rfl)
  simp only [Act.put, List.setIfInBounds_toArray, List.set_cons_zero, List.set_cons_succ]
  refine wpAnyH_take (i := 3) (oi := ⟨some 25, _, _, _, _, _⟩) (v := ?_) rfl (by kernel_rfl) (by kernel_rfl) (by kernel_rfl) (fun _ _ _ h => h) (Or.inl ⟨by rfl, ?_⟩) hS0 ?_
  rotate_left 1
  · (intro w hSw; obtain ⟨hSw1, hSw2, hSw3, hSw4, hSw5, hSw6⟩ := hSw; go_simp; try with_reducible rfl)
  simp only [Act.put, List.setIfInBounds_toArray, List.set_cons_zero, List.set_cons_succ]
  refine wpAnyH_take (i := 4) (oi := ⟨some 26, _, _, _, _, _⟩) (v := ?_) rfl (by kernel_rfl) (by kernel_rfl) (by kernel_rfl) (fun _ _ _ h => h) (Or.inl ⟨by rfl, ?_⟩) hS0 ?_
  rotate_left 1
  · (intro w hSw; obtain ⟨hSw1, hSw2, hSw3, hSw4, hSw5, hSw6⟩ := hSw; go_simp; try with_reducible rfl)
  simp only [Act.put, List.setIfInBounds_toArray, List.set_cons_zero, List.set_cons_succ]
  refine wpAnyH_ready (rs := [5]) (by kernel_rfl) (by simp) ?_
  refine AllReadyH.cons (o := ⟨some 27, _, _, _, _, _⟩) rfl (fun K hK => ?_) AllReadyH.nil
  go_simp
  refine HE.out.mono ?_
  rintro r w4 ⟨rfl, hb4⟩
  have hb4' := drew_below hb4
  have hbx4 := hbx3.below hb4'
  have hj4 := HJ3.out.below hb4'
  have hS1 : w4.cell? ⟨p, 4, none⟩ = some (.int .i64 (h.g : Int)) ∧ w4.cell? ⟨w.heap.size, 0, none⟩ = some (.int .i64 (sq : Int)) ∧ w4.cell? ⟨w.heap.size, 1, none⟩ = some (.int .i64 k) ∧ w4.cell? ⟨w.heap.size, 2, none⟩ = some (.int .i64 b) ∧ w4.cell? ⟨w.heap.size, 3, none⟩ = some (.string d) ∧ w4.cell? ⟨w.heap.size, 4, none⟩ = some (.int .i64 m) := by
    obtain ⟨D, J, X, Y, h1, h2, h3, h4⟩ := hj4
    exact ⟨h2.heads.2.2.2.1, hbx4.c0, hbx4.c1, hbx4.c2, hbx4.c3, hbx4.c4⟩
  have HB4 := hide (HB3.out.trans (hb4'.mono HB3.out.size))
  have HJ4 := hide hj4
  have HX4 := hide hbx4
  clear hb4 hb4' hbx3 hbx4 hj4 HE HB3 HJ3 hS0
  refine hK.out _ _ hS1 (fun hHeld => ?_)
  clear hK K
  clear hHeld
  refine wpAnyH_take (i := 6) (oi := ⟨some 21, _, _, _, _, _⟩) (v := ?_) rfl (by kernel_rfl) (by kernel_rfl) (by kernel_rfl) (fun _ _ _ h => h) (Or.inl ⟨by rfl, ?_⟩) hS1 ?_
  rotate_left 1
  · (intro w hSw; obtain ⟨hSw1, hSw2, hSw3, hSw4, hSw5, hSw6⟩ := hSw; go_simp; try with_reducible rfl)
  simp only [Act.put, List.setIfInBounds_toArray, List.set_cons_zero, List.set_cons_succ]
  refine wpAnyH_take (i := 7) (oi := ⟨some 28, _, _, _, _, _⟩) (v := ?_) rfl (by kernel_rfl) (by kernel_rfl) (by kernel_rfl) (fun _ _ _ h => h) (Or.inl ⟨by rfl, ?_⟩) hS1 ?_
  rotate_left 1
  · (intro w hSw; obtain ⟨hSw1, hSw2, hSw3, hSw4, hSw5, hSw6⟩ := hSw; go_simp; try with_reducible rfl)
  simp only [Act.put, List.setIfInBounds_toArray, List.set_cons_zero, List.set_cons_succ]
  refine wpAnyH_take (i := 8) (oi := ⟨some 29, _, _, _, _, _⟩) (v := ?_) rfl (by kernel_rfl) (by kernel_rfl) (by kernel_rfl) (fun _ _ _ h => h) (Or.inl ⟨by rfl, ?_⟩) hS1 ?_
  rotate_left 1
  · (intro w hSw; obtain ⟨hSw1, hSw2, hSw3, hSw4, hSw5, hSw6⟩ := hSw; go_simp; try with_reducible rfl)
  simp only [Act.put, List.setIfInBounds_toArray, List.set_cons_zero, List.set_cons_succ]
  refine wpAnyH_take (i := 9) (oi := ⟨some 6, _, _, _, _, _⟩) (v := ?_) rfl (by kernel_rfl) (by kernel_rfl) (by kernel_rfl) (fun _ _ _ h => h) (Or.inl ⟨by rfl, ?_⟩) hS1 ?_
  rotate_left 1
  · (intro w hSw; obtain ⟨hSw1, hSw2, hSw3, hSw4, hSw5, hSw6⟩ := hSw; go_simp; try with_reducible rfl)
  simp only [Act.put, List.setIfInBounds_toArray, List.set_cons_zero, List.set_cons_succ]
  refine wpAnyH_take (i := 10) (oi := ⟨some 7, _, _, _, _, _⟩) (v := ?_) rfl (by kernel_rfl) (by kernel_rfl) (by kernel_rfl) (fun _ _ _ h => h) (Or.inl ⟨by rfl, ?_⟩) hS1 ?_
  rotate_left 1
  · (intro w hSw; obtain ⟨hSw1, hSw2, hSw3, hSw4, hSw5, hSw6⟩ := hSw; go_simp; try with_reducible rfl)
  simp only [Act.put, List.setIfInBounds_toArray, List.set_cons_zero, List.set_cons_succ]
  refine wpAnyH_done (by kernel_rfl) ?_ _
  clear hS1
  have HJ4d := hide (HJ4.out.below (Below.refl w4.heap.size w4).drew)
  obtain ⟨D, J, X, Y, h1, h2, h3, h4⟩ := HJ4d.out
  have hrmn := remN sq n
  obtain ⟨rr, hrr⟩ : ∃ rr, sq % n = rr := ⟨_, rfl⟩
  have hrlt : rr < n := by rw [← hrr]; exact Nat.mod_lt sq (by have := Hel3.out; omega)
  have hn512 : n ≤ 512 := Hn.out
  have hz : ¬ ((n : Int) = 0) := by omega
  have hz2 : ((n : Int) == 0) = false := by simp; omega
  have hz3 : ¬ (n = 0) := by omega
  rw [hrr] at hrmn
  obtain ⟨cc, hcc⟩ : ∃ cc, 2 + rr = cc := ⟨_, rfl⟩
  have hcci : (2 : Int) + (rr : Int) = (cc : Int) := by omega
  have hrri : (rr : Int) ≤ 512 := by omega
  have hwc : IntKind.i64.wrap (cc : Int) = (cc : Int) := by rw [IntKind.wrap_i64]; omega
  have HCC := hide (show 2 + sq % n = cc by rw [hrr]; exact hcc)
  have hcl : cc < S.length := by have := H2n.out; omega
  have HWR := hide (RWrite_any w4.drew D q cc S L SF h1 hcl HSZ.out HL.out)
  have HPP := fun w' => hide (fun hp => Rj.disk (w' := w') (S' := S) (L' := L ++ [(cc, esec ⟨h.g, sq, k, b, d, m⟩)]) h2 h3 h4 hp)
  have hS2 : w4.drew.cell? ⟨p, 0, none⟩ = some (.pointer (some ⟨q, 0, none⟩)) ∧ w4.drew.cell? ⟨w.heap.size, 0, none⟩ = some (.int .i64 (sq : Int)) ∧ w4.drew.cell? ⟨p, 1, none⟩ = some (.int .i64 (n : Int)) := ⟨h2.heads.1, HX4.out.c0, h2.ring⟩
  clear h1 h2 h3 h4 hcc hcl hrr
  go_wp2_with fail
  refine wp_region_held (S := (fun W => W.cell? ⟨p, 0, none⟩ = some (.pointer (some ⟨q, 0, none⟩)) ∧ W.cell? ⟨w.heap.size, 0, none⟩ = some (.int .i64 (sq : Int)) ∧ W.cell? ⟨p, 1, none⟩ = some (.int .i64 (n : Int)))) (by kernel_rfl) ?_
  change wpAnyH _ _ _ _ _ _ _ _ (World.drew _)
  refine wpAnyH_take (i := 0) (oi := ⟨some 32, _, _, _, _, _⟩) (v := ?_) rfl (by kernel_rfl) (by kernel_rfl) (by kernel_rfl) (fun _ _ _ h => h) (Or.inl ⟨by rfl, ?_⟩) hS2 ?_
  rotate_left 1
  · (intro w hSw; obtain ⟨hSw1, hSw2, hSw3⟩ := hSw; go_simp; try with_reducible rfl)
  simp only [Act.put, List.setIfInBounds_toArray, List.set_cons_zero, List.set_cons_succ]
  refine wpAnyH_take (i := 1) (oi := ⟨some 33, _, _, _, _, _⟩) (v := ?_) rfl (by kernel_rfl) (by kernel_rfl) (by kernel_rfl) (fun _ _ _ h => h) (Or.inl ⟨by rfl, ?_⟩) hS2 ?_
  rotate_left 1
  · (intro w hSw; obtain ⟨hSw1, hSw2, hSw3⟩ := hSw; go_simp; try with_reducible rfl)
  simp only [Act.put, List.setIfInBounds_toArray, List.set_cons_zero, List.set_cons_succ]
  refine wpAnyH_take (i := 2) (oi := ⟨some 34, _, _, _, _, _⟩) (v := ?_) rfl (by kernel_rfl) (by kernel_rfl) (by kernel_rfl) (fun _ _ _ h => h) (Or.inl ⟨by rfl, ?_⟩) hS2 ?_
  rotate_left 1
  · (intro w hSw; obtain ⟨hSw1, hSw2, hSw3⟩ := hSw; go_simp; try with_reducible rfl)
  simp only [Act.put, List.setIfInBounds_toArray, List.set_cons_zero, List.set_cons_succ]
  refine wpAnyH_take (i := 3) (oi := ⟨some 35, _, _, _, _, _⟩) (v := ?_) rfl (by kernel_rfl) (by kernel_rfl) (by kernel_rfl) (fun _ _ _ h => h) (Or.inl ⟨by rfl, ?_⟩) hS2 ?_
  rotate_left 1
  · (intro w hSw; obtain ⟨hSw1, hSw2, hSw3⟩ := hSw; go_simp; try with_reducible rfl)
  simp only [Act.put, List.setIfInBounds_toArray, List.set_cons_zero, List.set_cons_succ]
  refine wpAnyH_take (i := 4) (oi := ⟨some 36, _, _, _, _, _⟩) (v := ?_) rfl (by kernel_rfl) (by kernel_rfl) (by kernel_rfl) (fun _ _ _ h => h) (Or.inl ⟨by rfl, ?_⟩) hS2 ?_
  rotate_left 1
  · (intro w hSw; obtain ⟨hSw1, hSw2, hSw3⟩ := hSw; go_simp; try with_reducible rfl)
  simp only [Act.put, List.setIfInBounds_toArray, List.set_cons_zero, List.set_cons_succ]
  refine wpAnyH_take (i := 5) (oi := ⟨some 37, _, _, _, _, _⟩) (v := ?_) rfl (by kernel_rfl) (by kernel_rfl) (by kernel_rfl) (fun _ _ _ h => h) (Or.inl ⟨by rfl, ?_⟩) hS2 ?_
  rotate_left 1
  · (intro w hSw; obtain ⟨hSw1, hSw2, hSw3⟩ := hSw; go_simp; try with_reducible rfl)
  simp only [Act.put, List.setIfInBounds_toArray, List.set_cons_zero, List.set_cons_succ]
  refine wpAnyH_take (i := 6) (oi := ⟨some 38, _, _, _, _, _⟩) (v := ?_) rfl (by kernel_rfl) (by kernel_rfl) (by kernel_rfl) (fun _ _ _ h => h) (Or.inl ⟨by rfl, ?_⟩) hS2 ?_
  rotate_left 1
  · (intro w hSw; obtain ⟨hSw1, hSw2, hSw3⟩ := hSw; go_simp; try with_reducible rfl)
  simp only [Act.put, List.setIfInBounds_toArray, List.set_cons_zero, List.set_cons_succ]
  refine wpAnyH_take (i := 7) (oi := ⟨some 39, _, _, _, _, _⟩) (v := ?_) rfl (by kernel_rfl) (by kernel_rfl) (by kernel_rfl) (fun _ _ _ h => h) (Or.inl ⟨by rfl, ?_⟩) hS2 ?_
  rotate_left 1
  · (intro w hSw; obtain ⟨hSw1, hSw2, hSw3⟩ := hSw; go_simp; try with_reducible rfl)
  simp only [Act.put, List.setIfInBounds_toArray, List.set_cons_zero, List.set_cons_succ]
  refine wpAnyH_take (i := 8) (oi := ⟨some 40, _, _, _, _, _⟩) (v := ?_) rfl (by kernel_rfl) (by kernel_rfl) (by kernel_rfl) (fun _ _ _ h => h) (Or.inl ⟨by rfl, ?_⟩) hS2 ?_
  rotate_left 1
  · (intro w hSw; obtain ⟨hSw1, hSw2, hSw3⟩ := hSw; go_simp; try with_reducible rfl)
  simp only [Act.put, List.setIfInBounds_toArray, List.set_cons_zero, List.set_cons_succ]
  refine wpAnyH_take (i := 9) (oi := ⟨some 41, _, _, _, _, _⟩) (v := ?_) rfl (by kernel_rfl) (by kernel_rfl) (by kernel_rfl) (fun _ _ _ h => h) (Or.inl ⟨by rfl, ?_⟩) hS2 ?_
  rotate_left 1
  · (intro w hSw; obtain ⟨hSw1, hSw2, hSw3⟩ := hSw; go_simp; try with_reducible rfl)
  simp only [Act.put, List.setIfInBounds_toArray, List.set_cons_zero, List.set_cons_succ]
  refine wpAnyH_take (i := 10) (oi := ⟨some 42, _, _, _, _, _⟩) (v := ?_) rfl (by kernel_rfl) (by kernel_rfl) (by kernel_rfl) (fun _ _ _ h => h) (Or.inl ⟨by rfl, ?_⟩) hS2 ?_
  rotate_left 1
  · (intro w hSw; obtain ⟨hSw1, hSw2, hSw3⟩ := hSw; go_simp; try with_reducible rfl)
  simp only [Act.put, List.setIfInBounds_toArray, List.set_cons_zero, List.set_cons_succ]
  refine wpAnyH_take (i := 11) (oi := ⟨some 43, _, _, _, _, _⟩) (v := ?_) rfl (by kernel_rfl) (by kernel_rfl) (by kernel_rfl) (fun _ _ _ h => h) (Or.inl ⟨by rfl, ?_⟩) hS2 ?_
  rotate_left 1
  · (intro w hSw; obtain ⟨hSw1, hSw2, hSw3⟩ := hSw; go_simp; try with_reducible rfl)
  simp only [Act.put, List.setIfInBounds_toArray, List.set_cons_zero, List.set_cons_succ]
  refine wpAnyH_take (i := 12) (oi := ⟨some 44, _, _, _, _, _⟩) (v := ?_) rfl (by kernel_rfl) (by kernel_rfl) (by kernel_rfl) (fun _ _ _ h => h) (Or.inl ⟨by rfl, ?_⟩) hS2 ?_
  rotate_left 1
  · (intro w hSw; obtain ⟨hSw1, hSw2, hSw3⟩ := hSw; go_simp; try with_reducible rfl)
  simp only [Act.put, List.setIfInBounds_toArray, List.set_cons_zero, List.set_cons_succ]
  refine wpAnyH_ready (rs := [13]) (by kernel_rfl) (by simp) ?_
  refine AllReadyH.cons (o := ⟨some 45, _, _, _, _, _⟩) rfl (fun K hK => ?_) AllReadyH.nil
  go_simp
  refine HWR.out.mono ?_
  rintro r w5 ⟨rfl, hp5⟩
  rw [HSD.out] at hp5
  obtain ⟨G5, hj5, hg5, hk5⟩ := (HPP w5).out hp5
  obtain ⟨D5, J5, X5, Y5, h1, h2, h3, h4⟩ := hj5
  obtain ⟨A, c, B, e, rfl, rfl, c0, c1, c2, c3, c4, c5, c6, c7, fz⟩ := h2.cells
  rw [Hel4.out] at c6 c7
  have HX5 : Hid (Bx w5 w.heap.size (sq : Int) k b d m) := (hk5.block _ HX4.out.lt (fun hg => by have := HLT.out _ hg; omega)).trans HX4.out
  have hS3 : w5.cell? ⟨p, 0, none⟩ = some (.pointer (some ⟨q, 0, none⟩)) ∧ w5.cell? ⟨w.heap.size, 0, none⟩ = some (.int .i64 (sq : Int)) ∧ w5.cell? ⟨p, 1, none⟩ = some (.int .i64 (n : Int)) := ⟨c0, HX5.out.c0, c1⟩
  refine hK.out _ _ hS3 (fun hHeld => ?_)
  clear hK K
  clear hHeld
  refine wpAnyH_done (by kernel_rfl) ?_ _
  clear hS2
  clear hS3 hrmn hcci hz hz2 hz3
  have HNJ : Hid (¬ J5 w.heap.size) := fun hg => by
    rcases hg5 _ ((h4 _).2 (Or.inr hg)) with h5 | h5
    · have := HLT.out _ h5; omega
    · have := HX4.out.lt; exact absurd h5 (Nat.not_le_of_lt this)
  have H1 := hide h1
  have H2 := hide h2
  have H3 := hide h3
  have H4 := hide h4
  have HG5 := hide hg5
  have HK5 := hide hk5
  have hbW : Below w5.heap.size w5 (w5.drew.alloc (.cells #[.int .i64 (sq : Int), .int .i64 k, .int .i64 b, .string d, .int .i64 m] 42)) := (Below.refl w5.heap.size w5).drew.alloc (Nat.le_refl _) _
  have HBW := hide hbW
  have HO : Hid (ORow (w5.drew.alloc (.cells #[.int .i64 (sq : Int), .int .i64 k, .int .i64 b, .string d, .int .i64 m] 42)) 42 5 (.slice A el c) el (rcels E)) := by
    have := h2.rows
    rw [Hel4.out] at this
    exact this.same fun i hi => hbW.block i (this.lt i hi)
  rw [Hel4.out] at H2
  have HN : Hid (∀ j u, (rcel ⟨h.g, sq, k, b, d, m⟩)[j]? = some u → (w5.drew.alloc (.cells #[.int .i64 (sq : Int), .int .i64 k, .int .i64 b, .string d, .int .i64 m] 42)).cell? ((⟨w5.heap.size, 0, none⟩ : Addr).add j) = some u) := fun j u hu => by
    rw [Addr.add_mid, Nat.zero_add]
    show (w5.drew.alloc _).cell? ⟨w5.drew.heap.size, j, none⟩ = _
    rw [cell_of_row _ _ j _ _ _ (heap_alloc_new w5.drew _)]
    exact List.getElem?_toArray.trans hu
  have Hm1 := hide (show el + 1 ≤ maxLen by have := Hel.out; have := Hel4.out; unfold maxLen; omega)
  have Hm2 := hide (show (el + 1) * 48 ≤ 140737488355328 by have := Hel.out; have := Hel4.out; omega)
  have HK4 := hide (Kept.of_below (G := G) HB4.out.drew)
  have c6' : (w5.alloc (.cells #[.int .i64 (sq : Int), .int .i64 k, .int .i64 b, .string d, .int .i64 m] 42)).cell? ⟨p, 6, none⟩ = some (.slice A el c) := ((Below.refl w5.heap.size w5).alloc (Nat.le_refl _) _).cell (p := ⟨p, 6, none⟩) (h2.lt p h2.mine) |>.trans c6
  have hSa : w5.drew.cell? ⟨w.heap.size, 0, none⟩ = some (.int .i64 (sq : Int)) ∧ w5.drew.cell? ⟨w.heap.size, 1, none⟩ = some (.int .i64 k) ∧ w5.drew.cell? ⟨w.heap.size, 2, none⟩ = some (.int .i64 b) ∧ w5.drew.cell? ⟨w.heap.size, 3, none⟩ = some (.string d) ∧ w5.drew.cell? ⟨w.heap.size, 4, none⟩ = some (.int .i64 m) := ⟨HX5.out.c0, HX5.out.c1, HX5.out.c2, HX5.out.c3, HX5.out.c4⟩
  have hxb := HX5.out.below hbW
  have hSb : (w5.drew.alloc (.cells #[.int .i64 (sq : Int), .int .i64 k, .int .i64 b, .string d, .int .i64 m] 42)).cell? ⟨w.heap.size, 0, none⟩ = some (.int .i64 (sq : Int)) ∧ (w5.drew.alloc (.cells #[.int .i64 (sq : Int), .int .i64 k, .int .i64 b, .string d, .int .i64 m] 42)).cell? ⟨w.heap.size, 1, none⟩ = some (.int .i64 k) ∧ (w5.drew.alloc (.cells #[.int .i64 (sq : Int), .int .i64 k, .int .i64 b, .string d, .int .i64 m] 42)).cell? ⟨w.heap.size, 2, none⟩ = some (.int .i64 b) ∧ (w5.drew.alloc (.cells #[.int .i64 (sq : Int), .int .i64 k, .int .i64 b, .string d, .int .i64 m] 42)).cell? ⟨w.heap.size, 3, none⟩ = some (.string d) ∧ (w5.drew.alloc (.cells #[.int .i64 (sq : Int), .int .i64 k, .int .i64 b, .string d, .int .i64 m] 42)).cell? ⟨w.heap.size, 4, none⟩ = some (.int .i64 m) := ⟨hxb.c0, hxb.c1, hxb.c2, hxb.c3, hxb.c4⟩
  clear h1 h2 h3 h4 hg5 hk5 hp5 hbW c0 c1 c2 c3 c4 c5 c7 fz HPP HWR hxb
  go_wp2_with fail
  refine wp_region_held (S := (fun W => W.cell? ⟨w.heap.size, 0, none⟩ = some (.int .i64 (sq : Int)) ∧ W.cell? ⟨w.heap.size, 1, none⟩ = some (.int .i64 k) ∧ W.cell? ⟨w.heap.size, 2, none⟩ = some (.int .i64 b) ∧ W.cell? ⟨w.heap.size, 3, none⟩ = some (.string d) ∧ W.cell? ⟨w.heap.size, 4, none⟩ = some (.int .i64 m))) (by kernel_rfl) ?_
  change wpAnyH _ _ _ _ _ _ _ _ (World.drew _)
  refine wpAnyH_take (i := 0) (oi := ⟨some 46, _, _, _, _, _⟩) (v := ?_) rfl (by kernel_rfl) (by kernel_rfl) (by kernel_rfl) (fun _ _ _ h => h) (Or.inl ⟨by rfl, ?_⟩) hSa ?_
  rotate_left 1
  · (intro w hSw; obtain ⟨hSw1, hSw2, hSw3, hSw4, hSw5⟩ := hSw; go_simp; try with_reducible rfl)
  simp only [Act.put, List.setIfInBounds_toArray, List.set_cons_zero, List.set_cons_succ]
  refine wpAnyH_take (i := 1) (oi := ⟨some 47, _, _, _, _, _⟩) (v := ?_) rfl (by kernel_rfl) (by kernel_rfl) (by kernel_rfl) (fun _ _ _ h => h) (Or.inl ⟨by rfl, ?_⟩) hSa ?_
  rotate_left 1
  · (intro w hSw; obtain ⟨hSw1, hSw2, hSw3, hSw4, hSw5⟩ := hSw; go_simp; try with_reducible rfl)
  simp only [Act.put, List.setIfInBounds_toArray, List.set_cons_zero, List.set_cons_succ]
  refine wpAnyH_take (i := 2) (oi := ⟨some 48, _, _, _, _, _⟩) (v := ?_) rfl (by kernel_rfl) (by kernel_rfl) (by kernel_rfl) (fun _ _ _ h => h) (Or.inl ⟨by rfl, ?_⟩) hSa ?_
  rotate_left 1
  · (intro w hSw; obtain ⟨hSw1, hSw2, hSw3, hSw4, hSw5⟩ := hSw; go_simp; try with_reducible rfl)
  simp only [Act.put, List.setIfInBounds_toArray, List.set_cons_zero, List.set_cons_succ]
  refine wpAnyH_take (i := 3) (oi := ⟨some 49, _, _, _, _, _⟩) (v := ?_) rfl (by kernel_rfl) (by kernel_rfl) (by kernel_rfl) (fun _ _ _ h => h) (Or.inl ⟨by rfl, ?_⟩) hSa ?_
  rotate_left 1
  · (intro w hSw; obtain ⟨hSw1, hSw2, hSw3, hSw4, hSw5⟩ := hSw; go_simp; try with_reducible rfl)
  simp only [Act.put, List.setIfInBounds_toArray, List.set_cons_zero, List.set_cons_succ]
  refine wpAnyH_take (i := 5) (oi := ⟨some 51, _, _, _, _, _⟩) (v := ?_) rfl (by kernel_rfl) (by kernel_rfl) (by kernel_rfl) (fun _ _ _ h => h) (Or.inl ⟨by rfl, ?_⟩) hSa ?_
  rotate_left 1
  · (intro w hSw; obtain ⟨hSw1, hSw2, hSw3, hSw4, hSw5⟩ := hSw; go_simp; try with_reducible rfl)
  simp only [Act.put, List.setIfInBounds_toArray, List.set_cons_zero, List.set_cons_succ]
  refine wpAnyH_ready (rs := [4, 6]) (by kernel_rfl) (by simp) ?_
  refine AllReadyH.cons (o := ⟨some 50, _, _, _, _, _⟩) rfl (fun K hK => ?_) (AllReadyH.cons (o := ⟨some 52, _, _, _, _, _⟩) rfl (fun K hK => ?_) AllReadyH.nil)
  · go_simp
    refine hK.out _ _ (by first | exact hSa | exact hSb) (fun hHeld => ?_)
    clear hK K
    clear hHeld
    refine wpAnyH_ready (rs := [6]) (by kernel_rfl) (by simp) ?_
    refine AllReadyH.cons (o := ⟨some 52, _, _, _, _, _⟩) rfl (fun K hK => ?_) AllReadyH.nil
    go_simp
    refine hK.out _ _ hSb (fun hHeld => ?_)
    clear hK K
    clear hHeld
    refine wpAnyH_ready (rs := [7]) (by kernel_rfl) (by simp) ?_
    refine AllReadyH.cons (o := ⟨some 53, _, _, _, _, _⟩) rfl (fun K hK => ?_) AllReadyH.nil
    refine step_append_o _ rfl (.tmp 50) (.tmp 52) 55 rfl 42 i0 _ 5 48 Tryz.underlying55 hi0 hz0 Hz1.out Hz2.out rfl (.slice A el c) el (rcels E) rfl HO.out ⟨w5.heap.size, 0, none⟩ 1 1 (rcel ⟨h.g, sq, k, b, d, m⟩) rfl rfl HN.out (rcel_one _) (by decide) Hm1.out Hm2.out _ rfl ?_
    intro g2 o2 cap w6 hown6 hgr6 hor6 hlt6
    have hP := H2.out.appendedL (y := ⟨h.g, sq, k, b, d, m⟩) HBW.out hgr6 hown6 hor6 Hel4.out
    have HPA := hide hP.1
    have HPK := hide hP.2
    have hc6 : w6.cell? ⟨p, 6, none⟩ = some (.slice A el c) := by simp [World.cell?, H2.out.box6 HBW.out (Or.inl rfl) hgr6]
    have hf6 : w6.frozen? ⟨p, 6, none⟩ = false := by simp [World.frozen?, H2.out.box6 HBW.out (Or.inl rfl) hgr6]
    have hbx6 : Bx w6 w.heap.size (sq : Int) k b d m := (hgr6.block _ (Nat.lt_of_lt_of_le HX5.out.lt HBW.out.size) (fun e => HNJ.out ((H2.out.row _ e.symm).1))).trans ((HBW.out.block _ HX5.out.lt).trans HX5.out)
    have hbx7 : Bx (w6.setCell ⟨p, 6, none⟩ (.slice (some ⟨g2, o2, none⟩) (el + 1) cap)) w.heap.size (sq : Int) k b d m := (heap_setCell_other _ _ _ _ (fun e => HNJ.out (by have e2 : w.heap.size = p := e; rw [e2]; exact H2.out.mine))).trans hbx6
    have hSc : w6.cell? ⟨w.heap.size, 0, none⟩ = some (.int .i64 (sq : Int)) ∧ w6.cell? ⟨w.heap.size, 1, none⟩ = some (.int .i64 k) ∧ w6.cell? ⟨w.heap.size, 2, none⟩ = some (.int .i64 b) ∧ w6.cell? ⟨w.heap.size, 3, none⟩ = some (.string d) ∧ w6.cell? ⟨w.heap.size, 4, none⟩ = some (.int .i64 m) := ⟨hbx6.c0, hbx6.c1, hbx6.c2, hbx6.c3, hbx6.c4⟩
    have HX7 := hide hbx7
    clear hP hown6 hgr6 hor6 hlt6 hbx6 hbx7
    refine hK.out _ _ hSc (fun hHeld => ?_)
    clear hK K
    clear hHeld
    refine wpAnyH_take (i := 8) (oi := ⟨some 54, _, _, _, _, _⟩) (v := ?_) rfl (by kernel_rfl) (by kernel_rfl) (by kernel_rfl) (fun _ _ _ h => h) (Or.inl ⟨by rfl, ?_⟩) hSc ?_
    rotate_left 1
    · (intro w hSw; obtain ⟨hSw1, hSw2, hSw3, hSw4, hSw5⟩ := hSw; go_simp; try with_reducible rfl)
    simp only [Act.put, List.setIfInBounds_toArray, List.set_cons_zero, List.set_cons_succ]
    refine wpAnyH_take (i := 9) (oi := ⟨some 55, _, _, _, _, _⟩) (v := ?_) rfl (by kernel_rfl) (by kernel_rfl) (by kernel_rfl) (fun _ _ _ h => h) (Or.inl ⟨by rfl, ?_⟩) hSc ?_
    rotate_left 1
    · (intro w hSw; obtain ⟨hSw1, hSw2, hSw3, hSw4, hSw5⟩ := hSw; go_simp; try with_reducible rfl)
    simp only [Act.put, List.setIfInBounds_toArray, List.set_cons_zero, List.set_cons_succ]
    refine wpAnyH_ready (rs := [10]) (by kernel_rfl) (by simp) ?_
    refine AllReadyH.cons (o := ⟨none, _, _, _, _, _⟩) rfl (fun K hK => ?_) AllReadyH.nil
    go_simp
    generalize w6.setCell _ _ = w7 at *
    have hSd : w7.cell? ⟨w.heap.size, 0, none⟩ = some (.int .i64 (sq : Int)) ∧ w7.cell? ⟨w.heap.size, 1, none⟩ = some (.int .i64 k) ∧ w7.cell? ⟨w.heap.size, 2, none⟩ = some (.int .i64 b) ∧ w7.cell? ⟨w.heap.size, 3, none⟩ = some (.string d) ∧ w7.cell? ⟨w.heap.size, 4, none⟩ = some (.int .i64 m) := ⟨HX7.out.c0, HX7.out.c1, HX7.out.c2, HX7.out.c3, HX7.out.c4⟩
    refine hK.out _ _ hSd (fun hHeld => ?_)
    clear hK K
    clear hHeld
    refine wpAnyH_done (by kernel_rfl) ?_ _
    clear hSa hSb hSc hSd hc6 hf6 c6 c6'
    obtain ⟨A7, c7', B7, e8, e6, e7, k0, k1, k2, k3, k4, k5, k6, k7, fz⟩ := HPA.out.cells
    rw [Hel4.out] at k7 e7
    obtain ⟨rfl, rfl⟩ : B = B7 ∧ e = e8 := by simpa using e7
    clear e6 e7
    have hbV : Below w7.heap.size w7 (w7.drew.alloc (.cells #[.int .i64 (h.g : Int)] 3)) := (Below.refl w7.heap.size w7).drew.alloc (Nat.le_refl _) _
    have HBV := hide hbV
    have HO9 : Hid (ORow (w7.drew.alloc (.cells #[.int .i64 (h.g : Int)] 3)) 3 1 (.slice B el e) el (gcels E)) := by
      have := HPA.out.gens
      rw [Hel4.out] at this
      exact this.same fun i hi => hbV.block i (this.lt i hi)
    have HN9 : Hid (∀ j u, ([.int .i64 (h.g : Int)] : List Value)[j]? = some u → (w7.drew.alloc (.cells #[.int .i64 (h.g : Int)] 3)).cell? ((⟨w7.heap.size, 0, none⟩ : Addr).add j) = some u) := fun j u hu => by
      rw [Addr.add_mid, Nat.zero_add]
      show (w7.drew.alloc _).cell? ⟨w7.drew.heap.size, j, none⟩ = _
      rw [cell_of_row _ _ j _ _ _ (heap_alloc_new w7.drew _)]
      exact List.getElem?_toArray.trans hu
    have Hm3 := hide (show (el + 1) * 8 ≤ 140737488355328 by have := Hel.out; have := Hel4.out; omega)
    have k7' : (w7.alloc (.cells #[.int .i64 (h.g : Int)] 3)).cell? ⟨p, 7, none⟩ = some (.slice B el e) := ((Below.refl w7.heap.size w7).alloc (Nat.le_refl _) _).cell (p := ⟨p, 7, none⟩) (HPA.out.lt p HPA.out.mine) |>.trans k7
    have hSa : w7.drew.cell? ⟨p, 4, none⟩ = some (.int .i64 (h.g : Int)) ∧ w7.drew.cell? ⟨w.heap.size, 0, none⟩ = some (.int .i64 (sq : Int)) := ⟨k4, HX7.out.c0⟩
    have hxb := HX7.out.below hbV
    have hSb : (w7.drew.alloc (.cells #[.int .i64 (h.g : Int)] 3)).cell? ⟨p, 4, none⟩ = some (.int .i64 (h.g : Int)) ∧ (w7.drew.alloc (.cells #[.int .i64 (h.g : Int)] 3)).cell? ⟨w.heap.size, 0, none⟩ = some (.int .i64 (sq : Int)) := ⟨(hbV.cell (p := ⟨p, 4, none⟩) (HPA.out.lt p HPA.out.mine)).trans k4, hxb.c0⟩
    have HNJ7 : Hid (w.heap.size ≠ p) := fun e => HNJ.out (by rw [e]; exact H2.out.mine)
    have HX7l := hide HX7.out.lt
    have HNY : Hid (¬ (J5 w.heap.size ∨ w5.heap.size ≤ w.heap.size ∧ w.heap.size < w6.heap.size)) := fun hh => by
      rcases hh with h5 | h5
      · exact HNJ.out h5
      · have := HX5.out.lt; omega
    clear k0 k1 k2 k3 k4 k5 k6 fz hbV hxb
    go_wp2_with fail
    refine wp_region_held (S := (fun W => W.cell? ⟨p, 4, none⟩ = some (.int .i64 (h.g : Int)) ∧ W.cell? ⟨w.heap.size, 0, none⟩ = some (.int .i64 (sq : Int)))) (by kernel_rfl) ?_
    change wpAnyH _ _ _ _ _ _ _ _ (World.drew _)
    refine wpAnyH_take (i := 0) (oi := ⟨some 56, _, _, _, _, _⟩) (v := ?_) rfl (by kernel_rfl) (by kernel_rfl) (by kernel_rfl) (fun _ _ _ h => h) (Or.inl ⟨by rfl, ?_⟩) hSa ?_
    rotate_left 1
    · (intro w hSw; obtain ⟨hSw1, hSw2⟩ := hSw; go_simp; try with_reducible rfl)
    simp only [Act.put, List.setIfInBounds_toArray, List.set_cons_zero, List.set_cons_succ]
    refine wpAnyH_take (i := 1) (oi := ⟨some 57, _, _, _, _, _⟩) (v := ?_) rfl (by kernel_rfl) (by kernel_rfl) (by kernel_rfl) (fun _ _ _ h => h) (Or.inl ⟨by rfl, ?_⟩) hSa ?_
    rotate_left 1
    · (intro w hSw; obtain ⟨hSw1, hSw2⟩ := hSw; go_simp; try with_reducible rfl)
    simp only [Act.put, List.setIfInBounds_toArray, List.set_cons_zero, List.set_cons_succ]
    refine wpAnyH_take (i := 2) (oi := ⟨some 58, _, _, _, _, _⟩) (v := ?_) rfl (by kernel_rfl) (by kernel_rfl) (by kernel_rfl) (fun _ _ _ h => h) (Or.inl ⟨by rfl, ?_⟩) hSa ?_
    rotate_left 1
    · (intro w hSw; obtain ⟨hSw1, hSw2⟩ := hSw; go_simp; try with_reducible rfl)
    simp only [Act.put, List.setIfInBounds_toArray, List.set_cons_zero, List.set_cons_succ]
    refine wpAnyH_take (i := 3) (oi := ⟨some 59, _, _, _, _, _⟩) (v := ?_) rfl (by kernel_rfl) (by kernel_rfl) (by kernel_rfl) (fun _ _ _ h => h) (Or.inl ⟨by rfl, ?_⟩) hSa ?_
    rotate_left 1
    · (intro w hSw; obtain ⟨hSw1, hSw2⟩ := hSw; go_simp; try with_reducible rfl)
    simp only [Act.put, List.setIfInBounds_toArray, List.set_cons_zero, List.set_cons_succ]
    refine wpAnyH_take (i := 5) (oi := ⟨some 61, _, _, _, _, _⟩) (v := ?_) rfl (by kernel_rfl) (by kernel_rfl) (by kernel_rfl) (fun _ _ _ h => h) (Or.inl ⟨by rfl, ?_⟩) hSa ?_
    rotate_left 1
    · (intro w hSw; obtain ⟨hSw1, hSw2⟩ := hSw; go_simp; try with_reducible rfl)
    simp only [Act.put, List.setIfInBounds_toArray, List.set_cons_zero, List.set_cons_succ]
    refine wpAnyH_take (i := 6) (oi := ⟨some 62, _, _, _, _, _⟩) (v := ?_) rfl (by kernel_rfl) (by kernel_rfl) (by kernel_rfl) (fun _ _ _ h => h) (Or.inl ⟨by rfl, ?_⟩) hSa ?_
    rotate_left 1
    · (intro w hSw; obtain ⟨hSw1, hSw2⟩ := hSw; go_simp; try with_reducible rfl)
    simp only [Act.put, List.setIfInBounds_toArray, List.set_cons_zero, List.set_cons_succ]
    refine wpAnyH_take (i := 7) (oi := ⟨some 63, _, _, _, _, _⟩) (v := ?_) rfl (by kernel_rfl) (by kernel_rfl) (by kernel_rfl) (fun _ _ _ h => h) (Or.inl ⟨by rfl, ?_⟩) hSa ?_
    rotate_left 1
    · (intro w hSw; obtain ⟨hSw1, hSw2⟩ := hSw; go_simp; try with_reducible rfl)
    simp only [Act.put, List.setIfInBounds_toArray, List.set_cons_zero, List.set_cons_succ]
    refine wpAnyH_take (i := 8) (oi := ⟨some 64, _, _, _, _, _⟩) (v := ?_) rfl (by kernel_rfl) (by kernel_rfl) (by kernel_rfl) (fun _ _ _ h => h) (Or.inl ⟨by rfl, ?_⟩) hSa ?_
    rotate_left 1
    · (intro w hSw; obtain ⟨hSw1, hSw2⟩ := hSw; go_simp; try with_reducible rfl)
    simp only [Act.put, List.setIfInBounds_toArray, List.set_cons_zero, List.set_cons_succ]
    refine wpAnyH_ready (rs := [4, 9]) (by kernel_rfl) (by simp) ?_
    refine AllReadyH.cons (o := ⟨some 60, _, _, _, _, _⟩) rfl (fun K hK => ?_) (AllReadyH.cons (o := ⟨some 65, _, _, _, _, _⟩) rfl (fun K hK => ?_) AllReadyH.nil)
    · go_simp
      refine hK.out _ _ (by first | exact hSa | exact hSb) (fun hHeld => ?_)
      clear hK K
      clear hHeld
      refine wpAnyH_ready (rs := [9]) (by kernel_rfl) (by simp) ?_
      refine AllReadyH.cons (o := ⟨some 65, _, _, _, _, _⟩) rfl (fun K hK => ?_) AllReadyH.nil
      go_simp
      refine hK.out _ _ hSb (fun hHeld => ?_)
      clear hK K
      clear hHeld
      refine wpAnyH_ready (rs := [10]) (by kernel_rfl) (by simp) ?_
      refine AllReadyH.cons (o := ⟨some 66, _, _, _, _, _⟩) rfl (fun K hK => ?_) AllReadyH.nil
      refine step_append_o _ rfl (.tmp 60) (.tmp 65) 57 rfl 3 j0 _ 1 8 Tryz.underlying57 hj0 hy0 Hy1.out Hy2.out rfl (.slice B el e) el (gcels E) rfl HO9.out ⟨w7.heap.size, 0, none⟩ 1 1 [.int .i64 (h.g : Int)] rfl rfl HN9.out (fun u hu => by simp at hu; subst hu; rfl) (by decide) Hm1.out Hm3.out _ rfl ?_
      intro g3 o3 cap3 w8 hown8 hgr8 hor8 hlt8
      have hP := HPA.out.appendedG (y := ⟨h.g, sq, k, b, d, m⟩) HBV.out hgr8 hown8 hor8 Hel4.out
      have HQA := hide hP.1
      have HQK := hide hP.2
      have hc7 : w8.cell? ⟨p, 7, none⟩ = some (.slice B el e) := by simp [World.cell?, HPA.out.box6 HBV.out (Or.inr rfl) hgr8]
      have hf7 : w8.frozen? ⟨p, 7, none⟩ = false := by simp [World.frozen?, HPA.out.box6 HBV.out (Or.inr rfl) hgr8]
      have hc4 : w8.cell? ⟨p, 4, none⟩ = some (.int .i64 (h.g : Int)) := by simp [World.cell?, HPA.out.box6 HBV.out (Or.inr rfl) hgr8]
      have hbx8 : Bx w8 w.heap.size (sq : Int) k b d m := (hgr8.block _ (Nat.lt_of_lt_of_le HX7l.out HBV.out.size) (fun e => HNY.out ((HPA.out.gen _ e.symm).1))).trans ((HBV.out.block _ HX7l.out).trans HX7.out)
      have hbx9 : Bx (w8.setCell ⟨p, 7, none⟩ (.slice (some ⟨g3, o3, none⟩) (el + 1) cap3)) w.heap.size (sq : Int) k b d m := (heap_setCell_other _ _ _ _ HNJ7.out).trans hbx8
      have hSc : w8.cell? ⟨p, 4, none⟩ = some (.int .i64 (h.g : Int)) ∧ w8.cell? ⟨w.heap.size, 0, none⟩ = some (.int .i64 (sq : Int)) := ⟨hc4, hbx8.c0⟩
      have HX9 := hide hbx9
      clear hP hown8 hgr8 hor8 hlt8 hbx8 hbx9
      refine hK.out _ _ hSc (fun hHeld => ?_)
      clear hK K
      clear hHeld
      refine wpAnyH_take (i := 11) (oi := ⟨some 67, _, _, _, _, _⟩) (v := ?_) rfl (by kernel_rfl) (by kernel_rfl) (by kernel_rfl) (fun _ _ _ h => h) (Or.inl ⟨by rfl, ?_⟩) hSc ?_
      rotate_left 1
      · (intro w hSw; obtain ⟨hSw1, hSw2⟩ := hSw; go_simp; try with_reducible rfl)
      simp only [Act.put, List.setIfInBounds_toArray, List.set_cons_zero, List.set_cons_succ]
      refine wpAnyH_take (i := 12) (oi := ⟨some 68, _, _, _, _, _⟩) (v := ?_) rfl (by kernel_rfl) (by kernel_rfl) (by kernel_rfl) (fun _ _ _ h => h) (Or.inl ⟨by rfl, ?_⟩) hSc ?_
      rotate_left 1
      · (intro w hSw; obtain ⟨hSw1, hSw2⟩ := hSw; go_simp; try with_reducible rfl)
      simp only [Act.put, List.setIfInBounds_toArray, List.set_cons_zero, List.set_cons_succ]
      refine wpAnyH_ready (rs := [13]) (by kernel_rfl) (by simp) ?_
      refine AllReadyH.cons (o := ⟨none, _, _, _, _, _⟩) rfl (fun K hK => ?_) AllReadyH.nil
      go_simp
      generalize w8.setCell _ _ = w9 at *
      have hSd : w9.cell? ⟨p, 4, none⟩ = some (.int .i64 (h.g : Int)) ∧ w9.cell? ⟨w.heap.size, 0, none⟩ = some (.int .i64 (sq : Int)) := ⟨HQA.out.heads.2.2.2.1, HX9.out.c0⟩
      refine hK.out _ _ hSd (fun hHeld => ?_)
      clear hK K
      clear hHeld
      refine wpAnyH_done (by kernel_rfl) ?_ _
      have hg0 := hSd.2
      clear hSa hSb hSc hSd hc7 hf7 hc4
      go_wp2
      go_ret2
      have e1 := Hsq.out
      have e2 := HCC.out
      subst e2
      subst e1
      refine ⟨rfl, ?_⟩
      refine RjPost.of (Grew.refl _ _) HK4.out (RjPost.of HG5.out HK5.out (Rj.mine H1.out H3.out H4.out ?_ ?_ HQA.out))
      · intro i hi
        rcases hi with hi | hi
        · rcases hi with hi | hi
          · exact Or.inl hi
          · exact Or.inr hi.1
        · exact Or.inr (Nat.le_trans HPK.out.size hi.1)
      · refine HPK.out.trans (fun i hi => ?_) HQK.out
        rcases hi with hi | hi
        · exact Or.inl hi
        · exact Or.inr hi.1
    · go_simp
      refine hK.out _ _ hSb (fun hHeld => ?_)
      clear hK K
      clear hHeld
      refine wpAnyH_ready (rs := [4]) (by kernel_rfl) (by simp) ?_
      refine AllReadyH.cons (o := ⟨some 60, _, _, _, _, _⟩) rfl (fun K hK => ?_) AllReadyH.nil
      go_simp
      refine hK.out _ _ (by first | exact hSa | exact hSb) (fun hHeld => ?_)
      clear hK K
      clear hHeld
      refine wpAnyH_ready (rs := [10]) (by kernel_rfl) (by simp) ?_
      refine AllReadyH.cons (o := ⟨some 66, _, _, _, _, _⟩) rfl (fun K hK => ?_) AllReadyH.nil
      refine step_append_o _ rfl (.tmp 60) (.tmp 65) 57 rfl 3 j0 _ 1 8 Tryz.underlying57 hj0 hy0 Hy1.out Hy2.out rfl (.slice B el e) el (gcels E) rfl HO9.out ⟨w7.heap.size, 0, none⟩ 1 1 [.int .i64 (h.g : Int)] rfl rfl HN9.out (fun u hu => by simp at hu; subst hu; rfl) (by decide) Hm1.out Hm3.out _ rfl ?_
      intro g3 o3 cap3 w8 hown8 hgr8 hor8 hlt8
      have hP := HPA.out.appendedG (y := ⟨h.g, sq, k, b, d, m⟩) HBV.out hgr8 hown8 hor8 Hel4.out
      have HQA := hide hP.1
      have HQK := hide hP.2
      have hc7 : w8.cell? ⟨p, 7, none⟩ = some (.slice B el e) := by simp [World.cell?, HPA.out.box6 HBV.out (Or.inr rfl) hgr8]
      have hf7 : w8.frozen? ⟨p, 7, none⟩ = false := by simp [World.frozen?, HPA.out.box6 HBV.out (Or.inr rfl) hgr8]
      have hc4 : w8.cell? ⟨p, 4, none⟩ = some (.int .i64 (h.g : Int)) := by simp [World.cell?, HPA.out.box6 HBV.out (Or.inr rfl) hgr8]
      have hbx8 : Bx w8 w.heap.size (sq : Int) k b d m := (hgr8.block _ (Nat.lt_of_lt_of_le HX7l.out HBV.out.size) (fun e => HNY.out ((HPA.out.gen _ e.symm).1))).trans ((HBV.out.block _ HX7l.out).trans HX7.out)
      have hbx9 : Bx (w8.setCell ⟨p, 7, none⟩ (.slice (some ⟨g3, o3, none⟩) (el + 1) cap3)) w.heap.size (sq : Int) k b d m := (heap_setCell_other _ _ _ _ HNJ7.out).trans hbx8
      have hSc : w8.cell? ⟨p, 4, none⟩ = some (.int .i64 (h.g : Int)) ∧ w8.cell? ⟨w.heap.size, 0, none⟩ = some (.int .i64 (sq : Int)) := ⟨hc4, hbx8.c0⟩
      have HX9 := hide hbx9
      clear hP hown8 hgr8 hor8 hlt8 hbx8 hbx9
      refine hK.out _ _ hSc (fun hHeld => ?_)
      clear hK K
      clear hHeld
      refine wpAnyH_take (i := 11) (oi := ⟨some 67, _, _, _, _, _⟩) (v := ?_) rfl (by kernel_rfl) (by kernel_rfl) (by kernel_rfl) (fun _ _ _ h => h) (Or.inl ⟨by rfl, ?_⟩) hSc ?_
      rotate_left 1
      · (intro w hSw; obtain ⟨hSw1, hSw2⟩ := hSw; go_simp; try with_reducible rfl)
      simp only [Act.put, List.setIfInBounds_toArray, List.set_cons_zero, List.set_cons_succ]
      refine wpAnyH_take (i := 12) (oi := ⟨some 68, _, _, _, _, _⟩) (v := ?_) rfl (by kernel_rfl) (by kernel_rfl) (by kernel_rfl) (fun _ _ _ h => h) (Or.inl ⟨by rfl, ?_⟩) hSc ?_
      rotate_left 1
      · (intro w hSw; obtain ⟨hSw1, hSw2⟩ := hSw; go_simp; try with_reducible rfl)
      simp only [Act.put, List.setIfInBounds_toArray, List.set_cons_zero, List.set_cons_succ]
      refine wpAnyH_ready (rs := [13]) (by kernel_rfl) (by simp) ?_
      refine AllReadyH.cons (o := ⟨none, _, _, _, _, _⟩) rfl (fun K hK => ?_) AllReadyH.nil
      go_simp
      generalize w8.setCell _ _ = w9 at *
      have hSd : w9.cell? ⟨p, 4, none⟩ = some (.int .i64 (h.g : Int)) ∧ w9.cell? ⟨w.heap.size, 0, none⟩ = some (.int .i64 (sq : Int)) := ⟨HQA.out.heads.2.2.2.1, HX9.out.c0⟩
      refine hK.out _ _ hSd (fun hHeld => ?_)
      clear hK K
      clear hHeld
      refine wpAnyH_done (by kernel_rfl) ?_ _
      have hg0 := hSd.2
      clear hSa hSb hSc hSd hc7 hf7 hc4
      go_wp2
      go_ret2
      have e1 := Hsq.out
      have e2 := HCC.out
      subst e2
      subst e1
      refine ⟨rfl, ?_⟩
      refine RjPost.of (Grew.refl _ _) HK4.out (RjPost.of HG5.out HK5.out (Rj.mine H1.out H3.out H4.out ?_ ?_ HQA.out))
      · intro i hi
        rcases hi with hi | hi
        · rcases hi with hi | hi
          · exact Or.inl hi
          · exact Or.inr hi.1
        · exact Or.inr (Nat.le_trans HPK.out.size hi.1)
      · refine HPK.out.trans (fun i hi => ?_) HQK.out
        rcases hi with hi | hi
        · exact Or.inl hi
        · exact Or.inr hi.1
  · go_simp
    refine hK.out _ _ hSb (fun hHeld => ?_)
    clear hK K
    clear hHeld
    refine wpAnyH_ready (rs := [4]) (by kernel_rfl) (by simp) ?_
    refine AllReadyH.cons (o := ⟨some 50, _, _, _, _, _⟩) rfl (fun K hK => ?_) AllReadyH.nil
    go_simp
    refine hK.out _ _ (by first | exact hSa | exact hSb) (fun hHeld => ?_)
    clear hK K
    clear hHeld
    refine wpAnyH_ready (rs := [7]) (by kernel_rfl) (by simp) ?_
    refine AllReadyH.cons (o := ⟨some 53, _, _, _, _, _⟩) rfl (fun K hK => ?_) AllReadyH.nil
    refine step_append_o _ rfl (.tmp 50) (.tmp 52) 55 rfl 42 i0 _ 5 48 Tryz.underlying55 hi0 hz0 Hz1.out Hz2.out rfl (.slice A el c) el (rcels E) rfl HO.out ⟨w5.heap.size, 0, none⟩ 1 1 (rcel ⟨h.g, sq, k, b, d, m⟩) rfl rfl HN.out (rcel_one _) (by decide) Hm1.out Hm2.out _ rfl ?_
    intro g2 o2 cap w6 hown6 hgr6 hor6 hlt6
    have hP := H2.out.appendedL (y := ⟨h.g, sq, k, b, d, m⟩) HBW.out hgr6 hown6 hor6 Hel4.out
    have HPA := hide hP.1
    have HPK := hide hP.2
    have hc6 : w6.cell? ⟨p, 6, none⟩ = some (.slice A el c) := by simp [World.cell?, H2.out.box6 HBW.out (Or.inl rfl) hgr6]
    have hf6 : w6.frozen? ⟨p, 6, none⟩ = false := by simp [World.frozen?, H2.out.box6 HBW.out (Or.inl rfl) hgr6]
    have hbx6 : Bx w6 w.heap.size (sq : Int) k b d m := (hgr6.block _ (Nat.lt_of_lt_of_le HX5.out.lt HBW.out.size) (fun e => HNJ.out ((H2.out.row _ e.symm).1))).trans ((HBW.out.block _ HX5.out.lt).trans HX5.out)
    have hbx7 : Bx (w6.setCell ⟨p, 6, none⟩ (.slice (some ⟨g2, o2, none⟩) (el + 1) cap)) w.heap.size (sq : Int) k b d m := (heap_setCell_other _ _ _ _ (fun e => HNJ.out (by have e2 : w.heap.size = p := e; rw [e2]; exact H2.out.mine))).trans hbx6
    have hSc : w6.cell? ⟨w.heap.size, 0, none⟩ = some (.int .i64 (sq : Int)) ∧ w6.cell? ⟨w.heap.size, 1, none⟩ = some (.int .i64 k) ∧ w6.cell? ⟨w.heap.size, 2, none⟩ = some (.int .i64 b) ∧ w6.cell? ⟨w.heap.size, 3, none⟩ = some (.string d) ∧ w6.cell? ⟨w.heap.size, 4, none⟩ = some (.int .i64 m) := ⟨hbx6.c0, hbx6.c1, hbx6.c2, hbx6.c3, hbx6.c4⟩
    have HX7 := hide hbx7
    clear hP hown6 hgr6 hor6 hlt6 hbx6 hbx7
    refine hK.out _ _ hSc (fun hHeld => ?_)
    clear hK K
    clear hHeld
    refine wpAnyH_take (i := 8) (oi := ⟨some 54, _, _, _, _, _⟩) (v := ?_) rfl (by kernel_rfl) (by kernel_rfl) (by kernel_rfl) (fun _ _ _ h => h) (Or.inl ⟨by rfl, ?_⟩) hSc ?_
    rotate_left 1
    · (intro w hSw; obtain ⟨hSw1, hSw2, hSw3, hSw4, hSw5⟩ := hSw; go_simp; try with_reducible rfl)
    simp only [Act.put, List.setIfInBounds_toArray, List.set_cons_zero, List.set_cons_succ]
    refine wpAnyH_take (i := 9) (oi := ⟨some 55, _, _, _, _, _⟩) (v := ?_) rfl (by kernel_rfl) (by kernel_rfl) (by kernel_rfl) (fun _ _ _ h => h) (Or.inl ⟨by rfl, ?_⟩) hSc ?_
    rotate_left 1
    · (intro w hSw; obtain ⟨hSw1, hSw2, hSw3, hSw4, hSw5⟩ := hSw; go_simp; try with_reducible rfl)
    simp only [Act.put, List.setIfInBounds_toArray, List.set_cons_zero, List.set_cons_succ]
    refine wpAnyH_ready (rs := [10]) (by kernel_rfl) (by simp) ?_
    refine AllReadyH.cons (o := ⟨none, _, _, _, _, _⟩) rfl (fun K hK => ?_) AllReadyH.nil
    go_simp
    generalize w6.setCell _ _ = w7 at *
    have hSd : w7.cell? ⟨w.heap.size, 0, none⟩ = some (.int .i64 (sq : Int)) ∧ w7.cell? ⟨w.heap.size, 1, none⟩ = some (.int .i64 k) ∧ w7.cell? ⟨w.heap.size, 2, none⟩ = some (.int .i64 b) ∧ w7.cell? ⟨w.heap.size, 3, none⟩ = some (.string d) ∧ w7.cell? ⟨w.heap.size, 4, none⟩ = some (.int .i64 m) := ⟨HX7.out.c0, HX7.out.c1, HX7.out.c2, HX7.out.c3, HX7.out.c4⟩
    refine hK.out _ _ hSd (fun hHeld => ?_)
    clear hK K
    clear hHeld
    refine wpAnyH_done (by kernel_rfl) ?_ _
    clear hSa hSb hSc hSd hc6 hf6 c6 c6'
    obtain ⟨A7, c7', B7, e8, e6, e7, k0, k1, k2, k3, k4, k5, k6, k7, fz⟩ := HPA.out.cells
    rw [Hel4.out] at k7 e7
    obtain ⟨rfl, rfl⟩ : B = B7 ∧ e = e8 := by simpa using e7
    clear e6 e7
    have hbV : Below w7.heap.size w7 (w7.drew.alloc (.cells #[.int .i64 (h.g : Int)] 3)) := (Below.refl w7.heap.size w7).drew.alloc (Nat.le_refl _) _
    have HBV := hide hbV
    have HO9 : Hid (ORow (w7.drew.alloc (.cells #[.int .i64 (h.g : Int)] 3)) 3 1 (.slice B el e) el (gcels E)) := by
      have := HPA.out.gens
      rw [Hel4.out] at this
      exact this.same fun i hi => hbV.block i (this.lt i hi)
    have HN9 : Hid (∀ j u, ([.int .i64 (h.g : Int)] : List Value)[j]? = some u → (w7.drew.alloc (.cells #[.int .i64 (h.g : Int)] 3)).cell? ((⟨w7.heap.size, 0, none⟩ : Addr).add j) = some u) := fun j u hu => by
      rw [Addr.add_mid, Nat.zero_add]
      show (w7.drew.alloc _).cell? ⟨w7.drew.heap.size, j, none⟩ = _
      rw [cell_of_row _ _ j _ _ _ (heap_alloc_new w7.drew _)]
      exact List.getElem?_toArray.trans hu
    have Hm3 := hide (show (el + 1) * 8 ≤ 140737488355328 by have := Hel.out; have := Hel4.out; omega)
    have k7' : (w7.alloc (.cells #[.int .i64 (h.g : Int)] 3)).cell? ⟨p, 7, none⟩ = some (.slice B el e) := ((Below.refl w7.heap.size w7).alloc (Nat.le_refl _) _).cell (p := ⟨p, 7, none⟩) (HPA.out.lt p HPA.out.mine) |>.trans k7
    have hSa : w7.drew.cell? ⟨p, 4, none⟩ = some (.int .i64 (h.g : Int)) ∧ w7.drew.cell? ⟨w.heap.size, 0, none⟩ = some (.int .i64 (sq : Int)) := ⟨k4, HX7.out.c0⟩
    have hxb := HX7.out.below hbV
    have hSb : (w7.drew.alloc (.cells #[.int .i64 (h.g : Int)] 3)).cell? ⟨p, 4, none⟩ = some (.int .i64 (h.g : Int)) ∧ (w7.drew.alloc (.cells #[.int .i64 (h.g : Int)] 3)).cell? ⟨w.heap.size, 0, none⟩ = some (.int .i64 (sq : Int)) := ⟨(hbV.cell (p := ⟨p, 4, none⟩) (HPA.out.lt p HPA.out.mine)).trans k4, hxb.c0⟩
    have HNJ7 : Hid (w.heap.size ≠ p) := fun e => HNJ.out (by rw [e]; exact H2.out.mine)
    have HX7l := hide HX7.out.lt
    have HNY : Hid (¬ (J5 w.heap.size ∨ w5.heap.size ≤ w.heap.size ∧ w.heap.size < w6.heap.size)) := fun hh => by
      rcases hh with h5 | h5
      · exact HNJ.out h5
      · have := HX5.out.lt; omega
    clear k0 k1 k2 k3 k4 k5 k6 fz hbV hxb
    go_wp2_with fail
    refine wp_region_held (S := (fun W => W.cell? ⟨p, 4, none⟩ = some (.int .i64 (h.g : Int)) ∧ W.cell? ⟨w.heap.size, 0, none⟩ = some (.int .i64 (sq : Int)))) (by kernel_rfl) ?_
    change wpAnyH _ _ _ _ _ _ _ _ (World.drew _)
    refine wpAnyH_take (i := 0) (oi := ⟨some 56, _, _, _, _, _⟩) (v := ?_) rfl (by kernel_rfl) (by kernel_rfl) (by kernel_rfl) (fun _ _ _ h => h) (Or.inl ⟨by rfl, ?_⟩) hSa ?_
    rotate_left 1
    · (intro w hSw; obtain ⟨hSw1, hSw2⟩ := hSw; go_simp; try with_reducible rfl)
    simp only [Act.put, List.setIfInBounds_toArray, List.set_cons_zero, List.set_cons_succ]
    refine wpAnyH_take (i := 1) (oi := ⟨some 57, _, _, _, _, _⟩) (v := ?_) rfl (by kernel_rfl) (by kernel_rfl) (by kernel_rfl) (fun _ _ _ h => h) (Or.inl ⟨by rfl, ?_⟩) hSa ?_
    rotate_left 1
    · (intro w hSw; obtain ⟨hSw1, hSw2⟩ := hSw; go_simp; try with_reducible rfl)
    simp only [Act.put, List.setIfInBounds_toArray, List.set_cons_zero, List.set_cons_succ]
    refine wpAnyH_take (i := 2) (oi := ⟨some 58, _, _, _, _, _⟩) (v := ?_) rfl (by kernel_rfl) (by kernel_rfl) (by kernel_rfl) (fun _ _ _ h => h) (Or.inl ⟨by rfl, ?_⟩) hSa ?_
    rotate_left 1
    · (intro w hSw; obtain ⟨hSw1, hSw2⟩ := hSw; go_simp; try with_reducible rfl)
    simp only [Act.put, List.setIfInBounds_toArray, List.set_cons_zero, List.set_cons_succ]
    refine wpAnyH_take (i := 3) (oi := ⟨some 59, _, _, _, _, _⟩) (v := ?_) rfl (by kernel_rfl) (by kernel_rfl) (by kernel_rfl) (fun _ _ _ h => h) (Or.inl ⟨by rfl, ?_⟩) hSa ?_
    rotate_left 1
    · (intro w hSw; obtain ⟨hSw1, hSw2⟩ := hSw; go_simp; try with_reducible rfl)
    simp only [Act.put, List.setIfInBounds_toArray, List.set_cons_zero, List.set_cons_succ]
    refine wpAnyH_take (i := 5) (oi := ⟨some 61, _, _, _, _, _⟩) (v := ?_) rfl (by kernel_rfl) (by kernel_rfl) (by kernel_rfl) (fun _ _ _ h => h) (Or.inl ⟨by rfl, ?_⟩) hSa ?_
    rotate_left 1
    · (intro w hSw; obtain ⟨hSw1, hSw2⟩ := hSw; go_simp; try with_reducible rfl)
    simp only [Act.put, List.setIfInBounds_toArray, List.set_cons_zero, List.set_cons_succ]
    refine wpAnyH_take (i := 6) (oi := ⟨some 62, _, _, _, _, _⟩) (v := ?_) rfl (by kernel_rfl) (by kernel_rfl) (by kernel_rfl) (fun _ _ _ h => h) (Or.inl ⟨by rfl, ?_⟩) hSa ?_
    rotate_left 1
    · (intro w hSw; obtain ⟨hSw1, hSw2⟩ := hSw; go_simp; try with_reducible rfl)
    simp only [Act.put, List.setIfInBounds_toArray, List.set_cons_zero, List.set_cons_succ]
    refine wpAnyH_take (i := 7) (oi := ⟨some 63, _, _, _, _, _⟩) (v := ?_) rfl (by kernel_rfl) (by kernel_rfl) (by kernel_rfl) (fun _ _ _ h => h) (Or.inl ⟨by rfl, ?_⟩) hSa ?_
    rotate_left 1
    · (intro w hSw; obtain ⟨hSw1, hSw2⟩ := hSw; go_simp; try with_reducible rfl)
    simp only [Act.put, List.setIfInBounds_toArray, List.set_cons_zero, List.set_cons_succ]
    refine wpAnyH_take (i := 8) (oi := ⟨some 64, _, _, _, _, _⟩) (v := ?_) rfl (by kernel_rfl) (by kernel_rfl) (by kernel_rfl) (fun _ _ _ h => h) (Or.inl ⟨by rfl, ?_⟩) hSa ?_
    rotate_left 1
    · (intro w hSw; obtain ⟨hSw1, hSw2⟩ := hSw; go_simp; try with_reducible rfl)
    simp only [Act.put, List.setIfInBounds_toArray, List.set_cons_zero, List.set_cons_succ]
    refine wpAnyH_ready (rs := [4, 9]) (by kernel_rfl) (by simp) ?_
    refine AllReadyH.cons (o := ⟨some 60, _, _, _, _, _⟩) rfl (fun K hK => ?_) (AllReadyH.cons (o := ⟨some 65, _, _, _, _, _⟩) rfl (fun K hK => ?_) AllReadyH.nil)
    · go_simp
      refine hK.out _ _ (by first | exact hSa | exact hSb) (fun hHeld => ?_)
      clear hK K
      clear hHeld
      refine wpAnyH_ready (rs := [9]) (by kernel_rfl) (by simp) ?_
      refine AllReadyH.cons (o := ⟨some 65, _, _, _, _, _⟩) rfl (fun K hK => ?_) AllReadyH.nil
      go_simp
      refine hK.out _ _ hSb (fun hHeld => ?_)
      clear hK K
      clear hHeld
      refine wpAnyH_ready (rs := [10]) (by kernel_rfl) (by simp) ?_
      refine AllReadyH.cons (o := ⟨some 66, _, _, _, _, _⟩) rfl (fun K hK => ?_) AllReadyH.nil
      refine step_append_o _ rfl (.tmp 60) (.tmp 65) 57 rfl 3 j0 _ 1 8 Tryz.underlying57 hj0 hy0 Hy1.out Hy2.out rfl (.slice B el e) el (gcels E) rfl HO9.out ⟨w7.heap.size, 0, none⟩ 1 1 [.int .i64 (h.g : Int)] rfl rfl HN9.out (fun u hu => by simp at hu; subst hu; rfl) (by decide) Hm1.out Hm3.out _ rfl ?_
      intro g3 o3 cap3 w8 hown8 hgr8 hor8 hlt8
      have hP := HPA.out.appendedG (y := ⟨h.g, sq, k, b, d, m⟩) HBV.out hgr8 hown8 hor8 Hel4.out
      have HQA := hide hP.1
      have HQK := hide hP.2
      have hc7 : w8.cell? ⟨p, 7, none⟩ = some (.slice B el e) := by simp [World.cell?, HPA.out.box6 HBV.out (Or.inr rfl) hgr8]
      have hf7 : w8.frozen? ⟨p, 7, none⟩ = false := by simp [World.frozen?, HPA.out.box6 HBV.out (Or.inr rfl) hgr8]
      have hc4 : w8.cell? ⟨p, 4, none⟩ = some (.int .i64 (h.g : Int)) := by simp [World.cell?, HPA.out.box6 HBV.out (Or.inr rfl) hgr8]
      have hbx8 : Bx w8 w.heap.size (sq : Int) k b d m := (hgr8.block _ (Nat.lt_of_lt_of_le HX7l.out HBV.out.size) (fun e => HNY.out ((HPA.out.gen _ e.symm).1))).trans ((HBV.out.block _ HX7l.out).trans HX7.out)
      have hbx9 : Bx (w8.setCell ⟨p, 7, none⟩ (.slice (some ⟨g3, o3, none⟩) (el + 1) cap3)) w.heap.size (sq : Int) k b d m := (heap_setCell_other _ _ _ _ HNJ7.out).trans hbx8
      have hSc : w8.cell? ⟨p, 4, none⟩ = some (.int .i64 (h.g : Int)) ∧ w8.cell? ⟨w.heap.size, 0, none⟩ = some (.int .i64 (sq : Int)) := ⟨hc4, hbx8.c0⟩
      have HX9 := hide hbx9
      clear hP hown8 hgr8 hor8 hlt8 hbx8 hbx9
      refine hK.out _ _ hSc (fun hHeld => ?_)
      clear hK K
      clear hHeld
      refine wpAnyH_take (i := 11) (oi := ⟨some 67, _, _, _, _, _⟩) (v := ?_) rfl (by kernel_rfl) (by kernel_rfl) (by kernel_rfl) (fun _ _ _ h => h) (Or.inl ⟨by rfl, ?_⟩) hSc ?_
      rotate_left 1
      · (intro w hSw; obtain ⟨hSw1, hSw2⟩ := hSw; go_simp; try with_reducible rfl)
      simp only [Act.put, List.setIfInBounds_toArray, List.set_cons_zero, List.set_cons_succ]
      refine wpAnyH_take (i := 12) (oi := ⟨some 68, _, _, _, _, _⟩) (v := ?_) rfl (by kernel_rfl) (by kernel_rfl) (by kernel_rfl) (fun _ _ _ h => h) (Or.inl ⟨by rfl, ?_⟩) hSc ?_
      rotate_left 1
      · (intro w hSw; obtain ⟨hSw1, hSw2⟩ := hSw; go_simp; try with_reducible rfl)
      simp only [Act.put, List.setIfInBounds_toArray, List.set_cons_zero, List.set_cons_succ]
      refine wpAnyH_ready (rs := [13]) (by kernel_rfl) (by simp) ?_
      refine AllReadyH.cons (o := ⟨none, _, _, _, _, _⟩) rfl (fun K hK => ?_) AllReadyH.nil
      go_simp
      generalize w8.setCell _ _ = w9 at *
      have hSd : w9.cell? ⟨p, 4, none⟩ = some (.int .i64 (h.g : Int)) ∧ w9.cell? ⟨w.heap.size, 0, none⟩ = some (.int .i64 (sq : Int)) := ⟨HQA.out.heads.2.2.2.1, HX9.out.c0⟩
      refine hK.out _ _ hSd (fun hHeld => ?_)
      clear hK K
      clear hHeld
      refine wpAnyH_done (by kernel_rfl) ?_ _
      have hg0 := hSd.2
      clear hSa hSb hSc hSd hc7 hf7 hc4
      go_wp2
      go_ret2
      have e1 := Hsq.out
      have e2 := HCC.out
      subst e2
      subst e1
      refine ⟨rfl, ?_⟩
      refine RjPost.of (Grew.refl _ _) HK4.out (RjPost.of HG5.out HK5.out (Rj.mine H1.out H3.out H4.out ?_ ?_ HQA.out))
      · intro i hi
        rcases hi with hi | hi
        · rcases hi with hi | hi
          · exact Or.inl hi
          · exact Or.inr hi.1
        · exact Or.inr (Nat.le_trans HPK.out.size hi.1)
      · refine HPK.out.trans (fun i hi => ?_) HQK.out
        rcases hi with hi | hi
        · exact Or.inl hi
        · exact Or.inr hi.1
    · go_simp
      refine hK.out _ _ hSb (fun hHeld => ?_)
      clear hK K
      clear hHeld
      refine wpAnyH_ready (rs := [4]) (by kernel_rfl) (by simp) ?_
      refine AllReadyH.cons (o := ⟨some 60, _, _, _, _, _⟩) rfl (fun K hK => ?_) AllReadyH.nil
      go_simp
      refine hK.out _ _ (by first | exact hSa | exact hSb) (fun hHeld => ?_)
      clear hK K
      clear hHeld
      refine wpAnyH_ready (rs := [10]) (by kernel_rfl) (by simp) ?_
      refine AllReadyH.cons (o := ⟨some 66, _, _, _, _, _⟩) rfl (fun K hK => ?_) AllReadyH.nil
      refine step_append_o _ rfl (.tmp 60) (.tmp 65) 57 rfl 3 j0 _ 1 8 Tryz.underlying57 hj0 hy0 Hy1.out Hy2.out rfl (.slice B el e) el (gcels E) rfl HO9.out ⟨w7.heap.size, 0, none⟩ 1 1 [.int .i64 (h.g : Int)] rfl rfl HN9.out (fun u hu => by simp at hu; subst hu; rfl) (by decide) Hm1.out Hm3.out _ rfl ?_
      intro g3 o3 cap3 w8 hown8 hgr8 hor8 hlt8
      have hP := HPA.out.appendedG (y := ⟨h.g, sq, k, b, d, m⟩) HBV.out hgr8 hown8 hor8 Hel4.out
      have HQA := hide hP.1
      have HQK := hide hP.2
      have hc7 : w8.cell? ⟨p, 7, none⟩ = some (.slice B el e) := by simp [World.cell?, HPA.out.box6 HBV.out (Or.inr rfl) hgr8]
      have hf7 : w8.frozen? ⟨p, 7, none⟩ = false := by simp [World.frozen?, HPA.out.box6 HBV.out (Or.inr rfl) hgr8]
      have hc4 : w8.cell? ⟨p, 4, none⟩ = some (.int .i64 (h.g : Int)) := by simp [World.cell?, HPA.out.box6 HBV.out (Or.inr rfl) hgr8]
      have hbx8 : Bx w8 w.heap.size (sq : Int) k b d m := (hgr8.block _ (Nat.lt_of_lt_of_le HX7l.out HBV.out.size) (fun e => HNY.out ((HPA.out.gen _ e.symm).1))).trans ((HBV.out.block _ HX7l.out).trans HX7.out)
      have hbx9 : Bx (w8.setCell ⟨p, 7, none⟩ (.slice (some ⟨g3, o3, none⟩) (el + 1) cap3)) w.heap.size (sq : Int) k b d m := (heap_setCell_other _ _ _ _ HNJ7.out).trans hbx8
      have hSc : w8.cell? ⟨p, 4, none⟩ = some (.int .i64 (h.g : Int)) ∧ w8.cell? ⟨w.heap.size, 0, none⟩ = some (.int .i64 (sq : Int)) := ⟨hc4, hbx8.c0⟩
      have HX9 := hide hbx9
      clear hP hown8 hgr8 hor8 hlt8 hbx8 hbx9
      refine hK.out _ _ hSc (fun hHeld => ?_)
      clear hK K
      clear hHeld
      refine wpAnyH_take (i := 11) (oi := ⟨some 67, _, _, _, _, _⟩) (v := ?_) rfl (by kernel_rfl) (by kernel_rfl) (by kernel_rfl) (fun _ _ _ h => h) (Or.inl ⟨by rfl, ?_⟩) hSc ?_
      rotate_left 1
      · (intro w hSw; obtain ⟨hSw1, hSw2⟩ := hSw; go_simp; try with_reducible rfl)
      simp only [Act.put, List.setIfInBounds_toArray, List.set_cons_zero, List.set_cons_succ]
      refine wpAnyH_take (i := 12) (oi := ⟨some 68, _, _, _, _, _⟩) (v := ?_) rfl (by kernel_rfl) (by kernel_rfl) (by kernel_rfl) (fun _ _ _ h => h) (Or.inl ⟨by rfl, ?_⟩) hSc ?_
      rotate_left 1
      · (intro w hSw; obtain ⟨hSw1, hSw2⟩ := hSw; go_simp; try with_reducible rfl)
      simp only [Act.put, List.setIfInBounds_toArray, List.set_cons_zero, List.set_cons_succ]
      refine wpAnyH_ready (rs := [13]) (by kernel_rfl) (by simp) ?_
      refine AllReadyH.cons (o := ⟨none, _, _, _, _, _⟩) rfl (fun K hK => ?_) AllReadyH.nil
      go_simp
      generalize w8.setCell _ _ = w9 at *
      have hSd : w9.cell? ⟨p, 4, none⟩ = some (.int .i64 (h.g : Int)) ∧ w9.cell? ⟨w.heap.size, 0, none⟩ = some (.int .i64 (sq : Int)) := ⟨HQA.out.heads.2.2.2.1, HX9.out.c0⟩
      refine hK.out _ _ hSd (fun hHeld => ?_)
      clear hK K
      clear hHeld
      refine wpAnyH_done (by kernel_rfl) ?_ _
      have hg0 := hSd.2
      clear hSa hSb hSc hSd hc7 hf7 hc4
      go_wp2
      go_ret2
      have e1 := Hsq.out
      have e2 := HCC.out
      subst e2
      subst e1
      refine ⟨rfl, ?_⟩
      refine RjPost.of (Grew.refl _ _) HK4.out (RjPost.of HG5.out HK5.out (Rj.mine H1.out H3.out H4.out ?_ ?_ HQA.out))
      · intro i hi
        rcases hi with hi | hi
        · rcases hi with hi | hi
          · exact Or.inl hi
          · exact Or.inr hi.1
        · exact Or.inr (Nat.le_trans HPK.out.size hi.1)
      · refine HPK.out.trans (fun i hi => ?_) HQK.out
        rcases hi with hi | hi
        · exact Or.inl hi
        · exact Or.inr hi.1

end


section
variable (w : World) (G : Nat → Prop) (p q : Nat) (S : List Sec) (L : List Wr) (n : Nat) (h : Hd) (E : List Ent) (hj : Rj w G p q S L n h E)
include hj
theorem RTrim_bad (k : Int) (hk : k < 0 ∨ (E.length : Int) < k) : Calls Tryz.prog 18 #[.pointer (some ⟨p, 0, none⟩), .int .i64 k] w fun r w' => r = .returned (.int .i64 1) ∧ w = w' := by
  obtain ⟨D, J, X, Y, _, h2, _⟩ := hj
  obtain ⟨A, c, B, d, rfl, rfl, c0, c1, c2, c3, c4, c5, c6, c7, fz⟩ := h2.cells
  obtain ⟨el, hel⟩ : ∃ el, E.length = el := ⟨_, rfl⟩
  rw [hel] at c6 hk
  clear h2 c0 c1 c2 c3 c4 c5 c7 fz hel
  rcases hk with hk | hk
  · go_enter Tryz.func18, Tryz.ntmps18
    go_wp2
    go_ret
    exact ⟨rfl, rfl⟩
  · have hk0 : ¬ (k < 0) := by omega
    go_enter Tryz.func18, Tryz.ntmps18
    go_wp2
    go_ret
    exact ⟨rfl, rfl⟩
theorem RTrim_zero : Calls Tryz.prog 18 #[.pointer (some ⟨p, 0, none⟩), .int .i64 0] w fun r w' => r = .returned (.int .i64 0) ∧ w = w' := by
  obtain ⟨D, J, X, Y, _, h2, _⟩ := hj
  obtain ⟨A, c, B, d, rfl, rfl, c0, c1, c2, c3, c4, c5, c6, c7, fz⟩ := h2.cells
  obtain ⟨el, hel⟩ : ∃ el, E.length = el := ⟨_, rfl⟩
  rw [hel] at c6
  have hk : ¬ ((el : Int) < 0) := by omega
  clear h2 c0 c1 c2 c3 c4 c5 c7 fz hel
  go_enter Tryz.func18, Tryz.ntmps18
  go_wp2
  go_ret
  exact ⟨rfl, rfl⟩
set_option maxRecDepth 100000 in
set_option maxHeartbeats 4000000 in
theorem RTrim_good (k : Nat) (hk : 1 ≤ k) (hkm : k ≤ E.length) (hE : E.length ≤ 1000) (htb : h.t ≤ 1000000000000000000) (hfb : h.f ≤ 1000000000000000000) (h2S : 2 ≤ S.length) (hL : L.length ≤ 900000) :
    Calls Tryz.prog 18 #[.pointer (some ⟨p, 0, none⟩), .int .i64 (k : Int)] w fun r w' => r = .returned (.int .i64 0) ∧
      RjPost w G p q (all (all S L) [((h.t + 1) % 2, hsec ⟨h.t + 1, h.f + k, h.g, lst h.l (E.take k)⟩)]) [] n ⟨h.t + 1, h.f + k, h.g, lst h.l (E.take k)⟩ (E.drop k) w' := by
  have HLe := hide (all_length L S)
  have H2S := hide h2S
  have HL := hide hL
  have HTB := hide htb
  obtain ⟨D, J, X, Y, h1, h2, h3, h4⟩ := hj
  obtain ⟨A, c, B, d, e1, e2, c0, c1, c2, c3, c4, c5, c6, c7, fz⟩ := h2.cells
  obtain ⟨t, f, g, l⟩ := h
  obtain ⟨el, hel⟩ : ∃ el, E.length = el := ⟨_, rfl⟩
  have Hel := hide hel
  rw [hel] at c6 hkm hE
  have hk0 : ¬ ((k : Int) < 0) := by omega
  have hk1 : ¬ ((el : Int) < (k : Int)) := by omega
  have hk2 : ((k : Int) == 0) = false := by simp; omega
  have hfb' : f ≤ 1000000000000000000 := hfb
  have Hk := hide hk
  have Hkm := hide hkm
  have HE := hide hE
  have HF := hide (RFlush_any w D q S L h1 (by have := HL.out; omega))
  have HP := fun w' => hide (fun (hp : RPost w D q (all S L) [] w') => Rj.disk (n := n) (h := ⟨t, f, g, l⟩) (E := E) h2 h3 h4 hp)
  clear h1 h2 h3 h4 e1 e2 c1 c2 c3 c4 c5 c7 fz htb hfb h2S hL hE hk
  go_enter Tryz.func18, Tryz.ntmps18
  go_wp2_with fail
  refine HF.out.mono ?_
  rintro e w1 ⟨rfl, hp⟩
  obtain ⟨G1, hj1, hg1, hk1'⟩ := (HP w1).out hp
  have HG1 := hide hg1
  have HK1 := hide hk1'
  clear hp HP HF c0 c6 hg1 hk1'
  obtain ⟨D1, J1, X1, Y1, h1, h2, h3, h4⟩ := hj1
  obtain ⟨A1, c1, B1, d1, rfl, rfl, c0, c1', c2, c3, c4, c5, c6, c7, fz⟩ := h2.cells
  rw [Hel.out] at c6 c7
  obtain ⟨x, hx⟩ : ∃ x, E[k - 1]? = some x := ⟨_, List.getElem?_eq_getElem (by have := Hel.out; have := Hkm.out; have := Hk.out; omega)⟩
  have hlst : lst l (E.take k) = x.g := by
    have e : E.take (k - 1 + 1) = E.take (k - 1) ++ [x] := by rw [List.take_add_one, hx]; rfl
    rw [show k - 1 + 1 = k by have := Hk.out; omega] at e
    rw [e, lst_append]
    rfl
  obtain ⟨gB, oB, rfl, hgBl, hgB⟩ : ∃ gB oB, B1 = some ⟨gB, oB, none⟩ ∧ gB < w1.heap.size ∧ ∀ j u, (gcels E)[j]? = some u → w1.cell? ⟨gB, oB + j, none⟩ = some u := by
    obtain ⟨A', c', e', _, _, hh⟩ := h2.gens.form
    cases e'
    exact hh (by intro e0; have h0 := congrArg List.length e0; rw [show (gcels E).length = E.length by simp [gcels]] at h0; simp only [List.length_nil] at h0; have := Hel.out; have := Hk.out; have := Hkm.out; omega)
  obtain ⟨gA, oA, rfl⟩ : ∃ gA oA, A1 = some ⟨gA, oA, none⟩ := by
    obtain ⟨A', c', e', _, _, hh⟩ := h2.rows.form
    cases e'
    obtain ⟨g', o', e2, _⟩ := hh (by intro e0; have h0 := congrArg List.length e0; rw [show (rcels E).length = E.length * 5 from flat_len _ (fun e he => rcel_len _ e he)] at h0; simp only [List.length_nil] at h0; have := Hel.out; have := Hk.out; have := Hkm.out; omega)
    exact ⟨g', o', e2⟩
  obtain ⟨k1, hk1'⟩ : ∃ k1, k - 1 = k1 := ⟨_, rfl⟩
  have hgx : w1.cell? ⟨gB, oB + k1, none⟩ = some (.int .i64 (x.g : Int)) := hgB k1 _ (by rw [← hk1']; simp [gcels, hx])
  have hk1i : (k : Int) - 1 = (k1 : Int) := by have := Hk.out; omega
  have hk1l : (k1 : Int) < (el : Int) := by have := Hk.out; have := Hkm.out; omega
  have hk1n : ¬ ((k1 : Int) < 0) := by omega
  have hel3 : (el : Int) ≤ 1000 := by have := HE.out; omega
  have hlenA : (el : Int) ≤ (c1 : Int) := by
    obtain ⟨A', c', e', hc, _⟩ := h2.rows.form
    cases e'
    rw [Hel.out] at hc; omega
  have hlenB : (el : Int) ≤ (d1 : Int) := by
    obtain ⟨A', c', e', hc, _⟩ := h2.gens.form
    cases e'
    rw [Hel.out] at hc; omega
  have hcmA : (c1 : Int) ≤ (maxLen : Int) := by
    obtain ⟨A', c', e', _, hc, _⟩ := h2.rows.form
    cases e'
    omega
  have hcmB : (d1 : Int) ≤ (maxLen : Int) := by
    obtain ⟨A', c', e', _, hc, _⟩ := h2.gens.form
    cases e'
    omega
  have hfr := h2.box
  have hA2 := h2.set (i := 5) (v := .int .i64 (x.g : Int)) (h' := ⟨t, f, g, x.g⟩) rfl
  have hA3 := hA2.set (i := 3) (v := .int .i64 ((f : Int) + (k : Int))) (h' := ⟨t, f + k, g, x.g⟩) rfl
  have hk2 := Kept.set (Kept.set (Kept.refl J1 w1) h2.mine 5 (.int .i64 (x.g : Int))) h2.mine 3 (.int .i64 ((f : Int) + (k : Int)))
  have f5 := fz 5
  have f3 := fz 3
  have f6 := fz 6
  have f7 := fz 7
  have c3' : w1.cell? ⟨p, 3, none⟩ = some (.int .i64 (f : Int)) := c3
  have hpB : ¬ (gB = p) := (h2.gen gB rfl).2.1
  have hro := h2.rows
  rw [Hel.out] at hro
  have hgo := h2.gens
  rw [Hel.out] at hgo
  have hdl : (E.drop k).length = el - k := by rw [List.length_drop, Hel.out]
  have RA1 : Hid (ORow w1 42 5 (.slice (some ⟨gA, oA + k * 5, none⟩) (el - k) (c1 - k)) (E.drop k).length (rcels (E.drop k))) := by
    have := hro.cut (k := k) Hkm.out rfl
    rw [rcels_drop] at this
    rw [hdl]
    exact this
  have RG1 : Hid (ORow w1 3 1 (.slice (some ⟨gB, oB + k, none⟩) (el - k) (d1 - k)) (E.drop k).length (gcels (E.drop k))) := by
    have := hgo.cut (k := k) Hkm.out rfl
    rw [Nat.mul_one, gcels_drop] at this
    rw [hdl]
    exact this
  have RA0 : Hid (c1 ≤ k → ORow w1 42 5 (.slice (some ⟨gA, oA, none⟩) (el - k) 0) (E.drop k).length (rcels (E.drop k))) := by
    intro hc
    have hk0 : el - k = 0 := by omega
    have he0 : E.drop k = [] := List.eq_nil_of_length_eq_zero (by rw [hdl]; exact hk0)
    rw [hk0, he0]
    exact hro.none0
  have RG0 : Hid (d1 ≤ k → ORow w1 3 1 (.slice (some ⟨gB, oB, none⟩) (el - k) 0) (E.drop k).length (gcels (E.drop k))) := by
    intro hc
    have hk0 : el - k = 0 := by omega
    have he0 : E.drop k = [] := List.eq_nil_of_length_eq_zero (by rw [hdl]; exact hk0)
    rw [hk0, he0]
    exact hgo.none0
  have HM := hide h2.mine
  have fin : Hid (∀ X' Y' : Value, X'.ownBlock = some gA → Y'.ownBlock = some gB → ORow w1 42 5 X' (E.drop k).length (rcels (E.drop k)) → ORow w1 3 1 Y' (E.drop k).length (gcels (E.drop k)) →
      Calls Tryz.prog 35 #[.pointer (some ⟨p, 0, none⟩)] ((((w1.setCell ⟨p, 5, none⟩ (.int .i64 (x.g : Int))).setCell ⟨p, 3, none⟩ (.int .i64 ((f : Int) + (k : Int)))).setCell ⟨p, 6, none⟩ X').setCell ⟨p, 7, none⟩ Y') fun r w' => r = .returned (.tuple #[]) ∧
        RjPost w G p q (all (all S L) [((t + 1) % 2, hsec ⟨t + 1, f + k, g, x.g⟩)]) [] n ⟨t + 1, f + k, g, x.g⟩ (E.drop k) w') := by
    intro X' Y' hX hY hrX hrY
    have hsame : ∀ (i : Nat) (v : Value) (W : World) (b : Nat), b ≠ p → (W.setCell ⟨p, i, none⟩ v).heap[b]? = W.heap[b]? := fun i v W b hb => heap_setCell_other _ _ _ _ hb
    have hgA : gA ≠ p := (h2.row gA rfl).2
    have hgB : gB ≠ p := (h2.gen gB rfl).2.1
    have k1 := hA3.cutL (X' := X') (E' := E.drop k) (by rw [hX]; rfl) (hrX.same fun i hi => by
      have e : gA = i := by rw [hX] at hi; exact Option.some.inj hi
      subst e
      rw [hsame _ _ _ _ hgA, hsame _ _ _ _ hgA])
    have k2 := k1.cutG (Y' := Y') (F' := E.drop k) (by rw [hY]; rfl) (hrY.same fun i hi => by
      have e : gB = i := by rw [hY] at hi; exact Option.some.inj hi
      subst e
      rw [hsame _ _ _ _ hgB, hsame _ _ _ _ hgB, hsame _ _ _ _ hgB])
    have kk := Kept.set (Kept.set hk2 h2.mine 6 X') h2.mine 7 Y'
    have hP := Rj.mine (w := w1) (G := G1) h1 h3 h4 (Grew.refl _ _) kk k2
    obtain ⟨G2, hj2, hg2, hkp2⟩ := hP
    refine (RSave_any _ G2 p q (all S L) [] n ⟨t, f + k, g, x.g⟩ (E.drop k) hj2 (by have := HTB.out; show t ≤ _; have : t ≤ 1000000000000000000 := this; omega) (by rw [HLe.out]; exact H2S.out) (by simp)).mono ?_
    rintro r w' ⟨rfl, hp⟩
    exact ⟨rfl, RjPost.of HG1.out HK1.out (RjPost.of hg2 hkp2 hp)⟩
  have HLS := hide hlst
  clear h1 h2 h3 h4 hA2 hA3 hk2 fz c0 c1' c2 c3 c4 hgB hx hk1' hro hgo hdl hlst
  go_wp2_with fail
  all_goals
    first | refine (fin.out _ _ rfl rfl RA1.out RG1.out).mono ?_ | refine (fin.out _ _ rfl rfl (RA0.out (by omega)) RG1.out).mono ?_ | refine (fin.out _ _ rfl rfl RA1.out (RG0.out (by omega))).mono ?_ | refine (fin.out _ _ rfl rfl (RA0.out (by omega)) (RG0.out (by omega))).mono ?_
    rintro r w5 ⟨rfl, hp5⟩
    have HP5 := hide hp5
    clear hp5
    go_wp2
    go_ret
    refine ⟨rfl, ?_⟩
    rw [show lst (Hd.mk t f g l).l (E.take k) = x.g from HLS.out]
    exact HP5.out
end

end Go.Proofs.YtmfgcinikopgnaaGreatDoor.Jn
