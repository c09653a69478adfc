/-
  Slices of the call's own that begin anywhere in their block: what append leaves of one, what a later beginning leaves. Plain theorems, no program of the project.
-/
import Derived.Deep.AppendLies
import Derived.Deep.MidRow
import Derived.Test.YtmbhnhfnimijcaaDoorDkMem
namespace Go.Proofs.YtmbhnhfnimijcaaDoor.Wn
open Go.RowKit
open Pk Dk

theorem blk_lt {w : World} {g : Nat} {o : Obj} (h : w.heap[g]? = some o) : g < w.heap.size := (Array.getElem?_eq_some_iff.1 h).1

/-- v has n elements of size cells, xs, from some cell of its block on; what lies behind them up to its capacity is its own. -/
def ORow (w : World) (e : TypeId) (size : Nat) (v : Value) (n : Nat) (xs : List Value) : Prop :=
  xs.length = n * size ∧
  ((v = .slice none 0 0 ∧ n = 0) ∨
   ∃ g o cap cur, v = .slice (some ⟨g, o, none⟩) n cap ∧ w.heap[g]? = some (.cells cur e (0, 0)) ∧ n ≤ cap ∧ cap ≤ maxLen ∧ o + cap * size ≤ cur.size ∧ (cur.toList.drop o).take (n * size) = xs)
section
variable {w w' : World} {e : TypeId} {size n : Nat} {v : Value} {xs : List Value}
theorem ORow.nil (w : World) (e : TypeId) (size : Nat) : ORow w e size (.slice none 0 0) 0 [] := ⟨by simp, .inl ⟨rfl, rfl⟩⟩
theorem ORow.lt (h : ORow w e size v n xs) : ∀ k, v.ownBlock = some k → k < w.heap.size := by
  intro k hk
  rcases h.2 with ⟨rfl, _⟩ | ⟨g, o, cap, cur, rfl, hg, _⟩
  · simp [Value.ownBlock] at hk
  · simp [Value.ownBlock] at hk
    subst hk
    exact blk_lt hg
theorem ORow.same (h : ORow w e size v n xs) (hk : ∀ k, v.ownBlock = some k → w'.heap[k]? = w.heap[k]?) : ORow w' e size v n xs := by
  refine ⟨h.1, ?_⟩
  rcases h.2 with hn | ⟨g, o, cap, cur, rfl, hg, hr⟩
  · exact Or.inl hn
  · exact Or.inr ⟨g, o, cap, cur, rfl, (hk g rfl).trans hg, hr⟩
theorem ORow.form (h : ORow w e size v n xs) : ∃ A c, v = .slice A n c ∧ n ≤ c ∧ c ≤ maxLen ∧ (xs ≠ [] → ∃ g o, A = some ⟨g, o, none⟩ ∧ g < w.heap.size ∧ ∀ j u, xs[j]? = some u → w.cell? ⟨g, o + j, none⟩ = some u) := by
  rcases h.2 with ⟨rfl, rfl⟩ | ⟨g, o, cap, cur, rfl, hg, h1, h2, h3, h4⟩
  · refine ⟨none, 0, rfl, Nat.le_refl _, Nat.zero_le _, fun hne => absurd ?_ hne⟩
    have := h.1
    exact List.eq_nil_of_length_eq_zero (by omega)
  · refine ⟨some ⟨g, o, none⟩, cap, rfl, h1, h2, fun _ => ⟨g, o, rfl, blk_lt hg, fun j u hj => ?_⟩⟩
    rw [← h4] at hj
    have hlt := (List.getElem?_eq_some_iff.1 hj).1
    rw [List.getElem?_take, if_pos (by simp at hlt; omega), List.getElem?_drop] at hj
    simp [World.cell?, hg, ← Array.getElem?_toList, hj]
theorem ORow.kept (h : ORow w e size v n xs) {G : Nat → Prop} (hk : Kept G w w') (hd : ∀ k, v.ownBlock = some k → ¬ G k) : ORow w' e size v n xs := h.same fun k hb => hk.block k (h.lt k hb) (hd k hb)
/-- A later beginning. -/
theorem ORow.cut {A : Option Addr} {c k : Nat} (h : ORow w e size (.slice A n c) n xs) (hk : k ≤ n) {g o : Nat} (hA : A = some ⟨g, o, none⟩) : ORow w e size (.slice (some ⟨g, o + k * size, none⟩) (n - k) (c - k)) (n - k) (xs.drop (k * size)) := by
  subst hA
  have hmul : n * size = k * size + (n - k) * size := by rw [← Nat.add_mul]; congr 1; omega
  refine ⟨by rw [List.length_drop, h.1]; omega, ?_⟩
  rcases h.2 with ⟨h0, _⟩ | ⟨g', o', cap, cur, h0, hg, h1, h2, h3, h4⟩
  · simp at h0
  · simp only [Value.slice.injEq, Option.some.injEq, Addr.mk.injEq] at h0
    obtain ⟨⟨rfl, rfl, _⟩, _, rfl⟩ := h0
    have hmc : c * size = k * size + (c - k) * size := by rw [← Nat.add_mul]; congr 1; omega
    refine Or.inr ⟨g, o + k * size, c - k, cur, rfl, hg, by omega, by omega, by omega, ?_⟩
    rw [← h4, hmul, List.drop_take, Nat.add_sub_cancel_left, List.drop_drop]
/-- Nothing of it, and no room. -/
theorem ORow.none0 {A : Option Addr} {c : Nat} (h : ORow w e size (.slice A n c) n xs) : ORow w e size (.slice A 0 0) 0 [] := by
  refine ⟨by simp, ?_⟩
  rcases h.2 with ⟨h0, _⟩ | ⟨g, o, cap, cur, h0, hg, h1, h2, h3, h4⟩
  · simp at h0
    obtain ⟨rfl, _, _⟩ := h0
    exact Or.inl ⟨rfl, rfl⟩
  · simp only [Value.slice.injEq] at h0
    obtain ⟨rfl, _, rfl⟩ := h0
    exact Or.inr ⟨g, o, 0, cur, rfl, hg, Nat.le_refl _, Nat.zero_le _, by omega, by simp⟩
/-- A fresh block. -/
theorem ORow.of_own {base : Nat} (h : w.ownsRow base e size v n xs) : ORow w e size v n xs := by
  refine ⟨h.1, ?_⟩
  rcases h.2 with hn | ⟨g, cap, cur, rfl, _, hg, h1, h2, h3, h4⟩
  · exact Or.inl hn
  · exact Or.inr ⟨g, 0, cap, cur, rfl, hg, h1, h2, by omega, by simpa using h4⟩
end

section
variable {P : Program} (w : World)
theorem run_append_room_at (t ty e : TypeId) (i : TypeInfo) (ht : P.underlying t = some (.slice e)) (hi : P.info? e = some i)
    (g o sLen sCap : Nat) (cur : Array Value) (hg : w.heap[g]? = some (.cells cur e (0, 0)))
    (a : Addr) (m c : Nat) (news : List Value) (hl : news.length = m * i.size) (hnews : ∀ j u, news[j]? = some u → w.cell? (a.add j) = some u) (h1 : ∀ u ∈ news, u.oneCell' = true)
    (hroom : sLen + m ≤ sCap) (hfit : o + sLen * i.size + news.length ≤ cur.size) :
    (Builtin.append_ #[t, t] ty #[.slice (some ⟨g, o, none⟩) sLen sCap, .slice (some a) m c]).run P w =
      .ok (.slice (some ⟨g, o, none⟩) (sLen + m) sCap) (w.setRow g (cur.toList.take (o + sLen * i.size) ++ news ++ cur.toList.drop (o + sLen * i.size + news.length)).toArray) := by
  have hf := run_firstCells_some (P := P) w i.size m a m c news hl hnews
  have hst := run_storeCells_at P g (o + sLen * i.size) e news 0 cur w hg (by simpa using hfit) h1
  simp only [Nat.add_zero] at hst
  simp [Builtin.append_, run_underlying ht, sizeOf, typeInfo, hi, Builtin.lenOf, hroom, hf, Addr.add_lit, hst]

theorem run_append_o (t ty : TypeId) (e : TypeId) (i : TypeInfo) (z : Value) (size bytes : Nat) (ht : P.underlying t = some (.slice e)) (hi : P.info? e = some i) (hz : i.zero = some z)
    (hsize : i.size = size) (hby : i.bytes = bytes) (hzs : z.cells.size = size)
    (v : Value) (n : Nat) (xs : List Value) (hown : ORow w e size v n xs)
    (a : Addr) (m c : Nat) (news : List Value) (hl : news.length = m * size) (hnews : ∀ j u, news[j]? = some u → w.cell? (a.add j) = some u) (h1 : ∀ u ∈ news, u.oneCell' = true)
    (hm : 0 < m) (h63 : n + m ≤ maxLen) (hbytes : (n + m) * bytes ≤ 140737488355328) :
    ∃ g o cap w', (Builtin.append_ #[t, t] ty #[v, .slice (some a) m c]).run P w = .ok (.slice (some ⟨g, o, none⟩) (n + m) cap) w' ∧ ORow w' e size (.slice (some ⟨g, o, none⟩) (n + m) cap) (n + m) (xs ++ news) ∧ w.grownBy w' v.ownBlock ∧ (v.ownBlock = some g ∨ g = w.heap.size) ∧ g < w'.heap.size := by
  subst hsize
  subst hby
  have hsmall : n + m ≤ 9223372036854775807 := by simp only [maxLen] at h63; omega
  have hlen : (xs ++ news).length = (n + m) * i.size := by rw [List.length_append, hown.1, hl, Nat.add_mul]
  have grown : ∀ (old : Nat), ∀ (row : Option Nat),
      ORow (w.drew.alloc (.cells (xs.toArray ++ news.toArray ++ Builtin.zeroCells z.cells (grownCap w (n + m) old e - (n + m))) e)) e i.size
        (.slice (some ⟨w.heap.size, 0, none⟩) (n + m) (grownCap w (n + m) old e)) (n + m) (xs ++ news) ∧
      w.grownBy (w.drew.alloc (.cells (xs.toArray ++ news.toArray ++ Builtin.zeroCells z.cells (grownCap w (n + m) old e - (n + m))) e)) row := by
    intro old row
    have hge := grownCap_ge w (n + m) old e
    have hcm : grownCap w (n + m) old e ≤ maxLen := grownCap_le_maxLen w (n + m) old e h63
    refine ⟨⟨hlen, .inr ⟨w.heap.size, 0, _, _, rfl, heap_alloc_new w.drew _, hge, hcm, ?_, ?_⟩⟩, ⟨rfl, rfl, rfl, by simp, fun k hk _ => by first | exact Go.heap_alloc_old w.drew _ hk | exact Go.heap_alloc_old w.drew _ k hk⟩⟩
    · simp only [Array.size_append, List.size_toArray, size_zeroCells, hzs, hown.1, hl, ← Nat.add_mul]
      rw [Nat.zero_add]
      exact Nat.mul_le_mul_right _ (by omega)
    · simp only [Array.toList_append, List.append_assoc, List.drop_zero]
      rw [← List.append_assoc, ← hlen]
      exact List.take_left
  rcases hown.2 with ⟨rfl, rfl⟩ | ⟨g, o, cap, cur, rfl, hg, hnc, hcm, hcs, htake⟩
  · have hx : xs = [] := List.eq_nil_of_length_eq_zero (by simpa using hown.1)
    subst hx
    have hr := run_append_nil (P := P) w t ty e i z ht hi hz a m c news hl hnews (by omega) (by omega) (by have hb := hbytes; simp only [Nat.zero_add] at hb; omega)
    have hgr := grown 0 (Value.ownBlock (.slice none 0 0))
    simp only [Nat.zero_add, List.nil_append, Array.empty_append] at hgr ⊢
    exact ⟨_, _, _, _, hr, hgr.1, hgr.2, Or.inr rfl, by simp⟩
  · by_cases hroom : n + m ≤ cap
    · have hle : n * i.size + m * i.size ≤ cap * i.size := by rw [← Nat.add_mul]; exact Nat.mul_le_mul_right _ hroom
      have hfit : o + n * i.size + news.length ≤ cur.size := by rw [hl]; omega
      have hr := run_append_room_at (P := P) w t ty e i ht hi g o n cap cur hg a m c news hl hnews h1 hroom hfit
      refine ⟨_, _, _, _, hr, ⟨hlen, .inr ⟨g, o, cap, _, rfl, setRow_heap w g cur _ e _ hg, hroom, hcm, ?_, ?_⟩⟩, ⟨rfl, rfl, rfl, by simp, fun k _ hk => setRow_other w g k _ (fun e => hk (by simp [Value.ownBlock, e]))⟩, Or.inl rfl, by simpa using blk_lt hg⟩
      · simp only [List.size_toArray, List.length_append, List.length_take, List.length_drop, Array.length_toList]
        omega
      · have e1 : cur.toList.take (o + n * i.size) = cur.toList.take o ++ xs := by
          rw [← htake, List.take_add]
        have hto : (cur.toList.take o).length = o := by rw [List.length_take, Array.length_toList]; omega
        rw [List.append_assoc, e1, List.append_assoc, List.drop_append_of_le_length (by omega), List.drop_of_length_le (by omega), List.nil_append, ← List.append_assoc, ← hlen]
        exact List.take_left
    · obtain ⟨A, c', hA, _, _, hcell⟩ := hown.form
      have holds : ∀ j u, xs[j]? = some u → w.cell? ((⟨g, o, none⟩ : Addr).add j) = some u := fun j u hj => by
        obtain ⟨g', o', e1, _, h2⟩ := hcell (by rintro rfl; simp at hj)
        subst e1
        simp only [Value.slice.injEq, Option.some.injEq, Addr.mk.injEq] at hA
        obtain ⟨⟨rfl, rfl, _⟩, _, _⟩ := hA
        rw [Addr.add_lit]
        exact h2 j u hj
      have hr := run_append_grow (P := P) w t ty e i z ht hi hz ⟨g, o, none⟩ n cap xs hown.1 holds a m c news hl hnews (by omega) (by omega) (growslice_fits (by omega) hbytes)
      have hgr := grown cap (Value.ownBlock (.slice (some ⟨g, o, none⟩) n cap))
      exact ⟨_, _, _, _, hr, hgr.1, hgr.2, Or.inr rfl, by simp⟩

theorem wp_append_o {o : Oper} {a : Act} {K : Act → World → Prop} {Q : Exit → Act → World → Prop} (s x : Operand) (t : TypeId)
    (ho : o.op = .call { callee := .builtin .append, args := #[s, x], argTypes := #[t, t] })
    (e : TypeId) (i : TypeInfo) (z : Value) (size bytes : Nat) (ht : P.underlying t = some (.slice e)) (hi : P.info? e = some i) (hz : i.zero = some z)
    (hsize : i.size = size) (hby : i.bytes = bytes) (hzs : z.cells.size = size)
    (v : Value) (n : Nat) (xs : List Value) (hs : a.eval s = v) (hown : ORow w e size v n xs)
    (ad : Addr) (m c : Nat) (news : List Value) (hx : a.eval x = .slice (some ad) m c) (hl : news.length = m * size) (hnews : ∀ j u, news[j]? = some u → w.cell? (ad.add j) = some u) (h1 : ∀ u ∈ news, u.oneCell' = true)
    (hm : 0 < m) (h63 : n + m ≤ maxLen) (hbytes : (n + m) * bytes ≤ 140737488355328) (H : Nat) (hH : w.heap.size = H)
    (h : ∀ g o' cap w', ORow w' e size (.slice (some ⟨g, o', none⟩) (n + m) cap) (n + m) (xs ++ news) → w.grownBy w' v.ownBlock → (v.ownBlock = some g ∨ g = H) → g < w'.heap.size → K (a.put o.dst (.slice (some ⟨g, o', none⟩) (n + m) cap)) w') : o.wp P a w K Q := by
  obtain ⟨g, o', cap, w', hr, h2, h3, h4, h5⟩ := run_append_o (P := P) w t o.type e i z size bytes ht hi hz hsize hby hzs v n xs hown ad m c news hl hnews h1 hm h63 hbytes
  unfold Oper.wp execOp
  simp only [ho, resolve, invoke, builtin, Sem.run_bind, Sem.run_pure, Result.andThen_ok, List.map_toArray, List.map_cons, List.map_nil, hs, hx, hr]
  exact h g o' cap w' h2 h3 (by rw [← hH]; exact h4) h5

theorem wpList_append_o {ops : Array Oper} {rest : List Oper} {o : Oper} {a : Act} {Q : Exit → Act → World → Prop} (hgd : o.guard = none) (s x : Operand) (t : TypeId)
    (ho : o.op = .call { callee := .builtin .append, args := #[s, x], argTypes := #[t, t] })
    (e : TypeId) (i : TypeInfo) (z : Value) (size bytes : Nat) (ht : P.underlying t = some (.slice e)) (hi : P.info? e = some i) (hz : i.zero = some z)
    (hsize : i.size = size) (hby : i.bytes = bytes) (hzs : z.cells.size = size)
    (v : Value) (n : Nat) (xs : List Value) (hs : a.eval s = v) (hown : ORow w e size v n xs)
    (ad : Addr) (m c : Nat) (news : List Value) (hx : a.eval x = .slice (some ad) m c) (hl : news.length = m * size) (hnews : ∀ j u, news[j]? = some u → w.cell? (ad.add j) = some u) (h1 : ∀ u ∈ news, u.oneCell' = true)
    (hm : 0 < m) (h63 : n + m ≤ maxLen) (hbytes : (n + m) * bytes ≤ 140737488355328) (H : Nat) (hH : w.heap.size = H)
    (h : ∀ g o' cap w', ORow w' e size (.slice (some ⟨g, o', none⟩) (n + m) cap) (n + m) (xs ++ news) → w.grownBy w' v.ownBlock → (v.ownBlock = some g ∨ g = H) → g < w'.heap.size → wpList P ops Q rest (a.put o.dst (.slice (some ⟨g, o', none⟩) (n + m) cap)) w') : wpList P ops Q (o :: rest) a w :=
  wpList_plain hgd fun _ hK => wp_append_o w s x t ho e i z size bytes ht hi hz hsize hby hzs v n xs hs hown ad m c news hx hl hnews h1 hm h63 hbytes H hH fun g o' cap w' h2 h3 h4 h5 => hK _ _ (h g o' cap w' h2 h3 h4 h5)
theorem step_append_o {ops : Array Oper} {o : Oper} {a : Act} {K : Act → World → Prop} {Q : Exit → Act → World → Prop} {E : Prop} (hgd : o.guard = none) (s x : Operand) (t : TypeId)
    (ho : o.op = .call { callee := .builtin .append, args := #[s, x], argTypes := #[t, t] })
    (e : TypeId) (i : TypeInfo) (z : Value) (size bytes : Nat) (ht : P.underlying t = some (.slice e)) (hi : P.info? e = some i) (hz : i.zero = some z)
    (hsize : i.size = size) (hby : i.bytes = bytes) (hzs : z.cells.size = size)
    (v : Value) (n : Nat) (xs : List Value) (hs : a.eval s = v) (hown : ORow w e size v n xs)
    (ad : Addr) (m c : Nat) (news : List Value) (hx : a.eval x = .slice (some ad) m c) (hl : news.length = m * size) (hnews : ∀ j u, news[j]? = some u → w.cell? (ad.add j) = some u) (h1 : ∀ u ∈ news, u.oneCell' = true)
    (hm : 0 < m) (h63 : n + m ≤ maxLen) (hbytes : (n + m) * bytes ≤ 140737488355328) (H : Nat) (hH : w.heap.size = H)
    (h : ∀ g o' cap w', ORow w' e size (.slice (some ⟨g, o', none⟩) (n + m) cap) (n + m) (xs ++ news) → w.grownBy w' v.ownBlock → (v.ownBlock = some g ∨ g = H) → g < w'.heap.size → K (a.put o.dst (.slice (some ⟨g, o', none⟩) (n + m) cap)) w') :
    if Region.wanted o (yielded ops a.tmps) = true then Oper.wp P o a w K Q else E := by
  have hw : Region.wanted o (yielded ops a.tmps) = true := by simp [Region.wanted, hgd]
  rw [if_pos hw]
  exact wp_append_o w s x t ho e i z size bytes ht hi hz hsize hby hzs v n xs hs hown ad m c news hx hl hnews h1 hm h63 hbytes H hH h
end

/-! ### Any append: of none or of many, onto a row that begins anywhere -/
/-- A slice's type, and its elements' size. -/
def AppTy (P : Program) (t e : TypeId) (size bytes : Nat) : Prop := P.underlying t = some (.slice e) ∧ ∃ i z, P.info? e = some i ∧ i.zero = some z ∧ i.size = size ∧ i.bytes = bytes ∧ z.cells.size = size
theorem AppTy.of {P : Program} {t e : TypeId} {size bytes : Nat} (ht : P.underlying t = some (.slice e)) (h : (P.info? e).map (fun i => (i.zero.map (·.cells.size), i.size, i.bytes)) = some (some size, size, bytes)) : AppTy P t e size bytes := by
  obtain ⟨i, hi, h2⟩ := Option.map_eq_some_iff.1 h
  simp only [Prod.mk.injEq, Option.map_eq_some_iff] at h2
  obtain ⟨⟨z, hz, h3⟩, h4, h5⟩ := h2
  exact ⟨ht, i, z, hi, hz, h4, h5, h3⟩
/-- m elements, news, can be read from A on. -/
def Src (w : World) (A : Option Addr) (news : List Value) : Prop := news ≠ [] → ∃ g o, A = some ⟨g, o, none⟩ ∧ g < w.heap.size ∧ ∀ j u, news[j]? = some u → w.cell? ⟨g, o + j, none⟩ = some u
theorem Src.below {w w' : World} {A : Option Addr} {news : List Value} (h : Src w A news) (hb : Below w.heap.size w w') : Src w' A news := fun hn => by
  obtain ⟨g, o, e, hl, hc⟩ := h hn
  exact ⟨g, o, e, Nat.lt_of_lt_of_le hl hb.size, fun j u hj => (hb.cell (p := ⟨g, o + j, none⟩) hl).trans (hc j u hj)⟩
/-- What append leaves. -/
structure Grown (w : World) (e : TypeId) (size : Nat) (v : Value) (n : Nat) (xs : List Value) (v' : Value) (w' : World) : Prop where
  row : ORow w' e size v' n xs
  grew : w.grownBy w' v.ownBlock
  own : ∀ k, v'.ownBlock = some k → v.ownBlock = some k ∨ w.heap.size ≤ k
section
variable {P : Program} {w : World} {t e : TypeId} {size bytes : Nat}
theorem run_app (hA : AppTy P t e size bytes) (ty : TypeId) (v : Value) (n : Nat) (xs : List Value) (hown : ORow w e size v n xs)
    (A : Option Addr) (m c : Nat) (news : List Value) (hl : news.length = m * size) (hs : Src w A news) (h1 : ∀ u ∈ news, u.oneCell' = true) (h0 : 0 < size)
    (h63 : n + m ≤ maxLen) (hbytes : (n + m) * bytes ≤ 140737488355328) :
    ∃ v' w', (Builtin.append_ #[t, t] ty #[v, .slice A m c]).run P w = .ok v' w' ∧ Grown w e size v (n + m) (xs ++ news) v' w' := by
  obtain ⟨ht, i, z, hi, hz, hsize, hby, hzs⟩ := hA
  by_cases hm : m = 0
  · subst hm
    have hnil : news = [] := List.eq_nil_of_length_eq_zero (by omega)
    subst hnil
    obtain ⟨B, cap, rfl, hnc, _, _⟩ := hown.form
    have hf : ∀ W : World, (Builtin.firstCells i.size 0 (.slice A 0 c)).run P W = .ok #[] W := by
      intro W
      cases A with
      | none => exact run_firstCells_none W i.size 0 0 c
      | some a => exact run_firstCells_some W i.size 0 a 0 c [] (by simp) (fun j u hj => by simp at hj)
    refine ⟨.slice B n cap, w, ?_, by simpa using hown, ⟨rfl, rfl, rfl, Nat.le_refl _, fun _ _ _ => rfl⟩, fun k hk => Or.inl hk⟩
    cases B <;> simp [Builtin.append_, run_underlying ht, sizeOf, typeInfo, hi, Builtin.lenOf, hnc, hf, storeCells, Sem.run_pure]
  · have hne : news ≠ [] := by
      rintro rfl
      have : 0 < m * size := Nat.mul_pos (by omega) h0
      simp at hl
      omega
    obtain ⟨g, o, rfl, _, hc⟩ := hs hne
    obtain ⟨g', o', cap, w', hr, h2, h3, h4, _⟩ := run_append_o (P := P) w t ty e i z size bytes ht hi hz hsize hby hzs v n xs hown ⟨g, o, none⟩ m c news hl (fun j u hj => by rw [Addr.add_lit]; exact hc j u hj) h1 (by omega) h63 hbytes
    refine ⟨_, w', hr, h2, h3, fun k hk => ?_⟩
    have hk' : g' = k := by simpa [Value.ownBlock] using hk
    subst hk'
    exact h4.imp id fun h => by omega
theorem wp_app {o : Oper} {a : Act} {K : Act → World → Prop} {Q : Exit → Act → World → Prop} (hA : AppTy P t e size bytes) (s x : Operand)
    (ho : o.op = .call { callee := .builtin .append, args := #[s, x], argTypes := #[t, t] })
    (v : Value) (n : Nat) (xs : List Value) (hs : a.eval s = v) (hown : ORow w e size v n xs)
    (A : Option Addr) (m c : Nat) (news : List Value) (hx : a.eval x = .slice A m c) (hl : news.length = m * size) (hsrc : Src w A news) (h1 : ∀ u ∈ news, u.oneCell' = true) (h0 : 0 < size)
    (h63 : n + m ≤ maxLen) (hbytes : (n + m) * bytes ≤ 140737488355328)
    (h : ∀ v' w', Hid (Grown w e size v (n + m) (xs ++ news) v' w') → K (a.put o.dst v') w') : o.wp P a w K Q := by
  obtain ⟨v', w', hr, hg⟩ := run_app hA o.type v n xs hown A m c news hl hsrc h1 h0 h63 hbytes
  unfold Oper.wp execOp
  simp only [ho, resolve, invoke, builtin, Sem.run_bind, Sem.run_pure, Result.andThen_ok, List.map_toArray, List.map_cons, List.map_nil, hs, hx, hr]
  exact h v' w' hg
theorem wpList_app {ops : Array Oper} {rest : List Oper} {o : Oper} {a : Act} {Q : Exit → Act → World → Prop} (hA : AppTy P t e size bytes) (hgd : o.guard = none) (s x : Operand)
    (ho : o.op = .call { callee := .builtin .append, args := #[s, x], argTypes := #[t, t] })
    (v : Value) (n : Nat) (xs : List Value) (hs : a.eval s = v) (hown : ORow w e size v n xs)
    (A : Option Addr) (m c : Nat) (news : List Value) (hx : a.eval x = .slice A m c) (hl : news.length = m * size) (hsrc : Src w A news) (h1 : ∀ u ∈ news, u.oneCell' = true) (h0 : 0 < size)
    (h63 : n + m ≤ maxLen) (hbytes : (n + m) * bytes ≤ 140737488355328)
    (h : ∀ v' w', Hid (Grown w e size v (n + m) (xs ++ news) v' w') → wpList P ops Q rest (a.put o.dst v') w') : wpList P ops Q (o :: rest) a w :=
  wpList_plain hgd fun _ hK => wp_app hA s x ho v n xs hs hown A m c news hx hl hsrc h1 h0 h63 hbytes fun v' w' hg => hK _ _ (h v' w' hg)
theorem step_app {ops : Array Oper} {o : Oper} {a : Act} {K : Act → World → Prop} {Q : Exit → Act → World → Prop} {E : Prop} (hA : AppTy P t e size bytes) (hgd : o.guard = none) (s x : Operand)
    (ho : o.op = .call { callee := .builtin .append, args := #[s, x], argTypes := #[t, t] })
    (v : Value) (n : Nat) (xs : List Value) (hs : a.eval s = v) (hown : ORow w e size v n xs)
    (A : Option Addr) (m c : Nat) (news : List Value) (hx : a.eval x = .slice A m c) (hl : news.length = m * size) (hsrc : Src w A news) (h1 : ∀ u ∈ news, u.oneCell' = true) (h0 : 0 < size)
    (h63 : n + m ≤ maxLen) (hbytes : (n + m) * bytes ≤ 140737488355328)
    (h : ∀ v' w', Hid (Grown w e size v (n + m) (xs ++ news) v' w') → K (a.put o.dst v') w') :
    if Region.wanted o (yielded ops a.tmps) = true then Oper.wp P o a w K Q else E := by
  have hw : Region.wanted o (yielded ops a.tmps) = true := by simp [Region.wanted, hgd]
  rw [if_pos hw]
  exact wp_app hA s x ho v n xs hs hown A m c news hx hl hsrc h1 h0 h63 hbytes h
end
section
variable {w w' : World} {e : TypeId} {size n : Nat} {v : Value} {xs : List Value}
theorem ORow.below (h : ORow w e size v n xs) (hb : Below w.heap.size w w') : ORow w' e size v n xs := h.same fun k hk => hb.block k (h.lt k hk)
theorem ORow.src {A : Option Addr} {c : Nat} (h : ORow w e size (.slice A n c) n xs) : Src w A xs := fun hn => by
  obtain ⟨A', c', e', _, _, h4⟩ := h.form
  simp only [Value.slice.injEq, true_and] at e'
  obtain ⟨rfl, rfl⟩ := e'
  obtain ⟨g, o, h5, h6, h7⟩ := h4 hn
  exact ⟨g, o, h5, h6, h7⟩
/-- A block that was just made. -/
theorem ORow.made {g : Nat} {cs : Array Value} (h : w.heap[g]? = some (.cells cs e (0, 0))) (hn : cs.size = n * size) (hm : n ≤ maxLen) : ORow w e size (.slice (some ⟨g, 0, none⟩) n n) n cs.toList :=
  ⟨by simpa using hn, Or.inr ⟨g, 0, n, cs, rfl, h, Nat.le_refl _, hm, by omega, by rw [List.drop_zero, ← hn]; exact List.take_of_length_le (by simp)⟩⟩
end

/-! ### What is somebody's own -/
/-- A row that lies in blocks of G. -/
structure Row (e : TypeId) (size : Nat) (v : Value) (n : Nat) (xs : List Value) (w : World) (G : Nat → Prop) : Prop where
  row : ORow w e size v n xs
  own : ∀ k, v.ownBlock = some k → G k
  lt : ∀ k, G k → k < w.heap.size
section
variable {w W w' : World} {e : TypeId} {size n n' : Nat} {v v' : Value} {xs xs' : List Value} {G : Nat → Prop}
theorem Row.kept (h : Row e size v n xs w G) {K : Nat → Prop} (hk : Kept K w w') (hd : ∀ k, G k → ¬ K k) : Row e size v n xs w' G :=
  ⟨h.row.kept hk fun k hb => hd k (h.own k hb), h.own, fun k hk2 => Nat.lt_of_lt_of_le (h.lt k hk2) hk.size⟩
theorem Row.nil (w : World) (e : TypeId) (size : Nat) : Row e size (.slice none 0 0) 0 [] w (fun _ => False) := ⟨ORow.nil _ _ _, fun k hk => by simp [Value.ownBlock] at hk, fun _ h => h.elim⟩
theorem Grown.kept (hg : Grown W e size v n' xs' v' w') (hb : Below w.heap.size w W) (hG : ∀ k, v.ownBlock = some k → G k) : Kept G w w' := by
  have hs := hb.size
  exact ⟨hg.grew.os.trans hb.os, hg.grew.tape.trans hb.tape, hg.grew.output.trans hb.output, Nat.le_trans hs hg.grew.size, fun k hk hn => by rw [hg.grew.block k (by omega) (fun e => hn (hG k e.symm)), hb.block k hk]⟩
theorem Row.app (h : Row e size v n xs w G) (hb : Below w.heap.size w W) (hg : Grown W e size v n' xs' v' w') : ∃ G', Row e size v' n' xs' w' G' ∧ Grew w G G' ∧ Kept G w w' := by
  have hs := hb.size
  have hk := hg.kept hb h.own
  refine ⟨fun k => G k ∨ (w.heap.size ≤ k ∧ k < w'.heap.size), ⟨hg.row, fun k hk' => ?_, fun k hk' => ?_⟩, fun k hk' => hk'.imp id And.left, hk⟩
  · rcases hg.own k hk' with h1 | h1
    · exact Or.inl (h.own k h1)
    · exact Or.inr ⟨by omega, hg.row.lt k hk'⟩
  · rcases hk' with h1 | h1
    · exact Nat.lt_of_lt_of_le (h.lt k h1) hk.size
    · exact h1.2
end

/-! ### Several things side by side -/
/-- A thing in memory, told by the blocks that are its own: what else changes leaves it as it is. -/
structure Thg where
  P : World → (Nat → Prop) → Prop
  kept : ∀ {w w' : World} {G K : Nat → Prop}, P w G → Kept K w w' → (∀ k, G k → ¬ K k) → P w' G
  lt : ∀ {w : World} {G : Nat → Prop}, P w G → ∀ k, G k → k < w.heap.size
def rowT (e : TypeId) (size : Nat) (v : Value) (n : Nat) (xs : List Value) : Thg := ⟨Row e size v n xs, fun h hk hd => Row.kept h hk hd, fun h => h.lt⟩
/-- A thing after a call. -/
def After (T : Thg) (w : World) (G : Nat → Prop) (w' : World) : Prop := ∃ G', T.P w' G' ∧ Grew w G G' ∧ Kept G w w'
section
variable {T : Thg} {w w1 w' : World} {G : Nat → Prop}
theorem After.from (h : After T w1 G w') (hb : Below w.heap.size w w1) : After T w G w' := by
  obtain ⟨G', hp, hg, hk⟩ := h
  have hs := hb.size
  exact ⟨G', hp, fun k hk => (hg k hk).imp id (fun h => by omega), hk.os.trans hb.os, hk.tape.trans hb.tape, hk.output.trans hb.output, Nat.le_trans hs hk.size, fun k h1 hn => (hk.block k (by omega) hn).trans (hb.block k h1)⟩
theorem After.below (h : After T w G w1) (hb : Below w1.heap.size w1 w') : After T w G w' := by
  obtain ⟨G', hp, hg, hk⟩ := h
  have hs := hb.size
  have h1 := hk.size
  exact ⟨G', T.kept hp (Kept.of_below (G := fun _ => False) hb) (fun _ _ h => h), hg, hb.os.trans hk.os, hb.tape.trans hk.tape, hb.output.trans hk.output, by omega, fun k h2 hn => (hb.block k (by omega)).trans (hk.block k h2 hn)⟩
theorem After.size (h : After T w G w') : w.heap.size ≤ w'.heap.size := by
  obtain ⟨G', hp, hg, hk⟩ := h
  exact hk.size
end
/-- The things Ts, each in blocks of its own, all made since w0; what was there before is as it was. -/
structure St (w0 : World) (Ts : List Thg) (w : World) : Prop where
  ex : ∃ C : Nat → Nat, (∀ k, C k ≠ 0 → w0.heap.size ≤ k ∧ k < w.heap.size) ∧ ∀ (i : Nat) (T : Thg), Ts[i]? = some T → T.P w (fun k => C k = i + 1)
  bel : Below w0.heap.size w0 w
section
variable {w0 w w' : World} {Ts : List Thg} {T T' : Thg} {i : Nat}
theorem St.start (w : World) : St w [] w := ⟨⟨fun _ => 0, fun _ h => absurd rfl h, fun i T h => by simp at h⟩, Below.refl _ _⟩
theorem St.below (h : St w0 Ts w) (hb : Below w.heap.size w w') : St w0 Ts w' := by
  obtain ⟨C, h1, h2⟩ := h.ex
  refine ⟨⟨C, fun k hk => ?_, fun i T hi => T.kept (h2 i T hi) (Kept.of_below (G := fun _ => False) hb) (fun _ _ h => h)⟩, h.bel.trans (hb.mono h.bel.size)⟩
  have := h1 k hk
  exact ⟨this.1, Nat.lt_of_lt_of_le this.2 hb.size⟩
theorem St.drew (h : St w0 Ts w) : St w0 Ts w.drew := h.below (Below.refl _ _).drew
/-- One thing is looked at, and something becomes of it. -/
theorem St.opened (h : St w0 Ts w) (hi : Ts[i]? = some T) : ∃ G, T.P w G ∧ (∀ k, G k → w0.heap.size ≤ k) ∧ ∀ w' T', After T' w G w' → St w0 (Ts.set i T') w' := by
  obtain ⟨C, h1, h2⟩ := h.ex
  refine ⟨fun k => C k = i + 1, h2 i T hi, fun k hk => (h1 k (by omega)).1, fun w' T' ⟨G', hp, hg, hk⟩ => ?_⟩
  have hil : i < Ts.length := (List.getElem?_eq_some_iff.1 hi).1
  classical
  refine ⟨⟨fun k => if G' k then i + 1 else if C k = i + 1 then 0 else C k, fun k hk' => ?_, fun j U hj => ?_⟩, ?_⟩
  · by_cases c1 : G' k
    · refine ⟨?_, T'.lt hp k c1⟩
      rcases hg k c1 with c2 | c2
      · exact (h1 k (by omega)).1
      · exact Nat.le_trans h.bel.size c2
    · by_cases c2 : C k = i + 1
      · simp [c1, c2] at hk'
      · simp only [c1, c2, if_false] at hk'
        have := h1 k hk'
        exact ⟨this.1, Nat.lt_of_lt_of_le this.2 hk.size⟩
  · rw [List.getElem?_set] at hj
    by_cases c1 : i = j
    · subst c1
      simp only [if_true, hil, Option.some.injEq] at hj
      subst hj
      have : (fun k => (if G' k then i + 1 else if C k = i + 1 then 0 else C k) = i + 1) = G' := by
        funext k
        by_cases c1 : G' k
        · simp [c1]
        · by_cases c2 : C k = i + 1
          · simp [c1, c2]
          · simp [c1, c2]
      rw [this]
      exact hp
    · rw [if_neg c1] at hj
      have hU := U.kept (h2 j U hj) hk (fun k e1 e2 => c1 (by omega))
      have : (fun k => (if G' k then i + 1 else if C k = i + 1 then 0 else C k) = j + 1) = fun k => C k = j + 1 := by
        funext k
        by_cases c2 : G' k
        · have c3 : C k ≠ j + 1 := by
            intro c3
            rcases hg k c2 with c4 | c4
            · omega
            · have := h1 k (by omega)
              omega
          have c4 : ¬ i = j := c1
          simp [c2, c3, c4]
        · by_cases c3 : C k = i + 1
          · have c4 : ¬ i = j := c1
            have c5 : ¬ C k = j + 1 := by omega
            simp [c2, c3, c4]
          · simp [c2, c3]
      rw [this]
      exact hU
  · exact h.bel.trans (hk.below (fun k hk' => (h1 k (by omega)).1) h.bel.size)
/-- Some of them are no longer looked at. -/
theorem St.weaken {Us : List Thg} (h : St w0 (Ts ++ Us) w) : St w0 Ts w := by
  obtain ⟨C, h1, h2⟩ := h.ex
  exact ⟨⟨C, h1, fun i T hi => h2 i T (by rw [List.getElem?_append_left (List.getElem?_eq_some_iff.1 hi).1]; exact hi)⟩, h.bel⟩
/-- A new thing. -/
theorem St.add (h : St w0 Ts w) (hb : Below w.heap.size w w') {G : Nat → Prop} (hp : T.P w' G) (hG : ∀ k, G k → w.heap.size ≤ k) : St w0 (Ts ++ [T]) w' := by
  obtain ⟨C, h1, h2⟩ := h.ex
  have hs := h.bel.size
  classical
  refine ⟨⟨fun k => if G k then Ts.length + 1 else if C k ≤ Ts.length then C k else 0, fun k hk => ?_, fun j U hj => ?_⟩, h.bel.trans (hb.mono h.bel.size)⟩
  · by_cases c1 : G k
    · exact ⟨Nat.le_trans hs (hG k c1), T.lt hp k c1⟩
    · simp only [c1, if_false] at hk
      have h3 : C k ≠ 0 := by
        intro e
        rw [e] at hk
        simp at hk
      have := h1 k h3
      exact ⟨this.1, Nat.lt_of_lt_of_le this.2 hb.size⟩
  · rcases Nat.lt_or_ge j Ts.length with c1 | c1
    · rw [List.getElem?_append_left c1] at hj
      have hU := U.kept (h2 j U hj) (Kept.of_below (G := fun _ => False) hb) (fun _ _ h => h)
      have : (fun k => (if G k then Ts.length + 1 else if C k ≤ Ts.length then C k else 0) = j + 1) = fun k => C k = j + 1 := by
        funext k
        by_cases c2 : G k
        · have c3 : C k ≠ j + 1 := by
            intro c3
            have := h1 k (by omega)
            have := hG k c2
            omega
          have c4 : ¬ Ts.length = j := by omega
          simp [c2, c3, c4]
        · by_cases c3 : C k ≤ Ts.length
          · simp [c2, c3]
          · have c4 : ¬ C k = j + 1 := by omega
            simp [c2, c3, c4]
      rw [this]
      exact hU
    · rw [List.getElem?_append_right c1] at hj
      have c2 : j = Ts.length := by
        rcases Nat.lt_or_ge (j - Ts.length) 1 with c | c
        · omega
        · rw [List.getElem?_eq_none (by simpa using c)] at hj
          cases hj
      subst c2
      simp only [Nat.sub_self, List.getElem?_cons_zero, Option.some.injEq] at hj
      subst hj
      have : (fun k => (if G k then Ts.length + 1 else if C k ≤ Ts.length then C k else 0) = Ts.length + 1) = G := by
        funext k
        by_cases c1 : G k
        · simp [c1]
        · by_cases c2 : C k ≤ Ts.length
          · have : ¬ C k = Ts.length + 1 := by omega
            simp [c1, c2, this]
          · simp [c1, c2]
      rw [this]
      exact hp
end

/-! ### A struct that begins with a slice of its own -/
structure BAt (ty e : TypeId) (size p : Nat) (X : Value) (more : List Value) (n : Nat) (xs : List Value) (w : World) (G : Nat → Prop) : Prop where
  box : w.heap[p]? = some (.cells (X :: more).toArray ty (0, 0))
  row : ORow w e size X n xs
  mine : G p
  own : ∀ k, X.ownBlock = some k → G k ∧ k ≠ p
  lt : ∀ k, G k → k < w.heap.size
section
variable {ty e : TypeId} {size p n n' : Nat} {X X' : Value} {more : List Value} {xs xs' : List Value} {w W w' : World} {G : Nat → Prop}
theorem BAt.kept (h : BAt ty e size p X more n xs w G) {K : Nat → Prop} (hk : Kept K w w') (hd : ∀ k, G k → ¬ K k) : BAt ty e size p X more n xs w' G :=
  ⟨(hk.block p (h.lt p h.mine) (hd p h.mine)).trans h.box, h.row.kept hk fun k hb => hd k (h.own k hb).1, h.mine, h.own, fun k hk2 => Nat.lt_of_lt_of_le (h.lt k hk2) hk.size⟩
theorem BAt.below (h : BAt ty e size p X more n xs w G) (hb : Below w.heap.size w w') : BAt ty e size p X more n xs w' G := h.kept (Kept.of_below (G := fun _ => False) hb) fun _ _ h => h
theorem BAt.cell (h : BAt ty e size p X more n xs w G) (j : Nat) : w.cell? ⟨p, j, none⟩ = (X :: more)[j]? := by
  rw [cell_of_row w p j _ _ _ h.box]
  simp
theorem BAt.frozen (h : BAt ty e size p X more n xs w G) (j : Nat) : w.frozen? ⟨p, j, none⟩ = false := by
  have h' := h.box
  simp [World.frozen?, h']
/-- Another slice is put in its place. -/
theorem BAt.put0 (h : BAt ty e size p X more n xs w G) (hk : Kept G w w') (hp : w'.heap[p]? = w.heap[p]?) (hr : ORow w' e size X' n' xs') (ho : ∀ k, X'.ownBlock = some k → X.ownBlock = some k ∨ w.heap.size ≤ k) :
    After ⟨BAt ty e size p X' more n' xs', fun h hk hd => BAt.kept h hk hd, fun h => h.lt⟩ w G (w'.setCell ⟨p, 0, none⟩ X') := by
  have hsz : (w'.setCell ⟨p, 0, none⟩ X').heap.size = w'.heap.size := by simp [World.setCell]
  have hlt := h.lt p h.mine
  have hne : ∀ k, X'.ownBlock = some k → k ≠ p := fun k hk' => by
    rcases ho k hk' with h1 | h1
    · exact (h.own k h1).2
    · omega
  have hkk : Kept G w (w'.setCell ⟨p, 0, none⟩ X') := by
    refine ⟨hk.os, hk.tape, hk.output, by rw [hsz]; exact hk.size, fun k hl hn => ?_⟩
    rw [heap_setCell_other _ _ _ _ (fun e => hn (by have e' : k = p := e; rw [e']; exact h.mine))]
    exact hk.block k hl hn
  refine ⟨fun k => G k ∨ (w.heap.size ≤ k ∧ k < w'.heap.size), ⟨?_, ?_, Or.inl h.mine, fun k hk' => ⟨?_, hne k hk'⟩, fun k hk' => ?_⟩, fun k hk' => hk'.imp id And.left, hkk⟩
  · rw [heap_setCell_same w' p 0 _ _ X' (hp.trans h.box)]
    rfl
  · exact hr.same fun k hk' => heap_setCell_other _ _ _ _ (hne k hk')
  · rcases ho k hk' with h1 | h1
    · exact Or.inl (h.own k h1).1
    · exact Or.inr ⟨h1, hr.lt k hk'⟩
  · rw [hsz]
    rcases hk' with h1 | h1
    · exact Nat.lt_of_lt_of_le (h.lt k h1) hk.size
    · exact h1.2
theorem BAt.p_same (h : BAt ty e size p X more n xs w G) (hb : Below w.heap.size w W) (hg : Grown W e size X n' xs' X' w') : w'.heap[p]? = w.heap[p]? := by
  have hlt := h.lt p h.mine
  rw [hg.grew.block p (Nat.lt_of_lt_of_le hlt hb.size) (fun e => (h.own p e.symm).2 rfl), hb.block p hlt]
theorem BAt.put (h : BAt ty e size p X more n xs w G) (hb : Below w.heap.size w W) (hg : Grown W e size X n' xs' X' w') :
    After ⟨BAt ty e size p X' more n' xs', fun h hk hd => BAt.kept h hk hd, fun h => h.lt⟩ w G (w'.setCell ⟨p, 0, none⟩ X') :=
  h.put0 (hg.kept hb fun k hk => (h.own k hk).1) (h.p_same hb hg) hg.row fun k hk => (hg.own k hk).imp id fun h1 => by have := hb.size; omega
theorem BAt.cell' (h : BAt ty e size p X more n xs w G) (hp : w'.heap[p]? = w.heap[p]?) (j : Nat) : w'.cell? ⟨p, j, none⟩ = (X :: more)[j]? := by
  rw [cell_of_row w' p j _ _ _ (hp.trans h.box)]
  simp
theorem BAt.frozen' (h : BAt ty e size p X more n xs w G) (hp : w'.heap[p]? = w.heap[p]?) (j : Nat) : w'.frozen? ⟨p, j, none⟩ = false := by
  have h' := hp.trans h.box
  simp [World.frozen?, h']
/-- Another cell is stored. -/
theorem BAt.set (h : BAt ty e size p X more n xs w G) (j : Nat) (v : Value) : BAt ty e size p X (more.set j v) n xs (w.setCell ⟨p, j + 1, none⟩ v) G ∧ Kept G w (w.setCell ⟨p, j + 1, none⟩ v) := by
  have hsz : (w.setCell ⟨p, j + 1, none⟩ v).heap.size = w.heap.size := by simp [World.setCell]
  refine ⟨⟨?_, h.row.same fun k hk => heap_setCell_other _ _ _ _ (h.own k hk).2, h.mine, h.own, fun k hk => by rw [hsz]; exact h.lt k hk⟩, ⟨rfl, rfl, rfl, by rw [hsz]; exact Nat.le_refl _, fun k _ hn => heap_setCell_other _ _ _ _ (fun e => hn (by have e' : k = p := e; rw [e']; exact h.mine))⟩⟩
  rw [heap_setCell_same w p (j + 1) _ _ v h.box]
  simp
/-- A fresh one. -/
theorem BAt.fresh (w : World) (ty e : TypeId) (size : Nat) (more : List Value) : BAt ty e size w.heap.size (.slice none 0 0) more 0 [] (w.alloc (.cells (.slice none 0 0 :: more).toArray ty)) (· = w.heap.size) :=
  ⟨heap_alloc_new w _, ORow.nil _ _ _, rfl, fun k hk => by simp [Value.ownBlock] at hk, fun k hk => by rw [hk]; simp⟩
end

/-! ### clear of the first ones, then a later beginning -/
/-- What clear leaves. -/
def Cleared (w : World) (g o k : Nat) (w' : World) : Prop := ∀ cur e, w.heap[g]? = some (.cells cur e (0, 0)) → ∃ cur' : Array Value, w' = w.setRow g cur' ∧ cur'.size = cur.size ∧ cur'.toList.drop (o + k) = cur.toList.drop (o + k)
theorem Cleared.kept {w w' : World} {g o k : Nat} (h : Cleared w g o k w') {cur : Array Value} {e : TypeId} (hg : w.heap[g]? = some (.cells cur e (0, 0))) : Kept (· = g) w w' := by
  obtain ⟨cur', rfl, _, _⟩ := h cur e hg
  exact ⟨rfl, rfl, rfl, by simp, fun i _ hn => setRow_other _ _ _ _ hn⟩
theorem ORow.cleared {w w' : World} {e : TypeId} {size n c m g o : Nat} {xs : List Value} (h : ORow w e size (.slice (some ⟨g, o, none⟩) n c) n xs) (hm : m ≤ n) (hc : Cleared w g o (m * size) w') :
    ORow w' e size (if c = m then .slice (some ⟨g, o, none⟩) 0 0 else .slice (some ⟨g, o + m * size, none⟩) (n - m) (c - m)) (n - m) (xs.drop (m * size)) := by
  have hmul : n * size = m * size + (n - m) * size := by rw [← Nat.add_mul]; congr 1; omega
  rcases h.2 with ⟨h0, _⟩ | ⟨g', o', cap, cur, h0, hg, h1, h2, h3, h4⟩
  · simp at h0
  · simp only [Value.slice.injEq, Option.some.injEq, Addr.mk.injEq] at h0
    obtain ⟨⟨rfl, rfl, _⟩, _, rfl⟩ := h0
    obtain ⟨cur', rfl, hs, hd⟩ := hc cur e hg
    have hg' := setRow_heap w g cur cur' e _ hg
    have hmc : c * size = m * size + (c - m) * size := by rw [← Nat.add_mul]; congr 1; omega
    have hx : xs.drop (m * size) = (cur'.toList.drop (o + m * size)).take ((n - m) * size) := by
      rw [hd, ← h4, hmul, List.drop_take, Nat.add_sub_cancel_left, List.drop_drop]
    refine ⟨by rw [List.length_drop, h.1]; omega, ?_⟩
    by_cases he : c = m
    · have : n - m = 0 := by omega
      rw [if_pos he]
      exact Or.inr ⟨g, o, 0, cur', by rw [this], hg', by omega, Nat.zero_le _, by omega, by rw [hx, this]; simp⟩
    · rw [if_neg he]
      exact Or.inr ⟨g, o + m * size, c - m, cur', rfl, hg', by omega, by omega, by omega, hx.symm⟩
theorem run_clear {P : Program} {t e : TypeId} {size bytes : Nat} (hA : AppTy P t e size bytes) (hone : ∀ i z, P.info? e = some i → i.zero = some z → ∀ j (h : j < z.cells.size), (z.cells[j]).oneCell' = true) (h0 : 0 < size) (w : World) (ty : TypeId) {g o n c : Nat} {xs : List Value} {N : Nat} (hr : ORow w e size (.slice (some ⟨g, o, none⟩) N c) N xs) (hn : 0 < n) (hnN : n ≤ N) :
    ∃ w', (Builtin.clear_ #[t] ty #[.slice (some ⟨g, o, none⟩) n c]).run P w = .ok (.tuple #[]) w' ∧ Cleared w g o (n * size) w' := by
  obtain ⟨ht, i, z, hi, hz, hsize, hby, hzs⟩ := hA
  have hone' := hone i z hi hz
  rcases hr.2 with ⟨h1, _⟩ | ⟨g', o', cap, cur, h1, hg, h2, h3, h4, h5⟩
  · simp at h1
  · simp only [Value.slice.injEq, Option.some.injEq, Addr.mk.injEq] at h1
    obtain ⟨⟨rfl, rfl, _⟩, _, rfl⟩ := h1
    obtain ⟨zs, hzz⟩ : ∃ zs, zs = (Builtin.zeroCells z.cells n).toList := ⟨_, rfl⟩
    have hlen : zs.length = n * size := by rw [hzz]; simp [Builtin.zeroCells, hzs]
    have hzo : ∀ v ∈ zs, v.oneCell' = true := by
      intro v hv
      rw [hzz] at hv
      simp only [Builtin.zeroCells, Array.toList_map, List.mem_map] at hv
      obtain ⟨j, _, rfl⟩ := hv
      have hm := Nat.mod_lt j (show 0 < z.cells.size by omega)
      rw [getElem!_pos z.cells (j % z.cells.size) hm]
      exact hone' _ hm
    have hle : n * size ≤ c * size := Nat.mul_le_mul_right _ (by omega)
    have a := run_storeCells_at (P := P) g o e zs 0 cur w hg (by rw [hlen]; omega) hzo
    simp only [Nat.add_zero] at a
    obtain ⟨m, rfl⟩ : ∃ m, n = m + 1 := ⟨n - 1, by omega⟩
    have hz' : (zeroValue e).run P w = .ok z w := by simp [zeroValue, typeInfo, hi, hz]
    rw [hzz] at a
    refine ⟨_, by simp only [Builtin.clear_, Sem.run_bind, run_underlying ht, Result.andThen_ok, hz', a, Sem.run_pure, List.getElem?_toArray, List.getElem?_cons_zero]; rfl, fun cur2 e2 hg2 => ?_⟩
    rw [hg] at hg2
    simp only [Option.some.injEq, Obj.cells.injEq] at hg2
    obtain ⟨rfl, _, _⟩ := hg2
    refine ⟨_, rfl, ?_, ?_⟩
    · rw [← hzz]
      simp only [List.size_toArray, List.length_append, List.length_take, List.length_drop, Array.length_toList]
      omega
    · rw [← hzz]
      have hlt : (cur.toList.take o ++ zs).length = o + (m + 1) * size := by
        rw [List.length_append, List.length_take, Array.length_toList, hlen]
        omega
      rw [List.drop_left' hlt, hlen]
theorem wpList_clear {P : Program} {ops : Array Oper} {rest : List Oper} {op : Oper} {a : Act} {w : World} {Q : Exit → Act → World → Prop} {t e : TypeId} {size bytes : Nat} (hA : AppTy P t e size bytes) (hone : ∀ i z, P.info? e = some i → i.zero = some z → ∀ j (h : j < z.cells.size), (z.cells[j]).oneCell' = true) (h0 : 0 < size)
    (hgd : op.guard = none) (s : Operand) (ho : op.op = .call { callee := .builtin .clear, args := #[s], argTypes := #[t] })
    {g o n c : Nat} {xs : List Value} {N : Nat} (hr : ORow w e size (.slice (some ⟨g, o, none⟩) N c) N xs) (hn : 0 < n) (hnN : n ≤ N) (hs : a.eval s = .slice (some ⟨g, o, none⟩) n c)
    (h : ∀ w', Hid (Cleared w g o (n * size) w') → wpList P ops Q rest (a.put op.dst (.tuple #[])) w') : wpList P ops Q (op :: rest) a w := by
  refine wpList_plain hgd fun K hK => ?_
  obtain ⟨w', hrun, hc⟩ := run_clear hA hone h0 w op.type hr hn hnN
  unfold Oper.wp execOp
  simp only [ho, resolve, invoke, builtin, Sem.run_bind, Sem.run_pure, Result.andThen_ok, List.map_toArray, List.map_cons, List.map_nil, hs, hrun]
  exact hK _ _ (h w' hc)

end Go.Proofs.YtmbhnhfnimijcaaDoor.Wn
