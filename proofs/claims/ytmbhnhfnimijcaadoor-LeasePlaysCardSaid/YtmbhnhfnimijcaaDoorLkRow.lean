/-
  A row that loses one piece: copy over the gap, clear of the last one, an earlier end. Plain theorems, no program of the project.
-/
import Derived.Laws.CopyRow
import Derived.Test.YtmbhnhfnimijcaaDoorWnRow
namespace Go.Proofs.YtmbhnhfnimijcaaDoor.Lk
open Go.RowKit
open Pk Dk Wn

/-! ### Lists of pieces of one length -/
section
variable {α β : Type} {f : α → List β} {m : Nat}
theorem flat_take : ∀ (l : List α), (∀ x ∈ l, (f x).length = m) → ∀ k, (l.take k).flatMap f = (l.flatMap f).take (k * m)
  | [], _, k => by simp
  | a :: r, h, 0 => by simp
  | a :: r, h, k + 1 => by
    have ha := h a (by simp)
    rw [List.take_succ_cons, List.flatMap_cons, List.flatMap_cons, flat_take r (fun x hx => h x (by simp [hx])) k, List.take_append, ha, List.take_of_length_le (l := f a) (by rw [ha, Nat.add_mul]; omega)]
    congr 2
    rw [Nat.add_mul]
    omega
theorem flat_drop : ∀ (l : List α), (∀ x ∈ l, (f x).length = m) → ∀ k, (l.drop k).flatMap f = (l.flatMap f).drop (k * m)
  | [], _, k => by simp
  | a :: r, h, 0 => by simp
  | a :: r, h, k + 1 => by
    have ha := h a (by simp)
    rw [List.drop_succ_cons, List.flatMap_cons, flat_drop r (fun x hx => h x (by simp [hx])) k, List.drop_append, ha, List.drop_of_length_le (l := f a) (by rw [ha, Nat.add_mul]; omega), List.nil_append]
    congr 1
    rw [Nat.add_mul]
    omega
theorem flat_erase (l : List α) (h : ∀ x ∈ l, (f x).length = m) (i : Nat) : (l.eraseIdx i).flatMap f = (l.flatMap f).take (i * m) ++ (l.flatMap f).drop ((i + 1) * m) := by
  rw [List.eraseIdx_eq_take_drop_succ, List.flatMap_append, flat_take l h, flat_drop l h]
end

section
variable {P : Program} {t e : TypeId} {size bytes : Nat}
/-- The row's block. -/
theorem ORow.block {w : World} {n c g o : Nat} {xs : List Value} (hr : ORow w e size (.slice (some ⟨g, o, none⟩) n c) n xs) : ∃ cur, w.heap[g]? = some (.cells cur e (0, 0)) ∧ n ≤ c ∧ c ≤ maxLen ∧ o + c * size ≤ cur.size ∧ (cur.toList.drop o).take (n * size) = xs := by
  rcases hr.2 with ⟨h1, _⟩ | ⟨g', o', cap, cur, h1, hg, h2, h3, h4, h5⟩
  · simp at h1
  · simp only [Value.slice.injEq, Option.some.injEq, Addr.mk.injEq] at h1
    obtain ⟨⟨rfl, rfl, _⟩, _, rfl⟩ := h1
    exact ⟨cur, hg, h2, h3, h4, h5⟩
/-- What a copy over the gap of piece i leaves: d pieces come forward. -/
theorem run_copy_gap (hA : AppTy P t e size bytes) (w : World) (ty : TypeId) {g o n c i d : Nat} {xs : List Value} (hr : ORow w e size (.slice (some ⟨g, o, none⟩) n c) n xs) (h1 : ∀ u ∈ xs, u.oneCell' = true) (hn : n = i + 1 + d) (S : Value)
    (hS : S = if c = i + 1 then .slice (some ⟨g, o, none⟩) 0 0 else .slice (some ⟨g, o + (i + 1) * size, none⟩) (n - (i + 1)) (c - (i + 1))) :
    ∃ w1 ys, (Builtin.copy_ #[t, t] ty #[.slice (some ⟨g, o + i * size, none⟩) (n - i) (c - i), S]).run P w = .ok (.int .i64 (d : Int)) w1 ∧ ORow w1 e size (.slice (some ⟨g, o, none⟩) n c) n ys ∧ ys.take ((i + d) * size) = xs.take (i * size) ++ xs.drop ((i + 1) * size) ∧ Kept (· = g) w w1 := by
  obtain ⟨ht, inf, z, hi, hz, hsize, hby, hzs⟩ := hA
  obtain ⟨cur, hg, hnc, hcm, hcs, htake⟩ := ORow.block hr
  subst hn
  have e1 : (i + 1 + d) * size = i * size + size + d * size := by rw [Nat.add_mul, Nat.add_mul, Nat.one_mul]
  have e2 : (i + 1) * size = i * size + size := by rw [Nat.add_mul, Nat.one_mul]
  have e3 : (i + d) * size = i * size + d * size := by rw [Nat.add_mul]
  have e4 : (i + 1 + d) * size ≤ c * size := Nat.mul_le_mul_right _ hnc
  have hxl := hr.1
  obtain ⟨news, hnews⟩ : ∃ news, news = xs.drop ((i + 1) * size) := ⟨_, rfl⟩
  have hnl : news.length = d * size := by rw [hnews, List.length_drop, hxl]; omega
  have hn1 : ∀ u ∈ news, u.oneCell' = true := fun u hu => h1 u (by rw [hnews] at hu; exact List.mem_of_mem_drop hu)
  have hcell : ∀ j u, xs[j]? = some u → w.cell? ⟨g, o + j, none⟩ = some u := fun j u hj => by
    obtain ⟨A, c', hA, _, _, hcc⟩ := hr.form
    obtain ⟨g', o', e', _, h3⟩ := hcc (by rintro rfl; simp at hj)
    subst e'
    simp only [Value.slice.injEq, Option.some.injEq, Addr.mk.injEq] at hA
    obtain ⟨⟨rfl, rfl, _⟩, _, _⟩ := hA
    exact h3 j u hj
  have hst := run_storeCells_at P g (o + i * size) e news 0 cur w hg (by rw [hnl]; omega) hn1
  simp only [Nat.add_zero] at hst
  obtain ⟨cur', hcur'⟩ : ∃ cur' : Array Value, cur' = (cur.toList.take (o + i * size) ++ news ++ cur.toList.drop (o + i * size + news.length)).toArray := ⟨_, rfl⟩
  rw [← hcur'] at hst
  have hcsz : cur'.size = cur.size := by
    rw [hcur']
    simp only [List.size_toArray, List.length_append, List.length_take, List.length_drop, Array.length_toList]
    omega
  have hf : (Builtin.firstCells inf.size d S).run P w = .ok news.toArray w := by
    by_cases hd : d = 0
    · subst hd
      have hnil : news = [] := List.eq_nil_of_length_eq_zero (by simpa using hnl)
      rw [hnil]
      split at hS <;> subst hS <;> exact run_firstCells_some w inf.size 0 _ _ _ [] (by simp) (fun j u hj => by simp at hj)
    · rw [if_neg (by omega)] at hS
      subst hS
      refine run_firstCells_some w inf.size d _ _ _ news (by rw [hnl, hsize]) (fun j u hj => ?_)
      rw [Addr.add_lit, Nat.add_assoc]
      rw [hnews, List.getElem?_drop] at hj
      exact hcell _ _ hj
  refine ⟨w.setRow g cur', (cur'.toList.drop o).take ((i + 1 + d) * size), ?_, ⟨?_, Or.inr ⟨g, o, c, cur', rfl, setRow_heap w g cur cur' e _ hg, hnc, hcm, by omega, rfl⟩⟩, ?_, ⟨rfl, rfl, rfl, by simp, fun k _ hn => setRow_other _ _ _ _ hn⟩⟩
  · have hlen : (Builtin.lenOf S).run P w = .ok d w := by
      split at hS
      · subst hS
        have : d = 0 := by omega
        simp [Builtin.lenOf, this]
      · subst hS
        simp [Builtin.lenOf, show i + 1 + d - (i + 1) = d by omega]
    have hmin : Nat.min d (i + 1 + d - i) = d := by
      have : i + 1 + d - i = d + 1 := by omega
      rw [this]
      exact Nat.min_eq_left (by omega)
    have hso : (sizeOf e).run P w = .ok inf.size w := by simp [sizeOf, typeInfo, hi]
    simp [Builtin.copy_, run_underlying ht, hlen, hmin, hso, hf, hst, goInt]
  · simp only [List.length_take, List.length_drop, Array.length_toList]
    omega
  · have hto : (cur.toList.take (o + i * size)).length = o + i * size := by rw [List.length_take, Array.length_toList]; omega
    have hx1 : xs.take (i * size) = (cur.toList.take (o + i * size)).drop o := by
      rw [← htake, List.take_take, Nat.min_eq_left (by omega), List.drop_take, Nat.add_sub_cancel_left]
    rw [List.take_take, Nat.min_eq_left (by omega), hcur', ← hnews, hx1, List.append_assoc, List.drop_append_of_le_length (by omega), ← List.append_assoc]
    have hl2 : ((cur.toList.take (o + i * size)).drop o ++ news).length = (i + d) * size := by
      rw [List.length_append, List.length_drop, hto, hnl]
      omega
    rw [← hl2]
    exact List.take_left
/-- What clear of the pieces from k on leaves. -/
theorem run_clear_from (hA : AppTy P t e size bytes) (hone : ∀ i z, P.info? e = some i → i.zero = some z → ∀ j (h : j < z.cells.size), (z.cells[j]).oneCell' = true) (h0 : 0 < size) (w : World) (ty : TypeId) {g o n c k : Nat} {ys : List Value} (hr : ORow w e size (.slice (some ⟨g, o, none⟩) n c) n ys) (hk : k < n) :
    ∃ w2, (Builtin.clear_ #[t] ty #[.slice (some ⟨g, o + k * size, none⟩) (n - k) (c - k)]).run P w = .ok (.tuple #[]) w2 ∧ ORow w2 e size (.slice (some ⟨g, o, none⟩) k c) k (ys.take (k * size)) ∧ Kept (· = g) w w2 := by
  obtain ⟨ht, i, z, hi, hz, hsize, hby, hzs⟩ := hA
  have hone' := hone i z hi hz
  obtain ⟨cur, hg, hnc, hcm, hcs, htake⟩ := ORow.block hr
  obtain ⟨m, hm⟩ : ∃ m, n - k = m + 1 := ⟨n - k - 1, by omega⟩
  obtain ⟨zs, hzz⟩ : ∃ zs, zs = (Builtin.zeroCells z.cells (m + 1)).toList := ⟨_, rfl⟩
  have hlen : zs.length = (m + 1) * size := by rw [hzz]; simp [Builtin.zeroCells, hzs]
  have hzo : ∀ v ∈ zs, v.oneCell' = true := by
    intro v hv
    rw [hzz] at hv
    simp only [Builtin.zeroCells, Array.toList_map, List.mem_map] at hv
    obtain ⟨j, _, rfl⟩ := hv
    have hm := Nat.mod_lt j (show 0 < z.cells.size by omega)
    rw [getElem!_pos z.cells (j % z.cells.size) hm]
    exact hone' _ hm
  have e1 : n * size = k * size + (m + 1) * size := by rw [← Nat.add_mul]; congr 1; omega
  have e2 : n * size ≤ c * size := Nat.mul_le_mul_right _ hnc
  have a := run_storeCells_at (P := P) g (o + k * size) e zs 0 cur w hg (by rw [hlen]; omega) hzo
  simp only [Nat.add_zero] at a
  obtain ⟨cur', hcur'⟩ : ∃ cur' : Array Value, cur' = (cur.toList.take (o + k * size) ++ zs ++ cur.toList.drop (o + k * size + zs.length)).toArray := ⟨_, rfl⟩
  rw [← hcur'] at a
  have hcsz : cur'.size = cur.size := by
    rw [hcur']
    simp only [List.size_toArray, List.length_append, List.length_take, List.length_drop, Array.length_toList]
    omega
  have hz' : (zeroValue e).run P w = .ok z w := by simp [zeroValue, typeInfo, hi, hz]
  rw [hzz] at a
  refine ⟨w.setRow g cur', ?_, ⟨?_, Or.inr ⟨g, o, c, cur', rfl, setRow_heap w g cur cur' e _ hg, by omega, hcm, by omega, ?_⟩⟩, ⟨rfl, rfl, rfl, by simp, fun k _ hn => setRow_other _ _ _ _ hn⟩⟩
  · rw [hm]
    simp only [Builtin.clear_, Sem.run_bind, run_underlying ht, Result.andThen_ok, hz', a, Sem.run_pure, List.getElem?_toArray, List.getElem?_cons_zero]
  · rw [List.length_take, hr.1]
    omega
  · have hto : (cur.toList.take (o + k * size)).length = o + k * size := by rw [List.length_take, Array.length_toList]; omega
    rw [← htake, List.take_take, Nat.min_eq_left (by omega), hcur', List.append_assoc, List.drop_append_of_le_length (by omega), List.take_append_of_le_length (by rw [List.length_drop, hto]; omega), List.drop_take, Nat.add_sub_cancel_left, List.take_take, Nat.min_self]
end

/-- A copy whose run is known, amid a region. -/
theorem step_copy {P : Program} {ops : Array Oper} {o : Oper} {a : Act} {w w1 : World} {K : Act → World → Prop} {Q : Exit → Act → World → Prop} {E : Prop} {t : TypeId} {S X r : Value} (hgd : o.guard = none) (s x : Operand)
    (ho : o.op = .call { callee := .builtin .copy, args := #[s, x], argTypes := #[t, t] }) (hs : a.eval s = S) (hx : a.eval x = X) {ty : TypeId} (hrun : (Builtin.copy_ #[t, t] ty #[S, X]).run P w = .ok r w1) (h : K (a.put o.dst r) w1) :
    if Region.wanted o (yielded ops a.tmps) = true then Oper.wp P o a w K Q else E := by
  have hw : Region.wanted o (yielded ops a.tmps) = true := by simp [Region.wanted, hgd]
  rw [if_pos hw]
  have hr : (Builtin.copy_ #[t, t] o.type #[S, X]).run P w = .ok r w1 := hrun
  unfold Oper.wp execOp
  simp only [ho, resolve, invoke, builtin, Sem.run_bind, Sem.run_pure, Result.andThen_ok, List.map_toArray, List.map_cons, List.map_nil, hs, hx, hr]
  exact h

end Go.Proofs.YtmbhnhfnimijcaaDoor.Lk
