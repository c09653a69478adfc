/-
  A fence and three sites that are granted an epoch only where the fence renewed it: what is always so. Three sites, a fence and the slice that points to the sites, in memory. Plain theorems.
-/
import Derived.Test.YtmbhnhfnimijcaaDoorLeAwake
namespace Go.Proofs.YtmbhnhfnimijcaaDoor.Le
open Go.RowKit
open Pk Sm Fa Dk Wn Lk

def upd (σ : Nat → Sit) (r : Nat) (s : Sit) : Nat → Sit := fun k => if k = r then s else σ k
theorem upd_same (σ : Nat → Sit) (r : Nat) (s : Sit) : upd σ r s r = s := by simp [upd]
theorem upd_other {σ : Nat → Sit} {r k : Nat} {s : Sit} (h : k ≠ r) : upd σ r s k = σ k := by simp [upd, h]
structure LInv (N : Int) (f : Fen) (σ : Nat → Sit) : Prop where
  n0 : 0 ≤ N
  n1 : N ≤ 100000
  fo : f.Ok
  ft : f.t ≤ N
  fu : f.u ≤ N + 10
  so : ∀ k, k < 3 → (σ k).Ok
  st : ∀ k, k < 3 → (σ k).t ≤ N
  el : ∀ k, k < 3 → (σ k).e ≤ f.l
  uu : ∀ k, k < 3 → (σ k).e ≠ 0 → (σ k).u ≤ f.u
  uf : ∀ k, k < 3 → (σ k).e ≠ 0 → (σ k).e < f.l → (σ k).u ≤ f.f
  un : ∀ j k, j < 3 → k < 3 → (σ k).e ≠ 0 → (σ k).e < (σ j).e → (σ k).u ≤ N
section
variable {N : Int} {f : Fen} {σ : Nat → Sit}
theorem LInv.start : LInv 0 f0 (fun _ => s0) :=
  ⟨by decide, by decide, f0_ok, by decide, by decide, fun _ _ => s0_ok, fun _ _ => (by decide : s0.t ≤ 0), fun _ _ => (by decide : s0.e ≤ f0.l), fun _ _ h => absurd rfl h, fun _ _ h => absurd rfl h, fun _ _ _ _ h => absurd rfl h⟩
theorem LInv.next (h : LInv N f σ) (hN : N + 1 ≤ 100000) : LInv (N + 1) f σ := by
  obtain ⟨n0, n1, fo, ft, fu, so, st, el, uu, uf, un⟩ := h
  exact ⟨by omega, hN, fo, by omega, by omega, so, fun k hk => by have := st k hk; omega, el, uu, uf, fun j k hj hk h1 h2 => by have := un j k hj hk h1 h2; omega⟩
theorem LInv.tk_f (h : LInv N f σ) : tk f.t N = N := tk_now h.ft (by have := h.n1; omega)
theorem LInv.tk_s (h : LInv N f σ) {k : Nat} (hk : k < 3) : tk (σ k).t N = N := tk_now (h.st k hk) (by have := h.n1; omega)
theorem LInv.tickF (h : LInv N f σ) : LInv N (f.tick N) σ :=
  ⟨h.n0, h.n1, h.fo.tick N, by show tk f.t N ≤ N; rw [h.tk_f]; exact Int.le_refl _, h.fu, h.so, h.st, h.el, h.uu, h.uf, h.un⟩
/-- A site of which only the time is another. -/
theorem LInv.site (h : LInv N f σ) {r : Nat} (hr : r < 3) {s : Sit} (ho : s.Ok) (ht : s.t ≤ N) (he : s.e = (σ r).e) (hu : s.u = (σ r).u) : LInv N f (upd σ r s) := by
  obtain ⟨n0, n1, fo, ft, fu, so, st, el, uu, uf, un⟩ := h
  have E : ∀ k, (upd σ r s k).e = (σ k).e := fun k => by
    by_cases hk : k = r
    · subst hk; rw [upd_same]; exact he
    · rw [upd_other hk]
  have U : ∀ k, (upd σ r s k).u = (σ k).u := fun k => by
    by_cases hk : k = r
    · subst hk; rw [upd_same]; exact hu
    · rw [upd_other hk]
  refine ⟨n0, n1, fo, ft, fu, fun k hk => ?_, fun k hk => ?_, fun k hk => by rw [E]; exact el k hk, fun k hk h1 => by rw [U]; exact uu k hk (by rw [← E]; exact h1), fun k hk h1 h2 => by rw [U]; exact uf k hk (by rw [← E]; exact h1) (by rw [← E]; exact h2), fun j k hj hk h1 h2 => by rw [U]; exact un j k hj hk (by rw [← E]; exact h1) (by rw [← E, ← E j]; exact h2)⟩
  · by_cases e : k = r
    · subst e; rw [upd_same]; exact ho
    · rw [upd_other e]; exact so k hk
  · by_cases e : k = r
    · subst e; rw [upd_same]; exact ht
    · rw [upd_other e]; exact st k hk
theorem LInv.tickS (h : LInv N f σ) {r : Nat} (hr : r < 3) : LInv N f (upd σ r ((σ r).tick N)) :=
  h.site hr ((h.so r hr).tick N) (by show tk (σ r).t N ≤ N; rw [h.tk_s hr]; exact Int.le_refl _) rfl rfl
theorem LInv.prom (h : LInv N f σ) (hl : f.l < 1073741824) : LInv N (f.prom N) σ := by
  have ho := h.fo.prom N
  have hf := h.tk_f
  obtain ⟨n0, n1, fo, ft, fu, so, st, el, uu, uf, un⟩ := h
  rw [Fen.prom_ok hl, hf] at ho ⊢
  refine ⟨n0, n1, ho, Int.le_refl _, fu, so, st, fun k hk => ?_, uu, fun k hk h1 _ => ?_, un⟩
  · have := el k hk
    show (σ k).e ≤ f.l + 1
    omega
  · have := uu k hk h1
    show (σ k).u ≤ max N f.u
    omega
/-- A site that is granted what the fence renewed. -/
theorem LInv.grant (h : LInv N f σ) {r : Nat} (hr : r < 3) (_ : f.l ≠ 0) (h2 : f.f ≤ N) : LInv N ⟨N, f.l, f.f, N + 10⟩ (upd σ r ⟨N, f.l, N + 10⟩) := by
  obtain ⟨n0, n1, fo, ft, fu, so, st, el, uu, uf, un⟩ := h
  have l0 := fo.l0
  have l1 := fo.l1
  have f0 := fo.f0
  have f1 := fo.f1
  refine ⟨n0, n1, ⟨n0, by simp only; omega, l0, l1, f0, f1, by simp only; omega, by simp only; omega⟩, Int.le_refl _, Int.le_refl _, fun k hk => ?_, fun k hk => ?_, fun k hk => ?_, fun k hk => ?_, fun k hk => ?_, fun j k hj hk => ?_⟩
  · by_cases e : k = r
    · subst e; rw [upd_same]; exact ⟨n0, by simp only; omega, l0, by simp only; omega, by simp only; omega, by simp only; omega⟩
    · rw [upd_other e]; exact so k hk
  · by_cases e : k = r
    · subst e; rw [upd_same]; exact Int.le_refl _
    · rw [upd_other e]; exact st k hk
  · by_cases e : k = r
    · subst e; rw [upd_same]; exact Int.le_refl _
    · rw [upd_other e]; exact el k hk
  · by_cases e : k = r
    · subst e; rw [upd_same]; exact fun _ => Int.le_refl _
    · rw [upd_other e]; intro h3; have := uu k hk h3; show (σ k).u ≤ N + 10; omega
  · by_cases e : k = r
    · subst e; rw [upd_same]; intro _ h4; simp only at h4; omega
    · rw [upd_other e]; exact fun h3 h4 => uf k hk h3 h4
  · by_cases e : k = r
    · subst e
      rw [upd_same]
      intro _ h4
      by_cases e2 : j = k
      · subst e2; rw [upd_same] at h4; simp only at h4; omega
      · rw [upd_other e2] at h4; have := el j hj; simp only at h4; omega
    · rw [upd_other e]
      intro h3 h4
      by_cases e2 : j = r
      · subst e2
        rw [upd_same] at h4
        have := uf k hk h3 h4
        omega
      · rw [upd_other e2] at h4; exact un j k hj hk h3 h4
/-- No two acknowledge writes of unlike epochs. -/
theorem LInv.agree (h : LInv N f σ) {j k : Nat} (hj : j < 3) (hk : k < 3) (h1 : (σ j).e ≠ 0) (h2 : N < (σ j).u) (h3 : (σ k).e ≠ 0) (h4 : N < (σ k).u) : (σ j).e = (σ k).e := by
  have a := h.un j k hj hk h3
  have b := h.un k j hk hj h1
  omega
theorem LInv.hold (h : LInv N f σ) {k : Nat} (hk : k < 3) (h3 : (σ k).e ≠ 0) (h4 : N < (σ k).u) : f.hold N = 0 ∨ f.hold N = (σ k).e := by
  unfold Fen.hold
  rw [h.tk_f]
  by_cases hf : N < f.f
  · rw [if_pos hf]; exact Or.inl rfl
  · rw [if_neg hf]
    have a := h.uf k hk h3
    have b := h.el k hk
    right
    omega
end
/-- A site that acknowledges, or none. -/
def Ack (N : Int) (σ : Nat → Sit) (a : Int) : Prop := a = 0 ∨ ∃ j, j < 3 ∧ a = (σ j).e ∧ a ≠ 0 ∧ N < (σ j).u
theorem Ack.keep {N a : Int} {σ : Nat → Sit} {r : Nat} {s : Sit} (h : Ack N σ a) (he : s.e = (σ r).e) (hu : s.u = (σ r).u) : Ack N (upd σ r s) a := by
  rcases h with h | ⟨j, hj, h1, h2, h3⟩
  · exact Or.inl h
  · refine Or.inr ⟨j, hj, ?_, h2, ?_⟩
    · by_cases e : j = r
      · subst e; rw [upd_same, he]; exact h1
      · rw [upd_other e]; exact h1
    · by_cases e : j = r
      · subst e; rw [upd_same, hu]; exact h3
      · rw [upd_other e]; exact h3
theorem Fen.hold_tick {f : Fen} {N : Int} (h : tk f.t N = N) : (f.tick N).hold N = f.hold N := by
  unfold Fen.hold Fen.tick
  simp only
  rw [h, tk_old (Int.le_refl N)]

/-! ### In memory -/
def ptrs3 (p1 : Nat) : Array Value := #[.pointer (some ⟨p1, 0, none⟩), .pointer (some ⟨p1 + 1, 0, none⟩), .pointer (some ⟨p1 + 2, 0, none⟩)]
def Ts1 (p p1 g : Nat) (f : Fen) (σ : Nat → Sit) : List Thg := [fenT p f, sitT p1 (σ 0), sitT (p1 + 1) (σ 1), sitT (p1 + 2) (σ 2), blkT g (ptrs3 p1) 24]
section
variable {p p1 g : Nat} {f : Fen} {σ : Nat → Sit} {w w' : World}
theorem Ts1.get {r : Nat} (hr : r < 3) : (Ts1 p p1 g f σ)[r + 1]? = some (sitT (p1 + r) (σ r)) := by
  rcases r with _ | _ | _ | r
  · rfl
  · rfl
  · rfl
  · omega
theorem Ts1.put {r : Nat} (hr : r < 3) (s : Sit) : (Ts1 p p1 g f σ).set (r + 1) (sitT (p1 + r) s) = Ts1 p p1 g f (upd σ r s) := by
  rcases r with _ | _ | _ | r
  · rfl
  · rfl
  · rfl
  · omega
theorem Ts1.ptr {r : Nat} (h : St w (Ts1 p p1 g f σ) w') (hr : r < 3) : w'.cell? ⟨g, r, none⟩ = some (.pointer (some ⟨p1 + r, 0, none⟩)) := by
  rw [(Lk.St.blk h (i := 4) rfl).1 r]
  rcases r with _ | _ | _ | r
  · rfl
  · rfl
  · rfl
  · omega
theorem St.new_five (w : World) : St w (Ts1 w.heap.size (w.heap.size + 1) (w.heap.size + 1 + 1 + 1 + 1) f0 (fun _ => s0))
    (((((w.alloc (.cells #[.int .i64 0, .int .i64 0, .int .i64 0, .int .i64 0] 34)).alloc (.cells #[.int .i64 0, .int .i64 0, .int .i64 0] 28)).alloc (.cells #[.int .i64 0, .int .i64 0, .int .i64 0] 28)).alloc (.cells #[.int .i64 0, .int .i64 0, .int .i64 0] 28)).alloc
      (.cells #[.pointer (some ⟨w.heap.size + 1, 0, none⟩), .pointer (some ⟨w.heap.size + 1 + 1, 0, none⟩), .pointer (some ⟨w.heap.size + 1 + 1 + 1, 0, none⟩)] 24)) := by
  have h := Lk.St.blk_new (St.new_site (St.new_site (St.new_site (St.new_fence (St.start w))))) (ptrs3 (w.heap.size + 1)) 24
  simp only [World.size_alloc, List.nil_append, List.cons_append] at h
  exact h
end

end Go.Proofs.YtmbhnhfnimijcaaDoor.Le
