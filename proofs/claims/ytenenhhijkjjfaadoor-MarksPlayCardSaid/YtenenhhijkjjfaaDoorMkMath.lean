/-
  Lists of numbers that rise: one more, fewer, two of the same numbers; the newest marker of some volumes. Plain theorems, no program of the project.
-/
import Derived.Lib.SlKeysI
namespace Go.Proofs.YtenenhhijkjjfaaDoor.Mk

/-- A list that rises. -/
def Asc (l : List Int) : Prop := l.Pairwise (· < ·)
/-- One more number. -/
def ins (m : Int) : List Int → List Int
  | [] => [m]
  | x :: r => if m < x then m :: x :: r else if m = x then x :: r else x :: ins m r
theorem mem_ins {m x : Int} : ∀ {l : List Int}, x ∈ ins m l ↔ x = m ∨ x ∈ l
  | [] => by simp [ins]
  | y :: r => by
    unfold ins
    by_cases h1 : m < y
    · simp [h1]
    · by_cases h2 : m = y
      · subst h2
        simp
      · simp only [h1, h2, if_false, List.mem_cons, mem_ins (l := r)]
        constructor
        · rintro (h | h | h)
          · exact Or.inr (Or.inl h)
          · exact Or.inl h
          · exact Or.inr (Or.inr h)
        · rintro (h | h | h)
          · exact Or.inr (Or.inl h)
          · exact Or.inl h
          · exact Or.inr (Or.inr h)
theorem Asc.ins {m : Int} : ∀ {l : List Int}, Asc l → Asc (ins m l)
  | [], _ => by simp [Mk.ins, Asc]
  | y :: r, h => by
    unfold Mk.ins
    have h' := List.pairwise_cons.1 h
    by_cases h1 : m < y
    · rw [if_pos h1]
      refine List.pairwise_cons.2 ⟨fun z hz => ?_, h⟩
      rcases List.mem_cons.1 hz with rfl | hz
      · exact h1
      · have := h'.1 z hz
        omega
    · rw [if_neg h1]
      by_cases h2 : m = y
      · rw [if_pos h2]
        exact h
      · rw [if_neg h2]
        refine List.pairwise_cons.2 ⟨fun z hz => ?_, Asc.ins (show Asc r from h'.2)⟩
        rcases mem_ins.1 hz with rfl | hz
        · omega
        · exact h'.1 z hz
theorem Asc.filter {l : List Int} (h : Asc l) (p : Int → Bool) : Asc (l.filter p) := List.Pairwise.filter p h
theorem Asc.nodup {l : List Int} (h : Asc l) : l.Nodup := h.imp fun h => by omega
theorem Asc.ext {a b : List Int} (ha : Asc a) (hb : Asc b) (h : ∀ x, x ∈ a ↔ x ∈ b) : a = b :=
  List.Perm.eq_of_pairwise (le := (· < ·)) (fun x y _ _ h1 h2 => by omega) ha hb ((List.perm_ext_iff_of_nodup ha.nodup hb.nodup).2 h)
theorem Asc.sorted {l : List Int} (h : Asc l) : l.mergeSort leI = l := List.mergeSort_of_pairwise (h.imp fun h => by simp only [leI, decide_eq_true_eq]; omega)
theorem Asc.of_perm {l ss ks : List Int} (h : Asc l) (hp : ss.Perm ks) (hk : ks.Nodup) (hm : ∀ x, x ∈ ks ↔ x ∈ l) : ss.mergeSort leI = l := by
  rw [mergeSort_of_perm_i (hp.trans ((List.perm_ext_iff_of_nodup hk h.nodup).2 hm)), h.sorted]
theorem ins_length {m : Int} : ∀ {l : List Int}, (ins m l).length ≤ l.length + 1
  | [] => by simp [ins]
  | y :: r => by
    unfold ins
    have := ins_length (m := m) (l := r)
    by_cases h1 : m < y
    · simp [h1]
    · by_cases h2 : m = y
      · simp [h2]
      · simp only [h1, h2, if_false, List.length_cons]
        omega
theorem ins_mem {m : Int} {l : List Int} (h : Asc l) (hm : m ∈ l) : ins m l = l := Asc.ext h.ins h fun x => by
  rw [mem_ins]
  exact ⟨fun h => h.elim (fun e => e ▸ hm) id, Or.inr⟩
/-- What is put in. -/
def put (A : Int → List Int) (v m : Int) : Int → List Int := fun u => if u = v then ins m (A v) else A u
/-- What is forgotten. -/
def drop (A : Int → List Int) (v t : Int) : Int → List Int := fun u => if u = v then (A v).filter (fun m => decide (t < m)) else A u
theorem mem_put {A : Int → List Int} {v m u x : Int} : x ∈ put A v m u ↔ (u = v ∧ x = m) ∨ x ∈ A u := by
  unfold put
  by_cases h : u = v
  · subst h
    simp [mem_ins]
  · simp [h]
theorem mem_drop {A : Int → List Int} {v t u x : Int} : x ∈ drop A v t u ↔ x ∈ A u ∧ (u = v → t < x) := by
  unfold drop
  by_cases h : u = v
  · subst h
    simp
  · simp [h]
/-- What is always so: only volumes have markers, from 1 on, in lists that rise. -/
structure Good (A : Int → List Int) : Prop where
  asc : ∀ v, Asc (A v)
  vol : ∀ v m, m ∈ A v → 0 ≤ v ∧ v < 4
  low : ∀ v m, m ∈ A v → 1 ≤ m ∧ m ≤ 9223372036854775807
theorem Good.none : Good (fun _ => []) := ⟨fun _ => List.Pairwise.nil, fun _ _ h => (by cases h), fun _ _ h => (by cases h)⟩
theorem Good.put {A : Int → List Int} (h : Good A) {v m : Int} (hv : 0 ≤ v ∧ v < 4) (hm : 1 ≤ m ∧ m ≤ 9223372036854775807) : Good (put A v m) := by
  refine ⟨fun u => ?_, fun u x hx => ?_, fun u x hx => ?_⟩
  · unfold Mk.put
    by_cases e : u = v
    · rw [if_pos e]; exact (h.asc v).ins
    · rw [if_neg e]; exact h.asc u
  · rcases mem_put.1 hx with ⟨rfl, rfl⟩ | hx
    · exact hv
    · exact h.vol u x hx
  · rcases mem_put.1 hx with ⟨rfl, rfl⟩ | hx
    · exact hm
    · exact h.low u x hx
theorem Good.drop {A : Int → List Int} (h : Good A) (v t : Int) : Good (drop A v t) := by
  refine ⟨fun u => ?_, fun u x hx => h.vol u x (mem_drop.1 hx).1, fun u x hx => h.low u x (mem_drop.1 hx).1⟩
  unfold Mk.drop
  by_cases e : u = v
  · rw [if_pos e]; exact (h.asc v).filter _
  · rw [if_neg e]; exact h.asc u
theorem Good.out {A : Int → List Int} (h : Good A) {v : Int} (hv : ¬ (0 ≤ v ∧ v < 4)) : A v = [] := by
  cases e : A v with
  | nil => rfl
  | cons x r => exact absurd (h.vol v x (by rw [e]; simp)) hv
theorem Good.ext {A B : Int → List Int} (ha : Good A) (hb : Good B) (h : ∀ v x, x ∈ A v ↔ x ∈ B v) : A = B := funext fun v => (ha.asc v).ext (hb.asc v) (h v)

/-! ### The newest -/
/-- A marker that all of these have. -/
def Com (A : Int → List Int) (vs : List Int) (m : Int) : Prop := ∀ v ∈ vs, m ∈ A v
/-- r is the newest marker of these. -/
structure New (A : Int → List Int) (vs : List Int) (r : Int) : Prop where
  low : 0 ≤ r
  hit : r = 0 ∨ (vs ≠ [] ∧ Com A vs r)
  top : vs ≠ [] → ∀ m, Com A vs m → m ≤ r
theorem New.uniq {A : Int → List Int} {vs : List Int} {r s : Int} (h1 : New A vs r) (h2 : New A vs s) : r = s := by
  have a1 := h1.low
  have a2 := h2.low
  have le : ∀ {r s : Int}, New A vs r → New A vs s → r ≤ s := fun {r s} h1 h2 => by
    have := h2.low
    rcases h1.hit with h | ⟨hn, h⟩
    · omega
    · exact h2.top hn r h
  have := le h1 h2
  have := le h2 h1
  omega
theorem New.congr {A : Int → List Int} {vs us : List Int} {r : Int} (h : New A vs r) (he : ∀ v, v ∈ vs ↔ v ∈ us) : New A us r := by
  have hc : ∀ m, Com A vs m ↔ Com A us m := fun m => ⟨fun h v hv => h v ((he v).2 hv), fun h v hv => h v ((he v).1 hv)⟩
  have hn : vs ≠ [] ↔ us ≠ [] := by
    constructor
    · intro h e
      obtain ⟨x, hx⟩ := List.exists_mem_of_ne_nil _ h
      have := (he x).1 hx
      rw [e] at this
      cases this
    · intro h e
      obtain ⟨x, hx⟩ := List.exists_mem_of_ne_nil _ h
      have := (he x).2 hx
      rw [e] at this
      cases this
  exact ⟨h.low, h.hit.imp id fun ⟨a, b⟩ => ⟨hn.1 a, (hc r).1 b⟩, fun a m hm => h.top (hn.2 a) m ((hc m).2 hm)⟩
/-- Which of these lack a marker. -/
def lack (A : Int → List Int) (m : Int) (vs : List Int) : List Int := vs.filter fun v => decide (m ∉ A v)
theorem lack_nil {A : Int → List Int} {m : Int} {vs : List Int} : lack A m vs = [] ↔ Com A vs m := by
  unfold lack Com
  rw [List.filter_eq_nil_iff]
  simp
theorem mem_lack {A : Int → List Int} {m v : Int} {vs : List Int} : v ∈ lack A m vs ↔ v ∈ vs ∧ m ∉ A v := by
  unfold lack
  simp

end Go.Proofs.YtenenhhijkjjfaaDoor.Mk
