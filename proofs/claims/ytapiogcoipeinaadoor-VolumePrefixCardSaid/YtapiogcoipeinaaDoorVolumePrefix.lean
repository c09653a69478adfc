/-
  Proved: the statement VolumePrefix: for every ring and every script it returns true, and its arguments read as before. Condition: the package variable halves reads as the program's own text lays it (the card ties it).
-/
import Derived.Test.YtapiogcoipeinaaDoorVoB
import Derived.Deep.AppendLies
import Derived.Deep.RegionHeld3
import Derived.Test.YtapiogcoipeinaaDoorTie
import Derived.Test.YtapiogcoipeinaaDoorCards
import Derived.Test.YtapiogcoipeinaaDoorVoL
import Derived.SevenTiedAt

/-
  The states that VolumePrefix keeps: a row of rows of texts, beside the volume; and what is always so of them. Plain theorems, no walk.
-/
namespace Go.Proofs.YtapiogcoipeinaaDoor.Vo
open Go.RowKit
open Pk Sm Fa Rc Dk Jn

/-! ### What may be behind a crash -/
/-- The states told, of which the last one is the volume's; what the first j records made, for any j that a crash may leave, is among them, from sure on. -/
structure PInv (H : Nat → Hm) (E : List Ent) (D : Nat) (Bs : List (List ByteArray)) (sure : Nat) : Prop where
  pos : sure < Bs.length
  last : Bs[Bs.length - 1]? = some (blks H E)
  all : ∀ j, D ≤ j → j ≤ E.length → ∃ i, sure ≤ i ∧ Bs[i]? = some (blks H (E.take j))
section
variable {H : Nat → Hm} {E : List Ent} {D sure : Nat} {Bs : List (List ByteArray)}
theorem PInv.first : PInv H [] 0 [blks H []] 0 := ⟨Nat.zero_lt_one, rfl, fun j _ h2 => ⟨0, Nat.le_refl _, by obtain rfl : j = 0 := Nat.le_zero.1 h2; rfl⟩⟩
theorem take_snoc_le {E : List Ent} (e : Ent) {j : Nat} (h : j ≤ E.length) : (E ++ [e]).take j = E.take j := List.take_append_of_le_length h
theorem PInv.write (i : PInv H E D Bs sure) (e : Ent) : PInv H (E ++ [e]) D (Bs ++ [blks H (E ++ [e])]) sure := by
  refine ⟨by rw [List.length_append]; have := i.pos; omega, by simp, fun j h1 h2 => ?_⟩
  rw [List.length_append, List.length_singleton] at h2
  rcases Nat.lt_or_ge E.length j with h | h
  · refine ⟨Bs.length, Nat.le_of_lt i.pos, ?_⟩
    rw [List.take_of_length_le (by rw [List.length_append, List.length_singleton]; omega)]
    simp
  · obtain ⟨k, k1, k2⟩ := i.all j h1 h
    refine ⟨k, k1, ?_⟩
    rw [take_snoc_le e h, List.getElem?_append_left (List.getElem?_eq_some_iff.1 k2).1]
    exact k2
theorem PInv.mark (i : PInv H E D Bs sure) {e : Ent} (he : e.k ≠ 1) : PInv H (E ++ [e]) D Bs sure := by
  have hs : blks H (E ++ [e]) = blks H E := blks_ext fun b _ => blk_mark he b
  refine ⟨i.pos, by rw [hs]; exact i.last, fun j h1 h2 => ?_⟩
  rw [List.length_append, List.length_singleton] at h2
  rcases Nat.lt_or_ge E.length j with h | h
  · refine ⟨Bs.length - 1, by have := i.pos; omega, ?_⟩
    rw [List.take_of_length_le (by rw [List.length_append, List.length_singleton]; omega), hs]
    exact i.last
  · obtain ⟨k, k1, k2⟩ := i.all j h1 h
    exact ⟨k, k1, by rw [take_snoc_le e h]; exact k2⟩
/-- All that is held is durable: the last state is sure. -/
theorem PInv.settle {H' : Nat → Hm} {E' : List Ent} (hs : blks H' E' = blks H E) (i : PInv H E D Bs sure) : PInv H' E' E'.length Bs (Bs.length - 1) := by
  refine ⟨by have := i.pos; omega, by rw [hs]; exact i.last, fun j h1 h2 => ⟨Bs.length - 1, Nat.le_refl _, ?_⟩⟩
  rw [List.take_of_length_le h1, hs]
  exact i.last
/-- Behind a crash: the last state that is alike. -/
theorem PInv.cut {j a : Nat} (ha : Bs[a]? = some (blks H (E.take j))) : PInv H (E.take j) j (Bs.take (a + 1)) a := by
  have hl := (List.getElem?_eq_some_iff.1 ha).1
  have hlen : (Bs.take (a + 1)).length = a + 1 := by rw [List.length_take]; omega
  refine ⟨by omega, ?_, fun i h1 h2 => ⟨a, Nat.le_refl _, ?_⟩⟩
  · rw [hlen, Nat.add_sub_cancel, List.getElem?_take, if_pos (by omega)]
    exact ha
  · rw [List.length_take] at h2
    rw [List.getElem?_take, if_pos (by omega), List.take_take, show min i j = j by omega]
    exact ha
end

/-! ### Memory -/
section
variable {w0 w w' : World} {R R' K : Nat → Prop} {v p q n : Nat} {S : List Sec} {L : List Wr} {h : Hd} {E : List Ent} {H : Nat → Hm} {D T : Nat}
/-- Other blocks are written, all of them held on to; others are held on to from now on. -/
theorem JW.swap (j : JW w0 R p q n S L h E w) (hk : Kept K w w') (hK : ∀ k, K k → R k ∧ w0.heap.size ≤ k) (hR : ∀ k, R' k → R k ∨ (w.heap.size ≤ k ∧ k < w'.heap.size)) : JW w0 R' p q n S L h E w' := by
  obtain ⟨G, h1, h2, h3, h4⟩ := j
  refine ⟨G, h1.kept hk (fun k hG hKk => (h4 k (hK k hKk).1).2 hG), h2, h3.trans (hk.below (fun k hKk => (hK k hKk).2) h3.size), fun k hk2 => ?_⟩
  rcases hR k hk2 with h5 | h5
  · exact ⟨Nat.lt_of_lt_of_le (h4 k h5).1 hk.size, (h4 k h5).2⟩
  · exact ⟨h5.2, fun hG => by have := h1.lt k hG; omega⟩
theorem VW.swap (j : VW w0 R v p q n S L h E H w) (hk : Kept K w w') (hK : ∀ k, K k → R k ∧ w0.heap.size ≤ k) (hR : ∀ k, R' k → R k ∨ (w.heap.size ≤ k ∧ k < w'.heap.size)) : VW w0 R' v p q n S L h E H w' := by
  refine ⟨JW.swap j.jw hk (fun k hKk => ⟨Or.inl (hK k hKk).1, (hK k hKk).2⟩) (fun k hk2 => ?_), ?_, j.ge, fun h1 => ?_⟩
  · rcases hk2 with h1 | h1
    · exact (hR k h1).imp Or.inl id
    · exact Or.inl (Or.inr h1)
  · exact (hk.block v j.box.lt fun hKv => j.no (hK v hKv).1).trans j.box
  · rcases hR v h1 with h2 | h2
    · exact j.no h2
    · have := j.box.lt; omega
theorem VS.swap (j : VS w0 R v p q n h E H D T w) (hk : Kept K w w') (hK : ∀ k, K k → R k ∧ w0.heap.size ≤ k) (hR : ∀ k, R' k → R k ∨ (w.heap.size ≤ k ∧ k < w'.heap.size)) : VS w0 R' v p q n h E H D T w' := by
  obtain ⟨S, h1, h2, h3⟩ := j
  exact ⟨S, h1.swap hk hK hR, h2, h3⟩
end
/-- A boxed Op. -/
def Ob (w : World) (g : Nat) (q : Oq) : Prop := w.heap[g]? = some (.cells #[.int .i64 q.1, .int .i64 q.2.1, .string q.2.2.1, .int .u64 q.2.2.2] 38 (0, 0))
section
variable {w w' : World} {g : Nat} {q : Oq}
theorem Ob.new (w : World) (q : Oq) : Ob (w.alloc (.cells #[.int .i64 q.1, .int .i64 q.2.1, .string q.2.2.1, .int .u64 q.2.2.2] 38)) w.heap.size q := heap_alloc_new w _
theorem ob_below (w : World) (q : Oq) : Below w.heap.size w (w.alloc (.cells #[.int .i64 q.1, .int .i64 q.2.1, .string q.2.2.1, .int .u64 q.2.2.2] 38)) := (Below.refl _ _).alloc (Nat.le_refl _) _
theorem Ob.lt (h : Ob w g q) : g < w.heap.size := (Array.getElem?_eq_some_iff.1 h).1
theorem Ob.below (h : Ob w g q) (hb : Below w.heap.size w w') : Ob w' g q := (hb.block g h.lt).trans h
theorem Ob.c0 (h : Ob w g q) : w.cell? ⟨g, 0, none⟩ = some (.int .i64 q.1) := by simp [World.cell?, show w.heap[g]? = _ from h]
theorem Ob.c1 (h : Ob w g q) : w.cell? ⟨g, 1, none⟩ = some (.int .i64 q.2.1) := by simp [World.cell?, show w.heap[g]? = _ from h]
theorem Ob.c2 (h : Ob w g q) : w.cell? ⟨g, 2, none⟩ = some (.string q.2.2.1) := by simp [World.cell?, show w.heap[g]? = _ from h]
theorem Ob.c3 (h : Ob w g q) : w.cell? ⟨g, 3, none⟩ = some (.int .u64 q.2.2.2) := by simp [World.cell?, show w.heap[g]? = _ from h]
end
/-- The rows of a row, as cells. -/
def sls (Gs : List (Nat × Nat)) : List Value := Gs.map fun x => .slice (some ⟨x.1, 0, none⟩) 8 x.2
theorem sls_length (Gs : List (Nat × Nat)) : (sls Gs).length = Gs.length := by simp [sls]
/-- What is held on to: the row's block, and each row's. -/
def Rs (sg : Nat) (Gs : List (Nat × Nat)) : Nat → Prop := fun k => k = sg ∨ ∃ c, (k, c) ∈ Gs
structure Pf (w0 : World) (v p q n : Nat) (h : Hd) (E : List Ent) (H : Nat → Hm) (D T sg sc : Nat) (Gs : List (Nat × Nat)) (Bs : List (List ByteArray)) (w : World) : Prop where
  vs : VS w0 (Rs sg Gs) v p q n h E H D T w
  own : w.ownsRow w0.heap.size 33 1 (.slice (some ⟨sg, 0, none⟩) Gs.length sc) Gs.length (sls Gs)
  rows : ∀ (i : Nat) (x : Nat × Nat), Gs[i]? = some x → ∃ L, Bs[i]? = some L ∧ Bks w x.1 x.2 L
  len : Gs.length = Bs.length
section
variable {w0 w w' : World} {v p q n v' p' : Nat} {h h' : Hd} {E E' : List Ent} {H H' : Nat → Hm} {D T D' T' sg sc : Nat} {Gs : List (Nat × Nat)} {Bs : List (List ByteArray)}
theorem Pf.step (j : Pf w0 v p q n h E H D T sg sc Gs Bs w) (hv : VS w0 (Rs sg Gs) v' p' q n h' E' H' D' T' w') (hk : RK (Rs sg Gs) w w') : Pf w0 v' p' q n h' E' H' D' T' sg sc Gs Bs w' := by
  refine ⟨hv, own_same j.own fun k hb => ?_, fun i x hx => ?_, j.len⟩
  · obtain rfl := Option.some.inj hb
    exact hk _ (Or.inl rfl)
  · obtain ⟨L, h1, h2⟩ := j.rows i x hx
    exact ⟨L, h1, h2.same (hk _ (Or.inr ⟨x.2, List.mem_of_getElem? hx⟩))⟩
theorem Pf.below (j : Pf w0 v p q n h E H D T sg sc Gs Bs w) (hb : Below w.heap.size w w') : Pf w0 v p q n h E H D T sg sc Gs Bs w' := j.step (j.vs.below hb).1 (j.vs.below hb).2
theorem Pf.drew (j : Pf w0 v p q n h E H D T sg sc Gs Bs w) : Pf w0 v p q n h E H D T sg sc Gs Bs w.drew := j.below (Below.refl _ _).drew
theorem Pf.more (j : Pf w0 v p q n h E H D T sg sc Gs Bs w) (hT : T ≤ T') (hT' : T' ≤ 1000) : Pf w0 v p q n h E H D T' sg sc Gs Bs w := ⟨j.vs.more hT hT', j.own, j.rows, j.len⟩
theorem Pf.form (j : Pf w0 v p q n h E H D T sg sc Gs Bs w) : Bs.length ≤ sc ∧ sc ≤ maxLen := by
  obtain ⟨A, c, e, h1, h2, _⟩ := row_form j.own
  cases e
  rw [← j.len]
  exact ⟨h1, h2⟩
/-- One row of the row. -/
theorem Pf.at_ (j : Pf w0 v p q n h E H D T sg sc Gs Bs w) {i : Nat} (hi : i < Bs.length) : ∃ g c L, w.cell? ⟨sg, i, none⟩ = some (.slice (some ⟨g, 0, none⟩) 8 c) ∧ Bs[i]? = some L ∧ Bks w g c L := by
  obtain ⟨x, hx⟩ : ∃ x, Gs[i]? = some x := ⟨_, List.getElem?_eq_getElem (by rw [j.len]; exact hi)⟩
  obtain ⟨L, h1, h2⟩ := j.rows i x hx
  refine ⟨x.1, x.2, L, ?_, h1, h2⟩
  obtain ⟨A, c, e, _, _, h3⟩ := row_form j.own
  obtain ⟨g, e2, _, _, h4⟩ := h3 (by rw [j.len]; omega)
  cases e
  cases e2
  have := h4 i (.slice (some ⟨x.1, 0, none⟩) 8 x.2) (by simp [sls, hx])
  simpa using this
theorem Pf.cut (j : Pf w0 v p q n h E H D T sg sc Gs Bs w) {a : Nat} (ha : a < Bs.length) : Pf w0 v p q n h E H D T sg sc (Gs.take (a + 1)) (Bs.take (a + 1)) w := by
  have hl : (Gs.take (a + 1)).length = a + 1 := by rw [List.length_take, j.len]; omega
  refine ⟨j.vs.mono fun k hk => ?_, ?_, fun i x hx => ?_, by rw [List.length_take, List.length_take, j.len]⟩
  · rcases hk with h1 | ⟨c, h1⟩
    · exact Or.inl h1
    · exact Or.inr ⟨c, List.mem_of_mem_take h1⟩
  · rw [hl]
    obtain ⟨h1, h2⟩ := j.own
    refine ⟨by rw [sls_length, hl]; omega, ?_⟩
    rcases h2 with ⟨h3, _⟩ | ⟨g, cap, cur, e, h4, h5, h6, h7, h8, h9⟩
    · cases h3
    · cases e
      refine Or.inr ⟨sg, sc, cur, rfl, h4, h5, by rw [j.len] at h6; omega, h7, h8, ?_⟩
      have h10 : sls (Gs.take (a + 1)) = (sls Gs).take (a + 1) := by simp [sls]
      rw [h10, ← h9, List.take_take, j.len]
      congr 1
      omega
  · rw [List.getElem?_take] at hx
    by_cases hia : i < a + 1
    · rw [if_pos hia] at hx
      obtain ⟨L, h1, h2⟩ := j.rows i x hx
      exact ⟨L, by rw [List.getElem?_take, if_pos hia]; exact h1, h2⟩
    · rw [if_neg hia] at hx; cases hx
theorem str_ne : (9 : TypeId) ≠ 33 := by decide
/-- One more row. -/
theorem Pf.push (j : Pf w0 v p q n h E H D T sg sc Gs Bs w) {w1 w2 w3 : World} {g c g3 c3 : Nat} {L : List ByteArray} (hg : w.heap.size ≤ g) (hb : Bks w1 g c L) (hb1 : Below w.heap.size w w1) (hb2 : Below w1.heap.size w1 w2)
    (hgr : w2.grownBy w3 (some sg)) (hown : w3.ownsRow w0.heap.size 33 1 (.slice (some ⟨g3, 0, none⟩) (Gs.length + 1) c3) (Gs.length + 1) (sls Gs ++ [.slice (some ⟨g, 0, none⟩) 8 c])) (hor : sg = g3 ∨ g3 = w2.heap.size) (hlt : g3 < w3.heap.size) : Pf w0 v p q n h E H D T g3 c3 (Gs ++ [(g, c)]) (Bs ++ [L]) w3 := by
  have j2 := j.below (hb1.trans (hb2.mono hb1.size))
  have hk : Kept (· = sg) w2 w3 := ⟨hgr.os, hgr.tape, hgr.output, hgr.size, fun k h1 h2 => hgr.block k h1 fun e => h2 (Option.some.inj e)⟩
  have hsg : w0.heap.size ≤ sg := by
    rcases j.own.2 with ⟨h3, _⟩ | ⟨_, _, _, e, h4, _⟩
    · cases h3
    · cases e; exact h4
  have hbs : Bks w2 g c L := hb.below hb2
  have hne : ∀ {g c : Nat} {L : List ByteArray}, Bks w2 g c L → g ≠ sg := fun {g c L} hk2 e => by
    subst e
    obtain ⟨cur, k1, _⟩ := hk2.mem
    rcases j2.own.2 with ⟨h3, _⟩ | ⟨_, _, cur2, e, _, h5, _⟩
    · cases h3
    · cases e
      rw [k1] at h5
      have e2 := Option.some.inj h5
      injection e2 with _ e3 _
      exact str_ne e3
  have hb0 := hb1.size
  have hb20 := hb2.size
  have hgl := hbs.lt
  refine ⟨(j.vs.hold (R' := fun k => k = g) (hb1.trans (hb2.mono hb0)) fun k e => by subst e; exact ⟨hg, hgl⟩).swap hk (fun k e => by subst e; exact ⟨Or.inl (Or.inl rfl), hsg⟩) (fun k hk2 => ?_), ?_, fun i x hx => ?_, by simp [j.len]⟩
  · rcases hk2 with h1 | ⟨c', h1⟩
    · rcases hor with h2 | h2
      · exact Or.inl (Or.inl (Or.inl (h1.trans h2.symm)))
      · exact Or.inr ⟨by omega, by omega⟩
    · rcases List.mem_append.1 h1 with h1 | h1
      · exact Or.inl (Or.inl (Or.inr ⟨c', h1⟩))
      · rw [List.mem_singleton] at h1
        exact Or.inl (Or.inr (congrArg Prod.fst h1))
  · rw [List.length_append, List.length_singleton, show sls (Gs ++ [(g, c)]) = sls Gs ++ [.slice (some ⟨g, 0, none⟩) 8 c] by simp [sls]]
    exact hown
  · have keep : ∀ {g c : Nat} {L : List ByteArray}, Bks w2 g c L → Bks w3 g c L := fun hk2 => hk2.same (hk.block _ hk2.lt (hne hk2))
    rcases Nat.lt_or_ge i Gs.length with hlt2 | hge2
    · rw [List.getElem?_append_left hlt2] at hx
      obtain ⟨M, h1, h2⟩ := j2.rows i x hx
      exact ⟨M, by rw [List.getElem?_append_left (by rw [← j.len]; exact hlt2)]; exact h1, keep h2⟩
    · rw [List.getElem?_append_right hge2] at hx
      have hi0 : i - Gs.length = 0 := by
        have := (List.getElem?_eq_some_iff.1 hx).1
        simpa using this
      rw [hi0] at hx
      simp at hx
      subst hx
      refine ⟨L, ?_, keep hbs⟩
      rw [List.getElem?_append_right (by rw [← j.len]; exact hge2), ← j.len, hi0]
      rfl
/-- The first row. -/
theorem Pf.start {w1 : World} {g c : Nat} (j : VS w0 (fun _ => False) v p q n h [] H 0 T w) (hg : w.heap.size ≤ g) (hb : Bks w1 g c (blks H [])) (hb1 : Below w.heap.size w w1) :
    Pf w0 v p q n h [] H 0 T w1.heap.size 1 [(g, c)] [blks H []] (w1.alloc (.cells #[.slice (some ⟨g, 0, none⟩) 8 c] 33)) := by
  have hb2 : Below w1.heap.size w1 (w1.alloc (.cells #[.slice (some ⟨g, 0, none⟩) 8 c] 33)) := (Below.refl _ _).alloc (Nat.le_refl _) _
  have hs : (w1.alloc (.cells #[.slice (some ⟨g, 0, none⟩) 8 c] 33)).heap.size = w1.heap.size + 1 := by simp
  have hgl := hb.lt
  have hb1s := hb1.size
  have hb0s := j.bel.size
  refine ⟨(j.hold (R' := fun k => k = w1.heap.size ∨ k = g) (hb1.trans (hb2.mono hb1.size)) fun k e => ?_).mono fun k hk => ?_, ⟨rfl, Or.inr ⟨w1.heap.size, 1, #[.slice (some ⟨g, 0, none⟩) 8 c], rfl, by omega, heap_alloc_new w1 _, Nat.le_refl _, by unfold maxLen; omega, rfl, rfl⟩⟩, fun i x hx => ?_, rfl⟩
  · rcases e with rfl | rfl <;> omega
  · rcases hk with h1 | ⟨c', h1⟩
    · exact Or.inr (Or.inl h1)
    · rw [List.mem_singleton] at h1
      exact Or.inr (Or.inr (congrArg Prod.fst h1))
  · have hi0 : i = 0 := by
      have := (List.getElem?_eq_some_iff.1 hx).1
      simpa using this
    subst hi0
    simp at hx
    subst hx
    exact ⟨_, rfl, hb.below hb2⟩
end

end Go.Proofs.YtapiogcoipeinaaDoor.Vo

/-
  VolumePrefix: behind a crash, whatever of what is loose is kept, the blocks are what the first writes made, one behind the other: all that were flushed, and some of the next ones, without a gap. Condition: the table of half bytes holds what the program's own text lays.
-/
namespace Go.Proofs.YtapiogcoipeinaaDoor.Vo
open Go.RowKit
open Pk Sm Fa Rc Dk Jn

theorem rem12 (t : Nat) : (t : Int).tmod 12 = ((t % 12 : Nat) : Int) := by
  rw [Int.tmod_eq_emod_of_nonneg (by omega)]
  rfl
theorem row_info : (Tryd.prog.info? 33).map (fun i => (i.zero, i.size, i.bytes)) = some (some (.slice none 0 0), 1, 24) := by kernel_rfl
set_option maxRecDepth 100000 in
set_option maxHeartbeats 16000000 in
theorem Prefix_few (ring : Nat) (A : Option Addr) (m c : Nat) (l : List Oq) (w : World) (hl : l.length = m) (hp : Ops w w.heap.size A l) (hf : OFits l) (ht : Tab w) (hring : ring < 256) :
    Calls Tryd.prog 3 #[.int .u8 (ring : Int), .slice A m c] w fun r w' => r = .returned (.bool true) ∧ Below w.heap.size w w' := by
  obtain ⟨i0, hi0, hz0, hz1, hz2⟩ := info_parts row_info
  have Hz1 := hide hz1
  have Hz2 := hide hz2
  obtain ⟨r, hr⟩ : ∃ r, ring % 12 = r := ⟨_, rfl⟩
  have hrem := rem12 ring
  rw [hr] at hrem
  obtain ⟨n, hn⟩ : ∃ n, 1 + r = n := ⟨_, rfl⟩
  have h1 : (1 : Int) + (r : Int) = (n : Int) := by omega
  have hringi : (ring : Int) < 256 := by omega
  have hr12 : (r : Int) < 12 := by omega
  have hn12i : (n : Int) ≤ 12 := by omega
  have HNN := hide (show 1 ≤ n ∧ n ≤ 12 by omega)
  have HT := hide ht
  have HA := hide (awake_any w ht)
  have HW := hide (fun W (hb : Below w.heap.size w W) => few_any A m c l W hl ((hp.below hb).more1 hb.size) hf)
  obtain ⟨z10, hz10⟩ : ∃ z, 10 + n = z := ⟨_, rfl⟩
  have HN := hide (fun W => New_any (z10 : Int) z10 W (by omega))
  have HS : Hid (∀ W, Calls Tryd.prog 8 #[.int .i64 (n : Int)] W fun e w' => e = .returned (.int .i64 (z10 : Int)) ∧ W = w') := hide (fun W => by
    have := Sectors_any (n : Int) (by omega) (by omega) W
    rwa [show (10 : Int) + (n : Int) = (z10 : Int) by omega] at this)
  have HZ10 := hide hz10
  have Hl := hide hl
  have Hp := hide hp
  have Hf := hide hf
  clear hl hp hf ht hz1 hz2 hr hn hz10 hring
  go_enter Tryd.func3, Tryd.ntmps3
  go_wp2_with fail
  refine HA.out.mono ?_
  rintro e w1 ⟨rfl, hb1⟩
  have HB1 := hide hb1
  clear hb1 HA
  go_wp2_with fail
  refine (HW.out w1 HB1.out).mono ?_
  rintro e w2 ⟨⟨bv, rfl, hbv⟩, rfl⟩
  by_cases hfew : Few l
  · obtain rfl : bv = true := hbv.2 hfew
    have HF := hide hfew
    clear hfew hbv HW
    go_wp2_with fail
    refine (HS.out _).mono ?_
    rintro e w2 ⟨rfl, rfl⟩
    clear HS
    go_wp2_with fail
    refine (HN.out w1).mono ?_
    rintro e w2 ⟨q, D0, rfl, hd, hD, hb2⟩
    have HO := hide (VS.start (w0 := w) (R := fun _ => False) (n := n) hd HT.out (fun k hk => Nat.le_trans HB1.out.size (hD k hk)) (HB1.out.trans (hb2.mono HB1.out.size)) (fun k hk => hk.elim) HNN.out.1 (by have := HNN.out.2; omega) (by have := HZ10.out; omega))
    clear hd hD hb2 HN
    go_wp2_with fail
    refine HO.out.mono ?_
    rintro e w3 ⟨v, p, rfl, hj, _⟩
    have HJ3 := hide hj
    clear hj HO HB1 HZ10
    have HBL := hide (blocks_any HJ3.out)
    go_wp2_with fail
    refine HBL.out.mono ?_
    rintro e w4 ⟨g, gc, rfl, hg, hbk, hb4⟩
    have HP4 := hide (Pf.start HJ3.out hg hbk hb4)
    have hm80 : m ≤ 80 := by have := HF.out.1; rw [Hl.out] at this; exact this
    clear hg hbk hb4 HJ3 HBL
    go_wp2
    generalize w4.alloc _ = w5 at *
    generalize w4.heap.size = sg0 at *
    go_loopw [7, 9, 10, 46] (fun xv xs xu jx wr => ∃ (k v p : Nat) (h : Hd) (E : List Ent) (H : Nat → Hm) (D sg sc z su : Nat) (Gs : List (Nat × Nat)) (Bs : List (List ByteArray)), k ≤ m ∧ z ≤ k + 1 ∧ su < z ∧ xv = .pointer (some ⟨v, 0, none⟩) ∧ xs = .slice (some ⟨sg, 0, none⟩) z sc ∧ xu = .int .i64 su ∧ jx = .int .i64 k ∧ Hid (Bs.length = z) ∧ Hid (Pf w v p q n h E H D (k + 1) sg sc Gs Bs wr) ∧ Hid (PInv H E D Bs su)) (fun _ _ _ jx _ => m - (intOf jx).toNat)
    case atStart => exact ⟨0, v, p, _, _, _, _, sg0, 1, 1, 0, _, _, Nat.zero_le _, Nat.le_refl _, Nat.zero_lt_one, rfl, rfl, rfl, rfl, hide rfl, HP4, hide PInv.first⟩
    case round =>
      obtain ⟨k, v, p, h, E, H, D, sg, sc, z, su, Gs, Bs, hk, hzk, hsz, rfl, rfl, rfl, rfl, hzl, hj, hi⟩ := hrel
      have HFM := hide hj.out.form
      have hzsc : z ≤ sc := by have := HFM.out.1; rw [hzl.out] at this; exact this
      have hscm : sc ≤ maxLen := HFM.out.2
      rcases Nat.lt_or_ge k m with hlt | hge
      · have hki : (k : Int) < (m : Int) := by omega
        obtain ⟨x, hx⟩ : ∃ x, l[k]? = some x := ⟨_, List.getElem?_eq_getElem (by rw [Hl.out]; exact hlt)⟩
        obtain ⟨b, o, rfl, hbB, hat⟩ := Hp.out.at4 hx
        have hblt : b < wr.heap.size := Nat.lt_of_lt_of_le hbB hj.out.vs.bel.size
        have hmem : x ∈ l := List.mem_of_getElem? hx
        have HFX := hide (Hf.out x hmem)
        have HSX := hide (HF.out.2 x hmem)
        obtain ⟨a0, a1, a2, a3⟩ := hat.below hbB hj.out.vs.bel
        obtain ⟨kd, nn, ss, kp⟩ := x
        simp only at a0 a1 a2 a3
        have HK80 := hide (show k < 80 by omega)
        have hbo := ob_below wr (kd, nn, ss, kp)
        have hob := Ob.new wr (kd, nn, ss, kp)
        have hpo := hj.out.below hbo
        obtain ⟨wo, hwo⟩ : ∃ wo, wr.alloc (.cells #[.int .i64 kd, .int .i64 nn, .string ss, .int .u64 kp] 38) = wo := ⟨_, rfl⟩
        have ho1 : wr.heap.size < wo.heap.size := by rw [← hwo]; simp
        have HO : Hid (Ob wo wr.heap.size (kd, nn, ss, kp)) := hide (by rw [← hwo]; exact hob)
        have HP : Hid (Pf w v p q n h E H D (k + 1) sg sc Gs Bs wo) := hide (by rw [← hwo]; exact hpo)
        obtain ⟨gb, hgb⟩ : ∃ gb, wr.heap.size = gb := ⟨_, rfl⟩
        rw [hgb] at HO ho1
        have hgbl : gb < wo.heap.size := ho1
        have o0 := HO.out.c0
        have o1 := HO.out.c1
        have o2 := HO.out.c2
        have o3 := HO.out.c3
        simp only at o0 o1 o2 o3
        clear hx hmem hbB hat hj hbo hob hpo
        by_cases k1 : kd = 1
        · subst k1
          by_cases hw : wrong n E nn ss = 0
          · skip
            as_aux_lemma =>
              obtain ⟨h0, h8, hd16, hE⟩ := wrong_zero HP.out.vs.few.1 hw
              have HWR := hide (HP.out.vs.write HT.out (by have := HK80.out; omega) hE h0 h8 hd16)
              obtain ⟨y, hy⟩ : ∃ y, h.f + E.length = y := ⟨_, rfl⟩
              rw [hy] at HWR
              clear hw h0 h8 hd16 hE hy
              go_wp2_with fail
              refine HWR.out.mono ?_
              rintro e w6 ⟨rfl, hv6, hk6⟩
              have HP6 := hide (HP.out.step hv6 hk6)
              clear hv6 hk6 HWR HP HO o0 o1 o2 o3
              have HBL := hide (blocks_any HP6.out.vs)
              go_wp2_with fail
              refine HBL.out.mono ?_
              rintro e w7 ⟨g, gc, rfl, hg, hbk, hb7⟩
              have hown := (HP6.out.below hb7).own
              rw [HP6.out.len, hzl.out] at hown
              have HG := hide hg
              have HBK := hide hbk
              have HB7 := hide hb7
              have hsw : w.heap.size ≤ w7.heap.size := (HP6.out.below hb7).vs.bel.size
              clear hg hbk hb7 HBL
              go_wp2_with (at_builtin; go_must (refine wpList_append_lies _ rfl (.tmp 68) (.tmp 71) 35 rfl w.heap.size 33 i0 (.slice none 0 0) 1 24 Tryd.underlying35 hi0 hz0 Hz1.out Hz2.out rfl (by decide) (.slice (some ⟨sg, 0, none⟩) z sc) z (sls Gs) rfl (World.ownsRow.alloc hown _) ⟨w7.heap.size, 0, none⟩ 1 1 [.slice (some ⟨g, 0, none⟩) 8 gc] rfl rfl (cell_new1 _ _ _) ?c1 (by decide) ?c3 ?c4 ?c5 (w7.heap.size + 1) (by simp) ?_))
              case c1 => intro u hu; simp at hu; subst hu; rfl
              case c3 => unfold maxLen; omega
              case c4 => omega
              case c5 => simp; omega
              intro g3 c3 w8 hown8 hgr hor hlt8
              have HP9 : Hid (Pf w v p q n h (E ++ [⟨h.g, y, 1, nn, ss, 0⟩]) H D (k + 1 + 1) g3 c3 (Gs ++ [(g, gc)]) (Bs ++ [blks H (E ++ [⟨h.g, y, 1, nn, ss, 0⟩])]) w8) := hide (Pf.push HP6.out HG.out HBK.out HB7.out ((Below.refl _ _).alloc (Nat.le_refl _) _) hgr (by rw [HP6.out.len, hzl.out]; exact hown8) (by rcases hor with h | h; exact Or.inl (Option.some.inj h); exact Or.inr (by rw [h]; simp)) hlt8)
              have HI9 := hide (hi.out.write ⟨h.g, y, 1, nn, ss, 0⟩)
              have HZL : Hid ((Bs ++ [blks H (E ++ [⟨h.g, y, 1, nn, ss, 0⟩])]).length = z + 1) := hide (by rw [List.length_append, hzl.out]; rfl)
              clear hown hown8 hgr hor hlt8 HG HBK HB7 HP6 hi hsw
              go_wp2
              go_roundw
              case rel => exact ⟨k + 1, v, p, _, _, _, _, g3, c3, z + 1, su, _, _, by omega, by omega, by omega, rfl, by go_num, rfl, by go_num, HZL, HP9, HI9⟩
              case measure => simp [intOf]; omega
          · skip
            as_aux_lemma =>
              have HWR := hide (HP.out.vs.write_no hw)
              clear hw
              go_wp2_with fail
              refine HWR.out.mono ?_
              rintro e w6 ⟨pp, rfl, hf6, hb6⟩
              have HP9 := hide ((HP.out.below hb6).more (Nat.le_succ _) (by have := HK80.out; omega))
              have HI9 := hi
              clear hf6 hb6 HWR HP HO o0 o1 o2 o3
              go_wp2
              go_roundw
              case rel => exact ⟨k + 1, v, p, _, _, _, _, sg, sc, z, su, _, _, by omega, by omega, by omega, rfl, rfl, rfl, by go_num, hzl, HP9, HI9⟩
              case measure => simp [intOf]; omega
        by_cases k2 : kd = 2
        · subst k2
          clear k1
          by_cases hm : E.length < n ∧ 1 ≤ nn ∧ nn ≤ 1152921504606846975
          · skip
            as_aux_lemma =>
              have HWR := hide (HP.out.vs.mark HT.out (by have := HK80.out; omega) hm.1 hm.2.1 hm.2.2)
              obtain ⟨y, hy⟩ : ∃ y, h.f + E.length = y := ⟨_, rfl⟩
              rw [hy] at HWR
              clear hm hy
              go_wp2_with fail
              refine HWR.out.mono ?_
              rintro e w6 ⟨rfl, hv6, hk6⟩
              have HP9 := hide (HP.out.step hv6 hk6)
              have HI9 := hide (hi.out.mark (e := ⟨h.g, y, 2, 0, ⟨#[]⟩, nn⟩) (by show (2 : Int) ≠ 1; decide))
              clear hv6 hk6 HWR HP HO o0 o1 o2 o3 hi
              go_wp2
              go_roundw
              case rel => exact ⟨k + 1, v, p, _, _, _, _, sg, sc, z, su, _, _, by omega, by omega, by omega, rfl, rfl, rfl, by go_num, hzl, HP9, HI9⟩
              case measure => simp [intOf]; omega
          · skip
            as_aux_lemma =>
              have HWR := hide (HP.out.vs.mark_no (m := nn) (by
                have := HP.out.vs.few.1
                by_cases hE : E.length = n
                · exact Or.inl hE
                · exact Or.inr fun h => hm ⟨by omega, h.1, h.2⟩))
              clear hm
              go_wp2_with fail
              refine HWR.out.mono ?_
              rintro e w6 ⟨pp, rfl, hf6, hb6⟩
              have HP9 := hide ((HP.out.below hb6).more (Nat.le_succ _) (by have := HK80.out; omega))
              have HI9 := hi
              clear hf6 hb6 HWR HP HO o0 o1 o2 o3
              go_wp2
              go_roundw
              case rel => exact ⟨k + 1, v, p, _, _, _, _, sg, sc, z, su, _, _, by omega, by omega, by omega, rfl, rfl, rfl, by go_num, hzl, HP9, HI9⟩
              case measure => simp [intOf]; omega
        by_cases k4 : kd = 4
        · subst k4
          clear k1 k2
          as_aux_lemma =>
            obtain ⟨z1, hz1⟩ : ∃ z1, z - 1 = z1 := ⟨_, rfl⟩
            have hz1i : (z : Int) - 1 = (z1 : Int) := by omega
            have HZ1 := hide hz1
            have HZ2 := hide (show z1 < z by omega)
            clear hz1
            go_wp2_with fail
            refine (HP.out.vs.flush).mono ?_
            rintro e w6 ⟨rfl, hv6, hk6⟩
            have HP9 := hide ((HP.out.step hv6 hk6).more (Nat.le_succ _) (by have := HK80.out; omega))
            have HI9 := hide (hi.out.settle (H' := H) (E' := E) rfl)
            rw [hzl.out, HZ1.out] at HI9
            clear hv6 hk6 HP HO o0 o1 o2 o3 hi
            go_wp2
            go_roundw
            case rel => exact ⟨k + 1, v, p, _, _, _, _, sg, sc, z, z1, _, _, by omega, by omega, HZ2.out, rfl, rfl, rfl, by go_num, hzl, HP9, HI9⟩
            case measure => simp [intOf]; omega
        by_cases k5 : kd = 5
        · subst k5
          clear k1 k2 k4
          by_cases hu : 0 ≤ nn ∧ nn < ((h.f + E.length : Nat) : Int)
          · skip
            as_aux_lemma =>
              obtain ⟨z1, hz1⟩ : ∃ z1, z - 1 = z1 := ⟨_, rfl⟩
              have hz1i : (z : Int) - 1 = (z1 : Int) := by omega
              have HZ1 := hide hz1
              have HZ2 := hide (show z1 < z by omega)
              clear hz1
              have HBL := hide (blocks_any HP.out.vs)
              go_wp2_with fail
              refine HBL.out.mono ?_
              rintro e w6 ⟨g, gc, rfl, hg, hbk, hb6⟩
              have HP6 := hide (HP.out.vs.hold (R' := fun i => i = g) hb6 fun i e => by subst e; exact ⟨hg, hbk.lt⟩)
              have HPF6 := hide (HP.out.below hb6)
              have HBK := hide hbk
              have HO6 := hide (HO.out.below hb6)
              have o1 := HO6.out.c1
              simp only at o1
              clear o0 o2 o3 hg hbk hb6 HBL HP HO
              have HCK := hide (HP6.out.checkpoint HT.out (by have := HK80.out; omega) hu.1 hu.2)
              clear hu
              go_wp2_with fail
              refine HCK.out.mono ?_
              rintro e w7 ⟨rfl, hv7, hk7⟩
              have HPF7 := hide (HPF6.out.step (hv7.mono fun _ h => Or.inl h) (hk7.mono fun _ h => Or.inl h))
              have HK7 := hide (HBK.out.same (hk7 g (Or.inr rfl)))
              have HEQ := hide (show blks (hms H E 8) (E.drop (upk h nn)) = blks H E from blks_ext fun b hb => blk_home hb _)
              have HI9 := hide (hi.out.settle (H' := hms H E 8) (E' := E.drop (upk h nn)) HEQ.out)
              rw [hzl.out, HZ1.out, List.length_drop] at HI9
              clear hv7 hk7 HCK HP6 HPF6 HBK HO6 o1 hi
              have HBL2 := hide (blocks_any HPF7.out.vs)
              go_wp2_with fail
              refine HBL2.out.mono ?_
              rintro e w8 ⟨g2, c2, rfl, hg2, hbk2, hb8⟩
              have HPF8 := hide (HPF7.out.below hb8)
              have HA8 := hide (alike_any hbk2 (HK7.out.below hb8) true (iff_of_true rfl (by first | exact HEQ.out | rfl)))
              clear hg2 hbk2 hb8 HBL2 HK7 HPF7
              go_wp2_with fail
              refine HA8.out.mono ?_
              rintro e w9 ⟨rfl, hb9⟩
              have HP9 := hide (HPF8.out.below hb9)
              clear hb9 HA8 HPF8
              go_wp2
              go_roundw
              case rel => exact ⟨k + 1, v, p, _, _, _, _, sg, sc, z, z1, _, _, by omega, by omega, HZ2.out, rfl, rfl, rfl, by go_num, hzl, HP9, HI9⟩
              case measure => simp [intOf]; omega
          · skip
            as_aux_lemma =>
              have HBL := hide (blocks_any HP.out.vs)
              go_wp2_with fail
              refine HBL.out.mono ?_
              rintro e w6 ⟨g, gc, rfl, hg, hbk, hb6⟩
              have HP6 := hide (HP.out.vs.hold (R' := fun i => i = g) hb6 fun i e => by subst e; exact ⟨hg, hbk.lt⟩)
              have HPF6 := hide (HP.out.below hb6)
              have HBK := hide hbk
              have HO6 := hide (HO.out.below hb6)
              have o1 := HO6.out.c1
              simp only at o1
              clear o0 o2 o3 hg hbk hb6 HBL HP HO
              have HCK := hide (HP6.out.checkpoint_no (u := nn) (by omega))
              clear hu
              go_wp2_with fail
              refine HCK.out.mono ?_
              rintro e w7 ⟨pp, rfl, hf7, hb7⟩
              have HPF7 := hide ((HPF6.out.below hb7).more (Nat.le_succ _) (by have := HK80.out; omega))
              have HK7 := hide (HBK.out.below hb7)
              have HEQ := hide (show blks H E = blks H E from rfl)
              have HI9 := hi
              clear hf7 hb7 HCK HP6 HPF6 HBK HO6 o1
              have HBL2 := hide (blocks_any HPF7.out.vs)
              go_wp2_with fail
              refine HBL2.out.mono ?_
              rintro e w8 ⟨g2, c2, rfl, hg2, hbk2, hb8⟩
              have HPF8 := hide (HPF7.out.below hb8)
              have HA8 := hide (alike_any hbk2 (HK7.out.below hb8) true (iff_of_true rfl (by first | exact HEQ.out | rfl)))
              clear hg2 hbk2 hb8 HBL2 HK7 HPF7
              go_wp2_with fail
              refine HA8.out.mono ?_
              rintro e w9 ⟨rfl, hb9⟩
              have HP9 := hide (HPF8.out.below hb9)
              clear hb9 HA8 HPF8
              go_wp2
              go_roundw
              case rel => exact ⟨k + 1, v, p, _, _, _, _, sg, sc, z, su, _, _, by omega, by omega, by omega, rfl, rfl, rfl, by go_num, hzl, HP9, HI9⟩
              case measure => simp [intOf]; omega
        by_cases k6 : kd = 6
        · subst k6
          clear k1 k2 k4 k5
          as_aux_lemma =>
            have HCR := hide (HP.out.vs.crash kp (by have := HFX.out.2.2.2; exact this))
            go_wp2_with fail
            refine HCR.out.mono ?_
            rintro e w6 ⟨rfl, i, hDi, hiE, hc6, hk6⟩
            have HOP := hide (hc6.open HT.out (by have := HK80.out; omega))
            have HK6 := hide hk6
            have HDE := hide (And.intro hDi hiE)
            clear hc6 hk6 hDi hiE HCR HO o0 o1 o2 o3
            go_wp2_with fail
            refine HOP.out.mono ?_
            rintro e w7 ⟨v7, p7, rfl, hv7, hk7⟩
            have HP7 := hide (HP.out.step hv7 (RK.trans HK6.out hk7))
            clear hv7 hk7 HOP HK6 HP
            have HBL := hide (blocks_any HP7.out.vs)
            go_wp2_with fail
            refine HBL.out.mono ?_
            rintro e w8 ⟨g, gc, rfl, hg, hbk, hb8⟩
            have HP8 := hide (HP7.out.below hb8)
            have HBK := hide hbk
            obtain ⟨ix, hsx, hbx⟩ := hi.out.all i HDE.out.1 HDE.out.2
            have hixz : ix < z := by have := (List.getElem?_eq_some_iff.1 hbx).1; rw [hzl.out] at this; exact this
            have HBX := hide hbx
            clear hg hbk hb8 HBL HP7 hbx
            obtain ⟨z1, hz1⟩ : ∃ z1, z - 1 = z1 := ⟨_, rfl⟩
            have hz1i : (z : Int) - 1 = (z1 : Int) := by omega
            have HZ1 := hide hz1
            have HZ2 := hide (show z1 < z by omega)
            clear hz1
            go_wp2
            go_loopw [17] (fun ax wq => ∃ a : Nat, ax = .int .i64 a ∧ ix ≤ a ∧ a < z ∧ Hid (Pf w v7 p7 q n ⟨h.t + 1, h.f, h.g + 1, h.l⟩ (E.take i) H i (k + 1 + 1) sg sc Gs Bs wq) ∧ Hid (Bks wq g gc (blks H (E.take i)))) (fun ax _ => (intOf ax).toNat)
            case atStart => exact ⟨z1, rfl, by have := HZ1.out; omega, HZ2.out, HP8, HBK⟩
            case round =>
              obtain ⟨a, rfl, hixa, haz, hpa, hba⟩ := hrel
              have hsa : (su : Int) ≤ (a : Int) := by omega
              have hsan : ¬ ((a : Int) < (su : Int)) := by omega
              have hazi : (a : Int) < (z : Int) := by omega
              obtain ⟨g2, c2, L2, hcell, hL2, hb2⟩ := hpa.out.at_ (i := a) (by rw [hzl.out]; exact haz)
              have HL2 := hide hL2
              by_cases heq : L2 = blks H (E.take i)
              · have HA := hide (alike_any hb2 hba.out true (iff_of_true rfl heq))
                have HCUT := hide (PInv.cut (H := H) (E := E) (Bs := Bs) (j := i) (a := a) (by rw [HL2.out, heq]))
                have hasc : (a : Int) + 1 ≤ (sc : Int) := by omega
                clear hb2 hL2 heq hba
                go_wp2_with fail
                refine HA.out.mono ?_
                rintro e w9 ⟨rfl, hb9⟩
                have HP9 := hide ((hpa.out.below hb9).cut (a := a) (by rw [hzl.out]; exact haz))
                have HI9 := hide HCUT.out
                have HZL : Hid ((Bs.take (a + 1)).length = a + 1) := hide (by rw [List.length_take, hzl.out]; omega)
                clear hb9 HA HCUT hpa hcell
                go_wp2
                go_roundw
                case rel => exact ⟨k + 1, v7, p7, _, _, _, _, sg, sc, a + 1, a, _, _, by omega, by omega, by omega, rfl, by go_num, rfl, by go_num, HZL, HP9, HI9⟩
                case measure => simp [intOf]; omega
              · have HA := hide (alike_any hb2 hba.out false (iff_of_false (by decide) heq))
                have hne : ix ≠ a := by
                  rintro rfl
                  rw [HBX.out] at hL2
                  exact heq (Option.some.inj hL2).symm
                obtain ⟨a1, ha1⟩ : ∃ a1, a - 1 = a1 := ⟨_, rfl⟩
                have ha1i : (a : Int) - 1 = (a1 : Int) := by omega
                have ha1x : ix ≤ a1 := by omega
                have ha1z : a1 < z := by omega
                have ha1m : a1 < a := by omega
                clear hb2 hL2 heq hne ha1
                go_wp2_with fail
                refine HA.out.mono ?_
                rintro e w9 ⟨rfl, hb9⟩
                have HP9 := hide (hpa.out.below hb9)
                have HB9 := hide (hba.out.below hb9)
                clear hb9 HA hpa hba hcell
                go_wp2
                go_roundw
                case rel => exact ⟨a1, by go_num, ha1x, ha1z, HP9, HB9⟩
                case measure => simp [intOf]; omega
        as_aux_lemma =>
          have HP9 := hide (HP.out.more (Nat.le_succ _) (by have := HK80.out; omega))
          have HI9 := hi
          clear HP HO o1 o2 o3
          go_wp2
          go_roundw
          case rel => exact ⟨k + 1, v, p, _, _, _, _, sg, sc, z, su, _, _, by omega, by omega, by omega, rfl, rfl, rfl, by go_num, hzl, HP9, HI9⟩
          case measure => simp [intOf]; omega
      · obtain rfl : k = m := by omega
        obtain ⟨z1, hz1⟩ : ∃ z1, z - 1 = z1 := ⟨_, rfl⟩
        have hz1i : (z : Int) - 1 = (z1 : Int) := by omega
        have hz1l : z1 < z := by omega
        have hz1li : (z1 : Int) < (z : Int) := by omega
        have hwz : IntKind.i64.wrap (z1 : Int) = (z1 : Int) := IntWalk.i64_in _ (by omega)
        obtain ⟨g, gc, L, hcell, hL, hbk⟩ := hj.out.drew.at_ (i := z1) (by rw [hzl.out]; exact hz1l)
        have HL : Hid (L = blks H E) := hide (by
          have e1 := hi.out.last
          rw [hzl.out, hz1, hL] at e1
          exact Option.some.inj e1)
        have HBK := hide hbk
        have HC := hide hcell
        clear hL hbk hge hz1 hi
        go_wp2
        as_aux_lemma =>
          refine wp_region_held (S := (fun W => W.cell? ⟨sg, z1, none⟩ = some (.slice (some ⟨g, 0, none⟩) 8 gc))) (by kernel_rfl) ?_
          change wpAnyH _ _ _ _ _ _ _ _ (World.drew _)
          refine wpAnyH_take (i := 0) (oi := ⟨some 145, _, _, _, _, _⟩) (v := ?_) rfl (by kernel_rfl) (by kernel_rfl) (by kernel_rfl) (fun _ _ _ h => h) (Or.inl ⟨by rfl, ?_⟩) HC.out ?_
          rotate_left 1
          · (intro w hSw; obtain hSw1 := hSw; go_simp; try with_reducible rfl)
          simp only [Act.put, List.setIfInBounds_toArray, List.set_cons_zero, List.set_cons_succ]
          refine wpAnyH_take (i := 2) (oi := ⟨some 147, _, _, _, _, _⟩) (v := ?_) rfl (by kernel_rfl) (by kernel_rfl) (by kernel_rfl) (fun _ _ _ h => h) (Or.inl ⟨by rfl, ?_⟩) HC.out ?_
          rotate_left 1
          · (intro w hSw; obtain hSw1 := hSw; go_simp; try with_reducible rfl)
          simp only [Act.put, List.setIfInBounds_toArray, List.set_cons_zero, List.set_cons_succ]
          refine wpAnyH_take (i := 3) (oi := ⟨some 148, _, _, _, _, _⟩) (v := ?_) rfl (by kernel_rfl) (by kernel_rfl) (by kernel_rfl) (fun _ _ _ h => h) (Or.inl ⟨by rfl, ?_⟩) HC.out ?_
          rotate_left 1
          · (intro w hSw; obtain hSw1 := hSw; go_simp; try with_reducible rfl)
          simp only [Act.put, List.setIfInBounds_toArray, List.set_cons_zero, List.set_cons_succ]
          refine wpAnyH_take (i := 4) (oi := ⟨some 149, _, _, _, _, _⟩) (v := ?_) rfl (by kernel_rfl) (by kernel_rfl) (by kernel_rfl) (fun _ _ _ h => h) (Or.inl ⟨by rfl, ?_⟩) HC.out ?_
          rotate_left 1
          · (intro w hSw; obtain hSw1 := hSw; go_simp; try with_reducible rfl)
          simp only [Act.put, List.setIfInBounds_toArray, List.set_cons_zero, List.set_cons_succ]
          refine wpAnyH_take (i := 5) (oi := ⟨some 150, _, _, _, _, _⟩) (v := ?_) rfl (by kernel_rfl) (by kernel_rfl) (by kernel_rfl) (fun _ _ _ h => h) (Or.inl ⟨by rfl, ?_⟩) HC.out ?_
          rotate_left 1
          · (intro w hSw; obtain hSw1 := hSw; go_simp; try with_reducible rfl)
          simp only [Act.put, List.setIfInBounds_toArray, List.set_cons_zero, List.set_cons_succ]
          refine wpAnyH_take (i := 6) (oi := ⟨some 151, _, _, _, _, _⟩) (v := ?_) rfl (by kernel_rfl) (by kernel_rfl) (by kernel_rfl) (fun _ _ _ h => h) (Or.inl ⟨by rfl, ?_⟩) HC.out ?_
          rotate_left 1
          · (intro w hSw; obtain hSw1 := hSw; go_simp; try with_reducible rfl)
          simp only [Act.put, List.setIfInBounds_toArray, List.set_cons_zero, List.set_cons_succ]
          refine wpAnyH_take (i := 7) (oi := ⟨some 152, _, _, _, _, _⟩) (v := ?_) rfl (by kernel_rfl) (by kernel_rfl) (by kernel_rfl) (fun _ _ _ h => h) (Or.inl ⟨by rfl, ?_⟩) HC.out ?_
          rotate_left 1
          · (intro w hSw; obtain hSw1 := hSw; go_simp; try with_reducible rfl)
          simp only [Act.put, List.setIfInBounds_toArray, List.set_cons_zero, List.set_cons_succ]
          refine wpAnyH_ready (rs := [1]) (by kernel_rfl) (by simp) ?_
          refine AllReadyH.cons (o := ⟨some 146, _, _, _, _, _⟩) rfl (fun K hK => ?_) AllReadyH.nil
          go_simp
          refine (blocks_any hj.out.drew.vs).mono ?_
          rintro r w8 ⟨g2, c2, rfl, hg2, hbk2, hb8⟩
          have HP8 := hide (hj.out.drew.below hb8)
          have HBK8 := hide (HBK.out.below hb8)
          have HB2 := hide hbk2
          have hS8 := (hb8.cell (p := ⟨sg, z1, none⟩) (World.block_lt_of_cell? _ _ HC.out)).trans HC.out
          clear hb8 hg2 hbk2
          refine hK.out _ _ hS8 (fun hHeld => ?_)
          clear hK K
          clear hHeld
          refine wpAnyH_ready (rs := [8]) (by kernel_rfl) (by simp) ?_
          refine AllReadyH.cons (o := ⟨some 153, _, _, _, _, _⟩) rfl (fun K hK => ?_) AllReadyH.nil
          go_simp
          refine (alike_any HB2.out HBK8.out true (iff_of_true rfl HL.out.symm)).mono ?_
          rintro r w9 ⟨rfl, hb9⟩
          have HP9 := hide (HP8.out.below hb9)
          have hS9 := (hb9.cell (p := ⟨sg, z1, none⟩) (World.block_lt_of_cell? _ _ hS8)).trans hS8
          clear hb9
          refine hK.out _ _ hS9 (fun hHeld => ?_)
          clear hK K
          clear hHeld
          refine wpAnyH_take (i := 9) (oi := ⟨some 4, _, _, _, _, _⟩) (v := ?_) rfl (by kernel_rfl) (by kernel_rfl) (by kernel_rfl) (fun _ _ _ h => h) (Or.inl ⟨by rfl, ?_⟩) hS9 ?_
          rotate_left 1
          · (intro w hSw; obtain hSw1 := hSw; go_simp; try with_reducible rfl)
          simp only [Act.put, List.setIfInBounds_toArray, List.set_cons_zero, List.set_cons_succ]
          refine wpAnyH_done (by kernel_rfl) ?_ _
          clear hS9
          go_wp2
          go_ret
          exact ⟨rfl, HP9.out.vs.bel⟩

  · obtain rfl : bv = false := by
      cases bv with
      | false => rfl
      | true => exact absurd (hbv.1 rfl) hfew
    have HA := hide (awake_any w1 (HT.out.below HB1.out HT.out.pos))
    clear hfew hbv HW HS HN Hp
    go_wp2_with fail
    refine HA.out.mono ?_
    rintro e w2 ⟨rfl, hb2⟩
    have HB2 := hide (HB1.out.trans (hb2.mono HB1.out.size))
    clear hb2 HA
    go_wp2
    go_ret
    exact ⟨rfl, HB2.out⟩
theorem Prefix_any (ring : Nat) (A : Option Addr) (m c : Nat) (l : List Oq) (w : World) (ht : Tab w) (hring : ring < 256) (hl : l.length = m) (hp : Ops w w.heap.size A l) (hf : OFits l) :
    Calls Tryd.prog 3 #[.int .u8 (ring : Int), .slice A m c] w fun r w' => r = .returned (.bool true) ∧ Below w.heap.size w w' := Prefix_few ring A m c l w hl hp hf ht hring

end Go.Proofs.YtapiogcoipeinaaDoor.Vo

namespace Go.Proofs.YtapiogcoipeinaaDoor.volumePrefix
open Go.ChangeShapes Go.WideShapes Go.ChangeAt Go.RowKit
open Go.ChangeMaps (open_string shut_string)
open Go.Deep
open Rc Vo

theorem laidOut : laidOutB Tryd.prog = true := by kernel_rfl

set_option maxRecDepth 100000 in
theorem lifted (os : Os) (started : os.Started) (H : Type) (enc : TypeId × Value → H) :
    ReturnsInHanded {} Tryd.checked os 3 .any (fun w args => (Rows.volumePrefixSpec.pre enc Tryd.prog Tryd.f3 [] false w args ∧ laidMetH Tryd.prog laidH w) ∧ sizedMet enc Tryd.prog Tryd.f3 (OpenSpec.ofChange Rows.volumePrefixSpec) false w args)
      (Rows.volumePrefixSpec.post enc Tryd.prog Tryd.f3 false true false false) := by
  refine returnsInHanded_of_change_and (C := Tryd.checked) (X := fun w _ => laidMetH Tryd.prog laidH w) (fun _ _ _ hh h => h.of_heap hh) own started (by kernel_rfl) Tryd.func3
    (ChangeSpec.witness_shaped (enc := enc) (C := Tryd.checked) (os := os) (X := fun w _ => laidMetH Tryd.prog laidH w) false (World.doorLaid Tryd.prog 14 os) #[.int .u8 0, .slice none 0 0] 8 rfl (World.shaped_of_RefB (by kernel_rfl) (by kernel_rfl)) (by kernel_rfl) (by kernel_rfl) (by kernel_rfl) (Vo.door_metH os _)) ?_
  intro W base args ds gs before hval0 hW _ _ hL _
  have hval : ∀ (j : Nat) t v, Tryd.f3.params[j]? = some t → args[j]? = some v → Value.okWide Tryd.prog W .any base t v := hval0
  have hW' := hW
  obtain ⟨p, q, hA0, hV, rfl, hfz, hnd⟩ := hW
  have hA : DataW.TrodAll enc Tryd.prog W 0 (fun _ => true) true Tryd.f3.params.toList args.toList ds p := hA0
  rw [Tryd.params3] at hA hval
  obtain ⟨v0, vs0, d0, ds0, p0, q0, hargs, rfl, rfl, h0, r0⟩ := trodAll_cons hA
  obtain ⟨v1, vs1, d1, ds1, p1, q1, rfl, rfl, rfl, h1, r1⟩ := trodAll_cons r0
  obtain ⟨rfl, rfl, rfl⟩ := trodAll_nil r1
  obtain rfl : args = #[v0, v1] := by cases args; simp_all
  obtain ⟨rfl, rfl⟩ := trodVars_none hV
  obtain ⟨a0, rfl, rfl, rfl, w0⟩ := open_int Tryd.underlying5 (hval 0 5 v0 rfl rfl) h0
  have b0 := bounds_u8 w0
  obtain ⟨m0, rfl⟩ : ∃ m : Nat, a0 = (m : Int) := ⟨a0.toNat, by omega⟩
  obtain ⟨A1, n1, c1, rfl⟩ := okWide_slice Tryd.underlying22 (hval 1 22 v1 rfl rfl)
  have k1 := h1
  have lt1 : ∀ x ∈ p1, x.block < W.heap.size := by obtain ⟨m, hm⟩ := k1; exact DataW.trod_lt m _ _ _ hm
  obtain ⟨l1, hln1, hft1, hpl1⟩ := open_ops h1
  clear hA0 hval0
  refine (Prefix_any m0 A1 n1 c1 l1 W (met_of_laidH hL) (by omega) hln1 hpl1 hft1).mono fun e W' ⟨he, bel⟩ => ?_
  subst he
  exact ⟨_, rfl, _, _, _, [], _, [], hW', trodAll_mk1 (shut_bool Tryd.underlying4 _), (trodAll_cons_mk (shut_int Tryd.underlying5 w0) (trodAll_cons_mk (Below.trod laidOut (by kernel_rfl) (of_decide_eq_true (by kernel_rfl)) k1 bel lt1) trodAll_mk0)), rfl, bel.frame _, fun h => by cases h⟩

theorem row : Rows.VolumePrefixSaid :=
  OpenClaim.holds_of_wide 3 Tryd.f3 rfl rfl rfl rfl rfl rfl rfl ⟨rfl, rfl, rfl, rfl, rfl⟩ rfl rfl rfl rfl rfl (by kernel_rfl) Tryd.func3 (by kernel_rfl)
    (of_decide_eq_true (by kernel_rfl)) (by unfold Func.isWrapper; first | (rw [if_pos (by decide +kernel)]; kernel_rfl) | (rw [if_neg (by decide +kernel)]; exact ⟨rfl, rfl⟩))
    (fun os started H enc _ => lifted os started H enc)

theorem proved : Rows.VolumePrefixCardSaid :=
  Claim7.holds_tied_plain_at .later [] [.data] true Rows.volumePrefixCard.stood.harness true
    row (fun _ h => by cases h) (by kernel_rfl) (fun _ h => by cases h) volumePrefix_row_tie rfl ⟨rfl, rfl⟩ (by kernel_rfl) rfl
    (fun f fn hf hfn => by
      obtain rfl : f = 3 := Option.some.inj ((show Tryd.prog.funcNamed "isobar/isobarlaw11.VolumePrefix" = some 3 by kernel_rfl).symm.trans hf) |>.symm
      obtain rfl : fn = Tryd.f3 := (Option.some.inj (Tryd.func3.symm.trans hfn)).symm
      exact ⟨by kernel_rfl, fun j t ht => by
        rw [Tryd.params3] at ht
        have hm : t ∈ [5, 22] := by simpa using Array.mem_of_getElem? ht
        have hall : ([5, 22].all fun u => !Tryd.prog.wantsStandIn u) = true := by kernel_rfl
        exact (show Tryd.prog.wantsStandIn t = false by simpa using List.all_eq_true.1 hall t hm)⟩)
    (by kernel_rfl)
#print axioms proved
end Go.Proofs.YtapiogcoipeinaaDoor.volumePrefix
