/-
  The statements' arguments: a slice of Ops, a record, as numbers and texts; what the statements' own few returns. Nothing is changed.
-/
import Derived.Test.YteneacmdfehfnaaDoorRows
import Derived.WalkKit
import Derived.ProofKit
import Derived.OpenShut
import Derived.ShutString
import Derived.ChangeOld
import Derived.Below
import Derived.Deep.SlicePairs
import Derived.Laws.StructEq
import Derived.Lib.SmallJoins
import Derived.Test.YteneacmdfehfnaaDoorSgMore
namespace Go.Proofs.YteneacmdfehfnaaDoor.Sg
open Go.ChangeShapes Go.WideShapes Go.ChangeAt Go.RowKit Go.Deep Go.Joins
open Pk Dk Wn Lk Rc

theorem own : ownKnob Tryd.prog.godebug = none := by kernel_rfl
theorem laidOut : laidOutB Tryd.prog = true := by kernel_rfl
theorem rec_struct : Tryd.prog.underlying 30 = some (.struct (Tryd.prog.fieldsOf 30)) := by kernel_rfl
theorem rec_cells : Tryd.prog.cellsOf 30 = 5 := by kernel_rfl
theorem rec_one : oneCellFields Tryd.prog (Tryd.prog.fieldsOf 30) = true := by kernel_rfl
theorem five {α : Type} (l : List α) (h : l.length = 5) : ∃ a b c d e, l = [a, b, c, d, e] := by
  match l, h with
  | [a, b, c, d, e], _ => exact ⟨a, b, c, d, e, rfl⟩

/-! ### Ops -/
/-- Kind, N, R, Next. -/
structure Oq where
  kind : Int
  n : Int
  r : Rd
  next : Bool
instance : Inhabited Oq := ⟨⟨0, 0, default, false⟩⟩
def ocel (q : Oq) : List Value := [.int .i64 q.kind, .int .i64 q.n, .int .i64 q.r.s, .int .i64 q.r.k, .int .i64 q.r.b, .string q.r.d, .int .i64 q.r.m, .bool q.next]
def ocels (l : List Oq) : List Value := l.flatMap ocel
theorem ocel_len (l : List Oq) : ∀ q ∈ l, (ocel q).length = 8 := fun _ _ => rfl
theorem ocels_len (l : List Oq) : (ocels l).length = l.length * 8 := flat_len l (ocel_len l)
def Fits (l : List Oq) : Prop := ∀ q ∈ l, q.r.d.size ≤ maxLen
/-- The cells of an Op. -/
structure OAt (w : World) (g o : Nat) (q : Oq) : Prop where
  kind : w.cell? ⟨g, o, none⟩ = some (.int .i64 q.kind)
  n : w.cell? ⟨g, o + 1, none⟩ = some (.int .i64 q.n)
  r : RAt w g (o + 2) q.r
  next : w.cell? ⟨g, o + 7, none⟩ = some (.bool q.next)
theorem OAt.below {w w' : World} {g o B : Nat} {q : Oq} (h : OAt w g o q) (hg : g < B) (hb : Below B w w') : OAt w' g o q :=
  ⟨(hb.cell (p := ⟨g, o, none⟩) hg).trans h.kind, (hb.cell (p := ⟨g, o + 1, none⟩) hg).trans h.n, h.r.below hg hb, (hb.cell (p := ⟨g, o + 7, none⟩) hg).trans h.next⟩
theorem Src.op {w : World} {A : Option Addr} {l : List Oq} {j : Nat} {q : Oq} (h : Src w A (ocels l)) (hq : l[j]? = some q) : ∃ g o, A = some ⟨g, o, none⟩ ∧ g < w.heap.size ∧ OAt w g (o + j * 8) q := by
  have f := fun i (hi : i < 8) => flat_get (f := ocel) l (ocel_len l) j i q hq hi
  have h0 : (ocels l)[j * 8 + 0]? = some (.int .i64 q.kind) := f 0 (by omega)
  have h1 : (ocels l)[j * 8 + 1]? = some (.int .i64 q.n) := f 1 (by omega)
  have h2 : (ocels l)[j * 8 + 2]? = some (.int .i64 q.r.s) := f 2 (by omega)
  have h3 : (ocels l)[j * 8 + 3]? = some (.int .i64 q.r.k) := f 3 (by omega)
  have h4 : (ocels l)[j * 8 + 4]? = some (.int .i64 q.r.b) := f 4 (by omega)
  have h5 : (ocels l)[j * 8 + 5]? = some (.string q.r.d) := f 5 (by omega)
  have h6 : (ocels l)[j * 8 + 6]? = some (.int .i64 q.r.m) := f 6 (by omega)
  have h7 : (ocels l)[j * 8 + 7]? = some (.bool q.next) := f 7 (by omega)
  obtain ⟨g, o, e, hl, hc⟩ := h (by intro e; rw [e] at h0; simp at h0)
  have c := fun j u hj => by
    have := hc j u hj
    exact this
  refine ⟨g, o, e, hl, c _ _ h0, by rw [Nat.add_assoc]; exact c _ _ h1, ⟨by rw [Nat.add_assoc]; exact c _ _ h2, ?_, ?_, ?_, ?_⟩, by rw [Nat.add_assoc]; exact c _ _ h7⟩
  · rw [show o + j * 8 + 2 + 1 = o + (j * 8 + 3) by omega]; exact c _ _ h3
  · rw [show o + j * 8 + 2 + 2 = o + (j * 8 + 4) by omega]; exact c _ _ h4
  · rw [show o + j * 8 + 2 + 3 = o + (j * 8 + 5) by omega]; exact c _ _ h5
  · rw [show o + j * 8 + 2 + 4 = o + (j * 8 + 6) by omega]; exact c _ _ h6

section
variable {H : Type} {enc : TypeId × Value → H} {W : World} {d : DataW H} {p : List MemPlace} {a0 : Option Addr} {len cap : Nat}
set_option maxRecDepth 100000 in
theorem rec_parts {fuel : Nat} {y : DataW H × List MemPlace} {v0 v1 v2 v3 v4 : Value} (hf : DataW.trod enc Tryd.prog W 0 (fun _ => true) true fuel 30 [v0, v1, v2, v3, v4] = some y) :
    ∃ q : Rd, v0 = .int .i64 q.s ∧ v1 = .int .i64 q.k ∧ v2 = .int .i64 q.b ∧ v3 = .string q.d ∧ v4 = .int .i64 q.m ∧ q.d.size ≤ maxLen := by
  obtain ⟨xs, n, _, _, _, hlen, hfl⟩ := DataW.trod_struct rec_struct hf
  have hfs : (Tryd.prog.fieldsOf 30).toList.map (fun f => f.type) = [3, 3, 3, 9, 3] := by kernel_rfl
  have h5 : (Tryd.prog.fieldsOf 30).size = 5 := by kernel_rfl
  have each : ∀ (i : Nat) (t : TypeId) (u : Value), ([3, 3, 3, 9, 3] : List TypeId)[i]? = some t → ([v0, v1, v2, v3, v4] : List Value)[i]? = some u → ∃ y, DataW.trod enc Tryd.prog W 0 (fun _ => true) true n t [u] = some y := by
    intro i t u ht hu
    have hi : i < 5 := by
      have := (List.getElem?_eq_some_iff.1 hu).1
      simpa using this
    obtain ⟨f, hff⟩ : ∃ f, (Tryd.prog.fieldsOf 30)[i]? = some f := ⟨_, Array.getElem?_eq_getElem (by omega)⟩
    obtain ⟨ho, hc⟩ := hone_of rec_one i f hff
    have ht' : f.type = t := by
      have e : ((Tryd.prog.fieldsOf 30).toList.map (fun f => f.type))[i]? = some f.type := by
        rw [List.getElem?_map, Array.getElem?_toList, hff]; rfl
      rw [hfs, ht] at e
      exact (Option.some.inj e).symm
    have hx := hfl i f hff
    rw [ho, hc, ht'] at hx
    obtain ⟨y, hy⟩ : ∃ y, xs[i]? = some y := ⟨_, List.getElem?_eq_getElem (by omega)⟩
    rw [hy] at hx
    refine ⟨y, ?_⟩
    have e : (([v0, v1, v2, v3, v4] : List Value).drop i).take 1 = [u] := by
      obtain ⟨hlt, he⟩ := List.getElem?_eq_some_iff.1 hu
      rw [List.drop_eq_getElem_cons hlt, he]
      rfl
    rw [← e]
    exact hx
  obtain ⟨y0, h0⟩ := each 0 _ _ rfl rfl
  obtain ⟨y1, h1⟩ := each 1 _ _ rfl rfl
  obtain ⟨y2, h2⟩ := each 2 _ _ rfl rfl
  obtain ⟨y3, h3⟩ := each 3 _ _ rfl rfl
  obtain ⟨y4, h4⟩ := each 4 _ _ rfl rfl
  obtain ⟨k0, e0, _, w0⟩ := DataW.trod_int Tryd.underlying3 h0
  obtain ⟨k1, e1, _, w1⟩ := DataW.trod_int Tryd.underlying3 h1
  obtain ⟨k2, e2, _, w2⟩ := DataW.trod_int Tryd.underlying3 h2
  obtain ⟨s3, e3, _, w3⟩ := DataW.trod_string Tryd.underlying9 h3
  obtain ⟨k4, e4, _, w4⟩ := DataW.trod_int Tryd.underlying3 h4
  simp at e0 e1 e2 e3 e4
  subst e0 e1 e2 e3 e4
  exact ⟨⟨k0, k1, k2, s3, k4⟩, rfl, rfl, rfl, rfl, rfl, w3⟩

set_option maxRecDepth 100000 in
/-- A record that came in. -/
theorem open_rcd {r : Reach} {b0 : Nat} {v : Value} (hv : Value.okWide Tryd.prog W r b0 30 v) (h : DataW.Trod enc Tryd.prog W 0 (fun _ => true) true 30 v d p) :
    ∃ q : Rd, v = q.val ∧ q.d.size ≤ maxLen := by
  obtain ⟨cs, rfl, hsz⟩ := okWide_struct rec_struct hv
  rw [rec_cells] at hsz
  obtain ⟨v0, v1, v2, v3, v4, hl⟩ := five cs.toList (by simpa using hsz)
  obtain rfl : cs = #[v0, v1, v2, v3, v4] := by
    apply Array.ext'
    exact hl
  obtain ⟨fuel, hf⟩ := h
  obtain ⟨q, rfl, rfl, rfl, rfl, rfl, hq⟩ := rec_parts hf
  exact ⟨q, rfl, hq⟩

set_option maxRecDepth 100000 in
theorem open_ops12 (h : DataW.Trod enc Tryd.prog W 0 (fun _ => true) true 22 (.slice a0 len cap) d p) :
    ∃ l : List Oq, l.length = len ∧ Fits l ∧ Src W a0 (ocels l) := by
  obtain ⟨fuel, hf⟩ := h
  rcases open_slice Tryd.underlying22 hf with ⟨hcs, _⟩ | ⟨x, l, c, m, n, D, Pl, hcs, _, hl, hm, hmm, _, hc⟩
  · simp [Value.cells] at hcs
    obtain ⟨rfl, rfl, rfl⟩ := hcs
    exact ⟨[], rfl, fun q hq => (by cases hq), fun hl => absurd rfl hl⟩
  · simp [Value.cells] at hcs
    obtain ⟨rfl, rfl, rfl⟩ := hcs
    have hmc : m = cap := by simpa using hmm
    subst hmc
    have ce : Tryd.prog.cellsOf 32 = 8 := by kernel_rfl
    have c1 : Tryd.prog.cellsOf 3 = 1 := by kernel_rfl
    have c3 : Tryd.prog.cellsOf 30 = 5 := by kernel_rfl
    have c4 : Tryd.prog.cellsOf 4 = 1 := by kernel_rfl
    have each : ∀ i, i < m → ∃ q : Oq, (∀ j u, (ocel q)[j]? = some u → W.cell? (x.add (i * 8 + j)) = some u) ∧ q.r.d.size ≤ maxLen := fun i hi => by
      obtain ⟨cs', g1, g2⟩ := hc i hi
      rw [ce] at g1
      obtain ⟨_, hlen, hcell⟩ := World.cells?_some g1
      obtain ⟨y0, y1, y2, y3, k, _, _, t0, t1, t2, t3⟩ := trod_struct4 Tryd.underlying32 g2
      match cs', hlen with
      | [v0, v1, v2, v3, v4, v5, v6, v7], _ =>
        simp [c1, c3, c4] at t0 t1 t2 t3
        obtain ⟨k0, e0, _, w0⟩ := DataW.trod_int Tryd.underlying3 t0
        obtain ⟨k1, e1, _, w1⟩ := DataW.trod_int Tryd.underlying3 t1
        obtain ⟨r, rfl, rfl, rfl, rfl, rfl, hr⟩ := rec_parts t2
        obtain ⟨b3, e3, _⟩ := DataW.trod_bool Tryd.underlying4 t3
        simp at e0 e1 e3
        subst e0 e1 e3
        refine ⟨⟨k0, k1, r, b3⟩, fun j u hu => ?_, hr⟩
        have hj : j < 8 := by have := (List.getElem?_eq_some_iff.1 hu).1; simpa [ocel] using this
        have e := hcell j hj
        rw [Addr.add_add] at e
        rw [e]
        exact hu
    obtain ⟨q, hq⟩ := choose_lt each
    refine ⟨(List.range len).map q, by simp, fun x hx => by
      obtain ⟨i, hi, rfl⟩ := List.mem_map.1 hx
      have hi' := List.mem_range.1 hi
      exact (hq i (by omega)).2, fun hpos => ?_⟩
    have hlp : 0 < len := by
      rcases Nat.eq_zero_or_pos len with h0 | h0
      · exact absurd (by rw [h0]; rfl) hpos
      · exact h0
    obtain ⟨b, o, sp⟩ := x
    have hsp : sp = none := by
      simpa [Addr.add] using World.cell?_spot ((hq 0 (by omega)).1 0 _ rfl)
    subst hsp
    have hb : b < W.heap.size := by
      have := (hq 0 (by omega)).1 0 _ rfl
      rw [Addr.add_lit] at this
      exact World.block_lt_of_cell? W ⟨b, _, none⟩ this
    refine ⟨b, o, rfl, hb, fun j u hu => ?_⟩
    have hjl : j < len * 8 := by
      have := (List.getElem?_eq_some_iff.1 hu).1
      rw [ocels_len, List.length_map, List.length_range] at this
      exact this
    obtain ⟨i, r, rfl, hr⟩ : ∃ i r, j = i * 8 + r ∧ r < 8 := ⟨j / 8, j % 8, by omega, by omega⟩
    have hg : (ocels ((List.range len).map q))[i * 8 + r]? = (ocel (q i))[r]? := flat_get _ (ocel_len _) i r (q i) (by simp [show i < len by omega]) hr
    rw [hg] at hu
    have := (hq i (by omega)).1 r u hu
    rwa [Addr.add_lit] at this
end

/-! ### few -/
def Shorts (l : List Oq) : Prop := ∀ q ∈ l, q.r.d.size ≤ 100
/-- Ops of a size that is looked at. -/
def Few (l : List Oq) : Prop := l.length ≤ 200 ∧ Shorts l
/-- What few returns. -/
def Sgn (b : Bool) (p : Prop) : Prop := b = true ↔ p
theorem Sgn.yes {p : Prop} (h : Sgn true p) : p := h.1 rfl
theorem Sgn.no {p : Prop} (h : Sgn false p) : ¬ p := fun hp => by cases h.2 hp
def FewR (p : Prop) (r : Ending) : Prop := ∃ b : Bool, r = .returned (.bool b) ∧ Sgn b p
theorem few_long (A : Option Addr) (n c : Nat) (w : World) (hn : 200 < n) :
    Calls Tryd.prog 6 #[.slice A n c] w fun r w' => r = .returned (.bool false) ∧ w = w' := by
  have hni : (200 : Int) < (n : Int) := by omega
  go_enter Tryd.func6, Tryd.ntmps6
  go_wp2
  go_ret
  exact ⟨rfl, rfl⟩
set_option maxRecDepth 100000 in
set_option maxHeartbeats 1000000 in
theorem few_short (A : Option Addr) (n c : Nat) (l : List Oq) (w : World) (hl : l.length = n) (hn : n ≤ 200) (hs : Src w A (ocels l)) (hf : Fits l) :
    Calls Tryd.prog 6 #[.slice A n c] w fun r w' => FewR (Shorts l) r ∧ w = w' := by
  have Hl := hide hl
  have Hs := hide hs
  have Hf := hide hf
  have hni : ¬ (200 : Int) < (n : Int) := by omega
  clear hl hs hf
  go_enter Tryd.func6, Tryd.ntmps6
  go_wp2_with fail
  go_loop [3, 9] (fun _ i => ∃ k : Nat, k ≤ n ∧ i = .int .i64 k ∧ Hid (∀ q ∈ l.take k, q.r.d.size ≤ 100)) (fun _ i => n - (intOf i).toNat)
  case atStart => exact ⟨0, Nat.zero_le _, rfl, by simp [Hid]⟩
  case round =>
    obtain ⟨k, hk, rfl, hq⟩ := hrel
    rcases Nat.lt_or_ge k n with hlt | hge
    · obtain ⟨q, hqk⟩ : ∃ q, l[k]? = some q := ⟨_, List.getElem?_eq_getElem (by rw [Hl.out]; exact hlt)⟩
      obtain ⟨b, o, rfl, _, hat⟩ := Src.op Hs.out hqk
      have hki : (k : Int) < (n : Int) := by omega
      have hc0 := hat.r.2.2.2.1
      rw [show o + k * 8 + 2 + 3 = o + k * 8 + 5 by omega] at hc0
      have hmem : q ∈ l := List.mem_of_getElem? hqk
      obtain ⟨qd, hqd⟩ : ∃ qd, q.r.d = qd := ⟨_, rfl⟩
      have hqm' : qd.size ≤ maxLen := by rw [← hqd]; exact Hf.out q hmem
      rw [hqd] at hc0
      have Hqd := hide hqd
      have Hqk := hide hqk
      have Hmem := hide hmem
      have Hlt := hide hlt
      unfold maxLen at hqm'
      clear hqk hmem hat hqd hlt hk
      by_cases hsz : ¬ qd.size ≤ 100
      · have hszi : (100 : Int) < (qd.size : Int) := by omega
        go_wp2
        go_ret
        exact ⟨⟨false, rfl, by simp only [Sgn, Bool.false_eq_true, false_iff]; exact fun h => hsz (by rw [← Hqd.out]; exact h q Hmem.out)⟩, rfl⟩
      · have hszi : ¬ (100 : Int) < (qd.size : Int) := by omega
        go_wp2
        go_round
        case rel =>
          refine ⟨k + 1, Hlt.out, by go_num, ?_⟩
          show ∀ x ∈ l.take (k + 1), x.r.d.size ≤ 100
          rw [List.take_add_one, Hqk.out]
          intro x hx
          rcases List.mem_append.1 hx with hx | hx
          · exact hq.out x hx
          · simp at hx
            rw [hx, Hqd.out]; omega
        case measure => have := Hlt.out; simp [intOf]; omega
    · have hq' := hq.out
      rw [List.take_of_length_le (by rw [Hl.out]; omega)] at hq'
      have HQ := hide hq'
      obtain rfl : k = n := by omega
      clear hq' hq hge hk
      go_wp2
      go_ret
      exact ⟨⟨true, rfl, by simp only [Sgn, true_iff]; exact HQ.out⟩, rfl⟩
theorem few_any (A : Option Addr) (n c : Nat) (l : List Oq) (w : World) (hl : l.length = n) (hs : Src w A (ocels l)) (hf : Fits l) :
    Calls Tryd.prog 6 #[.slice A n c] w fun r w' => FewR (Few l) r ∧ w = w' := by
  rcases Nat.lt_or_ge 200 n with h | h
  · refine (few_long A n c w h).mono ?_
    rintro r w' ⟨rfl, rfl⟩
    exact ⟨⟨false, rfl, by simp only [Sgn, Bool.false_eq_true, false_iff]; intro h2; have := h2.1; omega⟩, rfl⟩
  · refine (few_short A n c l w hl h hs hf).mono ?_
    rintro r w' ⟨⟨b, rfl, hb⟩, rfl⟩
    exact ⟨⟨b, rfl, Iff.trans hb ⟨fun h2 => ⟨by omega, h2⟩, fun h2 => h2.2⟩⟩, rfl⟩

end Go.Proofs.YteneacmdfehfnaaDoor.Sg
