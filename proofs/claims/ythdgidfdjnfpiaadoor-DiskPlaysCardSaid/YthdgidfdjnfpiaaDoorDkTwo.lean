/-
  The program's disk and the document's own one, side by side: what a call on one leaves of the other. Nothing but their own memory is changed.
-/
import Derived.Test.YthdgidfdjnfpiaaDoorDkRefB
namespace Go.Proofs.YthdgidfdjnfpiaaDoor.Dk
open Go.RowKit
open Pk Sm Fa

/-- Both disks: the program's with S and L, the document's with S2 and L2. -/
def Two0 (w : World) (p r : Nat) (S : List Sec) (L : List Wr) (S2 : List Sec) (L2 : List Wr) (wr : World) : Prop :=
  ∃ Gd Gr, Dsk wr Gd p S L ∧ RDsk wr Gr r S2 L2 ∧ (∀ i, Gd i → ¬ Gr i) ∧ (∀ i, Gd i → w.heap.size ≤ i) ∧ (∀ i, Gr i → w.heap.size ≤ i) ∧ Below w.heap.size w wr
/-- And a block that is neither's. -/
def Two (w : World) (p r : Nat) (S : List Sec) (L : List Wr) (S2 : List Sec) (L2 : List Wr) (bo : Nat) (ob : Obj) (wr : World) : Prop :=
  ∃ Gd Gr, Dsk wr Gd p S L ∧ RDsk wr Gr r S2 L2 ∧ (∀ i, Gd i → ¬ Gr i) ∧ (∀ i, Gd i → w.heap.size ≤ i) ∧ (∀ i, Gr i → w.heap.size ≤ i) ∧ Below w.heap.size w wr ∧ wr.heap[bo]? = some ob ∧ ¬ Gd bo ∧ ¬ Gr bo
section
variable {w wr w' : World} {p r bo : Nat} {S S2 S' : List Sec} {L L2 L' : List Wr} {ob : Obj}
theorem Two.two0 (h : Two w p r S L S2 L2 bo ob wr) : Two0 w p r S L S2 L2 wr := by
  obtain ⟨Gd, Gr, h1, h2, h3, h4, h5, h6, _⟩ := h
  exact ⟨Gd, Gr, h1, h2, h3, h4, h5, h6⟩
theorem Two0.size (h : Two0 w p r S L S2 L2 wr) : Below w.heap.size w wr := by
  obtain ⟨Gd, Gr, h1, h2, h3, h4, h5, h6⟩ := h
  exact h6
theorem Two.size (h : Two w p r S L S2 L2 bo ob wr) : Below w.heap.size w wr := h.two0.size
theorem Two.obj (h : Two w p r S L S2 L2 bo ob wr) : wr.heap[bo]? = some ob := by
  obtain ⟨Gd, Gr, h1, h2, h3, h4, h5, h6, h7, _⟩ := h
  exact h7
theorem Two0.below (h : Two0 w p r S L S2 L2 wr) (hb : Below wr.heap.size wr w') : Two0 w p r S L S2 L2 w' := by
  obtain ⟨Gd, Gr, h1, h2, h3, h4, h5, h6⟩ := h
  exact ⟨Gd, Gr, h1.below hb, h2.below hb, h3, h4, h5, h6.trans (hb.mono h6.size)⟩
theorem Two.below (h : Two w p r S L S2 L2 bo ob wr) (hb : Below wr.heap.size wr w') : Two w p r S L S2 L2 bo ob w' := by
  obtain ⟨Gd, Gr, h1, h2, h3, h4, h5, h6, h7, h8, h9⟩ := h
  exact ⟨Gd, Gr, h1.below hb, h2.below hb, h3, h4, h5, h6.trans (hb.mono h6.size), (hb.block bo (heap_lt h7)).trans h7, h8, h9⟩
theorem Two0.with (h : Two0 w p r S L S2 L2 wr) (hb : Below wr.heap.size wr w') (hg : wr.heap.size ≤ bo) (ho : w'.heap[bo]? = some ob) : Two w p r S L S2 L2 bo ob w' := by
  obtain ⟨Gd, Gr, h1, h2, h3, h4, h5, h6⟩ := h
  exact ⟨Gd, Gr, h1.below hb, h2.below hb, h3, h4, h5, h6.trans (hb.mono h6.size), ho, fun hh => by have := h1.lt bo hh; omega, fun hh => by have := h2.lt bo hh; omega⟩
theorem Two.start {w2 w3 : World} {Gd Gr : Nat → Prop} (h1 : Dsk w2 Gd p S L) (hd : ∀ i, Gd i → w.heap.size ≤ i) (hb2 : Below w.heap.size w w2) (h2 : RDsk w3 Gr r S2 L2) (hr : ∀ i, Gr i → w2.heap.size ≤ i) (hb3 : Below w2.heap.size w2 w3) : Two0 w p r S L S2 L2 w3 :=
  ⟨Gd, Gr, h1.below hb3, h2, fun i hi hj => by have := h1.lt i hi; have := hr i hj; omega, hd, fun i hi => Nat.le_trans hb2.size (hr i hi), hb2.trans (hb3.mono hb2.size)⟩
theorem Two.stepD {Gd Gr : Nat → Prop} (h2 : RDsk wr Gr r S2 L2) (h3 : ∀ i, Gd i → ¬ Gr i) (h4 : ∀ i, Gd i → w.heap.size ≤ i) (h5 : ∀ i, Gr i → w.heap.size ≤ i) (h6 : Below w.heap.size w wr) (h7 : wr.heap[bo]? = some ob) (h8 : ¬ Gd bo) (h9 : ¬ Gr bo)
    (hp : Post wr Gd p S' L' w') : Two w p r S' L' S2 L2 bo ob w' := by
  obtain ⟨G', hd, hg, hk⟩ := hp
  refine ⟨G', Gr, hd, h2.kept hk (fun i hi hj => h3 i hj hi), fun i hi hj => ?_, hg.from h4 h6.size, h5, h6.trans (hk.below h4 h6.size), (hk.block bo (heap_lt h7) h8).trans h7, fun hh => ?_, h9⟩
  · rcases hg i hi with h | h
    · exact h3 i h hj
    · have := h2.lt i hj; omega
  · rcases hg bo hh with h | h
    · exact h8 h
    · have := heap_lt h7; omega
theorem Two.stepR {Gd Gr : Nat → Prop} (h1 : Dsk wr Gd p S L) (h3 : ∀ i, Gd i → ¬ Gr i) (h4 : ∀ i, Gd i → w.heap.size ≤ i) (h5 : ∀ i, Gr i → w.heap.size ≤ i) (h6 : Below w.heap.size w wr) (h7 : wr.heap[bo]? = some ob) (h8 : ¬ Gd bo) (h9 : ¬ Gr bo)
    (hp : RPost wr Gr r S' L' w') : Two w p r S L S' L' bo ob w' := by
  obtain ⟨G', hd, hg, hk⟩ := hp
  refine ⟨Gd, G', h1.kept hk (fun i hi hj => h3 i hi hj), hd, fun i hi hj => ?_, h4, hg.from h5 h6.size, h6.trans (hk.below h5 h6.size), (hk.block bo (heap_lt h7) h9).trans h7, h8, fun hh => ?_⟩
  · rcases hg i hj with h | h
    · exact h3 i hi h
    · have := h1.lt i hi; omega
  · rcases hg bo hh with h | h
    · exact h9 h
    · have := heap_lt h7; omega

theorem Two.write {A : Option Addr} {i c : Nat} {l : Sec} (h : Two w p r S L S2 L2 bo ob wr) (hi : i < S.length) (hb : Byt wr wr.heap.size A l) (hl : l.length = 64) (hL : L.length ≤ 900000) :
    Calls Tryd.prog 15 #[.pointer (some ⟨p, 0, none⟩), .int .i64 i, .slice A 64 c] wr fun e w' => e = .returned .nilIface ∧ Two w p r S (L ++ [(i, l)]) S2 L2 bo ob w' := by
  obtain ⟨Gd, Gr, h1, h2, h3, h4, h5, h6, h7, h8, h9⟩ := h
  refine (Write_any wr Gd p i c A S L l h1 hi hb hl hL).mono ?_
  rintro e w' ⟨rfl, hp⟩
  exact ⟨rfl, Two.stepD h2 h3 h4 h5 h6 h7 h8 h9 hp⟩
theorem Two.rwrite {i : Nat} {s : ByteArray} (h : Two w p r S L S2 L2 bo ob wr) (hi : i < S2.length) (hs : s.size = 64) (hL : L2.length ≤ 900000) :
    Calls Tryd.prog 16 #[.pointer (some ⟨r, 0, none⟩), .int .i64 i, .string s] wr fun e w' => e = .returned (.int .i64 0) ∧ Two w p r S L S2 (L2 ++ [(i, s.data.toList)]) bo ob w' := by
  obtain ⟨Gd, Gr, h1, h2, h3, h4, h5, h6, h7, h8, h9⟩ := h
  refine (RWrite_any wr Gr r i S2 L2 s h2 hi hs hL).mono ?_
  rintro e w' ⟨rfl, hp⟩
  exact ⟨rfl, Two.stepR h1 h3 h4 h5 h6 h7 h8 h9 hp⟩
theorem Two.flush (h : Two w p r S L S2 L2 bo ob wr) (hL : L.length ≤ 1000000) :
    Calls Tryd.prog 19 #[.pointer (some ⟨p, 0, none⟩)] wr fun e w' => e = .returned (.tuple #[]) ∧ Two w p r (all S L) [] S2 L2 bo ob w' := by
  obtain ⟨Gd, Gr, h1, h2, h3, h4, h5, h6, h7, h8, h9⟩ := h
  refine (Flush_any wr Gd p S L h1 hL).mono ?_
  rintro e w' ⟨rfl, hp⟩
  exact ⟨rfl, Two.stepD h2 h3 h4 h5 h6 h7 h8 h9 hp⟩
theorem Two.rflush (h : Two w p r S L S2 L2 bo ob wr) (hL : L2.length ≤ 1000000) :
    Calls Tryd.prog 20 #[.pointer (some ⟨r, 0, none⟩)] wr fun e w' => e = .returned (.tuple #[]) ∧ Two w p r S L (all S2 L2) [] bo ob w' := by
  obtain ⟨Gd, Gr, h1, h2, h3, h4, h5, h6, h7, h8, h9⟩ := h
  refine (RFlush_any wr Gr r S2 L2 h2 hL).mono ?_
  rintro e w' ⟨rfl, hp⟩
  exact ⟨rfl, Two.stepR h1 h3 h4 h5 h6 h7 h8 h9 hp⟩
theorem Two.crash {K : Nat} (h : Two w p r S L S2 L2 bo ob wr) (hK : K < 18446744073709551616) (hL : L.length ≤ 1000000) :
    Calls Tryd.prog 21 #[.pointer (some ⟨p, 0, none⟩), .int .u64 K] wr fun e w' => e = .returned (.tuple #[]) ∧ Two w p r (Dk.crash K 0 L S) [] S2 L2 bo ob w' := by
  obtain ⟨Gd, Gr, h1, h2, h3, h4, h5, h6, h7, h8, h9⟩ := h
  refine (Crash_any wr Gd p K S L h1 hK hL).mono ?_
  rintro e w' ⟨rfl, hp⟩
  exact ⟨rfl, Two.stepD h2 h3 h4 h5 h6 h7 h8 h9 hp⟩
theorem Two.rcrash {K : Nat} (h : Two w p r S L S2 L2 bo ob wr) (hK : K < 18446744073709551616) (hL : L2.length ≤ 1000000) :
    Calls Tryd.prog 22 #[.pointer (some ⟨r, 0, none⟩), .int .u64 K] wr fun e w' => e = .returned (.tuple #[]) ∧ Two w p r S L (Dk.crash K 0 L2 S2) [] bo ob w' := by
  obtain ⟨Gd, Gr, h1, h2, h3, h4, h5, h6, h7, h8, h9⟩ := h
  refine (RCrash_any wr Gr r K S2 L2 h2 hK hL).mono ?_
  rintro e w' ⟨rfl, hp⟩
  exact ⟨rfl, Two.stepR h1 h3 h4 h5 h6 h7 h8 h9 hp⟩
theorem Two0.lens (h : Two0 w p r S L S2 L2 wr) : Lens wr (.pointer (some ⟨p, 0, none⟩)) S.length := by
  obtain ⟨Gd, Gr, h1, h2, h3, h4, h5, h6⟩ := h
  exact Len_any h1
theorem Two0.loose (h : Two0 w p r S L S2 L2 wr) : Calls Tryd.prog 23 #[.pointer (some ⟨p, 0, none⟩)] wr fun e w' => e = .returned (.int .i64 L.length) ∧ wr = w' := by
  obtain ⟨Gd, Gr, h1, h2, h3, h4, h5, h6⟩ := h
  exact Loose_any h1
theorem Two0.rheap (h : Two0 w p r S L S2 L2 wr) : ∃ A c B d, wr.heap[r]? = some (.cells #[.slice A S2.length c, .slice B L2.length d] 48 (0, 0)) := by
  obtain ⟨Gd, Gr, h1, ⟨F, X, h2⟩, h3, h4, h5, h6⟩ := h
  obtain ⟨B, d, rfl, _, _, _⟩ := row_form h2.2.2.1
  obtain ⟨A, c, rfl, _, _, _⟩ := row_form h2.2.1
  exact ⟨A, c, B, d, h2.1⟩
theorem Two0.read {i : Nat} {s : Sec} (h : Two0 w p r S L S2 L2 wr) (hs : (all S L)[i]? = some s) (hi : i < S.length) (hL : L.length ≤ 1000000) :
    Calls Tryd.prog 17 #[.pointer (some ⟨p, 0, none⟩), .int .i64 i] wr fun e w' => ∃ g, e = .returned (.tuple #[.slice (some ⟨g, 0, none⟩) 64 64, .nilIface]) ∧ wr.heap.size ≤ g ∧ Hid (w'.heap[g]? = some (.cells (cels s).toArray 5 (0, 0))) ∧ Below wr.heap.size wr w' := by
  obtain ⟨Gd, Gr, h1, h2, h3, h4, h5, h6⟩ := h
  exact Read_any wr Gd p i S L s h1 hs hi hL
theorem Two0.full (h : Two0 w p r S L S2 L2 wr) : Full (all S L) := by
  obtain ⟨Gd, Gr, h1, h2, h3, h4, h5, h6⟩ := h
  exact h1.full.all h1.fits
theorem Two0.rread {i : Nat} {s : Sec} (h : Two0 w p r S L S2 L2 wr) (hs : (all S2 L2)[i]? = some s) (hi : i < S2.length) (hL : L2.length ≤ 1000000) :
    Calls Tryd.prog 18 #[.pointer (some ⟨r, 0, none⟩), .int .i64 i] wr fun e w' => e = .returned (.tuple #[.string (str s), .int .i64 0]) ∧ wr = w' := by
  obtain ⟨Gd, Gr, h1, h2, h3, h4, h5, h6⟩ := h
  exact RRead_any wr Gr r i S2 L2 s h2 hs hi hL
theorem Two0.rwrite_out {j : Int} {s : ByteArray} (h : Two0 w p r S L S2 L2 wr) (hj : ¬ (0 ≤ j ∧ j < (S2.length : Int))) :
    Calls Tryd.prog 16 #[.pointer (some ⟨r, 0, none⟩), .int .i64 j, .string s] wr fun e w' => e = .returned (.int .i64 5) ∧ wr = w' := by
  obtain ⟨A, c, B, d, hp⟩ := h.rheap
  exact RWrite_out r _ c A _ j s wr hp hj
theorem Two0.rwrite_bad {j : Int} {s : ByteArray} (h : Two0 w p r S L S2 L2 wr) (h0 : 0 ≤ j) (h1 : j < (S2.length : Int)) (hs : ¬ ((s.size : Int) = 64)) :
    Calls Tryd.prog 16 #[.pointer (some ⟨r, 0, none⟩), .int .i64 j, .string s] wr fun e w' => e = .returned (.int .i64 1) ∧ wr = w' := by
  obtain ⟨A, c, B, d, hp⟩ := h.rheap
  exact RWrite_bad r _ c A _ j s wr hp h0 h1 hs
theorem Two0.rread_out {j : Int} (h : Two0 w p r S L S2 L2 wr) (hj : ¬ (0 ≤ j ∧ j < (S2.length : Int))) :
    Calls Tryd.prog 18 #[.pointer (some ⟨r, 0, none⟩), .int .i64 j] wr fun e w' => e = .returned (.tuple #[.string ⟨#[]⟩, .int .i64 5]) ∧ wr = w' := by
  obtain ⟨A, c, B, d, hp⟩ := h.rheap
  exact RRead_out r _ c A _ j wr hp hj
end
end Go.Proofs.YthdgidfdjnfpiaaDoor.Dk
