/-
  Both volumes: the calls of the statement, one contract for each; the first two volumes. Nothing but their own memory is changed. Conditions: the table of half bytes, and the library's variable errors.errorType, hold what the program's own text lays.
-/
import Derived.Test.YtapiogcoipeinaaGreatDoorT27
namespace Go.Proofs.YtapiogcoipeinaaGreatDoor.Vo
open Go.RowKit
open Pk hiding str str_data str_size str_of run_str head_str str_append
open Sm hiding run_str
open Fa
open Rc hiding zer
open Dk Jn
section
variable {w0 w w' : World} {v p q rv p2 q2 n bo T D : Nat} {ob : Obj} {S S2 : List Sec} {L L2 : List Wr} {h h2 : Hd} {E E2 : List Ent} {H H2 : Nat → Hm}
theorem TV.vs (j : TV w0 v p q rv p2 q2 n S L h E H S2 L2 h2 E2 H2 bo ob w) (i : Iv n T S L h E H D) : ∃ R, VS w0 R v p q n h E H D T w := by
 obtain ⟨R, hv, _⟩ := j.liftP
 exact ⟨R, S, by rw [← i.loose]; exact hv, i.vg, i.lim⟩
theorem TV.write (j : TV w0 v p q rv p2 q2 n S L h E H S2 L2 h2 E2 H2 bo ob w) (i : Iv n T S L h E H D) (ht : Tab w0) (he : E.length < n) {b : Int} (h0 : 0 ≤ b) (h8 : b < 8) {d : ByteArray} (hd : d.size ≤ 16) :
 Calls Tryz.prog 13 #[.pointer (some ⟨v, 0, none⟩), .int .i64 b, .string d] w fun e w' => e = .returned (.tuple #[.int .i64 ((h.f + E.length : Nat) : Int), .nilIface]) ∧
  TV w0 v p q rv p2 q2 n S (L ++ [(2 + (h.f + E.length) % n, esec ⟨h.g, h.f + E.length, 1, b, d, 0⟩)]) h (E ++ [⟨h.g, h.f + E.length, 1, b, d, 0⟩]) H S2 L2 h2 E2 H2 bo ob w' := by
 have l := i.lim
 obtain ⟨R, hv, up⟩ := j.liftP
 refine (Write_good hv ht (by have := l.f; have := l.T; omega) (by have := l.n200; omega) he b d h0 h8 hd (i.eok.2 (Or.inl ⟨rfl, h0, by omega, hd, rfl⟩)) i.vg.jg.size (by have := i.short; omega)).mono ?_
 rintro e w' ⟨rfl, hj, hk⟩
 exact ⟨rfl, up hj hk⟩
theorem TV.rwrite (j : TV w0 v p q rv p2 q2 n S L h E H S2 L2 h2 E2 H2 bo ob w) (i : Iv n T S2 L2 h2 E2 H2 D) (he : E2.length < n) {b : Int} (h0 : 0 ≤ b) (h8 : b < 8) {d : ByteArray} (hd : d.size ≤ 16) :
 Calls Tryz.prog 14 #[.pointer (some ⟨rv, 0, none⟩), .int .i64 b, .string d] w fun e w' => e = .returned (.tuple #[.int .i64 ((h2.f + E2.length : Nat) : Int), .int .i64 0]) ∧
  TV w0 v p q rv p2 q2 n S L h E H S2 (L2 ++ [(2 + (h2.f + E2.length) % n, esec ⟨h2.g, h2.f + E2.length, 1, b, d, 0⟩)]) h2 (E2 ++ [⟨h2.g, h2.f + E2.length, 1, b, d, 0⟩]) H2 bo ob w' := by
 have l := i.lim
 obtain ⟨G, hv, up⟩ := j.liftR
 refine (rWrite_good hv (by have := l.f; have := l.T; omega) (by have := l.n200; omega) he b d h0 h8 hd (i.eok.2 (Or.inl ⟨rfl, h0, by omega, hd, rfl⟩)) i.vg.jg.size (by have := i.short; omega)).mono ?_
 rintro e w' ⟨rfl, hp⟩
 exact ⟨rfl, up hp⟩
theorem TV.rwrite_no (j : TV w0 v p q rv p2 q2 n S L h E H S2 L2 h2 E2 H2 bo ob w) (i : Iv n T S2 L2 h2 E2 H2 D) {b : Int} {d : ByteArray} (hw : wrong n E2 b d ≠ 0) :
 Calls Tryz.prog 14 #[.pointer (some ⟨rv, 0, none⟩), .int .i64 b, .string d] w fun e w' => e = .returned (.tuple #[.int .i64 0, .int .i64 (wrong n E2 b d)]) ∧ Below w.heap.size w w' := by
 have l := i.lim
 obtain ⟨G, hv, up⟩ := j.liftR
 unfold wrong at hw ⊢
 by_cases hb : 0 ≤ b ∧ b < 8
 ·rw [if_neg (by simpa using hb)] at hw ⊢
  by_cases hd : d.size ≤ 16
  ·rw [if_neg (by simpa using hd)] at hw ⊢
   by_cases hE : E2.length = n
   ·rw [if_pos hE]
    exact rWrite_full hv (by have := l.f; have := l.T; omega) (by have := l.n200; omega) hE b d hb.1 hb.2 hd
   ·rw [if_neg hE] at hw
    exact absurd rfl hw
  ·rw [if_pos hd]
   refine (rWrite_long b d hb.1 hb.2 hd).mono ?_
   rintro e w' ⟨rfl, rfl⟩
   exact ⟨rfl, Below.refl _ _⟩
 ·rw [if_pos hb]
  refine (rWrite_range b d hb).mono ?_
  rintro e w' ⟨rfl, rfl⟩
  exact ⟨rfl, Below.refl _ _⟩
theorem TV.mark (j : TV w0 v p q rv p2 q2 n S L h E H S2 L2 h2 E2 H2 bo ob w) (i : Iv n T S L h E H D) (ht : Tab w0) (he : E.length < n) {m : Int} (h1 : 1 ≤ m) (h2m : m ≤ 1152921504606846975) :
 Calls Tryz.prog 16 #[.pointer (some ⟨v, 0, none⟩), .int .i64 m] w fun e w' => e = .returned (.tuple #[.int .i64 ((h.f + E.length : Nat) : Int), .nilIface]) ∧
  TV w0 v p q rv p2 q2 n S (L ++ [(2 + (h.f + E.length) % n, esec ⟨h.g, h.f + E.length, 2, 0, ⟨#[]⟩, m⟩)]) h (E ++ [⟨h.g, h.f + E.length, 2, 0, ⟨#[]⟩, m⟩]) H S2 L2 h2 E2 H2 bo ob w' := by
 have l := i.lim
 obtain ⟨R, hv, up⟩ := j.liftP
 refine (Mark_good hv ht (by have := l.f; have := l.T; omega) (by have := l.n200; omega) he m (i.eok.2 (Or.inr ⟨rfl, rfl, rfl, h1, h2m⟩)) i.vg.jg.size (by have := i.short; omega)).mono ?_
 rintro e w' ⟨rfl, hj, hk⟩
 exact ⟨rfl, up hj hk⟩
theorem TV.rmark (j : TV w0 v p q rv p2 q2 n S L h E H S2 L2 h2 E2 H2 bo ob w) (i : Iv n T S2 L2 h2 E2 H2 D) (he : E2.length < n) {m : Int} (h1 : 1 ≤ m) (h2m : m ≤ 1152921504606846975) :
 Calls Tryz.prog 17 #[.pointer (some ⟨rv, 0, none⟩), .int .i64 m] w fun e w' => e = .returned (.tuple #[.int .i64 ((h2.f + E2.length : Nat) : Int), .int .i64 0]) ∧
  TV w0 v p q rv p2 q2 n S L h E H S2 (L2 ++ [(2 + (h2.f + E2.length) % n, esec ⟨h2.g, h2.f + E2.length, 2, 0, ⟨#[]⟩, m⟩)]) h2 (E2 ++ [⟨h2.g, h2.f + E2.length, 2, 0, ⟨#[]⟩, m⟩]) H2 bo ob w' := by
 have l := i.lim
 obtain ⟨G, hv, up⟩ := j.liftR
 refine (rMark_good hv (by have := l.f; have := l.T; omega) (by have := l.n200; omega) he m (i.eok.2 (Or.inr ⟨rfl, rfl, rfl, h1, h2m⟩)) i.vg.jg.size (by have := i.short; omega)).mono ?_
 rintro e w' ⟨rfl, hp⟩
 exact ⟨rfl, up hp⟩
theorem TV.rmark_no (j : TV w0 v p q rv p2 q2 n S L h E H S2 L2 h2 E2 H2 bo ob w) (i : Iv n T S2 L2 h2 E2 H2 D) {m : Int} (hno : E2.length = n ∨ ¬ (1 ≤ m ∧ m ≤ 1152921504606846975)) :
 Calls Tryz.prog 17 #[.pointer (some ⟨rv, 0, none⟩), .int .i64 m] w fun e w' => e = .returned (.tuple #[.int .i64 0, .int .i64 (if E2.length = n then 6 else 1)]) ∧ Below w.heap.size w w' := by
 have l := i.lim
 obtain ⟨G, hv, up⟩ := j.liftR
 exact rMark_bad hv (by have := l.f; have := l.T; omega) (by have := l.n200; omega) i.vg.jg.few m (hno.imp id fun h hk => h (by
  rcases i.eok.1 hk with h | h
  ·exact absurd h.1 (by decide)
  ·exact ⟨h.2.2.2.1, h.2.2.2.2⟩))
theorem TV.flush (j : TV w0 v p q rv p2 q2 n S L h E H S2 L2 h2 E2 H2 bo ob w) (i : Iv n T S L h E H D) :
 Calls Tryz.prog 20 #[.pointer (some ⟨v, 0, none⟩)] w fun e w' => e = .returned (.tuple #[]) ∧ TV w0 v p q rv p2 q2 n (all S L) [] h E H S2 L2 h2 E2 H2 bo ob w' := by
 obtain ⟨R, hv, up⟩ := j.liftP
 refine (hv.flush (by have := i.short; omega)).mono ?_
 rintro e w' ⟨rfl, hj, hk⟩
 exact ⟨rfl, up hj hk⟩
theorem TV.check (j : TV w0 v p q rv p2 q2 n S L h E H S2 L2 h2 E2 H2 bo ob w) (i : Iv n T S L h E H D) (ht : Tab w0) {u : Int} (h0 : 0 ≤ u) (hu : u < ((h.f + E.length : Nat) : Int)) :
 Calls Tryz.prog 22 #[.pointer (some ⟨v, 0, none⟩), .int .i64 u] w fun e w' => e = .returned .nilIface ∧
  TV w0 v p q rv p2 q2 n (trs (all (all S L) (bws n H E 8)) h E (upk h u)) [] (trh h E (upk h u)) (E.drop (upk h u)) (hms H E 8) S2 L2 h2 E2 H2 bo ob w' := by
 have l := i.lim
 obtain ⟨R, hv, up⟩ := j.liftP
 refine (Checkpoint_good hv ht (by have := l.t; have := l.T; omega) (by have := l.f; have := l.T; omega) (by have := i.vg.jg.few; have := l.n200; omega) (fun b hb => (i.vg.fit hb).len) (by have := l.n200; omega) i.vg.size (by have := i.short; omega) u h0 hu (upk h u) (by unfold upk; omega)).mono ?_
 rintro e w' ⟨rfl, hj, hk⟩
 exact ⟨rfl, up hj hk⟩
theorem TV.rcheck (j : TV w0 v p q rv p2 q2 n S L h E H S2 L2 h2 E2 H2 bo ob w) (i : Iv n T S2 L2 h2 E2 H2 D) {u : Int} (h0 : 0 ≤ u) (hu : u < ((h2.f + E2.length : Nat) : Int)) :
 Calls Tryz.prog 23 #[.pointer (some ⟨rv, 0, none⟩), .int .i64 u] w fun e w' => e = .returned (.int .i64 0) ∧
  TV w0 v p q rv p2 q2 n S L h E H (trs (all (all S2 L2) (bws n H2 E2 8)) h2 E2 (upk h2 u)) [] (trh h2 E2 (upk h2 u)) (E2.drop (upk h2 u)) (hms H2 E2 8) bo ob w' := by
 have l := i.lim
 obtain ⟨G, hv, up⟩ := j.liftR
 refine (rCheckpoint_good hv i.vg.jg.seqs (by have := l.t; have := l.T; omega) (by have := l.f; have := l.T; omega) (by have := i.vg.jg.few; have := l.n200; omega) (fun b hb => (i.vg.fit hb).len) (by have := l.n200; omega) i.vg.size (by have := i.short; omega) u h0 hu (upk h2 u) (by unfold upk; omega)).mono ?_
 rintro e w' ⟨rfl, hp⟩
 exact ⟨rfl, up hp⟩
theorem TV.rcheck_no (j : TV w0 v p q rv p2 q2 n S L h E H S2 L2 h2 E2 H2 bo ob w) (i : Iv n T S2 L2 h2 E2 H2 D) {u : Int} (hu : u < 0 ∨ ((h2.f + E2.length : Nat) : Int) ≤ u) :
 Calls Tryz.prog 23 #[.pointer (some ⟨rv, 0, none⟩), .int .i64 u] w fun e w' => e = .returned (.int .i64 5) ∧ Below w.heap.size w w' := by
 have l := i.lim
 obtain ⟨G, hv, up⟩ := j.liftR
 exact rCheckpoint_range hv (by have := l.f; have := l.T; omega) (by have := i.vg.jg.few; have := l.n200; omega) u hu
theorem TV.rread8 (j : TV w0 v p q rv p2 q2 n S L h E H S2 L2 h2 E2 H2 bo ob w) (i : Iv n T S2 L2 h2 E2 H2 D) {b : Nat} (hb : b < 8) :
 Calls Tryz.prog 19 #[.pointer (some ⟨rv, 0, none⟩), .int .i64 (b : Int)] w fun e w' => e = .returned (.tuple #[.string (blk H2 E2 b), .int .i64 0]) ∧ Below w.heap.size w w' := by
 have l := i.lim
 obtain ⟨G, hv, up⟩ := j.liftR
 exact rRead_good hv b hb (by have := i.vg.jg.few; have := l.n200; omega)
end
/-! ### The first two volumes -/
section
variable {w0 w w' : World} {q q2 v p n N bo : Nat} {ob : Obj} {D D2 : Nat → Prop}
abbrev fst1 : Hd := ⟨1, 1, 1, 0⟩
abbrev sec1 (N : Nat) : List Sec := (List.replicate N Jn.zer).set 1 (hsec fst1)
def VMid (w0 : World) (v p q q2 n N bo : Nat) (ob : Obj) (w : World) : Prop :=
 ∃ D2, RDsk w D2 q2 (List.replicate N zero) [] ∧ (∀ k, D2 k → w0.heap.size ≤ k) ∧ VW w0 (fun k => D2 k ∨ k = bo) v p q n (sec1 N) [] fst1 [] (fun _ => hm0) w ∧ w.heap[bo]? = some ob ∧ ¬ D2 bo
theorem VMid.of (hd : Dsk w D q (List.replicate N zero) []) (hr : RDsk w D2 q2 (List.replicate N zero) []) (ht : Tab w0) (h2 : ∀ k, D k → w0.heap.size ≤ k) (h22 : ∀ k, D2 k → w0.heap.size ≤ k) (hdis : ∀ k, D2 k → ¬ D k) (h3 : Below w0.heap.size w0 w) (ho : w.heap[bo]? = some ob) (hbo : bo < w0.heap.size) (h1n : 1 ≤ n) (h200 : n ≤ 200) (hN : 10 + n ≤ N) :
 Calls Tryz.prog 11 #[.pointer (some ⟨q, 0, none⟩), .int .i64 (n : Int)] w fun e w' => ∃ v p, e = .returned (.tuple #[.pointer (some ⟨v, 0, none⟩), .nilIface]) ∧ VMid w0 v p q q2 n N bo ob w' := by
 have hno : ¬ D2 bo := fun hD => by have := h22 bo hD; omega
 have hnd : ¬ D bo := fun hD => by have := h2 bo hD; omega
 have hlt : ∀ k, D2 k → k < w.heap.size := by
  obtain ⟨F, X, h5⟩ := hr
  exact h5.2.2.2.2.2.2.1
 have hsv : Vg (sec1 N) n fst1 [] 0 1 (fun _ => hm0) := Vg.fresh h1n (by omega)
 refine (Open_any (H := fun _ => hm0) (Len_any hd) (JW.start (R := fun k => D2 k ∨ k = bo) hd ht h2 h3 (fun k hk => ?_) h1n (by omega) (by omega)) ht h1n (by omega) (by simpa using hN) hsv.size (fun b hb x hx => ?_)).mono ?_
 ·rcases hk with hk | hk
  ·exact ⟨hlt k hk, hdis k hk⟩
  ·subst hk; exact ⟨heap_lt ho, hnd⟩
 ·rw [hsv.told hb] at hx
  cases hx
  rfl
 rintro e w' ⟨ha, _⟩
 obtain ⟨v, p, rfl, hv, hk⟩ := ha fun b hb => hsv.told hb
 exact ⟨v, p, rfl, D2, rdsk_same hr (fun k hk2 => hk k (Or.inl hk2)), h22, hv, (hk bo (Or.inr rfl)).trans ho, hno⟩
theorem VMid.ropen (m : VMid w0 v p q q2 n N bo ob w) (h1n : 1 ≤ n) (h200 : n ≤ 200) (hN : 10 + n ≤ N) (hN2 : N ≤ 1000) :
 Calls Tryz.prog 12 #[.pointer (some ⟨q2, 0, none⟩), .int .i64 (n : Int)] w fun e w' => ∃ rv p2, e = .returned (.tuple #[.pointer (some ⟨rv, 0, none⟩), .int .i64 0]) ∧
  TV w0 v p q rv p2 q2 n (sec1 N) [] fst1 [] (fun _ => hm0) (sec1 N) [] fst1 [] (fun _ => hm0) bo ob w' := by
 obtain ⟨D2, hr, hg, hj, ho, hno⟩ := m
 have hc : cur (List.replicate N zero) = some ⟨0, 1, 0, 0⟩ := cur_fresh (by omega)
 have hop := ROpen_good w D2 q2 (List.replicate N zero) n ⟨0, 1, 0, 0⟩ hr h1n (by omega) (by simp; omega) (by simp; omega) (fun s hs => by rw [(List.mem_replicate.1 hs).2]; rfl) hc
 have hl : Jn.load (List.replicate N zero) n 0 n 1 0 = [] := load_fresh h1n (by omega)
 rw [hl] at hop
 have hsv : Vg (sec1 N) n fst1 [] 0 1 (fun _ => hm0) := Vg.fresh h1n (by omega)
 refine (rOpen_any (H := fun _ => hm0) (S := sec1 N) hop hr h1n (by omega) (by simpa using hN) hsv.size (fun s hs => ?_) (fun b hb x hx => ?_)).mono ?_
 ·rcases List.mem_or_eq_of_mem_set hs with h5 | h5
  ·rw [(List.mem_replicate.1 h5).2]; rfl
  ·rw [h5]; exact hsec_length _
 ·rw [hsv.told hb] at hx
  cases hx
  rfl
 rintro e w' ⟨ha, _⟩
 obtain ⟨rv, p2, rfl, hp⟩ := ha fun b hb => hsv.told hb
 exact ⟨rv, p2, rfl, TV.stepR hg hj ho hno (fun _ h => h) hp⟩
end
end Go.Proofs.YtapiogcoipeinaaGreatDoor.Vo
