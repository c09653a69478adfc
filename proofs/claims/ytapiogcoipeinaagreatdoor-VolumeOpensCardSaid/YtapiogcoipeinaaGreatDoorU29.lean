/-
  Two disks, the program's and the document's: each is written, flushed, opened; the two Opens' answers are the same. Nothing but their own memory is changed. Condition: the table of half bytes holds what the program's own text lays.
-/
import Derived.Test.YtapiogcoipeinaaGreatDoorU28
import Derived.Test.YtapiogcoipeinaaGreatDoorU27
import Derived.Test.YtapiogcoipeinaaGreatDoorU23
namespace Go.Proofs.YtapiogcoipeinaaGreatDoor.Vo
open Go.RowKit
open Pk hiding str str_data str_size str_of run_str head_str str_append
open Sm hiding run_str
open Fa
open Rc hiding zer
open Dk Jn
section
variable {w0 w w' : World} {v p q rv p2 q2 n bo T D : Nat} {ob : Obj} {S S2 : List Sec} {L L2 : List Wr} {h h2 : Hd} {E E2 : List Ent} {H H2 : Nat → Hm}
theorem TV.write (j : TV w0 v p q rv p2 q2 n S L h E H S2 L2 h2 E2 H2 bo ob w) (i : Iv n T S L h E H D) (ht : Tab w0) (he : E.length < n) {b : Int} (h0 : 0 ≤ b) (h8 : b < 8) {d : ByteArray} (hd : d.size ≤ 16) :
 Calls Tryz.prog 13 #[.pointer (some ⟨v, 0, none⟩), .int .i64 b, .string d] w fun e w' => e = .returned (.tuple #[.int .i64 ((h.f + E.length : Nat) : Int), .nilIface]) ∧
  TV w0 v p q rv p2 q2 n S (L ++ [(2 + (h.f + E.length) % n, esec ⟨h.g, h.f + E.length, 1, b, d, 0⟩)]) h (E ++ [⟨h.g, h.f + E.length, 1, b, d, 0⟩]) H S2 L2 h2 E2 H2 bo ob w' := by
 have l := i.lim
 obtain ⟨R, hv, up⟩ := j.liftP
 refine (Write_good hv ht (by have := l.f; have := l.T; omega) (by have := l.n200; omega) he b d h0 h8 hd (i.eok.2 (Or.inl ⟨rfl, h0, by omega, hd, rfl⟩)) i.vg.jg.size (by have := i.short; omega)).mono ?_
 rintro e w' ⟨rfl, hj, hk⟩
 exact ⟨rfl, up hj hk⟩
theorem TV.rwrite (j : TV w0 v p q rv p2 q2 n S L h E H S2 L2 h2 E2 H2 bo ob w) (i : Iv n T S2 L2 h2 E2 H2 D) (he : E2.length < n) {b : Int} (h0 : 0 ≤ b) (h8 : b < 8) {d : ByteArray} (hd : d.size ≤ 16) :
 Calls Tryz.prog 14 #[.pointer (some ⟨rv, 0, none⟩), .int .i64 b, .string d] w fun e w' => e = .returned (.tuple #[.int .i64 ((h2.f + E2.length : Nat) : Int), .int .i64 0]) ∧
  TV w0 v p q rv p2 q2 n S L h E H S2 (L2 ++ [(2 + (h2.f + E2.length) % n, esec ⟨h2.g, h2.f + E2.length, 1, b, d, 0⟩)]) h2 (E2 ++ [⟨h2.g, h2.f + E2.length, 1, b, d, 0⟩]) H2 bo ob w' := by
 have l := i.lim
 obtain ⟨G, hv, up⟩ := j.liftR
 refine (rWrite_good hv (by have := l.f; have := l.T; omega) (by have := l.n200; omega) he b d h0 h8 hd (i.eok.2 (Or.inl ⟨rfl, h0, by omega, hd, rfl⟩)) i.vg.jg.size (by have := i.short; omega)).mono ?_
 rintro e w' ⟨rfl, hp⟩
 exact ⟨rfl, up hp⟩
theorem TV.flush (j : TV w0 v p q rv p2 q2 n S L h E H S2 L2 h2 E2 H2 bo ob w) (i : Iv n T S L h E H D) :
 Calls Tryz.prog 20 #[.pointer (some ⟨v, 0, none⟩)] w fun e w' => e = .returned (.tuple #[]) ∧ TV w0 v p q rv p2 q2 n (all S L) [] h E H S2 L2 h2 E2 H2 bo ob w' := by
 obtain ⟨R, hv, up⟩ := j.liftP
 refine (hv.flush (by have := i.short; omega)).mono ?_
 rintro e w' ⟨rfl, hj, hk⟩
 exact ⟨rfl, up hj hk⟩
end
/-! ### The first two volumes -/
section
variable {w0 w w' : World} {q q2 v p n N bo : Nat} {ob : Obj} {D D2 : Nat → Prop}
abbrev fst1 : Hd := ⟨1, 1, 1, 0⟩
abbrev sec1 (N : Nat) : List Sec := (List.replicate N Jn.zer).set 1 (hsec fst1)
def VMid (w0 : World) (v p q q2 n N bo : Nat) (ob : Obj) (w : World) : Prop :=
 ∃ D2, RDsk w D2 q2 (List.replicate N zero) [] ∧ (∀ k, D2 k → w0.heap.size ≤ k) ∧ VW w0 (fun k => D2 k ∨ k = bo) v p q n (sec1 N) [] fst1 [] (fun _ => hm0) w ∧ w.heap[bo]? = some ob ∧ ¬ D2 bo
theorem VMid.of (hd : Dsk w D q (List.replicate N zero) []) (hr : RDsk w D2 q2 (List.replicate N zero) []) (ht : Tab w0) (h2 : ∀ k, D k → w0.heap.size ≤ k) (h22 : ∀ k, D2 k → w0.heap.size ≤ k) (hdis : ∀ k, D2 k → ¬ D k) (h3 : Below w0.heap.size w0 w) (ho : w.heap[bo]? = some ob) (hbo : bo < w0.heap.size) (h1n : 1 ≤ n) (h200 : n ≤ 200) (hN : 10 + n ≤ N) :
 Calls Tryz.prog 11 #[.pointer (some ⟨q, 0, none⟩), .int .i64 (n : Int)] w fun e w' => ∃ v p, e = .returned (.tuple #[.pointer (some ⟨v, 0, none⟩), .nilIface]) ∧ VMid w0 v p q q2 n N bo ob w' := by
 have hno : ¬ D2 bo := fun hD => by have := h22 bo hD; omega
 have hnd : ¬ D bo := fun hD => by have := h2 bo hD; omega
 have hlt : ∀ k, D2 k → k < w.heap.size := by
  obtain ⟨F, X, h5⟩ := hr
  exact h5.2.2.2.2.2.2.1
 have hsv : Vg (sec1 N) n fst1 [] 0 1 (fun _ => hm0) := Vg.fresh h1n (by omega)
 refine (Open_any (H := fun _ => hm0) (Len_any hd) (JW.start (R := fun k => D2 k ∨ k = bo) hd ht h2 h3 (fun k hk => ?_) h1n (by omega) (by omega)) ht h1n (by omega) (by simpa using hN) hsv.size (fun b hb x hx => ?_)).mono ?_
 ·rcases hk with hk | hk
  ·exact ⟨hlt k hk, hdis k hk⟩
  ·subst hk; exact ⟨heap_lt ho, hnd⟩
 ·rw [hsv.told hb] at hx
  cases hx
  rfl
 rintro e w' ⟨ha, _⟩
 obtain ⟨v, p, rfl, hv, hk⟩ := ha fun b hb => hsv.told hb
 exact ⟨v, p, rfl, D2, rdsk_same hr (fun k hk2 => hk k (Or.inl hk2)), h22, hv, (hk bo (Or.inr rfl)).trans ho, hno⟩
end
end Go.Proofs.YtapiogcoipeinaaGreatDoor.Vo
namespace Go.Proofs.YtapiogcoipeinaaGreatDoor.Vo
open Go.RowKit
open Pk hiding str str_data str_size str_of run_str head_str str_append
open Sm hiding run_str
open Fa Rc Dk Jn
section
variable {w : World} {q : Nat}
def RBad (e : Int) (w : World) (r : Ending) (w' : World) : Prop := r = .returned (.tuple #[.pointer none, .int .i64 e]) ∧ Below w.heap.size w w'
set_option maxRecDepth 100000 in
set_option maxHeartbeats 2000000 in
theorem rOpen_arg {D : Nat → Prop} {S : List Sec} (hd : RDsk w D q S []) (ring : Int) (hbad : ring < 1 ∨ 512 < ring ∨ (S.length : Int) < 10 + ring) :
 Calls Tryz.prog 12 #[.pointer (some ⟨q, 0, none⟩), .int .i64 ring] w (RBad 1 w) := by
 obtain ⟨A, c, c0⟩ := RDsk.form hd
 obtain ⟨m, hm0⟩ : ∃ m, S.length = m := ⟨_, rfl⟩
 rw [hm0] at c0 hbad
 clear hd hm0
 by_cases h1 : ring < 1
 ·clear hbad
  go_enter Tryz.func12, Tryz.ntmps12
  go_wp2
  go_ret2
  exact ⟨rfl, Below.refl _ _⟩
 by_cases h2 : 512 < ring
 ·clear hbad
  go_enter Tryz.func12, Tryz.ntmps12
  go_wp2
  go_ret2
  exact ⟨rfl, Below.refl _ _⟩
 have h3 : (m : Int) < 2 + ring + 8 := by omega
 have hw1 : IntKind.i64.wrap (2 + ring) = 2 + ring := by rw [IntKind.wrap_i64]; omega
 have hw2 : IntKind.i64.wrap (2 + ring + 8) = 2 + ring + 8 := by rw [IntKind.wrap_i64]; omega
 clear hbad
 go_enter Tryz.func12, Tryz.ntmps12
 go_wp2
 go_ret2
 exact ⟨rfl, Below.refl _ _⟩
set_option maxRecDepth 100000 in
set_option maxHeartbeats 2000000 in
theorem rOpen_sum {D : Nat → Prop} {S : List Sec} {n : Nat} {e : Int} (he : e ≠ 0) (ho : Calls Tryz.prog 40 #[.pointer (some ⟨q, 0, none⟩), .int .i64 (n : Int)] w (RBad e w)) (hd : RDsk w D q S []) (h1n : 1 ≤ n) (h512 : n ≤ 512) (hm : 10 + n ≤ S.length) :
 Calls Tryz.prog 12 #[.pointer (some ⟨q, 0, none⟩), .int .i64 (n : Int)] w (RBad e w) := by
 obtain ⟨A, c, c0⟩ := RDsk.form hd
 obtain ⟨m, hm0⟩ : ∃ m, S.length = m := ⟨_, rfl⟩
 rw [hm0] at c0 hm
 have HO := hide ho
 have he3 : (e != 0) = true := by simp [he]
 have he4 : (e == 0) = false := by simp [he]
 have g1 : ¬ ((n : Int) < 1) := by omega
 have g2 : ¬ ((512 : Int) < (n : Int)) := by omega
 have g4 : (2 : Int) + (n : Int) + 8 = ((10 + n : Nat) : Int) := by omega
 have g3 : ¬ ((m : Int) < 10 + (n : Int)) := by omega
 have g5 : ¬ ((m : Int) < 2 + (n : Int) + 8) := by omega
 clear ho hd hm0 hm he
 go_enter Tryz.func12, Tryz.ntmps12
 go_wp2_with fail
 refine HO.out.mono ?_
 rintro r w1 ⟨rfl, hb⟩
 have HB := hide hb
 clear hb HO c0
 go_wp2
 go_ret2
 exact ⟨rfl, HB.out⟩
end
end Go.Proofs.YtapiogcoipeinaaGreatDoor.Vo
namespace Go.Proofs.YtapiogcoipeinaaGreatDoor.Jn
open Go.RowKit
open Pk hiding str str_data str_size str_of run_str head_str str_append
open Sm hiding run_str
open Fa Rc Dk
set_option maxRecDepth 100000 in
set_option maxHeartbeats 8000000 in
theorem ROpen_S (w : World) (D : Nat → Prop) (q : Nat) (S : List Sec) (n : Nat) (hd : RDsk w D q S []) (h1n : 1 ≤ n) (h512 : n ≤ 512) (h2n : 2 + n ≤ S.length) (hS : S.length ≤ 1000) (hFull : Full S) (s0 s1 : Sec) (hs0 : S[0]? = some s0) (hs1 : S[1]? = some s1) (ha : unh 0 s0 = none) (hb : unh 1 s1 = none) (hz : ¬ s0 ++ s1 = zer ++ zer) :
 Calls Tryz.prog 40 #[.pointer (some ⟨q, 0, none⟩), .int .i64 (n : Int)] w fun e w' => e = .returned (.tuple #[.pointer none, .int .i64 4]) ∧ Below w.heap.size w w' := by
 obtain ⟨sl, hsl⟩ : ∃ sl, S.length = sl := ⟨_, rfl⟩
 have hsi : (sl : Int) ≤ 1000 := by omega
 obtain ⟨A, c, hp0⟩ : ∃ A c, w.cell? ⟨q, 0, none⟩ = some (.slice A sl c) := by
  obtain ⟨F, X, hp, h2, _⟩ := hd
  obtain ⟨A, c, rfl, _⟩ := row_form h2
  exact ⟨A, c, by rw [← hsl]; simp [World.cell?, hp]⟩
 have hn1 : ¬ ((n : Int) < 1) := by omega
 have hn5 : ¬ ((512 : Int) < (n : Int)) := by omega
 have hn5' : (n : Int) ≤ 512 := by omega
 obtain ⟨n2, hn2⟩ : ∃ n2, 2 + n = n2 := ⟨_, rfl⟩
 have hn2i : (2 : Int) + (n : Int) = (n2 : Int) := by omega
 have hn2w : IntKind.i64.wrap (n2 : Int) = (n2 : Int) := by rw [IntKind.wrap_i64]; omega
 have hn2l : ¬ ((sl : Int) < (n2 : Int)) := by omega
 have L0 : s0.length = 64 := hFull s0 (List.mem_of_getElem? hs0)
 have L1 : s1.length = 64 := hFull s1 (List.mem_of_getElem? hs1)
 have HR0 := hide (RRead_any w D q 0 S [] s0 hd hs0 (by omega) (by simp))
 have HR1 := hide (RRead_any w D q 1 S [] s1 hd hs1 (by omega) (by simp))
 have HH0 := hide (fun W => rHead_any (str s0) 0 W (by rw [str_size]; exact L0))
 have HH1 := hide (fun W => rHead_any (str s1) 1 W (by rw [str_size]; exact L1))
 simp only [str_data] at HH0 HH1
 rw [ha] at HH0
 rw [hb] at HH1
 simp only [HdTup] at HH0 HH1
 obtain ⟨S0, hS0⟩ : ∃ S, str s0 = S := ⟨_, rfl⟩
 obtain ⟨S1, hS1⟩ : ∃ S, str s1 = S := ⟨_, rfl⟩
 obtain ⟨SA, hSA⟩ : ∃ S, str (s0 ++ s1) = S := ⟨_, rfl⟩
 obtain ⟨SZ, hSZ⟩ : ∃ S, str (zer ++ zer) = S := ⟨_, rfl⟩
 have hadd := fun W => add_run s0 s1 (by omega) S0 S1 SA hS0 hS1 hSA W
 have heqz : (SA.toList == SZ.toList) = false := by
  rw [beq_eq_false_iff_ne, ne_eq, ByteArray.toList_eq, ByteArray.toList_eq, ← hSZ, ← hSA, str_data, str_data]
  exact hz
 have hnez : (SA.toList != SZ.toList) = true := by rw [bne, heqz]; rfl
 have HSZ := hide hSZ
 rw [hS0] at HH0 HR0
 rw [hS1] at HH1 HR1
 clear hS0 hS1 hSZ hSA hz
 clear hd h1n h512 h2n hS hFull hsl hn2 hs0 hs1 L0 L1
 go_enter Tryz.func40, Tryz.ntmps40
 go_wp2_with fail
 refine HR0.out.mono ?_
 rintro e w' ⟨rfl, rfl⟩
 go_wp2_with fail
 refine HR1.out.mono ?_
 rintro e w' ⟨rfl, rfl⟩
 clear hp0 HR0 HR1
 go_wp2_with fail
 have HB1 : Hid (Below w.heap.size w (w.alloc (.cells #[.pointer (some ⟨q, 0, none⟩), .int .i64 (n : Int), .int .i64 0, .int .i64 1, .int .i64 0, .int .i64 0, .slice none 0 0, .slice none 0 0] 59))) := hide ((Below.refl _ _).alloc (Nat.le_refl _) _)
 generalize w.alloc _ = w1 at *
 refine (HH0.out w1).mono ?_
 rintro e w2 ⟨rfl, hb2⟩
 have HB2 := hide (HB1.out.trans (hb2.mono HB1.out.size))
 clear hb2 HB1 HH0
 go_wp2_with fail
 refine (HH1.out w2).mono ?_
 rintro e w3 ⟨rfl, hb3⟩
 have HB3 := hide (HB2.out.trans (hb3.mono HB2.out.size))
 clear hb3 HB2 HH1
 obtain ⟨u0, hu0, hu1, hu2, hu3⟩ := info_parts u8_info
 have hmk : Sem.run Tryz.prog (Instr.makeSlice 70 (.int .i64 128) (.int .i64 128)) w3 = .ok (.slice (some ⟨w3.heap.size, 0, none⟩) 128 128) (w3.alloc (.cells (madeCells #[.int .u8 0] 128) 5)) := by
  have := run_make (P := Tryz.prog) w3 70 5 u0 (.int .u8 0) Tryz.underlying70 hu0 hu1 .i64 .i64 128 128 (by decide) (by decide) (by rw [hu3]; decide) (by decide)
  rw [hu2] at this
  exact this
 obtain ⟨w4, hw4⟩ : ∃ w4, w4 = w3.alloc (.cells (madeCells #[.int .u8 0] 128) 5) := ⟨_, rfl⟩
 have hm128 : (madeCells #[.int .u8 0] 128).toList = cels (zer ++ zer) := by kernel_rfl
 have hrow : w4.heap[w3.heap.size]? = some (.cells (cels (zer ++ zer)).toArray 5 (0, 0)) := by
  rw [hw4]
  refine (heap_alloc_new w3 _).trans ?_
  rw [← hm128, Array.toArray_toList]
 rw [← hw4] at hmk
 have hcv := Sm.run_str w4 _ _ _ 128 128 (by decide) (Dk.byt_row hrow)
 have hZZ := HSZ.out
 rw [hZZ] at hcv
 have HB4 := hide (HB3.out.trans ((show Below w3.heap.size w3 w4 by rw [hw4]; exact (Below.refl _ _).alloc (Nat.le_refl _) _).mono HB3.out.size))
 clear hu0 hu1 hu2 hu3 hw4 hm128 hrow hZZ HB3 ha hb
 go_wp2
 go_ret2
 exact ⟨rfl, HB4.out⟩
theorem ROpen_sum (w : World) (D : Nat → Prop) (q : Nat) (S : List Sec) (n : Nat) (hd : RDsk w D q S []) (h1n : 1 ≤ n) (h512 : n ≤ 512) (h2n : 2 + n ≤ S.length) (hS : S.length ≤ 1000) (hFull : Full S) (hcur : cur S = none) :
 Calls Tryz.prog 40 #[.pointer (some ⟨q, 0, none⟩), .int .i64 (n : Int)] w fun e w' => e = .returned (.tuple #[.pointer none, .int .i64 4]) ∧ Below w.heap.size w w' := by
 obtain ⟨s0, hs0⟩ : ∃ s, S[0]? = some s := ⟨_, List.getElem?_eq_getElem (by omega)⟩
 obtain ⟨s1, hs1⟩ : ∃ s, S[1]? = some s := ⟨_, List.getElem?_eq_getElem (by omega)⟩
 unfold cur at hcur
 rw [getD_of hs0, getD_of hs1] at hcur
 cases hu0 : unh 0 s0 with
 | none =>
   cases hu1 : unh 1 s1 with
   | none =>
     rw [hu0, hu1] at hcur
     simp only at hcur
     refine ROpen_S w D q S n hd h1n h512 h2n hS hFull s0 s1 hs0 hs1 hu0 hu1 fun hz => ?_
     have L0 : s0.length = 64 := hFull s0 (List.mem_of_getElem? hs0)
     have := List.append_inj hz (by rw [L0]; rfl)
     rw [if_pos this] at hcur
     cases hcur
   | some b => rw [hu0, hu1] at hcur; cases hcur
 | some a =>
   cases hu1 : unh 1 s1 with
   | none => rw [hu0, hu1] at hcur; cases hcur
   | some b => rw [hu0, hu1] at hcur; cases hcur
end Go.Proofs.YtapiogcoipeinaaGreatDoor.Jn
namespace Go.Proofs.YtapiogcoipeinaaGreatDoor.Vo
open Go.RowKit
open Pk hiding str str_data str_size str_of run_str head_str str_append
open Sm hiding run_str
open Fa
open Rc hiding zer
open Dk Jn
section
variable {w0 w w' : World} {q q2 n : Nat} {S S2 : List Sec} {L L2 : List Wr} {h : Hd} {E : List Ent} {H : Nat → Hm}
def TD (w0 : World) (q q2 : Nat) (S : List Sec) (L : List Wr) (S2 : List Sec) (L2 : List Wr) (w : World) : Prop :=
 ∃ D D2, Dsk w D q S L ∧ RDsk w D2 q2 S2 L2 ∧ (∀ k, D k → w0.heap.size ≤ k) ∧ (∀ k, D2 k → w0.heap.size ≤ k) ∧ (∀ k, D2 k → ¬ D k) ∧ Below w0.heap.size w0 w
theorem TD.bel (j : TD w0 q q2 S L S2 L2 w) : Below w0.heap.size w0 w := by
 obtain ⟨D, D2, h1, h2, h3, h4, h5, h6⟩ := j
 exact h6
theorem TD.below (j : TD w0 q q2 S L S2 L2 w) (hb : Below w.heap.size w w') : TD w0 q q2 S L S2 L2 w' := by
 obtain ⟨D, D2, h1, h2, h3, h4, h5, h6⟩ := j
 exact ⟨D, D2, h1.below hb, h2.below hb, h3, h4, h5, h6.trans (hb.mono h6.size)⟩
theorem TD.stepP {D D2 : Nat → Prop} {S' : List Sec} {L' : List Wr} (h2 : RDsk w D2 q2 S2 L2) (h3 : ∀ k, D k → w0.heap.size ≤ k) (h4 : ∀ k, D2 k → w0.heap.size ≤ k) (h5 : ∀ k, D2 k → ¬ D k) (h6 : Below w0.heap.size w0 w) (hp : Post w D q S' L' w') : TD w0 q q2 S' L' S2 L2 w' := by
 obtain ⟨D', d1, d2, d3⟩ := hp
 refine ⟨D', D2, d1, h2.kept d3 h5, d2.from h3 h6.size, h4, fun k hk hD => ?_, h6.trans (d3.below h3 h6.size)⟩
 rcases d2 k hD with h7 | h7
 ·exact h5 k hk h7
 ·have := h2.lt k hk; omega
theorem TD.stepR {D D2 : Nat → Prop} {S' : List Sec} {L' : List Wr} (h1 : Dsk w D q S L) (h3 : ∀ k, D k → w0.heap.size ≤ k) (h4 : ∀ k, D2 k → w0.heap.size ≤ k) (h5 : ∀ k, D2 k → ¬ D k) (h6 : Below w0.heap.size w0 w) (hp : RPost w D2 q2 S' L' w') : TD w0 q q2 S L S' L' w' := by
 obtain ⟨D', d1, d2, d3⟩ := hp
 refine ⟨D, D', h1.kept d3 (fun k hk hD => h5 k hD hk), d1, h3, d2.from h4 h6.size, fun k hk hD => ?_, h6.trans (d3.below h4 h6.size)⟩
 rcases d2 k hk with h7 | h7
 ·exact h5 k h7 hD
 ·have := h1.lt k hD; omega
theorem TD.write (j : TD w0 q q2 S L S2 L2 w) {i c : Nat} {A : Option Addr} {s : Sec} (hi : i < S.length) (hb : Byt w w.heap.size A s) (hs : s.length = 64) (hL : L.length ≤ 900000) :
 Calls Tryz.prog 34 #[.pointer (some ⟨q, 0, none⟩), .int .i64 i, .slice A 64 c] w fun e w' => e = .returned .nilIface ∧ TD w0 q q2 S (L ++ [(i, s)]) S2 L2 w' := by
 obtain ⟨D, D2, h1, h2, h3, h4, h5, h6⟩ := j
 refine (Write_any w D q i c A S L s h1 hi hb hs hL).mono ?_
 rintro e w' ⟨rfl, hp⟩
 exact ⟨rfl, TD.stepP h2 h3 h4 h5 h6 hp⟩
theorem TD.lens (j : TD w0 q q2 S L S2 L2 w) : Lens w (.pointer (some ⟨q, 0, none⟩)) S.length := by
 obtain ⟨D, D2, h1, _⟩ := j
 exact Len_any h1
theorem TD.write_bad (j : TD w0 q q2 S L S2 L2 w) {i m c : Nat} {A : Option Addr} (hi : i < S.length) (hm : m ≠ 64) :
 Calls Tryz.prog 34 #[.pointer (some ⟨q, 0, none⟩), .int .i64 i, .slice A m c] w fun e w' => (∃ v, e = .returned v) ∧ TD w0 q q2 S L S2 L2 w' := by
 refine (Write_bad _ i A m c S.length w j.lens (by omega) (by omega) (by omega)).mono ?_
 rintro e w' ⟨rfl, rfl⟩
 exact ⟨⟨_, rfl⟩, j.below (flt_below w i 1)⟩
theorem TD.rwrite (j : TD w0 q q2 S L S2 L2 w) {i : Nat} {s : ByteArray} (hi : i < S2.length) (hs : s.size = 64) (hL : L2.length ≤ 900000) :
 Calls Tryz.prog 35 #[.pointer (some ⟨q2, 0, none⟩), .int .i64 i, .string s] w fun e w' => e = .returned (.int .i64 0) ∧ TD w0 q q2 S L S2 (L2 ++ [(i, s.data.toList)]) w' := by
 obtain ⟨D, D2, h1, h2, h3, h4, h5, h6⟩ := j
 refine (RWrite_any w D2 q2 i S2 L2 s h2 hi hs hL).mono ?_
 rintro e w' ⟨rfl, hp⟩
 exact ⟨rfl, TD.stepR h1 h3 h4 h5 h6 hp⟩
theorem TD.rwrite_bad (j : TD w0 q q2 S L S2 L2 w) {i : Nat} {s : ByteArray} (hi : i < S2.length) (hs : s.size ≠ 64) :
 Calls Tryz.prog 35 #[.pointer (some ⟨q2, 0, none⟩), .int .i64 i, .string s] w fun e w' => e = .returned (.int .i64 1) ∧ w = w' := by
 obtain ⟨D, D2, h1, ⟨F, X, k1, k2, k3⟩, h3⟩ := j
 obtain ⟨A, c, rfl, _⟩ := row_form k2
 exact RWrite_bad q2 _ c A X i s w k1 (by omega) (by omega) (by omega)
theorem TD.flush (j : TD w0 q q2 S L S2 L2 w) (hL : L.length ≤ 1000000) :
 Calls Tryz.prog 36 #[.pointer (some ⟨q, 0, none⟩)] w fun e w' => e = .returned (.tuple #[]) ∧ TD w0 q q2 (all S L) [] S2 L2 w' := by
 obtain ⟨D, D2, h1, h2, h3, h4, h5, h6⟩ := j
 refine (Flush_any w D q S L h1 hL).mono ?_
 rintro e w' ⟨rfl, hp⟩
 exact ⟨rfl, TD.stepP h2 h3 h4 h5 h6 hp⟩
theorem TD.rflush (j : TD w0 q q2 S L S2 L2 w) (hL : L2.length ≤ 1000000) :
 Calls Tryz.prog 21 #[.pointer (some ⟨q2, 0, none⟩)] w fun e w' => e = .returned (.tuple #[]) ∧ TD w0 q q2 S L (all S2 L2) [] w' := by
 obtain ⟨D, D2, h1, h2, h3, h4, h5, h6⟩ := j
 refine (RFlush_any w D2 q2 S2 L2 h2 hL).mono ?_
 rintro e w' ⟨rfl, hp⟩
 exact ⟨rfl, TD.stepR h1 h3 h4 h5 h6 hp⟩
theorem TD.full (j : TD w0 q q2 S L S2 L2 w) : Full S := by
 obtain ⟨D, D2, h1, _⟩ := j
 exact h1.full
def Wrong (w0 : World) (q2 : Nat) (ring e : Int) (r : Ending) (w' : World) : Prop :=
 ∃ pp, r = .returned (.tuple #[.pointer none, .iface 145 (.pointer (some ⟨pp, 0, none⟩))]) ∧
  Calls Tryz.prog 12 #[.pointer (some ⟨q2, 0, none⟩), .int .i64 ring] w' fun r w'' => r = .returned (.tuple #[.pointer none, .int .i64 e]) ∧ VErr w'' pp ring e ∧ Below w0.heap.size w0 w''
theorem TD.wrong_of {e ring : Int} {r : Ending} (j : TD w0 q q2 S [] S [] w) (hb : VBad ring e w r w')
 (hr : ∀ W D2, RDsk W D2 q2 S [] → Calls Tryz.prog 12 #[.pointer (some ⟨q2, 0, none⟩), .int .i64 ring] W (RBad e W)) : Wrong w0 q2 ring e r w' := by
 obtain ⟨pp, rfl, hf, hb⟩ := hb
 have j' := j.below hb
 obtain ⟨D, D2, h1, h2, h3, h4, h5, h6⟩ := j'
 refine ⟨pp, rfl, (hr w' D2 h2).mono ?_⟩
 rintro r w'' ⟨rfl, hb2⟩
 exact ⟨rfl, VFlt.below hf (Nat.le_refl _) hb2, h6.trans (hb2.mono h6.size)⟩
theorem TD.arg (j : TD w0 q q2 S [] S [] w) (ring : Int) (hbad : ring < 1 ∨ 512 < ring ∨ (S.length : Int) < 10 + ring) :
 Calls Tryz.prog 11 #[.pointer (some ⟨q, 0, none⟩), .int .i64 ring] w (Wrong w0 q2 ring 1) :=
 (Open_arg ring j.lens hbad).mono fun _ _ hb => j.wrong_of hb fun _ _ hd => rOpen_arg hd ring hbad
theorem TD.nohead (j : TD w0 q q2 S [] S [] w) (ht : Tab w0) (h1n : 1 ≤ n) (h512 : n ≤ 512) (hm : 10 + n ≤ S.length) (hS : S.length ≤ 1000) (hcur : cur S = none) :
 Calls Tryz.prog 11 #[.pointer (some ⟨q, 0, none⟩), .int .i64 (n : Int)] w (Wrong w0 q2 (n : Int) 4) := by
 have hF := j.full
 have hjo : Calls Tryz.prog 38 #[.pointer (some ⟨q, 0, none⟩), .int .i64 (n : Int)] w fun e w' => ∃ pp, e = .returned (.tuple #[.pointer none, .iface 145 (.pointer (some ⟨pp, 0, none⟩))]) ∧ JFlt w' (.iface 145 (.pointer (some ⟨pp, 0, none⟩))) (n : Int) 4 ∧ Below w.heap.size w w' := by
  obtain ⟨D, D2, h1, h2, h3, h4, h5, h6⟩ := j
  exact jOpen_sum w D q S [] h1 n h1n h512 (by omega) hcur (by simp) (ht.below h6 ht.pos)
 exact (Open_sum j.lens hjo h1n h512 hm).mono fun _ _ hb => j.wrong_of hb fun W D2 hd => rOpen_sum (by decide) (ROpen_sum W D2 q2 S n hd h1n h512 (by omega) hS hF hcur) hd h1n h512 hm
end
section
variable {w0 w w' : World} {q q2 n bo : Nat} {ob : Obj} {S : List Sec} {h : Hd} {E : List Ent} {H : Nat → Hm}
theorem TD.jopen {D D2 : Nat → Prop} (h1 : Dsk w D q S []) (h2 : RDsk w D2 q2 S []) (h3 : ∀ k, D k → w0.heap.size ≤ k) (h5 : ∀ k, D2 k → ¬ D k) (h6 : Below w0.heap.size w0 w) (ht : Tab w0) (hbo : bo < w0.heap.size) (h1n : 1 ≤ n) (h512 : n ≤ 512) (hm : 10 + n ≤ S.length) (hcur : cur S = some h) (hld : Jn.load S n h.g n h.f h.l = E) :
 Calls Tryz.prog 38 #[.pointer (some ⟨q, 0, none⟩), .int .i64 (n : Int)] w (JO w0 (fun k => D2 k ∨ k = bo) q n (ops S h) (oph h) E w) := by
 refine (Jn.Open_good w D q S [] h1 n h h1n h512 (by omega) hcur (by simp) (ht.below h6 ht.pos) (fun i hi => Nat.lt_of_lt_of_le ht.pos (h3 i hi))).mono ?_
 intro e w' ho
 rw [show Jn.load (all S []) n h.g n h.f h.l = E from hld] at ho
 refine JW.of_opened h3 h6 (fun k hk => ?_) ho
 rcases hk with hk | hk
 ·exact ⟨h2.lt k hk, h5 k hk⟩
 ·subst hk; exact ⟨Nat.lt_of_lt_of_le hbo h6.size, fun hD => by have := h3 _ hD; omega⟩
theorem ops_full (hF : Full S) : ∀ s ∈ ops S h, s.length = 64 := fun s hs => by
 rcases List.mem_or_eq_of_mem_set hs with h5 | h5
 ·exact hF s h5
 ·rw [h5]; exact hsec_length _
theorem TD.nohome (j : TD w0 q q2 S [] S [] w) (ht : Tab w0) (h1n : 1 ≤ n) (h512 : n ≤ 512) (hm : 10 + n ≤ S.length) (hS : S.length ≤ 1000) (hcur : cur S = some h) (hno : ∃ b, b < 8 ∧ unm b ((ops S h).getD (2 + n + b) []) = none) :
 Calls Tryz.prog 11 #[.pointer (some ⟨q, 0, none⟩), .int .i64 (n : Int)] w (Wrong w0 q2 (n : Int) 4) := by
 have hF := j.full
 have hl := j.lens
 obtain ⟨D, D2, h1, h2, h3, h4, h5, h6⟩ := j
 have hjo := TD.jopen (bo := 1) h1 h2 h3 h5 h6 ht ht.pos h1n h512 hm hcur rfl
 refine (Open_told hl hjo ht h1n h512 hm (by rw [List.length_set]; omega) hno).mono ?_
 rintro r w' ⟨pp, rfl, hpp, hf, hb, hk⟩
 have h2' : RDsk w' D2 q2 S [] := rdsk_same h2 fun k hk2 => hk k (Or.inl hk2)
 have hop := ROpen_good w' D2 q2 S n h h2' h1n h512 (by omega) hS hF hcur
 unfold ROpened at hop
 refine ⟨pp, rfl, (rOpen_any (H := fun b => (unm b ((ops S h).getD (2 + n + b) [])).getD hm0) (S := ops S h) hop h2' h1n h512 hm (by rw [List.length_set]; omega) (ops_full hF) (fun b _ x hx => by
  show (unm b ((ops S h).getD (2 + n + b) [])).getD hm0 = x
  rw [hx]; rfl)).mono ?_⟩
 rintro e w'' ⟨_, hbad⟩
 obtain ⟨rfl, hkp⟩ := hbad hno
 exact ⟨rfl, ⟨pp, [], rfl, ⟨rfl, _, (hkp.block pp (heap_lt hf) (fun hD => hpp (Or.inl hD))).trans hf, rfl⟩, by simp⟩, hb.trans (hkp.below h4 hb.size)⟩
theorem TD.good (j : TD w0 q q2 S [] S [] w) (ht : Tab w0) (ho : w0.heap[bo]? = some ob) (h1n : 1 ≤ n) (h512 : n ≤ 512) (hm : 10 + n ≤ S.length) (hS : S.length ≤ 1000) (hcur : cur S = some h) (hld : Jn.load S n h.g n h.f h.l = E) (htold : ∀ b, b < 8 → unm b ((ops S h).getD (2 + n + b) []) = some (H b)) :
 Calls Tryz.prog 11 #[.pointer (some ⟨q, 0, none⟩), .int .i64 (n : Int)] w fun r w' => ∃ v p, r = .returned (.tuple #[.pointer (some ⟨v, 0, none⟩), .nilIface]) ∧ Below w0.heap.size w0 w' ∧
  Calls Tryz.prog 12 #[.pointer (some ⟨q2, 0, none⟩), .int .i64 (n : Int)] w' fun r w'' => ∃ rv p2, r = .returned (.tuple #[.pointer (some ⟨rv, 0, none⟩), .int .i64 0]) ∧
   TV w0 v p q rv p2 q2 n (ops S h) [] (oph h) E H (ops S h) [] (oph h) E H bo ob w'' := by
 have hF := j.full
 have hl := j.lens
 obtain ⟨D, D2, h1, h2, h3, h4, h5, h6⟩ := j
 have hbo := heap_lt ho
 have hjo := TD.jopen (bo := bo) h1 h2 h3 h5 h6 ht hbo h1n h512 hm hcur hld
 have hH : ∀ b, b < 8 → ∀ x, unm b ((ops S h).getD (2 + n + b) []) = some x → H b = x := fun b hb x hx => by
  rw [htold b hb] at hx
  cases hx
  rfl
 refine (Open_any (H := H) hl hjo ht h1n h512 hm (by rw [List.length_set]; omega) hH).mono ?_
 rintro r w' ⟨ha, _⟩
 obtain ⟨v, p, rfl, hv, hk⟩ := ha htold
 have h2' : RDsk w' D2 q2 S [] := rdsk_same h2 fun k hk2 => hk k (Or.inl hk2)
 have hop := ROpen_good w' D2 q2 S n h h2' h1n h512 (by omega) hS hF hcur
 unfold ROpened at hop
 rw [hld] at hop
 refine ⟨v, p, rfl, hv.bel, (rOpen_any (H := H) (S := ops S h) hop h2' h1n h512 hm (by rw [List.length_set]; omega) (ops_full hF) hH).mono ?_⟩
 rintro r w'' ⟨ha2, _⟩
 obtain ⟨rv, p2, rfl, hp⟩ := ha2 htold
 exact ⟨rv, p2, rfl, TV.stepR h4 hv ((hk bo (Or.inr rfl)).trans ((h6.block bo hbo).trans ho)) (fun hD => by have := h4 bo hD; omega) (fun _ h => h) hp⟩
theorem load_le : ∀ (A : List Sec) (n gen k q lo : Nat), (Jn.load A n gen k q lo).length ≤ k := fun A n gen k => by
 induction k with
 | zero => intro q lo; exact Nat.le_refl _
 | succ k ih =>
   intro q lo
   cases hu : une (A.getD (2 + q % n) []) with
   | none => rw [load_nil hu]; exact Nat.zero_le _
   | some e =>
     by_cases h2 : e.s = q ∧ lo ≤ e.g ∧ e.g ≤ gen
     ·rw [load_yes hu h2, List.length_cons]
      have := ih (q + 1) e.g
      omega
     ·rw [load_no hu h2]; exact Nat.zero_le _
def Right (w0 : World) (q q2 n : Nat) (h : Hd) (E : List Ent) (H : Nat → Hm) (S : List Sec) (bo : Nat) (ob : Obj) (r : Ending) (w' : World) : Prop :=
 ∃ v p, r = .returned (.tuple #[.pointer (some ⟨v, 0, none⟩), .nilIface]) ∧
  Calls Tryz.prog 12 #[.pointer (some ⟨q2, 0, none⟩), .int .i64 (n : Int)] w' fun r w'' => ∃ rv p2, r = .returned (.tuple #[.pointer (some ⟨rv, 0, none⟩), .int .i64 0]) ∧
   TV w0 v p q rv p2 q2 n S [] h E H S [] h E H bo ob w''
theorem TD.either (j : TD w0 q q2 S [] S [] w) (ht : Tab w0) (ho : w0.heap[bo]? = some ob) (hS : S.length ≤ 1000) (ring : Int) :
 (∃ e, e ≠ 0 ∧ Calls Tryz.prog 11 #[.pointer (some ⟨q, 0, none⟩), .int .i64 ring] w (Wrong w0 q2 ring e)) ∨
 (∃ n h E H S', ring = ((n : Nat) : Int) ∧ n ≤ 512 ∧ h.f ≤ 2000000000000000000 ∧ E.length ≤ n ∧ Calls Tryz.prog 11 #[.pointer (some ⟨q, 0, none⟩), .int .i64 (n : Int)] w (Right w0 q q2 n h E H S' bo ob)) := by
 by_cases hbad : ring < 1 ∨ 512 < ring ∨ (S.length : Int) < 10 + ring
 ·exact Or.inl ⟨1, by decide, j.arg ring hbad⟩
 obtain ⟨n, rfl⟩ : ∃ n : Nat, ring = (n : Int) := ⟨ring.toNat, by omega⟩
 have h1n : 1 ≤ n := by omega
 have h512 : n ≤ 512 := by omega
 have hm : 10 + n ≤ S.length := by omega
 cases hcur : cur S with
 | none => exact Or.inl ⟨4, by decide, j.nohead ht h1n h512 hm hS hcur⟩
 | some h =>
   by_cases hno : ∃ b, b < 8 ∧ unm b ((ops S h).getD (2 + n + b) []) = none
   ·exact Or.inl ⟨4, by decide, j.nohome ht h1n h512 hm hS hcur hno⟩
   ·refine Or.inr ⟨n, oph h, _, fun b => (unm b ((ops S h).getD (2 + n + b) [])).getD hm0, ops S h, rfl, h512, ?_, load_le S n h.g n h.f h.l, (j.good (H := fun b => (unm b ((ops S h).getD (2 + n + b) [])).getD hm0) ht ho h1n h512 hm hS hcur rfl fun b hb => ?_).mono ?_⟩
    ·have hf : h.f ≤ 1152921504606846975 := (cur_num hcur).2.1
     show h.f ≤ _
     omega
    ·cases hu : unm b ((ops S h).getD (2 + n + b) []) with
     | none => exact absurd ⟨b, hb, hu⟩ hno
     | some x => rfl
    ·rintro r w' ⟨v, p, rfl, _, hc⟩
     exact ⟨v, p, rfl, hc⟩
end
end Go.Proofs.YtapiogcoipeinaaGreatDoor.Vo
