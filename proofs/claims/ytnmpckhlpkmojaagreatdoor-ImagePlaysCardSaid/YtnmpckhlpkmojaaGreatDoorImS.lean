/-
  The contract of the statements' alike at a disk and the document's disk of the same sectors and the same loose writes: it says yes. Nothing that was there is changed.
-/
import Derived.Test.YtnmpckhlpkmojaaGreatDoorImR
import Derived.Test.YtnmpckhlpkmojaaGreatDoorDkB
import Derived.Test.YtnmpckhlpkmojaaGreatDoorImD
import Derived.BigQuiet
import Derived.Deep.RegionHeld3

/-
  The contract of the document's own Open (isobarref14): the image of a disk's sectors, or the error's number. Nothing that was there is changed.
-/
namespace Go.Proofs.YtnmpckhlpkmojaaGreatDoor.Im
open Go.RowKit
open Pk hiding str str_data str_size str_of run_str head_str str_append
open Sm hiding run_str
open Fa Rc Dk Wn Lk
open Jn (NumN clampN zer zer_no)

/-! ### The document's disk, and its image, among other things -/
def rdskT (q : Nat) (S : List Sec) (L : List Wr) : Thg := ⟨fun w G => RDsk w G q S L, fun h hk hd => RDsk.kept h hk hd, fun h => RDsk.lt h⟩
abbrev rX (g c : Nat) : Value := .slice (some ⟨g, 0, none⟩) 32 c
abbrev rcs (q t m g c : Nat) : Array Value := #[.pointer (some ⟨q, 0, none⟩), .int .i64 (t : Int), .int .i64 (m : Int), rX g c]
abbrev rimT (p q t m g c : Nat) : Thg := blkT p (rcs q t m g c) 55
abbrev rowS (g c : Nat) (B : List ByteArray) : Thg := rowT 9 1 (rX g c) 32 (strs B)
section
variable {w0 w : World} {Ts : List Thg} {a i q : Nat} {S : List Sec} {L : List Wr} {s : Sec}
theorem St.rrd (h : St w0 Ts w) (ha : Ts[a]? = some (rdskT q S L)) (hs : (all S L)[i]? = some s) (hi : i < S.length) (hL : L.length ≤ 1000000) :
    Calls Tryz.prog 32 #[.pointer (some ⟨q, 0, none⟩), .int .i64 i] w fun e w' => e = .returned (.tuple #[.string (str s), .int .i64 0]) ∧ w = w' := by
  obtain ⟨G, hp, _⟩ := St.opened h ha
  exact RRead_any w G q i S L s hp hs hi hL
theorem St.rcell (h : St w0 Ts w) (ha : Ts[a]? = some (rdskT q S L)) : ∃ A c, w.cell? ⟨q, 0, none⟩ = some (.slice A S.length c) := by
  obtain ⟨G, hp, _⟩ := St.opened h ha
  obtain ⟨F, X, h1, h2, _⟩ := hp
  obtain ⟨A, c, rfl, _⟩ := row_form h2
  exact ⟨A, c, cell_of_row w q 0 _ _ _ h1⟩
end
theorem nw_two (D : List Sec) {o0 o1 : Option Hd} (h0 : unh 0 (D.getD 0 []) = o0) (h1 : unh 1 (D.getD 1 []) = o1) : nw D 2 = if (o0.getD hd0).t < (o1.getD hd0).t then o1.getD hd0 else o0.getD hd0 := by
  have e1 : nw D 1 = o0.getD hd0 := by
    rw [nw, nw, h0]
    cases o0 with
    | none => rfl
    | some x =>
      have := (unh_spec h0).1.pos
      exact if_pos (by show 0 < x.t; omega)
  rw [nw, h1, e1]
  cases o1 with
  | none => exact (if_neg (by show ¬ _ < 0; omega)).symm
  | some x => rfl
theorem HdTup_eq (o : Option Hd) : HdTup o = .tuple #[.int .i64 ((o.getD hd0).t : Int), .int .i64 ((o.getD hd0).m : Int)] := by cases o <;> rfl
theorem fsh_two {D : List Sec} {s0 s1 : Sec} (h0 : D.getD 0 [] = s0) (h1 : D.getD 1 [] = s1) : fsh D 2 = true ↔ s0 = zer ∧ s1 = zer := by
  rw [fsh, fsh, fsh, h0, h1]
  simp
theorem str_inj {l m : List UInt8} (h : str l = str m) : l = m := by
  have := congrArg (fun s : ByteArray => s.data.toList) h
  exact this
theorem b_chain {t : Nat} {d0 : ByteArray} (hd : d0.size ≤ 16) (hN : NumN t) {M l1 l2 d : List UInt8} {t' e1 e2 : Nat} (hM : M = pad (bbod t d0)) (h1 : rnum M 0 = (t', l1, e1)) (h2 : rtext l1 e1 16 = (d, l2, e2)) : t' = t ∧ str d = d0 ∧ e2 = 0 := by
  subst hM
  have e0 : pad (bbod t d0) = enc (clamp t) ++ (enc d0.size ++ d0.data.toList ++ List.replicate (60 - (bbod t d0).length) 0) := by unfold pad; simp [bbod]
  rw [e0, rnum_clamp hN] at h1
  cases h1
  have := rtext_enc d0.data.toList (List.replicate (60 - (bbod t d0).length) 0) 16 (by rw [size_eq]; omega) (by rw [size_eq]; omega)
  rw [size_eq] at this
  rw [this] at h2
  cases h2
  exact ⟨rfl, str_of d0, rfl⟩
theorem unb_bad {t : Nat} (hN : NumN t) {M l1 l2 d : List UInt8} {t' e1 e2 : Nat} (h1 : rnum M 0 = (t', l1, e1)) (h2 : rtext l1 e1 16 = (d, l2, e2)) (hb : e2 ≠ 0 ∨ t' ≠ t ∨ bsec t (str d) ≠ seal4 M) : unb t (seal4 M) = none := by
  refine unb_none fun d0 hd he => ?_
  obtain ⟨rfl, rfl, rfl⟩ := b_chain hd hN (seal4_inj he) h1 h2
  rcases hb with h | h | h
  · exact h rfl
  · exact h rfl
  · exact h he.symm
/-- An error's number beside nil. -/
def RBad (w0 : World) (Ts : List Thg) (k : Int) (e : Ending) (w' : World) : Prop := e = .returned (.tuple #[.pointer none, .int .i64 k]) ∧ St w0 Ts w'
/-- The document's image is opened. -/
def RGood (w0 : World) (Ts : List Thg) (q : Nat) (i : Img) (e : Ending) (w' : World) : Prop := ∃ rp g c, e = .returned (.tuple #[.pointer (some ⟨rp, 0, none⟩), .int .i64 0]) ∧ St w0 (Ts ++ [rowS g c i.B, rimT rp q i.t i.m g c]) w'
section
variable {w0 w : World} {Ts : List Thg} {a q : Nat} {S : List Sec} {L : List Wr}
theorem rOpen_few (h : St w0 Ts w) (ha : Ts[a]? = some (rdskT q S L)) (hS : S.length < 66) :
    Calls Tryz.prog 10 #[.pointer (some ⟨q, 0, none⟩)] w fun e w' => RBad w0 Ts 1 e w' := by
  obtain ⟨A, c, hc⟩ := St.rcell h ha
  have hSi : (S.length : Int) < 66 := by omega
  have HST := hide h
  clear h ha
  go_enter Tryz.func10, Tryz.ntmps10
  go_wp2
  go_ret2
  exact ⟨rfl, HST.out⟩
theorem row_made {w : World} {g : Nat} (h : w.heap[g]? = some (.cells (madeCells (Value.string ⟨#[]⟩).cells (32 * 1)) 9 (0, 0))) : (rowS g 32 emp).P w (· = g) := by
  have hc : madeCells (Value.string ⟨#[]⟩).cells (32 * 1) = (strs emp).toArray := by kernel_rfl
  rw [hc] at h
  refine ⟨⟨by simp, Or.inr ⟨g, 0, 32, _, rfl, h, Nat.le_refl _, by unfold maxLen; omega, by simp, by simp⟩⟩, fun k hk => ?_, fun k hk => ?_⟩
  · have hk' : some g = some k := hk
    exact (Option.some.inj hk').symm
  · rw [hk]
    exact (Array.getElem?_eq_some_iff.1 h).1
theorem St.im_blk {R : Thg} {b : Nat} {cs : Array Value} {ty : TypeId} (h : St w0 (Ts ++ [R, blkT b cs ty]) w) : (∀ j, w.cell? ⟨b, j, none⟩ = cs[j]?) ∧ (∀ j, w.frozen? ⟨b, j, none⟩ = false) ∧ b < w.heap.size ∧ ∀ j v, St w0 (Ts ++ [R, blkT b (cs.setIfInBounds j v) ty]) (w.setCell ⟨b, j, none⟩ v) := by
  have := St.blk h (i := Ts.length + 1) (b := b) (cs := cs) (ty := ty) (by rw [List.getElem?_append_right (by omega), show Ts.length + 1 - Ts.length = 1 by omega]; rfl)
  refine ⟨this.1, this.2.1, this.2.2.1, fun j v => ?_⟩
  have h2 := this.2.2.2 j v
  rw [List.set_append_right _ _ (by omega), show Ts.length + 1 - Ts.length = 1 by omega] at h2
  exact h2
theorem St.im_row {I : Thg} {g c : Nat} {B : List ByteArray} (h : St w0 (Ts ++ [rowS g c B, I]) w) : (∀ j u, (strs B)[j]? = some u → w.cell? ⟨g, j, none⟩ = some u) ∧ (∀ j, w.frozen? ⟨g, j, none⟩ = false) ∧ ∀ j (d : ByteArray), j < B.length → St w0 (Ts ++ [rowS g c (B.set j d), I]) (w.setCell ⟨g, j, none⟩ (.string d)) := by
  have := St.row0 h (i := Ts.length) (g := g) (c := c) (xs := strs B) (by rw [List.getElem?_append_right (by omega), Nat.sub_self]; rfl)
  refine ⟨this.1, this.2.1, fun j d hj => ?_⟩
  have h2 := this.2.2 j (.string d) (by rw [List.length_map]; exact hj)
  rw [List.set_append_right _ _ (by omega), Nat.sub_self] at h2
  have e : (strs B).set j (.string d) = strs (B.set j d) := by rw [strs, strs, List.map_set]
  rw [e] at h2
  exact h2
set_option maxRecDepth 100000 in
set_option maxHeartbeats 4000000 in
theorem rOpen_fresh (h : St w0 Ts w) (ha : Ts[a]? = some (rdskT q S L)) (hS : 66 ≤ S.length) (hL : L.length ≤ 1000000) (hF : Full (all S L)) (hz : nw (all S L) 2 = hd0) (hfz : fsh (all S L) 2 = true) :
    Calls Tryz.prog 10 #[.pointer (some ⟨q, 0, none⟩)] w fun e w' => RGood w0 Ts q im0 e w' := by
  obtain ⟨A, c, hcc⟩ := St.rcell h ha
  have hSi : ¬ (S.length : Int) < 66 := by omega
  have hAL := all_length L S
  obtain ⟨s0, hs0⟩ : ∃ s, (all S L)[0]? = some s := ⟨_, List.getElem?_eq_getElem (by rw [hAL]; omega)⟩
  obtain ⟨s1, hs1⟩ : ∃ s, (all S L)[1]? = some s := ⟨_, List.getElem?_eq_getElem (by rw [hAL]; omega)⟩
  have hl0 := hF s0 (List.mem_of_getElem? hs0)
  have hl1 := hF s1 (List.mem_of_getElem? hs1)
  have HR0 := hide (St.rrd h ha hs0 (by omega) hL)
  have HR1 := hide (St.rrd h ha hs1 (by omega) hL)
  obtain ⟨o0, ho0⟩ : ∃ o, unh 0 s0 = o := ⟨_, rfl⟩
  obtain ⟨o1, ho1⟩ : ∃ o, unh 1 s1 = o := ⟨_, rfl⟩
  obtain ⟨z0, hz0⟩ : ∃ z, str s0 = z := ⟨_, rfl⟩
  obtain ⟨z1, hz1⟩ : ∃ z, str s1 = z := ⟨_, rfl⟩
  have HH0 := hide (fun W => headOf_any s0 0 W hl0 o0 ho0 z0 hz0)
  have HH1 := hide (fun W => headOf_any s1 1 W hl1 o1 ho1 z1 hz1)
  have hnw := nw_two (all S L) (show unh 0 ((all S L).getD 0 []) = o0 by rw [getD_of hs0]; exact ho0) (show unh 1 ((all S L).getD 1 []) = o1 by rw [getD_of hs1]; exact ho1)
  have HFS := hide (fsh_two (getD_of hs0) (getD_of hs1))
  have hadd := fun W => add_run s0 s1 (by omega) z0 z1 (str (s0 ++ s1)) hz0 hz1 rfl W
  obtain ⟨zz, hzz⟩ : ∃ z, str (s0 ++ s1) = z := ⟨_, rfl⟩
  rw [hzz] at hadd
  have HZZ := hide hzz
  have HL0 := hide hl0
  rw [hz0] at HR0
  rw [hz1] at HR1
  rw [HdTup_eq] at HH0 HH1
  generalize o0.getD hd0 = x0 at *
  generalize o1.getD hd0 = x1 at *
  obtain ⟨t0, m0⟩ := x0
  obtain ⟨t1, m1⟩ := x1
  have HNW := hide hnw
  have HST := hide h
  have HA := hide ha
  have HS := hide hS
  have HL := hide hL
  have HF := hide hF
  have HAL := hide hAL
  clear h ha hS hL hF hAL hs0 hs1 hl0 hl1 ho0 ho1 hz0 hz1 hzz hnw
  go_enter Tryz.func10, Tryz.ntmps10
  go_wp2_with fail
  refine HR0.out.mono ?_
  rintro e w1 ⟨rfl, rfl⟩
  go_wp2_with fail
  refine HR1.out.mono ?_
  rintro e w1 ⟨rfl, rfl⟩
  clear HR0 HR1 hcc
  go_wp2_with fail
  refine (HH0.out w).mono ?_
  rintro e w1 ⟨rfl, hb1⟩
  have HB1 := hide hb1
  clear hb1 HH0
  go_wp2_with fail
  refine (HH1.out w1).mono ?_
  rintro e w2 ⟨rfl, hb2⟩
  have HB2 := hide (HB1.out.trans (hb2.mono HB1.out.size))
  have HS2 := hide (HST.out.below HB2.out)
  clear hb2 HH1 HB1 HST
  obtain ⟨j0, hj0, hy0, hy1, hy2⟩ := info_parts string_info
  have Hy1 := hide hy1
  have Hy2 := hide hy2
  clear hy1 hy2
  go_wp2_with (with_reducible refine wpList_make_told rfl 37 _ _ rfl 9 j0 _ Tryz.underlying37 hj0 hy0 .i64 .i64 32 32 rfl rfl (by omega) (by rw [Hy2.out]; decide) (by omega) 1 Hy1.out ?_)
  intro w3 H3
  have HB3 := hide (show Below w2.heap.size w2 w3 by rw [H3.out]; exact (Below.refl _ _).alloc (Nat.le_refl _) _)
  have HS3 := hide (show St w0 (Ts ++ [rowS w2.heap.size 32 emp]) w3 from HS2.out.add HB3.out (T := rowS w2.heap.size 32 emp) (G := (· = w2.heap.size)) (row_made (by rw [H3.out]; exact heap_alloc_new w2 _)) fun k hk => by rw [hk]; exact Nat.le_refl _)
  clear H3 HB3 HB2 HS2 hj0 hy0 Hy1 Hy2
  generalize w2.heap.size = g at *
  go_wp2_with (with_reducible refine wpList_box_told rfl 55 _ rfl _ rfl ?_)
  intro w4 H4
  have hs4 : St w0 (Ts ++ [rowS g 32 emp] ++ [rimT w3.heap.size q t0 m0 g 32]) w4 := by
    rw [H4.out]
    exact St.blk_new HS3.out _ _
  rw [List.append_assoc] at hs4
  have HS4 := hide (show St w0 (Ts ++ [rowS g 32 emp, rimT w3.heap.size q t0 m0 g 32]) w4 from hs4)
  clear hs4 H4 HS3
  generalize w3.heap.size = rp at *
  have ht0 : t0 = 0 := by
    have := HNW.out
    rw [hz] at this
    split at this
    · cases this; omega
    · cases this; rfl
  have ht1 : ¬ t0 < t1 := by
    intro hc
    have := HNW.out
    rw [hz, if_pos hc] at this
    cases this
    omega
  have hm0 : m0 = 0 := by
    have := HNW.out
    rw [hz, if_neg ht1] at this
    cases this
    rfl
  subst ht0
  subst hm0
  have hlti : ¬ (0 : Int) < (t1 : Int) := by omega
  have hlti' : ¬ ((0 : Nat) : Int) < (t1 : Int) := by omega
  clear hz ht1 HNW
  obtain ⟨ck, fk, _, _⟩ := St.im_blk HS4.out
  have hk1 : w4.cell? ⟨rp, 1, none⟩ = some (.int .i64 0) := ck 1
  clear ck fk
  obtain ⟨u0, hu0, hu1, hu2, hu3⟩ := info_parts u8_info
  have hmk : Sem.run Tryz.prog (Instr.makeSlice 60 (.int .i64 128) (.int .i64 128)) w4 = .ok (.slice (some ⟨w4.heap.size, 0, none⟩) 128 128) (w4.alloc (.cells (madeCells #[.int .u8 0] 128) 5)) := by
    have := run_make (P := Tryz.prog) w4 60 5 u0 (.int .u8 0) Tryz.underlying60 hu0 hu1 .i64 .i64 128 128 (by decide) (by decide) (by rw [hu3]; decide) (by decide)
    rw [hu2] at this
    exact this
  obtain ⟨w5, hw5⟩ : ∃ w5, w5 = w4.alloc (.cells (madeCells #[.int .u8 0] 128) 5) := ⟨_, rfl⟩
  have hm128 : (madeCells #[.int .u8 0] 128).toList = cels (zer ++ zer) := by kernel_rfl
  have hrow : w5.heap[w4.heap.size]? = some (.cells (cels (zer ++ zer)).toArray 5 (0, 0)) := by
    rw [hw5]
    refine (heap_alloc_new w4 _).trans ?_
    rw [← hm128, Array.toArray_toList]
  rw [← hw5] at hmk
  obtain ⟨SZ, hSZ⟩ : ∃ S, str (zer ++ zer) = S := ⟨_, rfl⟩
  have hcv := Sm.run_str w5 _ _ _ 128 128 (by decide) (Dk.byt_row hrow)
  rw [hSZ] at hcv
  have hs5 := HS4.out.below (show Below w4.heap.size w4 w5 by rw [hw5]; exact (Below.refl _ _).alloc (Nat.le_refl _) _)
  have HS5 := hide hs5
  have hne : (zz.toList == SZ.toList) = true := by
    rw [beq_iff_eq, ByteArray.toList_eq, ByteArray.toList_eq, ← HZZ.out, ← hSZ]
    obtain ⟨e0, e1⟩ := HFS.out.1 hfz
    rw [e0, e1]
  clear hu0 hu1 hu2 hu3 hw5 hm128 hrow hSZ HS4 hs5
  go_wp2
  go_ret2
  exact ⟨rp, g, 32, rfl, HS5.out⟩
set_option maxRecDepth 100000 in
set_option maxHeartbeats 4000000 in
theorem rOpen_nohead (h : St w0 Ts w) (ha : Ts[a]? = some (rdskT q S L)) (hS : 66 ≤ S.length) (hL : L.length ≤ 1000000) (hF : Full (all S L)) (hz : nw (all S L) 2 = hd0) (hfz : ¬ fsh (all S L) 2 = true) :
    Calls Tryz.prog 10 #[.pointer (some ⟨q, 0, none⟩)] w fun e w' => RBad w0 Ts 4 e w' := by
  obtain ⟨A, c, hcc⟩ := St.rcell h ha
  have hSi : ¬ (S.length : Int) < 66 := by omega
  have hAL := all_length L S
  obtain ⟨s0, hs0⟩ : ∃ s, (all S L)[0]? = some s := ⟨_, List.getElem?_eq_getElem (by rw [hAL]; omega)⟩
  obtain ⟨s1, hs1⟩ : ∃ s, (all S L)[1]? = some s := ⟨_, List.getElem?_eq_getElem (by rw [hAL]; omega)⟩
  have hl0 := hF s0 (List.mem_of_getElem? hs0)
  have hl1 := hF s1 (List.mem_of_getElem? hs1)
  have HR0 := hide (St.rrd h ha hs0 (by omega) hL)
  have HR1 := hide (St.rrd h ha hs1 (by omega) hL)
  obtain ⟨o0, ho0⟩ : ∃ o, unh 0 s0 = o := ⟨_, rfl⟩
  obtain ⟨o1, ho1⟩ : ∃ o, unh 1 s1 = o := ⟨_, rfl⟩
  obtain ⟨z0, hz0⟩ : ∃ z, str s0 = z := ⟨_, rfl⟩
  obtain ⟨z1, hz1⟩ : ∃ z, str s1 = z := ⟨_, rfl⟩
  have HH0 := hide (fun W => headOf_any s0 0 W hl0 o0 ho0 z0 hz0)
  have HH1 := hide (fun W => headOf_any s1 1 W hl1 o1 ho1 z1 hz1)
  have hnw := nw_two (all S L) (show unh 0 ((all S L).getD 0 []) = o0 by rw [getD_of hs0]; exact ho0) (show unh 1 ((all S L).getD 1 []) = o1 by rw [getD_of hs1]; exact ho1)
  have HFS := hide (fsh_two (getD_of hs0) (getD_of hs1))
  have hadd := fun W => add_run s0 s1 (by omega) z0 z1 (str (s0 ++ s1)) hz0 hz1 rfl W
  obtain ⟨zz, hzz⟩ : ∃ z, str (s0 ++ s1) = z := ⟨_, rfl⟩
  rw [hzz] at hadd
  have HZZ := hide hzz
  have HL0 := hide hl0
  rw [hz0] at HR0
  rw [hz1] at HR1
  rw [HdTup_eq] at HH0 HH1
  generalize o0.getD hd0 = x0 at *
  generalize o1.getD hd0 = x1 at *
  obtain ⟨t0, m0⟩ := x0
  obtain ⟨t1, m1⟩ := x1
  have HNW := hide hnw
  have HST := hide h
  have HA := hide ha
  have HS := hide hS
  have HL := hide hL
  have HF := hide hF
  have HAL := hide hAL
  clear h ha hS hL hF hAL hs0 hs1 hl0 hl1 ho0 ho1 hz0 hz1 hzz hnw
  go_enter Tryz.func10, Tryz.ntmps10
  go_wp2_with fail
  refine HR0.out.mono ?_
  rintro e w1 ⟨rfl, rfl⟩
  go_wp2_with fail
  refine HR1.out.mono ?_
  rintro e w1 ⟨rfl, rfl⟩
  clear HR0 HR1 hcc
  go_wp2_with fail
  refine (HH0.out w).mono ?_
  rintro e w1 ⟨rfl, hb1⟩
  have HB1 := hide hb1
  clear hb1 HH0
  go_wp2_with fail
  refine (HH1.out w1).mono ?_
  rintro e w2 ⟨rfl, hb2⟩
  have HB2 := hide (HB1.out.trans (hb2.mono HB1.out.size))
  have HS2 := hide (HST.out.below HB2.out)
  clear hb2 HH1 HB1 HST
  obtain ⟨j0, hj0, hy0, hy1, hy2⟩ := info_parts string_info
  have Hy1 := hide hy1
  have Hy2 := hide hy2
  clear hy1 hy2
  go_wp2_with (with_reducible refine wpList_make_told rfl 37 _ _ rfl 9 j0 _ Tryz.underlying37 hj0 hy0 .i64 .i64 32 32 rfl rfl (by omega) (by rw [Hy2.out]; decide) (by omega) 1 Hy1.out ?_)
  intro w3 H3
  have HB3 := hide (show Below w2.heap.size w2 w3 by rw [H3.out]; exact (Below.refl _ _).alloc (Nat.le_refl _) _)
  have HS3 := hide (show St w0 (Ts ++ [rowS w2.heap.size 32 emp]) w3 from HS2.out.add HB3.out (T := rowS w2.heap.size 32 emp) (G := (· = w2.heap.size)) (row_made (by rw [H3.out]; exact heap_alloc_new w2 _)) fun k hk => by rw [hk]; exact Nat.le_refl _)
  clear H3 HB3 HB2 HS2 hj0 hy0 Hy1 Hy2
  generalize w2.heap.size = g at *
  go_wp2_with (with_reducible refine wpList_box_told rfl 55 _ rfl _ rfl ?_)
  intro w4 H4
  have hs4 : St w0 (Ts ++ [rowS g 32 emp] ++ [rimT w3.heap.size q t0 m0 g 32]) w4 := by
    rw [H4.out]
    exact St.blk_new HS3.out _ _
  rw [List.append_assoc] at hs4
  have HS4 := hide (show St w0 (Ts ++ [rowS g 32 emp, rimT w3.heap.size q t0 m0 g 32]) w4 from hs4)
  clear hs4 H4 HS3
  generalize w3.heap.size = rp at *
  have ht0 : t0 = 0 := by
    have := HNW.out
    rw [hz] at this
    split at this
    · cases this; omega
    · cases this; rfl
  have ht1 : ¬ t0 < t1 := by
    intro hc
    have := HNW.out
    rw [hz, if_pos hc] at this
    cases this
    omega
  have hm0 : m0 = 0 := by
    have := HNW.out
    rw [hz, if_neg ht1] at this
    cases this
    rfl
  subst ht0
  subst hm0
  have hlti : ¬ (0 : Int) < (t1 : Int) := by omega
  have hlti' : ¬ ((0 : Nat) : Int) < (t1 : Int) := by omega
  clear hz ht1 HNW
  obtain ⟨ck, fk, _, _⟩ := St.im_blk HS4.out
  have hk1 : w4.cell? ⟨rp, 1, none⟩ = some (.int .i64 0) := ck 1
  clear ck fk
  obtain ⟨u0, hu0, hu1, hu2, hu3⟩ := info_parts u8_info
  have hmk : Sem.run Tryz.prog (Instr.makeSlice 60 (.int .i64 128) (.int .i64 128)) w4 = .ok (.slice (some ⟨w4.heap.size, 0, none⟩) 128 128) (w4.alloc (.cells (madeCells #[.int .u8 0] 128) 5)) := by
    have := run_make (P := Tryz.prog) w4 60 5 u0 (.int .u8 0) Tryz.underlying60 hu0 hu1 .i64 .i64 128 128 (by decide) (by decide) (by rw [hu3]; decide) (by decide)
    rw [hu2] at this
    exact this
  obtain ⟨w5, hw5⟩ : ∃ w5, w5 = w4.alloc (.cells (madeCells #[.int .u8 0] 128) 5) := ⟨_, rfl⟩
  have hm128 : (madeCells #[.int .u8 0] 128).toList = cels (zer ++ zer) := by kernel_rfl
  have hrow : w5.heap[w4.heap.size]? = some (.cells (cels (zer ++ zer)).toArray 5 (0, 0)) := by
    rw [hw5]
    refine (heap_alloc_new w4 _).trans ?_
    rw [← hm128, Array.toArray_toList]
  rw [← hw5] at hmk
  obtain ⟨SZ, hSZ⟩ : ∃ S, str (zer ++ zer) = S := ⟨_, rfl⟩
  have hcv := Sm.run_str w5 _ _ _ 128 128 (by decide) (Dk.byt_row hrow)
  rw [hSZ] at hcv
  have hs5 := HS4.out.below (show Below w4.heap.size w4 w5 by rw [hw5]; exact (Below.refl _ _).alloc (Nat.le_refl _) _)
  have HS5 := hide hs5
  have hne : (zz.toList == SZ.toList) = false := by
    refine beq_eq_false_iff_ne.2 fun e => hfz (HFS.out.2 ?_)
    rw [ByteArray.toList_eq, ByteArray.toList_eq, ← HZZ.out, ← hSZ] at e
    have e' : s0 ++ s1 = zer ++ zer := e
    exact List.append_inj e' (by rw [HL0.out]; rfl)
  clear hu0 hu1 hu2 hu3 hw5 hm128 hrow hSZ HS4 hs5
  go_wp2
  go_ret2
  exact ⟨rfl, St.left HS5.out⟩
def LodR (w0 : World) (Ts : List Thg) (q t m : Nat) (o : Option (List ByteArray)) (e : Ending) (w' : World) : Prop :=
  match o with
  | some B => RGood w0 Ts q ⟨t, m, B⟩ e w'
  | none => RBad w0 Ts 4 e w'
theorem lodr_none {D : List Sec} {t m k : Nat} {I : List Thg} (h : lod D t (k + 1) = none) (hk : k < 32) (hs : St w0 (Ts ++ I) w) : LodR w0 Ts q t m (lod D t 32) (.returned (.tuple #[.pointer none, .int .i64 4])) w := by
  have := lod_none h (32 - (k + 1))
  rw [show k + 1 + (32 - (k + 1)) = 32 by omega] at this
  rw [this]
  exact ⟨rfl, St.left hs⟩
set_option maxRecDepth 100000 in
set_option maxHeartbeats 4000000 in
theorem rOpen_load (h : St w0 Ts w) (ha : Ts[a]? = some (rdskT q S L)) (hS : 66 ≤ S.length) (hL : L.length ≤ 1000000) (hF : Full (all S L)) (t m : Nat) (hz : nw (all S L) 2 = ⟨t, m⟩) (hpos : 1 ≤ t) :
    Calls Tryz.prog 10 #[.pointer (some ⟨q, 0, none⟩)] w fun e w' => LodR w0 Ts q t m (lod (all S L) t 32) e w' := by
  obtain ⟨A, c, hcc⟩ := St.rcell h ha
  have hSi : ¬ (S.length : Int) < 66 := by omega
  have hAL := all_length L S
  obtain ⟨s0, hs0⟩ : ∃ s, (all S L)[0]? = some s := ⟨_, List.getElem?_eq_getElem (by rw [hAL]; omega)⟩
  obtain ⟨s1, hs1⟩ : ∃ s, (all S L)[1]? = some s := ⟨_, List.getElem?_eq_getElem (by rw [hAL]; omega)⟩
  have hl0 := hF s0 (List.mem_of_getElem? hs0)
  have hl1 := hF s1 (List.mem_of_getElem? hs1)
  have HR0 := hide (St.rrd h ha hs0 (by omega) hL)
  have HR1 := hide (St.rrd h ha hs1 (by omega) hL)
  obtain ⟨o0, ho0⟩ : ∃ o, unh 0 s0 = o := ⟨_, rfl⟩
  obtain ⟨o1, ho1⟩ : ∃ o, unh 1 s1 = o := ⟨_, rfl⟩
  obtain ⟨z0, hz0⟩ : ∃ z, str s0 = z := ⟨_, rfl⟩
  obtain ⟨z1, hz1⟩ : ∃ z, str s1 = z := ⟨_, rfl⟩
  have HH0 := hide (fun W => headOf_any s0 0 W hl0 o0 ho0 z0 hz0)
  have HH1 := hide (fun W => headOf_any s1 1 W hl1 o1 ho1 z1 hz1)
  have hnw := nw_two (all S L) (show unh 0 ((all S L).getD 0 []) = o0 by rw [getD_of hs0]; exact ho0) (show unh 1 ((all S L).getD 1 []) = o1 by rw [getD_of hs1]; exact ho1)
  have HFS := hide (fsh_two (getD_of hs0) (getD_of hs1))
  have hadd := fun W => add_run s0 s1 (by omega) z0 z1 (str (s0 ++ s1)) hz0 hz1 rfl W
  obtain ⟨zz, hzz⟩ : ∃ z, str (s0 ++ s1) = z := ⟨_, rfl⟩
  rw [hzz] at hadd
  have HZZ := hide hzz
  have HL0 := hide hl0
  rw [hz0] at HR0
  rw [hz1] at HR1
  rw [HdTup_eq] at HH0 HH1
  generalize o0.getD hd0 = x0 at *
  generalize o1.getD hd0 = x1 at *
  obtain ⟨t0, m0⟩ := x0
  obtain ⟨t1, m1⟩ := x1
  have HNW := hide hnw
  have HST := hide h
  have HA := hide ha
  have HS := hide hS
  have HL := hide hL
  have HF := hide hF
  have HAL := hide hAL
  clear h ha hS hL hF hAL hs0 hs1 hl0 hl1 ho0 ho1 hz0 hz1 hzz hnw
  go_enter Tryz.func10, Tryz.ntmps10
  go_wp2_with fail
  refine HR0.out.mono ?_
  rintro e w1 ⟨rfl, rfl⟩
  go_wp2_with fail
  refine HR1.out.mono ?_
  rintro e w1 ⟨rfl, rfl⟩
  clear HR0 HR1 hcc
  go_wp2_with fail
  refine (HH0.out w).mono ?_
  rintro e w1 ⟨rfl, hb1⟩
  have HB1 := hide hb1
  clear hb1 HH0
  go_wp2_with fail
  refine (HH1.out w1).mono ?_
  rintro e w2 ⟨rfl, hb2⟩
  have HB2 := hide (HB1.out.trans (hb2.mono HB1.out.size))
  have HS2 := hide (HST.out.below HB2.out)
  clear hb2 HH1 HB1 HST
  obtain ⟨j0, hj0, hy0, hy1, hy2⟩ := info_parts string_info
  have Hy1 := hide hy1
  have Hy2 := hide hy2
  clear hy1 hy2
  go_wp2_with (with_reducible refine wpList_make_told rfl 37 _ _ rfl 9 j0 _ Tryz.underlying37 hj0 hy0 .i64 .i64 32 32 rfl rfl (by omega) (by rw [Hy2.out]; decide) (by omega) 1 Hy1.out ?_)
  intro w3 H3
  have HB3 := hide (show Below w2.heap.size w2 w3 by rw [H3.out]; exact (Below.refl _ _).alloc (Nat.le_refl _) _)
  have HS3 := hide (show St w0 (Ts ++ [rowS w2.heap.size 32 emp]) w3 from HS2.out.add HB3.out (T := rowS w2.heap.size 32 emp) (G := (· = w2.heap.size)) (row_made (by rw [H3.out]; exact heap_alloc_new w2 _)) fun k hk => by rw [hk]; exact Nat.le_refl _)
  clear H3 HB3 HB2 HS2 hj0 hy0 Hy1 Hy2
  generalize w2.heap.size = g at *
  go_wp2_with (with_reducible refine wpList_box_told rfl 55 _ rfl _ rfl ?_)
  intro w4 H4
  have hs4 : St w0 (Ts ++ [rowS g 32 emp] ++ [rimT w3.heap.size q t0 m0 g 32]) w4 := by
    rw [H4.out]
    exact St.blk_new HS3.out _ _
  rw [List.append_assoc] at hs4
  have HS4 := hide (show St w0 (Ts ++ [rowS g 32 emp, rimT w3.heap.size q t0 m0 g 32]) w4 from hs4)
  clear hs4 H4 HS3
  generalize w3.heap.size = rp at *
  by_cases hlt : t0 < t1
  case pos =>
    obtain ⟨rfl, rfl⟩ : t1 = t ∧ m1 = m := by
      have := HNW.out
      rw [hz, if_pos hlt] at this
      cases this
      exact ⟨rfl, rfl⟩
    have HNN := hide (show NumN t1 by have := (nw_num (all S L) 2).1; rw [hz] at this; exact this)
    clear HNW hz
    have hlti : (t0 : Int) < (t1 : Int) := by omega
    obtain ⟨ck, fk, _, _⟩ := St.im_blk HS4.out
    have hk1 : w4.cell? ⟨rp, 1, none⟩ = some (.int .i64 (t0 : Int)) := ck 1
    have hk2 : w4.cell? ⟨rp, 2, none⟩ = some (.int .i64 (m0 : Int)) := ck 2
    have hf1 := fk 1
    have hf2 := fk 2
    have hs5 := (St.im_blk HS4.out).2.2.2 1 (.int .i64 (t1 : Int))
    have hs6 := (St.im_blk hs5).2.2.2 2 (.int .i64 (m1 : Int))
    have HSX := hide (show St w0 (Ts ++ [rowS g 32 emp, rimT rp q t1 m1 g 32]) ((w4.setCell ⟨rp, 1, none⟩ (.int .i64 (t1 : Int))).setCell ⟨rp, 2, none⟩ (.int .i64 (m1 : Int))) from hs6)
    have hk3 : w4.cell? ⟨rp, 3, none⟩ = some (rX g 32) := ck 3
    clear ck fk hs5 hs6 HS4 hlt
    have htz : ((t1 : Int) == 0) = false := by simp; omega
    go_wp2
    go_loopw [81] (fun j wr => ∃ k : Nat, k ≤ 32 ∧ j = .int .i64 k ∧ Hid (∃ B, lod (all S L) t1 k = some B ∧ B.length = k ∧ St w0 (Ts ++ [rowS g 32 (upto B), rimT rp q t1 m1 g 32]) wr)) (fun j _ => 32 - (intOf j).toNat)
    case atStart => exact ⟨0, by omega, rfl, [], rfl, rfl, HSX.out⟩
    case round =>
      clear HSX hk1 hk3
      obtain ⟨k, hk, rfl, hB⟩ := hrel
      rcases Nat.lt_or_ge k 32 with hlt | hge
      · have hki : (k : Int) < 32 := by omega
        obtain ⟨B, hlod, hbl, hs⟩ := hB.out
        have hai : (Ts ++ [rowS g 32 (upto B), rimT rp q t1 m1 g 32])[a]? = some (rdskT q S L) := by
          rw [List.getElem?_append_left (List.getElem?_eq_some_iff.1 HA.out).1]
          exact HA.out
        have hiS : at2 t1 k < S.length := by have := HS.out; have := at2_lt t1 hlt; omega
        obtain ⟨s, hsec⟩ : ∃ s, (all S L)[at2 t1 k]? = some s := ⟨_, List.getElem?_eq_getElem (by rw [HAL.out]; exact hiS)⟩
        have hgd : (all S L).getD (at2 t1 k) [] = s := getD_of hsec
        have hls : s.length = 64 := HF.out s (List.mem_of_getElem? hsec)
        have HR := hide (St.rrd hs hai hsec hiS HL.out)
        have HY := hide (fun d hd => lod_yes (d := d) hlod (show unb t1 ((all S L).getD (at2 t1 k) []) = some d by rw [hgd]; exact hd))
        have HNO := hide (fun hd => lod_no hlod (show unb t1 ((all S L).getD (at2 t1 k) []) = none by rw [hgd]; exact hd))
        obtain ⟨ck, fk, _, _⟩ := St.im_blk hs
        have hk1 : wr.cell? ⟨rp, 1, none⟩ = some (.int .i64 (t1 : Int)) := ck 1
        have hrem : (t1 : Int).tmod 2 = ((t1 % 2 : Nat) : Int) := by rw [Int.tmod_eq_emod_of_nonneg (by omega)]; rfl
        have hwr : IntKind.i64.wrap ((t1 % 2 : Nat) : Int) = ((t1 % 2 : Nat) : Int) := IntWalk.i64_in _ (by omega)
        obtain ⟨r2, hr2⟩ : ∃ r2, t1 % 2 = r2 := ⟨_, rfl⟩
        have hrl : r2 < 2 := by omega
        rw [hr2] at hrem hwr
        obtain ⟨c1, hc1⟩ : ∃ c1, 32 * r2 = c1 := ⟨_, rfl⟩
        have hm1 : (32 : Int) * (r2 : Int) = (c1 : Int) := by omega
        have hm2 : IntKind.i64.wrap (c1 : Int) = (c1 : Int) := IntWalk.i64_in _ (by omega)
        obtain ⟨c2, hc2⟩ : ∃ c2, 2 + c1 = c2 := ⟨_, rfl⟩
        have hm3 : (2 : Int) + (c1 : Int) = (c2 : Int) := by omega
        have hm4 : IntKind.i64.wrap (c2 : Int) = (c2 : Int) := IntWalk.i64_in _ (by omega)
        obtain ⟨c3, hc3⟩ : ∃ c3, c2 + k = c3 := ⟨_, rfl⟩
        have hm5 : (c2 : Int) + (k : Int) = (c3 : Int) := by omega
        have hm6 : IntKind.i64.wrap (c3 : Int) = (c3 : Int) := IntWalk.i64_in _ (by omega)
        have hc4 : at2 t1 k = c3 := by show 2 + t1 % 2 * 32 + k = c3; omega
        rw [hc4] at HR
        obtain ⟨z, hz⟩ : ∃ z, str s = z := ⟨_, rfl⟩
        rw [hz] at HR
        have HSt := hide hs
        have HBL := hide hbl
        have Hlt := hide hlt
        have Hls := hide hls
        have Hz := hide hz
        have hzs : z.size ≤ 1000000 := by rw [← hz, str_size]; omega
        clear ck fk hB hlod hbl hs hai hsec hgd hls hiS hr2 hrl hc1 hc2 hc3 hc4 hz hlt
        go_wp2_with fail
        refine HR.out.mono ?_
        rintro e w' ⟨rfl, rfl⟩
        clear HR hk1 hrem hwr hm1 hm2 hm3 hm4 hm5 hm6
        by_cases hM : ∃ M, s = seal4 M
        case neg =>
          have hbad := HNO.out (by exact unb_none fun d _ e => hM ⟨_, e⟩)
          have HBAD := hide hbad
          have HNM := hide (fun m e => hM ⟨m, by rw [← Hz.out] at e; exact e⟩ : ∀ m, z.data.toList ≠ seal4 m)
          clear hM hbad
          go_wp2_with fail
          refine (rOpen_bad z _ hzs HNM.out).mono ?_
          rintro e w2 ⟨rfl, hb2⟩
          have HS2 := hide (HSt.out.below hb2)
          clear hb2 HSt
          go_wp2
          go_ret2
          exact lodr_none HBAD.out Hlt.out HS2.out
        case pos =>
          obtain ⟨M, rfl⟩ := hM
          have hM60 : M.length ≤ 60 := by have := Hls.out; rw [seal4_length] at this; omega
          obtain ⟨n1, l1, e1, h1⟩ : ∃ t l1 e1, rnum M 0 = (t, l1, e1) := ⟨_, _, _, rfl⟩
          obtain ⟨d, l2, e2, h2⟩ : ∃ m l2 e2, rtext l1 e1 16 = (m, l2, e2) := ⟨_, _, _, rfl⟩
          obtain ⟨S0, hS0⟩ : ∃ S, str M = S := ⟨_, rfl⟩
          have HM := hide (show z.data.toList = seal4 M by rw [← Hz.out]; rfl)
          have HL0 := hide hM60
          have H1 := hide h1
          have H2 := hide h2
          have HS0 := hide hS0
          have hd16 : (str d).size ≤ 16 := by
            have := rtext_le l1 e1
            rw [h2] at this
            rw [str_size]
            exact this
          obtain ⟨D, hD⟩ : ∃ D, str d = D := ⟨_, rfl⟩
          have HD := hide hD
          rw [hD] at hd16
          have HD16 := hide hd16
          clear h1 h2 hS0 hM60 hD hd16
          go_wp2_with fail
          refine (rOpen_good z _ M hzs HM.out S0 HS0.out).mono ?_
          rintro e w1 ⟨rfl, hb1⟩
          have hr0 := rr_new w1 S0
          have HB2 := hide (hb1.trans ((rr_below w1 S0).mono hb1.size))
          have hRl := hb1.size
          obtain ⟨R, hR⟩ : ∃ R, R = w1.heap.size := ⟨_, rfl⟩
          rw [← hR] at hr0 hRl
          rw [← HS0.out] at hr0
          clear hb1
          go_wp2_with fail
          rw [← hR]
          clear hR
          rw [HS0.out] at hr0
          generalize w1.alloc _ = w2 at *
          rw [← HS0.out] at hr0
          refine (rNumber_at R 0 M w2 hr0 HL0.out n1 l1 e1 H1.out).mono ?_
          rintro r w3 ⟨rfl, hr1, hg1, hl1⟩
          have HL1 := hide hl1
          have HB3 := hide (HB2.out.trans (only_below hg1 hRl hr0.lt))
          clear hg1 hr0 hl1 HB2
          go_wp2_with fail
          refine (rText_at R e1 l1 w3 hr1 HL1.out d l2 e2 H2.out).mono ?_
          rintro r w6 ⟨rfl, hr4, hg4⟩
          rw [HD.out]
          have HB6 := hide (HB3.out.trans (only_below hg4 hRl hr1.lt))
          have hc1 : w6.cell? ⟨R, 1, none⟩ = some (.int .i64 (e2 : Int)) := by have := hr4; unfold Rr at this; simp [World.cell?, this]
          have HS6 := hide (HSt.out.below HB6.out)
          clear hg4 hr1 HB3 hr4 hRl HSt
          have hk1 : w6.cell? ⟨rp, 1, none⟩ = some (.int .i64 (t1 : Int)) := (St.im_blk HS6.out).1 1
          have HNT := hide (show NumN t1 from HNN.out)
          by_cases c1 : e2 = 0
          case neg =>
            have he0 : ((e2 : Int) != 0) = true := by simp; omega
            have HBAD := hide (HNO.out (by exact unb_bad HNT.out H1.out H2.out (Or.inl c1)))
            clear c1
            go_wp2
            go_ret2
            exact lodr_none HBAD.out Hlt.out HS6.out
          case pos =>
            have he0 : ((e2 : Int) != 0) = false := by simp; omega
            by_cases c2 : n1 = t1
            case neg =>
              have hn0 : ((n1 : Int) != (t1 : Int)) = true := by simp; omega
              have HBAD := hide (HNO.out (by exact unb_bad HNT.out H1.out H2.out (Or.inr (Or.inl c2))))
              clear c1 c2
              go_wp2
              go_ret2
              exact lodr_none HBAD.out Hlt.out HS6.out
            case pos =>
              have hn0 : ((n1 : Int) != (t1 : Int)) = false := by simp; omega
              obtain ⟨SF, hSF⟩ : ∃ SF, str (bsec n1 D) = SF := ⟨_, rfl⟩
              have HRB := hide (fun W => rblock_any n1 D HD16.out W SF hSF)
              by_cases c3 : bsec n1 D = seal4 M
              case neg =>
                have hne : (SF.toList == z.toList) = false := by
                  refine beq_eq_false_iff_ne.2 fun e => c3 ?_
                  rw [ByteArray.toList_eq, ByteArray.toList_eq, ← hSF, HM.out] at e
                  exact e
                have HBAD := hide (HNO.out (by exact unb_bad HNT.out H1.out H2.out (Or.inr (Or.inr (by rw [HD.out, ← c2]; exact c3)))))
                clear c1 c2 c3 hSF
                go_wp2_with fail
                refine (HRB.out _).mono ?_
                rintro e w7 ⟨rfl, hb7⟩
                have HS7 := hide (HS6.out.below hb7)
                clear hb7 HS6
                go_wp2
                go_ret2
                exact lodr_none HBAD.out Hlt.out HS7.out
              case pos =>
                have hne : (SF.toList == z.toList) = true := by
                  rw [beq_iff_eq, ByteArray.toList_eq, ByteArray.toList_eq, ← hSF, HM.out, ← c3]
                  rfl
                have HGO := hide (HY.out D (by rw [← c3, c2]; exact unb_some HD16.out HNT.out))
                clear c1 c2 c3 hSF
                go_wp2_with fail
                refine (HRB.out _).mono ?_
                rintro e w7 ⟨rfl, hb7⟩
                have HS7 := hide (HS6.out.below hb7)
                clear hb7 HS6
                have hk3 : w7.cell? ⟨rp, 3, none⟩ = some (rX g 32) := (St.im_blk HS7.out).1 3
                have hul := upto_length (B := B) (by have := HBL.out; have := Hlt.out; omega)
                obtain ⟨sb, hsb⟩ : ∃ sb, (strs (upto B))[k]? = some sb := ⟨_, List.getElem?_eq_getElem (by rw [List.length_map, hul]; exact Hlt.out)⟩
                have hcg : w7.cell? ⟨g, k, none⟩ = some sb := (St.im_row HS7.out).1 k sb hsb
                have hfg := (St.im_row HS7.out).2.1 k
                have hs8 := (St.im_row HS7.out).2.2 k D (by rw [hul]; exact Hlt.out)
                rw [upto_snoc HBL.out Hlt.out] at hs8
                have HS8 := hide hs8
                clear hul hsb hs8 HS7
                go_wp2
                go_roundw
                case rel => exact ⟨k + 1, by have := Hlt.out; omega, by go_num, B ++ [D], HGO.out, by rw [List.length_append, HBL.out]; rfl, HS8.out⟩
                case measure => have := Hlt.out; simp [intOf]; omega
      · obtain rfl : k = 32 := by omega
        obtain ⟨B, hlod, hbl, hs⟩ := hB.out
        have HLO := hide hlod
        have HS9 := hide hs
        have HBL := hide hbl
        clear hB hlod hbl hs
        go_wp2
        go_ret2
        unfold LodR
        rw [HLO.out]
        have hu : upto B = B := by rw [upto, HBL.out]; simp
        have := HS9.out
        rw [hu] at this
        exact ⟨rp, g, 32, rfl, this⟩
  case neg =>
    obtain ⟨rfl, rfl⟩ : t0 = t ∧ m0 = m := by
      have := HNW.out
      rw [hz, if_neg hlt] at this
      cases this
      exact ⟨rfl, rfl⟩
    have HNN := hide (show NumN t0 by have := (nw_num (all S L) 2).1; rw [hz] at this; exact this)
    clear HNW hz
    have hlti : ¬ (t0 : Int) < (t1 : Int) := by omega
    obtain ⟨ck, _, _, _⟩ := St.im_blk HS4.out
    have hk1 : w4.cell? ⟨rp, 1, none⟩ = some (.int .i64 (t0 : Int)) := ck 1
    have hk3 : w4.cell? ⟨rp, 3, none⟩ = some (rX g 32) := ck 3
    have HSX := HS4
    clear ck HS4 hlt
    have htz : ((t0 : Int) == 0) = false := by simp; omega
    go_wp2
    go_loopw [81] (fun j wr => ∃ k : Nat, k ≤ 32 ∧ j = .int .i64 k ∧ Hid (∃ B, lod (all S L) t0 k = some B ∧ B.length = k ∧ St w0 (Ts ++ [rowS g 32 (upto B), rimT rp q t0 m0 g 32]) wr)) (fun j _ => 32 - (intOf j).toNat)
    case atStart => exact ⟨0, by omega, rfl, [], rfl, rfl, HSX.out⟩
    case round =>
      clear HSX hk1 hk3
      obtain ⟨k, hk, rfl, hB⟩ := hrel
      rcases Nat.lt_or_ge k 32 with hlt | hge
      · have hki : (k : Int) < 32 := by omega
        obtain ⟨B, hlod, hbl, hs⟩ := hB.out
        have hai : (Ts ++ [rowS g 32 (upto B), rimT rp q t0 m0 g 32])[a]? = some (rdskT q S L) := by
          rw [List.getElem?_append_left (List.getElem?_eq_some_iff.1 HA.out).1]
          exact HA.out
        have hiS : at2 t0 k < S.length := by have := HS.out; have := at2_lt t0 hlt; omega
        obtain ⟨s, hsec⟩ : ∃ s, (all S L)[at2 t0 k]? = some s := ⟨_, List.getElem?_eq_getElem (by rw [HAL.out]; exact hiS)⟩
        have hgd : (all S L).getD (at2 t0 k) [] = s := getD_of hsec
        have hls : s.length = 64 := HF.out s (List.mem_of_getElem? hsec)
        have HR := hide (St.rrd hs hai hsec hiS HL.out)
        have HY := hide (fun d hd => lod_yes (d := d) hlod (show unb t0 ((all S L).getD (at2 t0 k) []) = some d by rw [hgd]; exact hd))
        have HNO := hide (fun hd => lod_no hlod (show unb t0 ((all S L).getD (at2 t0 k) []) = none by rw [hgd]; exact hd))
        obtain ⟨ck, fk, _, _⟩ := St.im_blk hs
        have hk1 : wr.cell? ⟨rp, 1, none⟩ = some (.int .i64 (t0 : Int)) := ck 1
        have hrem : (t0 : Int).tmod 2 = ((t0 % 2 : Nat) : Int) := by rw [Int.tmod_eq_emod_of_nonneg (by omega)]; rfl
        have hwr : IntKind.i64.wrap ((t0 % 2 : Nat) : Int) = ((t0 % 2 : Nat) : Int) := IntWalk.i64_in _ (by omega)
        obtain ⟨r2, hr2⟩ : ∃ r2, t0 % 2 = r2 := ⟨_, rfl⟩
        have hrl : r2 < 2 := by omega
        rw [hr2] at hrem hwr
        obtain ⟨c1, hc1⟩ : ∃ c1, 32 * r2 = c1 := ⟨_, rfl⟩
        have hm1 : (32 : Int) * (r2 : Int) = (c1 : Int) := by omega
        have hm2 : IntKind.i64.wrap (c1 : Int) = (c1 : Int) := IntWalk.i64_in _ (by omega)
        obtain ⟨c2, hc2⟩ : ∃ c2, 2 + c1 = c2 := ⟨_, rfl⟩
        have hm3 : (2 : Int) + (c1 : Int) = (c2 : Int) := by omega
        have hm4 : IntKind.i64.wrap (c2 : Int) = (c2 : Int) := IntWalk.i64_in _ (by omega)
        obtain ⟨c3, hc3⟩ : ∃ c3, c2 + k = c3 := ⟨_, rfl⟩
        have hm5 : (c2 : Int) + (k : Int) = (c3 : Int) := by omega
        have hm6 : IntKind.i64.wrap (c3 : Int) = (c3 : Int) := IntWalk.i64_in _ (by omega)
        have hc4 : at2 t0 k = c3 := by show 2 + t0 % 2 * 32 + k = c3; omega
        rw [hc4] at HR
        obtain ⟨z, hz⟩ : ∃ z, str s = z := ⟨_, rfl⟩
        rw [hz] at HR
        have HSt := hide hs
        have HBL := hide hbl
        have Hlt := hide hlt
        have Hls := hide hls
        have Hz := hide hz
        have hzs : z.size ≤ 1000000 := by rw [← hz, str_size]; omega
        clear ck fk hB hlod hbl hs hai hsec hgd hls hiS hr2 hrl hc1 hc2 hc3 hc4 hz hlt
        go_wp2_with fail
        refine HR.out.mono ?_
        rintro e w' ⟨rfl, rfl⟩
        clear HR hk1 hrem hwr hm1 hm2 hm3 hm4 hm5 hm6
        by_cases hM : ∃ M, s = seal4 M
        case neg =>
          have hbad := HNO.out (by exact unb_none fun d _ e => hM ⟨_, e⟩)
          have HBAD := hide hbad
          have HNM := hide (fun m e => hM ⟨m, by rw [← Hz.out] at e; exact e⟩ : ∀ m, z.data.toList ≠ seal4 m)
          clear hM hbad
          go_wp2_with fail
          refine (rOpen_bad z _ hzs HNM.out).mono ?_
          rintro e w2 ⟨rfl, hb2⟩
          have HS2 := hide (HSt.out.below hb2)
          clear hb2 HSt
          go_wp2
          go_ret2
          exact lodr_none HBAD.out Hlt.out HS2.out
        case pos =>
          obtain ⟨M, rfl⟩ := hM
          have hM60 : M.length ≤ 60 := by have := Hls.out; rw [seal4_length] at this; omega
          obtain ⟨n1, l1, e1, h1⟩ : ∃ t l1 e1, rnum M 0 = (t, l1, e1) := ⟨_, _, _, rfl⟩
          obtain ⟨d, l2, e2, h2⟩ : ∃ m l2 e2, rtext l1 e1 16 = (m, l2, e2) := ⟨_, _, _, rfl⟩
          obtain ⟨S0, hS0⟩ : ∃ S, str M = S := ⟨_, rfl⟩
          have HM := hide (show z.data.toList = seal4 M by rw [← Hz.out]; rfl)
          have HL0 := hide hM60
          have H1 := hide h1
          have H2 := hide h2
          have HS0 := hide hS0
          have hd16 : (str d).size ≤ 16 := by
            have := rtext_le l1 e1
            rw [h2] at this
            rw [str_size]
            exact this
          obtain ⟨D, hD⟩ : ∃ D, str d = D := ⟨_, rfl⟩
          have HD := hide hD
          rw [hD] at hd16
          have HD16 := hide hd16
          clear h1 h2 hS0 hM60 hD hd16
          go_wp2_with fail
          refine (rOpen_good z _ M hzs HM.out S0 HS0.out).mono ?_
          rintro e w1 ⟨rfl, hb1⟩
          have hr0 := rr_new w1 S0
          have HB2 := hide (hb1.trans ((rr_below w1 S0).mono hb1.size))
          have hRl := hb1.size
          obtain ⟨R, hR⟩ : ∃ R, R = w1.heap.size := ⟨_, rfl⟩
          rw [← hR] at hr0 hRl
          rw [← HS0.out] at hr0
          clear hb1
          go_wp2_with fail
          rw [← hR]
          clear hR
          rw [HS0.out] at hr0
          generalize w1.alloc _ = w2 at *
          rw [← HS0.out] at hr0
          refine (rNumber_at R 0 M w2 hr0 HL0.out n1 l1 e1 H1.out).mono ?_
          rintro r w3 ⟨rfl, hr1, hg1, hl1⟩
          have HL1 := hide hl1
          have HB3 := hide (HB2.out.trans (only_below hg1 hRl hr0.lt))
          clear hg1 hr0 hl1 HB2
          go_wp2_with fail
          refine (rText_at R e1 l1 w3 hr1 HL1.out d l2 e2 H2.out).mono ?_
          rintro r w6 ⟨rfl, hr4, hg4⟩
          rw [HD.out]
          have HB6 := hide (HB3.out.trans (only_below hg4 hRl hr1.lt))
          have hc1 : w6.cell? ⟨R, 1, none⟩ = some (.int .i64 (e2 : Int)) := by have := hr4; unfold Rr at this; simp [World.cell?, this]
          have HS6 := hide (HSt.out.below HB6.out)
          clear hg4 hr1 HB3 hr4 hRl HSt
          have hk1 : w6.cell? ⟨rp, 1, none⟩ = some (.int .i64 (t0 : Int)) := (St.im_blk HS6.out).1 1
          have HNT := hide (show NumN t0 from HNN.out)
          by_cases c1 : e2 = 0
          case neg =>
            have he0 : ((e2 : Int) != 0) = true := by simp; omega
            have HBAD := hide (HNO.out (by exact unb_bad HNT.out H1.out H2.out (Or.inl c1)))
            clear c1
            go_wp2
            go_ret2
            exact lodr_none HBAD.out Hlt.out HS6.out
          case pos =>
            have he0 : ((e2 : Int) != 0) = false := by simp; omega
            by_cases c2 : n1 = t0
            case neg =>
              have hn0 : ((n1 : Int) != (t0 : Int)) = true := by simp; omega
              have HBAD := hide (HNO.out (by exact unb_bad HNT.out H1.out H2.out (Or.inr (Or.inl c2))))
              clear c1 c2
              go_wp2
              go_ret2
              exact lodr_none HBAD.out Hlt.out HS6.out
            case pos =>
              have hn0 : ((n1 : Int) != (t0 : Int)) = false := by simp; omega
              obtain ⟨SF, hSF⟩ : ∃ SF, str (bsec n1 D) = SF := ⟨_, rfl⟩
              have HRB := hide (fun W => rblock_any n1 D HD16.out W SF hSF)
              by_cases c3 : bsec n1 D = seal4 M
              case neg =>
                have hne : (SF.toList == z.toList) = false := by
                  refine beq_eq_false_iff_ne.2 fun e => c3 ?_
                  rw [ByteArray.toList_eq, ByteArray.toList_eq, ← hSF, HM.out] at e
                  exact e
                have HBAD := hide (HNO.out (by exact unb_bad HNT.out H1.out H2.out (Or.inr (Or.inr (by rw [HD.out, ← c2]; exact c3)))))
                clear c1 c2 c3 hSF
                go_wp2_with fail
                refine (HRB.out _).mono ?_
                rintro e w7 ⟨rfl, hb7⟩
                have HS7 := hide (HS6.out.below hb7)
                clear hb7 HS6
                go_wp2
                go_ret2
                exact lodr_none HBAD.out Hlt.out HS7.out
              case pos =>
                have hne : (SF.toList == z.toList) = true := by
                  rw [beq_iff_eq, ByteArray.toList_eq, ByteArray.toList_eq, ← hSF, HM.out, ← c3]
                  rfl
                have HGO := hide (HY.out D (by rw [← c3, c2]; exact unb_some HD16.out HNT.out))
                clear c1 c2 c3 hSF
                go_wp2_with fail
                refine (HRB.out _).mono ?_
                rintro e w7 ⟨rfl, hb7⟩
                have HS7 := hide (HS6.out.below hb7)
                clear hb7 HS6
                have hk3 : w7.cell? ⟨rp, 3, none⟩ = some (rX g 32) := (St.im_blk HS7.out).1 3
                have hul := upto_length (B := B) (by have := HBL.out; have := Hlt.out; omega)
                obtain ⟨sb, hsb⟩ : ∃ sb, (strs (upto B))[k]? = some sb := ⟨_, List.getElem?_eq_getElem (by rw [List.length_map, hul]; exact Hlt.out)⟩
                have hcg : w7.cell? ⟨g, k, none⟩ = some sb := (St.im_row HS7.out).1 k sb hsb
                have hfg := (St.im_row HS7.out).2.1 k
                have hs8 := (St.im_row HS7.out).2.2 k D (by rw [hul]; exact Hlt.out)
                rw [upto_snoc HBL.out Hlt.out] at hs8
                have HS8 := hide hs8
                clear hul hsb hs8 HS7
                go_wp2
                go_roundw
                case rel => exact ⟨k + 1, by have := Hlt.out; omega, by go_num, B ++ [D], HGO.out, by rw [List.length_append, HBL.out]; rfl, HS8.out⟩
                case measure => have := Hlt.out; simp [intOf]; omega
      · obtain rfl : k = 32 := by omega
        obtain ⟨B, hlod, hbl, hs⟩ := hB.out
        have HLO := hide hlod
        have HS9 := hide hs
        have HBL := hide hbl
        clear hB hlod hbl hs
        go_wp2
        go_ret2
        unfold LodR
        rw [HLO.out]
        have hu : upto B = B := by rw [upto, HBL.out]; simp
        have := HS9.out
        rw [hu] at this
        exact ⟨rp, g, 32, rfl, this⟩
theorem rOpen_any (h : St w0 Ts w) (ha : Ts[a]? = some (rdskT q S L)) (hS : 66 ≤ S.length) (hL : L.length ≤ 1000000) (hF : Full (all S L)) :
    Calls Tryz.prog 10 #[.pointer (some ⟨q, 0, none⟩)] w fun e w' => match opn (all S L) with
      | some i => RGood w0 Ts q i e w'
      | none => RBad w0 Ts 4 e w' := by
  by_cases h0 : (nw (all S L) 2).t = 0
  · have hz := nw_zero _ _ h0
    by_cases hf : fsh (all S L) 2 = true
    · rw [show opn (all S L) = some im0 by unfold opn cur; rw [if_pos (Or.inr hf), hz]; rfl]
      exact rOpen_fresh h ha hS hL hF hz hf
    · rw [show opn (all S L) = none by unfold opn cur; rw [if_neg (fun h1 => h1.elim (fun h2 => by omega) hf)]]
      exact rOpen_nohead h ha hS hL hF hz hf
  · obtain ⟨⟨t, m⟩, hz⟩ : ∃ x, nw (all S L) 2 = x := ⟨_, rfl⟩
    have hp : 1 ≤ t := by rw [hz] at h0; exact Nat.one_le_iff_ne_zero.2 h0
    have := rOpen_load h ha hS hL hF t m hz hp
    refine this.mono ?_
    intro e w' hl
    have hc : cur (all S L) = some ⟨t, m⟩ := by unfold cur; rw [if_pos (Or.inl (by rw [hz]; exact hp)), hz]
    unfold opn
    rw [hc]
    dsimp only
    rw [if_neg (show ¬ t = 0 by omega)]
    unfold LodR at hl
    cases ho : lod (all S L) t 32 with
    | none => rw [ho] at hl; exact hl
    | some B => rw [ho] at hl; exact hl
end

end Go.Proofs.YtnmpckhlpkmojaaGreatDoor.Im

/-
  The document's disk among other things, and the contracts of its image's Begin and Step (isobarref14). Nothing but the disk and the image's own struct is changed.
-/
namespace Go.Proofs.YtnmpckhlpkmojaaGreatDoor.Im
open Go.RowKit
open Pk hiding str str_data str_size str_of run_str head_str str_append
open Sm hiding run_str
open Fa Rc Dk Wn Lk
open Jn (NumN clampN zer zer_no)

/-! ### The document's disk -/
section
variable {w0 w : World} {Ts : List Thg} {a b r q rp t m k : Nat} {S : List Sec} {L : List Wr} {B : List ByteArray}
theorem St.rwr {i : Nat} {s : Sec} (h : St w0 Ts w) (ha : Ts[a]? = some (rdskT q S L)) (hi : i < S.length) (hs : s.length = 64) (hL : L.length ≤ 900000) (z : ByteArray) (hz : str s = z) :
    Calls Tryz.prog 26 #[.pointer (some ⟨q, 0, none⟩), .int .i64 i, .string z] w fun e w' => e = .returned (.int .i64 0) ∧ St w0 (Ts.set a (rdskT q S (L ++ [(i, s)]))) w' := by
  subst hz
  exact St.call h ha fun G hp _ => (RWrite_any w G q i S L (str s) hp hi (by rw [str_size]; exact hs) hL).mono fun _e _w' ⟨h1, h2⟩ => ⟨h1, h2⟩
theorem St.rwr_bad {i : Nat} {z : ByteArray} (h : St w0 Ts w) (ha : Ts[a]? = some (rdskT q S L)) (hi : i < S.length) (hs : z.size ≠ 64) :
    Calls Tryz.prog 26 #[.pointer (some ⟨q, 0, none⟩), .int .i64 i, .string z] w fun e w' => e = .returned (.int .i64 1) ∧ w = w' := by
  obtain ⟨G, hp, _⟩ := St.opened h ha
  obtain ⟨F, X, h1, h2, _⟩ := hp
  obtain ⟨A, c, rfl, _⟩ := row_form h2
  exact RWrite_bad q S.length c A X i z w h1 (by omega) (by omega) (by omega)
theorem St.rflush (h : St w0 Ts w) (ha : Ts[a]? = some (rdskT q S L)) (hL : L.length ≤ 1000000) :
    Calls Tryz.prog 42 #[.pointer (some ⟨q, 0, none⟩)] w fun e w' => e = .returned (.tuple #[]) ∧ St w0 (Ts.set a (rdskT q (all S L) [])) w' :=
  St.call h ha fun G hp _ => (RFlush_any w G q S L hp hL).mono fun _e _w' ⟨h1, h2⟩ => ⟨h1, h2⟩
theorem St.rcrash {K : Nat} (h : St w0 Ts w) (ha : Ts[a]? = some (rdskT q S L)) (hK : K < 18446744073709551616) (hL : L.length ≤ 1000000) :
    Calls Tryz.prog 20 #[.pointer (some ⟨q, 0, none⟩), .int .u64 K] w fun e w' => e = .returned (.tuple #[]) ∧ St w0 (Ts.set a (rdskT q (Dk.crash K 0 L S) [])) w' :=
  St.call h ha fun G hp _ => (RCrash_any w G q K S L hp hK hL).mono fun _e _w' ⟨h1, h2⟩ => ⟨h1, h2⟩
theorem St.rnew {n : Nat} (h : St w0 Ts w) (hn : n ≤ 1000) :
    Calls Tryz.prog 8 #[.int .i64 n] w fun e w' => ∃ q, e = .returned (.pointer (some ⟨q, 0, none⟩)) ∧ St w0 (Ts ++ [rdskT q (List.replicate n Dk.zero) []]) w' := by
  refine (RNew_any n w hn).mono ?_
  rintro e w' ⟨q, G, rfl, hd, hG, hb⟩
  exact ⟨q, rfl, h.add hb (T := rdskT q (List.replicate n Dk.zero) []) hd hG⟩

/-! ### The document's image, whose blocks may lie anywhere -/
abbrev rcv (q t m : Nat) (x : Value) : Array Value := #[.pointer (some ⟨q, 0, none⟩), .int .i64 (t : Int), .int .i64 (m : Int), x]
abbrev rimV (p q t m : Nat) (x : Value) : Thg := blkT p (rcv q t m x) 55
abbrev rowV (A : Option Addr) (c : Nat) (B : List ByteArray) : Thg := rowT 9 1 (.slice A 32 c) 32 (strs B)
theorem app_str : AppTy Tryz.prog 37 9 1 16 := AppTy.of Tryz.underlying37 (by kernel_rfl)
theorem St.rim {x : Value} (h : St w0 Ts w) (hb : Ts[b]? = some (rimV rp q t m x)) : w.cell? ⟨rp, 0, none⟩ = some (.pointer (some ⟨q, 0, none⟩)) ∧ w.cell? ⟨rp, 1, none⟩ = some (.int .i64 (t : Int)) ∧ w.cell? ⟨rp, 2, none⟩ = some (.int .i64 (m : Int)) ∧ w.cell? ⟨rp, 3, none⟩ = some x :=
  ⟨(St.blk h hb).1 0, (St.blk h hb).1 1, (St.blk h hb).1 2, (St.blk h hb).1 3⟩
/-- A block of a row is read. -/
theorem St.bat {A : Option Addr} {c : Nat} {d : ByteArray} (h : St w0 Ts w) (hr : Ts[r]? = some (rowV A c B)) (hd : B[k]? = some d) : ∃ g o, A = some ⟨g, o, none⟩ ∧ w.cell? ⟨g, o + k, none⟩ = some (.string d) := by
  have hv : (strs B)[k]? = some (.string d) := by rw [List.getElem?_map, hd]; rfl
  obtain ⟨g, o, e, _, hc⟩ := St.src h hr (by intro h0; rw [h0] at hv; cases hv)
  exact ⟨g, o, e, hc k _ hv⟩
set_option maxRecDepth 100000 in
set_option maxHeartbeats 4000000 in
theorem RBegin_any {A : Option Addr} {c : Nat} {x : Value} {i : Img} (h : St w0 Ts w) (hb : Ts[b]? = some (rimV rp q t m x)) (hr : Ts[r]? = some (rowV A c B)) (hB : B.length = 32) (mk : Int) (hi : i.m = m) :
    Calls Tryz.prog 12 #[.pointer (some ⟨rp, 0, none⟩), .slice A 32 c, .int .i64 mk] w fun e w' => e = .returned (.int .i64 (bgn i B mk)) ∧ w = w' := by
  obtain ⟨_, _, hk2, _⟩ := St.rim h hb
  obtain ⟨R, hR⟩ : ∃ R, bgn i B mk = R := ⟨_, rfl⟩
  rw [hR]
  have HR := hide hR
  have HST := hide h
  have HRW := hide hr
  have HB := hide hB
  have HI := hide hi
  clear h hb hr hB hR hi
  go_enter Tryz.func12, Tryz.ntmps12
  go_wp2
  go_loop [10] (fun j => ∃ k : Nat, k ≤ 32 ∧ j = .int .i64 k ∧ Hid (∀ n d, n < k → B[n]? = some d → d.size ≤ 16)) (fun j => 32 - (intOf j).toNat)
  case atStart => exact ⟨0, by omega, rfl, fun n d hn => absurd hn (Nat.not_lt_zero n)⟩
  case round =>
    obtain ⟨k, hk, rfl, hs⟩ := hrel
    rcases Nat.lt_or_ge k 32 with hlt | hge
    · have hki : (k : Int) < 32 := by omega
      obtain ⟨d, hd⟩ : ∃ d, B[k]? = some d := ⟨_, List.getElem?_eq_getElem (by rw [HB.out]; exact hlt)⟩
      obtain ⟨g, o, rfl, hc⟩ := St.bat HST.out HRW.out hd
      by_cases hl : 16 < d.size
      · have hli : (16 : Int) < (d.size : Int) := by omega
        have HE := hide (show R = 1 by rw [← HR.out]; exact if_pos (Or.inl ⟨d, List.mem_of_getElem? hd, hl⟩))
        clear hs hd hl hlt
        go_wp2
        go_ret
        exact ⟨by rw [HE.out]; rfl, rfl⟩
      · have hli : ¬ (16 : Int) < (d.size : Int) := by omega
        have HN := hide (show ∀ n e, n < k + 1 → B[n]? = some e → e.size ≤ 16 by
          intro n e hn he
          rcases Nat.lt_or_ge n k with h1 | h1
          · exact hs.out n e h1 he
          · obtain rfl : n = k := by omega
            rw [hd] at he
            cases he
            omega)
        clear hs hd hl
        go_wp2
        go_round
        case rel => exact ⟨k + 1, by omega, by go_num, HN.out⟩
        case measure => simp [intOf]; omega
    · obtain rfl : k = 32 := by omega
      have hno : ¬ ∃ d ∈ B, 16 < d.size := by
        rintro ⟨d, hd, hl⟩
        obtain ⟨n, hn⟩ := List.mem_iff_getElem?.1 hd
        have h1 := (List.getElem?_eq_some_iff.1 hn).1
        have h2 := hs.out n d (by rw [HB.out] at h1; exact h1) hn
        omega
      have HNO := hide hno
      clear hs hno
      by_cases h1 : 1152921504606846975 < mk
      · have HE := hide (show R = 1 by rw [← HR.out]; exact if_pos (Or.inr h1))
        go_wp2
        go_ret
        exact ⟨by rw [HE.out]; rfl, rfl⟩
      · by_cases h2 : mk ≤ (m : Int)
        · have HE := hide (show R = 10 by rw [← HR.out]; exact (if_neg (fun h => h.elim HNO.out h1)).trans (if_pos (by rw [HI.out]; exact h2)))
          go_wp2
          go_ret
          exact ⟨by rw [HE.out]; rfl, rfl⟩
        · have HE := hide (show R = 0 by rw [← HR.out]; exact (if_neg (fun h => h.elim HNO.out h1)).trans (if_neg (by rw [HI.out]; exact h2)))
          go_wp2
          go_ret
          exact ⟨by rw [HE.out]; rfl, rfl⟩
set_option maxRecDepth 100000 in
set_option maxHeartbeats 4000000 in
theorem RStep_flush {A : Option Addr} {c : Nat} {x : Value} (h : St w0 Ts w) (ha : Ts[a]? = some (rdskT q S L)) (hb : Ts[b]? = some (rimV rp q t m x)) (_hr : Ts[r]? = some (rowV A c B)) (ht : t ≤ 1000) (_h66 : S.length = 66) (hL : L.length ≤ 900000) (mk : Int) :
    Calls Tryz.prog 18 #[.pointer (some ⟨rp, 0, none⟩), .int .i64 32, .slice A 32 c, .int .i64 mk] w fun e w' => e = .returned (.bool false) ∧ St w0 (Ts.set a (rdskT q (all S L) [])) w' := by
  obtain ⟨hk0, hk1, hk2, hk3⟩ := St.rim h hb
  obtain ⟨u, hu⟩ : ∃ u, t + 1 = u := ⟨_, rfl⟩
  have ha1 : (t : Int) + 1 = (u : Int) := by omega
  have ha2 : IntKind.i64.wrap (u : Int) = (u : Int) := IntWalk.i64_in _ (by omega)
  have HF := hide (St.rflush h ha (by omega))
  clear h ha hb ht hL hu
  go_enter Tryz.func18, Tryz.ntmps18
  go_wp2_with fail
  refine HF.out.mono ?_
  rintro e w' ⟨rfl, hs⟩
  have HS := hide hs
  clear hs HF
  go_wp2
  go_ret
  exact ⟨rfl, HS.out⟩
set_option maxRecDepth 100000 in
set_option maxHeartbeats 4000000 in
theorem RStep_head {A : Option Addr} {c : Nat} {x : Value} (h : St w0 Ts w) (ha : Ts[a]? = some (rdskT q S L)) (hb : Ts[b]? = some (rimV rp q t m x)) (_hr : Ts[r]? = some (rowV A c B)) (ht : t ≤ 1000) (h66 : S.length = 66) (hL : L.length ≤ 900000) (hab : a ≠ b) (mk : Nat) :
    Calls Tryz.prog 18 #[.pointer (some ⟨rp, 0, none⟩), .int .i64 33, .slice A 32 c, .int .i64 (mk : Int)] w fun e w' => e = .returned (.bool false) ∧ St w0 (Ts.set a (rdskT q S (L ++ [((t + 1) % 2, hsec ⟨t + 1, mk⟩)]))) w' := by
  obtain ⟨hk0, hk1, hk2, hk3⟩ := St.rim h hb
  obtain ⟨u, hu⟩ : ∃ u, t + 1 = u := ⟨_, rfl⟩
  have ha1 : (t : Int) + 1 = (u : Int) := by omega
  have ha2 : IntKind.i64.wrap (u : Int) = (u : Int) := IntWalk.i64_in _ (by omega)
  have hrem : (u : Int).tmod 2 = ((u % 2 : Nat) : Int) := by rw [Int.tmod_eq_emod_of_nonneg (by omega)]; rfl
  have hwr : IntKind.i64.wrap ((u % 2 : Nat) : Int) = ((u % 2 : Nat) : Int) := IntWalk.i64_in _ (by omega)
  obtain ⟨r2, hr2⟩ : ∃ r2, u % 2 = r2 := ⟨_, rfl⟩
  have hrl : r2 < 2 := by omega
  rw [hr2] at hrem hwr
  obtain ⟨Z, hZ⟩ : ∃ Z, str (hsec ⟨u, mk⟩) = Z := ⟨_, rfl⟩
  have HH := hide (fun W => rhead_any u mk W Z hZ)
  have HZ := hide hZ
  have HBJ := hide (show (Ts.set a (rdskT q S (L ++ [(r2, hsec ⟨u, mk⟩)])))[b]? = some (rimV rp q t m x) by rw [List.getElem?_set_ne hab]; exact hb)
  have HST := hide h
  have HAI := hide ha
  have HBI := hide hb
  have H66 := hide h66
  have HL := hide hL
  have HU := hide hu
  have HRL := hide hrl
  have HR2 := hide hr2
  clear h ha hb ht h66 hL hu hrl hr2 hZ hab
  go_enter Tryz.func18, Tryz.ntmps18
  go_wp2_with fail
  refine wp_region_held (S := (fun W => W.cell? ⟨rp, 0, none⟩ = some (.pointer (some ⟨q, 0, none⟩)))) (by kernel_rfl) ?_
  change wpAnyH _ _ _ _ _ _ _ _ (World.drew _)
  refine wpAnyH_take (i := 0) (oi := ⟨some 43, _, _, _, _, _⟩) (v := ?_) rfl (by kernel_rfl) (by kernel_rfl) (by kernel_rfl) (fun _ _ _ h => h) (Or.inl ⟨by rfl, ?_⟩) hk0 ?_
  rotate_left 1
  · (intro w hSw; have hSw1 := hSw; go_simp; try with_reducible rfl)
  simp only [Act.put, List.setIfInBounds_toArray, List.set_cons_zero, List.set_cons_succ]
  refine wpAnyH_take (i := 1) (oi := ⟨some 44, _, _, _, _, _⟩) (v := ?_) rfl (by kernel_rfl) (by kernel_rfl) (by kernel_rfl) (fun _ _ _ h => h) (Or.inl ⟨by rfl, ?_⟩) hk0 ?_
  rotate_left 1
  · (intro w hSw; have hSw1 := hSw; go_simp; try with_reducible rfl)
  simp only [Act.put, List.setIfInBounds_toArray, List.set_cons_zero, List.set_cons_succ]
  refine wpAnyH_take (i := 2) (oi := ⟨some 45, _, _, _, _, _⟩) (v := ?_) rfl (by kernel_rfl) (by kernel_rfl) (by kernel_rfl) (fun _ _ _ h => h) (Or.inl ⟨by rfl, ?_⟩) hk0 ?_
  rotate_left 1
  · (intro w hSw; have hSw1 := hSw; go_simp; try with_reducible rfl)
  simp only [Act.put, List.setIfInBounds_toArray, List.set_cons_zero, List.set_cons_succ]
  refine wpAnyH_take (i := 3) (oi := ⟨some 46, _, _, _, _, _⟩) (v := ?_) rfl (by kernel_rfl) (by kernel_rfl) (by kernel_rfl) (fun _ _ _ h => h) (Or.inl ⟨by rfl, ?_⟩) hk0 ?_
  rotate_left 1
  · (intro w hSw; have hSw1 := hSw; go_simp; try with_reducible rfl)
  simp only [Act.put, List.setIfInBounds_toArray, List.set_cons_zero, List.set_cons_succ]
  refine wpAnyH_take (i := 4) (oi := ⟨some 47, _, _, _, _, _⟩) (v := ?_) rfl (by kernel_rfl) (by kernel_rfl) (by kernel_rfl) (fun _ _ _ h => h) (Or.inl ⟨by rfl, ?_⟩) hk0 ?_
  rotate_left 1
  · (intro w hSw; have hSw1 := hSw; go_simp; try with_reducible rfl)
  simp only [Act.put, List.setIfInBounds_toArray, List.set_cons_zero, List.set_cons_succ]
  refine wpAnyH_take (i := 5) (oi := ⟨some 48, _, _, _, _, _⟩) (v := ?_) rfl (by kernel_rfl) (by kernel_rfl) (by kernel_rfl) (fun _ _ _ h => h) (Or.inl ⟨by rfl, ?_⟩) hk0 ?_
  rotate_left 1
  · (intro w hSw; have hSw1 := hSw; go_simp; try with_reducible rfl)
  simp only [Act.put, List.setIfInBounds_toArray, List.set_cons_zero, List.set_cons_succ]
  refine wpAnyH_take (i := 6) (oi := ⟨some 49, _, _, _, _, _⟩) (v := ?_) rfl (by kernel_rfl) (by kernel_rfl) (by kernel_rfl) (fun _ _ _ h => h) (Or.inl ⟨by rfl, ?_⟩) hk0 ?_
  rotate_left 1
  · (intro w hSw; have hSw1 := hSw; go_simp; try with_reducible rfl)
  simp only [Act.put, List.setIfInBounds_toArray, List.set_cons_zero, List.set_cons_succ]
  refine wpAnyH_take (i := 7) (oi := ⟨some 50, _, _, _, _, _⟩) (v := ?_) rfl (by kernel_rfl) (by kernel_rfl) (by kernel_rfl) (fun _ _ _ h => h) (Or.inl ⟨by rfl, ?_⟩) hk0 ?_
  rotate_left 1
  · (intro w hSw; have hSw1 := hSw; go_simp; try with_reducible rfl)
  simp only [Act.put, List.setIfInBounds_toArray, List.set_cons_zero, List.set_cons_succ]
  refine wpAnyH_ready (rs := [8]) (by kernel_rfl) (by simp) ?_
  refine AllReadyH.cons (o := ⟨some 51, _, _, _, _, _⟩) rfl (fun K hK => ?_) AllReadyH.nil
  go_simp
  refine (HH.out _).mono ?_
  rintro e w5 ⟨rfl, hb5⟩
  have HS5 := hide (HST.out.drew.below hb5)
  have hS5 := (St.rim HS5.out HBI.out).1
  clear hb5
  refine hK.out _ _ hS5 (fun hHeld => ?_)
  clear hK K
  clear hHeld
  refine wpAnyH_ready (rs := [9]) (by kernel_rfl) (by simp) ?_
  refine AllReadyH.cons (o := ⟨some 52, _, _, _, _, _⟩) rfl (fun K hK => ?_) AllReadyH.nil
  go_simp
  refine (St.rwr HS5.out HAI.out (i := r2) (by have := H66.out; have := HRL.out; omega) (hsec_length ⟨u, mk⟩) HL.out Z HZ.out).mono ?_
  rintro e w6 ⟨rfl, hs6⟩
  have HS6 := hide hs6
  have hS6 := (St.rim HS6.out HBJ.out).1
  clear hs6
  refine hK.out _ _ hS6 (fun hHeld => ?_)
  clear hK K
  clear hHeld
  refine wpAnyH_done (by kernel_rfl) ?_ _
  skip
  clear hS5 hS6
  go_wp2
  go_ret
  refine ⟨rfl, ?_⟩
  have e1 := HU.out
  have e2 := HR2.out
  subst e1
  subst e2
  exact HS6.out
theorem rheld {g o c : Nat} {x : Value} {d : ByteArray} (h : St w0 Ts w) (hb : Ts[b]? = some (rimV rp q t m x)) (hr : Ts[r]? = some (rowV (some ⟨g, o, none⟩) c B)) (hd : B[k]? = some d) : w.cell? ⟨rp, 0, none⟩ = some (.pointer (some ⟨q, 0, none⟩)) ∧ w.cell? ⟨g, o + k, none⟩ = some (.string d) := by
  obtain ⟨g', o', e, hc⟩ := St.bat h hr hd
  cases e
  exact ⟨(St.rim h hb).1, hc⟩
set_option maxRecDepth 100000 in
set_option maxHeartbeats 4000000 in
theorem RStep_block {A : Option Addr} {c : Nat} {x : Value} (h : St w0 Ts w) (ha : Ts[a]? = some (rdskT q S L)) (hb : Ts[b]? = some (rimV rp q t m x)) (hr : Ts[r]? = some (rowV A c B)) (ht : t ≤ 1000) (h66 : S.length = 66) (hL : L.length ≤ 900000) (hab : a ≠ b) (har : a ≠ r) (mk : Int) (hk : k < 32) {d : ByteArray} (hd : B[k]? = some d) (hd16 : d.size ≤ 16) :
    Calls Tryz.prog 18 #[.pointer (some ⟨rp, 0, none⟩), .int .i64 (k : Int), .slice A 32 c, .int .i64 mk] w fun e w' => e = .returned (.bool false) ∧ St w0 (Ts.set a (rdskT q S (L ++ [(at2 (t + 1) k, bsec (t + 1) d)]))) w' := by
  obtain ⟨hk0, hk1, hk2, hk3⟩ := St.rim h hb
  obtain ⟨u, hu⟩ : ∃ u, t + 1 = u := ⟨_, rfl⟩
  have ha1 : (t : Int) + 1 = (u : Int) := by omega
  have ha2 : IntKind.i64.wrap (u : Int) = (u : Int) := IntWalk.i64_in _ (by omega)
  have hrem : (u : Int).tmod 2 = ((u % 2 : Nat) : Int) := by rw [Int.tmod_eq_emod_of_nonneg (by omega)]; rfl
  have hwr : IntKind.i64.wrap ((u % 2 : Nat) : Int) = ((u % 2 : Nat) : Int) := IntWalk.i64_in _ (by omega)
  obtain ⟨r2, hr2⟩ : ∃ r2, u % 2 = r2 := ⟨_, rfl⟩
  have hrl : r2 < 2 := by omega
  rw [hr2] at hrem hwr
  obtain ⟨c1, hc1⟩ : ∃ c1, 32 * r2 = c1 := ⟨_, rfl⟩
  have hm1 : (32 : Int) * (r2 : Int) = (c1 : Int) := by omega
  have hm2 : IntKind.i64.wrap (c1 : Int) = (c1 : Int) := IntWalk.i64_in _ (by omega)
  obtain ⟨c2, hc2⟩ : ∃ c2, 2 + c1 = c2 := ⟨_, rfl⟩
  have hm3 : (2 : Int) + (c1 : Int) = (c2 : Int) := by omega
  have hm4 : IntKind.i64.wrap (c2 : Int) = (c2 : Int) := IntWalk.i64_in _ (by omega)
  obtain ⟨c3, hc3⟩ : ∃ c3, c2 + k = c3 := ⟨_, rfl⟩
  have hm5 : (c2 : Int) + (k : Int) = (c3 : Int) := by omega
  have hm6 : IntKind.i64.wrap (c3 : Int) = (c3 : Int) := IntWalk.i64_in _ (by omega)
  have hki : (k : Int) < 32 := by omega
  have HC3 := hide (show c3 < 66 by omega)
  have HAT := hide (show at2 u k = c3 by show 2 + u % 2 * 32 + k = c3; omega)
  obtain ⟨Z, hZ⟩ : ∃ Z, str (bsec u d) = Z := ⟨_, rfl⟩
  have HH := hide (fun W => rblock_any u d hd16 W Z hZ)
  have HZ := hide hZ
  have HBJ := hide (show (Ts.set a (rdskT q S (L ++ [(c3, bsec u d)])))[b]? = some (rimV rp q t m x) by rw [List.getElem?_set_ne hab]; exact hb)
  have HRJ := hide (show (Ts.set a (rdskT q S (L ++ [(c3, bsec u d)])))[r]? = some (rowV A c B) by rw [List.getElem?_set_ne har]; exact hr)
  have HRW := hide hr
  obtain ⟨g, o, rfl, hcd⟩ := St.bat h hr hd
  have HD := hide hd
  have HD16 := hide hd16
  have HST := hide h
  have HAI := hide ha
  have HBI := hide hb
  have H66 := hide h66
  have HL := hide hL
  have HU := hide hu
  have HRL := hide hrl
  have HR2 := hide hr2
  have hS4 := rheld h.drew hb hr hd
  clear h ha hb hr ht h66 hL hu hrl hr2 hZ hab har hd hd16 hc1 hc2 hc3 hk
  go_enter Tryz.func18, Tryz.ntmps18
  go_wp2_with fail
  refine wp_region_held (S := (fun W => W.cell? ⟨rp, 0, none⟩ = some (.pointer (some ⟨q, 0, none⟩)) ∧ W.cell? ⟨g, o + k, none⟩ = some (.string d))) (by kernel_rfl) ?_
  change wpAnyH _ _ _ _ _ _ _ _ (World.drew _)
  refine wpAnyH_take (i := 0) (oi := ⟨some 17, _, _, _, _, _⟩) (v := ?_) rfl (by kernel_rfl) (by kernel_rfl) (by kernel_rfl) (fun _ _ _ h => h) (Or.inl ⟨by rfl, ?_⟩) hS4 ?_
  rotate_left 1
  · (intro w hSw; obtain ⟨hSw1, hSw2⟩ := hSw; go_simp; try with_reducible rfl)
  simp only [Act.put, List.setIfInBounds_toArray, List.set_cons_zero, List.set_cons_succ]
  refine wpAnyH_take (i := 1) (oi := ⟨some 18, _, _, _, _, _⟩) (v := ?_) rfl (by kernel_rfl) (by kernel_rfl) (by kernel_rfl) (fun _ _ _ h => h) (Or.inl ⟨by rfl, ?_⟩) hS4 ?_
  rotate_left 1
  · (intro w hSw; obtain ⟨hSw1, hSw2⟩ := hSw; go_simp; try with_reducible rfl)
  simp only [Act.put, List.setIfInBounds_toArray, List.set_cons_zero, List.set_cons_succ]
  refine wpAnyH_take (i := 2) (oi := ⟨some 19, _, _, _, _, _⟩) (v := ?_) rfl (by kernel_rfl) (by kernel_rfl) (by kernel_rfl) (fun _ _ _ h => h) (Or.inl ⟨by rfl, ?_⟩) hS4 ?_
  rotate_left 1
  · (intro w hSw; obtain ⟨hSw1, hSw2⟩ := hSw; go_simp; try with_reducible rfl)
  simp only [Act.put, List.setIfInBounds_toArray, List.set_cons_zero, List.set_cons_succ]
  refine wpAnyH_take (i := 3) (oi := ⟨some 20, _, _, _, _, _⟩) (v := ?_) rfl (by kernel_rfl) (by kernel_rfl) (by kernel_rfl) (fun _ _ _ h => h) (Or.inl ⟨by rfl, ?_⟩) hS4 ?_
  rotate_left 1
  · (intro w hSw; obtain ⟨hSw1, hSw2⟩ := hSw; go_simp; try with_reducible rfl)
  simp only [Act.put, List.setIfInBounds_toArray, List.set_cons_zero, List.set_cons_succ]
  refine wpAnyH_take (i := 4) (oi := ⟨some 21, _, _, _, _, _⟩) (v := ?_) rfl (by kernel_rfl) (by kernel_rfl) (by kernel_rfl) (fun _ _ _ h => h) (Or.inl ⟨by rfl, ?_⟩) hS4 ?_
  rotate_left 1
  · (intro w hSw; obtain ⟨hSw1, hSw2⟩ := hSw; go_simp; try with_reducible rfl)
  simp only [Act.put, List.setIfInBounds_toArray, List.set_cons_zero, List.set_cons_succ]
  refine wpAnyH_take (i := 5) (oi := ⟨some 22, _, _, _, _, _⟩) (v := ?_) rfl (by kernel_rfl) (by kernel_rfl) (by kernel_rfl) (fun _ _ _ h => h) (Or.inl ⟨by rfl, ?_⟩) hS4 ?_
  rotate_left 1
  · (intro w hSw; obtain ⟨hSw1, hSw2⟩ := hSw; go_simp; try with_reducible rfl)
  simp only [Act.put, List.setIfInBounds_toArray, List.set_cons_zero, List.set_cons_succ]
  refine wpAnyH_take (i := 6) (oi := ⟨some 23, _, _, _, _, _⟩) (v := ?_) rfl (by kernel_rfl) (by kernel_rfl) (by kernel_rfl) (fun _ _ _ h => h) (Or.inl ⟨by rfl, ?_⟩) hS4 ?_
  rotate_left 1
  · (intro w hSw; obtain ⟨hSw1, hSw2⟩ := hSw; go_simp; try with_reducible rfl)
  simp only [Act.put, List.setIfInBounds_toArray, List.set_cons_zero, List.set_cons_succ]
  refine wpAnyH_take (i := 7) (oi := ⟨some 24, _, _, _, _, _⟩) (v := ?_) rfl (by kernel_rfl) (by kernel_rfl) (by kernel_rfl) (fun _ _ _ h => h) (Or.inl ⟨by rfl, ?_⟩) hS4 ?_
  rotate_left 1
  · (intro w hSw; obtain ⟨hSw1, hSw2⟩ := hSw; go_simp; try with_reducible rfl)
  simp only [Act.put, List.setIfInBounds_toArray, List.set_cons_zero, List.set_cons_succ]
  refine wpAnyH_take (i := 8) (oi := ⟨some 25, _, _, _, _, _⟩) (v := ?_) rfl (by kernel_rfl) (by kernel_rfl) (by kernel_rfl) (fun _ _ _ h => h) (Or.inl ⟨by rfl, ?_⟩) hS4 ?_
  rotate_left 1
  · (intro w hSw; obtain ⟨hSw1, hSw2⟩ := hSw; go_simp; try with_reducible rfl)
  simp only [Act.put, List.setIfInBounds_toArray, List.set_cons_zero, List.set_cons_succ]
  refine wpAnyH_take (i := 9) (oi := ⟨some 26, _, _, _, _, _⟩) (v := ?_) rfl (by kernel_rfl) (by kernel_rfl) (by kernel_rfl) (fun _ _ _ h => h) (Or.inl ⟨by rfl, ?_⟩) hS4 ?_
  rotate_left 1
  · (intro w hSw; obtain ⟨hSw1, hSw2⟩ := hSw; go_simp; try with_reducible rfl)
  simp only [Act.put, List.setIfInBounds_toArray, List.set_cons_zero, List.set_cons_succ]
  refine wpAnyH_take (i := 10) (oi := ⟨some 27, _, _, _, _, _⟩) (v := ?_) rfl (by kernel_rfl) (by kernel_rfl) (by kernel_rfl) (fun _ _ _ h => h) (Or.inl ⟨by rfl, ?_⟩) hS4 ?_
  rotate_left 1
  · (intro w hSw; obtain ⟨hSw1, hSw2⟩ := hSw; go_simp; try with_reducible rfl)
  simp only [Act.put, List.setIfInBounds_toArray, List.set_cons_zero, List.set_cons_succ]
  refine wpAnyH_take (i := 11) (oi := ⟨some 28, _, _, _, _, _⟩) (v := ?_) rfl (by kernel_rfl) (by kernel_rfl) (by kernel_rfl) (fun _ _ _ h => h) (Or.inl ⟨by rfl, ?_⟩) hS4 ?_
  rotate_left 1
  · (intro w hSw; obtain ⟨hSw1, hSw2⟩ := hSw; go_simp; try with_reducible rfl)
  simp only [Act.put, List.setIfInBounds_toArray, List.set_cons_zero, List.set_cons_succ]
  refine wpAnyH_take (i := 12) (oi := ⟨some 29, _, _, _, _, _⟩) (v := ?_) rfl (by kernel_rfl) (by kernel_rfl) (by kernel_rfl) (fun _ _ _ h => h) (Or.inl ⟨by rfl, ?_⟩) hS4 ?_
  rotate_left 1
  · (intro w hSw; obtain ⟨hSw1, hSw2⟩ := hSw; go_simp; try with_reducible rfl)
  simp only [Act.put, List.setIfInBounds_toArray, List.set_cons_zero, List.set_cons_succ]
  refine wpAnyH_take (i := 13) (oi := ⟨some 30, _, _, _, _, _⟩) (v := ?_) rfl (by kernel_rfl) (by kernel_rfl) (by kernel_rfl) (fun _ _ _ h => h) (Or.inl ⟨by rfl, ?_⟩) hS4 ?_
  rotate_left 1
  · (intro w hSw; obtain ⟨hSw1, hSw2⟩ := hSw; go_simp; try with_reducible rfl)
  simp only [Act.put, List.setIfInBounds_toArray, List.set_cons_zero, List.set_cons_succ]
  refine wpAnyH_take (i := 14) (oi := ⟨some 31, _, _, _, _, _⟩) (v := ?_) rfl (by kernel_rfl) (by kernel_rfl) (by kernel_rfl) (fun _ _ _ h => h) (Or.inl ⟨by rfl, ?_⟩) hS4 ?_
  rotate_left 1
  · (intro w hSw; obtain ⟨hSw1, hSw2⟩ := hSw; go_simp; try with_reducible rfl)
  simp only [Act.put, List.setIfInBounds_toArray, List.set_cons_zero, List.set_cons_succ]
  refine wpAnyH_ready (rs := [15]) (by kernel_rfl) (by simp) ?_
  refine AllReadyH.cons (o := ⟨some 32, _, _, _, _, _⟩) rfl (fun K hK => ?_) AllReadyH.nil
  go_simp
  refine (HH.out _).mono ?_
  rintro e w5 ⟨rfl, hb5⟩
  have HS5 := hide (HST.out.drew.below hb5)
  have hS5 := rheld HS5.out HBI.out HRW.out HD.out
  clear hb5
  refine hK.out _ _ hS5 (fun hHeld => ?_)
  clear hK K
  clear hHeld
  refine wpAnyH_ready (rs := [16]) (by kernel_rfl) (by simp) ?_
  refine AllReadyH.cons (o := ⟨some 33, _, _, _, _, _⟩) rfl (fun K hK => ?_) AllReadyH.nil
  go_simp
  refine (St.rwr HS5.out HAI.out (i := c3) (by have := H66.out; have := HC3.out; omega) (bsec_length u HD16.out) HL.out Z HZ.out).mono ?_
  rintro e w6 ⟨rfl, hs6⟩
  have HS6 := hide hs6
  have hS6 := rheld HS6.out HBJ.out HRJ.out HD.out
  clear hs6
  refine hK.out _ _ hS6 (fun hHeld => ?_)
  clear hK K
  clear hHeld
  refine wpAnyH_done (by kernel_rfl) ?_ _
  skip
  clear hS4 hS5 hS6
  go_wp2
  go_ret
  refine ⟨rfl, ?_⟩
  have e1 := HU.out
  have e2 := HAT.out
  subst e1
  rw [e2]
  exact HS6.out
set_option maxRecDepth 100000 in
set_option maxHeartbeats 4000000 in
theorem RStep_last {A : Option Addr} {c : Nat} {x : Value} (h : St w0 Ts w) (ha : Ts[a]? = some (rdskT q S L)) (hb : Ts[b]? = some (rimV rp q t m x)) (hr : Ts[r]? = some (rowV A c B)) (ht : t ≤ 1000) (_h66 : S.length = 66) (hL : L.length ≤ 900000) (hab : a ≠ b) (har : a ≠ r) (hB : B.length = 32) (mk : Nat) :
    Calls Tryz.prog 18 #[.pointer (some ⟨rp, 0, none⟩), .int .i64 34, .slice A 32 c, .int .i64 (mk : Int)] w fun e w' => e = .returned (.bool true) ∧ ∃ A' c', St w0 ((Ts.set a (rdskT q (all S L) [])).set b (rimV rp q (t + 1) mk (.slice A' 32 c')) ++ [rowV A' c' B]) w' := by
  obtain ⟨hk0, hk1, hk2, hk3⟩ := St.rim h hb
  obtain ⟨u, hu⟩ : ∃ u, t + 1 = u := ⟨_, rfl⟩
  have ha1 : (t : Int) + 1 = (u : Int) := by omega
  have ha2 : IntKind.i64.wrap (u : Int) = (u : Int) := IntWalk.i64_in _ (by omega)
  have HF := hide (St.rflush h ha (by omega))
  have HBJ := hide (show (Ts.set a (rdskT q (all S L) []))[b]? = some (rimV rp q t m x) by rw [List.getElem?_set_ne hab]; exact hb)
  have HRJ := hide (show (Ts.set a (rdskT q (all S L) []))[r]? = some (rowV A c B) by rw [List.getElem?_set_ne har]; exact hr)
  have HU := hide hu
  have Hl := hide (show (strs B).length = 32 * 1 by rw [List.length_map]; exact hB)
  have Hm1 := hide (show 0 + 32 ≤ maxLen by unfold maxLen; omega)
  have Hm2 := hide (show (0 + 32) * 16 ≤ 140737488355328 by omega)
  have HLT := hide (show b < (Ts.set a (rdskT q (all S L) [])).length by rw [List.length_set]; exact (List.getElem?_eq_some_iff.1 hb).1)
  clear h ha hb hr hL hu hab har
  go_enter Tryz.func18, Tryz.ntmps18
  go_wp2_with fail
  refine HF.out.mono ?_
  rintro e w1 ⟨rfl, hs1⟩
  have HS1 := hide hs1
  have HBW := hide (show Below w1.heap.size w1 (w1.alloc (.cells #[] 9)) from (Below.refl _ _).alloc (Nat.le_refl _) _)
  have HO := hide (show ORow (w1.alloc (.cells #[] 9)) 9 1 (.slice (some ⟨w1.heap.size, 0, none⟩) 0 0) 0 [] from ⟨rfl, Or.inr ⟨w1.heap.size, 0, 0, #[], rfl, heap_alloc_new w1 _, Nat.le_refl _, Nat.zero_le _, by simp, by simp⟩⟩)
  have HM := hide (St.src (HS1.out.below HBW.out) HRJ.out)
  clear hs1 HF hk0 hk1 hk2 hk3
  go_wp2_with (at_builtin; go_must (refine wpList_app app_str rfl (.tmp 63) (.tmp 64) rfl (.slice (some ⟨w1.heap.size, 0, none⟩) 0 0) 0 [] rfl HO.out A 32 c (strs B) rfl Hl.out HM.out (strs_one _) (by decide) Hm1.out Hm2.out ?_))
  intro v w2 hg
  obtain ⟨hb2, hown⟩ := Grown.new hg.out HBW.out fun k hk => by
    have : w1.heap.size = k := by simpa [Value.ownBlock] using hk
    exact Nat.le_of_eq this
  have hrow := hg.out.row
  obtain ⟨A2, c2, rfl, _, _, _⟩ := hrow.form
  have hs2 : St w0 (Ts.set a (rdskT q (all S L) []) ++ [rowV A2 c2 B]) w2 := HS1.out.add hb2 (T := rowV A2 c2 B) (G := fun k => (Value.slice A2 (0 + 32) c2).ownBlock = some k) ⟨hrow, fun k hk => hk, fun k hk => hrow.lt k hk⟩ hown
  have HS2 := hide hs2
  have hbj : (Ts.set a (rdskT q (all S L) []) ++ [rowV A2 c2 B])[b]? = some (rimV rp q t m x) := by rw [List.getElem?_append_left HLT.out]; exact HBJ.out
  obtain ⟨ck, fk, _, _⟩ := St.blk hs2 hbj
  have hk1 : w2.cell? ⟨rp, 1, none⟩ = some (.int .i64 (t : Int)) := ck 1
  have hk2 : w2.cell? ⟨rp, 2, none⟩ = some (.int .i64 (m : Int)) := ck 2
  have hk3 : w2.cell? ⟨rp, 3, none⟩ = some x := ck 3
  have hf1 := fk 1
  have hf2 := fk 2
  have hf3 := fk 3
  have hs3 := (St.blk hs2 hbj).2.2.2 1 (.int .i64 (u : Int))
  have hs4 := (St.blk hs3 (List.getElem?_set_self (by rw [List.length_append]; exact Nat.lt_of_lt_of_le HLT.out (Nat.le_add_right _ _)))).2.2.2 2 (.int .i64 (mk : Int))
  have hs5 := (St.blk hs4 (List.getElem?_set_self (by rw [List.length_set, List.length_append]; exact Nat.lt_of_lt_of_le HLT.out (Nat.le_add_right _ _)))).2.2.2 3 (.slice A2 32 c2)
  rw [List.set_set, List.set_set, List.set_append_left _ _ HLT.out] at hs5
  have HS5 := hide hs5
  clear hg hb2 hown hrow hs2 hbj ck fk hs3 hs4 hs5 HS2 HS1 HO HM HBW
  go_wp2
  go_ret
  refine ⟨rfl, A2, c2, ?_⟩
  have e1 := HU.out
  subst e1
  exact HS5.out
end

end Go.Proofs.YtnmpckhlpkmojaaGreatDoor.Im

/-
  The contracts of the statements' flat, and of the reference's Same at two rows of the same blocks. Nothing that was there is changed.
-/
namespace Go.Proofs.YtnmpckhlpkmojaaGreatDoor.Im
open Go.RowKit
open Pk Sm Fa Rc Dk Wn Lk
open Jn (NumN clampN zer zer_no)

/-- The first n blocks, as a row that lies behind a world's blocks. -/
structure FlatAt (w1 w : World) (v : Value) (B : List ByteArray) (n : Nat) : Prop where
  row : ORow w 9 1 v n (strs (B.take n))
  own : ∀ k, v.ownBlock = some k → w1.heap.size ≤ k
  bel : Below w1.heap.size w1 w
theorem FlatAt.next {w1 wr w5 : World} {v v' : Value} {B : List ByteArray} {n : Nat} {d : ByteArray} (h : FlatAt w1 wr v B n) (hd : B[n]? = some d) {cs : Obj} (hg : Grown (wr.alloc cs) 9 1 v (n + 1) (strs (B.take n) ++ [.string d]) v' w5) : FlatAt w1 w5 v' B (n + 1) := by
  obtain ⟨h1, h2⟩ := Grown.new (w := w1) hg (h.bel.trans (((Below.refl wr.heap.size wr).alloc (Nat.le_refl _) cs).mono h.bel.size)) h.own
  refine ⟨?_, h2, h1⟩
  have := hg.row
  rw [List.take_add_one, hd]
  rw [strs, List.map_append]
  exact this
theorem made_str (w : World) (d : ByteArray) : Src (w.alloc (.cells #[.string d] 9)) (some ⟨w.heap.size, 0, none⟩) [.string d] := fun _ => ⟨w.heap.size, 0, rfl, by simp, fun j u hu => by
  rw [Nat.zero_add, cell_of_row _ _ j _ _ _ (heap_alloc_new _ _), ← Array.getElem?_toList]
  exact hu⟩
set_option maxRecDepth 100000 in
set_option maxHeartbeats 4000000 in
theorem flat_any (B : List ByteArray) (hB : B.length = 32) (w : World) :
    Calls Tryz.prog 13 #[bval B] w fun e w' => ∃ A c, e = .returned (.slice A 32 c) ∧ ORow w' 9 1 (.slice A 32 c) 32 (strs B) ∧ (∀ k, (Value.slice A 32 c).ownBlock = some k → w.heap.size ≤ k) ∧ Below w.heap.size w w' := by
  have HB := hide hB
  have Hm1 := hide (show 32 ≤ maxLen by unfold maxLen; omega)
  obtain ⟨w1, hw1⟩ : ∃ w1, w1 = w.alloc (.cells (strs B).toArray 43) := ⟨_, rfl⟩
  have hl1 : Lies w1 w.heap.size B := by rw [hw1]; exact heap_alloc_new w _
  have HL := hide hl1
  have HB1 := hide (show Below w.heap.size w w1 by rw [hw1]; exact (Below.refl _ _).alloc (Nat.le_refl _) _)
  have HP := hide (show w.heap.size < w1.heap.size from hl1.lt)
  clear hB hl1
  go_enter Tryz.func13, Tryz.ntmps13
  go_wp2_with (with_reducible refine wpList_box_told rfl 43 _ rfl _ rfl ?_)
  intro w2 H2
  obtain rfl : w2 = w1 := by rw [H2.out, hw1]
  clear H2 hw1
  go_wp2
  go_loopw [3, 6] (fun v j wr => ∃ i : Nat, i ≤ 4 ∧ j = .int .i64 i ∧ Hid (FlatAt w2 wr v B (i * 8))) (fun _ j _ => 4 - (intOf j).toNat)
  case atStart => exact ⟨0, by omega, rfl, ⟨ORow.nil _ _ _, fun k hk => by simp [Value.ownBlock] at hk, Below.refl _ _⟩⟩
  case round =>
    obtain ⟨i, hi, rfl, hf⟩ := hrel
    rcases Nat.lt_or_ge i 4 with hlt | hge
    · have hii : (i : Int) < 4 := by omega
      have HF := hf
      have Hlt := hide hlt
      clear hf hlt
      go_wp2
      go_loopw [3, 9] (fun v j wr => ∃ k : Nat, k ≤ 8 ∧ j = .int .i64 k ∧ Hid (FlatAt w2 wr v B (i * 8 + k))) (fun _ j _ => 8 - (intOf j).toNat)
      case atStart => exact ⟨0, by omega, rfl, HF.out⟩
      case round =>
        clear HF
        obtain ⟨k, hk, rfl, hf⟩ := hrel
        rcases Nat.lt_or_ge k 8 with hlt | hge
        · have hki : (k : Int) < 8 := by omega
          obtain ⟨d, hd⟩ : ∃ d, B[i * 8 + k]? = some d := ⟨_, List.getElem?_eq_getElem (by rw [HB.out]; have := Hlt.out; omega)⟩
          have hcd : wr.cell? ⟨w.heap.size, i * 8 + k, none⟩ = some (.string d) := (HL.out.below hf.out.bel).cell hd
          obtain ⟨A, c, rfl, _, _, _⟩ := hf.out.row.form
          have HO := hide (hf.out.row.below (show Below wr.heap.size wr (wr.alloc (.cells #[.string d] 9)) from (Below.refl _ _).alloc (Nat.le_refl _) _))
          have HM := hide (made_str wr d)
          have HF := hf
          have HD := hide hd
          have Hm2 := hide (show i * 8 + k + 1 ≤ maxLen by have := Hlt.out; unfold maxLen; omega)
          have Hm3 := hide (show (i * 8 + k + 1) * 16 ≤ 140737488355328 by have := Hlt.out; omega)
          have Hk := hide hlt
          have Hll := hide (show (strs (B.take (i * 8 + k))).length = i * 8 + k by rw [List.length_map, List.length_take, HB.out]; have := Hlt.out; omega)
          clear hf hd hlt
          go_wp2_with (at_builtin; go_must (refine wpList_app app_str rfl (.tmp 12) (.tmp 18) rfl (.slice A (i * 8 + k) c) (i * 8 + k) (strs (B.take (i * 8 + k))) rfl HO.out _ 1 1 [.string d] rfl rfl HM.out (by simp [Value.oneCell']) (by decide) Hm2.out Hm3.out ?_))
          intro v5 w5 hg
          have HN := hide (HF.out.next HD.out (by have := hg.out; rw [← List.map_take] at this; exact this))
          clear hg HF HO HM hcd HD
          go_wp2
          go_roundw
          case rel => exact ⟨k + 1, by have := Hk.out; omega, by go_num, HN.out⟩
          case measure => have := Hk.out; simp [intOf]; omega
        · obtain rfl : k = 8 := by omega
          have HN := hide (show FlatAt w2 wr _ B ((i + 1) * 8) by rw [show (i + 1) * 8 = i * 8 + 8 by omega]; exact hf.out)
          clear hf
          go_wp2
          go_roundw
          case rel => exact ⟨i + 1, by have := Hlt.out; omega, by go_num, HN.out⟩
          case measure => have := Hlt.out; simp [intOf]; omega
    · obtain rfl : i = 4 := by omega
      have hf' := hf.out
      rw [show 4 * 8 = 32 by rfl] at hf'
      obtain ⟨A, c, rfl, _, _, _⟩ := hf'.row.form
      have HN := hide hf'
      clear hf hf'
      go_wp2
      go_ret
      have hr := HN.out.row
      rw [List.take_of_length_le (by rw [HB.out]; exact Nat.le_refl _)] at hr
      exact ⟨A, c, rfl, hr, fun k hk => Nat.le_trans HB1.out.size (HN.out.own k hk), HB1.out.trans (HN.out.bel.mono HB1.out.size)⟩
theorem St.flat {w0 w : World} {Ts : List Thg} (h : St w0 Ts w) (B : List ByteArray) (hB : B.length = 32) : Calls Tryz.prog 13 #[bval B] w fun e w' => ∃ A c, e = .returned (.slice A 32 c) ∧ St w0 (Ts ++ [rowV A c B]) w' := by
  refine (flat_any B hB w).mono ?_
  rintro e w' ⟨A, c, rfl, hr, ho, hb⟩
  exact ⟨A, c, rfl, h.add hb (T := rowV A c B) (G := fun k => (Value.slice A 32 c).ownBlock = some k) ⟨hr, fun _ hk => hk, fun k hk => hr.lt k hk⟩ ho⟩
set_option maxHeartbeats 1000000 in
theorem Same_src (A C : Option Addr) (n c d : Nat) (B : List ByteArray) (w : World) (hl : B.length = n) (hn : n ≤ 1000) (ha : Src w A (strs B)) (hb : Src w C (strs B)) :
    Calls Tryz.prog 22 #[.slice A n c, .slice C n d] w fun r w' => r = .returned (.bool true) ∧ Below w.heap.size w w' := by
  have Hl := hide hl
  have Ha := hide ha
  have Hb := hide hb
  clear hl ha hb
  go_enter Tryz.func22, Tryz.ntmps22
  go_wp2_with fail
  go_loopw [13] (fun j wr => ∃ k : Nat, k ≤ n ∧ j = .int .i64 k ∧ Hid (Below w.heap.size w wr)) (fun j _ => n - (intOf j).toNat)
  case atStart => exact ⟨0, Nat.zero_le _, rfl, Below.refl _ _⟩
  case round =>
    obtain ⟨k, hk, rfl, hbel⟩ := hrel
    rcases Nat.lt_or_ge k n with hlt | hge
    · obtain ⟨s, hs⟩ : ∃ s, B[k]? = some s := ⟨_, List.getElem?_eq_getElem (by rw [Hl.out]; exact hlt)⟩
      have hv : (strs B)[k]? = some (.string s) := by simp [hs]
      have hne : strs B ≠ [] := by intro h0; rw [h0] at hv; simp at hv
      obtain ⟨b1, o1, rfl, hb1, hc1⟩ := Ha.out hne
      obtain ⟨b2, o2, rfl, hb2, hc2⟩ := Hb.out hne
      have h1 := (hbel.out.cell (p := ⟨b1, o1 + k, none⟩) hb1).trans (hc1 k _ hv)
      have h2 := (hbel.out.cell (p := ⟨b2, o2 + k, none⟩) hb2).trans (hc2 k _ hv)
      have HB := hide fun (m : Nat) => (show Below w.heap.size w (wr.drewN m) from ⟨hbel.out.os, hbel.out.tape, hbel.out.output, hbel.out.size, hbel.out.block⟩)
      clear hs hv hne hc1 hc2 hb1 hb2 hbel
      go_wp2_with fail
      go_quiet (fail)
      go_wp2
      go_roundw
      case rel => exact ⟨k + 1, by omega, by go_num, HB.out _⟩
      case measure => simp [intOf]; omega
    · obtain rfl : k = n := by omega
      go_wp2
      go_ret
      exact ⟨rfl, hbel.out⟩
theorem St.same {w0 w : World} {Ts : List Thg} {i j c d : Nat} {A C : Option Addr} {B : List ByteArray} (h : St w0 Ts w) (hi : Ts[i]? = some (rowV A c B)) (hj : Ts[j]? = some (rowV C d B)) (hB : B.length = 32) :
    Calls Tryz.prog 22 #[.slice A 32 c, .slice C 32 d] w fun e w' => e = .returned (.bool true) ∧ St w0 Ts w' :=
  (Same_src A C 32 c d B w hB (by omega) (St.src h hi) (St.src h hj)).mono fun _e _w' ⟨h1, h2⟩ => ⟨h1, h.below h2⟩

end Go.Proofs.YtnmpckhlpkmojaaGreatDoor.Im

namespace Go.Proofs.YtnmpckhlpkmojaaGreatDoor.Im
open Go.RowKit
open Pk hiding str str_data str_size str_of run_str head_str str_append
open Sm hiding run_str
open Fa Rc Dk Wn Lk
open Jn (NumN clampN zer zer_no)

section
variable {w0 w : World} {Ts : List Thg} {a b q rq : Nat} {S : List Sec} {L : List Wr}
theorem St.loose (h : St w0 Ts w) (ha : Ts[a]? = some (dskT q S L)) : Calls Tryz.prog 45 #[.pointer (some ⟨q, 0, none⟩)] w fun r w' => r = .returned (.int .i64 L.length) ∧ w = w' := by
  obtain ⟨G, hd⟩ := St.disk h ha
  exact Loose_any hd
theorem St.rboth (h : St w0 Ts w) (hb : Ts[b]? = some (rdskT rq S L)) : ∃ A c X cx, w.cell? ⟨rq, 0, none⟩ = some (.slice A S.length c) ∧ w.cell? ⟨rq, 1, none⟩ = some (.slice X L.length cx) := by
  obtain ⟨G, hp, _⟩ := St.opened h hb
  obtain ⟨F, X, h1, h2, h3, _⟩ := hp
  obtain ⟨A, c, rfl, _⟩ := row_form h2
  obtain ⟨B, d, rfl, _⟩ := row_form h3
  exact ⟨A, c, B, d, cell_of_row w rq 0 _ _ _ h1, cell_of_row w rq 1 _ _ _ h1⟩
set_option maxRecDepth 100000 in
set_option maxHeartbeats 4000000 in
theorem alike_any (h : St w0 Ts w) (ha : Ts[a]? = some (dskT q S L)) (hb : Ts[b]? = some (rdskT rq S L)) (hS : S.length ≤ 1000) (hL : L.length ≤ 1000000) (hF : Full (all S L)) :
    Calls Tryz.prog 24 #[.pointer (some ⟨q, 0, none⟩), .pointer (some ⟨rq, 0, none⟩)] w fun e w' => e = .returned (.bool true) ∧ St w0 Ts w' := by
  have HLN := hide (St.len h ha)
  obtain ⟨sl, hsl⟩ : ∃ sl, S.length = sl := ⟨_, rfl⟩
  have HA := hide ha
  have HB := hide hb
  have HS1 := hide hS
  have HL := hide hL
  have HF := hide hF
  have HAL := hide (all_length L S)
  have HST := hide h
  rw [hsl] at HLN
  have hs1000 : sl ≤ 1000 := by omega
  have HSL := hide hsl
  clear h ha hb hS hL hF hsl
  go_enter Tryz.func24, Tryz.ntmps24
  go_wp2_with fail
  refine HLN.out.mono ?_
  rintro e w' ⟨rfl, rfl⟩
  clear HLN
  go_wp2
  go_loopw [12] (fun j wr => ∃ k : Nat, k ≤ sl ∧ j = .int .i64 k ∧ Hid (St w0 Ts wr)) (fun j _ => sl - (intOf j).toNat)
  case atStart => exact ⟨0, Nat.zero_le _, rfl, HST.out⟩
  case round =>
    clear HST
    obtain ⟨k, hk, rfl, HS⟩ := hrel
    rcases Nat.lt_or_ge k sl with hlt | hge
    · have hki : (k : Int) < (sl : Int) := by omega
      have hiS : k < S.length := by rw [HSL.out]; exact hlt
      obtain ⟨s, hsec⟩ : ∃ s, (all S L)[k]? = some s := ⟨_, List.getElem?_eq_getElem (by rw [HAL.out]; exact hiS)⟩
      have hls : s.length = 64 := HF.out s (List.mem_of_getElem? hsec)
      have HR := hide (St.rd HS.out HA.out hsec hiS HL.out)
      have HLs := hide hls
      have HSEC := hide hsec
      have HIS := hide hiS
      obtain ⟨z, hz⟩ : ∃ z, str s = z := ⟨_, rfl⟩
      have HZ := hide hz
      have Hlt := hide hlt
      clear hsec hiS hls hz hlt
      go_wp2_with fail
      refine HR.out.mono ?_
      rintro e w2 ⟨g, rfl, hg, hg2, hb2⟩
      have HS2 := hide (HS.out.below hb2)
      have HRR := hide (St.rrd HS2.out HB.out HSEC.out HIS.out HL.out)
      have hcv := Sm.run_str w2 _ _ _ 64 64 HLs.out (Dk.byt_row hg2.out)
      rw [HZ.out] at HRR hcv
      clear hg hg2 hb2 HR HS
      go_wp2_with fail
      refine HRR.out.mono ?_
      rintro e w' ⟨rfl, rfl⟩
      clear HRR
      have hne : (z.toList == z.toList) = true := by rw [beq_iff_eq]
      go_wp2
      go_roundw
      case rel => exact ⟨k + 1, by have := Hlt.out; omega, by go_num, HS2.out⟩
      case measure => have := Hlt.out; simp [intOf]; omega
    · obtain rfl : k = sl := by omega
      obtain ⟨A, c, X, cx, hc0, hc1⟩ := St.rboth HS.out HB.out
      rw [HSL.out] at hc0
      have hcc : wr.drew.cell? ⟨rq, 0, none⟩ = some (.slice A k c) ∧ wr.drew.cell? ⟨rq, 1, none⟩ = some (.slice X L.length cx) := ⟨hc0, hc1⟩
      have HSL2 := HSL
      clear hc0 hc1
      go_wp2_with fail
      refine wp_region_held (S := (fun W => W.cell? ⟨rq, 0, none⟩ = some (.slice A k c) ∧ W.cell? ⟨rq, 1, none⟩ = some (.slice X L.length cx))) (by kernel_rfl) ?_
      change wpAnyH _ _ _ _ _ _ _ _ (World.drew _)
      refine wpAnyH_take (i := 0) (oi := ⟨some 32, _, _, _, _, _⟩) (v := ?_) rfl (by kernel_rfl) (by kernel_rfl) (by kernel_rfl) (fun _ _ _ h => h) (Or.inl ⟨by rfl, ?_⟩) hcc ?_
      rotate_left 1
      · (intro w hSw; obtain ⟨hSw1, hSw2⟩ := hSw; go_simp; try with_reducible rfl)
      simp only [Act.put, List.setIfInBounds_toArray, List.set_cons_zero, List.set_cons_succ]
      refine wpAnyH_take (i := 2) (oi := ⟨some 34, _, _, _, _, _⟩) (v := ?_) rfl (by kernel_rfl) (by kernel_rfl) (by kernel_rfl) (fun _ _ _ h => h) (Or.inl ⟨by rfl, ?_⟩) hcc ?_
      rotate_left 1
      · (intro w hSw; obtain ⟨hSw1, hSw2⟩ := hSw; go_simp; try with_reducible rfl)
      simp only [Act.put, List.setIfInBounds_toArray, List.set_cons_zero, List.set_cons_succ]
      refine wpAnyH_take (i := 3) (oi := ⟨some 35, _, _, _, _, _⟩) (v := ?_) rfl (by kernel_rfl) (by kernel_rfl) (by kernel_rfl) (fun _ _ _ h => h) (Or.inl ⟨by rfl, ?_⟩) hcc ?_
      rotate_left 1
      · (intro w hSw; obtain ⟨hSw1, hSw2⟩ := hSw; go_simp; try with_reducible rfl)
      simp only [Act.put, List.setIfInBounds_toArray, List.set_cons_zero, List.set_cons_succ]
      refine wpAnyH_take (i := 4) (oi := ⟨some 36, _, _, _, _, _⟩) (v := ?_) rfl (by kernel_rfl) (by kernel_rfl) (by kernel_rfl) (fun _ _ _ h => h) (Or.inl ⟨by rfl, ?_⟩) hcc ?_
      rotate_left 1
      · (intro w hSw; obtain ⟨hSw1, hSw2⟩ := hSw; go_simp; try with_reducible rfl)
      simp only [Act.put, List.setIfInBounds_toArray, List.set_cons_zero, List.set_cons_succ]
      refine wpAnyH_take (i := 5) (oi := ⟨some 37, _, _, _, _, _⟩) (v := ?_) rfl (by kernel_rfl) (by kernel_rfl) (by kernel_rfl) (fun _ _ _ h => h) (Or.inl ⟨by rfl, ?_⟩) hcc ?_
      rotate_left 1
      · (intro w hSw; obtain ⟨hSw1, hSw2⟩ := hSw; go_simp; try with_reducible rfl)
      simp only [Act.put, List.setIfInBounds_toArray, List.set_cons_zero, List.set_cons_succ]
      refine wpAnyH_take (i := 6) (oi := ⟨some 38, _, _, _, _, _⟩) (v := ?_) rfl (by kernel_rfl) (by kernel_rfl) (by kernel_rfl) (fun _ _ _ h => h) (Or.inl ⟨by rfl, ?_⟩) hcc ?_
      rotate_left 1
      · (intro w hSw; obtain ⟨hSw1, hSw2⟩ := hSw; go_simp; try with_reducible rfl)
      simp only [Act.put, List.setIfInBounds_toArray, List.set_cons_zero, List.set_cons_succ]
      refine wpAnyH_ready (rs := [1]) (by kernel_rfl) (by simp) ?_
      refine AllReadyH.cons (o := ⟨some 33, _, _, _, _, _⟩) rfl (fun K hK => ?_) AllReadyH.nil
      go_simp
      refine (St.loose HS.out.drew HA.out).mono ?_
      rintro r w3 ⟨rfl, hw3⟩
      rw [← hw3]
      clear hw3
      refine hK.out _ _ hcc (fun hHeld => ?_)
      clear hK K
      clear hHeld
      refine wpAnyH_take (i := 7) (oi := ⟨some 39, _, _, _, _, _⟩) (v := ?_) rfl (by kernel_rfl) (by kernel_rfl) (by kernel_rfl) (fun _ _ _ h => h) (Or.inl ⟨by rfl, ?_⟩) hcc ?_
      rotate_left 1
      · (intro w hSw; obtain ⟨hSw1, hSw2⟩ := hSw; go_simp; try with_reducible rfl)
      simp only [Act.put, List.setIfInBounds_toArray, List.set_cons_zero, List.set_cons_succ]
      refine wpAnyH_take (i := 8) (oi := ⟨some 40, _, _, _, _, _⟩) (v := ?_) rfl (by kernel_rfl) (by kernel_rfl) (by kernel_rfl) (fun _ _ _ h => h) (Or.inl ⟨by rfl, ?_⟩) hcc ?_
      rotate_left 1
      · (intro w hSw; obtain ⟨hSw1, hSw2⟩ := hSw; go_simp; try with_reducible rfl)
      simp only [Act.put, List.setIfInBounds_toArray, List.set_cons_zero, List.set_cons_succ]
      refine wpAnyH_take (i := 9) (oi := ⟨some 41, _, _, _, _, _⟩) (v := ?_) rfl (by kernel_rfl) (by kernel_rfl) (by kernel_rfl) (fun _ _ _ h => h) (Or.inl ⟨by rfl, ?_⟩) hcc ?_
      rotate_left 1
      · (intro w hSw; obtain ⟨hSw1, hSw2⟩ := hSw; go_simp; try with_reducible rfl)
      simp only [Act.put, List.setIfInBounds_toArray, List.set_cons_zero, List.set_cons_succ]
      refine wpAnyH_take (i := 11) (oi := ⟨some 43, _, _, _, _, _⟩) (v := ?_) rfl (by kernel_rfl) (by kernel_rfl) (by kernel_rfl) (fun _ _ _ h => h) (Or.inl ⟨by rfl, ?_⟩) hcc ?_
      rotate_left 1
      · (intro w hSw; obtain ⟨hSw1, hSw2⟩ := hSw; go_simp; try with_reducible rfl)
      simp only [Act.put, List.setIfInBounds_toArray, List.set_cons_zero, List.set_cons_succ]
      refine wpAnyH_take (i := 12) (oi := ⟨some 44, _, _, _, _, _⟩) (v := ?_) rfl (by kernel_rfl) (by kernel_rfl) (by kernel_rfl) (fun _ _ _ h => h) (Or.inl ⟨by rfl, ?_⟩) hcc ?_
      rotate_left 1
      · (intro w hSw; obtain ⟨hSw1, hSw2⟩ := hSw; go_simp; try with_reducible rfl)
      simp only [Act.put, List.setIfInBounds_toArray, List.set_cons_zero, List.set_cons_succ]
      refine wpAnyH_take (i := 13) (oi := ⟨some 45, _, _, _, _, _⟩) (v := ?_) rfl (by kernel_rfl) (by kernel_rfl) (by kernel_rfl) (fun _ _ _ h => h) (Or.inl ⟨by rfl, ?_⟩) hcc ?_
      rotate_left 1
      · (intro w hSw; obtain ⟨hSw1, hSw2⟩ := hSw; go_simp; try with_reducible rfl)
      simp only [Act.put, List.setIfInBounds_toArray, List.set_cons_zero, List.set_cons_succ]
      refine wpAnyH_take (i := 14) (oi := ⟨some 46, _, _, _, _, _⟩) (v := ?_) rfl (by kernel_rfl) (by kernel_rfl) (by kernel_rfl) (fun _ _ _ h => h) (Or.inl ⟨by rfl, ?_⟩) hcc ?_
      rotate_left 1
      · (intro w hSw; obtain ⟨hSw1, hSw2⟩ := hSw; go_simp; try with_reducible rfl)
      simp only [Act.put, List.setIfInBounds_toArray, List.set_cons_zero, List.set_cons_succ]
      refine wpAnyH_take (i := 15) (oi := ⟨some 47, _, _, _, _, _⟩) (v := ?_) rfl (by kernel_rfl) (by kernel_rfl) (by kernel_rfl) (fun _ _ _ h => h) (Or.inl ⟨by rfl, ?_⟩) hcc ?_
      rotate_left 1
      · (intro w hSw; obtain ⟨hSw1, hSw2⟩ := hSw; go_simp; try with_reducible rfl)
      simp only [Act.put, List.setIfInBounds_toArray, List.set_cons_zero, List.set_cons_succ]
      refine wpAnyH_ready (rs := [10]) (by kernel_rfl) (by simp) ?_
      refine AllReadyH.cons (o := ⟨some 42, _, _, _, _, _⟩) rfl (fun K hK => ?_) AllReadyH.nil
      go_simp
      refine (St.len HS.out.drew HA.out).mono ?_
      rintro r w4 ⟨rfl, hw4⟩
      rw [← hw4]
      clear hw4
      refine hK.out _ _ hcc (fun hHeld => ?_)
      clear hK K
      clear hHeld
      refine wpAnyH_take (i := 16) (oi := ⟨some 48, _, _, _, _, _⟩) (v := ?_) rfl (by kernel_rfl) (by kernel_rfl) (by kernel_rfl) (fun _ _ _ h => h) (Or.inl ⟨by rfl, ?_⟩) hcc ?_
      rotate_left 1
      · (intro w hSw; obtain ⟨hSw1, hSw2⟩ := hSw; go_simp; try with_reducible rfl)
      simp only [Act.put, List.setIfInBounds_toArray, List.set_cons_zero, List.set_cons_succ]
      refine wpAnyH_take (i := 17) (oi := ⟨some 49, _, _, _, _, _⟩) (v := ?_) rfl (by kernel_rfl) (by kernel_rfl) (by kernel_rfl) (fun _ _ _ h => h) (Or.inl ⟨by rfl, ?_⟩) hcc ?_
      rotate_left 1
      · (intro w hSw; obtain ⟨hSw1, hSw2⟩ := hSw; go_simp; try with_reducible rfl)
      simp only [Act.put, List.setIfInBounds_toArray, List.set_cons_zero, List.set_cons_succ]
      refine wpAnyH_take (i := 18) (oi := ⟨some 4, _, _, _, _, _⟩) (v := ?_) rfl (by kernel_rfl) (by kernel_rfl) (by kernel_rfl) (fun _ _ _ h => h) (Or.inl ⟨by rfl, ?_⟩) hcc ?_
      rotate_left 1
      · (intro w hSw; obtain ⟨hSw1, hSw2⟩ := hSw; go_simp; try with_reducible rfl)
      simp only [Act.put, List.setIfInBounds_toArray, List.set_cons_zero, List.set_cons_succ]
      refine wpAnyH_done (by kernel_rfl) ?_ _
      skip
      go_wp2
      go_ret
      refine ⟨?_, HS.out.drew⟩
      show Ending.returned (.bool ((S.length : Int) == (k : Int))) = _
      rw [HSL2.out, beq_self_eq_true]
end

end Go.Proofs.YtnmpckhlpkmojaaGreatDoor.Im
