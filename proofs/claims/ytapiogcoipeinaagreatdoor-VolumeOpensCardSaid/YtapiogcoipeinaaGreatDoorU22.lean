/-
  The contract of volume.Open: the volume, with what its home sectors contain; or the fault volume, ring, around ErrArg or ErrSum. Condition: the table of half bytes holds what the program's own text lays.
-/
import Derived.BigQuiet
import Derived.Test.YtapiogcoipeinaaGreatDoorU19
import Derived.Deep.RegionLaw
import Derived.Lib.SliceRun
import Derived.Lib.MinMax
import Derived.Test.YtapiogcoipeinaaGreatDoorU9
import Derived.Deep.RegionHeld3
import Derived.Test.YtapiogcoipeinaaGreatDoorU17
namespace Go.Proofs.YtapiogcoipeinaaGreatDoor.Jn
open Go.RowKit
open Pk Sm Fa Rc Dk
abbrev nam : ByteArray := ⟨#[106, 111, 117, 114, 110, 97, 108]⟩
def JFlt (w : World) (v : Value) (s e : Int) : Prop := ∃ p fs, v = .iface 145 (.pointer (some ⟨p, 0, none⟩)) ∧ Chain w ((p, nam, s) :: fs) v (.iface 83 (.int .i64 e)) ∧ fs.length ≤ 1
theorem failed_num (s e : Int) (w : World) (he : e ≠ 0) :
 Calls Tryz.prog 62 #[.int .i64 s, .iface 83 (.int .i64 e)] w fun r w' => ∃ p, r = .returned (.iface 145 (.pointer (some ⟨p, 0, none⟩))) ∧ JFlt w' (.iface 145 (.pointer (some ⟨p, 0, none⟩))) s e ∧ Below w.heap.size w w' := by
 have HW := hide (Wrap_real nam s (.iface 83 (.int .i64 e)) w (Real.num he))
 go_enter Tryz.func62, Tryz.ntmps62
 go_wp2_with fail
 refine HW.out.mono ?_
 rintro r w' ⟨rfl, rfl⟩
 go_wp2
 go_ret
 exact ⟨_, rfl, ⟨_, [], rfl, Chain.wrap (fs := []) (w := w) (e := .iface 83 (.int .i64 e)) rfl nam s, by simp⟩, (Below.refl _ _).alloc (Nat.le_refl _) _⟩
theorem failed_flt (s s2 e : Int) (p : Nat) (w : World) (hf : Flt1 w (.iface 145 (.pointer (some ⟨p, 0, none⟩))) s2 e) :
 Calls Tryz.prog 62 #[.int .i64 s, .iface 145 (.pointer (some ⟨p, 0, none⟩))] w fun r w' => ∃ p, r = .returned (.iface 145 (.pointer (some ⟨p, 0, none⟩))) ∧ JFlt w' (.iface 145 (.pointer (some ⟨p, 0, none⟩))) s e ∧ Below w.heap.size w w' := by
 have HW := hide (Wrap_real nam s (.iface 145 (.pointer (some ⟨p, 0, none⟩))) w (Real.flt _))
 have HF := hide hf
 clear hf
 go_enter Tryz.func62, Tryz.ntmps62
 go_wp2_with fail
 refine HW.out.mono ?_
 rintro r w' ⟨rfl, rfl⟩
 go_wp2
 go_ret
 obtain ⟨p', _, hc⟩ := HF.out
 exact ⟨_, rfl, ⟨_, _, rfl, Chain.wrap hc nam s, by simp⟩, (Below.refl _ _).alloc (Nat.le_refl _) _⟩
theorem JFlt.below {w w' : World} {v : Value} {s e : Int} (h : JFlt w v s e) {B : Nat} (hB : w.heap.size ≤ B) (hb : Below B w w') : JFlt w' v s e := by
 obtain ⟨p, fs, rfl, hc, hl⟩ := h
 exact ⟨p, fs, rfl, hc.below hB hb, hl⟩
/-! ### A nil journal -/
section
variable (w : World) (G : Nat → Prop) (p q : Nat) (S : List Sec) (L : List Wr) (n : Nat) (h : Hd) (E : List Ent) (hj : Jr w G p q S L n h E)
include hj
set_option maxRecDepth 100000 in
theorem Next_any (hf : h.f ≤ 2000000000000000000) (he : E.length ≤ 1000) : Calls Tryz.prog 57 #[.pointer (some ⟨p, 0, none⟩)] w fun e w' => e = .returned (.int .i64 ((h.f + E.length : Nat) : Int)) ∧ Below w.heap.size w w' := by
 obtain ⟨D, J, X, _, h2, _⟩ := hj
 obtain ⟨A, c, rfl, c0, c1, c2, c3, c4, c5, c6, fz⟩ := h2.cells
 obtain ⟨t, f, g, l⟩ := h
 obtain ⟨m, hm⟩ : ∃ m, E.length = m := ⟨_, rfl⟩
 rw [hm] at c6 he
 rw [hm]
 have hf2 : f ≤ 2000000000000000000 := hf
 have c3' : w.cell? ⟨p, 3, none⟩ = some (.int .i64 (f : Int)) := c3
 clear h2 c0 c1 c2 c3 c4 c5 fz hm hf
 go_enter Tryz.func57, Tryz.ntmps57
 go_wp2
 go_quiet (fail)
 go_wp2
 go_ret
 exact ⟨by go_num, ⟨rfl, rfl, rfl, Nat.le_refl _, fun _ _ => rfl⟩⟩
set_option maxRecDepth 100000 in
theorem Room_any (hn : n ≤ 1000) (he : E.length ≤ n) : Calls Tryz.prog 99 #[.pointer (some ⟨p, 0, none⟩)] w fun e w' => e = .returned (.int .i64 ((n : Int) - (E.length : Int))) ∧ Below w.heap.size w w' := by
 obtain ⟨D, J, X, _, h2, _⟩ := hj
 obtain ⟨A, c, rfl, c0, c1, c2, c3, c4, c5, c6, fz⟩ := h2.cells
 obtain ⟨m, hm⟩ : ∃ m, E.length = m := ⟨_, rfl⟩
 rw [hm] at c6 he
 rw [hm]
 clear h2 c0 c2 c3 c4 c5 fz hm
 go_enter Tryz.func99, Tryz.ntmps99
 go_wp2
 go_quiet (fail)
 go_wp2
 go_ret
 exact ⟨by go_num, ⟨rfl, rfl, rfl, Nat.le_refl _, fun _ _ => rfl⟩⟩
theorem Flush_any (hL : L.length ≤ 1000000) : Calls Tryz.prog 50 #[.pointer (some ⟨p, 0, none⟩)] w fun e w' => e = .returned (.tuple #[]) ∧ JPost w G p q (all S L) [] n h E w' := by
 obtain ⟨D, J, X, h1, h2, h3, h4⟩ := hj
 obtain ⟨A, c, e, c0, c1, c2, c3, c4, c5, c6, fz⟩ := h2.cells
 have HF := hide (Dk.Flush_any w D q S L h1 hL)
 have HP := fun w' => hide (fun (hp : Post w D q (all S L) [] w') => Jr.disk (n := n) (h := h) (E := E) h2 h3 h4 hp)
 clear h1 h2 h3 h4 e c1 c2 c3 c4 c5 c6 fz hL
 go_enter Tryz.func50, Tryz.ntmps50
 go_wp2_with fail
 refine HF.out.mono ?_
 rintro e w2 ⟨rfl, hp⟩
 have H := hide ((HP w2).out hp)
 clear hp HP HF c0
 go_wp2
 first | go_end0 | exact bodyPost_ret (results_none rfl _ _ _) rfl ⟨rfl, H.out⟩
 all_goals exact ⟨rfl, H.out⟩
set_option maxRecDepth 100000 in
set_option maxHeartbeats 2000000 in
theorem save_any (ht : Tab w) (hb : h.t ≤ 2000000000000000000) (hn : 2 ≤ S.length) (hL : L.length ≤ 900000) (hg : ∀ k, G k → 1 < k) :
 Calls Tryz.prog 65 #[.pointer (some ⟨p, 0, none⟩)] w fun e w' => e = .returned (.tuple #[]) ∧
  JPost w G p q (all S (L ++ [((h.t + 1) % 2, hsec ⟨h.t + 1, h.f, h.g, h.l⟩)])) [] n ⟨h.t + 1, h.f, h.g, h.l⟩ E w' := by
 have hjs := Jr.set (i := 2) (v := .int .i64 ((h.t : Int) + 1)) (h' := ⟨h.t + 1, h.f, h.g, h.l⟩) hj (fun X => rfl)
 obtain ⟨D, J, X, h1, h2, h3, h4⟩ := hj
 obtain ⟨A, c, e, c0, c1, c2, c3, c4, c5, c6, fz⟩ := h2.cells
 obtain ⟨t, f, g, l⟩ := h
 have f2 := fz 2
 have c2' : w.cell? ⟨p, 2, none⟩ = some (.int .i64 (t : Int)) := c2
 have hb' : t ≤ 2000000000000000000 := hb
 have HT := hide ht
 have HL := hide hL
 have HN := hide hn
 have HGG := hide hg
 clear e c0 c1 c2 c3 c4 c5 c6 fz h1 h2 h3 h4 hb ht hL hn hg
 go_enter Tryz.func65, Tryz.ntmps65
 go_wp2_with fail
 generalize w.setCell _ _ = w1 at *
 obtain ⟨G1, hj1, hg1, hk0⟩ := hjs
 obtain ⟨D, J, X, h1, h2, h3, h4⟩ := hj1
 have HT1 := hide (show Tab w1.drew from (HT.out.below (hk0.below (B := 1 + 1) HGG.out HT.out.pos).drew (Nat.lt_succ_self _)))
 obtain ⟨t1, ht1⟩ : ∃ t1, t + 1 = t1 := ⟨_, rfl⟩
 obtain ⟨r2, hr2⟩ : ∃ r2, t1 % 2 = r2 := ⟨_, rfl⟩
 have hrem := rem2 t1 (by omega)
 show _
 simp only [ht1, hr2] at h2 hrem ⊢
 have HR := hide (show r2 < 2 by omega)
 have HE1 := hide ht1
 have HE2 := hide hr2
 have H11 := hide h1
 have H21 := hide h2
 have H3 := hide h3
 have H4 := hide h4
 have HG1 := hide hg1
 have HK0 := hide hk0
 have hS1 := h2.heads
 have ht1' : (t : Int) + 1 = (t1 : Int) := by omega
 clear h1 h2 h3 h4 hg1 hk0 hr2 ht1 c2' f2 HGG
 refine wp_region_held (S := (fun W => W.cell? ⟨p, 0, none⟩ = some (.pointer (some ⟨q, 0, none⟩)) ∧ W.cell? ⟨p, 2, none⟩ = some (.int .i64 (t1 : Int)) ∧ W.cell? ⟨p, 3, none⟩ = some (.int .i64 (f : Int)) ∧ W.cell? ⟨p, 4, none⟩ = some (.int .i64 (g : Int)) ∧ W.cell? ⟨p, 5, none⟩ = some (.int .i64 (l : Int)))) (by kernel_rfl) ?_
 change wpAnyH _ _ _ _ _ _ _ _ (World.drew _)
 refine wpAnyH_take (i := 0) (oi := ⟨some 11, _, _, _, _, _⟩) (v := ?_) rfl (by kernel_rfl) (by kernel_rfl) (by kernel_rfl) (fun _ _ _ h => h) (Or.inl ⟨by rfl, ?_⟩) hS1 ?_
 rotate_left 1
 ·(intro w hSw; obtain ⟨hSw1, hSw2, hSw3, hSw4, hSw5⟩ := hSw; go_simp; try with_reducible rfl)
 simp only [Act.put, sl]
 refine wpAnyH_take (i := 1) (oi := ⟨some 12, _, _, _, _, _⟩) (v := ?_) rfl (by kernel_rfl) (by kernel_rfl) (by kernel_rfl) (fun _ _ _ h => h) (Or.inl ⟨by rfl, ?_⟩) hS1 ?_
 rotate_left 1
 ·(intro w hSw; obtain ⟨hSw1, hSw2, hSw3, hSw4, hSw5⟩ := hSw; go_simp; try with_reducible rfl)
 simp only [Act.put, sl]
 refine wpAnyH_take (i := 2) (oi := ⟨some 13, _, _, _, _, _⟩) (v := ?_) rfl (by kernel_rfl) (by kernel_rfl) (by kernel_rfl) (fun _ _ _ h => h) (Or.inl ⟨by rfl, ?_⟩) hS1 ?_
 rotate_left 1
 ·(intro w hSw; obtain ⟨hSw1, hSw2, hSw3, hSw4, hSw5⟩ := hSw; go_simp; try with_reducible rfl)
 simp only [Act.put, sl]
 refine wpAnyH_take (i := 3) (oi := ⟨some 14, _, _, _, _, _⟩) (v := ?_) rfl (by kernel_rfl) (by kernel_rfl) (by kernel_rfl) (fun _ _ _ h => h) (Or.inl ⟨by rfl, ?_⟩) hS1 ?_
 rotate_left 1
 ·(intro w hSw; obtain ⟨hSw1, hSw2, hSw3, hSw4, hSw5⟩ := hSw; go_simp; try with_reducible rfl)
 simp only [Act.put, sl]
 refine wpAnyH_take (i := 4) (oi := ⟨some 15, _, _, _, _, _⟩) (v := ?_) rfl (by kernel_rfl) (by kernel_rfl) (by kernel_rfl) (fun _ _ _ h => h) (Or.inl ⟨by rfl, ?_⟩) hS1 ?_
 rotate_left 1
 ·(intro w hSw; obtain ⟨hSw1, hSw2, hSw3, hSw4, hSw5⟩ := hSw; go_simp; try with_reducible rfl)
 simp only [Act.put, sl]
 refine wpAnyH_take (i := 5) (oi := ⟨some 16, _, _, _, _, _⟩) (v := ?_) rfl (by kernel_rfl) (by kernel_rfl) (by kernel_rfl) (fun _ _ _ h => h) (Or.inl ⟨by rfl, ?_⟩) hS1 ?_
 rotate_left 1
 ·(intro w hSw; obtain ⟨hSw1, hSw2, hSw3, hSw4, hSw5⟩ := hSw; go_simp; try with_reducible rfl)
 simp only [Act.put, sl]
 refine wpAnyH_take (i := 6) (oi := ⟨some 17, _, _, _, _, _⟩) (v := ?_) rfl (by kernel_rfl) (by kernel_rfl) (by kernel_rfl) (fun _ _ _ h => h) (Or.inl ⟨by rfl, ?_⟩) hS1 ?_
 rotate_left 1
 ·(intro w hSw; obtain ⟨hSw1, hSw2, hSw3, hSw4, hSw5⟩ := hSw; go_simp; try with_reducible rfl)
 simp only [Act.put, sl]
 refine wpAnyH_take (i := 7) (oi := ⟨some 18, _, _, _, _, _⟩) (v := ?_) rfl (by kernel_rfl) (by kernel_rfl) (by kernel_rfl) (fun _ _ _ h => h) (Or.inl ⟨by rfl, ?_⟩) hS1 ?_
 rotate_left 1
 ·(intro w hSw; obtain ⟨hSw1, hSw2, hSw3, hSw4, hSw5⟩ := hSw; go_simp; try with_reducible rfl)
 simp only [Act.put, sl]
 refine wpAnyH_take (i := 8) (oi := ⟨some 19, _, _, _, _, _⟩) (v := ?_) rfl (by kernel_rfl) (by kernel_rfl) (by kernel_rfl) (fun _ _ _ h => h) (Or.inl ⟨by rfl, ?_⟩) hS1 ?_
 rotate_left 1
 ·(intro w hSw; obtain ⟨hSw1, hSw2, hSw3, hSw4, hSw5⟩ := hSw; go_simp; try with_reducible rfl)
 simp only [Act.put, sl]
 refine wpAnyH_take (i := 9) (oi := ⟨some 20, _, _, _, _, _⟩) (v := ?_) rfl (by kernel_rfl) (by kernel_rfl) (by kernel_rfl) (fun _ _ _ h => h) (Or.inl ⟨by rfl, ?_⟩) hS1 ?_
 rotate_left 1
 ·(intro w hSw; obtain ⟨hSw1, hSw2, hSw3, hSw4, hSw5⟩ := hSw; go_simp; try with_reducible rfl)
 simp only [Act.put, sl]
 refine wpAnyH_take (i := 10) (oi := ⟨some 21, _, _, _, _, _⟩) (v := ?_) rfl (by kernel_rfl) (by kernel_rfl) (by kernel_rfl) (fun _ _ _ h => h) (Or.inl ⟨by rfl, ?_⟩) hS1 ?_
 rotate_left 1
 ·(intro w hSw; obtain ⟨hSw1, hSw2, hSw3, hSw4, hSw5⟩ := hSw; go_simp; try with_reducible rfl)
 simp only [Act.put, sl]
 refine wpAnyH_take (i := 11) (oi := ⟨some 22, _, _, _, _, _⟩) (v := ?_) rfl (by kernel_rfl) (by kernel_rfl) (by kernel_rfl) (fun _ _ _ h => h) (Or.inl ⟨by rfl, ?_⟩) hS1 ?_
 rotate_left 1
 ·(intro w hSw; obtain ⟨hSw1, hSw2, hSw3, hSw4, hSw5⟩ := hSw; go_simp; try with_reducible rfl)
 simp only [Act.put, sl]
 refine wpAnyH_take (i := 12) (oi := ⟨some 23, _, _, _, _, _⟩) (v := ?_) rfl (by kernel_rfl) (by kernel_rfl) (by kernel_rfl) (fun _ _ _ h => h) (Or.inl ⟨by rfl, ?_⟩) hS1 ?_
 rotate_left 1
 ·(intro w hSw; obtain ⟨hSw1, hSw2, hSw3, hSw4, hSw5⟩ := hSw; go_simp; try with_reducible rfl)
 simp only [Act.put, sl]
 refine wpAnyH_take (i := 13) (oi := ⟨some 24, _, _, _, _, _⟩) (v := ?_) rfl (by kernel_rfl) (by kernel_rfl) (by kernel_rfl) (fun _ _ _ h => h) (Or.inl ⟨by rfl, ?_⟩) hS1 ?_
 rotate_left 1
 ·(intro w hSw; obtain ⟨hSw1, hSw2, hSw3, hSw4, hSw5⟩ := hSw; go_simp; try with_reducible rfl)
 simp only [Act.put, sl]
 refine wpAnyH_ready (rs := [14]) (by kernel_rfl) (by simp) ?_
 refine AllReadyH.cons (o := ⟨some 25, _, _, _, _, _⟩) rfl (fun K hK => ?_) AllReadyH.nil
 go_simp
 refine (encode_any ⟨t1, f, g, l⟩ w1.drew HT1.out).mono ?_
 rintro r w2 ⟨pb, ob, cb, rfl, _, _, hby2, hb2'⟩
 have hb2 := drew_below hb2'
 have H12 := hide (H11.out.below hb2)
 have H22 := hide (H21.out.below hb2)
 have HB2 := hide hb2
 have hS2 := H22.out.heads
 have HY2 := hide hby2
 clear hb2' hb2 hby2
 refine hK.out _ _ hS2 (fun hHeld => ?_)
 clear hK K
 clear hHeld
 refine wpAnyH_ready (rs := [15]) (by kernel_rfl) (by simp) ?_
 refine AllReadyH.cons (o := ⟨some 26, _, _, _, _, _⟩) rfl (fun K hK => ?_) AllReadyH.nil
 go_simp
 refine (Dk.Write_any w2 D q r2 cb (some ⟨pb, ob, none⟩) S L (hsec ⟨t1, f, g, l⟩) H12.out (by have := HN.out; have := HR.out; omega) HY2.out (hsec_length _) HL.out).mono ?_
 rintro r w3 ⟨rfl, hp3⟩
 have HJ3 := hide (JPost.after HB2.out (Jr.disk H22.out H3.out H4.out hp3))
 have hS3 : w3.cell? ⟨p, 0, none⟩ = some (.pointer (some ⟨q, 0, none⟩)) ∧ w3.cell? ⟨p, 2, none⟩ = some (.int .i64 (t1 : Int)) ∧ w3.cell? ⟨p, 3, none⟩ = some (.int .i64 (f : Int)) ∧ w3.cell? ⟨p, 4, none⟩ = some (.int .i64 (g : Int)) ∧ w3.cell? ⟨p, 5, none⟩ = some (.int .i64 (l : Int)) := by
  obtain ⟨G2, ⟨D2, J2, X2, k1, k2, k3, k4⟩, _, _⟩ := HJ3.out
  exact k2.heads
 clear hp3 H12 H22 HB2
 refine hK.out _ _ hS3 (fun hHeld => ?_)
 clear hK K
 clear hHeld
 refine wpAnyH_done (by kernel_rfl) ?_ _
 obtain ⟨G3, hj3, hg3, hk3⟩ := HJ3.out
 obtain ⟨D3, J3, X3, k1, k2, k3, k4⟩ := hj3
 have hq3 := hS3.1
 have HK1 := hide k1
 have HK2 := hide k2
 have HK3 := hide k3
 have HK4 := hide k4
 have HG3 := hide hg3
 have HKP := hide hk3
 have HF := hide (Dk.Flush_any w3 D3 q S _ k1 (by have := HL.out; simp; omega))
 clear k1 k2 k3 k4 hg3 hk3 hS3 HJ3
 go_wp2_with fail
 refine HF.out.mono ?_
 rintro r w4 ⟨rfl, hp4⟩
 have HJ4 := hide (JPost.of HG1.out HK0.out (JPost.of HG3.out HKP.out (Jr.disk HK2.out HK3.out HK4.out hp4)))
 clear hp4 hq3
 go_wp2
 go_end0
 have e2 := HE2.out
 have e1 := HE1.out
 subst e2
 subst e1
 exact ⟨rfl, HJ4.out⟩
end
end Go.Proofs.YtapiogcoipeinaaGreatDoor.Jn
namespace Go.Proofs.YtapiogcoipeinaaGreatDoor.Jn
open Go.RowKit
open Pk Sm Fa Rc Dk
def rcel (e : Ent) : List Value := [.int .i64 (e.s : Int), .int .i64 e.k, .int .i64 e.b, .string e.d, .int .i64 e.m]
def rcels (E : List Ent) : List Value := E.flatMap rcel
theorem rcel_len (E : List Ent) : ∀ e ∈ E, (rcel e).length = 5 := fun _ _ => rfl
theorem rcel_one (e : Ent) : ∀ u ∈ rcel e, u.oneCell' = true := by
 intro u hu
 simp [rcel] at hu
 rcases hu with rfl | rfl | rfl | rfl | rfl <;> rfl
theorem rcels_snoc (E : List Ent) (e : Ent) : rcels (E ++ [e]) = rcels E ++ rcel e := by simp [rcels]
theorem rec_info : (Tryz.prog.info? 100).map (fun i => (i.zero, i.size, i.bytes)) = some (some (rec5 0 0 0 ⟨#[]⟩ 0), 5, 48) := by kernel_rfl
theorem ent_info : (Tryz.prog.info? 150).map (fun i => (i.zero, i.size, i.bytes)) = some (some (.agg #[.int .i64 0, .int .i64 0, .int .i64 0, .int .i64 0, .string ⟨#[]⟩, .int .i64 0]), 6, 56) := by kernel_rfl
def Rows5 (w : World) (base : Nat) (v : Value) (E : List Ent) : Prop := w.ownsRow base 100 5 v E.length (rcels E)
theorem six {w : World} {g o : Nat} {e : Ent} (h : w.rangeAt g o (ecel e)) : w.cell? ⟨g, o, none⟩ = some (.int .i64 (e.g : Int)) ∧ w.cell? ⟨g, o + 1, none⟩ = some (.int .i64 (e.s : Int)) ∧ w.cell? ⟨g, o + 2, none⟩ = some (.int .i64 e.k) ∧ w.cell? ⟨g, o + 3, none⟩ = some (.int .i64 e.b) ∧ w.cell? ⟨g, o + 4, none⟩ = some (.string e.d) ∧ w.cell? ⟨g, o + 5, none⟩ = some (.int .i64 e.m) :=
 ⟨h 0 _ rfl, h 1 _ rfl, h 2 _ rfl, h 3 _ rfl, h 4 _ rfl, h 5 _ rfl⟩
set_option maxRecDepth 100000 in
set_option maxHeartbeats 2000000 in
theorem Records_any (w : World) (G : Nat → Prop) (p q : Nat) (S : List Sec) (L : List Wr) (n : Nat) (h : Hd) (E : List Ent) (hj : Jr w G p q S L n h E) (he : E.length ≤ 1000) :
 Calls Tryz.prog 56 #[.pointer (some ⟨p, 0, none⟩)] w fun e w' => ∃ v, e = .returned v ∧ Rows5 w' w.heap.size v E ∧ Below w.heap.size w w' := by
 obtain ⟨i0, hi0, hz0, hz1, hz2⟩ := info_parts rec_info
 have Hz1 := hide hz1
 have Hz2 := hide hz2
 obtain ⟨D, J, X, _, h2, _⟩ := hj
 obtain ⟨A, c, rfl, c0, c1, c2, c3, c4, c5, c6, fz⟩ := h2.cells
 obtain ⟨A', c', e', hc1, hc2, hr⟩ := row_form h2.own
 obtain ⟨rfl, rfl⟩ : A = A' ∧ c = c' := by simpa using e'
 obtain ⟨m, hm⟩ : ∃ m, E.length = m := ⟨_, rfl⟩
 rw [hm] at c6 he hr hc1
 have Hm := hide hm
 have Hr := hide hr
 have He := hide he
 have hbytes : (i0.bytes : Int) * (m : Int) ≤ 281474976710656 := by rw [hz2]; omega
 have Hby := hide hbytes
 have Hm63 := hide (show m ≤ 9223372036854775807 by omega)
 have Hp := hide (show p < w.heap.size from h2.lt p h2.mine)
 clear h2 c0 c1 c2 c3 c4 c5 fz hm hz1 hz2 e' hr hbytes
 go_enter Tryz.func56, Tryz.ntmps56
 go_wp2_with (with_reducible refine wpList_make_told rfl 55 _ _ rfl 100 i0 _ Tryz.underlying55 hi0 hz0 .i64 .i64 0 m rfl rfl (Nat.zero_le _) Hby.out Hm63.out 5 Hz1.out ?_)
 intro w1 Hw1
 have HB1 : Hid (Below w.heap.size w w1) := by rw [Hw1.out]; exact (Below.refl _ _).alloc (Nat.le_refl _) _
 have HO1 : Hid (w1.ownsRow w.heap.size 100 5 (.slice (some ⟨w.heap.size, 0, none⟩) 0 m) 0 []) := by
  rw [Hw1.out]
  refine ⟨rfl, Or.inr ⟨w.heap.size, m, _, rfl, Nat.le_refl _, heap_alloc_new w _, Nat.zero_le _, by have := He.out; unfold maxLen; omega, size_madeCells _ _, by simp⟩⟩
 have c6' : w1.cell? ⟨p, 6, none⟩ = some (.slice A m c) := (HB1.out.cell (p := ⟨p, 6, none⟩) Hp.out).trans c6
 clear Hw1 c6
 go_wp2
 go_loopw [3, 19] (fun v j wr => ∃ k : Nat, k ≤ m ∧ j = .int .i64 k ∧ Hid (wr.ownsRow w.heap.size 100 5 v k (rcels (E.take k))) ∧ Hid (Below w.heap.size w wr)) (fun _ j _ => m - (intOf j).toNat)
 case atStart => exact ⟨0, Nat.zero_le _, rfl, HO1.out, HB1.out⟩
 case round =>
  obtain ⟨k, hk, rfl, how, hb⟩ := hrel
  rcases Nat.lt_or_ge k m with hlt | hge
  ·have Hlt := hide hlt
   have hki : (k : Int) < (m : Int) := by omega
   obtain ⟨x, hx⟩ : ∃ x, E[k]? = some x := ⟨_, List.getElem?_eq_getElem (by rw [Hm.out]; exact hlt)⟩
   obtain ⟨g, rfl, _, hgl, hrg⟩ := Hr.out (by omega)
   have hpc := range_piece hrg (ecel_len E) hx
   obtain ⟨d0, d1, d2, d3, d4, d5⟩ := six (w := wr) (g := g) (o := k * 6) (e := x) (fun j u hu => (hb.out.cell (p := ⟨g, k * 6 + j, none⟩) hgl).trans (hpc j u hu))
   have HT : Hid (E.take (k + 1) = E.take k ++ [x]) := by rw [List.take_add_one, hx]; rfl
   obtain ⟨xg, xs, xk, xb, xd, xm⟩ := x
   obtain ⟨VA, vc, rfl, hv1, hv2, hv3⟩ := row_form how.out
   have hb4 : Below wr.heap.size wr (wr.alloc (.cells #[.int .i64 (xg : Int), .int .i64 (xs : Int), .int .i64 xk, .int .i64 xb, .string xd, .int .i64 xm] 150)) := (Below.refl _ _).alloc (Nat.le_refl _) _
   have hb5 : Below wr.heap.size wr ((wr.alloc (.cells #[.int .i64 (xg : Int), .int .i64 (xs : Int), .int .i64 xk, .int .i64 xb, .string xd, .int .i64 xm] 150)).alloc (.cells #[.int .i64 (xs : Int), .int .i64 xk, .int .i64 xb, .string xd, .int .i64 xm] 100)) := hb4.alloc hb4.size _
   have HB5 := hide (hb.out.trans (hb5.mono hb.out.size))
   have HO5 := hide (Fa.own_below how.out hb5)
   have HN : Hid (∀ j u, (rcel ⟨xg, xs, xk, xb, xd, xm⟩)[j]? = some u → ((wr.alloc (.cells #[.int .i64 (xg : Int), .int .i64 (xs : Int), .int .i64 xk, .int .i64 xb, .string xd, .int .i64 xm] 150)).alloc (.cells #[.int .i64 (xs : Int), .int .i64 xk, .int .i64 xb, .string xd, .int .i64 xm] 100)).cell? ((⟨wr.heap.size + 1, 0, none⟩ : Addr).add j) = some u) := fun j u hu => by
    rw [← show (wr.alloc (.cells #[.int .i64 (xg : Int), .int .i64 (xs : Int), .int .i64 xk, .int .i64 xb, .string xd, .int .i64 xm] 150)).heap.size = wr.heap.size + 1 by simp, Addr.add_mid, Nat.zero_add, cell_of_row _ _ j _ _ _ (heap_alloc_new _ _)]
    exact List.getElem?_toArray.trans hu
   have Hbase := hide (show w.heap.size ≤ _ from HB5.out.size)
   have Hm1 := hide (show k + 1 ≤ maxLen by have := He.out; unfold maxLen; omega)
   have Hm2 := hide (show (k + 1) * 48 ≤ 140737488355328 by have := He.out; omega)
   clear hx hrg hpc how hb hb4 hb5 hv1 hv2 hv3 hlt hgl
   go_wp2_with (at_builtin; go_must (refine wpList_append_lies _ rfl (.tmp 23) (.tmp 26) 55 rfl w.heap.size 100 i0 _ 5 48 Tryz.underlying55 hi0 hz0 Hz1.out Hz2.out rfl (by decide) (.slice VA k vc) k (rcels (E.take k)) rfl HO5.out ⟨wr.heap.size + 1, 0, none⟩ 1 1 (rcel ⟨xg, xs, xk, xb, xd, xm⟩) rfl rfl HN.out (rcel_one _) (by decide) Hm1.out Hm2.out Hbase.out _ rfl ?_))
   intro g2 cap w6 hown6 hgr6 hor6 hlt6
   have HB6 := hide (HB5.out.grown hgr6 HB5.out.size (fun q hq => (World.ownsRow.lt HO5.out q hq).1))
   have HO6 := hide hown6
   clear hown6 hgr6 hor6 hlt6 HB5 HO5 HN Hbase
   go_wp2
   go_roundw
   case rel => exact ⟨k + 1, Hlt.out, by go_num, by rw [HT.out, rcels_snoc]; exact HO6.out, HB6.out⟩
   case measure => have := Hlt.out; simp [intOf]; omega
  ·obtain rfl : k = m := by omega
   have ho := how.out
   rw [List.take_of_length_le (by rw [Hm.out]; exact Nat.le_refl _)] at ho
   have HO := hide (show Rows5 wr w.heap.size _ E by unfold Rows5; rw [Hm.out]; exact ho)
   have HB := hide hb.out
   clear how hb ho hge hk
   go_wp2
   go_ret
   exact ⟨_, rfl, HO.out, HB.out⟩
end Go.Proofs.YtapiogcoipeinaaGreatDoor.Jn
namespace Go.Proofs.YtapiogcoipeinaaGreatDoor.Jn
open Go.RowKit
open Pk Sm Fa Rc Dk
section
variable {w5 W w6 : World} {G J : Nat → Prop} {p q n m : Nat} {S : List Sec} {L : List Wr} {h : Hd} {E : List Ent} {X : Value}
theorem JnAt.box6 (j : JnAt w5 J p q n h E X) (hb : Below w5.heap.size w5 W) (hgr : W.grownBy w6 X.ownBlock) : w6.heap[p]? = some (.cells (jcs q n h X) 126 (0, 0)) := by
 have hl := j.lt p j.mine
 rw [hgr.block p (Nat.lt_of_lt_of_le hl hb.size) (fun e => (j.row p e.symm).2 rfl), hb.block p hl]
 exact j.box
theorem JnAt.appended {g cap : Nat} {y : Ent} {D : Nat → Prop} (hd : Dsk w5 D q S L) (j : JnAt w5 J p q n h E X) (h3 : ∀ k, D k → ¬ J k) (h4 : ∀ k, G k ↔ D k ∨ J k) (hb : Below w5.heap.size w5 W) (hgr : W.grownBy w6 X.ownBlock)
 (hown : w6.ownsRow 0 150 6 (.slice (some ⟨g, 0, none⟩) (m + 1) cap) (m + 1) (ecels E ++ ecel y)) (hor : X.ownBlock = some g ∨ g = W.heap.size) (hm : E.length = m) :
 JPost w5 G p q S L n h (E ++ [y]) (w6.setCell ⟨p, 6, none⟩ (.slice (some ⟨g, 0, none⟩) (m + 1) cap)) := by
 have hp := j.box6 hb hgr
 have hsz : (w6.setCell ⟨p, 6, none⟩ (.slice (some ⟨g, 0, none⟩) (m + 1) cap)).heap.size = w6.heap.size := by simp [World.setCell]
 have hgs := hgr.size
 have hbs := hb.size
 have hgp : g ≠ p := by
  rcases hor with h | h
  ·exact (j.row g h).2
  ·have := j.lt p j.mine; omega
 have hgl : g < w6.heap.size := (World.ownsRow.lt hown g rfl).2
 have hk : Kept J w5 (w6.setCell ⟨p, 6, none⟩ (.slice (some ⟨g, 0, none⟩) (m + 1) cap)) := by
  refine ⟨hgr.os.trans hb.os, hgr.tape.trans hb.tape, hgr.output.trans hb.output, by rw [hsz]; omega, fun k hk hn => ?_⟩
  rw [heap_setCell_other _ _ _ _ (fun e => hn (by have e' : k = p := e; rw [e']; exact j.mine)), hgr.block k (by omega) (fun e => hn (j.row k e.symm).1), hb.block k hk]
 refine ⟨fun k => D k ∨ (J k ∨ (w5.heap.size ≤ k ∧ k < w6.heap.size)), ⟨D, fun k => J k ∨ (w5.heap.size ≤ k ∧ k < w6.heap.size), .slice (some ⟨g, 0, none⟩) (m + 1) cap, hd.kept hk h3, ⟨?_, ?_, Or.inl j.mine, ?_, ?_⟩, ?_, fun k => Iff.rfl⟩, ?_, ⟨hk.os, hk.tape, hk.output, hk.size, fun k h1 h2 => hk.block k h1 fun h5 => h2 ((h4 k).2 (Or.inr h5))⟩⟩
 ·rw [heap_setCell_same w6 p 6 _ _ _ hp]; rfl
 ·rw [List.length_append, hm, ecels_snoc]
  exact own_same hown fun k hk => by
   have : g = k := by simpa [Value.ownBlock] using hk
   rw [heap_setCell_other _ _ _ _ (by rw [← this]; exact hgp)]
 ·intro k hk
  have hk' : g = k := by simpa [Value.ownBlock] using hk
  subst hk'
  refine ⟨?_, hgp⟩
  rcases hor with h | h
  ·exact Or.inl (j.row g h).1
  ·exact Or.inr ⟨by omega, hgl⟩
 ·intro k hk
  rw [hsz]
  rcases hk with hk | hk
  ·have := j.lt k hk; omega
  ·exact hk.2
 ·intro k hkD hkJ
  rcases hkJ with h5 | h5
  ·exact h3 k hkD h5
  ·have := hd.lt k hkD
   omega
 ·intro k hk
  rcases hk with h5 | h5 | h5
  ·exact Or.inl ((h4 k).2 (Or.inl h5))
  ·exact Or.inl ((h4 k).2 (Or.inr h5))
  ·exact Or.inr h5.1
end
section
variable (w : World) (G : Nat → Prop) (p q : Nat) (S : List Sec) (L : List Wr) (n : Nat) (h : Hd) (E : List Ent) (hj : Jr w G p q S L n h E) (s k b : Int) (d : ByteArray) (m : Int) (hf : h.f ≤ 2000000000000000000) (hn : n ≤ 512)
include hj hf hn
set_option maxRecDepth 100000 in
set_option maxHeartbeats 4000000 in
theorem Append_good (he : E.length < n) (hok : EOk ⟨h.g, h.f + E.length, k, b, d, m⟩) (ht : Tab w) (h2n : 2 + n ≤ S.length) (hL : L.length ≤ 900000) :
 Calls Tryz.prog 74 #[.pointer (some ⟨p, 0, none⟩), rec5 s k b d m] w fun r w' => r = .returned (.tuple #[.int .i64 ((h.f + E.length : Nat) : Int), .nilIface]) ∧
  JPost w G p q S (L ++ [(2 + (h.f + E.length) % n, esec ⟨h.g, h.f + E.length, k, b, d, m⟩)]) n h (E ++ [⟨h.g, h.f + E.length, k, b, d, m⟩]) w' := by
 obtain ⟨i0, hi0, hz0, hz1, hz2⟩ := info_parts ent_info
 have Hz1 := hide hz1
 have Hz2 := hide hz2
 clear hz1 hz2
 have hb0 := box_below w s k b d m
 have hbx0 := Bx.new w s k b d m
 have HLT := hide hj.lt
 have HJ0 := hide (hj.below hb0)
 have HB0 := hide hb0
 obtain ⟨sq, hsq⟩ : ∃ sq, h.f + E.length = sq := ⟨_, rfl⟩
 obtain ⟨rm, hrm⟩ : ∃ rm : Int, (n : Int) - (E.length : Int) = rm := ⟨_, rfl⟩
 have hrm1 : ¬ (rm = 0) := by omega
 have hrm2 : (rm == 0) = false := by simp; omega
 have Hroom := hide hrm
 have Hel := hide (show E.length ≤ 512 by omega)
 have Hel2 := hide (show E.length ≤ n by omega)
 have Hel3 := hide he
 clear hrm
 have Hf := hide hf
 have Hn := hide hn
 have Hsq := hide hsq
 rw [hsq] at hok
 have HOK := hide hok
 have HT := hide ht
 have HL := hide hL
 have H2n := hide h2n
 clear hok ht hL h2n
 clear hb0 hj hsq he hf hn
 go_enter Tryz.func74, Tryz.ntmps74
 go_wp2_with fail
 generalize w.alloc _ = w0 at *
 refine (Next_any w0 G p q S L n h E HJ0.out Hf.out (by have := Hel.out; omega)).mono ?_
 rintro e w1 ⟨rfl, hb1⟩
 rw [Hsq.out]
 have hbx1 := hbx0.below hb1
 have hj1 := HJ0.out.below hb1
 have HB1 := hide (HB0.out.trans (hb1.mono HB0.out.size))
 have hx0 := hbx1.c0
 have hy0 := hbx1.free 0
 have hbx2 := hbx1.set0 (sq : Int)
 have HB2 := hide (HB1.out.setCell (p := ⟨w.heap.size, 0, none⟩) (Nat.le_refl _) (.int .i64 (sq : Int)))
 have HJ2 := hide (hj1.kept (Kept.set (K := fun i => i = w.heap.size) (Kept.refl _ w1) rfl 0 (.int .i64 (sq : Int))) (fun i hi e => by have := HLT.out i hi; omega))
 clear hbx0 hb1 hj1 hbx1 HB0 HB1 HJ0
 go_wp2_with fail
 generalize w1.setCell _ _ = w2 at *
 have HR := hide (Room_any w2 G p q S L n h E HJ2.out (by have := Hn.out; omega) Hel2.out)
 rw [Hroom.out] at HR
 refine HR.out.mono ?_
 rintro e w3 ⟨rfl, hb3⟩
 have hbx3 := hbx2.below hb3
 have HJ3 := hide (HJ2.out.below hb3)
 have HB3 := hide (HB2.out.trans (hb3.mono HB2.out.size))
 clear hx0 hy0 hbx2 hb3 HJ2 HB2 HR
 obtain ⟨D, J, X, h1, h2, h3, h4⟩ := HJ3.out
 have hq4 := h2.heads.2.2.2.1
 have hS0 : w3.drew.cell? ⟨p, 4, none⟩ = some (.int .i64 (h.g : Int)) ∧ w3.drew.cell? ⟨w.heap.size, 0, none⟩ = some (.int .i64 (sq : Int)) ∧ w3.drew.cell? ⟨w.heap.size, 1, none⟩ = some (.int .i64 k) ∧ w3.drew.cell? ⟨w.heap.size, 2, none⟩ = some (.int .i64 b) ∧ w3.drew.cell? ⟨w.heap.size, 3, none⟩ = some (.string d) ∧ w3.drew.cell? ⟨w.heap.size, 4, none⟩ = some (.int .i64 m) := ⟨hq4, hbx3.c0, hbx3.c1, hbx3.c2, hbx3.c3, hbx3.c4⟩
 clear h1 h2 h3 h4 hq4
 have HE := hide (Encode_good (h.g : Int) (sq : Int) k b d m w3.drew HOK.out.1 HOK.out.2 (HT.out.below HB3.out.drew HT.out.pos))
 go_wp2_with fail
 refine wp_region_held (S := (fun W => W.cell? ⟨p, 4, none⟩ = some (.int .i64 (h.g : Int)) ∧ W.cell? ⟨w.heap.size, 0, none⟩ = some (.int .i64 (sq : Int)) ∧ W.cell? ⟨w.heap.size, 1, none⟩ = some (.int .i64 k) ∧ W.cell? ⟨w.heap.size, 2, none⟩ = some (.int .i64 b) ∧ W.cell? ⟨w.heap.size, 3, none⟩ = some (.string d) ∧ W.cell? ⟨w.heap.size, 4, none⟩ = some (.int .i64 m))) (by kernel_rfl) ?_
 change wpAnyH _ _ _ _ _ _ _ _ (World.drew _)
 refine wpAnyH_take (i := 0) (oi := ⟨some 23, _, _, _, _, _⟩) (v := ?_) rfl (by kernel_rfl) (by kernel_rfl) (by kernel_rfl) (fun _ _ _ h => h) (Or.inl ⟨by rfl, ?_⟩) hS0 ?_
 rotate_left 1
 ·(intro w hSw; obtain ⟨hSw1, hSw2, hSw3, hSw4, hSw5, hSw6⟩ := hSw; go_simp; try with_reducible rfl)
 simp only [Act.put, sl]
 refine wpAnyH_take (i := 1) (oi := ⟨some 24, _, _, _, _, _⟩) (v := ?_) rfl (by kernel_rfl) (by kernel_rfl) (by kernel_rfl) (fun _ _ _ h => h) (Or.inl ⟨by rfl, ?_⟩) hS0 ?_
 rotate_left 1
 ·(intro w hSw; obtain ⟨hSw1, hSw2, hSw3, hSw4, hSw5, hSw6⟩ := hSw; go_simp; try with_reducible rfl)
 simp only [Act.put, sl]
 refine wpAnyH_take (i := 2) (oi := ⟨some 25, _, _, _, _, _⟩) (v := ?_) rfl (by kernel_rfl) (by kernel_rfl) (by kernel_rfl) (fun _ _ _ h => h) (Or.inl ⟨by rfl, ?_⟩) hS0 ?_
 rotate_left 1
 ·(intro w hSw; obtain ⟨hSw1, hSw2, hSw3, hSw4, hSw5, hSw6⟩ := hSw; go_simp; try with_reducible rfl)
 simp only [Act.put, sl]
 refine wpAnyH_take (i := 3) (oi := ⟨some 26, _, _, _, _, _⟩) (v := ?_) rfl (by kernel_rfl) (by kernel_rfl) (by kernel_rfl) (fun _ _ _ h => h) (Or.inl ⟨by rfl, ?_⟩) hS0 ?_
 rotate_left 1
 ·(intro w hSw; obtain ⟨hSw1, hSw2, hSw3, hSw4, hSw5, hSw6⟩ := hSw; go_simp; try with_reducible rfl)
 simp only [Act.put, sl]
 refine wpAnyH_take (i := 4) (oi := ⟨some 27, _, _, _, _, _⟩) (v := ?_) rfl (by kernel_rfl) (by kernel_rfl) (by kernel_rfl) (fun _ _ _ h => h) (Or.inl ⟨by rfl, ?_⟩) hS0 ?_
 rotate_left 1
 ·(intro w hSw; obtain ⟨hSw1, hSw2, hSw3, hSw4, hSw5, hSw6⟩ := hSw; go_simp; try with_reducible rfl)
 simp only [Act.put, sl]
 refine wpAnyH_take (i := 5) (oi := ⟨some 28, _, _, _, _, _⟩) (v := ?_) rfl (by kernel_rfl) (by kernel_rfl) (by kernel_rfl) (fun _ _ _ h => h) (Or.inl ⟨by rfl, ?_⟩) hS0 ?_
 rotate_left 1
 ·(intro w hSw; obtain ⟨hSw1, hSw2, hSw3, hSw4, hSw5, hSw6⟩ := hSw; go_simp; try with_reducible rfl)
 simp only [Act.put, sl]
 refine wpAnyH_ready (rs := [6]) (by kernel_rfl) (by simp) ?_
 refine AllReadyH.cons (o := ⟨some 29, _, _, _, _, _⟩) rfl (fun K hK => ?_) AllReadyH.nil
 go_simp
 refine HE.out.mono ?_
 rintro r w4 ⟨p4, o4, c4, rfl, _, _, _, hby4, hb4⟩
 have hb4' := drew_below hb4
 have hbx4 := hbx3.below hb4'
 have hj4 := HJ3.out.below hb4'
 have hS1 : w4.cell? ⟨p, 4, none⟩ = some (.int .i64 (h.g : Int)) ∧ w4.cell? ⟨w.heap.size, 0, none⟩ = some (.int .i64 (sq : Int)) ∧ w4.cell? ⟨w.heap.size, 1, none⟩ = some (.int .i64 k) ∧ w4.cell? ⟨w.heap.size, 2, none⟩ = some (.int .i64 b) ∧ w4.cell? ⟨w.heap.size, 3, none⟩ = some (.string d) ∧ w4.cell? ⟨w.heap.size, 4, none⟩ = some (.int .i64 m) := by
  obtain ⟨D, J, X, h1, h2, h3, h4⟩ := hj4
  exact ⟨h2.heads.2.2.2.1, hbx4.c0, hbx4.c1, hbx4.c2, hbx4.c3, hbx4.c4⟩
 have HB4 := hide (HB3.out.trans (hb4'.mono HB3.out.size))
 have HJ4 := hide hj4
 have HY4 := hide hby4
 have HX4 := hide hbx4
 clear hb4 hb4' hbx3 hbx4 hby4 hj4 HE HB3 HJ3 hS0
 refine hK.out _ _ hS1 (fun hHeld => ?_)
 clear hK K
 clear hHeld
 refine wpAnyH_take (i := 7) (oi := ⟨some 22, _, _, _, _, _⟩) (v := ?_) rfl (by kernel_rfl) (by kernel_rfl) (by kernel_rfl) (fun _ _ _ h => h) (Or.inl ⟨by rfl, ?_⟩) hS1 ?_
 rotate_left 1
 ·(intro w hSw; obtain ⟨hSw1, hSw2, hSw3, hSw4, hSw5, hSw6⟩ := hSw; go_simp; try with_reducible rfl)
 simp only [Act.put, sl]
 refine wpAnyH_take (i := 8) (oi := ⟨some 30, _, _, _, _, _⟩) (v := ?_) rfl (by kernel_rfl) (by kernel_rfl) (by kernel_rfl) (fun _ _ _ h => h) (Or.inl ⟨by rfl, ?_⟩) hS1 ?_
 rotate_left 1
 ·(intro w hSw; obtain ⟨hSw1, hSw2, hSw3, hSw4, hSw5, hSw6⟩ := hSw; go_simp; try with_reducible rfl)
 simp only [Act.put, sl]
 refine wpAnyH_take (i := 9) (oi := ⟨some 31, _, _, _, _, _⟩) (v := ?_) rfl (by kernel_rfl) (by kernel_rfl) (by kernel_rfl) (fun _ _ _ h => h) (Or.inl ⟨by rfl, ?_⟩) hS1 ?_
 rotate_left 1
 ·(intro w hSw; obtain ⟨hSw1, hSw2, hSw3, hSw4, hSw5, hSw6⟩ := hSw; go_simp; try with_reducible rfl)
 simp only [Act.put, sl]
 refine wpAnyH_take (i := 10) (oi := ⟨some 6, _, _, _, _, _⟩) (v := ?_) rfl (by kernel_rfl) (by kernel_rfl) (by kernel_rfl) (fun _ _ _ h => h) (Or.inl ⟨by rfl, ?_⟩) hS1 ?_
 rotate_left 1
 ·(intro w hSw; obtain ⟨hSw1, hSw2, hSw3, hSw4, hSw5, hSw6⟩ := hSw; go_simp; try with_reducible rfl)
 simp only [Act.put, sl]
 refine wpAnyH_take (i := 11) (oi := ⟨some 7, _, _, _, _, _⟩) (v := ?_) rfl (by kernel_rfl) (by kernel_rfl) (by kernel_rfl) (fun _ _ _ h => h) (Or.inl ⟨by rfl, ?_⟩) hS1 ?_
 rotate_left 1
 ·(intro w hSw; obtain ⟨hSw1, hSw2, hSw3, hSw4, hSw5, hSw6⟩ := hSw; go_simp; try with_reducible rfl)
 simp only [Act.put, sl]
 refine wpAnyH_done (by kernel_rfl) ?_ _
 clear hS1
 have HJ4d := hide (HJ4.out.below (Below.refl w4.heap.size w4).drew)
 obtain ⟨D, J, X, h1, h2, h3, h4⟩ := HJ4d.out
 obtain ⟨cc, hcc⟩ : ∃ cc, 2 + sq % n = cc := ⟨_, rfl⟩
 have HCC := hide hcc
 have HS := hide (sector_any w4.drew G p q S L n h E HJ4d.out sq (by have := Hel3.out; omega) (by have := Hn.out; omega))
 rw [hcc] at HS
 have hcl : cc < S.length := by have := H2n.out; have := Nat.mod_lt sq (show 0 < n by have := Hel3.out; omega); omega
 have HWR := hide (fun cap => Dk.Write_any w4.drew D q cc cap (some ⟨p4, o4, none⟩) S L (esec ⟨h.g, sq, k, b, d, m⟩) h1 hcl HY4.out (esec_length HOK.out) HL.out)
 have HPP := fun w' => hide (fun hp => Jr.disk (w' := w') (S' := S) (L' := L ++ [(cc, esec ⟨h.g, sq, k, b, d, m⟩)]) h2 h3 h4 hp)
 have hS2 : w4.drew.cell? ⟨p, 0, none⟩ = some (.pointer (some ⟨q, 0, none⟩)) ∧ w4.drew.cell? ⟨w.heap.size, 0, none⟩ = some (.int .i64 (sq : Int)) := ⟨h2.heads.1, HX4.out.c0⟩
 clear h1 h2 h3 h4 hcc hcl
 go_wp2_with fail
 refine wp_region_held (S := (fun W => W.cell? ⟨p, 0, none⟩ = some (.pointer (some ⟨q, 0, none⟩)) ∧ W.cell? ⟨w.heap.size, 0, none⟩ = some (.int .i64 (sq : Int)))) (by kernel_rfl) ?_
 change wpAnyH _ _ _ _ _ _ _ _ (World.drew _)
 refine wpAnyH_take (i := 0) (oi := ⟨some 38, _, _, _, _, _⟩) (v := ?_) rfl (by kernel_rfl) (by kernel_rfl) (by kernel_rfl) (fun _ _ _ h => h) (Or.inl ⟨by rfl, ?_⟩) hS2 ?_
 rotate_left 1
 ·(intro w hSw; obtain ⟨hSw1, hSw2⟩ := hSw; go_simp; try with_reducible rfl)
 simp only [Act.put, sl]
 refine wpAnyH_take (i := 1) (oi := ⟨some 39, _, _, _, _, _⟩) (v := ?_) rfl (by kernel_rfl) (by kernel_rfl) (by kernel_rfl) (fun _ _ _ h => h) (Or.inl ⟨by rfl, ?_⟩) hS2 ?_
 rotate_left 1
 ·(intro w hSw; obtain ⟨hSw1, hSw2⟩ := hSw; go_simp; try with_reducible rfl)
 simp only [Act.put, sl]
 refine wpAnyH_take (i := 2) (oi := ⟨some 40, _, _, _, _, _⟩) (v := ?_) rfl (by kernel_rfl) (by kernel_rfl) (by kernel_rfl) (fun _ _ _ h => h) (Or.inl ⟨by rfl, ?_⟩) hS2 ?_
 rotate_left 1
 ·(intro w hSw; obtain ⟨hSw1, hSw2⟩ := hSw; go_simp; try with_reducible rfl)
 simp only [Act.put, sl]
 refine wpAnyH_take (i := 3) (oi := ⟨some 41, _, _, _, _, _⟩) (v := ?_) rfl (by kernel_rfl) (by kernel_rfl) (by kernel_rfl) (fun _ _ _ h => h) (Or.inl ⟨by rfl, ?_⟩) hS2 ?_
 rotate_left 1
 ·(intro w hSw; obtain ⟨hSw1, hSw2⟩ := hSw; go_simp; try with_reducible rfl)
 simp only [Act.put, sl]
 refine wpAnyH_take (i := 4) (oi := ⟨some 42, _, _, _, _, _⟩) (v := ?_) rfl (by kernel_rfl) (by kernel_rfl) (by kernel_rfl) (fun _ _ _ h => h) (Or.inl ⟨by rfl, ?_⟩) hS2 ?_
 rotate_left 1
 ·(intro w hSw; obtain ⟨hSw1, hSw2⟩ := hSw; go_simp; try with_reducible rfl)
 simp only [Act.put, sl]
 refine wpAnyH_take (i := 5) (oi := ⟨some 43, _, _, _, _, _⟩) (v := ?_) rfl (by kernel_rfl) (by kernel_rfl) (by kernel_rfl) (fun _ _ _ h => h) (Or.inl ⟨by rfl, ?_⟩) hS2 ?_
 rotate_left 1
 ·(intro w hSw; obtain ⟨hSw1, hSw2⟩ := hSw; go_simp; try with_reducible rfl)
 simp only [Act.put, sl]
 refine wpAnyH_take (i := 6) (oi := ⟨some 44, _, _, _, _, _⟩) (v := ?_) rfl (by kernel_rfl) (by kernel_rfl) (by kernel_rfl) (fun _ _ _ h => h) (Or.inl ⟨by rfl, ?_⟩) hS2 ?_
 rotate_left 1
 ·(intro w hSw; obtain ⟨hSw1, hSw2⟩ := hSw; go_simp; try with_reducible rfl)
 simp only [Act.put, sl]
 refine wpAnyH_take (i := 8) (oi := ⟨some 46, _, _, _, _, _⟩) (v := ?_) rfl (by kernel_rfl) (by kernel_rfl) (by kernel_rfl) (fun _ _ _ h => h) (Or.inl ⟨by rfl, ?_⟩) hS2 ?_
 rotate_left 1
 ·(intro w hSw; obtain ⟨hSw1, hSw2⟩ := hSw; go_simp; try with_reducible rfl)
 simp only [Act.put, sl]
 refine wpAnyH_ready (rs := [7]) (by kernel_rfl) (by simp) ?_
 refine AllReadyH.cons (o := ⟨some 45, _, _, _, _, _⟩) rfl (fun K hK => ?_) AllReadyH.nil
 go_simp
 refine HS.out.mono ?_
 rintro r w' ⟨rfl, rfl⟩
 refine hK.out _ _ hS2 (fun hHeld => ?_)
 clear hK K
 clear hHeld
 refine wpAnyH_ready (rs := [9]) (by kernel_rfl) (by simp) ?_
 refine AllReadyH.cons (o := ⟨some 47, _, _, _, _, _⟩) rfl (fun K hK => ?_) AllReadyH.nil
 go_simp
 refine (HWR.out _).mono ?_
 rintro r w5 ⟨rfl, hp5⟩
 obtain ⟨G5, hj5, hg5, hk5⟩ := (HPP w5).out hp5
 obtain ⟨D5, J5, X5, h1, h2, h3, h4⟩ := hj5
 obtain ⟨el, hel⟩ : ∃ el, E.length = el := ⟨_, rfl⟩
 obtain ⟨A, c, rfl, c0, c1, c2, c3, c4', c5, c6, fz⟩ := h2.cells
 rw [hel] at c6
 have HX5 : Hid (Bx w5 w.heap.size (sq : Int) k b d m) := (hk5.block _ HX4.out.lt (fun hg => by have := HLT.out _ hg; omega)).trans HX4.out
 have hS3 : w5.cell? ⟨p, 0, none⟩ = some (.pointer (some ⟨q, 0, none⟩)) ∧ w5.cell? ⟨w.heap.size, 0, none⟩ = some (.int .i64 (sq : Int)) := ⟨c0, HX5.out.c0⟩
 refine hK.out _ _ hS3 (fun hHeld => ?_)
 clear hK K
 clear hHeld
 refine wpAnyH_done (by kernel_rfl) ?_ _
 clear hS2
 clear hS3
 have HNJ : Hid (¬ J5 w.heap.size) := fun hg => by
  rcases hg5 _ ((h4 _).2 (Or.inr hg)) with h5 | h5
  ·have := HLT.out _ h5; omega
  ·have := HX4.out.lt; exact absurd h5 (Nat.not_le_of_lt this)
 have H1 := hide h1
 have H2 := hide h2
 have H3 := hide h3
 have H4 := hide h4
 have HG5 := hide hg5
 have HK5 := hide hk5
 have Hel4 := hide hel
 have hbW : Below w5.heap.size w5 (w5.drew.alloc (.cells #[.int .i64 (h.g : Int), .int .i64 (sq : Int), .int .i64 k, .int .i64 b, .string d, .int .i64 m] 150)) := (Below.refl w5.heap.size w5).drew.alloc (Nat.le_refl _) _
 have HBW := hide hbW
 have HO : Hid ((w5.drew.alloc (.cells #[.int .i64 (h.g : Int), .int .i64 (sq : Int), .int .i64 k, .int .i64 b, .string d, .int .i64 m] 150)).ownsRow 0 150 6 (.slice A el c) el (ecels E)) := by
  have := Fa.own_below h2.own hbW
  rw [hel] at this
  exact this
 rw [hel] at H2
 have HN : Hid (∀ j u, (ecel ⟨h.g, sq, k, b, d, m⟩)[j]? = some u → (w5.drew.alloc (.cells #[.int .i64 (h.g : Int), .int .i64 (sq : Int), .int .i64 k, .int .i64 b, .string d, .int .i64 m] 150)).cell? ((⟨w5.heap.size, 0, none⟩ : Addr).add j) = some u) := fun j u hu => by
  rw [Addr.add_mid, Nat.zero_add]
  show (w5.drew.alloc _).cell? ⟨w5.drew.heap.size, j, none⟩ = _
  rw [cell_of_row _ _ j _ _ _ (heap_alloc_new w5.drew _)]
  exact List.getElem?_toArray.trans hu
 have Hm1 := hide (show el + 1 ≤ maxLen by have := Hel.out; unfold maxLen; omega)
 have Hm2 := hide (show (el + 1) * 56 ≤ 140737488355328 by have := Hel.out; omega)
 have HK4 := hide (Kept.of_below (G := G) HB4.out.drew)
 have c6' : (w5.alloc (.cells #[.int .i64 (h.g : Int), .int .i64 (sq : Int), .int .i64 k, .int .i64 b, .string d, .int .i64 m] 150)).cell? ⟨p, 6, none⟩ = some (.slice A el c) := ((Below.refl w5.heap.size w5).alloc (Nat.le_refl _) _).cell (p := ⟨p, 6, none⟩) (h2.lt p h2.mine) |>.trans c6
 have hSa : w5.drew.cell? ⟨p, 4, none⟩ = some (.int .i64 (h.g : Int)) ∧ w5.drew.cell? ⟨w.heap.size, 0, none⟩ = some (.int .i64 (sq : Int)) ∧ w5.drew.cell? ⟨w.heap.size, 1, none⟩ = some (.int .i64 k) ∧ w5.drew.cell? ⟨w.heap.size, 2, none⟩ = some (.int .i64 b) ∧ w5.drew.cell? ⟨w.heap.size, 3, none⟩ = some (.string d) ∧ w5.drew.cell? ⟨w.heap.size, 4, none⟩ = some (.int .i64 m) := ⟨c4', HX5.out.c0, HX5.out.c1, HX5.out.c2, HX5.out.c3, HX5.out.c4⟩
 have hSb : (w5.drew.alloc (.cells #[.int .i64 (h.g : Int), .int .i64 (sq : Int), .int .i64 k, .int .i64 b, .string d, .int .i64 m] 150)).cell? ⟨p, 4, none⟩ = some (.int .i64 (h.g : Int)) ∧ (w5.drew.alloc (.cells #[.int .i64 (h.g : Int), .int .i64 (sq : Int), .int .i64 k, .int .i64 b, .string d, .int .i64 m] 150)).cell? ⟨w.heap.size, 0, none⟩ = some (.int .i64 (sq : Int)) ∧ (w5.drew.alloc (.cells #[.int .i64 (h.g : Int), .int .i64 (sq : Int), .int .i64 k, .int .i64 b, .string d, .int .i64 m] 150)).cell? ⟨w.heap.size, 1, none⟩ = some (.int .i64 k) ∧ (w5.drew.alloc (.cells #[.int .i64 (h.g : Int), .int .i64 (sq : Int), .int .i64 k, .int .i64 b, .string d, .int .i64 m] 150)).cell? ⟨w.heap.size, 2, none⟩ = some (.int .i64 b) ∧ (w5.drew.alloc (.cells #[.int .i64 (h.g : Int), .int .i64 (sq : Int), .int .i64 k, .int .i64 b, .string d, .int .i64 m] 150)).cell? ⟨w.heap.size, 3, none⟩ = some (.string d) ∧ (w5.drew.alloc (.cells #[.int .i64 (h.g : Int), .int .i64 (sq : Int), .int .i64 k, .int .i64 b, .string d, .int .i64 m] 150)).cell? ⟨w.heap.size, 4, none⟩ = some (.int .i64 m) := ⟨(h2.below hbW).heads.2.2.2.1, (HX5.out.below hbW).c0, (HX5.out.below hbW).c1, (HX5.out.below hbW).c2, (HX5.out.below hbW).c3, (HX5.out.below hbW).c4⟩
 clear h1 h2 h3 h4 hg5 hk5 hp5 hbW c0 c1 c2 c3 c4' c5 fz hel HPP HWR HS
 go_wp2_with fail
 refine wp_region_held (S := (fun W => W.cell? ⟨p, 4, none⟩ = some (.int .i64 (h.g : Int)) ∧ W.cell? ⟨w.heap.size, 0, none⟩ = some (.int .i64 (sq : Int)) ∧ W.cell? ⟨w.heap.size, 1, none⟩ = some (.int .i64 k) ∧ W.cell? ⟨w.heap.size, 2, none⟩ = some (.int .i64 b) ∧ W.cell? ⟨w.heap.size, 3, none⟩ = some (.string d) ∧ W.cell? ⟨w.heap.size, 4, none⟩ = some (.int .i64 m))) (by kernel_rfl) ?_
 change wpAnyH _ _ _ _ _ _ _ _ (World.drew _)
 refine wpAnyH_take (i := 0) (oi := ⟨some 48, _, _, _, _, _⟩) (v := ?_) rfl (by kernel_rfl) (by kernel_rfl) (by kernel_rfl) (fun _ _ _ h => h) (Or.inl ⟨by rfl, ?_⟩) hSa ?_
 rotate_left 1
 ·(intro w hSw; obtain ⟨hSw1, hSw2, hSw3, hSw4, hSw5, hSw6⟩ := hSw; go_simp; try with_reducible rfl)
 simp only [Act.put, sl]
 refine wpAnyH_take (i := 1) (oi := ⟨some 49, _, _, _, _, _⟩) (v := ?_) rfl (by kernel_rfl) (by kernel_rfl) (by kernel_rfl) (fun _ _ _ h => h) (Or.inl ⟨by rfl, ?_⟩) hSa ?_
 rotate_left 1
 ·(intro w hSw; obtain ⟨hSw1, hSw2, hSw3, hSw4, hSw5, hSw6⟩ := hSw; go_simp; try with_reducible rfl)
 simp only [Act.put, sl]
 refine wpAnyH_take (i := 2) (oi := ⟨some 50, _, _, _, _, _⟩) (v := ?_) rfl (by kernel_rfl) (by kernel_rfl) (by kernel_rfl) (fun _ _ _ h => h) (Or.inl ⟨by rfl, ?_⟩) hSa ?_
 rotate_left 1
 ·(intro w hSw; obtain ⟨hSw1, hSw2, hSw3, hSw4, hSw5, hSw6⟩ := hSw; go_simp; try with_reducible rfl)
 simp only [Act.put, sl]
 refine wpAnyH_take (i := 3) (oi := ⟨some 51, _, _, _, _, _⟩) (v := ?_) rfl (by kernel_rfl) (by kernel_rfl) (by kernel_rfl) (fun _ _ _ h => h) (Or.inl ⟨by rfl, ?_⟩) hSa ?_
 rotate_left 1
 ·(intro w hSw; obtain ⟨hSw1, hSw2, hSw3, hSw4, hSw5, hSw6⟩ := hSw; go_simp; try with_reducible rfl)
 simp only [Act.put, sl]
 refine wpAnyH_take (i := 5) (oi := ⟨some 53, _, _, _, _, _⟩) (v := ?_) rfl (by kernel_rfl) (by kernel_rfl) (by kernel_rfl) (fun _ _ _ h => h) (Or.inl ⟨by rfl, ?_⟩) hSa ?_
 rotate_left 1
 ·(intro w hSw; obtain ⟨hSw1, hSw2, hSw3, hSw4, hSw5, hSw6⟩ := hSw; go_simp; try with_reducible rfl)
 simp only [Act.put, sl]
 refine wpAnyH_take (i := 6) (oi := ⟨some 54, _, _, _, _, _⟩) (v := ?_) rfl (by kernel_rfl) (by kernel_rfl) (by kernel_rfl) (fun _ _ _ h => h) (Or.inl ⟨by rfl, ?_⟩) hSa ?_
 rotate_left 1
 ·(intro w hSw; obtain ⟨hSw1, hSw2, hSw3, hSw4, hSw5, hSw6⟩ := hSw; go_simp; try with_reducible rfl)
 simp only [Act.put, sl]
 refine wpAnyH_take (i := 7) (oi := ⟨some 55, _, _, _, _, _⟩) (v := ?_) rfl (by kernel_rfl) (by kernel_rfl) (by kernel_rfl) (fun _ _ _ h => h) (Or.inl ⟨by rfl, ?_⟩) hSa ?_
 rotate_left 1
 ·(intro w hSw; obtain ⟨hSw1, hSw2, hSw3, hSw4, hSw5, hSw6⟩ := hSw; go_simp; try with_reducible rfl)
 simp only [Act.put, sl]
 refine wpAnyH_take (i := 8) (oi := ⟨some 56, _, _, _, _, _⟩) (v := ?_) rfl (by kernel_rfl) (by kernel_rfl) (by kernel_rfl) (fun _ _ _ h => h) (Or.inl ⟨by rfl, ?_⟩) hSa ?_
 rotate_left 1
 ·(intro w hSw; obtain ⟨hSw1, hSw2, hSw3, hSw4, hSw5, hSw6⟩ := hSw; go_simp; try with_reducible rfl)
 simp only [Act.put, sl]
 refine wpAnyH_take (i := 9) (oi := ⟨some 57, _, _, _, _, _⟩) (v := ?_) rfl (by kernel_rfl) (by kernel_rfl) (by kernel_rfl) (fun _ _ _ h => h) (Or.inl ⟨by rfl, ?_⟩) hSa ?_
 rotate_left 1
 ·(intro w hSw; obtain ⟨hSw1, hSw2, hSw3, hSw4, hSw5, hSw6⟩ := hSw; go_simp; try with_reducible rfl)
 simp only [Act.put, sl]
 refine wpAnyH_take (i := 10) (oi := ⟨some 58, _, _, _, _, _⟩) (v := ?_) rfl (by kernel_rfl) (by kernel_rfl) (by kernel_rfl) (fun _ _ _ h => h) (Or.inl ⟨by rfl, ?_⟩) hSa ?_
 rotate_left 1
 ·(intro w hSw; obtain ⟨hSw1, hSw2, hSw3, hSw4, hSw5, hSw6⟩ := hSw; go_simp; try with_reducible rfl)
 simp only [Act.put, sl]
 refine wpAnyH_take (i := 11) (oi := ⟨some 59, _, _, _, _, _⟩) (v := ?_) rfl (by kernel_rfl) (by kernel_rfl) (by kernel_rfl) (fun _ _ _ h => h) (Or.inl ⟨by rfl, ?_⟩) hSa ?_
 rotate_left 1
 ·(intro w hSw; obtain ⟨hSw1, hSw2, hSw3, hSw4, hSw5, hSw6⟩ := hSw; go_simp; try with_reducible rfl)
 simp only [Act.put, sl]
 refine wpAnyH_ready (rs := [4, 12]) (by kernel_rfl) (by simp) ?_
 refine AllReadyH.cons (o := ⟨some 52, _, _, _, _, _⟩) rfl (fun K hK => ?_) (AllReadyH.cons (o := ⟨some 60, _, _, _, _, _⟩) rfl (fun K hK => ?_) AllReadyH.nil)
 ·go_simp
  refine hK.out _ _ (by first | exact hSa | exact hSb) (fun hHeld => ?_)
  clear hK K
  clear hHeld
  refine wpAnyH_ready (rs := [12]) (by kernel_rfl) (by simp) ?_
  refine AllReadyH.cons (o := ⟨some 60, _, _, _, _, _⟩) rfl (fun K hK => ?_) AllReadyH.nil
  go_simp
  refine hK.out _ _ hSb (fun hHeld => ?_)
  clear hK K
  clear hHeld
  refine wpAnyH_ready (rs := [13]) (by kernel_rfl) (by simp) ?_
  refine AllReadyH.cons (o := ⟨some 61, _, _, _, _, _⟩) rfl (fun K hK => ?_) AllReadyH.nil
  refine step_append_lies _ rfl (.tmp 52) (.tmp 60) 124 rfl 0 150 i0 _ 6 56 Tryz.underlying124 hi0 hz0 Hz1.out Hz2.out rfl (by decide) (.slice A el c) el (ecels E) rfl HO.out ⟨w5.heap.size, 0, none⟩ 1 1 (ecel ⟨h.g, sq, k, b, d, m⟩) rfl rfl HN.out (ecel_one _) (by decide) Hm1.out Hm2.out (Nat.zero_le _) _ rfl ?_
  intro g2 cap w6 hown6 hgr6 hor6 hlt6
  have HP := hide (JnAt.appended (y := ⟨h.g, sq, k, b, d, m⟩) H1.out H2.out H3.out H4.out HBW.out hgr6 hown6 hor6 Hel4.out)
  have hc6 : w6.cell? ⟨p, 6, none⟩ = some (.slice A el c) := by simp [World.cell?, H2.out.box6 HBW.out hgr6]
  have hf6 : w6.frozen? ⟨p, 6, none⟩ = false := by simp [World.frozen?, H2.out.box6 HBW.out hgr6]
  have hbx6 : Bx w6 w.heap.size (sq : Int) k b d m := (hgr6.block _ (Nat.lt_of_lt_of_le HX5.out.lt HBW.out.size) (fun e => HNJ.out ((H2.out.row _ e.symm).1))).trans ((HBW.out.block _ HX5.out.lt).trans HX5.out)
  have hbx7 : Bx (w6.setCell ⟨p, 6, none⟩ (.slice (some ⟨g2, 0, none⟩) (el + 1) cap)) w.heap.size (sq : Int) k b d m := (heap_setCell_other _ _ _ _ (fun e => HNJ.out (by have e2 : w.heap.size = p := e; rw [e2]; exact H2.out.mine))).trans hbx6
  have hc4g : w6.cell? ⟨p, 4, none⟩ = some (.int .i64 (h.g : Int)) := by simp [World.cell?, H2.out.box6 HBW.out hgr6]
  have hc4h : (w6.setCell ⟨p, 6, none⟩ (.slice (some ⟨g2, 0, none⟩) (el + 1) cap)).cell? ⟨p, 4, none⟩ = some (.int .i64 (h.g : Int)) := by obtain ⟨G7, ⟨D7, J7, X7, _, k2, _, _⟩, _, _⟩ := HP.out; exact k2.heads.2.2.2.1
  have hg0 := hbx7.c0
  clear hown6 hgr6 hor6 hlt6
  have hSc : w6.cell? ⟨p, 4, none⟩ = some (.int .i64 (h.g : Int)) ∧ w6.cell? ⟨w.heap.size, 0, none⟩ = some (.int .i64 (sq : Int)) ∧ w6.cell? ⟨w.heap.size, 1, none⟩ = some (.int .i64 k) ∧ w6.cell? ⟨w.heap.size, 2, none⟩ = some (.int .i64 b) ∧ w6.cell? ⟨w.heap.size, 3, none⟩ = some (.string d) ∧ w6.cell? ⟨w.heap.size, 4, none⟩ = some (.int .i64 m) := ⟨hc4g, hbx6.c0, hbx6.c1, hbx6.c2, hbx6.c3, hbx6.c4⟩
  have hSd : (w6.setCell ⟨p, 6, none⟩ (.slice (some ⟨g2, 0, none⟩) (el + 1) cap)).cell? ⟨p, 4, none⟩ = some (.int .i64 (h.g : Int)) ∧ (w6.setCell ⟨p, 6, none⟩ (.slice (some ⟨g2, 0, none⟩) (el + 1) cap)).cell? ⟨w.heap.size, 0, none⟩ = some (.int .i64 (sq : Int)) ∧ (w6.setCell ⟨p, 6, none⟩ (.slice (some ⟨g2, 0, none⟩) (el + 1) cap)).cell? ⟨w.heap.size, 1, none⟩ = some (.int .i64 k) ∧ (w6.setCell ⟨p, 6, none⟩ (.slice (some ⟨g2, 0, none⟩) (el + 1) cap)).cell? ⟨w.heap.size, 2, none⟩ = some (.int .i64 b) ∧ (w6.setCell ⟨p, 6, none⟩ (.slice (some ⟨g2, 0, none⟩) (el + 1) cap)).cell? ⟨w.heap.size, 3, none⟩ = some (.string d) ∧ (w6.setCell ⟨p, 6, none⟩ (.slice (some ⟨g2, 0, none⟩) (el + 1) cap)).cell? ⟨w.heap.size, 4, none⟩ = some (.int .i64 m) := ⟨hc4h, hbx7.c0, hbx7.c1, hbx7.c2, hbx7.c3, hbx7.c4⟩
  have HSD := hide hSd
  clear hSd hc4g hc4h hbx6 hbx7 hg0
  refine hK.out _ _ hSc (fun hHeld => ?_)
  clear hK K
  clear hHeld
  refine wpAnyH_take (i := 14) (oi := ⟨some 62, _, _, _, _, _⟩) (v := ?_) rfl (by kernel_rfl) (by kernel_rfl) (by kernel_rfl) (fun _ _ _ h => h) (Or.inl ⟨by rfl, ?_⟩) hSc ?_
  rotate_left 1
  ·(intro w hSw; obtain ⟨hSw1, hSw2, hSw3, hSw4, hSw5, hSw6⟩ := hSw; go_simp; try with_reducible rfl)
  simp only [Act.put, sl]
  refine wpAnyH_take (i := 15) (oi := ⟨some 63, _, _, _, _, _⟩) (v := ?_) rfl (by kernel_rfl) (by kernel_rfl) (by kernel_rfl) (fun _ _ _ h => h) (Or.inl ⟨by rfl, ?_⟩) hSc ?_
  rotate_left 1
  ·(intro w hSw; obtain ⟨hSw1, hSw2, hSw3, hSw4, hSw5, hSw6⟩ := hSw; go_simp; try with_reducible rfl)
  simp only [Act.put, sl]
  refine wpAnyH_ready (rs := [16]) (by kernel_rfl) (by simp) ?_
  refine AllReadyH.cons (o := ⟨none, _, _, _, _, _⟩) rfl (fun K hK => ?_) AllReadyH.nil
  go_simp
  have hSd := HSD.out
  generalize w6.setCell _ _ = w7 at *
  have hg0 := hSd.2.1
  refine hK.out _ _ hSd (fun hHeld => ?_)
  clear hK K
  clear hHeld
  refine wpAnyH_done (by kernel_rfl) ?_ _
  clear hSd
  go_wp2
  go_ret2
  have e1 := Hsq.out
  have e2 := HCC.out
  subst e2
  subst e1
  refine ⟨rfl, ?_⟩
  exact JPost.of (Grew.refl _ _) HK4.out (JPost.of HG5.out HK5.out HP.out)
 ·go_simp
  refine hK.out _ _ hSb (fun hHeld => ?_)
  clear hK K
  clear hHeld
  refine wpAnyH_ready (rs := [4]) (by kernel_rfl) (by simp) ?_
  refine AllReadyH.cons (o := ⟨some 52, _, _, _, _, _⟩) rfl (fun K hK => ?_) AllReadyH.nil
  go_simp
  refine hK.out _ _ (by first | exact hSa | exact hSb) (fun hHeld => ?_)
  clear hK K
  clear hHeld
  refine wpAnyH_ready (rs := [13]) (by kernel_rfl) (by simp) ?_
  refine AllReadyH.cons (o := ⟨some 61, _, _, _, _, _⟩) rfl (fun K hK => ?_) AllReadyH.nil
  refine step_append_lies _ rfl (.tmp 52) (.tmp 60) 124 rfl 0 150 i0 _ 6 56 Tryz.underlying124 hi0 hz0 Hz1.out Hz2.out rfl (by decide) (.slice A el c) el (ecels E) rfl HO.out ⟨w5.heap.size, 0, none⟩ 1 1 (ecel ⟨h.g, sq, k, b, d, m⟩) rfl rfl HN.out (ecel_one _) (by decide) Hm1.out Hm2.out (Nat.zero_le _) _ rfl ?_
  intro g2 cap w6 hown6 hgr6 hor6 hlt6
  have HP := hide (JnAt.appended (y := ⟨h.g, sq, k, b, d, m⟩) H1.out H2.out H3.out H4.out HBW.out hgr6 hown6 hor6 Hel4.out)
  have hc6 : w6.cell? ⟨p, 6, none⟩ = some (.slice A el c) := by simp [World.cell?, H2.out.box6 HBW.out hgr6]
  have hf6 : w6.frozen? ⟨p, 6, none⟩ = false := by simp [World.frozen?, H2.out.box6 HBW.out hgr6]
  have hbx6 : Bx w6 w.heap.size (sq : Int) k b d m := (hgr6.block _ (Nat.lt_of_lt_of_le HX5.out.lt HBW.out.size) (fun e => HNJ.out ((H2.out.row _ e.symm).1))).trans ((HBW.out.block _ HX5.out.lt).trans HX5.out)
  have hbx7 : Bx (w6.setCell ⟨p, 6, none⟩ (.slice (some ⟨g2, 0, none⟩) (el + 1) cap)) w.heap.size (sq : Int) k b d m := (heap_setCell_other _ _ _ _ (fun e => HNJ.out (by have e2 : w.heap.size = p := e; rw [e2]; exact H2.out.mine))).trans hbx6
  have hc4g : w6.cell? ⟨p, 4, none⟩ = some (.int .i64 (h.g : Int)) := by simp [World.cell?, H2.out.box6 HBW.out hgr6]
  have hc4h : (w6.setCell ⟨p, 6, none⟩ (.slice (some ⟨g2, 0, none⟩) (el + 1) cap)).cell? ⟨p, 4, none⟩ = some (.int .i64 (h.g : Int)) := by obtain ⟨G7, ⟨D7, J7, X7, _, k2, _, _⟩, _, _⟩ := HP.out; exact k2.heads.2.2.2.1
  have hg0 := hbx7.c0
  clear hown6 hgr6 hor6 hlt6
  have hSc : w6.cell? ⟨p, 4, none⟩ = some (.int .i64 (h.g : Int)) ∧ w6.cell? ⟨w.heap.size, 0, none⟩ = some (.int .i64 (sq : Int)) ∧ w6.cell? ⟨w.heap.size, 1, none⟩ = some (.int .i64 k) ∧ w6.cell? ⟨w.heap.size, 2, none⟩ = some (.int .i64 b) ∧ w6.cell? ⟨w.heap.size, 3, none⟩ = some (.string d) ∧ w6.cell? ⟨w.heap.size, 4, none⟩ = some (.int .i64 m) := ⟨hc4g, hbx6.c0, hbx6.c1, hbx6.c2, hbx6.c3, hbx6.c4⟩
  have hSd : (w6.setCell ⟨p, 6, none⟩ (.slice (some ⟨g2, 0, none⟩) (el + 1) cap)).cell? ⟨p, 4, none⟩ = some (.int .i64 (h.g : Int)) ∧ (w6.setCell ⟨p, 6, none⟩ (.slice (some ⟨g2, 0, none⟩) (el + 1) cap)).cell? ⟨w.heap.size, 0, none⟩ = some (.int .i64 (sq : Int)) ∧ (w6.setCell ⟨p, 6, none⟩ (.slice (some ⟨g2, 0, none⟩) (el + 1) cap)).cell? ⟨w.heap.size, 1, none⟩ = some (.int .i64 k) ∧ (w6.setCell ⟨p, 6, none⟩ (.slice (some ⟨g2, 0, none⟩) (el + 1) cap)).cell? ⟨w.heap.size, 2, none⟩ = some (.int .i64 b) ∧ (w6.setCell ⟨p, 6, none⟩ (.slice (some ⟨g2, 0, none⟩) (el + 1) cap)).cell? ⟨w.heap.size, 3, none⟩ = some (.string d) ∧ (w6.setCell ⟨p, 6, none⟩ (.slice (some ⟨g2, 0, none⟩) (el + 1) cap)).cell? ⟨w.heap.size, 4, none⟩ = some (.int .i64 m) := ⟨hc4h, hbx7.c0, hbx7.c1, hbx7.c2, hbx7.c3, hbx7.c4⟩
  have HSD := hide hSd
  clear hSd hc4g hc4h hbx6 hbx7 hg0
  refine hK.out _ _ hSc (fun hHeld => ?_)
  clear hK K
  clear hHeld
  refine wpAnyH_take (i := 14) (oi := ⟨some 62, _, _, _, _, _⟩) (v := ?_) rfl (by kernel_rfl) (by kernel_rfl) (by kernel_rfl) (fun _ _ _ h => h) (Or.inl ⟨by rfl, ?_⟩) hSc ?_
  rotate_left 1
  ·(intro w hSw; obtain ⟨hSw1, hSw2, hSw3, hSw4, hSw5, hSw6⟩ := hSw; go_simp; try with_reducible rfl)
  simp only [Act.put, sl]
  refine wpAnyH_take (i := 15) (oi := ⟨some 63, _, _, _, _, _⟩) (v := ?_) rfl (by kernel_rfl) (by kernel_rfl) (by kernel_rfl) (fun _ _ _ h => h) (Or.inl ⟨by rfl, ?_⟩) hSc ?_
  rotate_left 1
  ·(intro w hSw; obtain ⟨hSw1, hSw2, hSw3, hSw4, hSw5, hSw6⟩ := hSw; go_simp; try with_reducible rfl)
  simp only [Act.put, sl]
  refine wpAnyH_ready (rs := [16]) (by kernel_rfl) (by simp) ?_
  refine AllReadyH.cons (o := ⟨none, _, _, _, _, _⟩) rfl (fun K hK => ?_) AllReadyH.nil
  go_simp
  have hSd := HSD.out
  generalize w6.setCell _ _ = w7 at *
  have hg0 := hSd.2.1
  refine hK.out _ _ hSd (fun hHeld => ?_)
  clear hK K
  clear hHeld
  refine wpAnyH_done (by kernel_rfl) ?_ _
  clear hSd
  go_wp2
  go_ret2
  have e1 := Hsq.out
  have e2 := HCC.out
  subst e2
  subst e1
  refine ⟨rfl, ?_⟩
  exact JPost.of (Grew.refl _ _) HK4.out (JPost.of HG5.out HK5.out HP.out)
end
end Go.Proofs.YtapiogcoipeinaaGreatDoor.Jn
namespace Go.Proofs.YtapiogcoipeinaaGreatDoor.Jn
open Go.RowKit
open Pk Sm Fa Rc Dk
theorem Decode_une (A : Option Addr) (s : Sec) (w : World) (hs : s.length = 64) (hb : Byt w w.heap.size A s) (ht : Tab w) :
 Calls Tryz.prog 88 #[.slice A 64 64] w fun e w' => ((∃ x, une s = some x ∧ e = .returned (.tuple #[.int .i64 (x.g : Int), rec5 (x.s : Int) x.k x.b x.d x.m, .nilIface])) ∨
  (une s = none ∧ ∃ p, e = .returned (.tuple #[.int .i64 0, rec5 0 0 0 ⟨#[]⟩ 0, .iface 145 (.pointer (some ⟨p, 0, none⟩))]))) ∧ Below w.heap.size w w' := by
 cases hu : une s with
 | some x =>
   obtain ⟨hx, rfl⟩ := une_spec hu
   refine (Decode_good A 64 w _ _ _ _ _ _ (Nat.le_refl _) hb ht hx.1 hx.2).mono ?_
   rintro e w' ⟨rfl, hb'⟩
   exact ⟨Or.inl ⟨x, rfl, rfl⟩, hb'⟩
 | none =>
   by_cases hn : NoSum s
   ·refine (Decode_sum A 64 64 s w hs (Nat.le_refl _) hb ht hn).mono ?_
    rintro e w' ⟨⟨p, rfl, _⟩, hb'⟩
    exact ⟨Or.inr ⟨rfl, p, rfl⟩, hb'⟩
   ·refine (Decode_none A 64 64 s w hs (Nat.le_refl _) hb ht hn (fun g q k b d m hr hg => norec_of_none hu g k b q d m hr hg)).mono ?_
    rintro e w' ⟨⟨p, rfl, _⟩, hb'⟩
    exact ⟨Or.inr ⟨rfl, p, rfl⟩, hb'⟩
def Loaded (w : World) (F : List Ent) (e : Ending) (w' : World) : Prop := ∃ v, e = .returned v ∧ w'.ownsRow w.heap.size 150 6 v F.length (ecels F) ∧ Below w.heap.size w w'
set_option maxRecDepth 100000 in
set_option maxHeartbeats 4000000 in
theorem load_any (w : World) (G : Nat → Prop) (p q : Nat) (S : List Sec) (L : List Wr) (n : Nat) (h : Hd) (hj : Jr w G p q S L n h []) (hf : h.f ≤ 2000000000000000000) (hn : n ≤ 512) (h1n : 1 ≤ n) (h2n : 2 + n ≤ S.length) (hL : L.length ≤ 1000000) (ht : Tab w) :
 Calls Tryz.prog 64 #[.pointer (some ⟨p, 0, none⟩)] w (Loaded w (load (all S L) n h.g n h.f h.l)) := by
 obtain ⟨i0, hi0, hz0, hz1, hz2⟩ := info_parts ent_info
 have Hz1 := hide hz1
 have Hz2 := hide hz2
 have HJ := hide hj
 have Hn := hide hn
 have H1n := hide h1n
 have H2n := hide h2n
 have HL := hide hL
 have HT := hide ht
 obtain ⟨D, J, X, h1, h2, _, _⟩ := hj
 obtain ⟨A, c, e, c0, c1, c2, c3, c4, c5, c6, fz⟩ := h2.cells
 obtain ⟨t, f, g, l⟩ := h
 have hf' : f ≤ 2000000000000000000 := hf
 have HA := hide (show (all S L).length = S.length from all_length L S)
 have HFull := hide (h1.full.all h1.fits)
 have c1' : w.cell? ⟨p, 1, none⟩ = some (.int .i64 (n : Int)) := c1
 have c5' : w.cell? ⟨p, 5, none⟩ = some (.int .i64 (l : Int)) := c5
 obtain ⟨Z, hZ⟩ : ∃ Z, load (all S L) n g n f l = Z := ⟨_, rfl⟩
 show Calls _ _ _ _ (Loaded w (load (all S L) n g n f l))
 rw [hZ]
 have HZ := hide hZ
 clear hz1 hz2 hn h1n h2n hL ht h1 h2 e c0 c1 c2 c3 c4 c5 c6 fz hf hZ
 go_enter Tryz.func64, Tryz.ntmps64
 go_wp2
 go_step3
 go_wp2
 go_step3
 go_wp2
 go_loopw [3, 4, 21] (fun v lo j wr => ∃ (k lt : Nat) (F : List Ent), k ≤ n ∧ j = .int .i64 k ∧ lo = .int .i64 (lt : Int) ∧ Hid (F.length = k) ∧ Hid (Z = F ++ load (all S L) n g (n - k) (f + k) lt) ∧ Hid (wr.ownsRow w.heap.size 150 6 v k (ecels F)) ∧ Hid (Below w.heap.size w wr)) (fun _ _ j _ => n - (intOf j).toNat)
 case atStart => exact ⟨0, l, [], Nat.zero_le _, rfl, rfl, rfl, HZ.out.symm, World.ownsRow_nil _ _ _ _, Below.refl _ _⟩
 case round =>
  obtain ⟨k, lt, F, hk, rfl, rfl, hF, hZF, how, hb⟩ := hrel
  have HJr := hide (HJ.out.below hb.out)
  obtain ⟨VA, vc, rfl, _, _, _⟩ := row_form how.out
  rcases Nat.lt_or_ge k n with hlt | hge
  ·have Hlt := hide hlt
   have hki : (k : Int) < (n : Int) := by omega
   obtain ⟨sq, hsq⟩ : ∃ sq, f + k = sq := ⟨_, rfl⟩
   have hsq' : (f : Int) + (k : Int) = (sq : Int) := by omega
   have hsb : sq ≤ 3000000000000000000 := by have := Hn.out; omega
   obtain ⟨cc, hcc⟩ : ∃ cc, 2 + sq % n = cc := ⟨_, rfl⟩
   have hcl : cc < S.length := by have := H2n.out; have := Nat.mod_lt sq (show 0 < n by omega); omega
   obtain ⟨s, hs⟩ : ∃ s, (all S L)[cc]? = some s := ⟨_, List.getElem?_eq_getElem (by rw [HA.out]; exact hcl)⟩
   have HGD := hide (show (all S L).getD (2 + sq % n) [] = s by rw [hcc]; exact getD_of hs)
   have Hls := hide (show s.length = 64 from HFull.out s (List.mem_of_getElem? hs))
   obtain ⟨r', hr'⟩ : ∃ r', n - k = r' + 1 := ⟨n - k - 1, by omega⟩
   rw [hr', hsq] at hZF
   have HR' := hide (show n - (k + 1) = r' by omega)
   have HSQ := hide hsq
   have hJrd := HJr.out.below (Below.refl wr.heap.size wr).drew
   have HSC := hide (sector_any wr.drew G p q S L n ⟨t, f, g, l⟩ [] hJrd sq H1n.out (by have := Hn.out; omega))
   rw [hcc] at HSC
   obtain ⟨D, J, X, h1, h2, h3, h4⟩ := hJrd
   have HRD := hide (Read_any wr.drew D q cc S L s h1 hs hcl HL.out)
   have e3 : wr.cell? ⟨p, 3, none⟩ = some (.int .i64 (f : Int)) := h2.heads.2.2.1
   have hS0 : wr.drew.cell? ⟨p, 0, none⟩ = some (.pointer (some ⟨q, 0, none⟩)) := h2.heads.1
   clear h1 h2 h3 h4 hs hcl hcc hlt hr' hk hsq
   go_wp2_with fail
   refine wp_region_held (S := (fun W => W.cell? ⟨p, 0, none⟩ = some (.pointer (some ⟨q, 0, none⟩)))) (by kernel_rfl) ?_
   change wpAnyH _ _ _ _ _ _ _ _ (World.drew _)
   refine wpAnyH_take (i := 0) (oi := ⟨some 32, _, _, _, _, _⟩) (v := ?_) rfl (by kernel_rfl) (by kernel_rfl) (by kernel_rfl) (fun _ _ _ h => h) (Or.inl ⟨by rfl, ?_⟩) hS0 ?_
   rotate_left 1
   ·(intro w hSw; obtain hSw1 := hSw; go_simp; try with_reducible rfl)
   simp only [Act.put, sl]
   refine wpAnyH_take (i := 1) (oi := ⟨some 33, _, _, _, _, _⟩) (v := ?_) rfl (by kernel_rfl) (by kernel_rfl) (by kernel_rfl) (fun _ _ _ h => h) (Or.inl ⟨by rfl, ?_⟩) hS0 ?_
   rotate_left 1
   ·(intro w hSw; obtain hSw1 := hSw; go_simp; try with_reducible rfl)
   simp only [Act.put, sl]
   refine wpAnyH_take (i := 2) (oi := ⟨some 34, _, _, _, _, _⟩) (v := ?_) rfl (by kernel_rfl) (by kernel_rfl) (by kernel_rfl) (fun _ _ _ h => h) (Or.inl ⟨by rfl, ?_⟩) hS0 ?_
   rotate_left 1
   ·(intro w hSw; obtain hSw1 := hSw; go_simp; try with_reducible rfl)
   simp only [Act.put, sl]
   refine wpAnyH_take (i := 3) (oi := ⟨some 35, _, _, _, _, _⟩) (v := ?_) rfl (by kernel_rfl) (by kernel_rfl) (by kernel_rfl) (fun _ _ _ h => h) (Or.inl ⟨by rfl, ?_⟩) hS0 ?_
   rotate_left 1
   ·(intro w hSw; obtain hSw1 := hSw; go_simp; try with_reducible rfl)
   simp only [Act.put, sl]
   refine wpAnyH_take (i := 4) (oi := ⟨some 36, _, _, _, _, _⟩) (v := ?_) rfl (by kernel_rfl) (by kernel_rfl) (by kernel_rfl) (fun _ _ _ h => h) (Or.inl ⟨by rfl, ?_⟩) hS0 ?_
   rotate_left 1
   ·(intro w hSw; obtain hSw1 := hSw; go_simp; try with_reducible rfl)
   simp only [Act.put, sl]
   refine wpAnyH_take (i := 5) (oi := ⟨some 37, _, _, _, _, _⟩) (v := ?_) rfl (by kernel_rfl) (by kernel_rfl) (by kernel_rfl) (fun _ _ _ h => h) (Or.inl ⟨by rfl, ?_⟩) hS0 ?_
   rotate_left 1
   ·(intro w hSw; obtain hSw1 := hSw; go_simp; try with_reducible rfl)
   simp only [Act.put, sl]
   refine wpAnyH_ready (rs := [6]) (by kernel_rfl) (by simp) ?_
   refine AllReadyH.cons (o := ⟨some 38, _, _, _, _, _⟩) rfl (fun K hK => ?_) AllReadyH.nil
   go_simp
   refine HSC.out.mono ?_
   rintro r w' ⟨rfl, rfl⟩
   refine hK.out _ _ hS0 (fun hHeld => ?_)
   clear hK K
   clear hHeld
   refine wpAnyH_ready (rs := [7]) (by kernel_rfl) (by simp) ?_
   refine AllReadyH.cons (o := ⟨some 39, _, _, _, _, _⟩) rfl (fun K hK => ?_) AllReadyH.nil
   go_simp
   refine HRD.out.mono ?_
   rintro e w2 ⟨gg, rfl, hgs, hg2, hb2'⟩
   have hb2 := drew_below hb2'
   have HB2 := hide (hb.out.trans (hb2.mono hb.out.size))
   have HO2 := hide (Fa.own_below how.out hb2)
   have HY2 := hide (Dk.byt_row hg2.out)
   have HJ2 := hide (HJr.out.below hb2)
   have hS2 : w2.cell? ⟨p, 0, none⟩ = some (.pointer (some ⟨q, 0, none⟩)) := by obtain ⟨D, J, X, h1, h2, h3, h4⟩ := HJ2.out; exact h2.heads.1
   clear hgs hb2 hb2' hg2 how hb HJr HRD HSC
   refine hK.out _ _ hS2 (fun hHeld => ?_)
   clear hK K
   clear hHeld
   refine wpAnyH_take (i := 8) (oi := ⟨some 31, _, _, _, _, _⟩) (v := ?_) rfl (by kernel_rfl) (by kernel_rfl) (by kernel_rfl) (fun _ _ _ h => h) (Or.inl ⟨by rfl, ?_⟩) hS2 ?_
   rotate_left 1
   ·(intro w hSw; obtain hSw1 := hSw; go_simp; try with_reducible rfl)
   simp only [Act.put, sl]
   refine wpAnyH_take (i := 9) (oi := ⟨some 40, _, _, _, _, _⟩) (v := ?_) rfl (by kernel_rfl) (by kernel_rfl) (by kernel_rfl) (fun _ _ _ h => h) (Or.inl ⟨by rfl, ?_⟩) hS2 ?_
   rotate_left 1
   ·(intro w hSw; obtain hSw1 := hSw; go_simp; try with_reducible rfl)
   simp only [Act.put, sl]
   refine wpAnyH_take (i := 10) (oi := ⟨some 41, _, _, _, _, _⟩) (v := ?_) rfl (by kernel_rfl) (by kernel_rfl) (by kernel_rfl) (fun _ _ _ h => h) (Or.inl ⟨by rfl, ?_⟩) hS2 ?_
   rotate_left 1
   ·(intro w hSw; obtain hSw1 := hSw; go_simp; try with_reducible rfl)
   simp only [Act.put, sl]
   refine wpAnyH_take (i := 11) (oi := ⟨some 7, _, _, _, _, _⟩) (v := ?_) rfl (by kernel_rfl) (by kernel_rfl) (by kernel_rfl) (fun _ _ _ h => h) (Or.inl ⟨by rfl, ?_⟩) hS2 ?_
   rotate_left 1
   ·(intro w hSw; obtain hSw1 := hSw; go_simp; try with_reducible rfl)
   simp only [Act.put, sl]
   refine wpAnyH_take (i := 12) (oi := ⟨some 8, _, _, _, _, _⟩) (v := ?_) rfl (by kernel_rfl) (by kernel_rfl) (by kernel_rfl) (fun _ _ _ h => h) (Or.inl ⟨by rfl, ?_⟩) hS2 ?_
   rotate_left 1
   ·(intro w hSw; obtain hSw1 := hSw; go_simp; try with_reducible rfl)
   simp only [Act.put, sl]
   refine wpAnyH_done (by kernel_rfl) ?_ _
   clear hS0 hS2
   clear e3
   go_wp2_with fail
   refine (Decode_une (some ⟨gg, 0, none⟩) s w2 Hls.out HY2.out (HT.out.below HB2.out HT.out.pos)).mono ?_
   rintro e w3 ⟨hres, hb3⟩
   rcases hres with ⟨x, hux, rfl⟩ | ⟨hux, pf, rfl⟩
   ·have Hux := hide hux
    obtain ⟨xg, xs, xk, xb, xd, xm⟩ := x
    have HB3 := hide (HB2.out.trans (hb3.mono HB2.out.size))
    have HO3 := hide (Fa.own_below HO2.out hb3)
    have HJ3 := hide (HJ2.out.below hb3)
    have e4 : w3.cell? ⟨p, 4, none⟩ = some (.int .i64 (g : Int)) := by obtain ⟨D, J, X, h1, h2, h3, h4⟩ := HJ3.out; exact h2.heads.2.2.2.1
    have hz := box_below w3 (xs : Int) xk xb xd xm
    have HB4 := hide (HB3.out.trans (hz.mono HB3.out.size))
    have HO4 := hide (Fa.own_below HO3.out hz)
    have hpl : p < w3.heap.size := by obtain ⟨D, J, X, h1, h2, h3, h4⟩ := HJ3.out; exact h2.lt p h2.mine
    clear hux hb3 HB2 HO2 HY2 HJ2
    by_cases hq : xs = sq
    ·subst hq
     by_cases hg1 : xg < lt
     ·have hgi : (xg : Int) < (lt : Int) := by omega
      have HE := hide (show Z = F by rw [hZF.out, load_no (by rw [HGD.out]; exact Hux.out) (by intro h; have := h.2.1; have e : (⟨xg, xs, xk, xb, xd, xm⟩ : Ent).g = xg := rfl; omega), List.append_nil])
      clear hg1 hz HO3 HB3 HJ3
      go_wp2
      try rw [Exit.noGoto_ret]
      go_ret
      exact ⟨_, rfl, by rw [HE.out, hF.out]; exact HO4.out, HB4.out⟩
     ·have hgi : ¬ ((xg : Int) < (lt : Int)) := by omega
      by_cases hg2 : g < xg
      ·have hgj : (g : Int) < (xg : Int) := by omega
       have HE := hide (show Z = F by rw [hZF.out, load_no (by rw [HGD.out]; exact Hux.out) (by intro h; have := h.2.2; have e : (⟨xg, xs, xk, xb, xd, xm⟩ : Ent).g = xg := rfl; omega), List.append_nil])
       clear hg1 hg2 hz HO3 HB3 HJ3
       go_wp2
       try rw [Exit.noGoto_ret]
       go_ret
       exact ⟨_, rfl, by rw [HE.out, hF.out]; exact HO4.out, HB4.out⟩
      ·have hgj : ¬ ((g : Int) < (xg : Int)) := by omega
       have HE := hide (show Z = (F ++ [⟨xg, xs, xk, xb, xd, xm⟩]) ++ load (all S L) n g r' (xs + 1) xg by rw [hZF.out, load_yes (e := ⟨xg, xs, xk, xb, xd, xm⟩) (by rw [HGD.out]; exact Hux.out) ⟨rfl, by show lt ≤ xg; omega, by show xg ≤ g; omega⟩]; simp)
       have hb5 : Below (w3.alloc (.cells #[.int .i64 (xs : Int), .int .i64 xk, .int .i64 xb, .string xd, .int .i64 xm] 100)).heap.size (w3.alloc (.cells #[.int .i64 (xs : Int), .int .i64 xk, .int .i64 xb, .string xd, .int .i64 xm] 100)) ((w3.alloc (.cells #[.int .i64 (xs : Int), .int .i64 xk, .int .i64 xb, .string xd, .int .i64 xm] 100)).alloc (.cells #[.int .i64 (xg : Int), .int .i64 (xs : Int), .int .i64 xk, .int .i64 xb, .string xd, .int .i64 xm] 150)) := (Below.refl _ _).alloc (Nat.le_refl _) _
       have HB5 := hide (HB4.out.trans (hb5.mono HB4.out.size))
       have HO5 := hide (Fa.own_below HO4.out hb5)
       have HN : Hid (∀ j u, (ecel ⟨xg, xs, xk, xb, xd, xm⟩)[j]? = some u → ((w3.alloc (.cells #[.int .i64 (xs : Int), .int .i64 xk, .int .i64 xb, .string xd, .int .i64 xm] 100)).alloc (.cells #[.int .i64 (xg : Int), .int .i64 (xs : Int), .int .i64 xk, .int .i64 xb, .string xd, .int .i64 xm] 150)).cell? ((⟨w3.heap.size + 1, 0, none⟩ : Addr).add j) = some u) := fun j u hu => by
        rw [← show (w3.alloc (.cells #[.int .i64 (xs : Int), .int .i64 xk, .int .i64 xb, .string xd, .int .i64 xm] 100)).heap.size = w3.heap.size + 1 by simp, Addr.add_mid, Nat.zero_add, cell_of_row _ _ j _ _ _ (heap_alloc_new _ _)]
        exact List.getElem?_toArray.trans hu
       have Hbase := hide (show w.heap.size ≤ _ from HB5.out.size)
       have Hm1 := hide (show k + 1 ≤ maxLen by have := Hn.out; have := Hlt.out; unfold maxLen; omega)
       have Hm2 := hide (show (k + 1) * 56 ≤ 140737488355328 by have := Hn.out; have := Hlt.out; omega)
       clear hg1 hg2 hz HO3 HB3 HJ3 hb5
       go_wp2_with (at_builtin; go_must (refine wpList_append_lies _ rfl (.tmp 66) (.tmp 70) 124 rfl w.heap.size 150 i0 _ 6 56 Tryz.underlying124 hi0 hz0 Hz1.out Hz2.out rfl (by decide) (.slice VA k vc) k (ecels F) rfl HO5.out ⟨w3.heap.size + 1, 0, none⟩ 1 1 (ecel ⟨xg, xs, xk, xb, xd, xm⟩) rfl rfl HN.out (ecel_one _) (by decide) Hm1.out Hm2.out Hbase.out _ rfl ?_))
       intro g2 cap w6 hown6 hgr6 hor6 hlt6
       have HB6 := hide (HB5.out.grown hgr6 HB5.out.size (fun q hq => (World.ownsRow.lt HO5.out q hq).1))
       have HO6 := hide hown6
       clear hown6 hgr6 hor6 hlt6 HB5 HO5 HN Hbase HB4 HO4 e4 hpl
       go_wp2
       go_roundw
       case rel => exact ⟨k + 1, xg, F ++ [⟨xg, xs, xk, xb, xd, xm⟩], Hlt.out, by go_num, rfl, by rw [List.length_append, hF.out]; rfl, hide (by rw [HR'.out, show f + (k + 1) = xs + 1 by have := HSQ.out; omega]; exact HE.out), by rw [ecels_snoc]; exact HO6.out, HB6.out⟩
       case measure => have := Hlt.out; simp [intOf]; omega
    ·have hq1 : ¬ ((xs : Int) = (sq : Int)) := by omega
     have hq2 : ((xs : Int) != (sq : Int)) = true := by simp; omega
     have hq3 : ((xs : Int) == (sq : Int)) = false := by simp; omega
     have HE := hide (show Z = F by rw [hZF.out, load_no (by rw [HGD.out]; exact Hux.out) (by intro h; exact hq h.1), List.append_nil])
     clear hq hz HO3 HB3 HJ3
     go_wp2
     try rw [Exit.noGoto_ret]
     go_ret
     exact ⟨_, rfl, by rw [HE.out, hF.out]; exact HO4.out, HB4.out⟩
   ·have hz := zero_below w3
    have HE := hide (show Z = F by rw [hZF.out, load_nil (by rw [HGD.out]; exact hux), List.append_nil])
    have HB3 := hide (HB2.out.trans (hb3.mono HB2.out.size))
    have HO3 := hide (Fa.own_below HO2.out hb3)
    have HB4 := hide (HB3.out.trans (hz.mono HB3.out.size))
    have HO4 := hide (Fa.own_below HO3.out hz)
    clear hux hz hb3 HB3 HO3 HB2 HO2 HY2 HJ2
    go_wp2
    try rw [Exit.noGoto_ret]
    go_ret
    exact ⟨_, rfl, by rw [HE.out, hF.out]; exact HO4.out, HB4.out⟩
  ·obtain rfl : k = n := by omega
   have HE := hide (show Z = F by rw [hZF.out, Nat.sub_self]; exact List.append_nil F)
   have HO4 := hide how.out
   have HB4 := hide hb.out
   clear hge hk how hb HJr
   go_wp2
   try rw [Exit.noGoto_ret]
   go_ret
   exact ⟨_, rfl, by rw [HE.out, hF.out]; exact HO4.out, HB4.out⟩
end Go.Proofs.YtapiogcoipeinaaGreatDoor.Jn
namespace Go.Proofs.YtapiogcoipeinaaGreatDoor.Jn
open Go.RowKit
open Pk Sm Fa Rc Dk
section
variable {w5 w6 : World} {G J D : Nat → Prop} {p q n : Nat} {S : List Sec} {L : List Wr} {h : Hd} {E F : List Ent} {X v : Value}
theorem JnAt.hold (hd : Dsk w5 D q S L) (j : JnAt w5 J p q n h E X) (h3 : ∀ k, D k → ¬ J k) (h4 : ∀ k, G k ↔ D k ∨ J k) (hb : Below w5.heap.size w5 w6) (hown : w6.ownsRow w5.heap.size 150 6 v F.length (ecels F)) :
 JPost w5 G p q S L n h F (w6.setCell ⟨p, 6, none⟩ v) := by
 have hpl := j.lt p j.mine
 have hp : w6.heap[p]? = some (.cells (jcs q n h X) 126 (0, 0)) := (hb.block p hpl).trans j.box
 have hsz : (w6.setCell ⟨p, 6, none⟩ v).heap.size = w6.heap.size := by simp [World.setCell]
 have hbs := hb.size
 have hk : Kept J w5 (w6.setCell ⟨p, 6, none⟩ v) := Kept.set (Kept.of_below hb) j.mine 6 v
 refine ⟨fun k => D k ∨ (J k ∨ (w5.heap.size ≤ k ∧ k < w6.heap.size)), ⟨D, fun k => J k ∨ (w5.heap.size ≤ k ∧ k < w6.heap.size), v, hd.kept hk h3, ⟨?_, ?_, Or.inl j.mine, ?_, ?_⟩, ?_, fun k => Iff.rfl⟩, ?_, ⟨hk.os, hk.tape, hk.output, hk.size, fun k h1 h2 => hk.block k h1 fun h5 => h2 ((h4 k).2 (Or.inr h5))⟩⟩
 ·rw [heap_setCell_same w6 p 6 _ _ _ hp]; rfl
 ·refine own_same ⟨hown.1, hown.2.imp id fun ⟨g, cap, cur, e, hB, hr⟩ => ⟨g, cap, cur, e, Nat.zero_le _, hr⟩⟩ fun k hk => ?_
  have := (World.ownsRow.lt hown k hk).1
  rw [heap_setCell_other _ _ _ _ (by show k ≠ p; omega)]
 ·intro k hk
  have := World.ownsRow.lt hown k hk
  exact ⟨Or.inr this, by omega⟩
 ·intro k hk
  rw [hsz]
  rcases hk with hk | hk
  ·have := j.lt k hk; omega
  ·exact hk.2
 ·intro k hkD hkJ
  rcases hkJ with h5 | h5
  ·exact h3 k hkD h5
  ·have := hd.lt k hkD
   omega
 ·intro k hk
  rcases hk with h5 | h5 | h5
  ·exact Or.inl ((h4 k).2 (Or.inl h5))
  ·exact Or.inl ((h4 k).2 (Or.inr h5))
  ·exact Or.inr h5.1
end
def Opened (w : World) (D : Nat → Prop) (q : Nat) (S : List Sec) (n : Nat) (h : Hd) (E : List Ent) (e : Ending) (w' : World) : Prop :=
 ∃ p G, e = .returned (.tuple #[.pointer (some ⟨p, 0, none⟩), .nilIface]) ∧ Jr w' G p q S [] n h E ∧ Grew w D G ∧ Kept D w w'
section
variable (w : World) (D : Nat → Prop) (q : Nat) (S : List Sec) (L : List Wr) (hd : Dsk w D q S L)
include hd
set_option maxRecDepth 100000 in
set_option maxHeartbeats 2000000 in
theorem Open_arg (n : Nat) (hn : n ≤ 1000) (hbad : n < 1 ∨ S.length < 2 + n) (h512 : n ≤ 512) :
 Calls Tryz.prog 38 #[.pointer (some ⟨q, 0, none⟩), .int .i64 (n : Int)] w fun e w' => ∃ pp, e = .returned (.tuple #[.pointer none, .iface 145 (.pointer (some ⟨pp, 0, none⟩))]) ∧ JFlt w' (.iface 145 (.pointer (some ⟨pp, 0, none⟩))) (n : Int) 1 ∧ Below w.heap.size w w' := by
 have HLn := hide (Len_any hd)
 have HF := hide (failed_num (n : Int) 1 w (by decide))
 obtain ⟨m, hm⟩ : ∃ m, S.length = m := ⟨_, rfl⟩
 rw [hm] at HLn hbad
 have h512i : ¬ ((512 : Int) < (n : Int)) := by omega
 by_cases h1 : n < 1
 ·have h1i : (n : Int) < 1 := by omega
  clear hd hn hbad h512 hm h1 h512i
  go_enter Tryz.func38, Tryz.ntmps38
  go_wp2_with fail
  refine HF.out.mono ?_
  rintro r w4 ⟨pp, rfl, hfl, hb4⟩
  have H1 := hide hfl
  have H2 := hide hb4
  clear hfl hb4
  go_wp2
  go_ret2
  exact ⟨pp, rfl, H1.out, H2.out⟩
 ·have h1i : ¬ ((n : Int) < 1) := by omega
  have h2i : (m : Int) < 2 + (n : Int) := by omega
  clear hd hbad h512 hm h1
  go_enter Tryz.func38, Tryz.ntmps38
  go_wp2_with fail
  refine HLn.out.mono ?_
  rintro r w' ⟨rfl, rfl⟩
  go_wp2_with fail
  refine HF.out.mono ?_
  rintro r w4 ⟨pp, rfl, hfl, hb4⟩
  have H1 := hide hfl
  have H2 := hide hb4
  clear hfl hb4
  go_wp2
  go_ret2
  exact ⟨pp, rfl, H1.out, H2.out⟩
set_option maxRecDepth 100000 in
set_option maxHeartbeats 4000000 in
theorem Open_good (n : Nat) (h : Hd) (h1n : 1 ≤ n) (h512 : n ≤ 512) (h2n : 2 + n ≤ S.length) (hcur : cur (all S L) = some h) (hL : L.length ≤ 800000) (ht : Tab w) (hg : ∀ k, D k → 1 < k) :
 Calls Tryz.prog 38 #[.pointer (some ⟨q, 0, none⟩), .int .i64 (n : Int)] w
  (Opened w D q (all S (L ++ [((h.t + 1) % 2, hsec ⟨h.t + 1, h.f, h.g + 1, h.l⟩)])) n ⟨h.t + 1, h.f, h.g + 1, h.l⟩ (load (all S L) n h.g n h.f h.l)) := by
 have HLn := hide (Len_any hd)
 obtain ⟨m, hm⟩ : ∃ m, S.length = m := ⟨_, rfl⟩
 have HM := hide hm
 rw [hm] at HLn h2n
 have h512i : ¬ ((512 : Int) < (n : Int)) := by omega
 have h1i : ¬ ((n : Int) < 1) := by omega
 have h2i : ¬ ((m : Int) < 2 + (n : Int)) := by omega
 have h3i : (2 : Int) + (n : Int) ≤ (m : Int) := by omega
 have HC := hide (current_any w D q S L hd (by omega) (by omega) ht)
 have HD := hide hd
 have Hcur := hide hcur
 have HT := hide ht
 have HG := hide hg
 have HL := hide hL
 have H1n := hide h1n
 have H512 := hide h512
 have H2n := hide h2n
 obtain ⟨nt, nf, ng, nl, npos, nlow⟩ := cur_num hcur
 have Hnum := hide (show h.t ≤ 1152921504606846975 ∧ h.f ≤ 1152921504606846975 ∧ h.g ≤ 1152921504606846975 from ⟨nt, nf, ng⟩)
 obtain ⟨t, f, g, l⟩ := h
 clear hd hm h1n h512 h2n hcur hL ht hg nt nf ng nl npos nlow
 go_enter Tryz.func38, Tryz.ntmps38
 go_wp2_with fail
 refine HLn.out.mono ?_
 rintro r w' ⟨rfl, rfl⟩
 clear HLn
 go_wp2_with fail
 refine HC.out.mono ?_
 rintro e w2 ⟨hnow, hb2⟩
 unfold NowIs at hnow
 rw [Hcur.out] at hnow
 have hnow' : e = .returned (.tuple #[hd4 ⟨t, f, g, l⟩, .bool true]) := hnow
 subst hnow'
 have HB2 := hide hb2
 have hz := hx_below w2 t f g l
 have hz2 : Below (w2.alloc (.cells (hcs t f g l) 121)).heap.size (w2.alloc (.cells (hcs t f g l) 121)) ((w2.alloc (.cells (hcs t f g l) 121)).alloc (.cells (jcs q n ⟨t, f, g, l⟩ (.slice none 0 0)) 126)) := (Below.refl _ _).alloc (Nat.le_refl _) _
 have HB3 := hide (hb2.trans ((hz.trans (hz2.mono hz.size)).mono hb2.size))
 have HJA : Hid (JnAt ((w2.alloc (.cells (hcs t f g l) 121)).alloc (.cells (jcs q n ⟨t, f, g, l⟩ (.slice none 0 0)) 126)) (fun k => k = w2.heap.size + 1) (w2.heap.size + 1) q n ⟨t, f, g, l⟩ [] (.slice none 0 0)) := by
  have hs : (w2.alloc (.cells (hcs t f g l) 121)).heap.size = w2.heap.size + 1 := by simp
  refine ⟨?_, World.ownsRow_nil _ _ _ _, rfl, fun k hk => by simp [Value.ownBlock] at hk, fun k hk => by rw [hk]; simp⟩
  rw [← hs]
  exact heap_alloc_new _ _
 have HD3 := hide (HD.out.below HB3.out)
 have hpw := hb2.size
 have HPW := hide hpw
 clear hnow hb2 hz hz2 hpw HC
 go_wp2_with fail
 generalize (w2.alloc _).alloc _ = w3 at *
 obtain ⟨P, hP⟩ : ∃ P, w2.heap.size + 1 = P := ⟨_, rfl⟩
 rw [hP] at HJA ⊢
 have HPP := hide (show w.heap.size < P by have := HPW.out; omega)
 have hj3 : Jr w3 (fun k => D k ∨ k = P) P q S L n ⟨t, f, g, l⟩ [] := ⟨D, fun k => k = P, _, HD3.out, HJA.out, fun k hk e => by have := HD.out.lt k hk; have := HPP.out; omega, fun k => Iff.rfl⟩
 have HB3' := hide HB3.out
 have HLD := hide (load_any w3 (fun k => D k ∨ k = P) P q S L n ⟨t, f, g, l⟩ hj3 (by have := Hnum.out.2.1; show f ≤ _; omega) (by have := H512.out; omega) H1n.out (by rw [HM.out]; exact H2n.out) (by have := HL.out; omega) (HT.out.below HB3.out HT.out.pos))
 obtain ⟨F, hF⟩ : ∃ F, load (all S L) n g n f l = F := ⟨_, rfl⟩
 have HFF := hide hF
 have HLD' : Hid (Calls Tryz.prog 64 #[.pointer (some ⟨P, 0, none⟩)] w3 (Loaded w3 F)) := by rw [← hF]; exact HLD.out
 clear hj3 hP HPW HLD hF
 refine HLD'.out.mono ?_
 rintro e w4 ⟨v, rfl, hown, hb4⟩
 obtain ⟨A, c, rfl, _, _, _⟩ := row_form hown
 have hfl : F.length ≤ n := by
  have key : ∀ (A : List Sec) (n gen k q lo : Nat), (load A n gen k q lo).length ≤ k := fun A n gen k => by
   induction k with
   | zero => intro q lo; exact Nat.le_refl _
   | succ k ih =>
     intro q lo
     cases hu : une (A.getD (2 + q % n) []) with
     | none => rw [load_nil hu]; exact Nat.zero_le _
     | some e =>
       by_cases h2 : e.s = q ∧ lo ≤ e.g ∧ e.g ≤ gen
       ·rw [load_yes hu h2, List.length_cons]
        have := ih (q + 1) e.g
        omega
       ·rw [load_no hu h2]; exact Nat.zero_le _
  rw [← HFF.out]
  exact key _ _ _ _ _ _
 obtain ⟨fl, hfe⟩ : ∃ fl, F.length = fl := ⟨_, rfl⟩
 have hj4 := HJA.out.below hb4
 obtain ⟨A0, c0', e0, c0, c1, c2, c3, c4, c5, c6, fz⟩ := hj4.cells
 have HP4 := hide (JnAt.hold (G := fun k => D k ∨ k = P) (F := F) HD3.out HJA.out (fun k hk e => by have := HD.out.lt k hk; have := HPP.out; omega) (fun k => Iff.rfl) hb4 hown)
 rw [hfe] at HP4
 rw [hfe]
 have c4' : w4.cell? ⟨P, 4, none⟩ = some (.int .i64 (g : Int)) := c4
 have c6' : w4.cell? ⟨P, 6, none⟩ = some (.slice A0 0 c0') := c6
 have f4 := fz 4
 have f6 := fz 6
 have hg61 : (g : Int) ≤ 1152921504606846975 := by have := Hnum.out.2.2; omega
 have HP5 : Hid (JPost w3 (fun k => D k ∨ k = P) P q S L n ⟨t, f, g + 1, l⟩ F ((w4.setCell ⟨P, 6, none⟩ (.slice A fl c)).setCell ⟨P, 4, none⟩ (.int .i64 ((g : Int) + 1)))) :=
  JPost.then HP4.out fun G' j => Jr.set (i := 4) (v := .int .i64 ((g : Int) + 1)) (h' := ⟨t, f, g + 1, l⟩) j (fun X => rfl)
 clear hown hb4 hj4 e0 c0 c1 c2 c3 c4 c5 c6 fz HJA HD3 HP4 HLD'
 go_wp2_with fail
 generalize (w4.setCell _ _).setCell _ _ = w5 at *
 obtain ⟨G5, hj5, hg5, hk5⟩ := HP5.out
 have HKD : Hid (Kept D w w5) := ⟨hk5.os.trans HB3.out.os, hk5.tape.trans HB3.out.tape, hk5.output.trans HB3.out.output, Nat.le_trans HB3.out.size hk5.size, fun k h1 h2 => by
  rw [hk5.block k (Nat.lt_of_lt_of_le h1 HB3.out.size) (fun e => by rcases e with e | e; exact h2 e; have := HPP.out; omega), HB3.out.block k h1]⟩
 have HGD : Hid (Grew w D G5) := fun k hk => by
  rcases hg5 k hk with (h1 | h1) | h1
  ·exact Or.inl h1
  ·have := HPP.out; exact Or.inr (by omega)
  ·exact Or.inr (Nat.le_trans HB3.out.size h1)
 have hT5 : Tab w5 := HT.out.below (HKD.out.below (B := 1 + 1) (fun k hk => HG.out k hk) HT.out.pos) (Nat.lt_succ_self _)
 have HSV := hide (save_any w5 G5 P q S L n ⟨t, f, g + 1, l⟩ F hj5 hT5 (by have := Hnum.out.1; show t ≤ _; omega) (by rw [HM.out]; have := H2n.out; omega) (by have := HL.out; omega) (fun k hk => by
  rcases HGD.out k hk with h1 | h1
  ·exact HG.out k h1
  ·have := HT.out.pos; omega))
 clear hj5 hg5 hk5 hT5 HP5 c4' c6' f4 f6
 refine HSV.out.mono ?_
 rintro e w6 ⟨rfl, hp6⟩
 obtain ⟨G6, hj6, hg6, hk6⟩ := hp6
 have HJ6 := hide hj6
 have HGD6 := hide (HGD.out.trans HKD.out.size hg6)
 have HKD6 := hide (HKD.out.trans HGD.out hk6)
 clear hj6 hg6 hk6 HSV
 go_wp2
 go_ret2
 have e1 := HFF.out
 subst e1
 exact ⟨P, G6, rfl, HJ6.out, HGD6.out, HKD6.out⟩
end
end Go.Proofs.YtapiogcoipeinaaGreatDoor.Jn
namespace Go.Proofs.YtapiogcoipeinaaGreatDoor.Jn
open Go.RowKit
open Pk Sm Fa Rc Dk
end Go.Proofs.YtapiogcoipeinaaGreatDoor.Jn
namespace Go.Proofs.YtapiogcoipeinaaGreatDoor.Jn
open Go.RowKit
open Pk Sm Fa Rc Dk
section
variable {w2 w3 : World} {G J D : Nat → Prop} {p q n m g c r : Nat} {S : List Sec} {L : List Wr} {h : Hd} {E F : List Ent}
end
section
variable (w : World) (G : Nat → Prop) (p q : Nat) (S : List Sec) (L : List Wr) (n : Nat) (h : Hd) (E : List Ent) (hj : Jr w G p q S L n h E)
include hj
end
end Go.Proofs.YtapiogcoipeinaaGreatDoor.Jn
namespace Go.Proofs.YtapiogcoipeinaaGreatDoor.Jn
open Go.RowKit
open Pk Sm Fa Rc Dk
def JW (w0 : World) (R : Nat → Prop) (p q n : Nat) (S : List Sec) (L : List Wr) (h : Hd) (E : List Ent) (w : World) : Prop :=
 ∃ G, Jr w G p q S L n h E ∧ (∀ k, G k → w0.heap.size ≤ k) ∧ Below w0.heap.size w0 w ∧ ∀ k, R k → k < w.heap.size ∧ ¬ G k
def RK (R : Nat → Prop) (w w' : World) : Prop := ∀ k, R k → w'.heap[k]? = w.heap[k]?
section
variable {w0 w w' : World} {R : Nat → Prop} {p q n : Nat} {S S' : List Sec} {L L' : List Wr} {h h' : Hd} {E E' : List Ent}
theorem JW.of {G : Nat → Prop} (h2 : ∀ k, G k → w0.heap.size ≤ k) (h3 : Below w0.heap.size w0 w) (h4 : ∀ k, R k → k < w.heap.size ∧ ¬ G k) (hp : JPost w G p q S' L' n h' E' w') : JW w0 R p q n S' L' h' E' w' ∧ RK R w w' := by
 obtain ⟨G', j', hg, hk⟩ := hp
 refine ⟨⟨G', j', hg.from h2 h3.size, h3.trans (hk.below h2 h3.size), fun k hR => ⟨Nat.lt_of_lt_of_le (h4 k hR).1 hk.size, fun hG' => ?_⟩⟩, fun k hR => hk.block k (h4 k hR).1 (h4 k hR).2⟩
 rcases hg k hG' with h5 | h5
 ·exact (h4 k hR).2 h5
 ·have := (h4 k hR).1
  omega
theorem JW.below (j : JW w0 R p q n S L h E w) (hb : Below w.heap.size w w') : JW w0 R p q n S L h E w' ∧ RK R w w' := by
 obtain ⟨G, h1, h2, h3, h4⟩ := j
 exact JW.of h2 h3 h4 (h1.post hb)
theorem JW.bel (j : JW w0 R p q n S L h E w) : Below w0.heap.size w0 w := j.choose_spec.2.2.1
theorem JW.hold {R' : Nat → Prop} (j : JW w0 R p q n S L h E w) (hb : Below w.heap.size w w') (hR : ∀ k, R' k → w.heap.size ≤ k ∧ k < w'.heap.size) : JW w0 (fun k => R k ∨ R' k) p q n S L h E w' := by
 obtain ⟨G, h1, h2, h3, h4⟩ := j
 refine ⟨G, h1.below hb, h2, h3.trans (hb.mono h3.size), fun k hk => ?_⟩
 rcases hk with hk | hk
 ·exact ⟨Nat.lt_of_lt_of_le (h4 k hk).1 hb.size, (h4 k hk).2⟩
 ·exact ⟨(hR k hk).2, fun hG => by have := h1.lt k hG; have := (hR k hk).1; omega⟩
theorem Rows5.kept {base : Nat} {v : Value} {E : List Ent} (h : Rows5 w base v E) (hk : RK R w w') (hR : ∀ k, v.ownBlock = some k → R k) : Rows5 w' base v E := own_same h fun k hb => hk k (hR k hb)
theorem RK.mono {R' : Nat → Prop} (hk : RK R w w') (h : ∀ k, R' k → R k) : RK R' w w' := fun k hk2 => hk k (h k hk2)
theorem JW.mono {R' : Nat → Prop} (j : JW w0 R p q n S L h E w) (hR : ∀ k, R' k → R k) : JW w0 R' p q n S L h E w := by
 obtain ⟨G, h1, h2, h3, h4⟩ := j
 exact ⟨G, h1, h2, h3, fun k hk => h4 k (hR k hk)⟩
theorem JW.tab (j : JW w0 R p q n S L h E w) (ht : Tab w0) : Tab w := ht.below j.bel ht.pos
/-! ### The calls -/
theorem JW.next (j : JW w0 R p q n S L h E w) (hf : h.f ≤ 2000000000000000000) (he : E.length ≤ 1000) :
 Calls Tryz.prog 57 #[.pointer (some ⟨p, 0, none⟩)] w fun e w' => e = .returned (.int .i64 ((h.f + E.length : Nat) : Int)) ∧ Below w.heap.size w w' := by
 obtain ⟨G, h1, _⟩ := j
 exact Next_any w G p q S L n h E h1 hf he
theorem JW.room (j : JW w0 R p q n S L h E w) (hn : n ≤ 1000) (he : E.length ≤ n) :
 Calls Tryz.prog 99 #[.pointer (some ⟨p, 0, none⟩)] w fun e w' => e = .returned (.int .i64 ((n : Int) - (E.length : Int))) ∧ Below w.heap.size w w' := by
 obtain ⟨G, h1, _⟩ := j
 exact Room_any w G p q S L n h E h1 hn he
theorem JW.records (j : JW w0 R p q n S L h E w) (he : E.length ≤ 1000) :
 Calls Tryz.prog 56 #[.pointer (some ⟨p, 0, none⟩)] w fun e w' => ∃ v, e = .returned v ∧ Rows5 w' w.heap.size v E ∧ Below w.heap.size w w' := by
 obtain ⟨G, h1, _⟩ := j
 exact Records_any w G p q S L n h E h1 he
theorem JW.flush (j : JW w0 R p q n S L h E w) (hL : L.length ≤ 1000000) :
 Calls Tryz.prog 50 #[.pointer (some ⟨p, 0, none⟩)] w fun e w' => e = .returned (.tuple #[]) ∧ JW w0 R p q n (all S L) [] h E w' ∧ RK R w w' := by
 obtain ⟨G, h1, h2, h3, h4⟩ := j
 refine (Flush_any w G p q S L n h E h1 hL).mono ?_
 rintro e w' ⟨rfl, hp⟩
 exact ⟨rfl, JW.of h2 h3 h4 hp⟩
theorem JW.append (j : JW w0 R p q n S L h E w) (ht : Tab w0) (hf : h.f ≤ 2000000000000000000) (hn : n ≤ 512) (he : E.length < n) {s k b : Int} {d : ByteArray} {m : Int} (hok : EOk ⟨h.g, h.f + E.length, k, b, d, m⟩) (h2n : 2 + n ≤ S.length) (hL : L.length ≤ 900000) :
 Calls Tryz.prog 74 #[.pointer (some ⟨p, 0, none⟩), rec5 s k b d m] w fun e w' => e = .returned (.tuple #[.int .i64 ((h.f + E.length : Nat) : Int), .nilIface]) ∧
  JW w0 R p q n S (L ++ [(2 + (h.f + E.length) % n, esec ⟨h.g, h.f + E.length, k, b, d, m⟩)]) h (E ++ [⟨h.g, h.f + E.length, k, b, d, m⟩]) w' ∧ RK R w w' := by
 have hT := j.tab ht
 obtain ⟨G, h1, h2, h3, h4⟩ := j
 refine (Append_good w G p q S L n h E h1 s k b d m hf hn he hok hT h2n hL).mono ?_
 rintro e w' ⟨rfl, hp⟩
 exact ⟨rfl, JW.of h2 h3 h4 hp⟩
theorem JW.crash (j : JW w0 R p q n S L h E w) (K : Nat) (hK : K < 18446744073709551616) (hL : L.length ≤ 1000000) :
 Calls Tryz.prog 24 #[.pointer (some ⟨q, 0, none⟩), .int .u64 K] w fun e w' => e = .returned (.tuple #[]) ∧ JW w0 R p q n (Dk.crash K 0 L S) [] h E w' ∧ RK R w w' := by
 obtain ⟨G, ⟨D, J, X, k1, k2, k3, k4⟩, h2, h3, h4⟩ := j
 refine (Crash_any w D q K S L k1 hK hL).mono ?_
 rintro e w' ⟨rfl, hp⟩
 exact ⟨rfl, JW.of h2 h3 h4 (Jr.disk k2 k3 k4 hp)⟩
theorem JW.of_opened {D : Nat → Prop} {e : Ending} (h2 : ∀ k, D k → w0.heap.size ≤ k) (h3 : Below w0.heap.size w0 w) (h4 : ∀ k, R k → k < w.heap.size ∧ ¬ D k) (ho : Opened w D q S n h E e w') :
 ∃ p, e = .returned (.tuple #[.pointer (some ⟨p, 0, none⟩), .nilIface]) ∧ JW w0 R p q n S [] h E w' ∧ RK R w w' := by
 obtain ⟨p, G, rfl, hj, hg, hk⟩ := ho
 refine ⟨p, rfl, ⟨G, hj, hg.from h2 h3.size, h3.trans (hk.below h2 h3.size), fun k hR => ⟨Nat.lt_of_lt_of_le (h4 k hR).1 hk.size, fun hG' => ?_⟩⟩, fun k hR => hk.block k (h4 k hR).1 (h4 k hR).2⟩
 rcases hg k hG' with h5 | h5
 ·exact (h4 k hR).2 h5
 ·have := (h4 k hR).1
  omega
theorem JW.open (j : JW w0 R p q n S L h E w) (ht : Tab w0) (h1n : 1 ≤ n) (h512 : n ≤ 512) (h2n : 2 + n ≤ S.length) (hcur : cur (all S L) = some h') (hL : L.length ≤ 800000) :
 Calls Tryz.prog 38 #[.pointer (some ⟨q, 0, none⟩), .int .i64 (n : Int)] w fun e w' => ∃ p', e = .returned (.tuple #[.pointer (some ⟨p', 0, none⟩), .nilIface]) ∧
  JW w0 R p' q n (all S (L ++ [((h'.t + 1) % 2, hsec ⟨h'.t + 1, h'.f, h'.g + 1, h'.l⟩)])) [] ⟨h'.t + 1, h'.f, h'.g + 1, h'.l⟩ (load (all S L) n h'.g n h'.f h'.l) w' ∧ RK R w w' := by
 have hT := j.tab ht
 obtain ⟨G, ⟨D, J, X, k1, k2, k3, k4⟩, h2, h3, h4⟩ := j
 refine (Open_good w D q S L k1 n h' h1n h512 h2n hcur hL hT (fun i hi => Nat.lt_of_lt_of_le ht.pos (h2 i ((k4 i).2 (Or.inl hi))))).mono ?_
 intro e w' ho
 exact JW.of_opened (fun i hi => h2 i ((k4 i).2 (Or.inl hi))) h3 (fun i hi => ⟨(h4 i hi).1, fun hD => (h4 i hi).2 ((k4 i).2 (Or.inl hD))⟩) ho
theorem JW.start {N : Nat} {D : Nat → Prop} (hd : Dsk w D q (List.replicate N zero) []) (ht : Tab w0) (h2 : ∀ k, D k → w0.heap.size ≤ k) (h3 : Below w0.heap.size w0 w) (h4 : ∀ k, R k → k < w.heap.size ∧ ¬ D k) (h1n : 1 ≤ n) (h512 : n ≤ 512) (h2n : 2 + n ≤ N) :
 Calls Tryz.prog 38 #[.pointer (some ⟨q, 0, none⟩), .int .i64 (n : Int)] w fun e w' => ∃ p', e = .returned (.tuple #[.pointer (some ⟨p', 0, none⟩), .nilIface]) ∧
  JW w0 R p' q n ((List.replicate N zer).set 1 (hsec ⟨1, 1, 1, 0⟩)) [] ⟨1, 1, 1, 0⟩ [] w' ∧ RK R w w' := by
 have hc : cur (all (List.replicate N zero) []) = some ⟨0, 1, 0, 0⟩ := cur_fresh (by omega)
 refine (Open_good w D q _ [] hd n ⟨0, 1, 0, 0⟩ h1n h512 (by simpa using h2n) hc (by simp) (ht.below h3 ht.pos) (fun i hi => Nat.lt_of_lt_of_le ht.pos (h2 i hi))).mono ?_
 intro e w' ho
 have hl : load (all (List.replicate N zero) []) n 0 n 1 0 = [] := load_fresh h1n h2n
 rw [hl] at ho
 exact JW.of_opened h2 h3 h4 ho
end
end Go.Proofs.YtapiogcoipeinaaGreatDoor.Jn
namespace Go.Proofs.YtapiogcoipeinaaGreatDoor.Vo
open Go.RowKit
open Pk Sm Fa Rc Dk Jn
abbrev vcs (q n p : Nat) (H : Nat → Hm) : Array Value := #[.pointer (some ⟨q, 0, none⟩), .int .i64 (n : Int), .pointer (some ⟨p, 0, none⟩),
 .int .i64 ((H 0).s : Int), .string (H 0).d, .int .i64 ((H 1).s : Int), .string (H 1).d, .int .i64 ((H 2).s : Int), .string (H 2).d, .int .i64 ((H 3).s : Int), .string (H 3).d,
 .int .i64 ((H 4).s : Int), .string (H 4).d, .int .i64 ((H 5).s : Int), .string (H 5).d, .int .i64 ((H 6).s : Int), .string (H 6).d, .int .i64 ((H 7).s : Int), .string (H 7).d]
def VB (w : World) (v q n p : Nat) (H : Nat → Hm) : Prop := w.heap[v]? = some (.cells (vcs q n p H) 91 (0, 0))
def upH (H : Nat → Hm) (b : Nat) (x : Hm) : Nat → Hm := fun i => if i = b then x else H i
theorem below8 {b : Nat} (h : b < 8) : b = 0 ∨ b = 1 ∨ b = 2 ∨ b = 3 ∨ b = 4 ∨ b = 5 ∨ b = 6 ∨ b = 7 := by omega
section
variable {w w' : World} {v q n p b : Nat} {H : Nat → Hm} {x : Hm}
theorem VB.lt (h : VB w v q n p H) : v < w.heap.size := (Array.getElem?_eq_some_iff.1 h).1
theorem VB.below (h : VB w v q n p H) (hb : Below w.heap.size w w') : VB w' v q n p H := (hb.block v h.lt).trans h
theorem VB.free (h : VB w v q n p H) (i : Nat) : w.frozen? ⟨v, i, none⟩ = false := blk_free h i
theorem VB.disk (h : VB w v q n p H) : w.cell? ⟨v, 0, none⟩ = some (.pointer (some ⟨q, 0, none⟩)) := by simp [World.cell?, show w.heap[v]? = _ from h]
theorem VB.ring (h : VB w v q n p H) : w.cell? ⟨v, 1, none⟩ = some (.int .i64 (n : Int)) := by simp [World.cell?, show w.heap[v]? = _ from h]
theorem VB.jour (h : VB w v q n p H) : w.cell? ⟨v, 2, none⟩ = some (.pointer (some ⟨p, 0, none⟩)) := by simp [World.cell?, show w.heap[v]? = _ from h]
theorem VB.seq (h : VB w v q n p H) (hb : b < 8) : w.cell? ⟨v, 3 + b * 2, none⟩ = some (.int .i64 ((H b).s : Int)) := by
 rcases below8 hb with rfl | rfl | rfl | rfl | rfl | rfl | rfl | rfl <;> simp [World.cell?, show w.heap[v]? = _ from h]
theorem VB.dat (h : VB w v q n p H) (hb : b < 8) : w.cell? ⟨v, 3 + b * 2 + 1, none⟩ = some (.string (H b).d) := by
 rcases below8 hb with rfl | rfl | rfl | rfl | rfl | rfl | rfl | rfl <;> simp [World.cell?, show w.heap[v]? = _ from h]
theorem vcs_set (hb : b < 8) : ((vcs q n p H).setIfInBounds (3 + b * 2) (.int .i64 (x.s : Int))).setIfInBounds (3 + b * 2 + 1) (.string x.d) = vcs q n p (upH H b x) := by
 rcases below8 hb with rfl | rfl | rfl | rfl | rfl | rfl | rfl | rfl <;> rfl
abbrev putH (w : World) (v b : Nat) (x : Hm) : World := (w.setCell ⟨v, 3 + b * 2, none⟩ (.int .i64 (x.s : Int))).setCell ⟨v, 3 + b * 2 + 1, none⟩ (.string x.d)
theorem VB.put (h : VB w v q n p H) (hb : b < 8) (x : Hm) : VB (putH w v b x) v q n p (upH H b x) := by
 have h1 := heap_setCell_same w v (3 + b * 2) _ _ (.int .i64 (x.s : Int)) h
 have h2 := heap_setCell_same _ v (3 + b * 2 + 1) _ _ (.string x.d) h1
 rw [vcs_set hb] at h2
 exact h2
theorem kept_put (w : World) (v b : Nat) (x : Hm) : Kept (· = v) w (putH w v b x) := Kept.set (K := fun k => k = v) (Kept.set (K := fun k => k = v) (Kept.refl (fun k => k = v) w) rfl _ _) rfl _ _
end
/-! ### Beside a journal -/
section
variable {w0 w w' : World} {R : Nat → Prop} {p q n v : Nat} {S S' : List Sec} {L L' : List Wr} {h h' : Hd} {E E' : List Ent}
theorem JW.kept (j : JW w0 R p q n S L h E w) (hk : Kept (· = v) w w') (hv : R v) (h0 : w0.heap.size ≤ v) : JW w0 R p q n S L h E w' := by
 obtain ⟨G, h1, h2, h3, h4⟩ := j
 exact ⟨G, h1.kept hk (fun k hG e => (h4 v hv).2 (e ▸ hG)), h2, h3.trans (hk.below (fun k e => e ▸ h0) h3.size), fun k hR => ⟨Nat.lt_of_lt_of_le (h4 k hR).1 hk.size, (h4 k hR).2⟩⟩
theorem JW.full (j : JW w0 R p q n S L h E w) : Full (all S L) ∧ (all S L).length = S.length := by
 obtain ⟨G, ⟨D, J, X, k1, _⟩, _⟩ := j
 exact ⟨k1.full.all k1.fits, all_length _ _⟩
theorem JW.read (j : JW w0 R p q n S L h E w) {i : Nat} (hi : i < S.length) (hL : L.length ≤ 1000000) :
 Calls Tryz.prog 32 #[.pointer (some ⟨q, 0, none⟩), .int .i64 i] w fun e w' => ∃ g, e = .returned (.tuple #[.slice (some ⟨g, 0, none⟩) 64 64, .nilIface]) ∧ w.heap.size ≤ g ∧
  Byt w' w'.heap.size (some ⟨g, 0, none⟩) ((all S L).getD i []) ∧ Below w.heap.size w w' := by
 obtain ⟨G, ⟨D, J, X, k1, _⟩, _⟩ := j
 obtain ⟨s, hs⟩ : ∃ s, (all S L)[i]? = some s := ⟨_, List.getElem?_eq_getElem (by rw [all_length]; exact hi)⟩
 refine (Read_any w D q i S L s k1 hs hi hL).mono ?_
 rintro e w' ⟨g, rfl, hg, hc, hb⟩
 rw [getD_of hs]
 exact ⟨g, rfl, hg, Dk.byt_row hc.out, hb⟩
theorem JW.len (j : JW w0 R p q n S L h E w) : Calls Tryz.prog 31 #[.pointer (some ⟨q, 0, none⟩)] w fun e w' => e = .returned (.int .i64 S.length) ∧ w = w' := by
 obtain ⟨G, ⟨D, J, X, k1, _⟩, _⟩ := j
 exact Len_any k1
theorem JW.loose (j : JW w0 R p q n S L h E w) : Calls Tryz.prog 30 #[.pointer (some ⟨q, 0, none⟩)] w fun e w' => e = .returned (.int .i64 L.length) ∧ w = w' := by
 obtain ⟨G, ⟨D, J, X, k1, _⟩, _⟩ := j
 exact Loose_any k1
theorem JW.write (j : JW w0 R p q n S L h E w) {i c : Nat} {A : Option Addr} {s : Sec} (hi : i < S.length) (hb : Byt w w.heap.size A s) (hs : s.length = 64) (hL : L.length ≤ 900000) :
 Calls Tryz.prog 34 #[.pointer (some ⟨q, 0, none⟩), .int .i64 i, .slice A 64 c] w fun e w' => e = .returned .nilIface ∧ JW w0 R p q n S (L ++ [(i, s)]) h E w' ∧ RK R w w' := by
 obtain ⟨G, ⟨D, J, X, k1, k2, k3, k4⟩, h2, h3, h4⟩ := j
 refine (Write_any w D q i c A S L s k1 hi hb hs hL).mono ?_
 rintro e w' ⟨rfl, hp⟩
 exact ⟨rfl, JW.of h2 h3 h4 (Jr.disk k2 k3 k4 hp)⟩
end
/-! ### A volume -/
structure VW (w0 : World) (R : Nat → Prop) (v p q n : Nat) (S : List Sec) (L : List Wr) (h : Hd) (E : List Ent) (H : Nat → Hm) (w : World) : Prop where
 jw : JW w0 (fun k => R k ∨ k = v) p q n S L h E w
 box : VB w v q n p H
 ge : w0.heap.size ≤ v
 no : ¬ R v
theorem RK.left {R : Nat → Prop} {v : Nat} {w w' : World} (hk : RK (fun k => R k ∨ k = v) w w') : RK R w w' := fun k hR => hk k (Or.inl hR)
theorem RK.trans {R : Nat → Prop} {w w' w'' : World} (a : RK R w w') (b : RK R w' w'') : RK R w w'' := fun k hR => (b k hR).trans (a k hR)
section
variable {w0 w w' : World} {R : Nat → Prop} {p q n v : Nat} {S S' : List Sec} {L L' : List Wr} {h h' : Hd} {E E' : List Ent} {H H' : Nat → Hm}
theorem VW.after (j : VW w0 R v p q n S L h E H w) (hj : JW w0 (fun k => R k ∨ k = v) p q n S' L' h' E' w') (hk : RK (fun k => R k ∨ k = v) w w') : VW w0 R v p q n S' L' h' E' H w' ∧ RK R w w' :=
 ⟨⟨hj, (hk v (Or.inr rfl)).trans j.box, j.ge, j.no⟩, RK.left hk⟩
theorem VW.below (j : VW w0 R v p q n S L h E H w) (hb : Below w.heap.size w w') : VW w0 R v p q n S L h E H w' ∧ RK R w w' :=
 j.after (j.jw.below hb).1 (j.jw.below hb).2
theorem VW.bel (j : VW w0 R v p q n S L h E H w) : Below w0.heap.size w0 w := j.jw.bel
theorem VW.tab (j : VW w0 R v p q n S L h E H w) (ht : Tab w0) : Tab w := j.jw.tab ht
theorem VW.hold {R' : Nat → Prop} (j : VW w0 R v p q n S L h E H w) (hb : Below w.heap.size w w') (hR : ∀ k, R' k → w.heap.size ≤ k ∧ k < w'.heap.size) : VW w0 (fun k => R k ∨ R' k) v p q n S L h E H w' := by
 have hj := j.jw.hold hb hR
 refine ⟨hj.mono fun k hk => ?_, (j.below hb).1.box, j.ge, fun h1 => ?_⟩
 ·rcases hk with (h1 | h1) | h1
  ·exact Or.inl (Or.inl h1)
  ·exact Or.inr h1
  ·exact Or.inl (Or.inr h1)
 ·rcases h1 with h1 | h1
  ·exact j.no h1
  ·have := (hR v h1).1
   have := j.box.lt
   omega
theorem VW.mono {R' : Nat → Prop} (j : VW w0 R v p q n S L h E H w) (hR : ∀ k, R' k → R k) : VW w0 R' v p q n S L h E H w :=
 ⟨j.jw.mono fun k hk => hk.imp (hR k) id, j.box, j.ge, fun h1 => j.no (hR v h1)⟩
theorem VW.stored (j : VW w0 R v p q n S L h E H w) (hk : Kept (· = v) w w') (hb : VB w' v q n p H') : VW w0 R v p q n S L h E H' w' ∧ RK R w w' :=
 ⟨⟨JW.kept j.jw hk (Or.inr rfl) j.ge, hb, j.ge, j.no⟩, fun k hR => hk.block k (j.jw.choose_spec.2.2.2 k (Or.inl hR)).1 fun e => j.no (e ▸ hR)⟩
theorem VW.drew (j : VW w0 R v p q n S L h E H w) : VW w0 R v p q n S L h E H w.drew := (j.below (Below.refl _ _).drew).1
theorem VW.write (j : VW w0 R v p q n S L h E H w) {i c : Nat} {A : Option Addr} {s : Sec} (hi : i < S.length) (hb : Byt w w.heap.size A s) (hs : s.length = 64) (hL : L.length ≤ 900000) :
 Calls Tryz.prog 34 #[.pointer (some ⟨q, 0, none⟩), .int .i64 i, .slice A 64 c] w fun e w' => e = .returned .nilIface ∧ VW w0 R v p q n S (L ++ [(i, s)]) h E H w' ∧ RK R w w' := by
 refine (JW.write j.jw hi hb hs hL).mono ?_
 rintro e w' ⟨rfl, hj, hk⟩
 exact ⟨rfl, j.after hj hk⟩
theorem VW.fresh (j : JW w0 R p q n S L h E w) : VW w0 R w.heap.size p q n S L h E H (w.alloc (.cells (vcs q n p H) 91)) ∧ RK R w (w.alloc (.cells (vcs q n p H) 91)) := by
 have hb : Below w.heap.size w (w.alloc (.cells (vcs q n p H) 91)) := (Below.refl _ _).alloc (Nat.le_refl _) _
 refine ⟨⟨(j.hold (R' := fun k => k = w.heap.size) hb fun k e => ?_), heap_alloc_new w _, j.bel.size, fun hR => ?_⟩, (j.below hb).2⟩
 ·subst e
  exact ⟨Nat.le_refl _, (Array.getElem?_eq_some_iff.1 (heap_alloc_new w _)).1⟩
 ·have := (j.choose_spec.2.2.2 _ hR).1
  omega
end
end Go.Proofs.YtapiogcoipeinaaGreatDoor.Vo
namespace Go.Proofs.YtapiogcoipeinaaGreatDoor.Vo
open Go.RowKit
open Pk Sm Fa Rc Dk Jn
abbrev vnam : ByteArray := ⟨#[118, 111, 108, 117, 109, 101]⟩
def VFlt (w : World) (v : Value) (s e : Int) : Prop := ∃ p fs, v = .iface 145 (.pointer (some ⟨p, 0, none⟩)) ∧ Chain w ((p, vnam, s) :: fs) v (.iface 83 (.int .i64 e)) ∧ fs.length ≤ 2
theorem VFlt.below {w w' : World} {v : Value} {s e : Int} (h : VFlt w v s e) {B : Nat} (hB : w.heap.size ≤ B) (hb : Below B w w') : VFlt w' v s e := by
 obtain ⟨p, fs, rfl, hc, hl⟩ := h
 exact ⟨p, fs, rfl, hc.below hB hb, hl⟩
theorem VFlt.form {w : World} {v : Value} {s e : Int} (h : VFlt w v s e) : ∃ p, v = .iface 145 (.pointer (some ⟨p, 0, none⟩)) := by
 obtain ⟨p, fs, rfl, _⟩ := h
 exact ⟨p, rfl⟩
def VErr (w : World) (p : Nat) (s e : Int) : Prop := VFlt w (.iface 145 (.pointer (some ⟨p, 0, none⟩))) s e
theorem failed_num (s e : Int) (w : World) (he : e ≠ 0) :
 Calls Tryz.prog 37 #[.int .i64 s, .iface 83 (.int .i64 e)] w fun r w' => ∃ p, r = .returned (.iface 145 (.pointer (some ⟨p, 0, none⟩))) ∧ VErr w' p s e ∧ Below w.heap.size w w' := by
 have HW := hide (Wrap_real vnam s (.iface 83 (.int .i64 e)) w (Real.num he))
 go_enter Tryz.func37, Tryz.ntmps37
 go_wp2_with fail
 refine HW.out.mono ?_
 rintro r w' ⟨rfl, rfl⟩
 go_wp2
 go_ret
 exact ⟨_, rfl, ⟨_, [], rfl, Chain.wrap (fs := []) (w := w) (e := .iface 83 (.int .i64 e)) rfl vnam s, by simp⟩, (Below.refl _ _).alloc (Nat.le_refl _) _⟩
theorem failed_flt (s s2 e : Int) (p : Nat) (w : World) (hf : JFlt w (.iface 145 (.pointer (some ⟨p, 0, none⟩))) s2 e) :
 Calls Tryz.prog 37 #[.int .i64 s, .iface 145 (.pointer (some ⟨p, 0, none⟩))] w fun r w' => ∃ p, r = .returned (.iface 145 (.pointer (some ⟨p, 0, none⟩))) ∧ VErr w' p s e ∧ Below w.heap.size w w' := by
 have HW := hide (Wrap_real vnam s (.iface 145 (.pointer (some ⟨p, 0, none⟩))) w (Real.flt _))
 have HF := hide hf
 clear hf
 go_enter Tryz.func37, Tryz.ntmps37
 go_wp2_with fail
 refine HW.out.mono ?_
 rintro r w' ⟨rfl, rfl⟩
 go_wp2
 go_ret
 obtain ⟨p', fs, _, hc, hl⟩ := HF.out
 exact ⟨_, rfl, ⟨_, _, rfl, Chain.wrap hc vnam s, by simp; omega⟩, (Below.refl _ _).alloc (Nat.le_refl _) _⟩
theorem failed_nil (s : Int) (w : World) :
 Calls Tryz.prog 37 #[.int .i64 s, .nilIface] w fun r w' => r = .returned .nilIface ∧ w = w' := by
 have HW := hide (Wrap_nil vnam s w)
 go_enter Tryz.func37, Tryz.ntmps37
 go_wp2_with fail
 refine HW.out.mono ?_
 rintro r w' ⟨rfl, rfl⟩
 go_wp2
 go_ret
 exact ⟨rfl, rfl⟩
end Go.Proofs.YtapiogcoipeinaaGreatDoor.Vo
namespace Go.Proofs.YtapiogcoipeinaaGreatDoor.Vo
open Go.RowKit
open Pk Sm Fa Rc Dk Jn
theorem Sectors_any (n : Int) (h1 : -1000000 ≤ n) (h2 : n ≤ 1000000) (w : World) : Calls Tryz.prog 9 #[.int .i64 n] w fun e w' => e = .returned (.int .i64 (10 + n)) ∧ w = w' := by
 go_enter Tryz.func9, Tryz.ntmps9
 go_wp2
 go_ret
 exact ⟨by go_num, rfl⟩
theorem has_yes (b : Int) (h1 : 0 ≤ b) (h2 : b < 8) (w : World) : Calls Tryz.prog 43 #[.int .i64 b] w fun e w' => e = .returned (.bool true) ∧ w = w' := by
 go_enter Tryz.func43, Tryz.ntmps43
 go_wp2
 go_ret
 exact ⟨by go_num, rfl⟩
section
variable {w0 w : World} {R : Nat → Prop} {v p q n : Nat} {S : List Sec} {L : List Wr} {h : Hd} {E : List Ent} {H : Nat → Hm}
theorem sector_any (hv : VB w v q n p H) (b : Nat) (hn : n ≤ 1000) (hb : b < 8) : Calls Tryz.prog 66 #[.pointer (some ⟨v, 0, none⟩), .int .i64 (b : Int)] w fun e w' => e = .returned (.int .i64 ((2 + n + b : Nat) : Int)) ∧ w = w' := by
 have c1 := hv.ring
 clear hv
 go_enter Tryz.func66, Tryz.ntmps66
 go_wp2
 go_ret
 exact ⟨by go_num, rfl⟩
theorem VW.next (j : VW w0 R v p q n S L h E H w) (hf : h.f ≤ 2000000000000000000) (he : E.length ≤ 1000) :
 Calls Tryz.prog 28 #[.pointer (some ⟨v, 0, none⟩)] w fun e w' => e = .returned (.int .i64 ((h.f + E.length : Nat) : Int)) ∧ Below w.heap.size w w' := by
 have c2 := j.box.jour
 have HN := hide (j.jw.next hf he)
 obtain ⟨z, hz⟩ : ∃ z, h.f + E.length = z := ⟨_, rfl⟩
 rw [hz] at HN ⊢
 clear j hf he hz
 go_enter Tryz.func28, Tryz.ntmps28
 go_wp2_with fail
 refine HN.out.mono ?_
 rintro e w' ⟨rfl, hb⟩
 have HB := hide hb
 clear hb HN
 go_wp2
 go_ret
 exact ⟨rfl, HB.out⟩
theorem VW.records (j : VW w0 R v p q n S L h E H w) (he : E.length ≤ 1000) :
 Calls Tryz.prog 27 #[.pointer (some ⟨v, 0, none⟩)] w fun e w' => ∃ rv, e = .returned rv ∧ Rows5 w' w.heap.size rv E ∧ Below w.heap.size w w' := by
 have c2 := j.box.jour
 have HN := hide (j.jw.records he)
 clear j he
 go_enter Tryz.func27, Tryz.ntmps27
 go_wp2_with fail
 refine HN.out.mono ?_
 rintro e w' ⟨rv, rfl, hr, hb⟩
 have HB := hide hb
 have HR := hide hr
 clear hb hr HN
 go_wp2
 go_ret
 exact ⟨_, rfl, HR.out, HB.out⟩
theorem VW.flush (j : VW w0 R v p q n S L h E H w) (hL : L.length ≤ 1000000) :
 Calls Tryz.prog 20 #[.pointer (some ⟨v, 0, none⟩)] w fun e w' => e = .returned (.tuple #[]) ∧ VW w0 R v p q n (all S L) [] h E H w' ∧ RK R w w' := by
 have c2 := j.box.jour
 have HN := hide (j.jw.flush hL)
 have HJ := hide j
 clear j hL
 go_enter Tryz.func20, Tryz.ntmps20
 go_wp2_with fail
 refine HN.out.mono ?_
 rintro e w' ⟨rfl, hj, hk⟩
 have HB := hide (HJ.out.after hj hk)
 clear hj hk HN HJ
 go_wp2
 first
 | exact bodyPost_ret (results_none rfl _ _ _) rfl ⟨rfl, HB.out⟩
 | (go_end0; exact ⟨rfl, HB.out⟩)
end
end Go.Proofs.YtapiogcoipeinaaGreatDoor.Vo
namespace Go.Proofs.YtapiogcoipeinaaGreatDoor.Vo
open Go.RowKit
open Pk Sm Fa Rc Dk Jn
theorem five {w : World} {g o : Nat} {e : Ent} (h : w.rangeAt g o (rcel e)) : w.cell? ⟨g, o, none⟩ = some (.int .i64 (e.s : Int)) ∧ w.cell? ⟨g, o + 1, none⟩ = some (.int .i64 e.k) ∧ w.cell? ⟨g, o + 2, none⟩ = some (.int .i64 e.b) ∧ w.cell? ⟨g, o + 3, none⟩ = some (.string e.d) ∧ w.cell? ⟨g, o + 4, none⟩ = some (.int .i64 e.m) := by
 refine ⟨?_, ?_, ?_, ?_, ?_⟩
 ·have := h 0 _ rfl; simpa using this
 ·exact h 1 _ rfl
 ·exact h 2 _ rfl
 ·exact h 3 _ rfl
 ·exact h 4 _ rfl
abbrev rbx (w : World) (s : Nat) (k b : Int) (d : ByteArray) (m : Int) : World := w.alloc (.cells #[.int .i64 (s : Int), .int .i64 k, .int .i64 b, .string d, .int .i64 m] 100)
theorem rbx_below (w : World) (s : Nat) (k b : Int) (d : ByteArray) (m : Int) : Below w.heap.size w (rbx w s k b d m) := (Below.refl _ _).alloc (Nat.le_refl _) _
set_option maxRecDepth 100000 in
set_option maxHeartbeats 4000000 in
theorem contents_any {w0 w : World} {R : Nat → Prop} {v p q n : Nat} {S : List Sec} {L : List Wr} {h : Hd} {E : List Ent} {H : Nat → Hm} (j : VW w0 R v p q n S L h E H w) (b : Nat) (hb : b < 8) (hE : E.length ≤ 1000) :
 Calls Tryz.prog 48 #[.pointer (some ⟨v, 0, none⟩), .int .i64 (b : Int)] w fun e w' => e = .returned (hm2 (cont b (H b) E)) ∧ Below w.heap.size w w' := by
 have hb1 := mx_below w 0 ⟨#[]⟩
 have hx1 := Mx.new w 0 ⟨#[]⟩
 have HJ1 := hide (j.below hb1).1
 have HB1 := hide hb1
 obtain ⟨⟨s, d⟩, hH⟩ : ∃ x, H b = x := ⟨_, rfl⟩
 rw [hH]
 have hbi : (b : Int) < 8 := by omega
 have HE := hide hE
 clear j hb1 hE
 have d0 := HJ1.out.box.seq hb
 have d1 := HJ1.out.box.dat hb
 rw [hH] at d0 d1
 simp only at d0 d1
 have c2 := HJ1.out.box.jour
 have hvl := HJ1.out.box.lt
 generalize hw1 : w.alloc _ = w1 at *
 have hb2 := mx_below w1 s d
 have hx2 := Mx.new w1 s d
 have HJ2 := hide (HJ1.out.below hb2).1
 have HB2 := hide (HB1.out.trans (hb2.mono HB1.out.size))
 have hx12 := hx1.below hb2
 have hlt1 := hx1.lt
 have c2' := HJ2.out.box.jour
 rw [show mcs 0 ⟨#[]⟩ = #[.int .i64 0, .string ⟨#[]⟩] from rfl] at hw1
 clear hx1 hb2 HB1
 go_enter Tryz.func48, Tryz.ntmps48
 go_wp2_with fail
 generalize hw2 : w1.alloc _ = w2 at *
 have hsz : w1.heap.size < w2.heap.size := hx2.lt
 refine (HJ2.out.jw.records HE.out).mono ?_
 rintro e w3 ⟨rv, rfl, hr, hb3⟩
 obtain ⟨A, c, rfl, hc1, hc2, hrr⟩ := row_form hr
 have HOwn := hide (World.ownsRow.lt hr)
 have HRr := hide hrr
 have hx3 := hx2.below hb3
 have hx13 := hx12.below hb3
 have HB3 := hide (HB2.out.trans (hb3.mono HB2.out.size))
 have hs3 := hb3.size
 obtain ⟨m, hm⟩ : ∃ m, E.length = m := ⟨_, rfl⟩
 have Hm := hide hm
 rw [hm] at hc1 ⊢
 have hm2 : m ≤ 1000 := by have := HE.out; omega
 clear hr hrr hb3 hx2 hx12 HB2 HJ1 HJ2 d0 d1 c2 c2' hm hw2 hw1
 go_wp2
 go_loopw [20] (fun jx wr => ∃ (k cs : Nat) (cd : ByteArray), k ≤ m ∧ jx = .int .i64 k ∧ Hid (cont b ⟨s, d⟩ (E.take k) = ⟨cs, cd⟩) ∧ Mx wr w1.heap.size cs cd ∧ Hid (Kept (· = w1.heap.size) w3 wr)) (fun jx _ => m - (intOf jx).toNat)
 case atStart => exact ⟨0, s, d, Nat.zero_le _, rfl, rfl, hx3, Kept.refl _ _⟩
 case round =>
  obtain ⟨k, cs, cd, hk, rfl, hcon, hmx, hkp⟩ := hrel
  have hsk := hkp.out.size
  have hxr : Mx wr w.heap.size 0 ⟨#[]⟩ := (hkp.out.block _ hx13.lt (by omega)).trans hx13
  rcases Nat.lt_or_ge k m with hlt | hge
  ·have Hlt := hide hlt
   have hki : (k : Int) < (m : Int) := by omega
   obtain ⟨x, hx⟩ : ∃ x, E[k]? = some x := ⟨_, List.getElem?_eq_getElem (by rw [Hm.out]; exact hlt)⟩
   have HT := hide (show cont b ⟨s, d⟩ (E.take (k + 1)) = upd b ⟨cs, cd⟩ x by rw [List.take_add_one, hx, ← hcon.out]; exact cont_snoc _ _ _ _)
   obtain ⟨g, rfl, hgo, hgl, hrg⟩ := HRr.out (by rw [Hm.out]; omega)
   have hge := (HOwn.out g hgo).1
   have hpc := range_piece hrg (rcel_len E) hx
   obtain ⟨e0, e1, e2, e3, e4⟩ := five (w := wr) (g := g) (o := k * 5) (e := x) (fun i u hu => by
    have := hpc i u hu
    rw [← this]
    simp only [World.cell?, hkp.out.block g hgl (by omega)])
   obtain ⟨xg, xs, xk, xb, xd, xm⟩ := x
   simp only at e0 e1 e2 e3 e4
   have hglr : g < wr.heap.size := by omega
   have z0 := hmx.c0
   have z1 := hmx.c1
   have y0 := hmx.free 0
   have y1 := hmx.free 1
   have hN := hmx.lt
   have hbr := rbx_below wr xs xk xb xd xm
   have HMX2 := hide ((hmx.put xs xd).below (rbx_below (put2 wr w1.heap.size xs xd) xs xk xb xd xm))
   have HKP2 := hide ((Kept.set (Kept.set hkp.out rfl 0 (.int .i64 (xs : Int))) rfl 1 (.string xd)).trans (Grew.refl _ _) (Kept.of_below (rbx_below (put2 wr w1.heap.size xs xd) xs xk xb xd xm)))
   have HMX := hide (hmx.below hbr)
   have HKP := hide (hkp.out.trans (Grew.refl _ _) (Kept.of_below hbr))
   clear hx hrg hpc hkp hlt hgo hbr hmx hxr
   by_cases h1 : xk = 1
   ·subst h1
    by_cases h2 : xb = (b : Int)
    ·subst h2
     by_cases h3 : cs < xs
     ·have h3i : (cs : Int) < (xs : Int) := by omega
      have HU := hide (HT.out.trans (if_pos ⟨rfl, rfl, h3⟩))
      clear h3 HT
      go_wp2
      go_roundw
      case rel => exact ⟨k + 1, xs, xd, Hlt.out, by go_num, HU.out, HMX2.out, HKP2.out⟩
      case measure => have := Hlt.out; simp [intOf]; omega
     ·have h3i : ¬ ((cs : Int) < (xs : Int)) := by omega
      have HU := hide (HT.out.trans (if_neg fun h => h3 h.2.2))
      clear h3 HT
      go_wp2
      go_roundw
      case rel => exact ⟨k + 1, cs, cd, Hlt.out, by go_num, HU.out, HMX.out, HKP.out⟩
      case measure => have := Hlt.out; simp [intOf]; omega
    ·have h2e : (xb == (b : Int)) = false := by simp [h2]
     have HU := hide (HT.out.trans (if_neg fun h => h2 h.2.1))
     clear HT
     go_wp2
     go_roundw
     case rel => exact ⟨k + 1, cs, cd, Hlt.out, by go_num, HU.out, HMX.out, HKP.out⟩
     case measure => have := Hlt.out; simp [intOf]; omega
   ·have h1e : (xk == 1) = false := by simp [h1]
    have HU := hide (HT.out.trans (if_neg fun h => h1 h.1))
    clear HT
    go_wp2
    go_roundw
    case rel => exact ⟨k + 1, cs, cd, Hlt.out, by go_num, HU.out, HMX.out, HKP.out⟩
    case measure => have := Hlt.out; simp [intOf]; omega
  ·obtain rfl : k = m := by omega
   have hc := hcon.out
   rw [List.take_of_length_le (by rw [Hm.out]; exact Nat.le_refl _)] at hc
   have HC := hide hc
   have z0 := hmx.c0
   have z1 := hmx.c1
   have x0 := hxr.c0
   have x1 := hxr.c1
   have y0 := hxr.free 0
   have y1 := hxr.free 1
   have HX := hide (hxr.put cs cd)
   have hbw : Below w.heap.size w wr := HB3.out.trans (hkp.out.below (fun i e => by subst e; omega) HB3.out.size)
   have HY := hide (below_put2 hbw (Nat.le_refl _) cs cd)
   clear hcon hmx hkp hge hc hxr hbw hx13 hx3
   go_wp2
   refine bodyPost_ret (v := .agg (mcs cs cd)) (results_cell_row rfl _ _ w.heap.size 88 _ (0, 0) _ rfl (show _ from HX.out) Tryz.underlying88 rfl home_size) rfl ?_
   exact ⟨by rw [HC.out], HY.out⟩
end Go.Proofs.YtapiogcoipeinaaGreatDoor.Vo
namespace Go.Proofs.YtapiogcoipeinaaGreatDoor.Vo
open Go.RowKit
open Pk Sm Fa Rc Dk Jn
section
variable {w0 w : World} {R : Nat → Prop} {v p q n : Nat} {S : List Sec} {L : List Wr} {h : Hd} {E : List Ent} {H : Nat → Hm}
set_option maxRecDepth 100000 in
theorem put_good (j : VW w0 R v p q n S L h E H w) (ht : Tab w0) (hf : h.f ≤ 2000000000000000000) (hn : n ≤ 512) (he : E.length < n) (a s k b : Int) (d : ByteArray) (m : Int) (hok : EOk ⟨h.g, h.f + E.length, k, b, d, m⟩) (h2n : 2 + n ≤ S.length) (hL : L.length ≤ 900000) :
 Calls Tryz.prog 44 #[.pointer (some ⟨v, 0, none⟩), .int .i64 a, rec5 s k b d m] w fun e w' => e = .returned (.tuple #[.int .i64 ((h.f + E.length : Nat) : Int), .nilIface]) ∧
  VW w0 R v p q n S (L ++ [(2 + (h.f + E.length) % n, esec ⟨h.g, h.f + E.length, k, b, d, m⟩)]) h (E ++ [⟨h.g, h.f + E.length, k, b, d, m⟩]) H w' ∧ RK R w w' := by
 have hbx := Bx.new w s k b d m
 have hb0 := box_below w s k b d m
 have c2 := (j.below hb0).1.box.jour
 have hj0 := j.below hb0.drew
 have HA := hide (hj0.1.jw.append (s := s) ht hf hn he hok h2n hL)
 have HJ := hide hj0
 have hc0 := hbx.c0
 have hc1 := hbx.c1
 have hc2 := hbx.c2
 have hc3 := hbx.c3
 have hc4 := hbx.c4
 obtain ⟨z, hz⟩ : ∃ z, h.f + E.length = z := ⟨_, rfl⟩
 rw [hz] at HA ⊢
 clear j hf hn he hok h2n hL ht hz hj0 hbx hb0
 go_enter Tryz.func44, Tryz.ntmps44
 go_wp2_with fail
 generalize w.alloc _ = wb at *
 go_region_with (go_at_call 74; refine HA.out.mono ?_; rintro e w1 ⟨rfl, hj, hk⟩; have HV := hide (HJ.out.1.after hj hk); clear hj hk)
 all_goals
  have HV2 := hide (show VW w0 R v p q n S _ h _ H _ ∧ RK R w _ from ⟨HV.out.1, RK.trans HJ.out.2 HV.out.2⟩)
  clear HA HJ HV c2 hc0 hc1 hc2 hc3 hc4
  go_wp2_with fail
  refine (failed_nil a _).mono ?_
  rintro r w2 ⟨rfl, rfl⟩
  go_wp2
  go_ret2
  exact ⟨rfl, HV2.out⟩
set_option maxRecDepth 100000 in
theorem Write_good (j : VW w0 R v p q n S L h E H w) (ht : Tab w0) (hf : h.f ≤ 2000000000000000000) (hn : n ≤ 512) (he : E.length < n) (b : Int) (d : ByteArray) (h0 : 0 ≤ b) (h8 : b < 8) (hd : d.size ≤ 16) (hok : EOk ⟨h.g, h.f + E.length, 1, b, d, 0⟩) (h2n : 2 + n ≤ S.length) (hL : L.length ≤ 900000) :
 Calls Tryz.prog 13 #[.pointer (some ⟨v, 0, none⟩), .int .i64 b, .string d] w fun e w' => e = .returned (.tuple #[.int .i64 ((h.f + E.length : Nat) : Int), .nilIface]) ∧
  VW w0 R v p q n S (L ++ [(2 + (h.f + E.length) % n, esec ⟨h.g, h.f + E.length, 1, b, d, 0⟩)]) h (E ++ [⟨h.g, h.f + E.length, 1, b, d, 0⟩]) H w' ∧ RK R w w' := by
 have HA := hide (put_good j ht hf hn he b 0 1 b d 0 hok h2n hL)
 obtain ⟨z, hz⟩ : ∃ z, h.f + E.length = z := ⟨_, rfl⟩
 rw [hz] at HA ⊢
 have hdi : ¬ ((16 : Int) < (d.size : Int)) := by omega
 have HS := hide (has_yes b h0 h8)
 clear j hf hn he hok h2n hL ht hz hd h0 h8
 go_enter Tryz.func13, Tryz.ntmps13
 go_wp2_with fail
 refine (HS.out _).mono ?_
 rintro e w1 ⟨rfl, rfl⟩
 go_wp2_with fail
 refine HA.out.mono ?_
 rintro e w1 ⟨rfl, hj⟩
 have HV := hide hj
 clear hj HA HS
 go_wp2
 go_ret2
 exact ⟨rfl, HV.out⟩
end
section
variable {w : World} {v : Nat}
end
section
variable {w0 w : World} {R : Nat → Prop} {v p q n : Nat} {S : List Sec} {L : List Wr} {h : Hd} {E : List Ent} {H : Nat → Hm}
set_option maxRecDepth 100000 in
theorem Read_good (j : VW w0 R v p q n S L h E H w) (b : Nat) (hb : b < 8) (hE : E.length ≤ 1000) :
 Calls Tryz.prog 18 #[.pointer (some ⟨v, 0, none⟩), .int .i64 (b : Int)] w fun e w' => e = .returned (.tuple #[.string (cont b (H b) E).d, .nilIface]) ∧ Below w.heap.size w w' := by
 have HS := hide (has_yes (b : Int) (by omega) (by omega))
 have HC := hide (contents_any j b hb hE)
 obtain ⟨⟨cs, cd⟩, hx⟩ : ∃ x, cont b (H b) E = x := ⟨_, rfl⟩
 rw [hx] at HC ⊢
 clear j hb hE hx
 go_enter Tryz.func18, Tryz.ntmps18
 go_wp2_with fail
 refine (HS.out _).mono ?_
 rintro e w1 ⟨rfl, rfl⟩
 go_wp2_with fail
 refine HC.out.mono ?_
 rintro e w1 ⟨he, hb⟩
 obtain rfl : e = .returned (.agg #[.int .i64 (cs : Int), .string cd]) := he
 have HB := hide hb
 have hfd := home_data (cs : Int) cd w1
 clear hb HC HS
 go_wp2
 go_ret2
 exact ⟨rfl, HB.out⟩
end
end Go.Proofs.YtapiogcoipeinaaGreatDoor.Vo
namespace Go.Proofs.YtapiogcoipeinaaGreatDoor.Vo
open Go.RowKit
open Pk Sm Fa Rc Dk Jn
section
variable {w0 w : World} {R : Nat → Prop} {v p q n : Nat} {S : List Sec} {L : List Wr} {h : Hd} {E : List Ent} {H : Nat → Hm}
end
end Go.Proofs.YtapiogcoipeinaaGreatDoor.Vo
namespace Go.Proofs.YtapiogcoipeinaaGreatDoor.Vo
open Go.RowKit
open Pk Sm Fa Rc Dk Jn
section
variable {w0 w : World} {R : Nat → Prop} {v p q n : Nat} {S : List Sec} {L : List Wr} {h : Hd} {E : List Ent} {H : Nat → Hm}
end
end Go.Proofs.YtapiogcoipeinaaGreatDoor.Vo
namespace Go.Proofs.YtapiogcoipeinaaGreatDoor.Vo
open Go.RowKit
open Pk Sm Fa Rc Dk Jn
def ldH (H : Nat → Hm) (k : Nat) : Nat → Hm := fun i => if i < k then H i else hm0
theorem ldH_zero (H : Nat → Hm) : ldH H 0 = fun _ => hm0 := funext fun _ => if_neg (Nat.not_lt_zero _)
theorem ldH_succ (H : Nat → Hm) (k : Nat) : ldH H (k + 1) = upH (ldH H k) k (H k) := by
 funext i
 show (if i < k + 1 then H i else hm0) = if i = k then H k else if i < k then H i else hm0
 rcases Nat.lt_trichotomy i k with h | h | h
 ·rw [if_pos (by omega), if_neg (by omega), if_pos h]
 ·subst h
  rw [if_pos (by omega), if_pos rfl]
 ·rw [if_neg (by omega), if_neg (by omega), if_neg (by omega)]
section
variable {w0 w : World} {R : Nat → Prop} {v p q n : Nat} {S : List Sec} {L : List Wr} {h : Hd} {E : List Ent} {H H' : Nat → Hm}
theorem VB.congr (hv : VB w v q n p H) (hh : ∀ b, b < 8 → H b = H' b) : VB w v q n p H' := by
 have h0 := hh 0 (by omega)
 have h1 := hh 1 (by omega)
 have h2 := hh 2 (by omega)
 have h3 := hh 3 (by omega)
 have h4 := hh 4 (by omega)
 have h5 := hh 5 (by omega)
 have h6 := hh 6 (by omega)
 have h7 := hh 7 (by omega)
 unfold VB vcs at hv ⊢
 rw [← h0, ← h1, ← h2, ← h3, ← h4, ← h5, ← h6, ← h7]
 exact hv
theorem VW.congr (j : VW w0 R v p q n S L h E H w) (hh : ∀ b, b < 8 → H b = H' b) : VW w0 R v p q n S L h E H' w := ⟨j.jw, j.box.congr hh, j.ge, j.no⟩
def Loaded (w0 : World) (R : Nat → Prop) (v p q n : Nat) (S : List Sec) (L : List Wr) (h : Hd) (E : List Ent) (H : Nat → Hm) (w : World) (e : Ending) (w' : World) : Prop :=
 ((∀ b, b < 8 → unm b ((all S L).getD (2 + n + b) []) = some (H b)) → e = .returned (.bool true) ∧ VW w0 R v p q n S L h E H w' ∧ RK R w w') ∧
 ((∃ b, b < 8 ∧ unm b ((all S L).getD (2 + n + b) []) = none) → e = .returned (.bool false) ∧ (∃ H', VW w0 R v p q n S L h E H' w') ∧ RK R w w')
set_option maxRecDepth 100000 in
set_option maxHeartbeats 4000000 in
theorem load_any (j : VW w0 R v p q n S L h E (fun _ => hm0) w) (ht : Tab w0) (hn : n ≤ 512) (hS : 2 + n + 8 ≤ S.length) (hL : L.length ≤ 1000000) (hH : ∀ b, b < 8 → ∀ x, unm b ((all S L).getD (2 + n + b) []) = some x → H b = x) :
 Calls Tryz.prog 39 #[.pointer (some ⟨v, 0, none⟩)] w (Loaded w0 R v p q n S L h E H w) := by
 have HT := hide ht
 have HL := hide hL
 have HN := hide hn
 have HS := hide hS
 have HH := hide hH
 have HJ := hide j
 have hful := JW.full j.jw
 have HF := hide hful
 obtain ⟨A, hA⟩ : ∃ A, all S L = A := ⟨_, rfl⟩
 unfold Loaded
 rw [hA] at HH HF ⊢
 have HA := hide hA
 clear j ht hL hn hS hH hful hA
 go_enter Tryz.func39, Tryz.ntmps39
 go_wp2
 go_loopw [8] (fun jx wr => ∃ (i : Nat), i ≤ 8 ∧ jx = .int .i64 i ∧ (∀ b, b < i → ∃ x, unm b (A.getD (2 + n + b) []) = some x) ∧ Hid (VW w0 R v p q n S L h E (ldH H i) wr) ∧ Hid (RK R w wr)) (fun jx _ => 8 - (intOf jx).toNat)
 case atStart => exact ⟨0, by omega, rfl, fun b hb => absurd hb (Nat.not_lt_zero _), hide (by rw [ldH_zero]; exact HJ.out), hide fun _ _ => rfl⟩
 case round =>
  obtain ⟨i, hi, rfl, hB, hj, hr⟩ := hrel
  have HB := hide hB
  clear hB
  rcases Nat.lt_or_ge i 8 with hi8 | hge8
  ·have hii : (i : Int) < 8 := by omega
   have HSEC : Hid (∀ W, VB W v q n p (ldH H i) → Calls Tryz.prog 66 #[.pointer (some ⟨v, 0, none⟩), .int .i64 (i : Int)] W fun e w' => e = .returned (.int .i64 ((2 + n + i : Nat) : Int)) ∧ W = w') := hide fun W hv => sector_any hv i (by have := HN.out; omega) hi8
   have HRD := hide (JW.read hj.out.drew.jw (i := 2 + n + i) (by have := HS.out; omega) HL.out)
   have HLN : Hid ((A.getD (2 + n + i) []).length = 64) := hide (by
    have hlt : 2 + n + i < A.length := by rw [HF.out.2]; have := HS.out; omega
    have := HF.out.1 _ (List.getElem_mem hlt)
    rwa [List.getD_eq_getElem?_getD, List.getElem?_eq_getElem hlt])
   rw [HA.out] at HRD
   obtain ⟨z, hz⟩ : ∃ z, 2 + n + i = z := ⟨_, rfl⟩
   cases hu : unm i (A.getD (2 + n + i) []) with
   | some x =>
     have HHi := hide (HH.out i hi8 x hu)
     have HU := hide hu
     obtain ⟨cs, cd⟩ := x
     clear hu
     rw [hz] at HSEC HRD HLN HU
     have HZ := hide hz
     clear hz
     go_wp2
     refine wp_region_held (S := (fun W => W.cell? ⟨v, 0, none⟩ = some (.pointer (some ⟨q, 0, none⟩)))) (by kernel_rfl) ?_
     change wpAnyH _ _ _ _ _ _ _ _ (World.drew _)
     refine wpAnyH_take (i := 0) (oi := ⟨some 12, _, _, _, _, _⟩) (v := ?_) rfl (by kernel_rfl) (by kernel_rfl) (by kernel_rfl) (fun _ _ _ h => h) (Or.inl ⟨by rfl, ?_⟩) hj.out.drew.box.disk ?_
     rotate_left 1
     ·(intro w hSw; obtain hSw1 := hSw; go_simp; try with_reducible rfl)
     simp only [Act.put, sl]
     refine wpAnyH_take (i := 1) (oi := ⟨some 13, _, _, _, _, _⟩) (v := ?_) rfl (by kernel_rfl) (by kernel_rfl) (by kernel_rfl) (fun _ _ _ h => h) (Or.inl ⟨by rfl, ?_⟩) hj.out.drew.box.disk ?_
     rotate_left 1
     ·(intro w hSw; obtain hSw1 := hSw; go_simp; try with_reducible rfl)
     simp only [Act.put, sl]
     refine wpAnyH_take (i := 2) (oi := ⟨some 14, _, _, _, _, _⟩) (v := ?_) rfl (by kernel_rfl) (by kernel_rfl) (by kernel_rfl) (fun _ _ _ h => h) (Or.inl ⟨by rfl, ?_⟩) hj.out.drew.box.disk ?_
     rotate_left 1
     ·(intro w hSw; obtain hSw1 := hSw; go_simp; try with_reducible rfl)
     simp only [Act.put, sl]
     refine wpAnyH_take (i := 3) (oi := ⟨some 15, _, _, _, _, _⟩) (v := ?_) rfl (by kernel_rfl) (by kernel_rfl) (by kernel_rfl) (fun _ _ _ h => h) (Or.inl ⟨by rfl, ?_⟩) hj.out.drew.box.disk ?_
     rotate_left 1
     ·(intro w hSw; obtain hSw1 := hSw; go_simp; try with_reducible rfl)
     simp only [Act.put, sl]
     refine wpAnyH_take (i := 4) (oi := ⟨some 16, _, _, _, _, _⟩) (v := ?_) rfl (by kernel_rfl) (by kernel_rfl) (by kernel_rfl) (fun _ _ _ h => h) (Or.inl ⟨by rfl, ?_⟩) hj.out.drew.box.disk ?_
     rotate_left 1
     ·(intro w hSw; obtain hSw1 := hSw; go_simp; try with_reducible rfl)
     simp only [Act.put, sl]
     refine wpAnyH_take (i := 5) (oi := ⟨some 17, _, _, _, _, _⟩) (v := ?_) rfl (by kernel_rfl) (by kernel_rfl) (by kernel_rfl) (fun _ _ _ h => h) (Or.inl ⟨by rfl, ?_⟩) hj.out.drew.box.disk ?_
     rotate_left 1
     ·(intro w hSw; obtain hSw1 := hSw; go_simp; try with_reducible rfl)
     simp only [Act.put, sl]
     refine wpAnyH_ready (rs := [6]) (by kernel_rfl) (by simp) ?_
     refine AllReadyH.cons (o := ⟨some 18, _, _, _, _, _⟩) rfl (fun K hK => ?_) AllReadyH.nil
     go_simp
     refine (HSEC.out wr.drew hj.out.drew.box).mono ?_
     rintro r w2 ⟨rfl, rfl⟩
     refine hK.out _ _ hj.out.drew.box.disk (fun hHeld => ?_)
     clear hK K
     clear hHeld
     refine wpAnyH_ready (rs := [7]) (by kernel_rfl) (by simp) ?_
     refine AllReadyH.cons (o := ⟨some 19, _, _, _, _, _⟩) rfl (fun K hK => ?_) AllReadyH.nil
     go_simp
     refine (HRD.out).mono ?_
     rintro r w3 ⟨g, rfl, hg, hby, hb3⟩
     have hb3d := drew_below hb3
     have HJ3 := hide (hj.out.below hb3d).1
     have HK3 := hide (RK.trans hr.out (hj.out.below hb3d).2)
     have HBY := hide hby
     have hS3 := HJ3.out.box.disk
     clear hb3 hb3d hby hg
     refine hK.out _ _ hS3 (fun hHeld => ?_)
     clear hK K
     clear hHeld
     refine wpAnyH_take (i := 8) (oi := ⟨some 11, _, _, _, _, _⟩) (v := ?_) rfl (by kernel_rfl) (by kernel_rfl) (by kernel_rfl) (fun _ _ _ h => h) (Or.inl ⟨by rfl, ?_⟩) hS3 ?_
     rotate_left 1
     ·(intro w hSw; obtain hSw1 := hSw; go_simp; try with_reducible rfl)
     simp only [Act.put, sl]
     refine wpAnyH_take (i := 9) (oi := ⟨some 20, _, _, _, _, _⟩) (v := ?_) rfl (by kernel_rfl) (by kernel_rfl) (by kernel_rfl) (fun _ _ _ h => h) (Or.inl ⟨by rfl, ?_⟩) hS3 ?_
     rotate_left 1
     ·(intro w hSw; obtain hSw1 := hSw; go_simp; try with_reducible rfl)
     simp only [Act.put, sl]
     refine wpAnyH_take (i := 10) (oi := ⟨some 21, _, _, _, _, _⟩) (v := ?_) rfl (by kernel_rfl) (by kernel_rfl) (by kernel_rfl) (fun _ _ _ h => h) (Or.inl ⟨by rfl, ?_⟩) hS3 ?_
     rotate_left 1
     ·(intro w hSw; obtain hSw1 := hSw; go_simp; try with_reducible rfl)
     simp only [Act.put, sl]
     refine wpAnyH_take (i := 11) (oi := ⟨some 4, _, _, _, _, _⟩) (v := ?_) rfl (by kernel_rfl) (by kernel_rfl) (by kernel_rfl) (fun _ _ _ h => h) (Or.inl ⟨by rfl, ?_⟩) hS3 ?_
     rotate_left 1
     ·(intro w hSw; obtain hSw1 := hSw; go_simp; try with_reducible rfl)
     simp only [Act.put, sl]
     refine wpAnyH_take (i := 12) (oi := ⟨some 5, _, _, _, _, _⟩) (v := ?_) rfl (by kernel_rfl) (by kernel_rfl) (by kernel_rfl) (fun _ _ _ h => h) (Or.inl ⟨by rfl, ?_⟩) hS3 ?_
     rotate_left 1
     ·(intro w hSw; obtain hSw1 := hSw; go_simp; try with_reducible rfl)
     simp only [Act.put, sl]
     refine wpAnyH_done (by kernel_rfl) ?_ _
     clear hS3 HRD
     go_wp2_with fail
     refine (decode_any i (by show i ≤ _; omega) (some ⟨g, 0, none⟩) 64 _ w3 HLN.out (Nat.le_refl _) HBY.out (HJ3.out.tab HT.out)).mono ?_
     rintro e w4 ⟨he, hb4⟩
     rw [HU.out] at he
     obtain rfl : e = .returned (.tuple #[.agg #[.int .i64 (cs : Int), .string cd], .bool true]) := he
     have HJ4 := hide (HJ3.out.below hb4).1
     have HK4 := hide (RK.trans HK3.out (HJ3.out.below hb4).2)
     have hbm := mx_below w4 cs cd
     have hxm := Mx.new w4 cs cd
     have HJ5 := hide (HJ4.out.below hbm).1
     have HK5 := hide (RK.trans HK4.out (HJ4.out.below hbm).2)
     have z0 := hxm.c0
     have z1 := hxm.c1
     have v0 := HJ5.out.box.seq hi8
     have v1 := HJ5.out.box.dat hi8
     have u0 := HJ5.out.box.free (3 + i * 2)
     have u1 := HJ5.out.box.free (3 + i * 2 + 1)
     have hgl := hxm.lt
     clear hb4 HBY HJ3 HK3 HJ4 HK4 hbm
     go_wp2
     generalize w4.alloc _ = w5 at *
     go_region
     have hP := HJ5.out.stored (kept_put w5 v i ⟨cs, cd⟩) (HJ5.out.box.put hi8 ⟨cs, cd⟩)
     have HP := hide (show VW w0 R v p q n S L h E (ldH H (i + 1)) (putH w5 v i ⟨cs, cd⟩).drew ∧ RK R w (putH w5 v i ⟨cs, cd⟩).drew from ⟨by rw [ldH_succ, HHi.out]; exact hP.1.drew, RK.trans HK5.out hP.2⟩)
     have hB2 : ∀ b, b < i + 1 → ∃ x, unm b (A.getD (2 + n + b) []) = some x := by
      intro b hb
      rcases Nat.lt_or_ge b i with h | h
      ·exact HB.out b h
      ·obtain rfl : b = i := by omega
       exact ⟨_, by rw [HZ.out]; exact HU.out⟩
     have HB2 := hide hB2
     clear hP hB2 HJ5 HK5 z0 z1 v0 v1 u0 u1 hxm
     go_wp2
     go_roundw
     case rel => exact ⟨i + 1, by omega, by go_num, HB2.out, hide HP.out.1, hide HP.out.2⟩
     case measure => simp [intOf]; omega
   | none =>
     have HU := hide hu
     clear hu
     rw [hz] at HSEC HRD HLN HU
     have HZ := hide hz
     clear hz
     go_wp2
     refine wp_region_held (S := (fun W => W.cell? ⟨v, 0, none⟩ = some (.pointer (some ⟨q, 0, none⟩)))) (by kernel_rfl) ?_
     change wpAnyH _ _ _ _ _ _ _ _ (World.drew _)
     refine wpAnyH_take (i := 0) (oi := ⟨some 12, _, _, _, _, _⟩) (v := ?_) rfl (by kernel_rfl) (by kernel_rfl) (by kernel_rfl) (fun _ _ _ h => h) (Or.inl ⟨by rfl, ?_⟩) hj.out.drew.box.disk ?_
     rotate_left 1
     ·(intro w hSw; obtain hSw1 := hSw; go_simp; try with_reducible rfl)
     simp only [Act.put, sl]
     refine wpAnyH_take (i := 1) (oi := ⟨some 13, _, _, _, _, _⟩) (v := ?_) rfl (by kernel_rfl) (by kernel_rfl) (by kernel_rfl) (fun _ _ _ h => h) (Or.inl ⟨by rfl, ?_⟩) hj.out.drew.box.disk ?_
     rotate_left 1
     ·(intro w hSw; obtain hSw1 := hSw; go_simp; try with_reducible rfl)
     simp only [Act.put, sl]
     refine wpAnyH_take (i := 2) (oi := ⟨some 14, _, _, _, _, _⟩) (v := ?_) rfl (by kernel_rfl) (by kernel_rfl) (by kernel_rfl) (fun _ _ _ h => h) (Or.inl ⟨by rfl, ?_⟩) hj.out.drew.box.disk ?_
     rotate_left 1
     ·(intro w hSw; obtain hSw1 := hSw; go_simp; try with_reducible rfl)
     simp only [Act.put, sl]
     refine wpAnyH_take (i := 3) (oi := ⟨some 15, _, _, _, _, _⟩) (v := ?_) rfl (by kernel_rfl) (by kernel_rfl) (by kernel_rfl) (fun _ _ _ h => h) (Or.inl ⟨by rfl, ?_⟩) hj.out.drew.box.disk ?_
     rotate_left 1
     ·(intro w hSw; obtain hSw1 := hSw; go_simp; try with_reducible rfl)
     simp only [Act.put, sl]
     refine wpAnyH_take (i := 4) (oi := ⟨some 16, _, _, _, _, _⟩) (v := ?_) rfl (by kernel_rfl) (by kernel_rfl) (by kernel_rfl) (fun _ _ _ h => h) (Or.inl ⟨by rfl, ?_⟩) hj.out.drew.box.disk ?_
     rotate_left 1
     ·(intro w hSw; obtain hSw1 := hSw; go_simp; try with_reducible rfl)
     simp only [Act.put, sl]
     refine wpAnyH_take (i := 5) (oi := ⟨some 17, _, _, _, _, _⟩) (v := ?_) rfl (by kernel_rfl) (by kernel_rfl) (by kernel_rfl) (fun _ _ _ h => h) (Or.inl ⟨by rfl, ?_⟩) hj.out.drew.box.disk ?_
     rotate_left 1
     ·(intro w hSw; obtain hSw1 := hSw; go_simp; try with_reducible rfl)
     simp only [Act.put, sl]
     refine wpAnyH_ready (rs := [6]) (by kernel_rfl) (by simp) ?_
     refine AllReadyH.cons (o := ⟨some 18, _, _, _, _, _⟩) rfl (fun K hK => ?_) AllReadyH.nil
     go_simp
     refine (HSEC.out wr.drew hj.out.drew.box).mono ?_
     rintro r w2 ⟨rfl, rfl⟩
     refine hK.out _ _ hj.out.drew.box.disk (fun hHeld => ?_)
     clear hK K
     clear hHeld
     refine wpAnyH_ready (rs := [7]) (by kernel_rfl) (by simp) ?_
     refine AllReadyH.cons (o := ⟨some 19, _, _, _, _, _⟩) rfl (fun K hK => ?_) AllReadyH.nil
     go_simp
     refine (HRD.out).mono ?_
     rintro r w3 ⟨g, rfl, hg, hby, hb3⟩
     have hb3d := drew_below hb3
     have HJ3 := hide (hj.out.below hb3d).1
     have HK3 := hide (RK.trans hr.out (hj.out.below hb3d).2)
     have HBY := hide hby
     have hS3 := HJ3.out.box.disk
     clear hb3 hb3d hby hg
     refine hK.out _ _ hS3 (fun hHeld => ?_)
     clear hK K
     clear hHeld
     refine wpAnyH_take (i := 8) (oi := ⟨some 11, _, _, _, _, _⟩) (v := ?_) rfl (by kernel_rfl) (by kernel_rfl) (by kernel_rfl) (fun _ _ _ h => h) (Or.inl ⟨by rfl, ?_⟩) hS3 ?_
     rotate_left 1
     ·(intro w hSw; obtain hSw1 := hSw; go_simp; try with_reducible rfl)
     simp only [Act.put, sl]
     refine wpAnyH_take (i := 9) (oi := ⟨some 20, _, _, _, _, _⟩) (v := ?_) rfl (by kernel_rfl) (by kernel_rfl) (by kernel_rfl) (fun _ _ _ h => h) (Or.inl ⟨by rfl, ?_⟩) hS3 ?_
     rotate_left 1
     ·(intro w hSw; obtain hSw1 := hSw; go_simp; try with_reducible rfl)
     simp only [Act.put, sl]
     refine wpAnyH_take (i := 10) (oi := ⟨some 21, _, _, _, _, _⟩) (v := ?_) rfl (by kernel_rfl) (by kernel_rfl) (by kernel_rfl) (fun _ _ _ h => h) (Or.inl ⟨by rfl, ?_⟩) hS3 ?_
     rotate_left 1
     ·(intro w hSw; obtain hSw1 := hSw; go_simp; try with_reducible rfl)
     simp only [Act.put, sl]
     refine wpAnyH_take (i := 11) (oi := ⟨some 4, _, _, _, _, _⟩) (v := ?_) rfl (by kernel_rfl) (by kernel_rfl) (by kernel_rfl) (fun _ _ _ h => h) (Or.inl ⟨by rfl, ?_⟩) hS3 ?_
     rotate_left 1
     ·(intro w hSw; obtain hSw1 := hSw; go_simp; try with_reducible rfl)
     simp only [Act.put, sl]
     refine wpAnyH_take (i := 12) (oi := ⟨some 5, _, _, _, _, _⟩) (v := ?_) rfl (by kernel_rfl) (by kernel_rfl) (by kernel_rfl) (fun _ _ _ h => h) (Or.inl ⟨by rfl, ?_⟩) hS3 ?_
     rotate_left 1
     ·(intro w hSw; obtain hSw1 := hSw; go_simp; try with_reducible rfl)
     simp only [Act.put, sl]
     refine wpAnyH_done (by kernel_rfl) ?_ _
     clear hS3 HRD
     go_wp2_with fail
     refine (decode_any i (by show i ≤ _; omega) (some ⟨g, 0, none⟩) 64 _ w3 HLN.out (Nat.le_refl _) HBY.out (HJ3.out.tab HT.out)).mono ?_
     rintro e w4 ⟨he, hb4⟩
     rw [HU.out] at he
     obtain rfl : e = .returned (.tuple #[.agg #[.int .i64 0, .string ⟨#[]⟩], .bool false]) := he
     have HJ4 := hide (HJ3.out.below hb4).1
     have HK4 := hide (RK.trans HK3.out (HJ3.out.below hb4).2)
     have hbm := mx_below w4 0 ⟨#[]⟩
     have HJ5 := hide (HJ4.out.below hbm).1
     have HK5 := hide (RK.trans HK4.out (HJ4.out.below hbm).2)
     clear hb4 HBY HJ3 HK3 HJ4 HK4 hbm
     go_wp2
     go_ret
     exact ⟨fun hall => (by have := hall i hi8; rw [HZ.out, HU.out] at this; cases this), fun _ => ⟨rfl, ⟨_, HJ5.out⟩, HK5.out⟩⟩
  ·obtain rfl : i = 8 := by omega
   clear hge8
   go_wp2
   go_ret
   refine ⟨fun hall => ⟨rfl, hj.out.congr fun b hb => ?_, hr.out⟩, fun ⟨b, hb, hnone⟩ => ?_⟩
   ·exact if_pos hb
   ·obtain ⟨x, hx⟩ := HB.out b hb
    rw [hx] at hnone
    cases hnone
end
end Go.Proofs.YtapiogcoipeinaaGreatDoor.Vo
namespace Go.Proofs.YtapiogcoipeinaaGreatDoor.Vo
open Go.RowKit
open Pk Sm Fa Rc Dk Jn
theorem wpList_box_tld {P : Program} {ops : Array Oper} {rest : List Oper} {o : Oper} {a : Act} {w : World} {Q : Exit → Act → World → Prop} (hg : o.guard = none) (t : TypeId) (x : Operand) (ho : o.op = .box t x)
 (z : Array Value) (hz : a.eval x = .agg z)
 (h : ∀ w', Hid (w' = w.alloc (.cells z t)) → wpList P ops Q rest (a.put o.dst (.pointer (some ⟨w.heap.size, 0, none⟩))) w') : wpList P ops Q (o :: rest) a w := by
 refine wpList_plain hg fun K hK => ?_
 unfold Oper.wp execOp
 simp only [ho, hz, Sem.run_bind, Instr.box, newVar, newRow, run_newObj_alloc, Sem.run_pure, Result.andThen_ok, Value.cells]
 exact hK _ _ (h _ rfl)
theorem built_vol (q n p : Nat) : Tryz.prog.built 91 [(0, .pointer (some ⟨q, 0, none⟩)), (1, .int .i64 (n : Int)), (2, .pointer (some ⟨p, 0, none⟩))] = some (vcs q n p (fun _ => hm0)) := by kernel_rfl
section
variable {w0 w : World} {R : Nat → Prop} {v q n : Nat} {S : List Sec} {h : Hd} {E : List Ent} {H : Nat → Hm}
def JO (w0 : World) (R : Nat → Prop) (q n : Nat) (S : List Sec) (h : Hd) (E : List Ent) (w : World) (e : Ending) (w' : World) : Prop :=
 ∃ p, e = .returned (.tuple #[.pointer (some ⟨p, 0, none⟩), .nilIface]) ∧ JW w0 R p q n S [] h E w' ∧ RK R w w'
def VO (w0 : World) (R : Nat → Prop) (q n : Nat) (S : List Sec) (h : Hd) (E : List Ent) (H : Nat → Hm) (w : World) (e : Ending) (w' : World) : Prop :=
 ((∀ b, b < 8 → unm b (S.getD (2 + n + b) []) = some (H b)) → ∃ v p, e = .returned (.tuple #[.pointer (some ⟨v, 0, none⟩), .nilIface]) ∧ VW w0 R v p q n S [] h E H w' ∧ RK R w w') ∧
 ((∃ b, b < 8 ∧ unm b (S.getD (2 + n + b) []) = none) → ∃ pp, e = .returned (.tuple #[.pointer none, .iface 145 (.pointer (some ⟨pp, 0, none⟩))]) ∧ VErr w' pp (n : Int) 4 ∧ Below w0.heap.size w0 w' ∧ RK R w w')
set_option maxRecDepth 100000 in
set_option maxHeartbeats 2000000 in
theorem Open_any {m : Nat} (hl : Calls Tryz.prog 31 #[.pointer (some ⟨q, 0, none⟩)] w fun e w' => e = .returned (.int .i64 m) ∧ w = w')
 (ho : Calls Tryz.prog 38 #[.pointer (some ⟨q, 0, none⟩), .int .i64 (n : Int)] w (JO w0 R q n S h E w)) (ht : Tab w0) (h1n : 1 ≤ n) (h512 : n ≤ 512) (hm : 10 + n ≤ m) (hS : 2 + n + 8 ≤ S.length)
 (hH : ∀ b, b < 8 → ∀ x, unm b (S.getD (2 + n + b) []) = some x → H b = x) :
 Calls Tryz.prog 11 #[.pointer (some ⟨q, 0, none⟩), .int .i64 (n : Int)] w (VO w0 R q n S h E H w) := by
 have HLn := hide hl
 have HO := hide ho
 have HT := hide ht
 have HS := hide hS
 have HH := hide hH
 have HN := hide h512
 have HSC := hide (Sectors_any (n : Int) (by omega) (by omega) w)
 have g1 : ¬ ((n : Int) < 1) := by omega
 have g2 : ¬ ((512 : Int) < (n : Int)) := by omega
 have g3 : ¬ ((m : Int) < 10 + (n : Int)) := by omega
 clear hl ho ht h1n h512 hm hS hH
 go_enter Tryz.func11, Tryz.ntmps11
 go_wp2_with fail
 refine HLn.out.mono ?_
 rintro e w' ⟨rfl, rfl⟩
 clear HLn
 go_wp2_with fail
 refine HSC.out.mono ?_
 rintro e w' ⟨rfl, rfl⟩
 clear HSC
 go_wp2_with fail
 refine HO.out.mono ?_
 rintro e w1 ⟨p, rfl, hj, hk⟩
 have HJ1 := hide hj
 have HK1 := hide hk
 clear hj hk HO
 go_wp2_with (first | refine wpList_built rfl 91 _ rfl _ (built_vol q n p) ?_ | (refine wpList_box_tld rfl 91 _ rfl _ rfl ?_; intro w2 Hw2) | fail)
 have hfr : VW w0 R w1.heap.size p q n S [] h E (fun _ => hm0) w2 ∧ RK R w1 w2 := by rw [Hw2.out]; exact VW.fresh HJ1.out
 have HV2 := hide hfr.1
 have HK2 := hide (RK.trans HK1.out hfr.2)
 clear hfr Hw2
 generalize w1.heap.size = v at *
 have HLD := hide (load_any HV2.out HT.out HN.out HS.out (by simp) HH.out)
 refine HLD.out.mono ?_
 rintro e w3 ⟨ha, hb⟩
 by_cases hall : ∀ b, b < 8 → unm b (S.getD (2 + n + b) []) = some (H b)
 ·obtain ⟨rfl, hv3, hk3⟩ := ha hall
  have HV3 := hide hv3
  have HK3 := hide (RK.trans HK2.out hk3)
  have HA := hide hall
  clear ha hb hv3 hk3 hall HLD HV2 HK2
  go_wp2
  go_ret2
  exact ⟨fun _ => ⟨v, p, rfl, HV3.out, HK3.out⟩, fun ⟨b, h1, h2⟩ => (by have := HA.out b h1; rw [this] at h2; cases h2)⟩
 ·have hex : ∃ b, b < 8 ∧ unm b (S.getD (2 + n + b) []) = none := by
   refine Classical.byContradiction fun hc => hall fun b hb => ?_
   cases hu : unm b (S.getD (2 + n + b) []) with
   | none => exact absurd ⟨b, hb, hu⟩ hc
   | some x => rw [HH.out b hb x hu]
  obtain ⟨rfl, ⟨H', hv3⟩, hk3⟩ := hb hex
  have HB3 := hide hv3.bel
  have HK3 := hide (RK.trans HK2.out hk3)
  have HV3 := hide hv3
  have HA := hide hex
  clear ha hb hv3 hk3 hall hex HLD HV2 HK2
  go_wp2_with fail
  refine (failed_num (n : Int) 4 w3 (by decide)).mono ?_
  rintro e w4 ⟨pp, rfl, hf4, hb4⟩
  have HF := hide hf4
  have HB4 := hide (HB3.out.trans (hb4.mono HB3.out.size))
  have HK4 := hide (RK.trans HK3.out (HV3.out.below hb4).2)
  clear hf4 hb4
  go_wp2
  go_ret2
  exact ⟨fun hall => (by obtain ⟨b, h1, h2⟩ := HA.out; rw [hall b h1] at h2; cases h2), fun _ => ⟨pp, rfl, HF.out, HB4.out, HK4.out⟩⟩
end
end Go.Proofs.YtapiogcoipeinaaGreatDoor.Vo
