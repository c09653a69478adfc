/-
  Both volumes, the same in what they hold and in all sectors: each call on one, then on the other; what is always so of them between the statement's steps. Nothing but their own memory is changed. Conditions: the table of half bytes, and the library's variable errors.errorType, hold what the program's own text lays.
-/
import Derived.Test.YtapiogcoipeinaaGreatDoorU27
import Derived.Laws.StructEq
import Derived.Test.YtapiogcoipeinaaGreatDoorU13
import Derived.Test.YtapiogcoipeinaaGreatDoorU22
import Derived.BigQuiet
import Derived.Deep.RegionHeld3
import Derived.Test.YtapiogcoipeinaaGreatDoorU23
namespace Go.Proofs.YtapiogcoipeinaaGreatDoor.Jn
open Go.RowKit
open Pk hiding str str_data str_size str_of run_str head_str str_append
open Sm hiding run_str
open Fa Rc Dk
set_option maxRecDepth 100000 in
set_option maxHeartbeats 8000000 in
theorem ROpen_B (w : World) (D : Nat → Prop) (q : Nat) (S : List Sec) (n : Nat) (hd : RDsk w D q S []) (h1n : 1 ≤ n) (h512 : n ≤ 512) (h2n : 2 + n ≤ S.length) (hS : S.length ≤ 1000) (hFull : Full S) (s0 s1 : Sec) (hs0 : S[0]? = some s0) (hs1 : S[1]? = some s1) (t f g l : Nat) (ht : t ≤ 1152921504606846975) (hf : f ≤ 1152921504606846975) (hgn : g ≤ 1152921504606846975) (ha : unh 1 s1 = some ⟨t, f, g, l⟩) (T0 F0 G0 L0 : Int) (hb : HdTup (unh 0 s0) = .tuple #[.int .i64 T0, .int .i64 F0, .int .i64 G0, .int .i64 L0]) (hlt1 : T0 < (t : Int)) (hneg : T0 < 0) :
 Calls Tryz.prog 40 #[.pointer (some ⟨q, 0, none⟩), .int .i64 (n : Int)] w (ROpened w D q n S ⟨t + 1, f, g + 1, l⟩ (load S n g n f l)) := by
 obtain ⟨i0, hi0, hz0, hz1, hz2⟩ := info_parts rec_info
 have Hz1 := hide hz1
 have Hz2 := hide hz2
 obtain ⟨j0, hj0, hy0, hy1, hy2⟩ := info_parts int_info
 have Hy1 := hide hy1
 have Hy2 := hide hy2
 clear hz1 hz2 hy1 hy2
 obtain ⟨sl, hsl⟩ : ∃ sl, S.length = sl := ⟨_, rfl⟩
 have hsi : (sl : Int) ≤ 1000 := by omega
 obtain ⟨A, c, hp0⟩ : ∃ A c, w.cell? ⟨q, 0, none⟩ = some (.slice A sl c) := by
  obtain ⟨F, X, hp, h2, _⟩ := hd
  obtain ⟨A, c, rfl, _⟩ := row_form h2
  exact ⟨A, c, by rw [← hsl]; simp [World.cell?, hp]⟩
 have H1n := hide h1n
 have Hn := hide h512
 have H2n := hide h2n
 have hn1 : ¬ ((n : Int) < 1) := by omega
 have hn5 : ¬ ((512 : Int) < (n : Int)) := by omega
 have hn5' : (n : Int) ≤ 512 := by omega
 obtain ⟨n2, hn2⟩ : ∃ n2, 2 + n = n2 := ⟨_, rfl⟩
 have hn2i : (2 : Int) + (n : Int) = (n2 : Int) := by omega
 have hn2w : IntKind.i64.wrap (n2 : Int) = (n2 : Int) := by rw [IntKind.wrap_i64]; omega
 have hn2l : ¬ ((sl : Int) < (n2 : Int)) := by omega
 have HFull := hide hFull
 have L0 : s0.length = 64 := HFull.out s0 (List.mem_of_getElem? hs0)
 have L1 : s1.length = 64 := HFull.out s1 (List.mem_of_getElem? hs1)
 obtain ⟨Z, hZ⟩ : ∃ Z, load S n g n f l = Z := ⟨_, rfl⟩
 have HZE := hide hZ
 have HZ0 := hide (show Z = [] ++ load S n g (n - 0) (f + 0) l by rw [List.nil_append, Nat.sub_zero, Nat.add_zero]; exact hZ.symm)
 have HR0 := hide (RRead_any w D q 0 S [] s0 hd hs0 (by omega) (by simp))
 have HR1 := hide (RRead_any w D q 1 S [] s1 hd hs1 (by omega) (by simp))
 have HPF := hide (Rj.fresh (n := n) hd)
 obtain ⟨p, hpw⟩ : ∃ p, p = w.heap.size := ⟨_, rfl⟩
 rw [← hpw] at HPF
 have HH0 := hide (fun W => rHead_any (str s0) 0 W (by rw [str_size]; exact L0))
 have HH1 := hide (fun W => rHead_any (str s1) 1 W (by rw [str_size]; exact L1))
 simp only [str_data] at HH0 HH1
 rw [ha] at HH1
 simp only [HdTup] at HH1
 rw [hb] at HH0
 have hT0 : ¬ ((t : Int) < 0) := by omega
 have hT1 : ¬ ((t : Int) < T0) := by omega
 clear hd h1n h512 h2n hS hFull hsl hn2 hs0 hs1 L0 L1 hZ
 go_enter Tryz.func40, Tryz.ntmps40
 go_wp2_with fail
 refine HR0.out.mono ?_
 rintro e w' ⟨rfl, rfl⟩
 go_wp2_with fail
 refine HR1.out.mono ?_
 rintro e w' ⟨rfl, rfl⟩
 clear hp0 HR0 HR1
 go_wp2_with fail
 rw [← hpw]
 clear hpw
 generalize w.alloc _ = w1 at *
 refine (HH0.out w1).mono ?_
 rintro e w2 ⟨rfl, hb2⟩
 have HP2 := hide (HPF.out.below hb2)
 clear hb2 HPF HH0
 go_wp2_with fail
 refine (HH1.out w2).mono ?_
 rintro e w3 ⟨rfl, hb3⟩
 have HP3 := hide (HP2.out.below hb3)
 clear hb3 HP2 HH1
 obtain ⟨G3, hj3, hg3, hk3⟩ := HP3.out
 have HPS := hide (RjPost.of hg3 hk3 (RjPost.then (Rj.set (i := 2) (v := .int .i64 (t : Int)) (h' := ⟨t, 1, 0, 0⟩) hj3 (fun X Y => rfl)) fun _ j => RjPost.then (Rj.set (i := 3) (v := .int .i64 (f : Int)) (h' := ⟨t, f, 0, 0⟩) j (fun X Y => rfl)) fun _ j => RjPost.then (Rj.set (i := 4) (v := .int .i64 (g : Int)) (h' := ⟨t, f, g, 0⟩) j (fun X Y => rfl)) fun _ j => Rj.set (i := 5) (v := .int .i64 (l : Int)) (h' := ⟨t, f, g, l⟩) j (fun X Y => rfl)))
 obtain ⟨D3, J3, X3, Y3, _, k2, _, _⟩ := hj3
 have c2 : w3.cell? ⟨p, 2, none⟩ = some (.int .i64 ((0 : Nat) : Int)) := k2.heads.2.1
 have c3 : w3.cell? ⟨p, 3, none⟩ = some (.int .i64 ((1 : Nat) : Int)) := k2.heads.2.2.1
 have c4 : w3.cell? ⟨p, 4, none⟩ = some (.int .i64 ((0 : Nat) : Int)) := k2.heads.2.2.2.1
 have c5 : w3.cell? ⟨p, 5, none⟩ = some (.int .i64 ((0 : Nat) : Int)) := k2.heads.2.2.2.2
 have f2 : w3.frozen? ⟨p, 2, none⟩ = false := blk_free k2.box 2
 have f3 : w3.frozen? ⟨p, 3, none⟩ = false := blk_free k2.box 3
 have f4 : w3.frozen? ⟨p, 4, none⟩ = false := blk_free k2.box 4
 have f5 : w3.frozen? ⟨p, 5, none⟩ = false := blk_free k2.box 5
 clear k2 hg3 hk3 HP3
 go_wp2_with fail
 generalize (((w3.setCell _ _).setCell _ _).setCell _ _).setCell _ _ = w4 at *
 have HP0 := HPS
 clear HPS c2 c3 c4 c5 f2 f3 f4 f5
 go_loopw [19] (fun lo wr => ∃ (k lt : Nat) (F : List Ent), k ≤ n ∧ lo = .int .i64 (lt : Int) ∧ Hid (F.length = k) ∧ Hid (Z = F ++ load S n g (n - k) (f + k) lt) ∧ Hid (RjPost w D p q S [] n ⟨t, f, g, l⟩ F wr)) (fun _ wr => n - lenAt wr p)
 case atStart => exact ⟨0, l, [], Nat.zero_le _, rfl, rfl, HZ0.out, HP0.out⟩
 case round =>
  clear HP0
  obtain ⟨k, lt, F, hk, rfl, hF, hZF, hp⟩ := hrel
  have hlen := hide (show lenAt wr p = k by rw [hp.out.len, hF.out])
  rcases Nat.lt_or_ge k n with hlt | hge
  ·have Hlt := hide hlt
   have hki : (k : Int) < (n : Int) := by omega
   obtain ⟨sq, hsq⟩ : ∃ sq, f + k = sq := ⟨_, rfl⟩
   have hsq' : (f : Int) + (k : Int) = (sq : Int) := by omega
   have hsb : (sq : Int) ≤ 3000000000000000000 := by have := Hn.out; omega
   have hrmn := remN sq n
   obtain ⟨rr, hrr⟩ : ∃ rr, sq % n = rr := ⟨_, rfl⟩
   have hrlt : rr < n := by rw [← hrr]; exact Nat.mod_lt sq (by omega)
   have hn512 : n ≤ 512 := Hn.out
   have hz : ¬ ((n : Int) = 0) := by omega
   have hz2 : ((n : Int) == 0) = false := by simp; omega
   have hz3 : ¬ (n = 0) := by omega
   rw [hrr] at hrmn
   obtain ⟨cc, hcc⟩ : ∃ cc, 2 + rr = cc := ⟨_, rfl⟩
   have hcci : (2 : Int) + (rr : Int) = (cc : Int) := by omega
   have hwc : IntKind.i64.wrap (cc : Int) = (cc : Int) := by rw [IntKind.wrap_i64]; omega
   have hcl : cc < S.length := by have := H2n.out; omega
   obtain ⟨s, hs⟩ : ∃ s, S[cc]? = some s := ⟨_, List.getElem?_eq_getElem hcl⟩
   have HGD := hide (show S.getD (2 + sq % n) [] = s by rw [hrr, hcc]; exact getD_of hs)
   have Hls := hide (show s.length = 64 from HFull.out s (List.mem_of_getElem? hs))
   have Hs := hide hs
   have Hcl := hide hcl
   obtain ⟨r', hr'⟩ : ∃ r', n - k = r' + 1 := ⟨n - k - 1, by omega⟩
   have hZF' := hZF.out
   rw [hr', hsq] at hZF'
   have HZF := hide hZF'
   have HR' := hide (show n - (k + 1) = r' by omega)
   have HSQ := hide hsq
   obtain ⟨c3, c6, c1⟩ : wr.cell? ⟨p, 3, none⟩ = some (.int .i64 (f : Int)) ∧ (∃ A c, wr.cell? ⟨p, 6, none⟩ = some (.slice A k c)) ∧ True := by
    obtain ⟨G1, ⟨D1, J1, X1, Y1, h1, h2, h3, h4⟩, _, _⟩ := hp.out
    obtain ⟨A, c, B, d, rfl, rfl, c0, c1, c2, c3, c4, c5, c6, c7, fz⟩ := h2.cells
    rw [hF.out] at c6
    exact ⟨c3, ⟨A, c, c6⟩, trivial⟩
   obtain ⟨A0, cc0, c6⟩ := c6
   clear hs hcl hcc hlt hr' hsq hrr hZF hZF' hk c1
   go_wp2_with fail
   go_quiet (fail)
   clear c3 c6
   have hbq : Below wr.heap.size wr (wr.drewN nq) := ⟨rfl, rfl, rfl, Nat.le_refl _, fun _ _ => rfl⟩
   have HP1 := hide (hp.out.below hbq)
   clear hbq hp
   have hlen' := hlen
   generalize wr.drewN nq = w1 at *
   obtain ⟨G1, ⟨D1, J1, X1, Y1, h1, h2, h3, h4⟩, hg1, hk1⟩ := HP1.out
   have HRD := hide (RRead_any w1 D1 q cc S [] s h1 Hs.out Hcl.out (by simp))
   clear h1 h2 h3 h4 hg1 hk1
   go_wp2_with fail
   refine HRD.out.mono ?_
   rintro e w' ⟨rfl, rfl⟩
   clear hrmn hcci hwc hz hz2 hz3 HRD
   go_wp2_with fail
   refine (rDecode_une s w1 Hls.out).mono ?_
   rintro e w3 ⟨hres, hb3⟩
   have HP3 := hide (HP1.out.below hb3)
   clear hb3 HP1
   rcases hres with ⟨x, hux, rfl⟩ | ⟨hux, er, her, rfl⟩
   ·have Hux := hide hux
    obtain ⟨xg, xs, xk, xb, xd, xm⟩ := x
    have hbx0 := Bx.new w3 (xs : Int) xk xb xd xm
    have HP4 := hide (HP3.out.below (box_below w3 (xs : Int) xk xb xd xm))
    have e4 : (w3.alloc (.cells #[.int .i64 (xs : Int), .int .i64 xk, .int .i64 xb, .string xd, .int .i64 xm] 100)).cell? ⟨p, 4, none⟩ = some (.int .i64 (g : Int)) := by obtain ⟨G, ⟨D, J, X, Y, h1, h2, h3, h4⟩, _, _⟩ := HP4.out; exact h2.heads.2.2.2.1
    have HPL : Hid (∀ i, (∃ G J X Y D, RDsk w3 D q S [] ∧ RjAt w3 J p q n ⟨t, f, g, l⟩ F F X Y ∧ G = J ∧ J i) → i < w3.heap.size) := fun i hi => by
     obtain ⟨G, J, X, Y, D, _, h2, _, hJ⟩ := hi
     exact h2.lt i hJ
    clear hux
    by_cases hq : xs = sq
    ·subst hq
     by_cases hg1 : xg < lt
     ·have hgi : (xg : Int) < (lt : Int) := by omega
      have HE := hide (show Z = F by rw [HZF.out, load_no (by rw [HGD.out]; exact Hux.out) (by intro h; have := h.2.1; have e : (⟨xg, xs, xk, xb, xd, xm⟩ : Ent).g = xg := rfl; omega), List.append_nil])
      have HP := HP4
      clear hg1 HP3 HP4 HPL
      obtain ⟨G9, hj9, hg9, hk9⟩ := HP.out
      have HPS := hide (RjPost.of hg9 hk9 (Rj.set (i := 4) (v := .int .i64 ((g : Int) + 1)) (h' := ⟨t, f, g + 1, l⟩) hj9 (fun X Y => rfl)))
      obtain ⟨D9, J9, X9, Y9, _, k2, _, _⟩ := hj9
      have e4 : (w3.alloc (.cells #[.int .i64 (xs : Int), .int .i64 xk, .int .i64 xb, .string xd, .int .i64 xm] 100)).cell? ⟨p, 4, none⟩ = some (.int .i64 (g : Int)) := k2.heads.2.2.2.1
      have f4 : (w3.alloc (.cells #[.int .i64 (xs : Int), .int .i64 xk, .int .i64 xb, .string xd, .int .i64 xm] 100)).frozen? ⟨p, 4, none⟩ = false := blk_free k2.box 4
      clear k2 hg9 hk9 HP
      go_wp2_with fail
      generalize World.setCell _ _ _ = w8 at *
      obtain ⟨G8, hj8, hg8, hk8⟩ := HPS.out
      have hFE := HE.out
      refine (RSave_any w8 G8 p q S [] n ⟨t, f, g + 1, l⟩ F hj8 (by show t ≤ _; omega) (by have := H2n.out; omega) (by simp)).mono ?_
      rintro e w9 ⟨rfl, hp9⟩
      have HP9 := hide (RjPost.of hg8 hk8 hp9)
      clear hj8 hg8 hk8 hp9 HPS e4 f4
      go_wp2
      go_ret2
      refine ⟨p, rfl, ?_⟩
      show RjPost w D p q (all S ([] ++ [((t + 1) % 2, hsec ⟨t + 1, f, g + 1, l⟩)])) [] n ⟨t + 1, f, g + 1, l⟩ _ _
      have hZE := HZE.out
      rw [show load S n g n f l = F by rw [hZE, hFE]]
      exact HP9.out
     ·have hgi : ¬ ((xg : Int) < (lt : Int)) := by omega
      by_cases hg2 : g < xg
      ·have hgj : (g : Int) < (xg : Int) := by omega
       have HE := hide (show Z = F by rw [HZF.out, load_no (by rw [HGD.out]; exact Hux.out) (by intro h; have := h.2.2; have e : (⟨xg, xs, xk, xb, xd, xm⟩ : Ent).g = xg := rfl; omega), List.append_nil])
       have HP := HP4
       clear hg1 hg2 HP3 HP4 HPL
       obtain ⟨G9, hj9, hg9, hk9⟩ := HP.out
       have HPS := hide (RjPost.of hg9 hk9 (Rj.set (i := 4) (v := .int .i64 ((g : Int) + 1)) (h' := ⟨t, f, g + 1, l⟩) hj9 (fun X Y => rfl)))
       obtain ⟨D9, J9, X9, Y9, _, k2, _, _⟩ := hj9
       have e4 : (w3.alloc (.cells #[.int .i64 (xs : Int), .int .i64 xk, .int .i64 xb, .string xd, .int .i64 xm] 100)).cell? ⟨p, 4, none⟩ = some (.int .i64 (g : Int)) := k2.heads.2.2.2.1
       have f4 : (w3.alloc (.cells #[.int .i64 (xs : Int), .int .i64 xk, .int .i64 xb, .string xd, .int .i64 xm] 100)).frozen? ⟨p, 4, none⟩ = false := blk_free k2.box 4
       clear k2 hg9 hk9 HP
       go_wp2_with fail
       generalize World.setCell _ _ _ = w8 at *
       obtain ⟨G8, hj8, hg8, hk8⟩ := HPS.out
       have hFE := HE.out
       refine (RSave_any w8 G8 p q S [] n ⟨t, f, g + 1, l⟩ F hj8 (by show t ≤ _; omega) (by have := H2n.out; omega) (by simp)).mono ?_
       rintro e w9 ⟨rfl, hp9⟩
       have HP9 := hide (RjPost.of hg8 hk8 hp9)
       clear hj8 hg8 hk8 hp9 HPS e4 f4
       go_wp2
       go_ret2
       refine ⟨p, rfl, ?_⟩
       show RjPost w D p q (all S ([] ++ [((t + 1) % 2, hsec ⟨t + 1, f, g + 1, l⟩)])) [] n ⟨t + 1, f, g + 1, l⟩ _ _
       have hZE := HZE.out
       rw [show load S n g n f l = F by rw [hZE, hFE]]
       exact HP9.out
      ·have hgj : ¬ ((g : Int) < (xg : Int)) := by omega
       have HE := hide (show Z = (F ++ [⟨xg, xs, xk, xb, xd, xm⟩]) ++ load S n g r' (xs + 1) xg by rw [HZF.out, load_yes (e := ⟨xg, xs, xk, xb, xd, xm⟩) (by rw [HGD.out]; exact Hux.out) ⟨rfl, by show lt ≤ xg; omega, by show xg ≤ g; omega⟩, List.append_assoc]; rfl)
       clear hg1 hg2 HPL
       obtain ⟨bx, hbx⟩ : ∃ bx, bx = w3.heap.size := ⟨_, rfl⟩
       obtain ⟨w4, hw4⟩ : ∃ w4, w4 = w3.alloc (.cells #[.int .i64 (xs : Int), .int .i64 xk, .int .i64 xb, .string xd, .int .i64 xm] 100) := ⟨_, rfl⟩
       obtain ⟨G3, ⟨D3, J3, X3, Y3, h1, h2, h3, h4⟩, hg3, hk3⟩ := HP3.out
       have hbb := box_below w3 (xs : Int) xk xb xd xm
       have hNJ : ¬ J3 bx := fun hJ => by have := h2.lt bx hJ; omega
       have h1' := h1.below hbb
       have h2' := h2.below hbb
       have hk3' := hk3.trans hg3 (Kept.of_below (G := G3) hbb)
       rw [← hw4] at h1' h2' hk3' hbx0
       rw [← hbx] at hbx0
       have HX4 := hide hbx0
       have HNJ := hide hNJ
       have H1 := hide h1'
       have H3 := hide h3
       have H4 := hide h4
       have HG4 := hide hg3
       have HK4 := hide hk3'
       obtain ⟨A, c, B, d, rfl, rfl, c0, c1, c2, c3, c4, c5, c6, c7, fz⟩ := h2'.cells
       have H2 := hide h2'
       rw [hF.out] at c6 H2
       have hbW : Below w4.heap.size w4 (w4.drew.alloc (.cells #[.int .i64 (xs : Int), .int .i64 xk, .int .i64 xb, .string xd, .int .i64 xm] 100)) := (Below.refl w4.heap.size w4).drew.alloc (Nat.le_refl _) _
       have HBW := hide hbW
       have HO : Hid (ORow (w4.drew.alloc (.cells #[.int .i64 (xs : Int), .int .i64 xk, .int .i64 xb, .string xd, .int .i64 xm] 100)) 100 5 (.slice A k c) k (rcels F)) := by
        have := h2'.rows
        rw [hF.out] at this
        exact this.same fun i hi => hbW.block i (this.lt i hi)
       have HN : Hid (∀ j u, (rcel ⟨xg, xs, xk, xb, xd, xm⟩)[j]? = some u → (w4.drew.alloc (.cells #[.int .i64 (xs : Int), .int .i64 xk, .int .i64 xb, .string xd, .int .i64 xm] 100)).cell? ((⟨w4.heap.size, 0, none⟩ : Addr).add j) = some u) := fun j u hu => by
        rw [Addr.add_mid, Nat.zero_add]
        show (w4.drew.alloc _).cell? ⟨w4.drew.heap.size, j, none⟩ = _
        rw [cell_of_row _ _ j _ _ _ (heap_alloc_new w4.drew _)]
        exact List.getElem?_toArray.trans hu
       have Hm1 := hide (show k + 1 ≤ maxLen by have := Hn.out; have := Hlt.out; unfold maxLen; omega)
       have Hm2 := hide (show (k + 1) * 48 ≤ 140737488355328 by have := Hn.out; have := Hlt.out; omega)
       have c6' : (w4.alloc (.cells #[.int .i64 (xs : Int), .int .i64 xk, .int .i64 xb, .string xd, .int .i64 xm] 100)).cell? ⟨p, 6, none⟩ = some (.slice A k c) := ((Below.refl w4.heap.size w4).alloc (Nat.le_refl _) _).cell (p := ⟨p, 6, none⟩) (h2'.lt p h2'.mine) |>.trans c6
       have hSa : w4.drew.cell? ⟨bx, 0, none⟩ = some (.int .i64 (xs : Int)) ∧ w4.drew.cell? ⟨bx, 1, none⟩ = some (.int .i64 xk) ∧ w4.drew.cell? ⟨bx, 2, none⟩ = some (.int .i64 xb) ∧ w4.drew.cell? ⟨bx, 3, none⟩ = some (.string xd) ∧ w4.drew.cell? ⟨bx, 4, none⟩ = some (.int .i64 xm) := ⟨HX4.out.c0, HX4.out.c1, HX4.out.c2, HX4.out.c3, HX4.out.c4⟩
       have hxb := HX4.out.below hbW
       have hSb : (w4.drew.alloc (.cells #[.int .i64 (xs : Int), .int .i64 xk, .int .i64 xb, .string xd, .int .i64 xm] 100)).cell? ⟨bx, 0, none⟩ = some (.int .i64 (xs : Int)) ∧ (w4.drew.alloc (.cells #[.int .i64 (xs : Int), .int .i64 xk, .int .i64 xb, .string xd, .int .i64 xm] 100)).cell? ⟨bx, 1, none⟩ = some (.int .i64 xk) ∧ (w4.drew.alloc (.cells #[.int .i64 (xs : Int), .int .i64 xk, .int .i64 xb, .string xd, .int .i64 xm] 100)).cell? ⟨bx, 2, none⟩ = some (.int .i64 xb) ∧ (w4.drew.alloc (.cells #[.int .i64 (xs : Int), .int .i64 xk, .int .i64 xb, .string xd, .int .i64 xm] 100)).cell? ⟨bx, 3, none⟩ = some (.string xd) ∧ (w4.drew.alloc (.cells #[.int .i64 (xs : Int), .int .i64 xk, .int .i64 xb, .string xd, .int .i64 xm] 100)).cell? ⟨bx, 4, none⟩ = some (.int .i64 xm) := ⟨hxb.c0, hxb.c1, hxb.c2, hxb.c3, hxb.c4⟩
       have x0 : w4.cell? ⟨bx, 0, none⟩ = some (.int .i64 (xs : Int)) := HX4.out.c0
       have Hbx := hide hbx
       have Hw4 := hide hw4
       clear h1 h2 h3 h4 h1' h2' hk3 hk3' hg3 hbb hNJ hbx0 hbW c0 c1 c2 c3 c4 c5 c7 fz hxb HP3 HP4
       go_wp2_with fail
       rw [← hw4, ← hbx]
       clear hw4 hbx e4 x0
       refine wp_region_held (S := (fun W => W.cell? ⟨bx, 0, none⟩ = some (.int .i64 (xs : Int)) ∧ W.cell? ⟨bx, 1, none⟩ = some (.int .i64 xk) ∧ W.cell? ⟨bx, 2, none⟩ = some (.int .i64 xb) ∧ W.cell? ⟨bx, 3, none⟩ = some (.string xd) ∧ W.cell? ⟨bx, 4, none⟩ = some (.int .i64 xm))) (by kernel_rfl) ?_
       change wpAnyH _ _ _ _ _ _ _ _ (World.drew _)
       refine wpAnyH_take (i := 0) (oi := ⟨some 180, _, _, _, _, _⟩) (v := ?_) rfl (by kernel_rfl) (by kernel_rfl) (by kernel_rfl) (fun _ _ _ h => h) (Or.inl ⟨by rfl, ?_⟩) hSa ?_
       rotate_left 1
       ·(intro w hSw; obtain ⟨hSw1, hSw2, hSw3, hSw4, hSw5⟩ := hSw; go_simp; try with_reducible rfl)
       simp only [Act.put, Pk.sl]
       refine wpAnyH_take (i := 1) (oi := ⟨some 181, _, _, _, _, _⟩) (v := ?_) rfl (by kernel_rfl) (by kernel_rfl) (by kernel_rfl) (fun _ _ _ h => h) (Or.inl ⟨by rfl, ?_⟩) hSa ?_
       rotate_left 1
       ·(intro w hSw; obtain ⟨hSw1, hSw2, hSw3, hSw4, hSw5⟩ := hSw; go_simp; try with_reducible rfl)
       simp only [Act.put, Pk.sl]
       refine wpAnyH_take (i := 2) (oi := ⟨some 182, _, _, _, _, _⟩) (v := ?_) rfl (by kernel_rfl) (by kernel_rfl) (by kernel_rfl) (fun _ _ _ h => h) (Or.inl ⟨by rfl, ?_⟩) hSa ?_
       rotate_left 1
       ·(intro w hSw; obtain ⟨hSw1, hSw2, hSw3, hSw4, hSw5⟩ := hSw; go_simp; try with_reducible rfl)
       simp only [Act.put, Pk.sl]
       refine wpAnyH_take (i := 3) (oi := ⟨some 183, _, _, _, _, _⟩) (v := ?_) rfl (by kernel_rfl) (by kernel_rfl) (by kernel_rfl) (fun _ _ _ h => h) (Or.inl ⟨by rfl, ?_⟩) hSa ?_
       rotate_left 1
       ·(intro w hSw; obtain ⟨hSw1, hSw2, hSw3, hSw4, hSw5⟩ := hSw; go_simp; try with_reducible rfl)
       simp only [Act.put, Pk.sl]
       refine wpAnyH_take (i := 5) (oi := ⟨some 185, _, _, _, _, _⟩) (v := ?_) rfl (by kernel_rfl) (by kernel_rfl) (by kernel_rfl) (fun _ _ _ h => h) (Or.inl ⟨by rfl, ?_⟩) hSa ?_
       rotate_left 1
       ·(intro w hSw; obtain ⟨hSw1, hSw2, hSw3, hSw4, hSw5⟩ := hSw; go_simp; try with_reducible rfl)
       simp only [Act.put, Pk.sl]
       refine wpAnyH_ready (rs := [4, 6]) (by kernel_rfl) (by simp) ?_
       refine AllReadyH.cons (o := ⟨some 184, _, _, _, _, _⟩) rfl (fun K hK => ?_) (AllReadyH.cons (o := ⟨some 186, _, _, _, _, _⟩) rfl (fun K hK => ?_) AllReadyH.nil)
       ·go_simp
        refine hK.out _ _ (by first | exact hSa | exact hSb) (fun hHeld => ?_)
        clear hK K
        clear hHeld
        refine wpAnyH_ready (rs := [6]) (by kernel_rfl) (by simp) ?_
        refine AllReadyH.cons (o := ⟨some 186, _, _, _, _, _⟩) rfl (fun K hK => ?_) AllReadyH.nil
        go_simp
        refine hK.out _ _ hSb (fun hHeld => ?_)
        clear hK K
        clear hHeld
        refine wpAnyH_ready (rs := [7]) (by kernel_rfl) (by simp) ?_
        refine AllReadyH.cons (o := ⟨some 187, _, _, _, _, _⟩) rfl (fun K hK => ?_) AllReadyH.nil
        refine step_append_o _ rfl (.tmp 184) (.tmp 186) 55 rfl 100 i0 _ 5 48 Tryz.underlying55 hi0 hz0 Hz1.out Hz2.out rfl (.slice A k c) k (rcels F) rfl HO.out ⟨w4.heap.size, 0, none⟩ 1 1 (rcel ⟨xg, xs, xk, xb, xd, xm⟩) rfl rfl HN.out (rcel_one _) (by decide) Hm1.out Hm2.out _ rfl ?_
        intro g2 o2 cap w6 hown6 hgr6 hor6 hlt6
        have hP := H2.out.appendedL (y := ⟨xg, xs, xk, xb, xd, xm⟩) HBW.out hgr6 hown6 hor6 hF.out
        have HPA := hide hP.1
        have HPK := hide hP.2
        have hc6 : w6.cell? ⟨p, 6, none⟩ = some (.slice A k c) := by simp [World.cell?, H2.out.box6 HBW.out (Or.inl rfl) hgr6]
        have hf6 : w6.frozen? ⟨p, 6, none⟩ = false := by simp [World.frozen?, H2.out.box6 HBW.out (Or.inl rfl) hgr6]
        have hbx6 : Bx w6 bx (xs : Int) xk xb xd xm := (hgr6.block _ (Nat.lt_of_lt_of_le HX4.out.lt HBW.out.size) (fun e => HNJ.out ((H2.out.row _ e.symm).1))).trans ((HBW.out.block _ HX4.out.lt).trans HX4.out)
        have hbx7 : Bx (w6.setCell ⟨p, 6, none⟩ (.slice (some ⟨g2, o2, none⟩) (k + 1) cap)) bx (xs : Int) xk xb xd xm := (heap_setCell_other _ _ _ _ (fun e => HNJ.out (by have e2 : bx = p := e; rw [e2]; exact H2.out.mine))).trans hbx6
        have hSc : w6.cell? ⟨bx, 0, none⟩ = some (.int .i64 (xs : Int)) ∧ w6.cell? ⟨bx, 1, none⟩ = some (.int .i64 xk) ∧ w6.cell? ⟨bx, 2, none⟩ = some (.int .i64 xb) ∧ w6.cell? ⟨bx, 3, none⟩ = some (.string xd) ∧ w6.cell? ⟨bx, 4, none⟩ = some (.int .i64 xm) := ⟨hbx6.c0, hbx6.c1, hbx6.c2, hbx6.c3, hbx6.c4⟩
        have HX7 := hide hbx7
        clear hP hown6 hgr6 hor6 hlt6 hbx6 hbx7
        refine hK.out _ _ hSc (fun hHeld => ?_)
        clear hK K
        clear hHeld
        refine wpAnyH_take (i := 8) (oi := ⟨some 188, _, _, _, _, _⟩) (v := ?_) rfl (by kernel_rfl) (by kernel_rfl) (by kernel_rfl) (fun _ _ _ h => h) (Or.inl ⟨by rfl, ?_⟩) hSc ?_
        rotate_left 1
        ·(intro w hSw; obtain ⟨hSw1, hSw2, hSw3, hSw4, hSw5⟩ := hSw; go_simp; try with_reducible rfl)
        simp only [Act.put, Pk.sl]
        refine wpAnyH_take (i := 9) (oi := ⟨some 189, _, _, _, _, _⟩) (v := ?_) rfl (by kernel_rfl) (by kernel_rfl) (by kernel_rfl) (fun _ _ _ h => h) (Or.inl ⟨by rfl, ?_⟩) hSc ?_
        rotate_left 1
        ·(intro w hSw; obtain ⟨hSw1, hSw2, hSw3, hSw4, hSw5⟩ := hSw; go_simp; try with_reducible rfl)
        simp only [Act.put, Pk.sl]
        refine wpAnyH_ready (rs := [10]) (by kernel_rfl) (by simp) ?_
        refine AllReadyH.cons (o := ⟨none, _, _, _, _, _⟩) rfl (fun K hK => ?_) AllReadyH.nil
        go_simp
        generalize w6.setCell _ _ = w7 at *
        have hSd : w7.cell? ⟨bx, 0, none⟩ = some (.int .i64 (xs : Int)) ∧ w7.cell? ⟨bx, 1, none⟩ = some (.int .i64 xk) ∧ w7.cell? ⟨bx, 2, none⟩ = some (.int .i64 xb) ∧ w7.cell? ⟨bx, 3, none⟩ = some (.string xd) ∧ w7.cell? ⟨bx, 4, none⟩ = some (.int .i64 xm) := ⟨HX7.out.c0, HX7.out.c1, HX7.out.c2, HX7.out.c3, HX7.out.c4⟩
        refine hK.out _ _ hSd (fun hHeld => ?_)
        clear hK K
        clear hHeld
        refine wpAnyH_done (by kernel_rfl) ?_ _
        clear hSa hSb hSc hSd hc6 hf6 c6 c6'
        obtain ⟨A7, c7', B7, e8, e6, e7, k0, k1, k2, k3, k4, k5, k6, k7, fz⟩ := HPA.out.cells
        rw [hF.out] at k7 e7
        obtain ⟨rfl, rfl⟩ : B = B7 ∧ d = e8 := by simpa using e7
        clear e6 e7
        have hbV : Below w7.heap.size w7 (w7.alloc (.cells #[.int .i64 (xg : Int)] 3)) := (Below.refl w7.heap.size w7).alloc (Nat.le_refl _) _
        have HBV := hide hbV
        have HO9 : Hid (ORow (w7.alloc (.cells #[.int .i64 (xg : Int)] 3)) 3 1 (.slice B k d) k (gcels F)) := by
         have := HPA.out.gens
         rw [hF.out] at this
         exact this.same fun i hi => hbV.block i (this.lt i hi)
        have HN9 : Hid (∀ j u, ([.int .i64 (xg : Int)] : List Value)[j]? = some u → (w7.alloc (.cells #[.int .i64 (xg : Int)] 3)).cell? ((⟨w7.heap.size, 0, none⟩ : Addr).add j) = some u) := fun j u hu => by
         rw [Addr.add_mid, Nat.zero_add, cell_of_row _ _ j _ _ _ (heap_alloc_new w7 _)]
         exact List.getElem?_toArray.trans hu
        have Hm3 := hide (show (k + 1) * 8 ≤ 140737488355328 by have := Hn.out; have := Hlt.out; omega)
        have f7 := fz 7
        clear k0 k1 k2 k3 k4 k5 k6 fz hbV
        go_wp2_with (at_builtin; go_must (refine wpList_append_o _ rfl (.tmp 194) (.tmp 196) 57 rfl 3 j0 _ 1 8 Tryz.underlying57 hj0 hy0 Hy1.out Hy2.out rfl (.slice B k d) k (gcels F) rfl HO9.out ⟨w7.heap.size, 0, none⟩ 1 1 [.int .i64 (xg : Int)] rfl rfl HN9.out (fun u hu => by simp at hu; subst hu; rfl) (by decide) Hm1.out Hm3.out _ rfl ?_))
        intro g3 o3 cap3 w8 hown8 hgr8 hor8 hlt8
        have hP := HPA.out.appendedG (y := ⟨xg, xs, xk, xb, xd, xm⟩) HBV.out hgr8 hown8 (hor8.imp id (fun e => by rw [e]; simp)) hF.out
        have HQA := hide hP.1
        have HQK := hide hP.2
        have hc7 : w8.cell? ⟨p, 7, none⟩ = some (.slice B k d) := by simp [World.cell?, HPA.out.box6 HBV.out (Or.inr rfl) hgr8]
        have hf7 : w8.frozen? ⟨p, 7, none⟩ = false := by simp [World.frozen?, HPA.out.box6 HBV.out (Or.inr rfl) hgr8]
        clear hP hown8 hgr8 hor8 hlt8 k7 f7
        go_wp2_with fail
        generalize w8.setCell _ _ = w9 at *
        have HPZ := hide (RjPost.of HG4.out HK4.out (Rj.mine (w' := w9) H1.out H3.out H4.out (fun i hi => by
         rcases hi with hi | hi
         ·rcases hi with hi | hi
          ·exact Or.inl hi
          ·exact Or.inr hi.1
         ·exact Or.inr (Nat.le_trans HPK.out.size hi.1)) (HPK.out.trans (fun i hi => by
          rcases hi with hi | hi
          ·exact Or.inl hi
          ·exact Or.inr hi.1) HQK.out) HQA.out))
        clear hc7 hf7
        go_roundw
        case rel => exact ⟨k + 1, xg, F ++ [⟨xg, xs, xk, xb, xd, xm⟩], Hlt.out, rfl, hide (by rw [List.length_append, hF.out]; rfl), hide (by rw [HR'.out, show f + (k + 1) = xs + 1 by have := HSQ.out; omega]; exact HE.out), HPZ⟩
        case measure =>
         have e1 := HPZ.out.len
         have e2 := hlen.out
         have := Hlt.out
         rw [e1, e2, List.length_append, hF.out]
         show n - (k + 1) < n - k
         omega
       ·go_simp
        refine hK.out _ _ hSb (fun hHeld => ?_)
        clear hK K
        clear hHeld
        refine wpAnyH_ready (rs := [4]) (by kernel_rfl) (by simp) ?_
        refine AllReadyH.cons (o := ⟨some 184, _, _, _, _, _⟩) rfl (fun K hK => ?_) AllReadyH.nil
        go_simp
        refine hK.out _ _ (by first | exact hSa | exact hSb) (fun hHeld => ?_)
        clear hK K
        clear hHeld
        refine wpAnyH_ready (rs := [7]) (by kernel_rfl) (by simp) ?_
        refine AllReadyH.cons (o := ⟨some 187, _, _, _, _, _⟩) rfl (fun K hK => ?_) AllReadyH.nil
        refine step_append_o _ rfl (.tmp 184) (.tmp 186) 55 rfl 100 i0 _ 5 48 Tryz.underlying55 hi0 hz0 Hz1.out Hz2.out rfl (.slice A k c) k (rcels F) rfl HO.out ⟨w4.heap.size, 0, none⟩ 1 1 (rcel ⟨xg, xs, xk, xb, xd, xm⟩) rfl rfl HN.out (rcel_one _) (by decide) Hm1.out Hm2.out _ rfl ?_
        intro g2 o2 cap w6 hown6 hgr6 hor6 hlt6
        have hP := H2.out.appendedL (y := ⟨xg, xs, xk, xb, xd, xm⟩) HBW.out hgr6 hown6 hor6 hF.out
        have HPA := hide hP.1
        have HPK := hide hP.2
        have hc6 : w6.cell? ⟨p, 6, none⟩ = some (.slice A k c) := by simp [World.cell?, H2.out.box6 HBW.out (Or.inl rfl) hgr6]
        have hf6 : w6.frozen? ⟨p, 6, none⟩ = false := by simp [World.frozen?, H2.out.box6 HBW.out (Or.inl rfl) hgr6]
        have hbx6 : Bx w6 bx (xs : Int) xk xb xd xm := (hgr6.block _ (Nat.lt_of_lt_of_le HX4.out.lt HBW.out.size) (fun e => HNJ.out ((H2.out.row _ e.symm).1))).trans ((HBW.out.block _ HX4.out.lt).trans HX4.out)
        have hbx7 : Bx (w6.setCell ⟨p, 6, none⟩ (.slice (some ⟨g2, o2, none⟩) (k + 1) cap)) bx (xs : Int) xk xb xd xm := (heap_setCell_other _ _ _ _ (fun e => HNJ.out (by have e2 : bx = p := e; rw [e2]; exact H2.out.mine))).trans hbx6
        have hSc : w6.cell? ⟨bx, 0, none⟩ = some (.int .i64 (xs : Int)) ∧ w6.cell? ⟨bx, 1, none⟩ = some (.int .i64 xk) ∧ w6.cell? ⟨bx, 2, none⟩ = some (.int .i64 xb) ∧ w6.cell? ⟨bx, 3, none⟩ = some (.string xd) ∧ w6.cell? ⟨bx, 4, none⟩ = some (.int .i64 xm) := ⟨hbx6.c0, hbx6.c1, hbx6.c2, hbx6.c3, hbx6.c4⟩
        have HX7 := hide hbx7
        clear hP hown6 hgr6 hor6 hlt6 hbx6 hbx7
        refine hK.out _ _ hSc (fun hHeld => ?_)
        clear hK K
        clear hHeld
        refine wpAnyH_take (i := 8) (oi := ⟨some 188, _, _, _, _, _⟩) (v := ?_) rfl (by kernel_rfl) (by kernel_rfl) (by kernel_rfl) (fun _ _ _ h => h) (Or.inl ⟨by rfl, ?_⟩) hSc ?_
        rotate_left 1
        ·(intro w hSw; obtain ⟨hSw1, hSw2, hSw3, hSw4, hSw5⟩ := hSw; go_simp; try with_reducible rfl)
        simp only [Act.put, Pk.sl]
        refine wpAnyH_take (i := 9) (oi := ⟨some 189, _, _, _, _, _⟩) (v := ?_) rfl (by kernel_rfl) (by kernel_rfl) (by kernel_rfl) (fun _ _ _ h => h) (Or.inl ⟨by rfl, ?_⟩) hSc ?_
        rotate_left 1
        ·(intro w hSw; obtain ⟨hSw1, hSw2, hSw3, hSw4, hSw5⟩ := hSw; go_simp; try with_reducible rfl)
        simp only [Act.put, Pk.sl]
        refine wpAnyH_ready (rs := [10]) (by kernel_rfl) (by simp) ?_
        refine AllReadyH.cons (o := ⟨none, _, _, _, _, _⟩) rfl (fun K hK => ?_) AllReadyH.nil
        go_simp
        generalize w6.setCell _ _ = w7 at *
        have hSd : w7.cell? ⟨bx, 0, none⟩ = some (.int .i64 (xs : Int)) ∧ w7.cell? ⟨bx, 1, none⟩ = some (.int .i64 xk) ∧ w7.cell? ⟨bx, 2, none⟩ = some (.int .i64 xb) ∧ w7.cell? ⟨bx, 3, none⟩ = some (.string xd) ∧ w7.cell? ⟨bx, 4, none⟩ = some (.int .i64 xm) := ⟨HX7.out.c0, HX7.out.c1, HX7.out.c2, HX7.out.c3, HX7.out.c4⟩
        refine hK.out _ _ hSd (fun hHeld => ?_)
        clear hK K
        clear hHeld
        refine wpAnyH_done (by kernel_rfl) ?_ _
        clear hSa hSb hSc hSd hc6 hf6 c6 c6'
        obtain ⟨A7, c7', B7, e8, e6, e7, k0, k1, k2, k3, k4, k5, k6, k7, fz⟩ := HPA.out.cells
        rw [hF.out] at k7 e7
        obtain ⟨rfl, rfl⟩ : B = B7 ∧ d = e8 := by simpa using e7
        clear e6 e7
        have hbV : Below w7.heap.size w7 (w7.alloc (.cells #[.int .i64 (xg : Int)] 3)) := (Below.refl w7.heap.size w7).alloc (Nat.le_refl _) _
        have HBV := hide hbV
        have HO9 : Hid (ORow (w7.alloc (.cells #[.int .i64 (xg : Int)] 3)) 3 1 (.slice B k d) k (gcels F)) := by
         have := HPA.out.gens
         rw [hF.out] at this
         exact this.same fun i hi => hbV.block i (this.lt i hi)
        have HN9 : Hid (∀ j u, ([.int .i64 (xg : Int)] : List Value)[j]? = some u → (w7.alloc (.cells #[.int .i64 (xg : Int)] 3)).cell? ((⟨w7.heap.size, 0, none⟩ : Addr).add j) = some u) := fun j u hu => by
         rw [Addr.add_mid, Nat.zero_add, cell_of_row _ _ j _ _ _ (heap_alloc_new w7 _)]
         exact List.getElem?_toArray.trans hu
        have Hm3 := hide (show (k + 1) * 8 ≤ 140737488355328 by have := Hn.out; have := Hlt.out; omega)
        have f7 := fz 7
        clear k0 k1 k2 k3 k4 k5 k6 fz hbV
        go_wp2_with (at_builtin; go_must (refine wpList_append_o _ rfl (.tmp 194) (.tmp 196) 57 rfl 3 j0 _ 1 8 Tryz.underlying57 hj0 hy0 Hy1.out Hy2.out rfl (.slice B k d) k (gcels F) rfl HO9.out ⟨w7.heap.size, 0, none⟩ 1 1 [.int .i64 (xg : Int)] rfl rfl HN9.out (fun u hu => by simp at hu; subst hu; rfl) (by decide) Hm1.out Hm3.out _ rfl ?_))
        intro g3 o3 cap3 w8 hown8 hgr8 hor8 hlt8
        have hP := HPA.out.appendedG (y := ⟨xg, xs, xk, xb, xd, xm⟩) HBV.out hgr8 hown8 (hor8.imp id (fun e => by rw [e]; simp)) hF.out
        have HQA := hide hP.1
        have HQK := hide hP.2
        have hc7 : w8.cell? ⟨p, 7, none⟩ = some (.slice B k d) := by simp [World.cell?, HPA.out.box6 HBV.out (Or.inr rfl) hgr8]
        have hf7 : w8.frozen? ⟨p, 7, none⟩ = false := by simp [World.frozen?, HPA.out.box6 HBV.out (Or.inr rfl) hgr8]
        clear hP hown8 hgr8 hor8 hlt8 k7 f7
        go_wp2_with fail
        generalize w8.setCell _ _ = w9 at *
        have HPZ := hide (RjPost.of HG4.out HK4.out (Rj.mine (w' := w9) H1.out H3.out H4.out (fun i hi => by
         rcases hi with hi | hi
         ·rcases hi with hi | hi
          ·exact Or.inl hi
          ·exact Or.inr hi.1
         ·exact Or.inr (Nat.le_trans HPK.out.size hi.1)) (HPK.out.trans (fun i hi => by
          rcases hi with hi | hi
          ·exact Or.inl hi
          ·exact Or.inr hi.1) HQK.out) HQA.out))
        clear hc7 hf7
        go_roundw
        case rel => exact ⟨k + 1, xg, F ++ [⟨xg, xs, xk, xb, xd, xm⟩], Hlt.out, rfl, hide (by rw [List.length_append, hF.out]; rfl), hide (by rw [HR'.out, show f + (k + 1) = xs + 1 by have := HSQ.out; omega]; exact HE.out), HPZ⟩
        case measure =>
         have e1 := HPZ.out.len
         have e2 := hlen.out
         have := Hlt.out
         rw [e1, e2, List.length_append, hF.out]
         show n - (k + 1) < n - k
         omega
    ·have hq2 : ((xs : Int) != (sq : Int)) = true := by simp; omega
     have hq3 : ((xs : Int) == (sq : Int)) = false := by simp; omega
     have HE := hide (show Z = F by rw [HZF.out, load_no (by rw [HGD.out]; exact Hux.out) (by intro h; exact hq h.1), List.append_nil])
     have HP := HP4
     clear hq HP3 HP4 HPL
     obtain ⟨G9, hj9, hg9, hk9⟩ := HP.out
     have HPS := hide (RjPost.of hg9 hk9 (Rj.set (i := 4) (v := .int .i64 ((g : Int) + 1)) (h' := ⟨t, f, g + 1, l⟩) hj9 (fun X Y => rfl)))
     obtain ⟨D9, J9, X9, Y9, _, k2, _, _⟩ := hj9
     have e4 : (w3.alloc (.cells #[.int .i64 (xs : Int), .int .i64 xk, .int .i64 xb, .string xd, .int .i64 xm] 100)).cell? ⟨p, 4, none⟩ = some (.int .i64 (g : Int)) := k2.heads.2.2.2.1
     have f4 : (w3.alloc (.cells #[.int .i64 (xs : Int), .int .i64 xk, .int .i64 xb, .string xd, .int .i64 xm] 100)).frozen? ⟨p, 4, none⟩ = false := blk_free k2.box 4
     clear k2 hg9 hk9 HP
     go_wp2_with fail
     generalize World.setCell _ _ _ = w8 at *
     obtain ⟨G8, hj8, hg8, hk8⟩ := HPS.out
     have hFE := HE.out
     refine (RSave_any w8 G8 p q S [] n ⟨t, f, g + 1, l⟩ F hj8 (by show t ≤ _; omega) (by have := H2n.out; omega) (by simp)).mono ?_
     rintro e w9 ⟨rfl, hp9⟩
     have HP9 := hide (RjPost.of hg8 hk8 hp9)
     clear hj8 hg8 hk8 hp9 HPS e4 f4
     go_wp2
     go_ret2
     refine ⟨p, rfl, ?_⟩
     show RjPost w D p q (all S ([] ++ [((t + 1) % 2, hsec ⟨t + 1, f, g + 1, l⟩)])) [] n ⟨t + 1, f, g + 1, l⟩ _ _
     have hZE := HZE.out
     rw [show load S n g n f l = F by rw [hZE, hFE]]
     exact HP9.out
   ·have HE := hide (show Z = F by rw [HZF.out, load_nil (by rw [HGD.out]; exact hux), List.append_nil])
    have HP := hide (HP3.out.below (box_below w3 0 0 0 ⟨#[]⟩ 0))
    clear hux HP3
    obtain ⟨G9, hj9, hg9, hk9⟩ := HP.out
    have HPS := hide (RjPost.of hg9 hk9 (Rj.set (i := 4) (v := .int .i64 ((g : Int) + 1)) (h' := ⟨t, f, g + 1, l⟩) hj9 (fun X Y => rfl)))
    obtain ⟨D9, J9, X9, Y9, _, k2, _, _⟩ := hj9
    have e4 : (w3.alloc (.cells #[.int .i64 0, .int .i64 0, .int .i64 0, .string ⟨#[]⟩, .int .i64 0] 100)).cell? ⟨p, 4, none⟩ = some (.int .i64 (g : Int)) := k2.heads.2.2.2.1
    have f4 : (w3.alloc (.cells #[.int .i64 0, .int .i64 0, .int .i64 0, .string ⟨#[]⟩, .int .i64 0] 100)).frozen? ⟨p, 4, none⟩ = false := blk_free k2.box 4
    clear k2 hg9 hk9 HP
    go_wp2_with fail
    generalize World.setCell _ _ _ = w8 at *
    obtain ⟨G8, hj8, hg8, hk8⟩ := HPS.out
    have hFE := HE.out
    refine (RSave_any w8 G8 p q S [] n ⟨t, f, g + 1, l⟩ F hj8 (by show t ≤ _; omega) (by have := H2n.out; omega) (by simp)).mono ?_
    rintro e w9 ⟨rfl, hp9⟩
    have HP9 := hide (RjPost.of hg8 hk8 hp9)
    clear hj8 hg8 hk8 hp9 HPS e4 f4
    go_wp2
    go_ret2
    refine ⟨p, rfl, ?_⟩
    show RjPost w D p q (all S ([] ++ [((t + 1) % 2, hsec ⟨t + 1, f, g + 1, l⟩)])) [] n ⟨t + 1, f, g + 1, l⟩ _ _
    have hZE := HZE.out
    rw [show load S n g n f l = F by rw [hZE, hFE]]
    exact HP9.out
  ·have hkn : ¬ ((k : Int) < (n : Int)) := by omega
   obtain ⟨A0, cc0, c6⟩ : ∃ A c, wr.cell? ⟨p, 6, none⟩ = some (.slice A k c) := by
    obtain ⟨G1, ⟨D1, J1, X1, Y1, h1, h2, h3, h4⟩, _, _⟩ := hp.out
    obtain ⟨A, c, B, d, rfl, rfl, c0, c1, c2, c3, c4, c5, c6, c7, fz⟩ := h2.cells
    rw [hF.out] at c6
    exact ⟨A, c, c6⟩
   have HE := hide (show Z = F by rw [hZF.out, show n - k = 0 by omega]; exact List.append_nil _)
   have HP := hp
   clear hge hk hZF hp
   obtain ⟨G9, hj9, hg9, hk9⟩ := HP.out
   have HPS := hide (RjPost.of hg9 hk9 (Rj.set (i := 4) (v := .int .i64 ((g : Int) + 1)) (h' := ⟨t, f, g + 1, l⟩) hj9 (fun X Y => rfl)))
   obtain ⟨D9, J9, X9, Y9, _, k2, _, _⟩ := hj9
   have e4 : wr.cell? ⟨p, 4, none⟩ = some (.int .i64 (g : Int)) := k2.heads.2.2.2.1
   have f4 : wr.frozen? ⟨p, 4, none⟩ = false := blk_free k2.box 4
   clear k2 hg9 hk9 HP
   go_wp2_with fail
   generalize World.setCell _ _ _ = w8 at *
   obtain ⟨G8, hj8, hg8, hk8⟩ := HPS.out
   have hFE := HE.out
   refine (RSave_any w8 G8 p q S [] n ⟨t, f, g + 1, l⟩ F hj8 (by show t ≤ _; omega) (by have := H2n.out; omega) (by simp)).mono ?_
   rintro e w9 ⟨rfl, hp9⟩
   have HP9 := hide (RjPost.of hg8 hk8 hp9)
   clear hj8 hg8 hk8 hp9 HPS e4 f4
   go_wp2
   go_ret2
   refine ⟨p, rfl, ?_⟩
   show RjPost w D p q (all S ([] ++ [((t + 1) % 2, hsec ⟨t + 1, f, g + 1, l⟩)])) [] n ⟨t + 1, f, g + 1, l⟩ _ _
   have hZE := HZE.out
   rw [show load S n g n f l = F by rw [hZE, hFE]]
   exact HP9.out
end Go.Proofs.YtapiogcoipeinaaGreatDoor.Jn
namespace Go.Proofs.YtapiogcoipeinaaGreatDoor.Jn
open Go.RowKit
open Pk hiding str str_data str_size str_of run_str head_str str_append
open Sm hiding run_str
open Fa Rc Dk
set_option maxRecDepth 100000 in
set_option maxHeartbeats 8000000 in
theorem ROpen_C (w : World) (D : Nat → Prop) (q : Nat) (S : List Sec) (n : Nat) (hd : RDsk w D q S []) (h1n : 1 ≤ n) (h512 : n ≤ 512) (h2n : 2 + n ≤ S.length) (hS : S.length ≤ 1000) (hFull : Full S) (s0 s1 : Sec) (hs0 : S[0]? = some s0) (hs1 : S[1]? = some s1) (t f g l : Nat) (ht : t ≤ 1152921504606846975) (hf : f ≤ 1152921504606846975) (hgn : g ≤ 1152921504606846975) (ha : unh 1 s1 = some ⟨t, f, g, l⟩) (T0 F0 G0 L0 : Int) (hb : HdTup (unh 0 s0) = .tuple #[.int .i64 T0, .int .i64 F0, .int .i64 G0, .int .i64 L0]) (hlt1 : T0 < (t : Int)) (hneg : ¬ T0 < 0) :
 Calls Tryz.prog 40 #[.pointer (some ⟨q, 0, none⟩), .int .i64 (n : Int)] w (ROpened w D q n S ⟨t + 1, f, g + 1, l⟩ (load S n g n f l)) := by
 obtain ⟨i0, hi0, hz0, hz1, hz2⟩ := info_parts rec_info
 have Hz1 := hide hz1
 have Hz2 := hide hz2
 obtain ⟨j0, hj0, hy0, hy1, hy2⟩ := info_parts int_info
 have Hy1 := hide hy1
 have Hy2 := hide hy2
 clear hz1 hz2 hy1 hy2
 obtain ⟨sl, hsl⟩ : ∃ sl, S.length = sl := ⟨_, rfl⟩
 have hsi : (sl : Int) ≤ 1000 := by omega
 obtain ⟨A, c, hp0⟩ : ∃ A c, w.cell? ⟨q, 0, none⟩ = some (.slice A sl c) := by
  obtain ⟨F, X, hp, h2, _⟩ := hd
  obtain ⟨A, c, rfl, _⟩ := row_form h2
  exact ⟨A, c, by rw [← hsl]; simp [World.cell?, hp]⟩
 have H1n := hide h1n
 have Hn := hide h512
 have H2n := hide h2n
 have hn1 : ¬ ((n : Int) < 1) := by omega
 have hn5 : ¬ ((512 : Int) < (n : Int)) := by omega
 have hn5' : (n : Int) ≤ 512 := by omega
 obtain ⟨n2, hn2⟩ : ∃ n2, 2 + n = n2 := ⟨_, rfl⟩
 have hn2i : (2 : Int) + (n : Int) = (n2 : Int) := by omega
 have hn2w : IntKind.i64.wrap (n2 : Int) = (n2 : Int) := by rw [IntKind.wrap_i64]; omega
 have hn2l : ¬ ((sl : Int) < (n2 : Int)) := by omega
 have HFull := hide hFull
 have L0 : s0.length = 64 := HFull.out s0 (List.mem_of_getElem? hs0)
 have L1 : s1.length = 64 := HFull.out s1 (List.mem_of_getElem? hs1)
 obtain ⟨Z, hZ⟩ : ∃ Z, load S n g n f l = Z := ⟨_, rfl⟩
 have HZE := hide hZ
 have HZ0 := hide (show Z = [] ++ load S n g (n - 0) (f + 0) l by rw [List.nil_append, Nat.sub_zero, Nat.add_zero]; exact hZ.symm)
 have HR0 := hide (RRead_any w D q 0 S [] s0 hd hs0 (by omega) (by simp))
 have HR1 := hide (RRead_any w D q 1 S [] s1 hd hs1 (by omega) (by simp))
 have HPF := hide (Rj.fresh (n := n) hd)
 obtain ⟨p, hpw⟩ : ∃ p, p = w.heap.size := ⟨_, rfl⟩
 rw [← hpw] at HPF
 have HH0 := hide (fun W => rHead_any (str s0) 0 W (by rw [str_size]; exact L0))
 have HH1 := hide (fun W => rHead_any (str s1) 1 W (by rw [str_size]; exact L1))
 simp only [str_data] at HH0 HH1
 rw [ha] at HH1
 simp only [HdTup] at HH1
 rw [hb] at HH0
 have hT0 : ¬ ((t : Int) < 0) := by omega
 have hT1 : ¬ ((t : Int) < T0) := by omega
 clear hd h1n h512 h2n hS hFull hsl hn2 hs0 hs1 L0 L1 hZ
 go_enter Tryz.func40, Tryz.ntmps40
 go_wp2_with fail
 refine HR0.out.mono ?_
 rintro e w' ⟨rfl, rfl⟩
 go_wp2_with fail
 refine HR1.out.mono ?_
 rintro e w' ⟨rfl, rfl⟩
 clear hp0 HR0 HR1
 go_wp2_with fail
 rw [← hpw]
 clear hpw
 generalize w.alloc _ = w1 at *
 refine (HH0.out w1).mono ?_
 rintro e w2 ⟨rfl, hb2⟩
 have HP2 := hide (HPF.out.below hb2)
 clear hb2 HPF HH0
 go_wp2_with fail
 refine (HH1.out w2).mono ?_
 rintro e w3 ⟨rfl, hb3⟩
 have HP3 := hide (HP2.out.below hb3)
 clear hb3 HP2 HH1
 obtain ⟨G3, hj3, hg3, hk3⟩ := HP3.out
 have HPS := hide (RjPost.of hg3 hk3 (RjPost.then (Rj.set (i := 2) (v := .int .i64 (t : Int)) (h' := ⟨t, 1, 0, 0⟩) hj3 (fun X Y => rfl)) fun _ j => RjPost.then (Rj.set (i := 3) (v := .int .i64 (f : Int)) (h' := ⟨t, f, 0, 0⟩) j (fun X Y => rfl)) fun _ j => RjPost.then (Rj.set (i := 4) (v := .int .i64 (g : Int)) (h' := ⟨t, f, g, 0⟩) j (fun X Y => rfl)) fun _ j => Rj.set (i := 5) (v := .int .i64 (l : Int)) (h' := ⟨t, f, g, l⟩) j (fun X Y => rfl)))
 obtain ⟨D3, J3, X3, Y3, _, k2, _, _⟩ := hj3
 have c2 : w3.cell? ⟨p, 2, none⟩ = some (.int .i64 ((0 : Nat) : Int)) := k2.heads.2.1
 have c3 : w3.cell? ⟨p, 3, none⟩ = some (.int .i64 ((1 : Nat) : Int)) := k2.heads.2.2.1
 have c4 : w3.cell? ⟨p, 4, none⟩ = some (.int .i64 ((0 : Nat) : Int)) := k2.heads.2.2.2.1
 have c5 : w3.cell? ⟨p, 5, none⟩ = some (.int .i64 ((0 : Nat) : Int)) := k2.heads.2.2.2.2
 have f2 : w3.frozen? ⟨p, 2, none⟩ = false := blk_free k2.box 2
 have f3 : w3.frozen? ⟨p, 3, none⟩ = false := blk_free k2.box 3
 have f4 : w3.frozen? ⟨p, 4, none⟩ = false := blk_free k2.box 4
 have f5 : w3.frozen? ⟨p, 5, none⟩ = false := blk_free k2.box 5
 clear k2 hg3 hk3 HP3
 go_wp2_with fail
 generalize (((w3.setCell _ _).setCell _ _).setCell _ _).setCell _ _ = w4 at *
 have HP0 := HPS
 clear HPS c2 c3 c4 c5 f2 f3 f4 f5
 go_loopw [19] (fun lo wr => ∃ (k lt : Nat) (F : List Ent), k ≤ n ∧ lo = .int .i64 (lt : Int) ∧ Hid (F.length = k) ∧ Hid (Z = F ++ load S n g (n - k) (f + k) lt) ∧ Hid (RjPost w D p q S [] n ⟨t, f, g, l⟩ F wr)) (fun _ wr => n - lenAt wr p)
 case atStart => exact ⟨0, l, [], Nat.zero_le _, rfl, rfl, HZ0.out, HP0.out⟩
 case round =>
  clear HP0
  obtain ⟨k, lt, F, hk, rfl, hF, hZF, hp⟩ := hrel
  have hlen := hide (show lenAt wr p = k by rw [hp.out.len, hF.out])
  rcases Nat.lt_or_ge k n with hlt | hge
  ·have Hlt := hide hlt
   have hki : (k : Int) < (n : Int) := by omega
   obtain ⟨sq, hsq⟩ : ∃ sq, f + k = sq := ⟨_, rfl⟩
   have hsq' : (f : Int) + (k : Int) = (sq : Int) := by omega
   have hsb : (sq : Int) ≤ 3000000000000000000 := by have := Hn.out; omega
   have hrmn := remN sq n
   obtain ⟨rr, hrr⟩ : ∃ rr, sq % n = rr := ⟨_, rfl⟩
   have hrlt : rr < n := by rw [← hrr]; exact Nat.mod_lt sq (by omega)
   have hn512 : n ≤ 512 := Hn.out
   have hz : ¬ ((n : Int) = 0) := by omega
   have hz2 : ((n : Int) == 0) = false := by simp; omega
   have hz3 : ¬ (n = 0) := by omega
   rw [hrr] at hrmn
   obtain ⟨cc, hcc⟩ : ∃ cc, 2 + rr = cc := ⟨_, rfl⟩
   have hcci : (2 : Int) + (rr : Int) = (cc : Int) := by omega
   have hwc : IntKind.i64.wrap (cc : Int) = (cc : Int) := by rw [IntKind.wrap_i64]; omega
   have hcl : cc < S.length := by have := H2n.out; omega
   obtain ⟨s, hs⟩ : ∃ s, S[cc]? = some s := ⟨_, List.getElem?_eq_getElem hcl⟩
   have HGD := hide (show S.getD (2 + sq % n) [] = s by rw [hrr, hcc]; exact getD_of hs)
   have Hls := hide (show s.length = 64 from HFull.out s (List.mem_of_getElem? hs))
   have Hs := hide hs
   have Hcl := hide hcl
   obtain ⟨r', hr'⟩ : ∃ r', n - k = r' + 1 := ⟨n - k - 1, by omega⟩
   have hZF' := hZF.out
   rw [hr', hsq] at hZF'
   have HZF := hide hZF'
   have HR' := hide (show n - (k + 1) = r' by omega)
   have HSQ := hide hsq
   obtain ⟨c3, c6, c1⟩ : wr.cell? ⟨p, 3, none⟩ = some (.int .i64 (f : Int)) ∧ (∃ A c, wr.cell? ⟨p, 6, none⟩ = some (.slice A k c)) ∧ True := by
    obtain ⟨G1, ⟨D1, J1, X1, Y1, h1, h2, h3, h4⟩, _, _⟩ := hp.out
    obtain ⟨A, c, B, d, rfl, rfl, c0, c1, c2, c3, c4, c5, c6, c7, fz⟩ := h2.cells
    rw [hF.out] at c6
    exact ⟨c3, ⟨A, c, c6⟩, trivial⟩
   obtain ⟨A0, cc0, c6⟩ := c6
   clear hs hcl hcc hlt hr' hsq hrr hZF hZF' hk c1
   go_wp2_with fail
   go_quiet (fail)
   clear c3 c6
   have hbq : Below wr.heap.size wr (wr.drewN nq) := ⟨rfl, rfl, rfl, Nat.le_refl _, fun _ _ => rfl⟩
   have HP1 := hide (hp.out.below hbq)
   clear hbq hp
   have hlen' := hlen
   generalize wr.drewN nq = w1 at *
   obtain ⟨G1, ⟨D1, J1, X1, Y1, h1, h2, h3, h4⟩, hg1, hk1⟩ := HP1.out
   have HRD := hide (RRead_any w1 D1 q cc S [] s h1 Hs.out Hcl.out (by simp))
   clear h1 h2 h3 h4 hg1 hk1
   go_wp2_with fail
   refine HRD.out.mono ?_
   rintro e w' ⟨rfl, rfl⟩
   clear hrmn hcci hwc hz hz2 hz3 HRD
   go_wp2_with fail
   refine (rDecode_une s w1 Hls.out).mono ?_
   rintro e w3 ⟨hres, hb3⟩
   have HP3 := hide (HP1.out.below hb3)
   clear hb3 HP1
   rcases hres with ⟨x, hux, rfl⟩ | ⟨hux, er, her, rfl⟩
   ·have Hux := hide hux
    obtain ⟨xg, xs, xk, xb, xd, xm⟩ := x
    have hbx0 := Bx.new w3 (xs : Int) xk xb xd xm
    have HP4 := hide (HP3.out.below (box_below w3 (xs : Int) xk xb xd xm))
    have e4 : (w3.alloc (.cells #[.int .i64 (xs : Int), .int .i64 xk, .int .i64 xb, .string xd, .int .i64 xm] 100)).cell? ⟨p, 4, none⟩ = some (.int .i64 (g : Int)) := by obtain ⟨G, ⟨D, J, X, Y, h1, h2, h3, h4⟩, _, _⟩ := HP4.out; exact h2.heads.2.2.2.1
    have HPL : Hid (∀ i, (∃ G J X Y D, RDsk w3 D q S [] ∧ RjAt w3 J p q n ⟨t, f, g, l⟩ F F X Y ∧ G = J ∧ J i) → i < w3.heap.size) := fun i hi => by
     obtain ⟨G, J, X, Y, D, _, h2, _, hJ⟩ := hi
     exact h2.lt i hJ
    clear hux
    by_cases hq : xs = sq
    ·subst hq
     by_cases hg1 : xg < lt
     ·have hgi : (xg : Int) < (lt : Int) := by omega
      have HE := hide (show Z = F by rw [HZF.out, load_no (by rw [HGD.out]; exact Hux.out) (by intro h; have := h.2.1; have e : (⟨xg, xs, xk, xb, xd, xm⟩ : Ent).g = xg := rfl; omega), List.append_nil])
      have HP := HP4
      clear hg1 HP3 HP4 HPL
      obtain ⟨G9, hj9, hg9, hk9⟩ := HP.out
      have HPS := hide (RjPost.of hg9 hk9 (Rj.set (i := 4) (v := .int .i64 ((g : Int) + 1)) (h' := ⟨t, f, g + 1, l⟩) hj9 (fun X Y => rfl)))
      obtain ⟨D9, J9, X9, Y9, _, k2, _, _⟩ := hj9
      have e4 : (w3.alloc (.cells #[.int .i64 (xs : Int), .int .i64 xk, .int .i64 xb, .string xd, .int .i64 xm] 100)).cell? ⟨p, 4, none⟩ = some (.int .i64 (g : Int)) := k2.heads.2.2.2.1
      have f4 : (w3.alloc (.cells #[.int .i64 (xs : Int), .int .i64 xk, .int .i64 xb, .string xd, .int .i64 xm] 100)).frozen? ⟨p, 4, none⟩ = false := blk_free k2.box 4
      clear k2 hg9 hk9 HP
      go_wp2_with fail
      generalize World.setCell _ _ _ = w8 at *
      obtain ⟨G8, hj8, hg8, hk8⟩ := HPS.out
      have hFE := HE.out
      refine (RSave_any w8 G8 p q S [] n ⟨t, f, g + 1, l⟩ F hj8 (by show t ≤ _; omega) (by have := H2n.out; omega) (by simp)).mono ?_
      rintro e w9 ⟨rfl, hp9⟩
      have HP9 := hide (RjPost.of hg8 hk8 hp9)
      clear hj8 hg8 hk8 hp9 HPS e4 f4
      go_wp2
      go_ret2
      refine ⟨p, rfl, ?_⟩
      show RjPost w D p q (all S ([] ++ [((t + 1) % 2, hsec ⟨t + 1, f, g + 1, l⟩)])) [] n ⟨t + 1, f, g + 1, l⟩ _ _
      have hZE := HZE.out
      rw [show load S n g n f l = F by rw [hZE, hFE]]
      exact HP9.out
     ·have hgi : ¬ ((xg : Int) < (lt : Int)) := by omega
      by_cases hg2 : g < xg
      ·have hgj : (g : Int) < (xg : Int) := by omega
       have HE := hide (show Z = F by rw [HZF.out, load_no (by rw [HGD.out]; exact Hux.out) (by intro h; have := h.2.2; have e : (⟨xg, xs, xk, xb, xd, xm⟩ : Ent).g = xg := rfl; omega), List.append_nil])
       have HP := HP4
       clear hg1 hg2 HP3 HP4 HPL
       obtain ⟨G9, hj9, hg9, hk9⟩ := HP.out
       have HPS := hide (RjPost.of hg9 hk9 (Rj.set (i := 4) (v := .int .i64 ((g : Int) + 1)) (h' := ⟨t, f, g + 1, l⟩) hj9 (fun X Y => rfl)))
       obtain ⟨D9, J9, X9, Y9, _, k2, _, _⟩ := hj9
       have e4 : (w3.alloc (.cells #[.int .i64 (xs : Int), .int .i64 xk, .int .i64 xb, .string xd, .int .i64 xm] 100)).cell? ⟨p, 4, none⟩ = some (.int .i64 (g : Int)) := k2.heads.2.2.2.1
       have f4 : (w3.alloc (.cells #[.int .i64 (xs : Int), .int .i64 xk, .int .i64 xb, .string xd, .int .i64 xm] 100)).frozen? ⟨p, 4, none⟩ = false := blk_free k2.box 4
       clear k2 hg9 hk9 HP
       go_wp2_with fail
       generalize World.setCell _ _ _ = w8 at *
       obtain ⟨G8, hj8, hg8, hk8⟩ := HPS.out
       have hFE := HE.out
       refine (RSave_any w8 G8 p q S [] n ⟨t, f, g + 1, l⟩ F hj8 (by show t ≤ _; omega) (by have := H2n.out; omega) (by simp)).mono ?_
       rintro e w9 ⟨rfl, hp9⟩
       have HP9 := hide (RjPost.of hg8 hk8 hp9)
       clear hj8 hg8 hk8 hp9 HPS e4 f4
       go_wp2
       go_ret2
       refine ⟨p, rfl, ?_⟩
       show RjPost w D p q (all S ([] ++ [((t + 1) % 2, hsec ⟨t + 1, f, g + 1, l⟩)])) [] n ⟨t + 1, f, g + 1, l⟩ _ _
       have hZE := HZE.out
       rw [show load S n g n f l = F by rw [hZE, hFE]]
       exact HP9.out
      ·have hgj : ¬ ((g : Int) < (xg : Int)) := by omega
       have HE := hide (show Z = (F ++ [⟨xg, xs, xk, xb, xd, xm⟩]) ++ load S n g r' (xs + 1) xg by rw [HZF.out, load_yes (e := ⟨xg, xs, xk, xb, xd, xm⟩) (by rw [HGD.out]; exact Hux.out) ⟨rfl, by show lt ≤ xg; omega, by show xg ≤ g; omega⟩, List.append_assoc]; rfl)
       clear hg1 hg2 HPL
       obtain ⟨bx, hbx⟩ : ∃ bx, bx = w3.heap.size := ⟨_, rfl⟩
       obtain ⟨w4, hw4⟩ : ∃ w4, w4 = w3.alloc (.cells #[.int .i64 (xs : Int), .int .i64 xk, .int .i64 xb, .string xd, .int .i64 xm] 100) := ⟨_, rfl⟩
       obtain ⟨G3, ⟨D3, J3, X3, Y3, h1, h2, h3, h4⟩, hg3, hk3⟩ := HP3.out
       have hbb := box_below w3 (xs : Int) xk xb xd xm
       have hNJ : ¬ J3 bx := fun hJ => by have := h2.lt bx hJ; omega
       have h1' := h1.below hbb
       have h2' := h2.below hbb
       have hk3' := hk3.trans hg3 (Kept.of_below (G := G3) hbb)
       rw [← hw4] at h1' h2' hk3' hbx0
       rw [← hbx] at hbx0
       have HX4 := hide hbx0
       have HNJ := hide hNJ
       have H1 := hide h1'
       have H3 := hide h3
       have H4 := hide h4
       have HG4 := hide hg3
       have HK4 := hide hk3'
       obtain ⟨A, c, B, d, rfl, rfl, c0, c1, c2, c3, c4, c5, c6, c7, fz⟩ := h2'.cells
       have H2 := hide h2'
       rw [hF.out] at c6 H2
       have hbW : Below w4.heap.size w4 (w4.drew.alloc (.cells #[.int .i64 (xs : Int), .int .i64 xk, .int .i64 xb, .string xd, .int .i64 xm] 100)) := (Below.refl w4.heap.size w4).drew.alloc (Nat.le_refl _) _
       have HBW := hide hbW
       have HO : Hid (ORow (w4.drew.alloc (.cells #[.int .i64 (xs : Int), .int .i64 xk, .int .i64 xb, .string xd, .int .i64 xm] 100)) 100 5 (.slice A k c) k (rcels F)) := by
        have := h2'.rows
        rw [hF.out] at this
        exact this.same fun i hi => hbW.block i (this.lt i hi)
       have HN : Hid (∀ j u, (rcel ⟨xg, xs, xk, xb, xd, xm⟩)[j]? = some u → (w4.drew.alloc (.cells #[.int .i64 (xs : Int), .int .i64 xk, .int .i64 xb, .string xd, .int .i64 xm] 100)).cell? ((⟨w4.heap.size, 0, none⟩ : Addr).add j) = some u) := fun j u hu => by
        rw [Addr.add_mid, Nat.zero_add]
        show (w4.drew.alloc _).cell? ⟨w4.drew.heap.size, j, none⟩ = _
        rw [cell_of_row _ _ j _ _ _ (heap_alloc_new w4.drew _)]
        exact List.getElem?_toArray.trans hu
       have Hm1 := hide (show k + 1 ≤ maxLen by have := Hn.out; have := Hlt.out; unfold maxLen; omega)
       have Hm2 := hide (show (k + 1) * 48 ≤ 140737488355328 by have := Hn.out; have := Hlt.out; omega)
       have c6' : (w4.alloc (.cells #[.int .i64 (xs : Int), .int .i64 xk, .int .i64 xb, .string xd, .int .i64 xm] 100)).cell? ⟨p, 6, none⟩ = some (.slice A k c) := ((Below.refl w4.heap.size w4).alloc (Nat.le_refl _) _).cell (p := ⟨p, 6, none⟩) (h2'.lt p h2'.mine) |>.trans c6
       have hSa : w4.drew.cell? ⟨bx, 0, none⟩ = some (.int .i64 (xs : Int)) ∧ w4.drew.cell? ⟨bx, 1, none⟩ = some (.int .i64 xk) ∧ w4.drew.cell? ⟨bx, 2, none⟩ = some (.int .i64 xb) ∧ w4.drew.cell? ⟨bx, 3, none⟩ = some (.string xd) ∧ w4.drew.cell? ⟨bx, 4, none⟩ = some (.int .i64 xm) := ⟨HX4.out.c0, HX4.out.c1, HX4.out.c2, HX4.out.c3, HX4.out.c4⟩
       have hxb := HX4.out.below hbW
       have hSb : (w4.drew.alloc (.cells #[.int .i64 (xs : Int), .int .i64 xk, .int .i64 xb, .string xd, .int .i64 xm] 100)).cell? ⟨bx, 0, none⟩ = some (.int .i64 (xs : Int)) ∧ (w4.drew.alloc (.cells #[.int .i64 (xs : Int), .int .i64 xk, .int .i64 xb, .string xd, .int .i64 xm] 100)).cell? ⟨bx, 1, none⟩ = some (.int .i64 xk) ∧ (w4.drew.alloc (.cells #[.int .i64 (xs : Int), .int .i64 xk, .int .i64 xb, .string xd, .int .i64 xm] 100)).cell? ⟨bx, 2, none⟩ = some (.int .i64 xb) ∧ (w4.drew.alloc (.cells #[.int .i64 (xs : Int), .int .i64 xk, .int .i64 xb, .string xd, .int .i64 xm] 100)).cell? ⟨bx, 3, none⟩ = some (.string xd) ∧ (w4.drew.alloc (.cells #[.int .i64 (xs : Int), .int .i64 xk, .int .i64 xb, .string xd, .int .i64 xm] 100)).cell? ⟨bx, 4, none⟩ = some (.int .i64 xm) := ⟨hxb.c0, hxb.c1, hxb.c2, hxb.c3, hxb.c4⟩
       have x0 : w4.cell? ⟨bx, 0, none⟩ = some (.int .i64 (xs : Int)) := HX4.out.c0
       have Hbx := hide hbx
       have Hw4 := hide hw4
       clear h1 h2 h3 h4 h1' h2' hk3 hk3' hg3 hbb hNJ hbx0 hbW c0 c1 c2 c3 c4 c5 c7 fz hxb HP3 HP4
       go_wp2_with fail
       rw [← hw4, ← hbx]
       clear hw4 hbx e4 x0
       refine wp_region_held (S := (fun W => W.cell? ⟨bx, 0, none⟩ = some (.int .i64 (xs : Int)) ∧ W.cell? ⟨bx, 1, none⟩ = some (.int .i64 xk) ∧ W.cell? ⟨bx, 2, none⟩ = some (.int .i64 xb) ∧ W.cell? ⟨bx, 3, none⟩ = some (.string xd) ∧ W.cell? ⟨bx, 4, none⟩ = some (.int .i64 xm))) (by kernel_rfl) ?_
       change wpAnyH _ _ _ _ _ _ _ _ (World.drew _)
       refine wpAnyH_take (i := 0) (oi := ⟨some 180, _, _, _, _, _⟩) (v := ?_) rfl (by kernel_rfl) (by kernel_rfl) (by kernel_rfl) (fun _ _ _ h => h) (Or.inl ⟨by rfl, ?_⟩) hSa ?_
       rotate_left 1
       ·(intro w hSw; obtain ⟨hSw1, hSw2, hSw3, hSw4, hSw5⟩ := hSw; go_simp; try with_reducible rfl)
       simp only [Act.put, Pk.sl]
       refine wpAnyH_take (i := 1) (oi := ⟨some 181, _, _, _, _, _⟩) (v := ?_) rfl (by kernel_rfl) (by kernel_rfl) (by kernel_rfl) (fun _ _ _ h => h) (Or.inl ⟨by rfl, ?_⟩) hSa ?_
       rotate_left 1
       ·(intro w hSw; obtain ⟨hSw1, hSw2, hSw3, hSw4, hSw5⟩ := hSw; go_simp; try with_reducible rfl)
       simp only [Act.put, Pk.sl]
       refine wpAnyH_take (i := 2) (oi := ⟨some 182, _, _, _, _, _⟩) (v := ?_) rfl (by kernel_rfl) (by kernel_rfl) (by kernel_rfl) (fun _ _ _ h => h) (Or.inl ⟨by rfl, ?_⟩) hSa ?_
       rotate_left 1
       ·(intro w hSw; obtain ⟨hSw1, hSw2, hSw3, hSw4, hSw5⟩ := hSw; go_simp; try with_reducible rfl)
       simp only [Act.put, Pk.sl]
       refine wpAnyH_take (i := 3) (oi := ⟨some 183, _, _, _, _, _⟩) (v := ?_) rfl (by kernel_rfl) (by kernel_rfl) (by kernel_rfl) (fun _ _ _ h => h) (Or.inl ⟨by rfl, ?_⟩) hSa ?_
       rotate_left 1
       ·(intro w hSw; obtain ⟨hSw1, hSw2, hSw3, hSw4, hSw5⟩ := hSw; go_simp; try with_reducible rfl)
       simp only [Act.put, Pk.sl]
       refine wpAnyH_take (i := 5) (oi := ⟨some 185, _, _, _, _, _⟩) (v := ?_) rfl (by kernel_rfl) (by kernel_rfl) (by kernel_rfl) (fun _ _ _ h => h) (Or.inl ⟨by rfl, ?_⟩) hSa ?_
       rotate_left 1
       ·(intro w hSw; obtain ⟨hSw1, hSw2, hSw3, hSw4, hSw5⟩ := hSw; go_simp; try with_reducible rfl)
       simp only [Act.put, Pk.sl]
       refine wpAnyH_ready (rs := [4, 6]) (by kernel_rfl) (by simp) ?_
       refine AllReadyH.cons (o := ⟨some 184, _, _, _, _, _⟩) rfl (fun K hK => ?_) (AllReadyH.cons (o := ⟨some 186, _, _, _, _, _⟩) rfl (fun K hK => ?_) AllReadyH.nil)
       ·go_simp
        refine hK.out _ _ (by first | exact hSa | exact hSb) (fun hHeld => ?_)
        clear hK K
        clear hHeld
        refine wpAnyH_ready (rs := [6]) (by kernel_rfl) (by simp) ?_
        refine AllReadyH.cons (o := ⟨some 186, _, _, _, _, _⟩) rfl (fun K hK => ?_) AllReadyH.nil
        go_simp
        refine hK.out _ _ hSb (fun hHeld => ?_)
        clear hK K
        clear hHeld
        refine wpAnyH_ready (rs := [7]) (by kernel_rfl) (by simp) ?_
        refine AllReadyH.cons (o := ⟨some 187, _, _, _, _, _⟩) rfl (fun K hK => ?_) AllReadyH.nil
        refine step_append_o _ rfl (.tmp 184) (.tmp 186) 55 rfl 100 i0 _ 5 48 Tryz.underlying55 hi0 hz0 Hz1.out Hz2.out rfl (.slice A k c) k (rcels F) rfl HO.out ⟨w4.heap.size, 0, none⟩ 1 1 (rcel ⟨xg, xs, xk, xb, xd, xm⟩) rfl rfl HN.out (rcel_one _) (by decide) Hm1.out Hm2.out _ rfl ?_
        intro g2 o2 cap w6 hown6 hgr6 hor6 hlt6
        have hP := H2.out.appendedL (y := ⟨xg, xs, xk, xb, xd, xm⟩) HBW.out hgr6 hown6 hor6 hF.out
        have HPA := hide hP.1
        have HPK := hide hP.2
        have hc6 : w6.cell? ⟨p, 6, none⟩ = some (.slice A k c) := by simp [World.cell?, H2.out.box6 HBW.out (Or.inl rfl) hgr6]
        have hf6 : w6.frozen? ⟨p, 6, none⟩ = false := by simp [World.frozen?, H2.out.box6 HBW.out (Or.inl rfl) hgr6]
        have hbx6 : Bx w6 bx (xs : Int) xk xb xd xm := (hgr6.block _ (Nat.lt_of_lt_of_le HX4.out.lt HBW.out.size) (fun e => HNJ.out ((H2.out.row _ e.symm).1))).trans ((HBW.out.block _ HX4.out.lt).trans HX4.out)
        have hbx7 : Bx (w6.setCell ⟨p, 6, none⟩ (.slice (some ⟨g2, o2, none⟩) (k + 1) cap)) bx (xs : Int) xk xb xd xm := (heap_setCell_other _ _ _ _ (fun e => HNJ.out (by have e2 : bx = p := e; rw [e2]; exact H2.out.mine))).trans hbx6
        have hSc : w6.cell? ⟨bx, 0, none⟩ = some (.int .i64 (xs : Int)) ∧ w6.cell? ⟨bx, 1, none⟩ = some (.int .i64 xk) ∧ w6.cell? ⟨bx, 2, none⟩ = some (.int .i64 xb) ∧ w6.cell? ⟨bx, 3, none⟩ = some (.string xd) ∧ w6.cell? ⟨bx, 4, none⟩ = some (.int .i64 xm) := ⟨hbx6.c0, hbx6.c1, hbx6.c2, hbx6.c3, hbx6.c4⟩
        have HX7 := hide hbx7
        clear hP hown6 hgr6 hor6 hlt6 hbx6 hbx7
        refine hK.out _ _ hSc (fun hHeld => ?_)
        clear hK K
        clear hHeld
        refine wpAnyH_take (i := 8) (oi := ⟨some 188, _, _, _, _, _⟩) (v := ?_) rfl (by kernel_rfl) (by kernel_rfl) (by kernel_rfl) (fun _ _ _ h => h) (Or.inl ⟨by rfl, ?_⟩) hSc ?_
        rotate_left 1
        ·(intro w hSw; obtain ⟨hSw1, hSw2, hSw3, hSw4, hSw5⟩ := hSw; go_simp; try with_reducible rfl)
        simp only [Act.put, Pk.sl]
        refine wpAnyH_take (i := 9) (oi := ⟨some 189, _, _, _, _, _⟩) (v := ?_) rfl (by kernel_rfl) (by kernel_rfl) (by kernel_rfl) (fun _ _ _ h => h) (Or.inl ⟨by rfl, ?_⟩) hSc ?_
        rotate_left 1
        ·(intro w hSw; obtain ⟨hSw1, hSw2, hSw3, hSw4, hSw5⟩ := hSw; go_simp; try with_reducible rfl)
        simp only [Act.put, Pk.sl]
        refine wpAnyH_ready (rs := [10]) (by kernel_rfl) (by simp) ?_
        refine AllReadyH.cons (o := ⟨none, _, _, _, _, _⟩) rfl (fun K hK => ?_) AllReadyH.nil
        go_simp
        generalize w6.setCell _ _ = w7 at *
        have hSd : w7.cell? ⟨bx, 0, none⟩ = some (.int .i64 (xs : Int)) ∧ w7.cell? ⟨bx, 1, none⟩ = some (.int .i64 xk) ∧ w7.cell? ⟨bx, 2, none⟩ = some (.int .i64 xb) ∧ w7.cell? ⟨bx, 3, none⟩ = some (.string xd) ∧ w7.cell? ⟨bx, 4, none⟩ = some (.int .i64 xm) := ⟨HX7.out.c0, HX7.out.c1, HX7.out.c2, HX7.out.c3, HX7.out.c4⟩
        refine hK.out _ _ hSd (fun hHeld => ?_)
        clear hK K
        clear hHeld
        refine wpAnyH_done (by kernel_rfl) ?_ _
        clear hSa hSb hSc hSd hc6 hf6 c6 c6'
        obtain ⟨A7, c7', B7, e8, e6, e7, k0, k1, k2, k3, k4, k5, k6, k7, fz⟩ := HPA.out.cells
        rw [hF.out] at k7 e7
        obtain ⟨rfl, rfl⟩ : B = B7 ∧ d = e8 := by simpa using e7
        clear e6 e7
        have hbV : Below w7.heap.size w7 (w7.alloc (.cells #[.int .i64 (xg : Int)] 3)) := (Below.refl w7.heap.size w7).alloc (Nat.le_refl _) _
        have HBV := hide hbV
        have HO9 : Hid (ORow (w7.alloc (.cells #[.int .i64 (xg : Int)] 3)) 3 1 (.slice B k d) k (gcels F)) := by
         have := HPA.out.gens
         rw [hF.out] at this
         exact this.same fun i hi => hbV.block i (this.lt i hi)
        have HN9 : Hid (∀ j u, ([.int .i64 (xg : Int)] : List Value)[j]? = some u → (w7.alloc (.cells #[.int .i64 (xg : Int)] 3)).cell? ((⟨w7.heap.size, 0, none⟩ : Addr).add j) = some u) := fun j u hu => by
         rw [Addr.add_mid, Nat.zero_add, cell_of_row _ _ j _ _ _ (heap_alloc_new w7 _)]
         exact List.getElem?_toArray.trans hu
        have Hm3 := hide (show (k + 1) * 8 ≤ 140737488355328 by have := Hn.out; have := Hlt.out; omega)
        have f7 := fz 7
        clear k0 k1 k2 k3 k4 k5 k6 fz hbV
        go_wp2_with (at_builtin; go_must (refine wpList_append_o _ rfl (.tmp 194) (.tmp 196) 57 rfl 3 j0 _ 1 8 Tryz.underlying57 hj0 hy0 Hy1.out Hy2.out rfl (.slice B k d) k (gcels F) rfl HO9.out ⟨w7.heap.size, 0, none⟩ 1 1 [.int .i64 (xg : Int)] rfl rfl HN9.out (fun u hu => by simp at hu; subst hu; rfl) (by decide) Hm1.out Hm3.out _ rfl ?_))
        intro g3 o3 cap3 w8 hown8 hgr8 hor8 hlt8
        have hP := HPA.out.appendedG (y := ⟨xg, xs, xk, xb, xd, xm⟩) HBV.out hgr8 hown8 (hor8.imp id (fun e => by rw [e]; simp)) hF.out
        have HQA := hide hP.1
        have HQK := hide hP.2
        have hc7 : w8.cell? ⟨p, 7, none⟩ = some (.slice B k d) := by simp [World.cell?, HPA.out.box6 HBV.out (Or.inr rfl) hgr8]
        have hf7 : w8.frozen? ⟨p, 7, none⟩ = false := by simp [World.frozen?, HPA.out.box6 HBV.out (Or.inr rfl) hgr8]
        clear hP hown8 hgr8 hor8 hlt8 k7 f7
        go_wp2_with fail
        generalize w8.setCell _ _ = w9 at *
        have HPZ := hide (RjPost.of HG4.out HK4.out (Rj.mine (w' := w9) H1.out H3.out H4.out (fun i hi => by
         rcases hi with hi | hi
         ·rcases hi with hi | hi
          ·exact Or.inl hi
          ·exact Or.inr hi.1
         ·exact Or.inr (Nat.le_trans HPK.out.size hi.1)) (HPK.out.trans (fun i hi => by
          rcases hi with hi | hi
          ·exact Or.inl hi
          ·exact Or.inr hi.1) HQK.out) HQA.out))
        clear hc7 hf7
        go_roundw
        case rel => exact ⟨k + 1, xg, F ++ [⟨xg, xs, xk, xb, xd, xm⟩], Hlt.out, rfl, hide (by rw [List.length_append, hF.out]; rfl), hide (by rw [HR'.out, show f + (k + 1) = xs + 1 by have := HSQ.out; omega]; exact HE.out), HPZ⟩
        case measure =>
         have e1 := HPZ.out.len
         have e2 := hlen.out
         have := Hlt.out
         rw [e1, e2, List.length_append, hF.out]
         show n - (k + 1) < n - k
         omega
       ·go_simp
        refine hK.out _ _ hSb (fun hHeld => ?_)
        clear hK K
        clear hHeld
        refine wpAnyH_ready (rs := [4]) (by kernel_rfl) (by simp) ?_
        refine AllReadyH.cons (o := ⟨some 184, _, _, _, _, _⟩) rfl (fun K hK => ?_) AllReadyH.nil
        go_simp
        refine hK.out _ _ (by first | exact hSa | exact hSb) (fun hHeld => ?_)
        clear hK K
        clear hHeld
        refine wpAnyH_ready (rs := [7]) (by kernel_rfl) (by simp) ?_
        refine AllReadyH.cons (o := ⟨some 187, _, _, _, _, _⟩) rfl (fun K hK => ?_) AllReadyH.nil
        refine step_append_o _ rfl (.tmp 184) (.tmp 186) 55 rfl 100 i0 _ 5 48 Tryz.underlying55 hi0 hz0 Hz1.out Hz2.out rfl (.slice A k c) k (rcels F) rfl HO.out ⟨w4.heap.size, 0, none⟩ 1 1 (rcel ⟨xg, xs, xk, xb, xd, xm⟩) rfl rfl HN.out (rcel_one _) (by decide) Hm1.out Hm2.out _ rfl ?_
        intro g2 o2 cap w6 hown6 hgr6 hor6 hlt6
        have hP := H2.out.appendedL (y := ⟨xg, xs, xk, xb, xd, xm⟩) HBW.out hgr6 hown6 hor6 hF.out
        have HPA := hide hP.1
        have HPK := hide hP.2
        have hc6 : w6.cell? ⟨p, 6, none⟩ = some (.slice A k c) := by simp [World.cell?, H2.out.box6 HBW.out (Or.inl rfl) hgr6]
        have hf6 : w6.frozen? ⟨p, 6, none⟩ = false := by simp [World.frozen?, H2.out.box6 HBW.out (Or.inl rfl) hgr6]
        have hbx6 : Bx w6 bx (xs : Int) xk xb xd xm := (hgr6.block _ (Nat.lt_of_lt_of_le HX4.out.lt HBW.out.size) (fun e => HNJ.out ((H2.out.row _ e.symm).1))).trans ((HBW.out.block _ HX4.out.lt).trans HX4.out)
        have hbx7 : Bx (w6.setCell ⟨p, 6, none⟩ (.slice (some ⟨g2, o2, none⟩) (k + 1) cap)) bx (xs : Int) xk xb xd xm := (heap_setCell_other _ _ _ _ (fun e => HNJ.out (by have e2 : bx = p := e; rw [e2]; exact H2.out.mine))).trans hbx6
        have hSc : w6.cell? ⟨bx, 0, none⟩ = some (.int .i64 (xs : Int)) ∧ w6.cell? ⟨bx, 1, none⟩ = some (.int .i64 xk) ∧ w6.cell? ⟨bx, 2, none⟩ = some (.int .i64 xb) ∧ w6.cell? ⟨bx, 3, none⟩ = some (.string xd) ∧ w6.cell? ⟨bx, 4, none⟩ = some (.int .i64 xm) := ⟨hbx6.c0, hbx6.c1, hbx6.c2, hbx6.c3, hbx6.c4⟩
        have HX7 := hide hbx7
        clear hP hown6 hgr6 hor6 hlt6 hbx6 hbx7
        refine hK.out _ _ hSc (fun hHeld => ?_)
        clear hK K
        clear hHeld
        refine wpAnyH_take (i := 8) (oi := ⟨some 188, _, _, _, _, _⟩) (v := ?_) rfl (by kernel_rfl) (by kernel_rfl) (by kernel_rfl) (fun _ _ _ h => h) (Or.inl ⟨by rfl, ?_⟩) hSc ?_
        rotate_left 1
        ·(intro w hSw; obtain ⟨hSw1, hSw2, hSw3, hSw4, hSw5⟩ := hSw; go_simp; try with_reducible rfl)
        simp only [Act.put, Pk.sl]
        refine wpAnyH_take (i := 9) (oi := ⟨some 189, _, _, _, _, _⟩) (v := ?_) rfl (by kernel_rfl) (by kernel_rfl) (by kernel_rfl) (fun _ _ _ h => h) (Or.inl ⟨by rfl, ?_⟩) hSc ?_
        rotate_left 1
        ·(intro w hSw; obtain ⟨hSw1, hSw2, hSw3, hSw4, hSw5⟩ := hSw; go_simp; try with_reducible rfl)
        simp only [Act.put, Pk.sl]
        refine wpAnyH_ready (rs := [10]) (by kernel_rfl) (by simp) ?_
        refine AllReadyH.cons (o := ⟨none, _, _, _, _, _⟩) rfl (fun K hK => ?_) AllReadyH.nil
        go_simp
        generalize w6.setCell _ _ = w7 at *
        have hSd : w7.cell? ⟨bx, 0, none⟩ = some (.int .i64 (xs : Int)) ∧ w7.cell? ⟨bx, 1, none⟩ = some (.int .i64 xk) ∧ w7.cell? ⟨bx, 2, none⟩ = some (.int .i64 xb) ∧ w7.cell? ⟨bx, 3, none⟩ = some (.string xd) ∧ w7.cell? ⟨bx, 4, none⟩ = some (.int .i64 xm) := ⟨HX7.out.c0, HX7.out.c1, HX7.out.c2, HX7.out.c3, HX7.out.c4⟩
        refine hK.out _ _ hSd (fun hHeld => ?_)
        clear hK K
        clear hHeld
        refine wpAnyH_done (by kernel_rfl) ?_ _
        clear hSa hSb hSc hSd hc6 hf6 c6 c6'
        obtain ⟨A7, c7', B7, e8, e6, e7, k0, k1, k2, k3, k4, k5, k6, k7, fz⟩ := HPA.out.cells
        rw [hF.out] at k7 e7
        obtain ⟨rfl, rfl⟩ : B = B7 ∧ d = e8 := by simpa using e7
        clear e6 e7
        have hbV : Below w7.heap.size w7 (w7.alloc (.cells #[.int .i64 (xg : Int)] 3)) := (Below.refl w7.heap.size w7).alloc (Nat.le_refl _) _
        have HBV := hide hbV
        have HO9 : Hid (ORow (w7.alloc (.cells #[.int .i64 (xg : Int)] 3)) 3 1 (.slice B k d) k (gcels F)) := by
         have := HPA.out.gens
         rw [hF.out] at this
         exact this.same fun i hi => hbV.block i (this.lt i hi)
        have HN9 : Hid (∀ j u, ([.int .i64 (xg : Int)] : List Value)[j]? = some u → (w7.alloc (.cells #[.int .i64 (xg : Int)] 3)).cell? ((⟨w7.heap.size, 0, none⟩ : Addr).add j) = some u) := fun j u hu => by
         rw [Addr.add_mid, Nat.zero_add, cell_of_row _ _ j _ _ _ (heap_alloc_new w7 _)]
         exact List.getElem?_toArray.trans hu
        have Hm3 := hide (show (k + 1) * 8 ≤ 140737488355328 by have := Hn.out; have := Hlt.out; omega)
        have f7 := fz 7
        clear k0 k1 k2 k3 k4 k5 k6 fz hbV
        go_wp2_with (at_builtin; go_must (refine wpList_append_o _ rfl (.tmp 194) (.tmp 196) 57 rfl 3 j0 _ 1 8 Tryz.underlying57 hj0 hy0 Hy1.out Hy2.out rfl (.slice B k d) k (gcels F) rfl HO9.out ⟨w7.heap.size, 0, none⟩ 1 1 [.int .i64 (xg : Int)] rfl rfl HN9.out (fun u hu => by simp at hu; subst hu; rfl) (by decide) Hm1.out Hm3.out _ rfl ?_))
        intro g3 o3 cap3 w8 hown8 hgr8 hor8 hlt8
        have hP := HPA.out.appendedG (y := ⟨xg, xs, xk, xb, xd, xm⟩) HBV.out hgr8 hown8 (hor8.imp id (fun e => by rw [e]; simp)) hF.out
        have HQA := hide hP.1
        have HQK := hide hP.2
        have hc7 : w8.cell? ⟨p, 7, none⟩ = some (.slice B k d) := by simp [World.cell?, HPA.out.box6 HBV.out (Or.inr rfl) hgr8]
        have hf7 : w8.frozen? ⟨p, 7, none⟩ = false := by simp [World.frozen?, HPA.out.box6 HBV.out (Or.inr rfl) hgr8]
        clear hP hown8 hgr8 hor8 hlt8 k7 f7
        go_wp2_with fail
        generalize w8.setCell _ _ = w9 at *
        have HPZ := hide (RjPost.of HG4.out HK4.out (Rj.mine (w' := w9) H1.out H3.out H4.out (fun i hi => by
         rcases hi with hi | hi
         ·rcases hi with hi | hi
          ·exact Or.inl hi
          ·exact Or.inr hi.1
         ·exact Or.inr (Nat.le_trans HPK.out.size hi.1)) (HPK.out.trans (fun i hi => by
          rcases hi with hi | hi
          ·exact Or.inl hi
          ·exact Or.inr hi.1) HQK.out) HQA.out))
        clear hc7 hf7
        go_roundw
        case rel => exact ⟨k + 1, xg, F ++ [⟨xg, xs, xk, xb, xd, xm⟩], Hlt.out, rfl, hide (by rw [List.length_append, hF.out]; rfl), hide (by rw [HR'.out, show f + (k + 1) = xs + 1 by have := HSQ.out; omega]; exact HE.out), HPZ⟩
        case measure =>
         have e1 := HPZ.out.len
         have e2 := hlen.out
         have := Hlt.out
         rw [e1, e2, List.length_append, hF.out]
         show n - (k + 1) < n - k
         omega
    ·have hq2 : ((xs : Int) != (sq : Int)) = true := by simp; omega
     have hq3 : ((xs : Int) == (sq : Int)) = false := by simp; omega
     have HE := hide (show Z = F by rw [HZF.out, load_no (by rw [HGD.out]; exact Hux.out) (by intro h; exact hq h.1), List.append_nil])
     have HP := HP4
     clear hq HP3 HP4 HPL
     obtain ⟨G9, hj9, hg9, hk9⟩ := HP.out
     have HPS := hide (RjPost.of hg9 hk9 (Rj.set (i := 4) (v := .int .i64 ((g : Int) + 1)) (h' := ⟨t, f, g + 1, l⟩) hj9 (fun X Y => rfl)))
     obtain ⟨D9, J9, X9, Y9, _, k2, _, _⟩ := hj9
     have e4 : (w3.alloc (.cells #[.int .i64 (xs : Int), .int .i64 xk, .int .i64 xb, .string xd, .int .i64 xm] 100)).cell? ⟨p, 4, none⟩ = some (.int .i64 (g : Int)) := k2.heads.2.2.2.1
     have f4 : (w3.alloc (.cells #[.int .i64 (xs : Int), .int .i64 xk, .int .i64 xb, .string xd, .int .i64 xm] 100)).frozen? ⟨p, 4, none⟩ = false := blk_free k2.box 4
     clear k2 hg9 hk9 HP
     go_wp2_with fail
     generalize World.setCell _ _ _ = w8 at *
     obtain ⟨G8, hj8, hg8, hk8⟩ := HPS.out
     have hFE := HE.out
     refine (RSave_any w8 G8 p q S [] n ⟨t, f, g + 1, l⟩ F hj8 (by show t ≤ _; omega) (by have := H2n.out; omega) (by simp)).mono ?_
     rintro e w9 ⟨rfl, hp9⟩
     have HP9 := hide (RjPost.of hg8 hk8 hp9)
     clear hj8 hg8 hk8 hp9 HPS e4 f4
     go_wp2
     go_ret2
     refine ⟨p, rfl, ?_⟩
     show RjPost w D p q (all S ([] ++ [((t + 1) % 2, hsec ⟨t + 1, f, g + 1, l⟩)])) [] n ⟨t + 1, f, g + 1, l⟩ _ _
     have hZE := HZE.out
     rw [show load S n g n f l = F by rw [hZE, hFE]]
     exact HP9.out
   ·have HE := hide (show Z = F by rw [HZF.out, load_nil (by rw [HGD.out]; exact hux), List.append_nil])
    have HP := hide (HP3.out.below (box_below w3 0 0 0 ⟨#[]⟩ 0))
    clear hux HP3
    obtain ⟨G9, hj9, hg9, hk9⟩ := HP.out
    have HPS := hide (RjPost.of hg9 hk9 (Rj.set (i := 4) (v := .int .i64 ((g : Int) + 1)) (h' := ⟨t, f, g + 1, l⟩) hj9 (fun X Y => rfl)))
    obtain ⟨D9, J9, X9, Y9, _, k2, _, _⟩ := hj9
    have e4 : (w3.alloc (.cells #[.int .i64 0, .int .i64 0, .int .i64 0, .string ⟨#[]⟩, .int .i64 0] 100)).cell? ⟨p, 4, none⟩ = some (.int .i64 (g : Int)) := k2.heads.2.2.2.1
    have f4 : (w3.alloc (.cells #[.int .i64 0, .int .i64 0, .int .i64 0, .string ⟨#[]⟩, .int .i64 0] 100)).frozen? ⟨p, 4, none⟩ = false := blk_free k2.box 4
    clear k2 hg9 hk9 HP
    go_wp2_with fail
    generalize World.setCell _ _ _ = w8 at *
    obtain ⟨G8, hj8, hg8, hk8⟩ := HPS.out
    have hFE := HE.out
    refine (RSave_any w8 G8 p q S [] n ⟨t, f, g + 1, l⟩ F hj8 (by show t ≤ _; omega) (by have := H2n.out; omega) (by simp)).mono ?_
    rintro e w9 ⟨rfl, hp9⟩
    have HP9 := hide (RjPost.of hg8 hk8 hp9)
    clear hj8 hg8 hk8 hp9 HPS e4 f4
    go_wp2
    go_ret2
    refine ⟨p, rfl, ?_⟩
    show RjPost w D p q (all S ([] ++ [((t + 1) % 2, hsec ⟨t + 1, f, g + 1, l⟩)])) [] n ⟨t + 1, f, g + 1, l⟩ _ _
    have hZE := HZE.out
    rw [show load S n g n f l = F by rw [hZE, hFE]]
    exact HP9.out
  ·have hkn : ¬ ((k : Int) < (n : Int)) := by omega
   obtain ⟨A0, cc0, c6⟩ : ∃ A c, wr.cell? ⟨p, 6, none⟩ = some (.slice A k c) := by
    obtain ⟨G1, ⟨D1, J1, X1, Y1, h1, h2, h3, h4⟩, _, _⟩ := hp.out
    obtain ⟨A, c, B, d, rfl, rfl, c0, c1, c2, c3, c4, c5, c6, c7, fz⟩ := h2.cells
    rw [hF.out] at c6
    exact ⟨A, c, c6⟩
   have HE := hide (show Z = F by rw [hZF.out, show n - k = 0 by omega]; exact List.append_nil _)
   have HP := hp
   clear hge hk hZF hp
   obtain ⟨G9, hj9, hg9, hk9⟩ := HP.out
   have HPS := hide (RjPost.of hg9 hk9 (Rj.set (i := 4) (v := .int .i64 ((g : Int) + 1)) (h' := ⟨t, f, g + 1, l⟩) hj9 (fun X Y => rfl)))
   obtain ⟨D9, J9, X9, Y9, _, k2, _, _⟩ := hj9
   have e4 : wr.cell? ⟨p, 4, none⟩ = some (.int .i64 (g : Int)) := k2.heads.2.2.2.1
   have f4 : wr.frozen? ⟨p, 4, none⟩ = false := blk_free k2.box 4
   clear k2 hg9 hk9 HP
   go_wp2_with fail
   generalize World.setCell _ _ _ = w8 at *
   obtain ⟨G8, hj8, hg8, hk8⟩ := HPS.out
   have hFE := HE.out
   refine (RSave_any w8 G8 p q S [] n ⟨t, f, g + 1, l⟩ F hj8 (by show t ≤ _; omega) (by have := H2n.out; omega) (by simp)).mono ?_
   rintro e w9 ⟨rfl, hp9⟩
   have HP9 := hide (RjPost.of hg8 hk8 hp9)
   clear hj8 hg8 hk8 hp9 HPS e4 f4
   go_wp2
   go_ret2
   refine ⟨p, rfl, ?_⟩
   show RjPost w D p q (all S ([] ++ [((t + 1) % 2, hsec ⟨t + 1, f, g + 1, l⟩)])) [] n ⟨t + 1, f, g + 1, l⟩ _ _
   have hZE := HZE.out
   rw [show load S n g n f l = F by rw [hZE, hFE]]
   exact HP9.out
end Go.Proofs.YtapiogcoipeinaaGreatDoor.Jn
namespace Go.Proofs.YtapiogcoipeinaaGreatDoor.Jn
open Go.RowKit
open Pk hiding str str_data str_size str_of run_str head_str str_append
open Sm hiding run_str
open Fa Rc Dk
set_option maxRecDepth 100000 in
set_option maxHeartbeats 8000000 in
theorem ROpen_N (w : World) (D : Nat → Prop) (q : Nat) (S : List Sec) (n : Nat) (hd : RDsk w D q S []) (h1n : 1 ≤ n) (h512 : n ≤ 512) (h2n : 2 + n ≤ S.length) (hS : S.length ≤ 1000) (hFull : Full S) (s0 s1 : Sec) (hs0 : S[0]? = some s0) (hs1 : S[1]? = some s1) (t f g l : Nat) (ht : t ≤ 1152921504606846975) (hf : f ≤ 1152921504606846975) (hgn : g ≤ 1152921504606846975) (hN : (⟨t, f, g, l⟩ : Hd) = ⟨0, 1, 0, 0⟩) (ha : unh 0 s0 = none) (hb : unh 1 s1 = none) (hzs0 : s0 = zer) (hzs1 : s1 = zer) :
 Calls Tryz.prog 40 #[.pointer (some ⟨q, 0, none⟩), .int .i64 (n : Int)] w (ROpened w D q n S ⟨t + 1, f, g + 1, l⟩ (load S n g n f l)) := by
 obtain ⟨i0, hi0, hz0, hz1, hz2⟩ := info_parts rec_info
 have Hz1 := hide hz1
 have Hz2 := hide hz2
 obtain ⟨j0, hj0, hy0, hy1, hy2⟩ := info_parts int_info
 have Hy1 := hide hy1
 have Hy2 := hide hy2
 clear hz1 hz2 hy1 hy2
 obtain ⟨sl, hsl⟩ : ∃ sl, S.length = sl := ⟨_, rfl⟩
 have hsi : (sl : Int) ≤ 1000 := by omega
 obtain ⟨A, c, hp0⟩ : ∃ A c, w.cell? ⟨q, 0, none⟩ = some (.slice A sl c) := by
  obtain ⟨F, X, hp, h2, _⟩ := hd
  obtain ⟨A, c, rfl, _⟩ := row_form h2
  exact ⟨A, c, by rw [← hsl]; simp [World.cell?, hp]⟩
 have H1n := hide h1n
 have Hn := hide h512
 have H2n := hide h2n
 have hn1 : ¬ ((n : Int) < 1) := by omega
 have hn5 : ¬ ((512 : Int) < (n : Int)) := by omega
 have hn5' : (n : Int) ≤ 512 := by omega
 obtain ⟨n2, hn2⟩ : ∃ n2, 2 + n = n2 := ⟨_, rfl⟩
 have hn2i : (2 : Int) + (n : Int) = (n2 : Int) := by omega
 have hn2w : IntKind.i64.wrap (n2 : Int) = (n2 : Int) := by rw [IntKind.wrap_i64]; omega
 have hn2l : ¬ ((sl : Int) < (n2 : Int)) := by omega
 have HFull := hide hFull
 have L0 : s0.length = 64 := HFull.out s0 (List.mem_of_getElem? hs0)
 have L1 : s1.length = 64 := HFull.out s1 (List.mem_of_getElem? hs1)
 obtain ⟨Z, hZ⟩ : ∃ Z, load S n g n f l = Z := ⟨_, rfl⟩
 have HZE := hide hZ
 have HZ0 := hide (show Z = [] ++ load S n g (n - 0) (f + 0) l by rw [List.nil_append, Nat.sub_zero, Nat.add_zero]; exact hZ.symm)
 have HR0 := hide (RRead_any w D q 0 S [] s0 hd hs0 (by omega) (by simp))
 have HR1 := hide (RRead_any w D q 1 S [] s1 hd hs1 (by omega) (by simp))
 have HPF := hide (Rj.fresh (n := n) hd)
 obtain ⟨p, hpw⟩ : ∃ p, p = w.heap.size := ⟨_, rfl⟩
 rw [← hpw] at HPF
 have HH0 := hide (fun W => rHead_any (str s0) 0 W (by rw [str_size]; exact L0))
 have HH1 := hide (fun W => rHead_any (str s1) 1 W (by rw [str_size]; exact L1))
 simp only [str_data] at HH0 HH1
 rw [ha] at HH0
 rw [hb] at HH1
 simp only [HdTup] at HH0 HH1
 have HN := hide hN
 subst hzs0
 subst hzs1
 obtain ⟨S1, hS1⟩ : ∃ S, str zer = S := ⟨_, rfl⟩
 obtain ⟨SZ, hSZ⟩ : ∃ S, str (zer ++ zer) = S := ⟨_, rfl⟩
 have hadd := fun W => add_run zer zer (by decide) S1 S1 SZ hS1 hS1 hSZ W
 have HSZ := hide hSZ
 rw [hS1] at HH0 HH1 HR0 HR1
 clear hN hS1 hSZ
 clear hd h1n h512 h2n hS hFull hsl hn2 hs0 hs1 L0 L1 hZ
 go_enter Tryz.func40, Tryz.ntmps40
 go_wp2_with fail
 refine HR0.out.mono ?_
 rintro e w' ⟨rfl, rfl⟩
 go_wp2_with fail
 refine HR1.out.mono ?_
 rintro e w' ⟨rfl, rfl⟩
 clear hp0 HR0 HR1
 go_wp2_with fail
 rw [← hpw]
 clear hpw
 generalize w.alloc _ = w1 at *
 refine (HH0.out w1).mono ?_
 rintro e w2 ⟨rfl, hb2⟩
 have HP2 := hide (HPF.out.below hb2)
 clear hb2 HPF HH0
 go_wp2_with fail
 refine (HH1.out w2).mono ?_
 rintro e w3 ⟨rfl, hb3⟩
 have HP3 := hide (HP2.out.below hb3)
 clear hb3 HP2 HH1
 obtain ⟨u0, hu0, hu1, hu2, hu3⟩ := info_parts u8_info
 have hmk : Sem.run Tryz.prog (Instr.makeSlice 70 (.int .i64 128) (.int .i64 128)) w3 = .ok (.slice (some ⟨w3.heap.size, 0, none⟩) 128 128) (w3.alloc (.cells (madeCells #[.int .u8 0] 128) 5)) := by
  have := run_make (P := Tryz.prog) w3 70 5 u0 (.int .u8 0) Tryz.underlying70 hu0 hu1 .i64 .i64 128 128 (by decide) (by decide) (by rw [hu3]; decide) (by decide)
  rw [hu2] at this
  exact this
 obtain ⟨w4, hw4⟩ : ∃ w4, w4 = w3.alloc (.cells (madeCells #[.int .u8 0] 128) 5) := ⟨_, rfl⟩
 have hm128 : (madeCells #[.int .u8 0] 128).toList = cels (zer ++ zer) := by kernel_rfl
 have hrow : w4.heap[w3.heap.size]? = some (.cells (cels (zer ++ zer)).toArray 5 (0, 0)) := by
  rw [hw4]
  refine (heap_alloc_new w3 _).trans ?_
  rw [← hm128, Array.toArray_toList]
 rw [← hw4] at hmk
 have hcv := Sm.run_str w4 _ _ _ 128 128 (by decide) (Dk.byt_row hrow)
 have hZZ := HSZ.out
 rw [hZZ] at hcv
 have HP4 := hide (HP3.out.below (show Below w3.heap.size w3 w4 by rw [hw4]; exact (Below.refl _ _).alloc (Nat.le_refl _) _))
 have HP0 := hide (show RjPost w D p q S [] n ⟨t, f, g, l⟩ [] w4 by rw [HN.out]; exact HP4.out)
 have c5 : w4.cell? ⟨p, 5, none⟩ = some (.int .i64 (l : Int)) := by
  obtain ⟨G5, ⟨D5, J5, X5, Y5, _, k2, _, _⟩, _, _⟩ := HP0.out
  exact k2.heads.2.2.2.2
 clear hu0 hu1 hu2 hu3 hw4 hm128 hrow hZZ HP3 HP4 ha hb
 go_wp2_with fail
 clear hmk hcv c5 hadd
 go_loopw [19] (fun lo wr => ∃ (k lt : Nat) (F : List Ent), k ≤ n ∧ lo = .int .i64 (lt : Int) ∧ Hid (F.length = k) ∧ Hid (Z = F ++ load S n g (n - k) (f + k) lt) ∧ Hid (RjPost w D p q S [] n ⟨t, f, g, l⟩ F wr)) (fun _ wr => n - lenAt wr p)
 case atStart => exact ⟨0, l, [], Nat.zero_le _, rfl, rfl, HZ0.out, HP0.out⟩
 case round =>
  clear HP0
  obtain ⟨k, lt, F, hk, rfl, hF, hZF, hp⟩ := hrel
  have hlen := hide (show lenAt wr p = k by rw [hp.out.len, hF.out])
  rcases Nat.lt_or_ge k n with hlt | hge
  ·have Hlt := hide hlt
   have hki : (k : Int) < (n : Int) := by omega
   obtain ⟨sq, hsq⟩ : ∃ sq, f + k = sq := ⟨_, rfl⟩
   have hsq' : (f : Int) + (k : Int) = (sq : Int) := by omega
   have hsb : (sq : Int) ≤ 3000000000000000000 := by have := Hn.out; omega
   have hrmn := remN sq n
   obtain ⟨rr, hrr⟩ : ∃ rr, sq % n = rr := ⟨_, rfl⟩
   have hrlt : rr < n := by rw [← hrr]; exact Nat.mod_lt sq (by omega)
   have hn512 : n ≤ 512 := Hn.out
   have hz : ¬ ((n : Int) = 0) := by omega
   have hz2 : ((n : Int) == 0) = false := by simp; omega
   have hz3 : ¬ (n = 0) := by omega
   rw [hrr] at hrmn
   obtain ⟨cc, hcc⟩ : ∃ cc, 2 + rr = cc := ⟨_, rfl⟩
   have hcci : (2 : Int) + (rr : Int) = (cc : Int) := by omega
   have hwc : IntKind.i64.wrap (cc : Int) = (cc : Int) := by rw [IntKind.wrap_i64]; omega
   have hcl : cc < S.length := by have := H2n.out; omega
   obtain ⟨s, hs⟩ : ∃ s, S[cc]? = some s := ⟨_, List.getElem?_eq_getElem hcl⟩
   have HGD := hide (show S.getD (2 + sq % n) [] = s by rw [hrr, hcc]; exact getD_of hs)
   have Hls := hide (show s.length = 64 from HFull.out s (List.mem_of_getElem? hs))
   have Hs := hide hs
   have Hcl := hide hcl
   obtain ⟨r', hr'⟩ : ∃ r', n - k = r' + 1 := ⟨n - k - 1, by omega⟩
   have hZF' := hZF.out
   rw [hr', hsq] at hZF'
   have HZF := hide hZF'
   have HR' := hide (show n - (k + 1) = r' by omega)
   have HSQ := hide hsq
   obtain ⟨c3, c6, c1⟩ : wr.cell? ⟨p, 3, none⟩ = some (.int .i64 (f : Int)) ∧ (∃ A c, wr.cell? ⟨p, 6, none⟩ = some (.slice A k c)) ∧ True := by
    obtain ⟨G1, ⟨D1, J1, X1, Y1, h1, h2, h3, h4⟩, _, _⟩ := hp.out
    obtain ⟨A, c, B, d, rfl, rfl, c0, c1, c2, c3, c4, c5, c6, c7, fz⟩ := h2.cells
    rw [hF.out] at c6
    exact ⟨c3, ⟨A, c, c6⟩, trivial⟩
   obtain ⟨A0, cc0, c6⟩ := c6
   clear hs hcl hcc hlt hr' hsq hrr hZF hZF' hk c1
   go_wp2_with fail
   go_quiet (fail)
   clear c3 c6
   have hbq : Below wr.heap.size wr (wr.drewN nq) := ⟨rfl, rfl, rfl, Nat.le_refl _, fun _ _ => rfl⟩
   have HP1 := hide (hp.out.below hbq)
   clear hbq hp
   have hlen' := hlen
   generalize wr.drewN nq = w1 at *
   obtain ⟨G1, ⟨D1, J1, X1, Y1, h1, h2, h3, h4⟩, hg1, hk1⟩ := HP1.out
   have HRD := hide (RRead_any w1 D1 q cc S [] s h1 Hs.out Hcl.out (by simp))
   clear h1 h2 h3 h4 hg1 hk1
   go_wp2_with fail
   refine HRD.out.mono ?_
   rintro e w' ⟨rfl, rfl⟩
   clear hrmn hcci hwc hz hz2 hz3 HRD
   go_wp2_with fail
   refine (rDecode_une s w1 Hls.out).mono ?_
   rintro e w3 ⟨hres, hb3⟩
   have HP3 := hide (HP1.out.below hb3)
   clear hb3 HP1
   rcases hres with ⟨x, hux, rfl⟩ | ⟨hux, er, her, rfl⟩
   ·have Hux := hide hux
    obtain ⟨xg, xs, xk, xb, xd, xm⟩ := x
    have hbx0 := Bx.new w3 (xs : Int) xk xb xd xm
    have HP4 := hide (HP3.out.below (box_below w3 (xs : Int) xk xb xd xm))
    have e4 : (w3.alloc (.cells #[.int .i64 (xs : Int), .int .i64 xk, .int .i64 xb, .string xd, .int .i64 xm] 100)).cell? ⟨p, 4, none⟩ = some (.int .i64 (g : Int)) := by obtain ⟨G, ⟨D, J, X, Y, h1, h2, h3, h4⟩, _, _⟩ := HP4.out; exact h2.heads.2.2.2.1
    have HPL : Hid (∀ i, (∃ G J X Y D, RDsk w3 D q S [] ∧ RjAt w3 J p q n ⟨t, f, g, l⟩ F F X Y ∧ G = J ∧ J i) → i < w3.heap.size) := fun i hi => by
     obtain ⟨G, J, X, Y, D, _, h2, _, hJ⟩ := hi
     exact h2.lt i hJ
    clear hux
    by_cases hq : xs = sq
    ·subst hq
     by_cases hg1 : xg < lt
     ·have hgi : (xg : Int) < (lt : Int) := by omega
      have HE := hide (show Z = F by rw [HZF.out, load_no (by rw [HGD.out]; exact Hux.out) (by intro h; have := h.2.1; have e : (⟨xg, xs, xk, xb, xd, xm⟩ : Ent).g = xg := rfl; omega), List.append_nil])
      have HP := HP4
      clear hg1 HP3 HP4 HPL
      obtain ⟨G9, hj9, hg9, hk9⟩ := HP.out
      have HPS := hide (RjPost.of hg9 hk9 (Rj.set (i := 4) (v := .int .i64 ((g : Int) + 1)) (h' := ⟨t, f, g + 1, l⟩) hj9 (fun X Y => rfl)))
      obtain ⟨D9, J9, X9, Y9, _, k2, _, _⟩ := hj9
      have e4 : (w3.alloc (.cells #[.int .i64 (xs : Int), .int .i64 xk, .int .i64 xb, .string xd, .int .i64 xm] 100)).cell? ⟨p, 4, none⟩ = some (.int .i64 (g : Int)) := k2.heads.2.2.2.1
      have f4 : (w3.alloc (.cells #[.int .i64 (xs : Int), .int .i64 xk, .int .i64 xb, .string xd, .int .i64 xm] 100)).frozen? ⟨p, 4, none⟩ = false := blk_free k2.box 4
      clear k2 hg9 hk9 HP
      go_wp2_with fail
      generalize World.setCell _ _ _ = w8 at *
      obtain ⟨G8, hj8, hg8, hk8⟩ := HPS.out
      have hFE := HE.out
      refine (RSave_any w8 G8 p q S [] n ⟨t, f, g + 1, l⟩ F hj8 (by show t ≤ _; omega) (by have := H2n.out; omega) (by simp)).mono ?_
      rintro e w9 ⟨rfl, hp9⟩
      have HP9 := hide (RjPost.of hg8 hk8 hp9)
      clear hj8 hg8 hk8 hp9 HPS e4 f4
      go_wp2
      go_ret2
      refine ⟨p, rfl, ?_⟩
      show RjPost w D p q (all S ([] ++ [((t + 1) % 2, hsec ⟨t + 1, f, g + 1, l⟩)])) [] n ⟨t + 1, f, g + 1, l⟩ _ _
      have hZE := HZE.out
      rw [show load S n g n f l = F by rw [hZE, hFE]]
      exact HP9.out
     ·have hgi : ¬ ((xg : Int) < (lt : Int)) := by omega
      by_cases hg2 : g < xg
      ·have hgj : (g : Int) < (xg : Int) := by omega
       have HE := hide (show Z = F by rw [HZF.out, load_no (by rw [HGD.out]; exact Hux.out) (by intro h; have := h.2.2; have e : (⟨xg, xs, xk, xb, xd, xm⟩ : Ent).g = xg := rfl; omega), List.append_nil])
       have HP := HP4
       clear hg1 hg2 HP3 HP4 HPL
       obtain ⟨G9, hj9, hg9, hk9⟩ := HP.out
       have HPS := hide (RjPost.of hg9 hk9 (Rj.set (i := 4) (v := .int .i64 ((g : Int) + 1)) (h' := ⟨t, f, g + 1, l⟩) hj9 (fun X Y => rfl)))
       obtain ⟨D9, J9, X9, Y9, _, k2, _, _⟩ := hj9
       have e4 : (w3.alloc (.cells #[.int .i64 (xs : Int), .int .i64 xk, .int .i64 xb, .string xd, .int .i64 xm] 100)).cell? ⟨p, 4, none⟩ = some (.int .i64 (g : Int)) := k2.heads.2.2.2.1
       have f4 : (w3.alloc (.cells #[.int .i64 (xs : Int), .int .i64 xk, .int .i64 xb, .string xd, .int .i64 xm] 100)).frozen? ⟨p, 4, none⟩ = false := blk_free k2.box 4
       clear k2 hg9 hk9 HP
       go_wp2_with fail
       generalize World.setCell _ _ _ = w8 at *
       obtain ⟨G8, hj8, hg8, hk8⟩ := HPS.out
       have hFE := HE.out
       refine (RSave_any w8 G8 p q S [] n ⟨t, f, g + 1, l⟩ F hj8 (by show t ≤ _; omega) (by have := H2n.out; omega) (by simp)).mono ?_
       rintro e w9 ⟨rfl, hp9⟩
       have HP9 := hide (RjPost.of hg8 hk8 hp9)
       clear hj8 hg8 hk8 hp9 HPS e4 f4
       go_wp2
       go_ret2
       refine ⟨p, rfl, ?_⟩
       show RjPost w D p q (all S ([] ++ [((t + 1) % 2, hsec ⟨t + 1, f, g + 1, l⟩)])) [] n ⟨t + 1, f, g + 1, l⟩ _ _
       have hZE := HZE.out
       rw [show load S n g n f l = F by rw [hZE, hFE]]
       exact HP9.out
      ·have hgj : ¬ ((g : Int) < (xg : Int)) := by omega
       have HE := hide (show Z = (F ++ [⟨xg, xs, xk, xb, xd, xm⟩]) ++ load S n g r' (xs + 1) xg by rw [HZF.out, load_yes (e := ⟨xg, xs, xk, xb, xd, xm⟩) (by rw [HGD.out]; exact Hux.out) ⟨rfl, by show lt ≤ xg; omega, by show xg ≤ g; omega⟩, List.append_assoc]; rfl)
       clear hg1 hg2 HPL
       obtain ⟨bx, hbx⟩ : ∃ bx, bx = w3.heap.size := ⟨_, rfl⟩
       obtain ⟨w4, hw4⟩ : ∃ w4, w4 = w3.alloc (.cells #[.int .i64 (xs : Int), .int .i64 xk, .int .i64 xb, .string xd, .int .i64 xm] 100) := ⟨_, rfl⟩
       obtain ⟨G3, ⟨D3, J3, X3, Y3, h1, h2, h3, h4⟩, hg3, hk3⟩ := HP3.out
       have hbb := box_below w3 (xs : Int) xk xb xd xm
       have hNJ : ¬ J3 bx := fun hJ => by have := h2.lt bx hJ; omega
       have h1' := h1.below hbb
       have h2' := h2.below hbb
       have hk3' := hk3.trans hg3 (Kept.of_below (G := G3) hbb)
       rw [← hw4] at h1' h2' hk3' hbx0
       rw [← hbx] at hbx0
       have HX4 := hide hbx0
       have HNJ := hide hNJ
       have H1 := hide h1'
       have H3 := hide h3
       have H4 := hide h4
       have HG4 := hide hg3
       have HK4 := hide hk3'
       obtain ⟨A, c, B, d, rfl, rfl, c0, c1, c2, c3, c4, c5, c6, c7, fz⟩ := h2'.cells
       have H2 := hide h2'
       rw [hF.out] at c6 H2
       have hbW : Below w4.heap.size w4 (w4.drew.alloc (.cells #[.int .i64 (xs : Int), .int .i64 xk, .int .i64 xb, .string xd, .int .i64 xm] 100)) := (Below.refl w4.heap.size w4).drew.alloc (Nat.le_refl _) _
       have HBW := hide hbW
       have HO : Hid (ORow (w4.drew.alloc (.cells #[.int .i64 (xs : Int), .int .i64 xk, .int .i64 xb, .string xd, .int .i64 xm] 100)) 100 5 (.slice A k c) k (rcels F)) := by
        have := h2'.rows
        rw [hF.out] at this
        exact this.same fun i hi => hbW.block i (this.lt i hi)
       have HN : Hid (∀ j u, (rcel ⟨xg, xs, xk, xb, xd, xm⟩)[j]? = some u → (w4.drew.alloc (.cells #[.int .i64 (xs : Int), .int .i64 xk, .int .i64 xb, .string xd, .int .i64 xm] 100)).cell? ((⟨w4.heap.size, 0, none⟩ : Addr).add j) = some u) := fun j u hu => by
        rw [Addr.add_mid, Nat.zero_add]
        show (w4.drew.alloc _).cell? ⟨w4.drew.heap.size, j, none⟩ = _
        rw [cell_of_row _ _ j _ _ _ (heap_alloc_new w4.drew _)]
        exact List.getElem?_toArray.trans hu
       have Hm1 := hide (show k + 1 ≤ maxLen by have := Hn.out; have := Hlt.out; unfold maxLen; omega)
       have Hm2 := hide (show (k + 1) * 48 ≤ 140737488355328 by have := Hn.out; have := Hlt.out; omega)
       have c6' : (w4.alloc (.cells #[.int .i64 (xs : Int), .int .i64 xk, .int .i64 xb, .string xd, .int .i64 xm] 100)).cell? ⟨p, 6, none⟩ = some (.slice A k c) := ((Below.refl w4.heap.size w4).alloc (Nat.le_refl _) _).cell (p := ⟨p, 6, none⟩) (h2'.lt p h2'.mine) |>.trans c6
       have hSa : w4.drew.cell? ⟨bx, 0, none⟩ = some (.int .i64 (xs : Int)) ∧ w4.drew.cell? ⟨bx, 1, none⟩ = some (.int .i64 xk) ∧ w4.drew.cell? ⟨bx, 2, none⟩ = some (.int .i64 xb) ∧ w4.drew.cell? ⟨bx, 3, none⟩ = some (.string xd) ∧ w4.drew.cell? ⟨bx, 4, none⟩ = some (.int .i64 xm) := ⟨HX4.out.c0, HX4.out.c1, HX4.out.c2, HX4.out.c3, HX4.out.c4⟩
       have hxb := HX4.out.below hbW
       have hSb : (w4.drew.alloc (.cells #[.int .i64 (xs : Int), .int .i64 xk, .int .i64 xb, .string xd, .int .i64 xm] 100)).cell? ⟨bx, 0, none⟩ = some (.int .i64 (xs : Int)) ∧ (w4.drew.alloc (.cells #[.int .i64 (xs : Int), .int .i64 xk, .int .i64 xb, .string xd, .int .i64 xm] 100)).cell? ⟨bx, 1, none⟩ = some (.int .i64 xk) ∧ (w4.drew.alloc (.cells #[.int .i64 (xs : Int), .int .i64 xk, .int .i64 xb, .string xd, .int .i64 xm] 100)).cell? ⟨bx, 2, none⟩ = some (.int .i64 xb) ∧ (w4.drew.alloc (.cells #[.int .i64 (xs : Int), .int .i64 xk, .int .i64 xb, .string xd, .int .i64 xm] 100)).cell? ⟨bx, 3, none⟩ = some (.string xd) ∧ (w4.drew.alloc (.cells #[.int .i64 (xs : Int), .int .i64 xk, .int .i64 xb, .string xd, .int .i64 xm] 100)).cell? ⟨bx, 4, none⟩ = some (.int .i64 xm) := ⟨hxb.c0, hxb.c1, hxb.c2, hxb.c3, hxb.c4⟩
       have x0 : w4.cell? ⟨bx, 0, none⟩ = some (.int .i64 (xs : Int)) := HX4.out.c0
       have Hbx := hide hbx
       have Hw4 := hide hw4
       clear h1 h2 h3 h4 h1' h2' hk3 hk3' hg3 hbb hNJ hbx0 hbW c0 c1 c2 c3 c4 c5 c7 fz hxb HP3 HP4
       go_wp2_with fail
       rw [← hw4, ← hbx]
       clear hw4 hbx e4 x0
       refine wp_region_held (S := (fun W => W.cell? ⟨bx, 0, none⟩ = some (.int .i64 (xs : Int)) ∧ W.cell? ⟨bx, 1, none⟩ = some (.int .i64 xk) ∧ W.cell? ⟨bx, 2, none⟩ = some (.int .i64 xb) ∧ W.cell? ⟨bx, 3, none⟩ = some (.string xd) ∧ W.cell? ⟨bx, 4, none⟩ = some (.int .i64 xm))) (by kernel_rfl) ?_
       change wpAnyH _ _ _ _ _ _ _ _ (World.drew _)
       refine wpAnyH_take (i := 0) (oi := ⟨some 180, _, _, _, _, _⟩) (v := ?_) rfl (by kernel_rfl) (by kernel_rfl) (by kernel_rfl) (fun _ _ _ h => h) (Or.inl ⟨by rfl, ?_⟩) hSa ?_
       rotate_left 1
       ·(intro w hSw; obtain ⟨hSw1, hSw2, hSw3, hSw4, hSw5⟩ := hSw; go_simp; try with_reducible rfl)
       simp only [Act.put, Pk.sl]
       refine wpAnyH_take (i := 1) (oi := ⟨some 181, _, _, _, _, _⟩) (v := ?_) rfl (by kernel_rfl) (by kernel_rfl) (by kernel_rfl) (fun _ _ _ h => h) (Or.inl ⟨by rfl, ?_⟩) hSa ?_
       rotate_left 1
       ·(intro w hSw; obtain ⟨hSw1, hSw2, hSw3, hSw4, hSw5⟩ := hSw; go_simp; try with_reducible rfl)
       simp only [Act.put, Pk.sl]
       refine wpAnyH_take (i := 2) (oi := ⟨some 182, _, _, _, _, _⟩) (v := ?_) rfl (by kernel_rfl) (by kernel_rfl) (by kernel_rfl) (fun _ _ _ h => h) (Or.inl ⟨by rfl, ?_⟩) hSa ?_
       rotate_left 1
       ·(intro w hSw; obtain ⟨hSw1, hSw2, hSw3, hSw4, hSw5⟩ := hSw; go_simp; try with_reducible rfl)
       simp only [Act.put, Pk.sl]
       refine wpAnyH_take (i := 3) (oi := ⟨some 183, _, _, _, _, _⟩) (v := ?_) rfl (by kernel_rfl) (by kernel_rfl) (by kernel_rfl) (fun _ _ _ h => h) (Or.inl ⟨by rfl, ?_⟩) hSa ?_
       rotate_left 1
       ·(intro w hSw; obtain ⟨hSw1, hSw2, hSw3, hSw4, hSw5⟩ := hSw; go_simp; try with_reducible rfl)
       simp only [Act.put, Pk.sl]
       refine wpAnyH_take (i := 5) (oi := ⟨some 185, _, _, _, _, _⟩) (v := ?_) rfl (by kernel_rfl) (by kernel_rfl) (by kernel_rfl) (fun _ _ _ h => h) (Or.inl ⟨by rfl, ?_⟩) hSa ?_
       rotate_left 1
       ·(intro w hSw; obtain ⟨hSw1, hSw2, hSw3, hSw4, hSw5⟩ := hSw; go_simp; try with_reducible rfl)
       simp only [Act.put, Pk.sl]
       refine wpAnyH_ready (rs := [4, 6]) (by kernel_rfl) (by simp) ?_
       refine AllReadyH.cons (o := ⟨some 184, _, _, _, _, _⟩) rfl (fun K hK => ?_) (AllReadyH.cons (o := ⟨some 186, _, _, _, _, _⟩) rfl (fun K hK => ?_) AllReadyH.nil)
       ·go_simp
        refine hK.out _ _ (by first | exact hSa | exact hSb) (fun hHeld => ?_)
        clear hK K
        clear hHeld
        refine wpAnyH_ready (rs := [6]) (by kernel_rfl) (by simp) ?_
        refine AllReadyH.cons (o := ⟨some 186, _, _, _, _, _⟩) rfl (fun K hK => ?_) AllReadyH.nil
        go_simp
        refine hK.out _ _ hSb (fun hHeld => ?_)
        clear hK K
        clear hHeld
        refine wpAnyH_ready (rs := [7]) (by kernel_rfl) (by simp) ?_
        refine AllReadyH.cons (o := ⟨some 187, _, _, _, _, _⟩) rfl (fun K hK => ?_) AllReadyH.nil
        refine step_append_o _ rfl (.tmp 184) (.tmp 186) 55 rfl 100 i0 _ 5 48 Tryz.underlying55 hi0 hz0 Hz1.out Hz2.out rfl (.slice A k c) k (rcels F) rfl HO.out ⟨w4.heap.size, 0, none⟩ 1 1 (rcel ⟨xg, xs, xk, xb, xd, xm⟩) rfl rfl HN.out (rcel_one _) (by decide) Hm1.out Hm2.out _ rfl ?_
        intro g2 o2 cap w6 hown6 hgr6 hor6 hlt6
        have hP := H2.out.appendedL (y := ⟨xg, xs, xk, xb, xd, xm⟩) HBW.out hgr6 hown6 hor6 hF.out
        have HPA := hide hP.1
        have HPK := hide hP.2
        have hc6 : w6.cell? ⟨p, 6, none⟩ = some (.slice A k c) := by simp [World.cell?, H2.out.box6 HBW.out (Or.inl rfl) hgr6]
        have hf6 : w6.frozen? ⟨p, 6, none⟩ = false := by simp [World.frozen?, H2.out.box6 HBW.out (Or.inl rfl) hgr6]
        have hbx6 : Bx w6 bx (xs : Int) xk xb xd xm := (hgr6.block _ (Nat.lt_of_lt_of_le HX4.out.lt HBW.out.size) (fun e => HNJ.out ((H2.out.row _ e.symm).1))).trans ((HBW.out.block _ HX4.out.lt).trans HX4.out)
        have hbx7 : Bx (w6.setCell ⟨p, 6, none⟩ (.slice (some ⟨g2, o2, none⟩) (k + 1) cap)) bx (xs : Int) xk xb xd xm := (heap_setCell_other _ _ _ _ (fun e => HNJ.out (by have e2 : bx = p := e; rw [e2]; exact H2.out.mine))).trans hbx6
        have hSc : w6.cell? ⟨bx, 0, none⟩ = some (.int .i64 (xs : Int)) ∧ w6.cell? ⟨bx, 1, none⟩ = some (.int .i64 xk) ∧ w6.cell? ⟨bx, 2, none⟩ = some (.int .i64 xb) ∧ w6.cell? ⟨bx, 3, none⟩ = some (.string xd) ∧ w6.cell? ⟨bx, 4, none⟩ = some (.int .i64 xm) := ⟨hbx6.c0, hbx6.c1, hbx6.c2, hbx6.c3, hbx6.c4⟩
        have HX7 := hide hbx7
        clear hP hown6 hgr6 hor6 hlt6 hbx6 hbx7
        refine hK.out _ _ hSc (fun hHeld => ?_)
        clear hK K
        clear hHeld
        refine wpAnyH_take (i := 8) (oi := ⟨some 188, _, _, _, _, _⟩) (v := ?_) rfl (by kernel_rfl) (by kernel_rfl) (by kernel_rfl) (fun _ _ _ h => h) (Or.inl ⟨by rfl, ?_⟩) hSc ?_
        rotate_left 1
        ·(intro w hSw; obtain ⟨hSw1, hSw2, hSw3, hSw4, hSw5⟩ := hSw; go_simp; try with_reducible rfl)
        simp only [Act.put, Pk.sl]
        refine wpAnyH_take (i := 9) (oi := ⟨some 189, _, _, _, _, _⟩) (v := ?_) rfl (by kernel_rfl) (by kernel_rfl) (by kernel_rfl) (fun _ _ _ h => h) (Or.inl ⟨by rfl, ?_⟩) hSc ?_
        rotate_left 1
        ·(intro w hSw; obtain ⟨hSw1, hSw2, hSw3, hSw4, hSw5⟩ := hSw; go_simp; try with_reducible rfl)
        simp only [Act.put, Pk.sl]
        refine wpAnyH_ready (rs := [10]) (by kernel_rfl) (by simp) ?_
        refine AllReadyH.cons (o := ⟨none, _, _, _, _, _⟩) rfl (fun K hK => ?_) AllReadyH.nil
        go_simp
        generalize w6.setCell _ _ = w7 at *
        have hSd : w7.cell? ⟨bx, 0, none⟩ = some (.int .i64 (xs : Int)) ∧ w7.cell? ⟨bx, 1, none⟩ = some (.int .i64 xk) ∧ w7.cell? ⟨bx, 2, none⟩ = some (.int .i64 xb) ∧ w7.cell? ⟨bx, 3, none⟩ = some (.string xd) ∧ w7.cell? ⟨bx, 4, none⟩ = some (.int .i64 xm) := ⟨HX7.out.c0, HX7.out.c1, HX7.out.c2, HX7.out.c3, HX7.out.c4⟩
        refine hK.out _ _ hSd (fun hHeld => ?_)
        clear hK K
        clear hHeld
        refine wpAnyH_done (by kernel_rfl) ?_ _
        clear hSa hSb hSc hSd hc6 hf6 c6 c6'
        obtain ⟨A7, c7', B7, e8, e6, e7, k0, k1, k2, k3, k4, k5, k6, k7, fz⟩ := HPA.out.cells
        rw [hF.out] at k7 e7
        obtain ⟨rfl, rfl⟩ : B = B7 ∧ d = e8 := by simpa using e7
        clear e6 e7
        have hbV : Below w7.heap.size w7 (w7.alloc (.cells #[.int .i64 (xg : Int)] 3)) := (Below.refl w7.heap.size w7).alloc (Nat.le_refl _) _
        have HBV := hide hbV
        have HO9 : Hid (ORow (w7.alloc (.cells #[.int .i64 (xg : Int)] 3)) 3 1 (.slice B k d) k (gcels F)) := by
         have := HPA.out.gens
         rw [hF.out] at this
         exact this.same fun i hi => hbV.block i (this.lt i hi)
        have HN9 : Hid (∀ j u, ([.int .i64 (xg : Int)] : List Value)[j]? = some u → (w7.alloc (.cells #[.int .i64 (xg : Int)] 3)).cell? ((⟨w7.heap.size, 0, none⟩ : Addr).add j) = some u) := fun j u hu => by
         rw [Addr.add_mid, Nat.zero_add, cell_of_row _ _ j _ _ _ (heap_alloc_new w7 _)]
         exact List.getElem?_toArray.trans hu
        have Hm3 := hide (show (k + 1) * 8 ≤ 140737488355328 by have := Hn.out; have := Hlt.out; omega)
        have f7 := fz 7
        clear k0 k1 k2 k3 k4 k5 k6 fz hbV
        go_wp2_with (at_builtin; go_must (refine wpList_append_o _ rfl (.tmp 194) (.tmp 196) 57 rfl 3 j0 _ 1 8 Tryz.underlying57 hj0 hy0 Hy1.out Hy2.out rfl (.slice B k d) k (gcels F) rfl HO9.out ⟨w7.heap.size, 0, none⟩ 1 1 [.int .i64 (xg : Int)] rfl rfl HN9.out (fun u hu => by simp at hu; subst hu; rfl) (by decide) Hm1.out Hm3.out _ rfl ?_))
        intro g3 o3 cap3 w8 hown8 hgr8 hor8 hlt8
        have hP := HPA.out.appendedG (y := ⟨xg, xs, xk, xb, xd, xm⟩) HBV.out hgr8 hown8 (hor8.imp id (fun e => by rw [e]; simp)) hF.out
        have HQA := hide hP.1
        have HQK := hide hP.2
        have hc7 : w8.cell? ⟨p, 7, none⟩ = some (.slice B k d) := by simp [World.cell?, HPA.out.box6 HBV.out (Or.inr rfl) hgr8]
        have hf7 : w8.frozen? ⟨p, 7, none⟩ = false := by simp [World.frozen?, HPA.out.box6 HBV.out (Or.inr rfl) hgr8]
        clear hP hown8 hgr8 hor8 hlt8 k7 f7
        go_wp2_with fail
        generalize w8.setCell _ _ = w9 at *
        have HPZ := hide (RjPost.of HG4.out HK4.out (Rj.mine (w' := w9) H1.out H3.out H4.out (fun i hi => by
         rcases hi with hi | hi
         ·rcases hi with hi | hi
          ·exact Or.inl hi
          ·exact Or.inr hi.1
         ·exact Or.inr (Nat.le_trans HPK.out.size hi.1)) (HPK.out.trans (fun i hi => by
          rcases hi with hi | hi
          ·exact Or.inl hi
          ·exact Or.inr hi.1) HQK.out) HQA.out))
        clear hc7 hf7
        go_roundw
        case rel => exact ⟨k + 1, xg, F ++ [⟨xg, xs, xk, xb, xd, xm⟩], Hlt.out, rfl, hide (by rw [List.length_append, hF.out]; rfl), hide (by rw [HR'.out, show f + (k + 1) = xs + 1 by have := HSQ.out; omega]; exact HE.out), HPZ⟩
        case measure =>
         have e1 := HPZ.out.len
         have e2 := hlen.out
         have := Hlt.out
         rw [e1, e2, List.length_append, hF.out]
         show n - (k + 1) < n - k
         omega
       ·go_simp
        refine hK.out _ _ hSb (fun hHeld => ?_)
        clear hK K
        clear hHeld
        refine wpAnyH_ready (rs := [4]) (by kernel_rfl) (by simp) ?_
        refine AllReadyH.cons (o := ⟨some 184, _, _, _, _, _⟩) rfl (fun K hK => ?_) AllReadyH.nil
        go_simp
        refine hK.out _ _ (by first | exact hSa | exact hSb) (fun hHeld => ?_)
        clear hK K
        clear hHeld
        refine wpAnyH_ready (rs := [7]) (by kernel_rfl) (by simp) ?_
        refine AllReadyH.cons (o := ⟨some 187, _, _, _, _, _⟩) rfl (fun K hK => ?_) AllReadyH.nil
        refine step_append_o _ rfl (.tmp 184) (.tmp 186) 55 rfl 100 i0 _ 5 48 Tryz.underlying55 hi0 hz0 Hz1.out Hz2.out rfl (.slice A k c) k (rcels F) rfl HO.out ⟨w4.heap.size, 0, none⟩ 1 1 (rcel ⟨xg, xs, xk, xb, xd, xm⟩) rfl rfl HN.out (rcel_one _) (by decide) Hm1.out Hm2.out _ rfl ?_
        intro g2 o2 cap w6 hown6 hgr6 hor6 hlt6
        have hP := H2.out.appendedL (y := ⟨xg, xs, xk, xb, xd, xm⟩) HBW.out hgr6 hown6 hor6 hF.out
        have HPA := hide hP.1
        have HPK := hide hP.2
        have hc6 : w6.cell? ⟨p, 6, none⟩ = some (.slice A k c) := by simp [World.cell?, H2.out.box6 HBW.out (Or.inl rfl) hgr6]
        have hf6 : w6.frozen? ⟨p, 6, none⟩ = false := by simp [World.frozen?, H2.out.box6 HBW.out (Or.inl rfl) hgr6]
        have hbx6 : Bx w6 bx (xs : Int) xk xb xd xm := (hgr6.block _ (Nat.lt_of_lt_of_le HX4.out.lt HBW.out.size) (fun e => HNJ.out ((H2.out.row _ e.symm).1))).trans ((HBW.out.block _ HX4.out.lt).trans HX4.out)
        have hbx7 : Bx (w6.setCell ⟨p, 6, none⟩ (.slice (some ⟨g2, o2, none⟩) (k + 1) cap)) bx (xs : Int) xk xb xd xm := (heap_setCell_other _ _ _ _ (fun e => HNJ.out (by have e2 : bx = p := e; rw [e2]; exact H2.out.mine))).trans hbx6
        have hSc : w6.cell? ⟨bx, 0, none⟩ = some (.int .i64 (xs : Int)) ∧ w6.cell? ⟨bx, 1, none⟩ = some (.int .i64 xk) ∧ w6.cell? ⟨bx, 2, none⟩ = some (.int .i64 xb) ∧ w6.cell? ⟨bx, 3, none⟩ = some (.string xd) ∧ w6.cell? ⟨bx, 4, none⟩ = some (.int .i64 xm) := ⟨hbx6.c0, hbx6.c1, hbx6.c2, hbx6.c3, hbx6.c4⟩
        have HX7 := hide hbx7
        clear hP hown6 hgr6 hor6 hlt6 hbx6 hbx7
        refine hK.out _ _ hSc (fun hHeld => ?_)
        clear hK K
        clear hHeld
        refine wpAnyH_take (i := 8) (oi := ⟨some 188, _, _, _, _, _⟩) (v := ?_) rfl (by kernel_rfl) (by kernel_rfl) (by kernel_rfl) (fun _ _ _ h => h) (Or.inl ⟨by rfl, ?_⟩) hSc ?_
        rotate_left 1
        ·(intro w hSw; obtain ⟨hSw1, hSw2, hSw3, hSw4, hSw5⟩ := hSw; go_simp; try with_reducible rfl)
        simp only [Act.put, Pk.sl]
        refine wpAnyH_take (i := 9) (oi := ⟨some 189, _, _, _, _, _⟩) (v := ?_) rfl (by kernel_rfl) (by kernel_rfl) (by kernel_rfl) (fun _ _ _ h => h) (Or.inl ⟨by rfl, ?_⟩) hSc ?_
        rotate_left 1
        ·(intro w hSw; obtain ⟨hSw1, hSw2, hSw3, hSw4, hSw5⟩ := hSw; go_simp; try with_reducible rfl)
        simp only [Act.put, Pk.sl]
        refine wpAnyH_ready (rs := [10]) (by kernel_rfl) (by simp) ?_
        refine AllReadyH.cons (o := ⟨none, _, _, _, _, _⟩) rfl (fun K hK => ?_) AllReadyH.nil
        go_simp
        generalize w6.setCell _ _ = w7 at *
        have hSd : w7.cell? ⟨bx, 0, none⟩ = some (.int .i64 (xs : Int)) ∧ w7.cell? ⟨bx, 1, none⟩ = some (.int .i64 xk) ∧ w7.cell? ⟨bx, 2, none⟩ = some (.int .i64 xb) ∧ w7.cell? ⟨bx, 3, none⟩ = some (.string xd) ∧ w7.cell? ⟨bx, 4, none⟩ = some (.int .i64 xm) := ⟨HX7.out.c0, HX7.out.c1, HX7.out.c2, HX7.out.c3, HX7.out.c4⟩
        refine hK.out _ _ hSd (fun hHeld => ?_)
        clear hK K
        clear hHeld
        refine wpAnyH_done (by kernel_rfl) ?_ _
        clear hSa hSb hSc hSd hc6 hf6 c6 c6'
        obtain ⟨A7, c7', B7, e8, e6, e7, k0, k1, k2, k3, k4, k5, k6, k7, fz⟩ := HPA.out.cells
        rw [hF.out] at k7 e7
        obtain ⟨rfl, rfl⟩ : B = B7 ∧ d = e8 := by simpa using e7
        clear e6 e7
        have hbV : Below w7.heap.size w7 (w7.alloc (.cells #[.int .i64 (xg : Int)] 3)) := (Below.refl w7.heap.size w7).alloc (Nat.le_refl _) _
        have HBV := hide hbV
        have HO9 : Hid (ORow (w7.alloc (.cells #[.int .i64 (xg : Int)] 3)) 3 1 (.slice B k d) k (gcels F)) := by
         have := HPA.out.gens
         rw [hF.out] at this
         exact this.same fun i hi => hbV.block i (this.lt i hi)
        have HN9 : Hid (∀ j u, ([.int .i64 (xg : Int)] : List Value)[j]? = some u → (w7.alloc (.cells #[.int .i64 (xg : Int)] 3)).cell? ((⟨w7.heap.size, 0, none⟩ : Addr).add j) = some u) := fun j u hu => by
         rw [Addr.add_mid, Nat.zero_add, cell_of_row _ _ j _ _ _ (heap_alloc_new w7 _)]
         exact List.getElem?_toArray.trans hu
        have Hm3 := hide (show (k + 1) * 8 ≤ 140737488355328 by have := Hn.out; have := Hlt.out; omega)
        have f7 := fz 7
        clear k0 k1 k2 k3 k4 k5 k6 fz hbV
        go_wp2_with (at_builtin; go_must (refine wpList_append_o _ rfl (.tmp 194) (.tmp 196) 57 rfl 3 j0 _ 1 8 Tryz.underlying57 hj0 hy0 Hy1.out Hy2.out rfl (.slice B k d) k (gcels F) rfl HO9.out ⟨w7.heap.size, 0, none⟩ 1 1 [.int .i64 (xg : Int)] rfl rfl HN9.out (fun u hu => by simp at hu; subst hu; rfl) (by decide) Hm1.out Hm3.out _ rfl ?_))
        intro g3 o3 cap3 w8 hown8 hgr8 hor8 hlt8
        have hP := HPA.out.appendedG (y := ⟨xg, xs, xk, xb, xd, xm⟩) HBV.out hgr8 hown8 (hor8.imp id (fun e => by rw [e]; simp)) hF.out
        have HQA := hide hP.1
        have HQK := hide hP.2
        have hc7 : w8.cell? ⟨p, 7, none⟩ = some (.slice B k d) := by simp [World.cell?, HPA.out.box6 HBV.out (Or.inr rfl) hgr8]
        have hf7 : w8.frozen? ⟨p, 7, none⟩ = false := by simp [World.frozen?, HPA.out.box6 HBV.out (Or.inr rfl) hgr8]
        clear hP hown8 hgr8 hor8 hlt8 k7 f7
        go_wp2_with fail
        generalize w8.setCell _ _ = w9 at *
        have HPZ := hide (RjPost.of HG4.out HK4.out (Rj.mine (w' := w9) H1.out H3.out H4.out (fun i hi => by
         rcases hi with hi | hi
         ·rcases hi with hi | hi
          ·exact Or.inl hi
          ·exact Or.inr hi.1
         ·exact Or.inr (Nat.le_trans HPK.out.size hi.1)) (HPK.out.trans (fun i hi => by
          rcases hi with hi | hi
          ·exact Or.inl hi
          ·exact Or.inr hi.1) HQK.out) HQA.out))
        clear hc7 hf7
        go_roundw
        case rel => exact ⟨k + 1, xg, F ++ [⟨xg, xs, xk, xb, xd, xm⟩], Hlt.out, rfl, hide (by rw [List.length_append, hF.out]; rfl), hide (by rw [HR'.out, show f + (k + 1) = xs + 1 by have := HSQ.out; omega]; exact HE.out), HPZ⟩
        case measure =>
         have e1 := HPZ.out.len
         have e2 := hlen.out
         have := Hlt.out
         rw [e1, e2, List.length_append, hF.out]
         show n - (k + 1) < n - k
         omega
    ·have hq2 : ((xs : Int) != (sq : Int)) = true := by simp; omega
     have hq3 : ((xs : Int) == (sq : Int)) = false := by simp; omega
     have HE := hide (show Z = F by rw [HZF.out, load_no (by rw [HGD.out]; exact Hux.out) (by intro h; exact hq h.1), List.append_nil])
     have HP := HP4
     clear hq HP3 HP4 HPL
     obtain ⟨G9, hj9, hg9, hk9⟩ := HP.out
     have HPS := hide (RjPost.of hg9 hk9 (Rj.set (i := 4) (v := .int .i64 ((g : Int) + 1)) (h' := ⟨t, f, g + 1, l⟩) hj9 (fun X Y => rfl)))
     obtain ⟨D9, J9, X9, Y9, _, k2, _, _⟩ := hj9
     have e4 : (w3.alloc (.cells #[.int .i64 (xs : Int), .int .i64 xk, .int .i64 xb, .string xd, .int .i64 xm] 100)).cell? ⟨p, 4, none⟩ = some (.int .i64 (g : Int)) := k2.heads.2.2.2.1
     have f4 : (w3.alloc (.cells #[.int .i64 (xs : Int), .int .i64 xk, .int .i64 xb, .string xd, .int .i64 xm] 100)).frozen? ⟨p, 4, none⟩ = false := blk_free k2.box 4
     clear k2 hg9 hk9 HP
     go_wp2_with fail
     generalize World.setCell _ _ _ = w8 at *
     obtain ⟨G8, hj8, hg8, hk8⟩ := HPS.out
     have hFE := HE.out
     refine (RSave_any w8 G8 p q S [] n ⟨t, f, g + 1, l⟩ F hj8 (by show t ≤ _; omega) (by have := H2n.out; omega) (by simp)).mono ?_
     rintro e w9 ⟨rfl, hp9⟩
     have HP9 := hide (RjPost.of hg8 hk8 hp9)
     clear hj8 hg8 hk8 hp9 HPS e4 f4
     go_wp2
     go_ret2
     refine ⟨p, rfl, ?_⟩
     show RjPost w D p q (all S ([] ++ [((t + 1) % 2, hsec ⟨t + 1, f, g + 1, l⟩)])) [] n ⟨t + 1, f, g + 1, l⟩ _ _
     have hZE := HZE.out
     rw [show load S n g n f l = F by rw [hZE, hFE]]
     exact HP9.out
   ·have HE := hide (show Z = F by rw [HZF.out, load_nil (by rw [HGD.out]; exact hux), List.append_nil])
    have HP := hide (HP3.out.below (box_below w3 0 0 0 ⟨#[]⟩ 0))
    clear hux HP3
    obtain ⟨G9, hj9, hg9, hk9⟩ := HP.out
    have HPS := hide (RjPost.of hg9 hk9 (Rj.set (i := 4) (v := .int .i64 ((g : Int) + 1)) (h' := ⟨t, f, g + 1, l⟩) hj9 (fun X Y => rfl)))
    obtain ⟨D9, J9, X9, Y9, _, k2, _, _⟩ := hj9
    have e4 : (w3.alloc (.cells #[.int .i64 0, .int .i64 0, .int .i64 0, .string ⟨#[]⟩, .int .i64 0] 100)).cell? ⟨p, 4, none⟩ = some (.int .i64 (g : Int)) := k2.heads.2.2.2.1
    have f4 : (w3.alloc (.cells #[.int .i64 0, .int .i64 0, .int .i64 0, .string ⟨#[]⟩, .int .i64 0] 100)).frozen? ⟨p, 4, none⟩ = false := blk_free k2.box 4
    clear k2 hg9 hk9 HP
    go_wp2_with fail
    generalize World.setCell _ _ _ = w8 at *
    obtain ⟨G8, hj8, hg8, hk8⟩ := HPS.out
    have hFE := HE.out
    refine (RSave_any w8 G8 p q S [] n ⟨t, f, g + 1, l⟩ F hj8 (by show t ≤ _; omega) (by have := H2n.out; omega) (by simp)).mono ?_
    rintro e w9 ⟨rfl, hp9⟩
    have HP9 := hide (RjPost.of hg8 hk8 hp9)
    clear hj8 hg8 hk8 hp9 HPS e4 f4
    go_wp2
    go_ret2
    refine ⟨p, rfl, ?_⟩
    show RjPost w D p q (all S ([] ++ [((t + 1) % 2, hsec ⟨t + 1, f, g + 1, l⟩)])) [] n ⟨t + 1, f, g + 1, l⟩ _ _
    have hZE := HZE.out
    rw [show load S n g n f l = F by rw [hZE, hFE]]
    exact HP9.out
  ·have hkn : ¬ ((k : Int) < (n : Int)) := by omega
   obtain ⟨A0, cc0, c6⟩ : ∃ A c, wr.cell? ⟨p, 6, none⟩ = some (.slice A k c) := by
    obtain ⟨G1, ⟨D1, J1, X1, Y1, h1, h2, h3, h4⟩, _, _⟩ := hp.out
    obtain ⟨A, c, B, d, rfl, rfl, c0, c1, c2, c3, c4, c5, c6, c7, fz⟩ := h2.cells
    rw [hF.out] at c6
    exact ⟨A, c, c6⟩
   have HE := hide (show Z = F by rw [hZF.out, show n - k = 0 by omega]; exact List.append_nil _)
   have HP := hp
   clear hge hk hZF hp
   obtain ⟨G9, hj9, hg9, hk9⟩ := HP.out
   have HPS := hide (RjPost.of hg9 hk9 (Rj.set (i := 4) (v := .int .i64 ((g : Int) + 1)) (h' := ⟨t, f, g + 1, l⟩) hj9 (fun X Y => rfl)))
   obtain ⟨D9, J9, X9, Y9, _, k2, _, _⟩ := hj9
   have e4 : wr.cell? ⟨p, 4, none⟩ = some (.int .i64 (g : Int)) := k2.heads.2.2.2.1
   have f4 : wr.frozen? ⟨p, 4, none⟩ = false := blk_free k2.box 4
   clear k2 hg9 hk9 HP
   go_wp2_with fail
   generalize World.setCell _ _ _ = w8 at *
   obtain ⟨G8, hj8, hg8, hk8⟩ := HPS.out
   have hFE := HE.out
   refine (RSave_any w8 G8 p q S [] n ⟨t, f, g + 1, l⟩ F hj8 (by show t ≤ _; omega) (by have := H2n.out; omega) (by simp)).mono ?_
   rintro e w9 ⟨rfl, hp9⟩
   have HP9 := hide (RjPost.of hg8 hk8 hp9)
   clear hj8 hg8 hk8 hp9 HPS e4 f4
   go_wp2
   go_ret2
   refine ⟨p, rfl, ?_⟩
   show RjPost w D p q (all S ([] ++ [((t + 1) % 2, hsec ⟨t + 1, f, g + 1, l⟩)])) [] n ⟨t + 1, f, g + 1, l⟩ _ _
   have hZE := HZE.out
   rw [show load S n g n f l = F by rw [hZE, hFE]]
   exact HP9.out
end Go.Proofs.YtapiogcoipeinaaGreatDoor.Jn
namespace Go.Proofs.YtapiogcoipeinaaGreatDoor.Jn
open Go.RowKit
open Pk hiding str str_data str_size str_of run_str head_str str_append
open Sm hiding run_str
open Fa Rc Dk
theorem ROpen_good (w : World) (D : Nat → Prop) (q : Nat) (S : List Sec) (n : Nat) (h' : Hd) (hd : RDsk w D q S []) (h1n : 1 ≤ n) (h512 : n ≤ 512) (h2n : 2 + n ≤ S.length) (hS : S.length ≤ 1000) (hFull : Full S) (hcur : cur S = some h') :
 Calls Tryz.prog 40 #[.pointer (some ⟨q, 0, none⟩), .int .i64 (n : Int)] w (ROpened w D q n S ⟨h'.t + 1, h'.f, h'.g + 1, h'.l⟩ (load S n h'.g n h'.f h'.l)) := by
 obtain ⟨b1, b2, b3, b4, _, _⟩ := cur_num hcur
 obtain ⟨s0, hs0⟩ : ∃ s, S[0]? = some s := ⟨_, List.getElem?_eq_getElem (by omega)⟩
 obtain ⟨s1, hs1⟩ : ∃ s, S[1]? = some s := ⟨_, List.getElem?_eq_getElem (by omega)⟩
 obtain ⟨t, f, g, l⟩ := h'
 unfold cur at hcur
 rw [getD_of hs0, getD_of hs1] at hcur
 cases hu0 : unh 0 s0 with
 | none =>
   cases hu1 : unh 1 s1 with
   | none =>
     rw [hu0, hu1] at hcur
     simp only at hcur
     split at hcur
     ·rename_i hz
      exact ROpen_N w D q S n hd h1n h512 h2n hS hFull s0 s1 hs0 hs1 t f g l b1 b2 b3 (Option.some.inj hcur).symm hu0 hu1 hz.1 hz.2
     ·cases hcur
   | some b =>
     rw [hu0, hu1] at hcur
     simp only at hcur
     cases hcur
     exact ROpen_B w D q S n hd h1n h512 h2n hS hFull s0 s1 hs0 hs1 t f g l b1 b2 b3 hu1 (-1) 0 0 0 (by rw [hu0]; rfl) (by omega) (by omega)
 | some a =>
   cases hu1 : unh 1 s1 with
   | none =>
     rw [hu0, hu1] at hcur
     simp only at hcur
     cases hcur
     exact ROpen_A w D q S n hd h1n h512 h2n hS hFull s0 s1 hs0 hs1 t f g l b1 b2 b3 hu0 (-1) 0 0 0 (by rw [hu1]; rfl) (by omega)
   | some b =>
     rw [hu0, hu1] at hcur
     simp only at hcur
     have p0 := (unh_spec hu0).1.par
     have p1 := (unh_spec hu1).1.par
     by_cases hab : a.t < b.t
     ·rw [if_pos hab] at hcur
      cases hcur
      exact ROpen_C w D q S n hd h1n h512 h2n hS hFull s0 s1 hs0 hs1 t f g l b1 b2 b3 hu1 a.t a.f a.g a.l (by rw [hu0]; rfl) (by have : a.t < t := hab; omega) (by omega)
     ·rw [if_neg hab] at hcur
      cases hcur
      exact ROpen_A w D q S n hd h1n h512 h2n hS hFull s0 s1 hs0 hs1 t f g l b1 b2 b3 hu0 b.t b.f b.g b.l (by rw [hu1]; rfl) (by have h1 : ¬ t < b.t := hab; have h2 : t % 2 = 0 := p0; omega)
end Go.Proofs.YtapiogcoipeinaaGreatDoor.Jn
namespace Go.Proofs.YtapiogcoipeinaaGreatDoor.Jn
open Go.RowKit
open Pk hiding str str_data str_size str_of run_str head_str str_append
open Sm hiding run_str
open Fa Rc Dk
def ARow (w : World) (A : Option Addr) (E : List Ent) : Prop := E ≠ [] → ∃ g o, A = some ⟨g, o, none⟩ ∧ g < w.heap.size ∧ ∀ j u, (rcels E)[j]? = some u → w.cell? ⟨g, o + j, none⟩ = some u
section
variable {w w' : World} {A : Option Addr} {E : List Ent}
theorem ARow.below (h : ARow w A E) (hb : Below w.heap.size w w') : ARow w' A E := fun hne => by
 obtain ⟨g, o, e, hl, hr⟩ := h hne
 exact ⟨g, o, e, Nat.lt_of_lt_of_le hl hb.size, fun j u hu => (hb.cell (p := ⟨g, o + j, none⟩) hl).trans (hr j u hu)⟩
theorem ARow.get (h : ARow w A E) {k : Nat} {x : Ent} (hx : E[k]? = some x) : ∃ g o, A = some ⟨g, o, none⟩ ∧ g < w.heap.size ∧ w.cell? ⟨g, o + k * 5, none⟩ = some (.int .i64 (x.s : Int)) ∧ w.cell? ⟨g, o + k * 5 + 1, none⟩ = some (.int .i64 x.k) ∧ w.cell? ⟨g, o + k * 5 + 2, none⟩ = some (.int .i64 x.b) ∧ w.cell? ⟨g, o + k * 5 + 3, none⟩ = some (.string x.d) ∧ w.cell? ⟨g, o + k * 5 + 4, none⟩ = some (.int .i64 x.m) := by
 obtain ⟨g, o, e, hl, hr⟩ := h (by rintro rfl; simp at hx)
 have hp : ∀ i u, i < 5 → (rcel x)[i]? = some u → w.cell? ⟨g, o + (k * 5 + i), none⟩ = some u := fun i u hi hu => by
  refine hr (k * 5 + i) u ?_
  rw [rcels, flat_get E (fun e he => rcel_len E e he) k i x hx hi]
  exact hu
 exact ⟨g, o, e, hl, hp 0 _ (by omega) rfl, hp 1 _ (by omega) rfl, hp 2 _ (by omega) rfl, hp 3 _ (by omega) rfl, hp 4 _ (by omega) rfl⟩
theorem Rows5.arow {base : Nat} {v : Value} (h : Rows5 w base v E) : ∃ A c, v = .slice A E.length c ∧ E.length ≤ c ∧ ARow w A E := by
 obtain ⟨A, c, e, h1, h2, hr⟩ := row_form h
 refine ⟨A, c, e, h1, fun hne => ?_⟩
 obtain ⟨g, e1, _, hl, hrg⟩ := hr (by cases E; exact absurd rfl hne; simp)
 exact ⟨g, 0, e1, hl, hrg⟩
end
set_option maxRecDepth 100000 in
set_option maxHeartbeats 2000000 in
theorem Same_two (w : World) (E : List Ent) (n : Nat) (A1 A2 : Option Addr) (c1 c2 : Nat) (hn : E.length = n) (hlim : n ≤ 1000) (h1 : ARow w A1 E) (h2 : ARow w A2 E) :
 Calls Tryz.prog 26 #[.slice A1 n c1, .slice A2 n c2] w fun e w' => e = .returned (.bool true) ∧ Below w.heap.size w w' := by
 have Hn := hide hn
 have H1 := hide h1
 have H2 := hide h2
 clear hn h1 h2
 go_enter Tryz.func26, Tryz.ntmps26
 go_wp2
 go_loopw [13] (fun j wr => ∃ k : Nat, k ≤ n ∧ j = .int .i64 k ∧ Hid (Below w.heap.size w wr)) (fun j _ => n - (intOf j).toNat)
 case atStart => exact ⟨0, Nat.zero_le _, rfl, Below.refl _ _⟩
 case round =>
  obtain ⟨k, hk, rfl, hb⟩ := hrel
  rcases Nat.lt_or_ge k n with hlt | hge
  ·have Hlt := hide hlt
   have hki : (k : Int) < (n : Int) := by omega
   obtain ⟨x, hx⟩ : ∃ x, E[k]? = some x := ⟨_, List.getElem?_eq_getElem (by rw [Hn.out]; exact hlt)⟩
   obtain ⟨g1, o1, rfl, _, a0, a1, a2, a3, a4⟩ := (H1.out.below hb.out).get hx
   obtain ⟨g2, o2, rfl, _, b0, b1, b2, b3, b4⟩ := (H2.out.below hb.out).get hx
   obtain ⟨xg, xs, xk, xb, xd, xm⟩ := x
   have hq := rec_neq (xs : Int) xk xb xd xm (xs : Int) xk xb xd xm true (same5_self _ _ _ _ _)
   have hg := fun W => rec_eqg .neq (.tmp 19) (.tmp 23) (xs : Int) xk xb xd xm (xs : Int) xk xb xd xm W
   clear hx hlt
   go_wp2
   go_quiet (fail)
   go_wp2
   go_roundw
   case rel => exact ⟨k + 1, Hlt.out, by go_num, hb.out.trans ⟨rfl, rfl, rfl, Nat.le_refl _, fun _ _ => rfl⟩⟩
   case measure => have := Hlt.out; simp [intOf]; omega
  ·obtain rfl : k = n := by omega
   clear hge hk
   go_wp2
   go_ret
   exact ⟨rfl, hb.out⟩
/-! ### Both -/
section
variable {w w' : World} {G : Nat → Prop} {p q n : Nat} {S : List Sec} {L : List Wr} {h : Hd} {E : List Ent}
theorem rdsk_same (d : RDsk w G q S L) (hk : ∀ k, G k → w'.heap[k]? = w.heap[k]?) : RDsk w' G q S L := by
 obtain ⟨F, X, h1, h2, h3, h4, h5, h6, h7, h8⟩ := d
 refine ⟨F, X, (hk q h4).trans h1, own_same h2 (fun k hb => hk k (h5 k hb).1), own_same h3 (fun k hb => hk k (h6 k hb).1), h4, h5, h6, fun k hg => ?_, h8⟩
 have h9 := h7 k hg
 have h10 := hk k hg
 rw [Array.getElem?_eq_getElem h9] at h10
 exact (Array.getElem?_eq_some_iff.1 h10).1
theorem Rj.same (j : Rj w G p q S L n h E) (hk : ∀ k, G k → w'.heap[k]? = w.heap[k]?) : Rj w' G p q S L n h E := by
 obtain ⟨D, J, X, Y, h1, h2, h3, h4⟩ := j
 have hJ : ∀ k, J k → w'.heap[k]? = w.heap[k]? := fun k hj => hk k ((h4 k).2 (Or.inr hj))
 refine ⟨D, J, X, Y, rdsk_same h1 fun k hd => hk k ((h4 k).2 (Or.inl hd)), ⟨(hJ p h2.mine).trans h2.box, h2.rows.same fun k hb => hJ k (h2.row k hb).1, h2.gens.same fun k hb => hJ k (h2.gen k hb).1, h2.mine, h2.row, h2.gen, fun k hj => ?_⟩, h3, h4⟩
 have h9 := h2.lt k hj
 have h10 := hJ k hj
 rw [Array.getElem?_eq_getElem h9] at h10
 exact (Array.getElem?_eq_some_iff.1 h10).1
end
def TJ (w0 : World) (p q p2 q2 n : Nat) (S : List Sec) (L : List Wr) (h : Hd) (E : List Ent) (S2 : List Sec) (L2 : List Wr) (h2 : Hd) (E2 : List Ent) (bo : Nat) (ob : Obj) (w : World) : Prop :=
 ∃ Gr, Rj w Gr p2 q2 S2 L2 n h2 E2 ∧ (∀ k, Gr k → w0.heap.size ≤ k) ∧ JW w0 (fun k => Gr k ∨ k = bo) p q n S L h E w ∧ w.heap[bo]? = some ob ∧ ¬ Gr bo
section
variable {w0 w w' : World} {p q p' q' p2 q2 n bo : Nat} {ob : Obj} {S S' S2 S2' : List Sec} {L L' L2 L2' : List Wr} {h h' h2 h2' : Hd} {E E' E2 E2' : List Ent}
theorem TJ.bel (j : TJ w0 p q p2 q2 n S L h E S2 L2 h2 E2 bo ob w) : Below w0.heap.size w0 w := by
 obtain ⟨Gr, _, _, j, _⟩ := j
 exact j.bel
theorem TJ.stepP {Gr : Nat → Prop} (hr : Rj w Gr p2 q2 S2 L2 n h2 E2) (hg : ∀ k, Gr k → w0.heap.size ≤ k) (ho : w.heap[bo]? = some ob) (hno : ¬ Gr bo) (hj : JW w0 (fun k => Gr k ∨ k = bo) p' q' n S' L' h' E' w') (hk : RK (fun k => Gr k ∨ k = bo) w w') :
 TJ w0 p' q' p2 q2 n S' L' h' E' S2 L2 h2 E2 bo ob w' :=
 ⟨Gr, hr.same fun k hG => hk k (Or.inl hG), hg, hj, (hk bo (Or.inr rfl)).trans ho, hno⟩
theorem TJ.stepR {Gr : Nat → Prop} {p2' : Nat} (hg : ∀ k, Gr k → w0.heap.size ≤ k) (hj : JW w0 (fun k => Gr k ∨ k = bo) p q n S L h E w) (ho : w.heap[bo]? = some ob) (hno : ¬ Gr bo) {D : Nat → Prop} (hD : ∀ k, D k → Gr k) (hp : RjPost w D p2' q2 S2' L2' n h2' E2' w') :
 TJ w0 p q p2' q2 n S L h E S2' L2' h2' E2' bo ob w' := by
 obtain ⟨G', hr', hgr, hk⟩ := hp
 have hbl : bo < w.heap.size := heap_lt ho
 obtain ⟨G, j1, j2, j3, j4⟩ := hj
 refine ⟨G', hr', fun k hG' => ?_, ⟨G, j1.kept hk fun k hG hD' => (j4 k (Or.inl (hD k hD'))).2 hG, j2, j3.trans (hk.below (fun k hD' => hg k (hD k hD')) j3.size), fun k hk' => ?_⟩, (hk.block bo hbl fun hD' => hno (hD bo hD')).trans ho, fun hG' => ?_⟩
 ·rcases hgr k hG' with h5 | h5
  ·exact hg k (hD k h5)
  ·exact Nat.le_trans j3.size h5
 ·rcases hk' with hk' | hk'
  ·refine ⟨hr'.lt k hk', fun hG => ?_⟩
   rcases hgr k hk' with h5 | h5
   ·exact (j4 k (Or.inl (hD k h5))).2 hG
   ·have := j1.lt k hG; omega
  ·subst hk'
   exact ⟨Nat.lt_of_lt_of_le hbl hk.size, (j4 _ (Or.inr rfl)).2⟩
 ·rcases hgr bo hG' with h5 | h5
  ·exact hno (hD bo h5)
  ·omega
theorem TJ.below (j : TJ w0 p q p2 q2 n S L h E S2 L2 h2 E2 bo ob w) (hb : Below w.heap.size w w') : TJ w0 p q p2 q2 n S L h E S2 L2 h2 E2 bo ob w' := by
 obtain ⟨Gr, hr, hg, hj, ho, hno⟩ := j
 exact TJ.stepP hr hg ho hno (hj.below hb).1 (hj.below hb).2
theorem TJ.with {b2 : Nat} {o2 : Obj} (j : TJ w0 p q p2 q2 n S L h E S2 L2 h2 E2 bo ob w) (hb : Below w.heap.size w w') (hg2 : w.heap.size ≤ b2) (ho2 : w'.heap[b2]? = some o2) : TJ w0 p q p2 q2 n S L h E S2 L2 h2 E2 b2 o2 w' := by
 have hlt := heap_lt ho2
 obtain ⟨Gr, hr, hg, hj, ho, hno⟩ := j
 obtain ⟨G, j1, j2, j3, j4⟩ := hj
 refine ⟨Gr, hr.below hb, hg, ⟨G, j1.below hb, j2, j3.trans (hb.mono j3.size), fun k hk => ?_⟩, ho2, fun hG => by have := hr.lt b2 hG; omega⟩
 rcases hk with hk | hk
 ·exact ⟨Nat.lt_of_lt_of_le (hr.lt k hk) hb.size, (j4 k (Or.inl hk)).2⟩
 ·subst hk
  exact ⟨hlt, fun hG => by have := j1.lt k hG; omega⟩
theorem TJ.cells (j : TJ w0 p q p2 q2 n S L h E S2 L2 h2 E2 bo ob w) : ∃ A c B d, w.cell? ⟨p2, 6, none⟩ = some (.slice A E2.length c) ∧ ARow w A E2 ∧ w.cell? ⟨p2, 1, none⟩ = some (.int .i64 (n : Int)) ∧ w.cell? ⟨q2, 1, none⟩ = some (.slice B L2.length d) := by
 obtain ⟨Gr, hr, _⟩ := j
 obtain ⟨D, J, X, Y, k1, k2, _, _⟩ := hr
 obtain ⟨A, c, B, d, rfl, rfl, c0, c1, c2, c3, c4, c5, c6, c7, fz⟩ := k2.cells
 obtain ⟨F, X, d1, d2, d3, _⟩ := k1
 obtain ⟨B2, d', rfl, _⟩ := row_form d3
 obtain ⟨A', c', e, _, _, hh⟩ := k2.rows.form
 cases e
 refine ⟨A, c, B2, d', c6, fun hne => hh (fun h0 => ?_), c1, by simp [World.cell?, d1]⟩
 cases E2 with
 | nil => exact hne rfl
 | cons x r => simp [rcels, rcel] at h0
end
end Go.Proofs.YtapiogcoipeinaaGreatDoor.Jn
namespace Go.Proofs.YtapiogcoipeinaaGreatDoor.Vo
open Go.RowKit
open Pk hiding str str_data str_size str_of run_str head_str str_append
open Sm hiding run_str
open Fa
open Rc hiding zer
open Dk Jn
abbrev rvcs (q p n : Nat) (H : Nat → Hm) : Array Value := #[.pointer (some ⟨q, 0, none⟩), .pointer (some ⟨p, 0, none⟩), .int .i64 (n : Int),
 .int .i64 ((H 0).s : Int), .int .i64 ((H 1).s : Int), .int .i64 ((H 2).s : Int), .int .i64 ((H 3).s : Int), .int .i64 ((H 4).s : Int), .int .i64 ((H 5).s : Int), .int .i64 ((H 6).s : Int), .int .i64 ((H 7).s : Int),
 .string (H 0).d, .string (H 1).d, .string (H 2).d, .string (H 3).d, .string (H 4).d, .string (H 5).d, .string (H 6).d, .string (H 7).d]
def RvB (w : World) (v q p n : Nat) (H : Nat → Hm) : Prop := w.heap[v]? = some (.cells (rvcs q p n H) 64 (0, 0))
section
variable {w w' : World} {v q n p b : Nat} {H : Nat → Hm} {x : Hm}
theorem RvB.lt (h : RvB w v q p n H) : v < w.heap.size := (Array.getElem?_eq_some_iff.1 h).1
theorem RvB.below (h : RvB w v q p n H) (hb : Below w.heap.size w w') : RvB w' v q p n H := (hb.block v h.lt).trans h
theorem RvB.free (h : RvB w v q p n H) (i : Nat) : w.frozen? ⟨v, i, none⟩ = false := blk_free h i
theorem RvB.disk (h : RvB w v q p n H) : w.cell? ⟨v, 0, none⟩ = some (.pointer (some ⟨q, 0, none⟩)) := by simp [World.cell?, show w.heap[v]? = _ from h]
theorem RvB.jour (h : RvB w v q p n H) : w.cell? ⟨v, 1, none⟩ = some (.pointer (some ⟨p, 0, none⟩)) := by simp [World.cell?, show w.heap[v]? = _ from h]
theorem RvB.ring (h : RvB w v q p n H) : w.cell? ⟨v, 2, none⟩ = some (.int .i64 (n : Int)) := by simp [World.cell?, show w.heap[v]? = _ from h]
theorem RvB.num (h : RvB w v q p n H) (hb : b < 8) : w.cell? ⟨v, 3 + b, none⟩ = some (.int .i64 ((H b).s : Int)) := by
 rcases below8 hb with rfl | rfl | rfl | rfl | rfl | rfl | rfl | rfl <;> simp [World.cell?, show w.heap[v]? = _ from h]
theorem RvB.dat (h : RvB w v q p n H) (hb : b < 8) : w.cell? ⟨v, 11 + b, none⟩ = some (.string (H b).d) := by
 rcases below8 hb with rfl | rfl | rfl | rfl | rfl | rfl | rfl | rfl <;> simp [World.cell?, show w.heap[v]? = _ from h]
theorem rvcs_set (hb : b < 8) : ((rvcs q p n H).setIfInBounds (3 + b) (.int .i64 (x.s : Int))).setIfInBounds (11 + b) (.string x.d) = rvcs q p n (upH H b x) := by
 rcases below8 hb with rfl | rfl | rfl | rfl | rfl | rfl | rfl | rfl <;> rfl
abbrev putR (w : World) (v b : Nat) (x : Hm) : World := (w.setCell ⟨v, 3 + b, none⟩ (.int .i64 (x.s : Int))).setCell ⟨v, 11 + b, none⟩ (.string x.d)
theorem RvB.put (h : RvB w v q p n H) (hb : b < 8) (x : Hm) : RvB (putR w v b x) v q p n (upH H b x) := by
 have h1 := heap_setCell_same w v (3 + b) _ _ (.int .i64 (x.s : Int)) h
 have h2 := heap_setCell_same _ v (11 + b) _ _ (.string x.d) h1
 rw [rvcs_set hb] at h2
 exact h2
theorem kept_putR (w : World) (v b : Nat) (x : Hm) : Kept (· = v) w (putR w v b x) := Kept.set (K := fun k => k = v) (Kept.set (K := fun k => k = v) (Kept.refl (fun k => k = v) w) rfl _ _) rfl _ _
end
def Rv (w : World) (G : Nat → Prop) (v p q : Nat) (S : List Sec) (L : List Wr) (n : Nat) (h : Hd) (E : List Ent) (H : Nat → Hm) : Prop :=
 ∃ J, Rj w J p q S L n h E ∧ RvB w v q p n H ∧ ¬ J v ∧ ∀ k, G k ↔ J k ∨ k = v
def RvPost (w : World) (G : Nat → Prop) (v p q : Nat) (S : List Sec) (L : List Wr) (n : Nat) (h : Hd) (E : List Ent) (H : Nat → Hm) (w' : World) : Prop := ∃ G', Rv w' G' v p q S L n h E H ∧ Grew w G G' ∧ Kept G w w'
section
variable {w w' : World} {G : Nat → Prop} {v p q n : Nat} {S S' : List Sec} {L L' : List Wr} {h h' : Hd} {E E' : List Ent} {H H' : Nat → Hm}
theorem Rv.lt (j : Rv w G v p q S L n h E H) : ∀ k, G k → k < w.heap.size := by
 obtain ⟨J, h1, h2, h3, h4⟩ := j
 intro k hk
 rcases (h4 k).1 hk with h5 | h5
 ·exact h1.lt k h5
 ·rw [h5]; exact h2.lt
theorem Rv.same (j : Rv w G v p q S L n h E H) (hk : ∀ k, G k → w'.heap[k]? = w.heap[k]?) : Rv w' G v p q S L n h E H := by
 obtain ⟨J, h1, h2, h3, h4⟩ := j
 exact ⟨J, h1.same fun k hJ => hk k ((h4 k).2 (Or.inl hJ)), (hk v ((h4 v).2 (Or.inr rfl))).trans h2, h3, h4⟩
theorem Rv.below (j : Rv w G v p q S L n h E H) (hb : Below w.heap.size w w') : Rv w' G v p q S L n h E H := j.same fun k hk => hb.block k (j.lt k hk)
theorem Rv.drew (j : Rv w G v p q S L n h E H) : Rv w.drew G v p q S L n h E H := j.below (Below.refl _ _).drew
theorem Rv.box (j : Rv w G v p q S L n h E H) : RvB w v q p n H := by
 obtain ⟨J, _, h2, _⟩ := j
 exact h2
theorem Rv.post (j : Rv w G v p q S L n h E H) (hb : Below w.heap.size w w') : RvPost w G v p q S L n h E H w' := ⟨G, j.below hb, Grew.refl _ _, Kept.of_below hb⟩
theorem RvPost.then {S'' : List Sec} {L'' : List Wr} {h'' : Hd} {E'' : List Ent} {H'' : Nat → Hm} {w'' : World} {v' p' v'' p'' : Nat} (a : RvPost w G v' p' q S' L' n h' E' H' w')
 (b : ∀ G', Rv w' G' v' p' q S' L' n h' E' H' → RvPost w' G' v'' p'' q S'' L'' n h'' E'' H'' w'') : RvPost w G v'' p'' q S'' L'' n h'' E'' H'' w'' := by
 obtain ⟨G', j, hg, hk⟩ := a
 obtain ⟨G'', j2, hg2, hk2⟩ := b G' j
 exact ⟨G'', j2, hg.trans hk.size hg2, hk.trans hg hk2⟩
theorem RvPost.of {G1 : Nat → Prop} {w1 : World} (hg : Grew w G G1) (hk : Kept G w w1) (b : RvPost w1 G1 v p q S L n h E H w') : RvPost w G v p q S L n h E H w' := by
 obtain ⟨G2, j, hg2, hk2⟩ := b
 exact ⟨G2, j, hg.trans hk.size hg2, hk.trans hg hk2⟩
theorem RvPost.after {w1 : World} (hb : Below w.heap.size w w1) (b : RvPost w1 G v p q S L n h E H w') : RvPost w G v p q S L n h E H w' := RvPost.of (Grew.refl _ _) (Kept.of_below hb) b
theorem RvPost.below {w'' : World} (a : RvPost w G v p q S L n h E H w') (hb : Below w'.heap.size w' w'') : RvPost w G v p q S L n h E H w'' := a.then fun _ j => j.post hb
theorem Rv.jour {J : Nat → Prop} (h2 : RvB w v q p n H) (h3 : ¬ J v) (h4 : ∀ k, G k ↔ J k ∨ k = v) (hp : RjPost w J p q S' L' n h' E' w') : RvPost w G v p q S' L' n h' E' H w' := by
 obtain ⟨J', hj, hg, hk⟩ := hp
 have hv : ¬ J' v := fun h5 => by
  rcases hg v h5 with h6 | h6
  ·exact h3 h6
  ·have := h2.lt; omega
 refine ⟨fun k => J' k ∨ k = v, ⟨J', hj, (hk.block v h2.lt h3).trans h2, hv, fun k => Iff.rfl⟩, fun k hk2 => ?_, ⟨hk.os, hk.tape, hk.output, hk.size, fun k hlt hn => hk.block k hlt fun hJ => hn ((h4 k).2 (Or.inl hJ))⟩⟩
 rcases hk2 with h5 | h5
 ·exact (hg k h5).imp (fun h6 => (h4 k).2 (Or.inl h6)) id
 ·exact Or.inl ((h4 k).2 (Or.inr h5))
theorem Rv.stored (j : Rv w G v p q S L n h E H) (hk : Kept (· = v) w w') (hb : RvB w' v q p n H') : RvPost w G v p q S L n h E H' w' := by
 obtain ⟨J, h1, h2, h3, h4⟩ := j
 refine ⟨G, ⟨J, h1.kept hk (fun k hJ e => h3 (by have e' : k = v := e; rw [← e']; exact hJ)), hb, h3, h4⟩, Grew.refl _ _, ⟨hk.os, hk.tape, hk.output, hk.size, fun k hlt hn => hk.block k hlt fun e => hn ((h4 k).2 (Or.inr e))⟩⟩
end
/-! ### Both volumes -/
def TV (w0 : World) (v p q rv p2 q2 n : Nat) (S : List Sec) (L : List Wr) (h : Hd) (E : List Ent) (H : Nat → Hm) (S2 : List Sec) (L2 : List Wr) (h2 : Hd) (E2 : List Ent) (H2 : Nat → Hm) (bo : Nat) (ob : Obj) (w : World) : Prop :=
 ∃ Gr, Rv w Gr rv p2 q2 S2 L2 n h2 E2 H2 ∧ (∀ k, Gr k → w0.heap.size ≤ k) ∧ VW w0 (fun k => Gr k ∨ k = bo) v p q n S L h E H w ∧ w.heap[bo]? = some ob ∧ ¬ Gr bo
section
variable {w0 w w' : World} {R R' K : Nat → Prop} {v p q n : Nat} {S : List Sec} {L : List Wr} {h : Hd} {E : List Ent} {H : Nat → Hm}
theorem JW.swap (j : JW w0 R p q n S L h E w) (hk : Kept K w w') (hK : ∀ k, K k → R k ∧ w0.heap.size ≤ k) (hR : ∀ k, R' k → R k ∨ (w.heap.size ≤ k ∧ k < w'.heap.size)) : JW w0 R' p q n S L h E w' := by
 obtain ⟨G, h1, h2, h3, h4⟩ := j
 refine ⟨G, h1.kept hk (fun k hG hKk => (h4 k (hK k hKk).1).2 hG), h2, h3.trans (hk.below (fun k hKk => (hK k hKk).2) h3.size), fun k hk2 => ?_⟩
 rcases hR k hk2 with h5 | h5
 ·exact ⟨Nat.lt_of_lt_of_le (h4 k h5).1 hk.size, (h4 k h5).2⟩
 ·exact ⟨h5.2, fun hG => by have := h1.lt k hG; omega⟩
theorem VW.swap (j : VW w0 R v p q n S L h E H w) (hk : Kept K w w') (hK : ∀ k, K k → R k ∧ w0.heap.size ≤ k) (hR : ∀ k, R' k → R k ∨ (w.heap.size ≤ k ∧ k < w'.heap.size)) : VW w0 R' v p q n S L h E H w' := by
 refine ⟨JW.swap j.jw hk (fun k hKk => ⟨Or.inl (hK k hKk).1, (hK k hKk).2⟩) (fun k hk2 => ?_), ?_, j.ge, fun h1 => ?_⟩
 ·rcases hk2 with h1 | h1
  ·exact (hR k h1).imp Or.inl id
  ·exact Or.inl (Or.inr h1)
 ·exact (hk.block v j.box.lt fun hKv => j.no (hK v hKv).1).trans j.box
 ·rcases hR v h1 with h2 | h2
  ·exact j.no h2
  ·have := j.box.lt; omega
end
section
variable {w0 w w' : World} {v v' p q p' q' rv p2 q2 n bo : Nat} {ob : Obj} {S S' S2 S2' : List Sec} {L L' L2 L2' : List Wr} {h h' h2 h2' : Hd} {E E' E2 E2' : List Ent} {H H' H2 H2' : Nat → Hm}
theorem TV.bel (j : TV w0 v p q rv p2 q2 n S L h E H S2 L2 h2 E2 H2 bo ob w) : Below w0.heap.size w0 w := by
 obtain ⟨Gr, _, _, j, _⟩ := j
 exact j.bel
theorem TV.tab (j : TV w0 v p q rv p2 q2 n S L h E H S2 L2 h2 E2 H2 bo ob w) (ht : Tab w0) : Tab w := ht.below j.bel ht.pos
theorem TV.stepP {Gr : Nat → Prop} (hr : Rv w Gr rv p2 q2 S2 L2 n h2 E2 H2) (hg : ∀ k, Gr k → w0.heap.size ≤ k) (ho : w.heap[bo]? = some ob) (hno : ¬ Gr bo) (hj : VW w0 (fun k => Gr k ∨ k = bo) v' p' q' n S' L' h' E' H' w') (hk : RK (fun k => Gr k ∨ k = bo) w w') :
 TV w0 v' p' q' rv p2 q2 n S' L' h' E' H' S2 L2 h2 E2 H2 bo ob w' :=
 ⟨Gr, hr.same fun k hG => hk k (Or.inl hG), hg, hj, (hk bo (Or.inr rfl)).trans ho, hno⟩
theorem TV.stepR {Gr : Nat → Prop} {rv' p2' : Nat} (hg : ∀ k, Gr k → w0.heap.size ≤ k) (hj : VW w0 (fun k => Gr k ∨ k = bo) v p q n S L h E H w) (ho : w.heap[bo]? = some ob) (hno : ¬ Gr bo) {D : Nat → Prop} (hD : ∀ k, D k → Gr k) (hp : RvPost w D rv' p2' q2 S2' L2' n h2' E2' H2' w') :
 TV w0 v p q rv' p2' q2 n S L h E H S2' L2' h2' E2' H2' bo ob w' := by
 obtain ⟨G', hr, hgr, hk⟩ := hp
 have hbl : bo < w.heap.size := heap_lt ho
 have hszz := hj.bel.size
 refine ⟨G', hr, fun k hk2 => ?_, hj.swap hk (fun k hDk => ⟨Or.inl (hD k hDk), hg k (hD k hDk)⟩) (fun k hk2 => ?_), (hk.block bo hbl fun hDb => hno (hD bo hDb)).trans ho, fun hG => ?_⟩
 ·rcases hgr k hk2 with h5 | h5
  ·exact hg k (hD k h5)
  ·omega
 ·rcases hk2 with h5 | h5
  ·rcases hgr k h5 with h6 | h6
   ·exact Or.inl (Or.inl (hD k h6))
   ·exact Or.inr ⟨h6, hr.lt k h5⟩
  ·exact Or.inl (Or.inr h5)
 ·rcases hgr bo hG with h5 | h5
  ·exact hno (hD bo h5)
  ·omega
theorem TV.below (j : TV w0 v p q rv p2 q2 n S L h E H S2 L2 h2 E2 H2 bo ob w) (hb : Below w.heap.size w w') : TV w0 v p q rv p2 q2 n S L h E H S2 L2 h2 E2 H2 bo ob w' := by
 obtain ⟨Gr, hr, hg, hj, ho, hno⟩ := j
 exact TV.stepP hr hg ho hno (hj.below hb).1 (hj.below hb).2
theorem TV.drew (j : TV w0 v p q rv p2 q2 n S L h E H S2 L2 h2 E2 H2 bo ob w) : TV w0 v p q rv p2 q2 n S L h E H S2 L2 h2 E2 H2 bo ob w.drew := j.below (Below.refl _ _).drew
theorem TV.with {b2 : Nat} {o2 : Obj} (j : TV w0 v p q rv p2 q2 n S L h E H S2 L2 h2 E2 H2 bo ob w) (hb : Below w.heap.size w w') (hg2 : w.heap.size ≤ b2) (ho2 : w'.heap[b2]? = some o2) : TV w0 v p q rv p2 q2 n S L h E H S2 L2 h2 E2 H2 b2 o2 w' := by
 have hlt := heap_lt ho2
 obtain ⟨Gr, hr, hg, hj, ho, hno⟩ := j
 refine ⟨Gr, hr.below hb, hg, hj.swap (K := fun _ => False) (Kept.of_below hb) (fun k hf => hf.elim) (fun k hk => ?_), ho2, fun hG => by have := hr.lt b2 hG; omega⟩
 rcases hk with h5 | h5
 ·exact Or.inl (Or.inl h5)
 ·subst h5; exact Or.inr ⟨hg2, hlt⟩
end
end Go.Proofs.YtapiogcoipeinaaGreatDoor.Vo
namespace Go.Proofs.YtapiogcoipeinaaGreatDoor.Vo
open Go.RowKit
open Pk hiding str str_data str_size str_of run_str head_str str_append
open Sm hiding run_str
open Fa
open Rc hiding zer
open Dk Jn
section
variable {w : World} {G : Nat → Prop} {v p q n : Nat} {S : List Sec} {L : List Wr} {h : Hd} {E : List Ent} {H : Nat → Hm}
theorem Rv.recs (j : Rv w G v p q S L n h E H) : ∃ A c, w.cell? ⟨p, 6, none⟩ = some (.slice A E.length c) ∧ ARow w A E ∧ p < w.heap.size := by
 obtain ⟨J, ⟨D, J2, X, Y, k1, k2, _, _⟩, _⟩ := j
 obtain ⟨A, c, B, d, e1, e2, c0, c1, c2, c3, c4, c5, c6, c7, fz⟩ := k2.cells
 subst e1
 refine ⟨A, c, c6, fun hne => ?_, heap_lt k2.box⟩
 obtain ⟨A', c', e, hc1, hc2, hr⟩ := k2.rows.form
 cases e
 refine hr fun h0 => ?_
 cases E with
 | nil => exact hne rfl
 | cons x r => simp [rcels, Jn.rcel] at h0
set_option maxRecDepth 100000 in
set_option maxHeartbeats 4000000 in
theorem rLast_any (j : Rv w G v p q S L n h E H) (b : Nat) (hb : b < 8) (hE : E.length ≤ 1000) :
 Calls Tryz.prog 49 #[.pointer (some ⟨v, 0, none⟩), .int .i64 (b : Int)] w fun e w' => e = .returned (.tuple #[.int .i64 ((cont b (H b) E).s : Int), .string (cont b (H b) E).d]) ∧ Below w.heap.size w w' := by
 obtain ⟨⟨s, d⟩, hH⟩ : ∃ x, H b = x := ⟨_, rfl⟩
 have d0 := j.box.num hb
 have d1 := j.box.dat hb
 have c1 := j.box.jour
 obtain ⟨A, c, c6, hrow, hpl⟩ := j.recs
 have hvl := j.box.lt
 rw [hH] at d0 d1 ⊢
 simp only at d0 d1
 obtain ⟨m, hm⟩ : ∃ m, E.length = m := ⟨_, rfl⟩
 have Hm := hide hm
 have HR := hide hrow
 rw [hm] at c6
 have hm2 : m ≤ 1000 := by omega
 have hbi : (b : Int) < 8 := by omega
 have C1 := hide c1
 have C6 := hide c6
 clear j hE hm hrow hH
 go_enter Tryz.func49, Tryz.ntmps49
 go_wp2
 go_quiet (fail)
 clear d0 d1
 have HB0 := hide (below_drewN (Below.refl w.heap.size w) nq)
 have e1 := (HB0.out.cell (p := ⟨v, 1, none⟩) hvl).trans C1.out
 have e6 := (HB0.out.cell (p := ⟨p, 6, none⟩) hpl).trans C6.out
 go_wp2
 go_loopw [6, 7, 30] (fun xn xd jx wr => ∃ (k cs : Nat) (cd : ByteArray), k ≤ m ∧ xn = .int .i64 cs ∧ xd = .string cd ∧ jx = .int .i64 k ∧ Hid (cont b ⟨s, d⟩ (E.take k) = ⟨cs, cd⟩) ∧ Hid (Below w.heap.size w wr)) (fun _ _ jx _ => m - (intOf jx).toNat)
 case atStart => exact ⟨0, s, d, Nat.zero_le _, rfl, rfl, rfl, rfl, HB0⟩
 case round =>
  obtain ⟨k, cs, cd, hk, rfl, rfl, rfl, hcon, hbl⟩ := hrel
  have e1 := (hbl.out.cell (p := ⟨v, 1, none⟩) hvl).trans C1.out
  have e6 := (hbl.out.cell (p := ⟨p, 6, none⟩) hpl).trans C6.out
  rcases Nat.lt_or_ge k m with hlt | hge
  ·have Hlt := hide hlt
   have hki : (k : Int) < (m : Int) := by omega
   obtain ⟨x, hx⟩ : ∃ x, E[k]? = some x := ⟨_, List.getElem?_eq_getElem (by rw [Hm.out]; exact hlt)⟩
   have HT := hide (show cont b ⟨s, d⟩ (E.take (k + 1)) = upd b ⟨cs, cd⟩ x by rw [List.take_add_one, hx, ← hcon.out]; exact cont_snoc _ _ _ _)
   obtain ⟨g, o, rfl, hgl, r0, r1, r2, r3, r4⟩ := HR.out.get hx
   obtain ⟨xg, xs, xk, xb, xd, xm⟩ := x
   simp only at r0 r1 r2 r3 r4
   have q0 := (hbl.out.cell (p := ⟨g, o + k * 5, none⟩) hgl).trans r0
   have q1 := (hbl.out.cell (p := ⟨g, o + k * 5 + 1, none⟩) hgl).trans r1
   have q2 := (hbl.out.cell (p := ⟨g, o + k * 5 + 2, none⟩) hgl).trans r2
   have q3 := (hbl.out.cell (p := ⟨g, o + k * 5 + 3, none⟩) hgl).trans r3
   have q4 := (hbl.out.cell (p := ⟨g, o + k * 5 + 4, none⟩) hgl).trans r4
   have hgr : g < wr.heap.size := Nat.lt_of_lt_of_le hgl hbl.out.size
   have hbr := rbx_below wr xs xk xb xd xm
   have HBR := hide (hbl.out.trans (hbr.mono hbl.out.size))
   clear hx r0 r1 r2 r3 r4 hbr
   by_cases h1 : xk = 1
   ·subst h1
    by_cases h2 : xb = (b : Int)
    ·subst h2
     by_cases h3 : cs < xs
     ·have h3i : (cs : Int) < (xs : Int) := by omega
      have HU := hide (HT.out.trans (if_pos ⟨rfl, rfl, h3⟩))
      clear h3 HT
      go_wp2
      go_quiet (fail)
      have HBQ := hide (below_drewN HBR.out nq)
      go_wp2
      go_roundw
      case rel => exact ⟨k + 1, xs, xd, Hlt.out, rfl, rfl, by go_num, HU.out, HBQ.out⟩
      case measure => have := Hlt.out; simp [intOf]; omega
     ·have h3i : ¬ ((cs : Int) < (xs : Int)) := by omega
      have HU := hide (HT.out.trans (if_neg fun h => h3 h.2.2))
      clear h3 HT
      go_wp2
      go_roundw
      case rel => exact ⟨k + 1, cs, cd, Hlt.out, rfl, rfl, by go_num, HU.out, HBR.out⟩
      case measure => have := Hlt.out; simp [intOf]; omega
    ·have h2e : (xb == (b : Int)) = false := by simp [h2]
     have HU := hide (HT.out.trans (if_neg fun h => h2 h.2.1))
     clear HT
     go_wp2
     go_roundw
     case rel => exact ⟨k + 1, cs, cd, Hlt.out, rfl, rfl, by go_num, HU.out, HBR.out⟩
     case measure => have := Hlt.out; simp [intOf]; omega
   ·have h1e : (xk == 1) = false := by simp [h1]
    have HU := hide (HT.out.trans (if_neg fun h => h1 h.1))
    clear HT
    go_wp2
    go_roundw
    case rel => exact ⟨k + 1, cs, cd, Hlt.out, rfl, rfl, by go_num, HU.out, HBR.out⟩
    case measure => have := Hlt.out; simp [intOf]; omega
  ·obtain rfl : k = m := by omega
   have hc := hcon.out
   rw [List.take_of_length_le (by rw [Hm.out]; exact Nat.le_refl _)] at hc
   have HC := hide hc
   clear hcon hge hc
   go_wp2
   go_ret2
   exact ⟨by rw [HC.out]; rfl, hbl.out⟩
set_option maxRecDepth 100000 in
theorem rRead_good (j : Rv w G v p q S L n h E H) (b : Nat) (hb : b < 8) (hE : E.length ≤ 1000) :
 Calls Tryz.prog 19 #[.pointer (some ⟨v, 0, none⟩), .int .i64 (b : Int)] w fun e w' => e = .returned (.tuple #[.string (cont b (H b) E).d, .int .i64 0]) ∧ Below w.heap.size w w' := by
 have HL := hide (rLast_any j b hb hE)
 obtain ⟨⟨cs, cd⟩, hx⟩ : ∃ x, cont b (H b) E = x := ⟨_, rfl⟩
 rw [hx] at HL ⊢
 have h1 : ¬ ((b : Int) < 0) := by omega
 have h2 : ¬ ((7 : Int) < (b : Int)) := by omega
 clear j hb hE hx
 go_enter Tryz.func19, Tryz.ntmps19
 go_wp2_with fail
 refine HL.out.mono ?_
 rintro e w1 ⟨rfl, hb1⟩
 have HB := hide hb1
 clear hb1 HL
 go_wp2
 go_ret2
 exact ⟨rfl, HB.out⟩
end
section
variable {w : World} {v : Nat}
end
section
variable {w : World} {G : Nat → Prop} {v p q n : Nat} {S : List Sec} {L : List Wr} {h : Hd} {E : List Ent} {H : Nat → Hm}
set_option maxRecDepth 100000 in
theorem rWrite_good (j : Rv w G v p q S L n h E H) (hf : h.f ≤ 2000000000000000000) (hn : n ≤ 512) (he : E.length < n) (b : Int) (d : ByteArray) (h0 : 0 ≤ b) (h8 : b < 8) (hd : d.size ≤ 16) (hok : EOk ⟨h.g, h.f + E.length, 1, b, d, 0⟩) (h2n : 2 + n ≤ S.length) (hL : L.length ≤ 900000) :
 Calls Tryz.prog 14 #[.pointer (some ⟨v, 0, none⟩), .int .i64 b, .string d] w fun e w' => e = .returned (.tuple #[.int .i64 ((h.f + E.length : Nat) : Int), .int .i64 0]) ∧
  RvPost w G v p q S (L ++ [(2 + (h.f + E.length) % n, esec ⟨h.g, h.f + E.length, 1, b, d, 0⟩)]) n h (E ++ [⟨h.g, h.f + E.length, 1, b, d, 0⟩]) H w' := by
 have h1 : ¬ (b < 0) := by omega
 have h2 : ¬ ((7 : Int) < b) := by omega
 have h3 : ¬ ((16 : Int) < (d.size : Int)) := by omega
 have c1 := j.box.jour
 obtain ⟨J, k1, k2, k3, k4⟩ := j
 have HA := hide (RAppend_good w J p q S L n h E k1 0 1 b d 0 hf hn he hok h2n hL)
 have HP := hide (fun w' (hp : RjPost w J p q S (L ++ [(2 + (h.f + E.length) % n, esec ⟨h.g, h.f + E.length, 1, b, d, 0⟩)]) n h (E ++ [⟨h.g, h.f + E.length, 1, b, d, 0⟩]) w') => Rv.jour (G := G) k2 k3 k4 hp)
 obtain ⟨z, hz⟩ : ∃ z, h.f + E.length = z := ⟨_, rfl⟩
 rw [hz] at HA HP ⊢
 clear k1 k2 k3 k4 hf hn he h0 h8 hd hok h2n hL hz
 go_enter Tryz.func14, Tryz.ntmps14
 go_wp2_with fail
 refine HA.out.mono ?_
 rintro e w1 ⟨rfl, hp⟩
 have HQ := hide (HP.out w1 hp)
 clear hp HA HP
 go_wp2
 go_ret2
 exact ⟨rfl, HQ.out⟩
end
end Go.Proofs.YtapiogcoipeinaaGreatDoor.Vo
namespace Go.Proofs.YtapiogcoipeinaaGreatDoor.Vo
open Go.RowKit
open Pk hiding str str_data str_size str_of run_str head_str str_append
open Sm hiding run_str
open Fa
open Rc hiding zer
open Dk Jn
abbrev ncs (f : Nat → Hm) : Array Value := #[.int .i64 ((f 0).s : Int), .int .i64 ((f 1).s : Int), .int .i64 ((f 2).s : Int), .int .i64 ((f 3).s : Int), .int .i64 ((f 4).s : Int), .int .i64 ((f 5).s : Int), .int .i64 ((f 6).s : Int), .int .i64 ((f 7).s : Int)]
abbrev dcs (f : Nat → Hm) : Array Value := #[.string (f 0).d, .string (f 1).d, .string (f 2).d, .string (f 3).d, .string (f 4).d, .string (f 5).d, .string (f 6).d, .string (f 7).d]
theorem ncs_set {f : Nat → Hm} {b : Nat} (hb : b < 8) (x : Hm) : (ncs f).setIfInBounds b (.int .i64 (x.s : Int)) = ncs (upH f b x) := by
 rcases below8 hb with rfl | rfl | rfl | rfl | rfl | rfl | rfl | rfl <;> rfl
theorem dcs_set {f : Nat → Hm} {b : Nat} (hb : b < 8) (x : Hm) : (dcs f).setIfInBounds b (.string x.d) = dcs (upH f b x) := by
 rcases below8 hb with rfl | rfl | rfl | rfl | rfl | rfl | rfl | rfl <;> rfl
theorem ncs_get {f : Nat → Hm} {b : Nat} (hb : b < 8) : (ncs f)[b]? = some (.int .i64 ((f b).s : Int)) := by
 rcases below8 hb with rfl | rfl | rfl | rfl | rfl | rfl | rfl | rfl <;> rfl
theorem dcs_get {f : Nat → Hm} {b : Nat} (hb : b < 8) : (dcs f)[b]? = some (.string (f b).d) := by
 rcases below8 hb with rfl | rfl | rfl | rfl | rfl | rfl | rfl | rfl <;> rfl
def CK (w : World) (G : Nat → Prop) (v p q : Nat) (S : List Sec) (n : Nat) (h : Hd) (E : List Ent) (H : Nat → Hm) (gn gd k : Nat) (L : List Wr) (f : Nat → Hm) (wr : World) : Prop :=
 k ≤ 8 ∧ ∃ G', Rv wr G' v p q S L n h E H ∧ Grew w G G' ∧ Kept G w wr ∧ wr.heap[gn]? = some (.cells (ncs f) 61 (0, 0)) ∧ wr.heap[gd]? = some (.cells (dcs f) 62 (0, 0)) ∧ ¬ G' gn ∧ ¬ G' gd ∧ w.heap.size ≤ gn ∧ w.heap.size ≤ gd ∧ gn ≠ gd
section
variable {w wr w' : World} {G : Nat → Prop} {v p q n gn gd k : Nat} {S S' : List Sec} {L L' : List Wr} {h h' : Hd} {E E' : List Ent} {H H' f : Nat → Hm}
theorem CK.below (c : CK w G v p q S n h E H gn gd k L f wr) (hb : Below wr.heap.size wr w') : CK w G v p q S n h E H gn gd k L f w' := by
 obtain ⟨hk, G', h1, h2, h3, h4, h5, h6, h7, h8, h9, h10⟩ := c
 exact ⟨hk, G', h1.below hb, h2, h3.trans (Grew.refl _ _) (Kept.of_below hb), (hb.block gn (heap_lt h4)).trans h4, (hb.block gd (heap_lt h5)).trans h5, h6, h7, h8, h9, h10⟩
theorem CK.drew (c : CK w G v p q S n h E H gn gd k L f wr) : CK w G v p q S n h E H gn gd k L f wr.drew := c.below (Below.refl _ _).drew
theorem CK.num (c : CK w G v p q S n h E H gn gd k L f wr) {b : Nat} (hb : b < 8) : wr.cell? ⟨gn, b, none⟩ = some (.int .i64 ((f b).s : Int)) := by
 obtain ⟨hk, G', h1, h2, h3, h4, h5, h6, h7, h8, h9, h10⟩ := c
 simp only [World.cell?, h4]
 exact ncs_get hb
theorem CK.dat (c : CK w G v p q S n h E H gn gd k L f wr) {b : Nat} (hb : b < 8) : wr.cell? ⟨gd, b, none⟩ = some (.string (f b).d) := by
 obtain ⟨hk, G', h1, h2, h3, h4, h5, h6, h7, h8, h9, h10⟩ := c
 simp only [World.cell?, h5]
 exact dcs_get hb
theorem CK.free (c : CK w G v p q S n h E H gn gd k L f wr) (i : Nat) : wr.frozen? ⟨gn, i, none⟩ = false ∧ wr.frozen? ⟨gd, i, none⟩ = false := by
 obtain ⟨hk, G', h1, h2, h3, h4, h5, h6, h7, h8, h9, h10⟩ := c
 exact ⟨blk_free h4 i, blk_free h5 i⟩
theorem CK.put (c : CK w G v p q S n h E H gn gd k L f wr) {b : Nat} (hb : b < 8) (x : Hm) : CK w G v p q S n h E H gn gd k L (upH f b x) ((wr.setCell ⟨gn, b, none⟩ (.int .i64 (x.s : Int))).setCell ⟨gd, b, none⟩ (.string x.d)) := by
 obtain ⟨hk, G', h1, h2, h3, h4, h5, h6, h7, h8, h9, h10⟩ := c
 have a1 := heap_setCell_same wr gn b _ _ (.int .i64 (x.s : Int)) h4
 have a2 : (wr.setCell ⟨gn, b, none⟩ (.int .i64 (x.s : Int))).heap[gd]? = some (.cells (dcs f) 62 (0, 0)) := (heap_setCell_other _ _ _ _ (by show gd ≠ gn; exact Ne.symm h10)).trans h5
 have a3 := heap_setCell_same _ gd b _ _ (.string x.d) a2
 have a4 : ((wr.setCell ⟨gn, b, none⟩ (.int .i64 (x.s : Int))).setCell ⟨gd, b, none⟩ (.string x.d)).heap[gn]? = _ := (heap_setCell_other _ _ _ _ (by show gn ≠ gd; exact h10)).trans a1
 rw [ncs_set hb] at a4
 rw [dcs_set hb] at a3
 have hk2 : Kept (fun k => k = gn ∨ k = gd) wr ((wr.setCell ⟨gn, b, none⟩ (.int .i64 (x.s : Int))).setCell ⟨gd, b, none⟩ (.string x.d)) := Kept.set (K := fun k => k = gn ∨ k = gd) (Kept.set (K := fun k => k = gn ∨ k = gd) (Kept.refl _ wr) (Or.inl rfl) _ _) (Or.inr rfl) _ _
 refine ⟨hk, G', h1.same fun k hG => ?_, h2, ⟨hk2.os.trans h3.os, hk2.tape.trans h3.tape, hk2.output.trans h3.output, Nat.le_trans h3.size hk2.size, fun k h11 h12 => ?_⟩, a4, a3, h6, h7, h8, h9, h10⟩
 ·have := h1.lt k hG
  exact hk2.block k this fun e => by rcases e with rfl | rfl; exact h6 hG; exact h7 hG
 ·rw [hk2.block k (Nat.lt_of_lt_of_le h11 h3.size) (fun e => by rcases e with rfl | rfl <;> omega), h3.block k h11 h12]
theorem CK.of_post {G' : Nat → Prop} (hk : k ≤ 8) (h2 : Grew w G G') (h3 : Kept G w wr) (h4 : wr.heap[gn]? = some (.cells (ncs f) 61 (0, 0))) (h5 : wr.heap[gd]? = some (.cells (dcs f) 62 (0, 0))) (h6 : ¬ G' gn) (h7 : ¬ G' gd) (h8 : w.heap.size ≤ gn) (h9 : w.heap.size ≤ gd) (h10 : gn ≠ gd)
 (hp : RvPost wr G' v p q S' L' n h' E' H' w') : CK w G v p q S' n h' E' H' gn gd k L' f w' := by
 obtain ⟨G2, k1, k2, k3⟩ := hp
 have e1 := heap_lt h4
 have e2 := heap_lt h5
 refine ⟨hk, G2, k1, h2.trans h3.size k2, h3.trans h2 k3, (k3.block gn e1 h6).trans h4, (k3.block gd e2 h7).trans h5, fun hG => ?_, fun hG => ?_, h8, h9, h10⟩
 ·rcases k2 gn hG with h | h
  ·exact h6 h
  ·omega
 ·rcases k2 gd hG with h | h
  ·exact h7 h
  ·omega
theorem CK.post (c : CK w G v p q S n h E H gn gd k L f wr) : RvPost w G v p q S L n h E H wr := by
 obtain ⟨hk, G', h1, h2, h3, _⟩ := c
 exact ⟨G', h1, h2, h3⟩
theorem CK.up (c : CK w G v p q S n h E H gn gd k L f wr) {k' : Nat} (hk : k' ≤ 8) : CK w G v p q S n h E H gn gd k' L f wr := ⟨hk, c.2⟩
theorem CK.write (c : CK w G v p q S n h E H gn gd k L f wr) {i : Nat} {s : ByteArray} (hi : i < S.length) (hs : s.size = 64) (hL : L.length ≤ 900000) :
 Calls Tryz.prog 35 #[.pointer (some ⟨q, 0, none⟩), .int .i64 i, .string s] wr fun e w' => e = .returned (.int .i64 0) ∧ CK w G v p q S n h E H gn gd k (L ++ [(i, s.data.toList)]) f w' := by
 obtain ⟨hk, G', h1, h2⟩ := c
 obtain ⟨J, ⟨D, J2, X, Y, k1, k2, k3, k4⟩, m2, m3, m4⟩ := h1
 refine (RWrite_any wr D q i S L s k1 hi hs hL).mono ?_
 rintro e w' ⟨rfl, hp⟩
 obtain ⟨h2, h3, h4, h5, h6, h7, h8, h9, h10⟩ := h2
 exact ⟨rfl, CK.of_post hk h2 h3 h4 h5 h6 h7 h8 h9 h10 (Rv.jour m2 m3 m4 (Rj.disk k2 k3 k4 hp))⟩
theorem CK.start {G2 : Nat → Prop} (hj : Rv wr G2 v p q S [] n h E H) (hg : Grew w G G2) (hk : Kept G w wr) :
 CK w G v p q S n h E H wr.heap.size (wr.alloc (.cells (ncs fun _ => hm0) 61)).heap.size 0 [] (fun _ => hm0) ((wr.alloc (.cells (ncs fun _ => hm0) 61)).alloc (.cells (dcs fun _ => hm0) 62)) := by
 have b1 : Below wr.heap.size wr (wr.alloc (.cells (ncs fun _ => hm0) 61)) := (Below.refl _ _).alloc (Nat.le_refl _) _
 have b2 : Below (wr.alloc (.cells (ncs fun _ => hm0) 61)).heap.size (wr.alloc (.cells (ncs fun _ => hm0) 61)) ((wr.alloc (.cells (ncs fun _ => hm0) 61)).alloc (.cells (dcs fun _ => hm0) 62)) := (Below.refl _ _).alloc (Nat.le_refl _) _
 have e1 : (wr.alloc (.cells (ncs fun _ => hm0) 61)).heap.size = wr.heap.size + 1 := by simp
 have hs := hk.size
 have hb := b1.trans (b2.mono b1.size)
 have a1 := heap_alloc_new wr (.cells (ncs fun _ => hm0) 61)
 refine ⟨Nat.zero_le _, G2, hj.below hb, hg, hk.trans (Grew.refl _ _) (Kept.of_below hb), (b2.block _ (by omega)).trans a1, heap_alloc_new _ _, fun hG => ?_, fun hG => ?_, hs, by omega, by omega⟩
 ·have := hj.lt _ hG; omega
 ·have := hj.lt _ hG; omega
end
end Go.Proofs.YtapiogcoipeinaaGreatDoor.Vo
namespace Go.Proofs.YtapiogcoipeinaaGreatDoor.Vo
open Go.RowKit
open Pk hiding str str_data str_size str_of run_str head_str str_append
open Sm hiding run_str
open Fa
open Rc hiding zer
open Dk Jn
section
variable {w wr w' : World} {G : Nat → Prop} {v p q n gn gd k : Nat} {S S' : List Sec} {L L' : List Wr} {h h' : Hd} {E E' : List Ent} {H H' f : Nat → Hm}
end
end Go.Proofs.YtapiogcoipeinaaGreatDoor.Vo
namespace Go.Proofs.YtapiogcoipeinaaGreatDoor.Vo
open Go.RowKit
open Pk hiding str str_data str_size str_of run_str head_str str_append
open Sm hiding run_str
open Fa
open Rc hiding zer
open Dk Jn
theorem built_rvol (q n p : Nat) : Tryz.prog.built 64 [(0, .pointer (some ⟨q, 0, none⟩)), (1, .pointer (some ⟨p, 0, none⟩)), (2, .int .i64 (n : Int))] = some (rvcs q p n (fun _ => hm0)) := by kernel_rfl
def ROV (w : World) (D : Nat → Prop) (q n : Nat) (S : List Sec) (h : Hd) (E : List Ent) (H : Nat → Hm) (e : Ending) (w' : World) : Prop :=
 ((∀ b, b < 8 → unm b (S.getD (2 + n + b) []) = some (H b)) → ∃ v p, e = .returned (.tuple #[.pointer (some ⟨v, 0, none⟩), .int .i64 0]) ∧ RvPost w D v p q S [] n h E H w') ∧
 ((∃ b, b < 8 ∧ unm b (S.getD (2 + n + b) []) = none) → e = .returned (.tuple #[.pointer none, .int .i64 4]) ∧ Kept D w w')
section
variable {w w' : World} {D G J : Nat → Prop} {v p q n : Nat} {S S0 : List Sec} {h : Hd} {E : List Ent} {H H' : Nat → Hm}
theorem RvB.congr (hv : RvB w v q p n H) (hh : ∀ b, b < 8 → H b = H' b) : RvB w v q p n H' := by
 have h0 := hh 0 (by omega)
 have h1 := hh 1 (by omega)
 have h2 := hh 2 (by omega)
 have h3 := hh 3 (by omega)
 have h4 := hh 4 (by omega)
 have h5 := hh 5 (by omega)
 have h6 := hh 6 (by omega)
 have h7 := hh 7 (by omega)
 unfold RvB rvcs at hv ⊢
 rw [← h0, ← h1, ← h2, ← h3, ← h4, ← h5, ← h6, ← h7]
 exact hv
theorem RvPost.congr (j : RvPost w D v p q S [] n h E H w') (hh : ∀ b, b < 8 → H b = H' b) : RvPost w D v p q S [] n h E H' w' := by
 obtain ⟨G', ⟨J, h1, h2, h3, h4⟩, h5, h6⟩ := j
 exact ⟨G', ⟨J, h1, h2.congr hh, h3, h4⟩, h5, h6⟩
theorem Rv.fresh {w1 : World} (hp : RjPost w D p q S [] n h E w1) : RvPost w D w1.heap.size p q S [] n h E H (w1.alloc (.cells (rvcs q p n H) 64)) := by
 obtain ⟨J, hj, hg, hk⟩ := hp
 have hb : Below w1.heap.size w1 (w1.alloc (.cells (rvcs q p n H) 64)) := (Below.refl _ _).alloc (Nat.le_refl _) _
 have hs := hk.size
 refine ⟨fun k => J k ∨ k = w1.heap.size, ⟨J, hj.below hb, heap_alloc_new w1 _, fun hJ => by have := hj.lt _ hJ; omega, fun k => Iff.rfl⟩, fun k hk2 => ?_, hk.trans hg (Kept.of_below hb)⟩
 rcases hk2 with h1 | h1
 ·exact hg k h1
 ·exact Or.inr (by omega)
theorem RvPost.store (j : RvPost w D v p q S [] n h E H w') {b : Nat} (hb : b < 8) (x : Hm) : RvPost w D v p q S [] n h E (upH H b x) (putR w' v b x) := by
 obtain ⟨G', h1, h2, h3⟩ := j
 exact RvPost.of h2 h3 (h1.stored (kept_putR w' v b x) (h1.box.put hb x))
theorem RDsk.form (hd : RDsk w D q S []) : ∃ A c, w.cell? ⟨q, 0, none⟩ = some (.slice A S.length c) := by
 obtain ⟨F, X, d1, d2, _⟩ := hd
 obtain ⟨A, c, rfl, _⟩ := row_form d2
 exact ⟨A, c, by simp [World.cell?, d1]⟩
theorem Rv.read (j : Rv w G v p q S [] n h E H) {i : Nat} {s : Sec} (hs : S[i]? = some s) :
 Calls Tryz.prog 33 #[.pointer (some ⟨q, 0, none⟩), .int .i64 i] w fun e w' => e = .returned (.tuple #[.string (str s), .int .i64 0]) ∧ w = w' := by
 obtain ⟨J, ⟨D, J2, X, Y, k1, _⟩, _⟩ := j
 exact RRead_any w D q i S [] s k1 hs (List.getElem?_eq_some_iff.1 hs).1 (by simp)
set_option maxRecDepth 100000 in
set_option maxHeartbeats 4000000 in
theorem rOpen_any (ho : Calls Tryz.prog 40 #[.pointer (some ⟨q, 0, none⟩), .int .i64 (n : Int)] w fun e w' => ∃ p, e = .returned (.tuple #[.pointer (some ⟨p, 0, none⟩), .int .i64 0]) ∧ RjPost w D p q S [] n h E w')
 (hd : RDsk w D q S0 []) (h1n : 1 ≤ n) (h512 : n ≤ 512) (hm : 10 + n ≤ S0.length) (hS : 2 + n + 8 ≤ S.length) (hF : ∀ s ∈ S, s.length = 64) (hH : ∀ b, b < 8 → ∀ x, unm b (S.getD (2 + n + b) []) = some x → H b = x) :
 Calls Tryz.prog 12 #[.pointer (some ⟨q, 0, none⟩), .int .i64 (n : Int)] w (ROV w D q n S h E H) := by
 obtain ⟨A, c, c0⟩ := RDsk.form hd
 obtain ⟨m, hm0⟩ : ∃ m, S0.length = m := ⟨_, rfl⟩
 rw [hm0] at c0 hm
 have HO := hide ho
 have HS := hide hS
 have HF := hide hF
 have HH := hide hH
 have HN := hide h512
 have g1 : ¬ ((n : Int) < 1) := by omega
 have g2 : ¬ ((512 : Int) < (n : Int)) := by omega
 have g4 : (2 : Int) + (n : Int) + 8 = ((10 + n : Nat) : Int) := by omega
 have g3 : ¬ ((m : Int) < 10 + (n : Int)) := by omega
 have g5 : ¬ ((m : Int) < 2 + (n : Int) + 8) := by omega
 unfold ROV
 clear ho hd hS hF hH hm0 hm
 go_enter Tryz.func12, Tryz.ntmps12
 go_wp2_with fail
 refine HO.out.mono ?_
 rintro e w1 ⟨p, rfl, hp⟩
 have HP1 := hide hp
 clear hp HO c0
 go_wp2_with (first | refine wpList_built rfl 64 _ rfl _ (built_rvol q n p) ?_ | (refine wpList_box_tld rfl 64 _ rfl _ rfl ?_; intro w2 Hw2) | fail)
 have HV2 : Hid (RvPost w D w1.heap.size p q S [] n h E (fun _ => hm0) w2) := hide (by rw [Hw2.out]; exact Rv.fresh HP1.out)
 clear Hw2 HP1
 generalize w1.heap.size = v at *
 go_loopw [9] (fun jx wr => ∃ (i : Nat), i ≤ 8 ∧ jx = .int .i64 i ∧ (∀ b, b < i → ∃ x, unm b (S.getD (2 + n + b) []) = some x) ∧ Hid (RvPost w D v p q S [] n h E (ldH H i) wr)) (fun jx _ => 8 - (intOf jx).toNat)
 case atStart => exact ⟨0, by omega, rfl, fun b hb => absurd hb (Nat.not_lt_zero _), hide (by rw [ldH_zero]; exact HV2.out)⟩
 case round =>
  obtain ⟨i, hi, rfl, hB, hj⟩ := hrel
  have HB := hide hB
  clear hB
  rcases Nat.lt_or_ge i 8 with hi8 | hge8
  ·have hii : (i : Int) < 8 := by omega
   obtain ⟨s, hs⟩ : ∃ s, S[2 + n + i]? = some s := ⟨_, List.getElem?_eq_getElem (by have := HS.out; omega)⟩
   have hsl := HF.out s (List.mem_of_getElem? hs)
   have hgd : S.getD (2 + n + i) [] = s := getD_of hs
   obtain ⟨G2, hv2, hg2, hk2⟩ := hj.out
   have HRD := hide (hv2.read hs)
   have HTD := hide (fun W => rTold_any (str s) i (by show i ≤ _; omega) W (by rw [str_size]; exact hsl))
   rw [str_data] at HTD
   obtain ⟨ss, hss⟩ : ∃ ss, str s = ss := ⟨_, rfl⟩
   rw [hss] at HRD HTD
   have d0 := hv2.box.num hi8
   have d1 := hv2.box.dat hi8
   have z0 := hv2.box.free (3 + i)
   have z1 := hv2.box.free (11 + i)
   have hvl := hv2.box.lt
   have HVV := hide hv2
   obtain ⟨z, hz⟩ : ∃ z, 2 + n + i = z := ⟨_, rfl⟩
   have hzi : (2 : Int) + (n : Int) + (i : Int) = (z : Int) := by omega
   have hwz : IntKind.i64.wrap (z : Int) = (z : Int) := IntWalk.i64_in _ (by have := HN.out; omega)
   cases hu : unm i s with
   | some x =>
     have HU := hide (show unm i (S.getD (2 + n + i) []) = some x by rw [hgd]; exact hu)
     have HHi := hide (HH.out i hi8 x HU.out)
     rw [hu] at HTD
     rw [hz] at HRD
     obtain ⟨xs, xd⟩ := x
     clear hu hgd hs hsl hg2 hk2 hss hz hv2
     go_wp2_with fail
     refine HRD.out.mono ?_
     rintro r w' ⟨rfl, rfl⟩
     go_wp2_with fail
     refine (HTD.out wr).mono ?_
     rintro r w3 ⟨he, hb3⟩
     obtain rfl : r = .returned (.tuple #[.int .i64 (xs : Int), .string xd, .bool true]) := he
     have hv3 := HVV.out.below hb3
     have d0 := hv3.box.num hi8
     have d1 := hv3.box.dat hi8
     have z0 := hv3.box.free (3 + i)
     have z1 := hv3.box.free (11 + i)
     have HP3 := hide ((hj.out.below hb3).store hi8 ⟨xs, xd⟩)
     clear hb3 HRD HTD HVV hv3
     go_wp2
     go_roundw
     case rel => exact ⟨i + 1, by omega, by go_num, fun b hb => by
      rcases Nat.lt_or_ge b i with h | h
      ·exact HB.out b h
      ·obtain rfl : b = i := by omega
       exact ⟨_, HU.out⟩, hide (by rw [ldH_succ, HHi.out]; exact HP3.out)⟩
     case measure => simp [intOf]; omega
   | none =>
     have HU := hide (show unm i (S.getD (2 + n + i) []) = none by rw [hgd]; exact hu)
     rw [hu] at HTD
     rw [hz] at HRD
     have HK := hide hk2
     have HG := hide hg2
     clear hu hgd hs hsl hg2 hk2 hss hz hv2
     go_wp2_with fail
     refine HRD.out.mono ?_
     rintro r w' ⟨rfl, rfl⟩
     go_wp2_with fail
     refine (HTD.out wr).mono ?_
     rintro r w3 ⟨he, hb3⟩
     obtain rfl : r = .returned (.tuple #[.int .i64 0, .string ⟨#[]⟩, .bool false]) := he
     have HK3 := hide (HK.out.trans HG.out (Kept.of_below hb3))
     clear hb3 HRD HTD HVV
     go_wp2
     go_ret2
     exact ⟨fun hall => (by have := hall i hi8; rw [HU.out] at this; cases this), fun _ => ⟨rfl, HK3.out⟩⟩
  ·obtain rfl : i = 8 := by omega
   clear hge8
   go_wp2
   go_ret2
   refine ⟨fun hall => ⟨v, p, rfl, hj.out.congr fun b hb => ?_⟩, fun ⟨b, hb, hnone⟩ => ?_⟩
   ·exact if_pos hb
   ·obtain ⟨x, hx⟩ := HB.out b hb
    rw [hx] at hnone
    cases hnone
end
end Go.Proofs.YtapiogcoipeinaaGreatDoor.Vo
namespace Go.Proofs.YtapiogcoipeinaaGreatDoor.Vo
open Go.RowKit
open Pk hiding str str_data str_size str_of run_str head_str str_append
open Sm hiding run_str
open Fa
open Rc hiding zer
open Dk Jn
section
variable {w0 w w' : World} {v p q rv p2 q2 n bo : Nat} {ob : Obj} {S S2 : List Sec} {L L2 : List Wr} {h h2 : Hd} {E E2 : List Ent} {H H2 : Nat → Hm}
theorem TV.liftP (j : TV w0 v p q rv p2 q2 n S L h E H S2 L2 h2 E2 H2 bo ob w) : ∃ R, VW w0 R v p q n S L h E H w ∧
 ∀ {v' p' : Nat} {S' : List Sec} {L' : List Wr} {h' : Hd} {E' : List Ent} {H' : Nat → Hm} {w' : World}, VW w0 R v' p' q n S' L' h' E' H' w' → RK R w w' → TV w0 v' p' q rv p2 q2 n S' L' h' E' H' S2 L2 h2 E2 H2 bo ob w' := by
 obtain ⟨Gr, hr, hg, hj, ho, hno⟩ := j
 exact ⟨_, hj, fun hv hk => TV.stepP hr hg ho hno hv hk⟩
theorem TV.liftR (j : TV w0 v p q rv p2 q2 n S L h E H S2 L2 h2 E2 H2 bo ob w) : ∃ G, Rv w G rv p2 q2 S2 L2 n h2 E2 H2 ∧
 ∀ {rv' p2' : Nat} {S2' : List Sec} {L2' : List Wr} {h2' : Hd} {E2' : List Ent} {H2' : Nat → Hm} {w' : World}, RvPost w G rv' p2' q2 S2' L2' n h2' E2' H2' w' → TV w0 v p q rv' p2' q2 n S L h E H S2' L2' h2' E2' H2' bo ob w' := by
 obtain ⟨Gr, hr, hg, hj, ho, hno⟩ := j
 exact ⟨Gr, hr, fun hp => TV.stepR hg hj ho hno (fun _ h => h) hp⟩
theorem TV.records (j : TV w0 v p q rv p2 q2 n S L h E H S2 L2 h2 E2 H2 bo ob w) (he : E.length ≤ 1000) :
 Calls Tryz.prog 27 #[.pointer (some ⟨v, 0, none⟩)] w fun e w' => ∃ A c, e = .returned (.slice A E.length c) ∧ ARow w' A E ∧ Below w.heap.size w w' := by
 obtain ⟨R, hv, _⟩ := j.liftP
 refine (hv.records he).mono ?_
 rintro e w' ⟨rv, rfl, hrow, hb⟩
 obtain ⟨A, c, rfl, _, ha⟩ := hrow.arow
 exact ⟨A, c, rfl, ha, hb⟩
theorem TV.next (j : TV w0 v p q rv p2 q2 n S L h E H S2 L2 h2 E2 H2 bo ob w) (hf : h.f ≤ 2000000000000000000) (he : E.length ≤ 1000) :
 Calls Tryz.prog 28 #[.pointer (some ⟨v, 0, none⟩)] w fun e w' => e = .returned (.int .i64 ((h.f + E.length : Nat) : Int)) ∧ Below w.heap.size w w' := by
 obtain ⟨R, hv, _⟩ := j.liftP
 exact hv.next hf he
theorem TV.rnext (j : TV w0 v p q rv p2 q2 n S L h E H S2 L2 h2 E2 H2 bo ob w) (hf : h2.f ≤ 2000000000000000000) (he : E2.length ≤ 1000) :
 Calls Tryz.prog 29 #[.pointer (some ⟨p2, 0, none⟩)] w fun e w' => e = .returned (.int .i64 ((h2.f + E2.length : Nat) : Int)) ∧ Below w.heap.size w w' := by
 obtain ⟨G, ⟨J, k1, _⟩, _⟩ := j.liftR
 exact RNext_any w J p2 q2 S2 L2 n h2 E2 k1 hf he
theorem TV.loose (j : TV w0 v p q rv p2 q2 n S L h E H S2 L2 h2 E2 H2 bo ob w) :
 Calls Tryz.prog 30 #[.pointer (some ⟨q, 0, none⟩)] w fun e w' => e = .returned (.int .i64 L.length) ∧ w = w' := by
 obtain ⟨R, hv, _⟩ := j.liftP
 exact JW.loose hv.jw
theorem TV.lens (j : TV w0 v p q rv p2 q2 n S L h E H S2 L2 h2 E2 H2 bo ob w) :
 Calls Tryz.prog 31 #[.pointer (some ⟨q, 0, none⟩)] w fun e w' => e = .returned (.int .i64 S.length) ∧ w = w' := by
 obtain ⟨R, hv, _⟩ := j.liftP
 exact JW.len hv.jw
theorem TV.cells (j : TV w0 v p q rv p2 q2 n S L h E H S2 L2 h2 E2 H2 bo ob w) : ∃ A c B d, w.cell? ⟨rv, 1, none⟩ = some (.pointer (some ⟨p2, 0, none⟩)) ∧ w.cell? ⟨p2, 6, none⟩ = some (.slice A E2.length c) ∧ ARow w A E2 ∧ w.cell? ⟨q2, 1, none⟩ = some (.slice B L2.length d) := by
 obtain ⟨G, hr, _⟩ := j.liftR
 obtain ⟨A, c, c6, ha, _⟩ := hr.recs
 have c1 := hr.box.jour
 obtain ⟨J, ⟨D, J2, X, Y, ⟨F, X2, d1, d2, d3, _⟩, _⟩, _⟩ := hr
 obtain ⟨B2, d', rfl, _⟩ := row_form d3
 exact ⟨A, c, B2, d', c1, c6, ha, by simp [World.cell?, d1]⟩
theorem TV.read (j : TV w0 v p q rv p2 q2 n S L h E H S2 L2 h2 E2 H2 bo ob w) {i : Nat} (hi : i < S.length) (hL : L.length ≤ 1000000) :
 Calls Tryz.prog 32 #[.pointer (some ⟨q, 0, none⟩), .int .i64 i] w fun e w' => ∃ g, e = .returned (.tuple #[.slice (some ⟨g, 0, none⟩) 64 64, .nilIface]) ∧ w.heap.size ≤ g ∧ Byt w' w'.heap.size (some ⟨g, 0, none⟩) ((all S L).getD i []) ∧ Below w.heap.size w w' := by
 obtain ⟨R, hv, _⟩ := j.liftP
 exact JW.read hv.jw hi hL
theorem TV.rflush (j : TV w0 v p q rv p2 q2 n S L h E H S2 L2 h2 E2 H2 bo ob w) (hL : L2.length ≤ 1000000) :
 Calls Tryz.prog 21 #[.pointer (some ⟨q2, 0, none⟩)] w fun e w' => e = .returned (.tuple #[]) ∧ TV w0 v p q rv p2 q2 n S L h E H (all S2 L2) [] h2 E2 H2 bo ob w' := by
 obtain ⟨G, ⟨J, ⟨D, J2, X, Y, k1, k2, k3, k4⟩, m2, m3, m4⟩, up⟩ := j.liftR
 refine (RFlush_any w D q2 S2 L2 k1 hL).mono ?_
 rintro e w' ⟨rfl, hp⟩
 exact ⟨rfl, up (Rv.jour m2 m3 m4 (Rj.disk k2 k3 k4 hp))⟩
theorem TV.crash (j : TV w0 v p q rv p2 q2 n S L h E H S2 L2 h2 E2 H2 bo ob w) (K : Nat) (hK : K < 18446744073709551616) (hL : L.length ≤ 1000000) :
 Calls Tryz.prog 24 #[.pointer (some ⟨q, 0, none⟩), .int .u64 K] w fun e w' => e = .returned (.tuple #[]) ∧ TV w0 v p q rv p2 q2 n (Dk.crash K 0 L S) [] h E H S2 L2 h2 E2 H2 bo ob w' := by
 obtain ⟨R, hv, up⟩ := j.liftP
 refine (hv.jw.crash K hK hL).mono ?_
 rintro e w' ⟨rfl, hj, hk⟩
 exact ⟨rfl, up (hv.after hj hk).1 (hv.after hj hk).2⟩
abbrev oph (h : Hd) : Hd := ⟨h.t + 1, h.f, h.g + 1, h.l⟩
abbrev ops (S : List Sec) (h : Hd) : List Sec := S.set ((h.t + 1) % 2) (hsec (oph h))
theorem TV.open {E' : List Ent} (j : TV w0 v p q rv p2 q2 n S [] h E H S2 L2 h2 E2 H2 bo ob w) (ht : Tab w0) (h1n : 1 ≤ n) (h512 : n ≤ 512) (hS : 2 + n + 8 ≤ S.length) (hcur : cur S = some h) (hld : Jn.load S n h.g n h.f h.l = E') (htold : ∀ b, b < 8 → unm b ((ops S h).getD (2 + n + b) []) = some (H b)) :
 Calls Tryz.prog 11 #[.pointer (some ⟨q, 0, none⟩), .int .i64 (n : Int)] w fun e w' => ∃ v' p', e = .returned (.tuple #[.pointer (some ⟨v', 0, none⟩), .nilIface]) ∧
  TV w0 v' p' q rv p2 q2 n (ops S h) [] (oph h) E' H S2 L2 h2 E2 H2 bo ob w' := by
 obtain ⟨R, hv, up⟩ := j.liftP
 have hjw : JW w0 R p q n S [] h E w := hv.jw.mono fun k hk => Or.inl hk
 have hopen := hjw.open ht h1n h512 (by omega) (h' := h) hcur (by simp)
 rw [show Jn.load (all S []) n h.g n h.f h.l = E' from hld, all_one] at hopen
 refine (Open_any (H := H) (JW.len hjw) hopen ht h1n h512 (by omega) (by rw [List.length_set]; exact hS) (fun b hb x hx => ?_)).mono ?_
 ·rw [htold b hb] at hx
  cases hx
  rfl
 rintro e w' ⟨ha, _⟩
 obtain ⟨v', p', rfl, hv', hk⟩ := ha htold
 exact ⟨v', p', rfl, up hv' hk⟩
theorem TV.full (j : TV w0 v p q rv p2 q2 n S L h E H S2 L2 h2 E2 H2 bo ob w) : Full (all S L) := by
 obtain ⟨R, hv, _⟩ := j.liftP
 exact (JW.full hv.jw).1
end
/-! ### What is always so -/
structure Iv (n T : Nat) (S : List Sec) (L : List Wr) (h : Hd) (E : List Ent) (H : Nat → Hm) (D : Nat) : Prop where
 loose : L = wrs n (E.drop D)
 vg : Vg S n h E D h.g H
 lim : Lim n h E T
 size : S.length = 10 + n
section
variable {n T : Nat} {S : List Sec} {L : List Wr} {h : Hd} {E : List Ent} {H : Nat → Hm} {D : Nat}
theorem Iv.short (i : Iv n T S L h E H D) : L.length ≤ 200 := by
 have := i.vg.jg.few
 have := i.lim.n200
 rw [i.loose, wrs_length, List.length_drop]
 omega
theorem Iv.more {T' : Nat} (i : Iv n T S L h E H D) (hT : T ≤ T') (hT' : T' ≤ 1000) : Iv n T' S L h E H D := ⟨i.loose, i.vg, i.lim.more hT hT', i.size⟩
theorem Iv.eok (i : Iv n T S L h E H D) {k b : Int} {d : ByteArray} {m : Int} : EOk ⟨h.g, h.f + E.length, k, b, d, m⟩ ↔ (k = 1 ∧ 0 ≤ b ∧ b ≤ 7 ∧ d.size ≤ 16 ∧ m = 0) ∨ (k = 2 ∧ b = 0 ∧ d.size = 0 ∧ 1 ≤ m ∧ m ≤ 1152921504606846975) := by
 have l := i.lim
 have h1 := i.vg.jg.head.1.pos
 unfold EOk Rgt Num
 constructor
 ·intro h; exact h.1.2
 ·intro h'; exact ⟨⟨⟨by show (1 : Int) ≤ ((h.f + E.length : Nat) : Int); omega, by show ((h.f + E.length : Nat) : Int) ≤ _; have := l.f; have := l.T; omega⟩, h'⟩, by show (0 : Int) ≤ (h.g : Int); omega, by show (h.g : Int) ≤ _; have := l.g; have := l.T; omega⟩
theorem Iv.append (i : Iv n T S L h E H D) (hT : T + 1 ≤ 1000) (he : E.length < n) {k b : Int} {d : ByteArray} {m : Int} (hok : EOk ⟨h.g, h.f + E.length, k, b, d, m⟩) :
 Iv n (T + 1) S (L ++ [(2 + (h.f + E.length) % n, esec ⟨h.g, h.f + E.length, k, b, d, m⟩)]) h (E ++ [⟨h.g, h.f + E.length, k, b, d, m⟩]) H D := by
 have l := i.lim
 refine ⟨?_, i.vg.append (Nat.le_refl _) he hok rfl rfl, ⟨by have := l.t; omega, by have := l.g; omega, by have := l.f; simp; omega, hT, l.n1, l.n200⟩, i.size⟩
 rw [List.drop_append_of_le_length i.vg.jg.le, i.loose]
 simp [wrs, wr]
theorem Iv.flush (i : Iv n T S L h E H D) : Iv n T (all S L) [] h E H E.length := by
 refine ⟨by rw [List.drop_length]; rfl, ?_, i.lim, by rw [all_length]; exact i.size⟩
 rw [i.loose]
 exact i.vg.flush (Nat.le_succ _)
theorem Iv.crash (i : Iv n T S L h E H D) (hT : T + 1 ≤ 1000) (K : Nat) :
 ∃ k, cur (Dk.crash K 0 L S) = some h ∧ Jn.load (Dk.crash K 0 L S) n h.g n h.f h.l = E.take k ∧ (Dk.crash K 0 L S).length = 10 + n ∧ Iv n (T + 1) (ops (Dk.crash K 0 L S) h) [] (oph h) (E.take k) H k := by
 have l := i.lim
 obtain ⟨k, h1, h2, h3⟩ := i.vg.crash K (Nat.le_succ _)
 rw [← i.loose] at h3
 have hlen : (E.take k).length = k := by rw [List.length_take]; omega
 have h2' : Vg (Dk.crash K 0 L S) n h (E.take k) (E.take k).length (h.g + 1) H := by rw [hlen]; exact h3
 have hf := l.f
 have hTT := l.T
 have htt := l.t
 have hgg := l.g
 have hsv := h2'.save (h' := oph h) (k := 0) rfl (headok (t := h.t + 1) (f := h.f) (g := h.g + 1) (l := h.l) (by omega) (by omega) (by omega) h3.jg.head.1.pos (by have := h3.jg.head.1.low; omega)) (Nat.zero_le _) rfl rfl (Nat.le_succ _) (Nat.le_refl _)
 rw [List.drop_zero, Nat.sub_zero, hlen] at hsv
 refine ⟨k, h3.jg.cur, h2'.jg.load, by rw [crash_length]; exact i.size, ⟨by rw [show (E.take k).drop k = [] from List.drop_eq_nil_of_le (by omega)]; rfl, hsv, ⟨by show h.t + 1 ≤ _; omega, by show h.g + 1 ≤ _; omega, by show h.f + (E.take k).length ≤ _; rw [hlen]; omega, hT, l.n1, l.n200⟩, by rw [List.length_set, crash_length]; exact i.size⟩⟩
theorem Iv.told (i : Iv n T S L h E H D) : ∀ b, b < 8 → unm b (S.getD (2 + n + b) []) = some (H b) := fun _ hb => i.vg.told hb
theorem Iv.start (h1 : 1 ≤ n) (h2 : n ≤ 200) : Iv n 1 ((List.replicate (10 + n) Jn.zer).set 1 (hsec ⟨1, 1, 1, 0⟩)) [] ⟨1, 1, 1, 0⟩ [] (fun _ => hm0) 0 :=
 ⟨rfl, Vg.fresh h1 (by omega), ⟨Nat.le_refl _, Nat.le_refl _, by decide, by decide, h1, h2⟩, by simp⟩
end
end Go.Proofs.YtapiogcoipeinaaGreatDoor.Vo
