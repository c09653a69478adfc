/-
  The contract of the document's own Open where the second head's sector has the current head. Nothing but the disk's memory is changed.
-/
import Derived.Test.YtmfgcinikopgnaaGreatDoorRjP1

namespace Go.Proofs.YtmfgcinikopgnaaGreatDoor.Jn
open Go.RowKit
open Pk hiding str str_data str_size str_of run_str head_str str_append
open Sm hiding run_str
open Fa Rc Dk

set_option maxRecDepth 100000 in
set_option maxHeartbeats 8000000 in
theorem ROpen_B (w : World) (D : Nat → Prop) (q : Nat) (S : List Sec) (n : Nat) (hd : RDsk w D q S []) (h1n : 1 ≤ n) (h512 : n ≤ 512) (h2n : 2 + n ≤ S.length) (hS : S.length ≤ 1000) (hFull : Full S) (s0 s1 : Sec) (hs0 : S[0]? = some s0) (hs1 : S[1]? = some s1) (t f g l : Nat) (ht : t ≤ 1152921504606846975) (hf : f ≤ 1152921504606846975) (hgn : g ≤ 1152921504606846975) (ha : unh 1 s1 = some ⟨t, f, g, l⟩) (T0 F0 G0 L0 : Int) (hb : HdTup (unh 0 s0) = .tuple #[.int .i64 T0, .int .i64 F0, .int .i64 G0, .int .i64 L0]) (hlt1 : T0 < (t : Int)) (hneg : T0 < 0) :
    Calls Tryz.prog 9 #[.pointer (some ⟨q, 0, none⟩), .int .i64 (n : Int)] w (ROpened w D q n S ⟨t + 1, f, g + 1, l⟩ (load S n g n f l)) := by
  obtain ⟨i0, hi0, hz0, hz1, hz2⟩ := info_parts rec_info
  have Hz1 := hide hz1
  have Hz2 := hide hz2
  obtain ⟨j0, hj0, hy0, hy1, hy2⟩ := info_parts int_info
  have Hy1 := hide hy1
  have Hy2 := hide hy2
  clear hz1 hz2 hy1 hy2
  obtain ⟨sl, hsl⟩ : ∃ sl, S.length = sl := ⟨_, rfl⟩
  have hsi : (sl : Int) ≤ 1000 := by omega
  obtain ⟨A, c, hp0⟩ : ∃ A c, w.cell? ⟨q, 0, none⟩ = some (.slice A sl c) := by
    obtain ⟨F, X, hp, h2, _⟩ := hd
    obtain ⟨A, c, rfl, _⟩ := row_form h2
    exact ⟨A, c, by rw [← hsl]; simp [World.cell?, hp]⟩
  have H1n := hide h1n
  have Hn := hide h512
  have H2n := hide h2n
  have hn1 : ¬ ((n : Int) < 1) := by omega
  have hn5 : ¬ ((512 : Int) < (n : Int)) := by omega
  have hn5' : (n : Int) ≤ 512 := by omega
  obtain ⟨n2, hn2⟩ : ∃ n2, 2 + n = n2 := ⟨_, rfl⟩
  have hn2i : (2 : Int) + (n : Int) = (n2 : Int) := by omega
  have hn2w : IntKind.i64.wrap (n2 : Int) = (n2 : Int) := by rw [IntKind.wrap_i64]; omega
  have hn2l : ¬ ((sl : Int) < (n2 : Int)) := by omega
  have HFull := hide hFull
  have L0 : s0.length = 64 := HFull.out s0 (List.mem_of_getElem? hs0)
  have L1 : s1.length = 64 := HFull.out s1 (List.mem_of_getElem? hs1)
  obtain ⟨Z, hZ⟩ : ∃ Z, load S n g n f l = Z := ⟨_, rfl⟩
  have HZE := hide hZ
  have HZ0 := hide (show Z = [] ++ load S n g (n - 0) (f + 0) l by rw [List.nil_append, Nat.sub_zero, Nat.add_zero]; exact hZ.symm)
  have HR0 := hide (RRead_any w D q 0 S [] s0 hd hs0 (by omega) (by simp))
  have HR1 := hide (RRead_any w D q 1 S [] s1 hd hs1 (by omega) (by simp))
  have HPF := hide (Rj.fresh (n := n) hd)
  obtain ⟨p, hpw⟩ : ∃ p, p = w.heap.size := ⟨_, rfl⟩
  rw [← hpw] at HPF
  have HH0 := hide (fun W => rHead_any (str s0) 0 W (by rw [str_size]; exact L0))
  have HH1 := hide (fun W => rHead_any (str s1) 1 W (by rw [str_size]; exact L1))
  simp only [str_data] at HH0 HH1
  rw [ha] at HH1
  simp only [HdTup] at HH1
  rw [hb] at HH0
  have hT0 : ¬ ((t : Int) < 0) := by omega
  have hT1 : ¬ ((t : Int) < T0) := by omega
  clear hd h1n h512 h2n hS hFull hsl hn2 hs0 hs1 L0 L1 hZ
  go_enter Tryz.func9, Tryz.ntmps9
  go_wp2_with fail
  refine HR0.out.mono ?_
  rintro e w' ⟨rfl, rfl⟩
  go_wp2_with fail
  refine HR1.out.mono ?_
  rintro e w' ⟨rfl, rfl⟩
  clear hp0 HR0 HR1
  go_wp2_with fail
  rw [← hpw]
  clear hpw
  generalize w.alloc _ = w1 at *
  refine (HH0.out w1).mono ?_
  rintro e w2 ⟨rfl, hb2⟩
  have HP2 := hide (HPF.out.below hb2)
  clear hb2 HPF HH0
  go_wp2_with fail
  refine (HH1.out w2).mono ?_
  rintro e w3 ⟨rfl, hb3⟩
  have HP3 := hide (HP2.out.below hb3)
  clear hb3 HP2 HH1
  obtain ⟨G3, hj3, hg3, hk3⟩ := HP3.out
  have HPS := hide (RjPost.of hg3 hk3 (RjPost.then (Rj.set (i := 2) (v := .int .i64 (t : Int)) (h' := ⟨t, 1, 0, 0⟩) hj3 (fun X Y => rfl)) fun _ j => RjPost.then (Rj.set (i := 3) (v := .int .i64 (f : Int)) (h' := ⟨t, f, 0, 0⟩) j (fun X Y => rfl)) fun _ j => RjPost.then (Rj.set (i := 4) (v := .int .i64 (g : Int)) (h' := ⟨t, f, g, 0⟩) j (fun X Y => rfl)) fun _ j => Rj.set (i := 5) (v := .int .i64 (l : Int)) (h' := ⟨t, f, g, l⟩) j (fun X Y => rfl)))
  obtain ⟨D3, J3, X3, Y3, _, k2, _, _⟩ := hj3
  have c2 : w3.cell? ⟨p, 2, none⟩ = some (.int .i64 ((0 : Nat) : Int)) := k2.heads.2.1
  have c3 : w3.cell? ⟨p, 3, none⟩ = some (.int .i64 ((1 : Nat) : Int)) := k2.heads.2.2.1
  have c4 : w3.cell? ⟨p, 4, none⟩ = some (.int .i64 ((0 : Nat) : Int)) := k2.heads.2.2.2.1
  have c5 : w3.cell? ⟨p, 5, none⟩ = some (.int .i64 ((0 : Nat) : Int)) := k2.heads.2.2.2.2
  have f2 : w3.frozen? ⟨p, 2, none⟩ = false := blk_free k2.box 2
  have f3 : w3.frozen? ⟨p, 3, none⟩ = false := blk_free k2.box 3
  have f4 : w3.frozen? ⟨p, 4, none⟩ = false := blk_free k2.box 4
  have f5 : w3.frozen? ⟨p, 5, none⟩ = false := blk_free k2.box 5
  clear k2 hg3 hk3 HP3
  go_wp2_with fail
  generalize (((w3.setCell _ _).setCell _ _).setCell _ _).setCell _ _ = w4 at *
  have HP0 := HPS
  clear HPS c2 c3 c4 c5 f2 f3 f4 f5

  go_loopw [19] (fun lo wr => ∃ (k lt : Nat) (F : List Ent), k ≤ n ∧ lo = .int .i64 (lt : Int) ∧ Hid (F.length = k) ∧ Hid (Z = F ++ load S n g (n - k) (f + k) lt) ∧ Hid (RjPost w D p q S [] n ⟨t, f, g, l⟩ F wr)) (fun _ wr => n - lenAt wr p)
  case atStart => exact ⟨0, l, [], Nat.zero_le _, rfl, rfl, HZ0.out, HP0.out⟩
  case round =>
    clear HP0
    obtain ⟨k, lt, F, hk, rfl, hF, hZF, hp⟩ := hrel
    have hlen := hide (show lenAt wr p = k by rw [hp.out.len, hF.out])
    rcases Nat.lt_or_ge k n with hlt | hge
    · have Hlt := hide hlt
      have hki : (k : Int) < (n : Int) := by omega
      obtain ⟨sq, hsq⟩ : ∃ sq, f + k = sq := ⟨_, rfl⟩
      have hsq' : (f : Int) + (k : Int) = (sq : Int) := by omega
      have hsb : (sq : Int) ≤ 3000000000000000000 := by have := Hn.out; omega
      have hrmn := remN sq n
      obtain ⟨rr, hrr⟩ : ∃ rr, sq % n = rr := ⟨_, rfl⟩
      have hrlt : rr < n := by rw [← hrr]; exact Nat.mod_lt sq (by omega)
      have hn512 : n ≤ 512 := Hn.out
      have hz : ¬ ((n : Int) = 0) := by omega
      have hz2 : ((n : Int) == 0) = false := by simp; omega
      have hz3 : ¬ (n = 0) := by omega
      rw [hrr] at hrmn
      obtain ⟨cc, hcc⟩ : ∃ cc, 2 + rr = cc := ⟨_, rfl⟩
      have hcci : (2 : Int) + (rr : Int) = (cc : Int) := by omega
      have hwc : IntKind.i64.wrap (cc : Int) = (cc : Int) := by rw [IntKind.wrap_i64]; omega
      have hcl : cc < S.length := by have := H2n.out; omega
      obtain ⟨s, hs⟩ : ∃ s, S[cc]? = some s := ⟨_, List.getElem?_eq_getElem hcl⟩
      have HGD := hide (show S.getD (2 + sq % n) [] = s by rw [hrr, hcc]; exact getD_of hs)
      have Hls := hide (show s.length = 64 from HFull.out s (List.mem_of_getElem? hs))
      have Hs := hide hs
      have Hcl := hide hcl
      obtain ⟨r', hr'⟩ : ∃ r', n - k = r' + 1 := ⟨n - k - 1, by omega⟩
      have hZF' := hZF.out
      rw [hr', hsq] at hZF'
      have HZF := hide hZF'
      have HR' := hide (show n - (k + 1) = r' by omega)
      have HSQ := hide hsq
      obtain ⟨c3, c6, c1⟩ : wr.cell? ⟨p, 3, none⟩ = some (.int .i64 (f : Int)) ∧ (∃ A c, wr.cell? ⟨p, 6, none⟩ = some (.slice A k c)) ∧ True := by
        obtain ⟨G1, ⟨D1, J1, X1, Y1, h1, h2, h3, h4⟩, _, _⟩ := hp.out
        obtain ⟨A, c, B, d, rfl, rfl, c0, c1, c2, c3, c4, c5, c6, c7, fz⟩ := h2.cells
        rw [hF.out] at c6
        exact ⟨c3, ⟨A, c, c6⟩, trivial⟩
      obtain ⟨A0, cc0, c6⟩ := c6
      clear hs hcl hcc hlt hr' hsq hrr hZF hZF' hk c1
      go_wp2_with fail
      go_quiet (fail)
      clear c3 c6
      have hbq : Below wr.heap.size wr (wr.drewN nq) := ⟨rfl, rfl, rfl, Nat.le_refl _, fun _ _ => rfl⟩
      have HP1 := hide (hp.out.below hbq)
      clear hbq hp
      have hlen' := hlen
      generalize wr.drewN nq = w1 at *
      obtain ⟨G1, ⟨D1, J1, X1, Y1, h1, h2, h3, h4⟩, hg1, hk1⟩ := HP1.out
      have HRD := hide (RRead_any w1 D1 q cc S [] s h1 Hs.out Hcl.out (by simp))
      clear h1 h2 h3 h4 hg1 hk1
      go_wp2_with fail
      refine HRD.out.mono ?_
      rintro e w' ⟨rfl, rfl⟩
      clear hrmn hcci hwc hz hz2 hz3 HRD
      go_wp2_with fail
      refine (rDecode_une s w1 Hls.out).mono ?_
      rintro e w3 ⟨hres, hb3⟩
      have HP3 := hide (HP1.out.below hb3)
      clear hb3 HP1
      rcases hres with ⟨x, hux, rfl⟩ | ⟨hux, er, her, rfl⟩
      · have Hux := hide hux
        obtain ⟨xg, xs, xk, xb, xd, xm⟩ := x
        have hbx0 := Bx.new w3 (xs : Int) xk xb xd xm
        have HP4 := hide (HP3.out.below (box_below w3 (xs : Int) xk xb xd xm))
        have e4 : (w3.alloc (.cells #[.int .i64 (xs : Int), .int .i64 xk, .int .i64 xb, .string xd, .int .i64 xm] 42)).cell? ⟨p, 4, none⟩ = some (.int .i64 (g : Int)) := by obtain ⟨G, ⟨D, J, X, Y, h1, h2, h3, h4⟩, _, _⟩ := HP4.out; exact h2.heads.2.2.2.1
        have HPL : Hid (∀ i, (∃ G J X Y D, RDsk w3 D q S [] ∧ RjAt w3 J p q n ⟨t, f, g, l⟩ F F X Y ∧ G = J ∧ J i) → i < w3.heap.size) := fun i hi => by
          obtain ⟨G, J, X, Y, D, _, h2, _, hJ⟩ := hi
          exact h2.lt i hJ
        clear hux
        by_cases hq : xs = sq
        · subst hq
          by_cases hg1 : xg < lt
          · have hgi : (xg : Int) < (lt : Int) := by omega
            have HE := hide (show Z = F by rw [HZF.out, load_no (by rw [HGD.out]; exact Hux.out) (by intro h; have := h.2.1; have e : (⟨xg, xs, xk, xb, xd, xm⟩ : Ent).g = xg := rfl; omega), List.append_nil])
            have HP := HP4
            clear hg1 HP3 HP4 HPL
            obtain ⟨G9, hj9, hg9, hk9⟩ := HP.out
            have HPS := hide (RjPost.of hg9 hk9 (Rj.set (i := 4) (v := .int .i64 ((g : Int) + 1)) (h' := ⟨t, f, g + 1, l⟩) hj9 (fun X Y => rfl)))
            obtain ⟨D9, J9, X9, Y9, _, k2, _, _⟩ := hj9
            have e4 : (w3.alloc (.cells #[.int .i64 (xs : Int), .int .i64 xk, .int .i64 xb, .string xd, .int .i64 xm] 42)).cell? ⟨p, 4, none⟩ = some (.int .i64 (g : Int)) := k2.heads.2.2.2.1
            have f4 : (w3.alloc (.cells #[.int .i64 (xs : Int), .int .i64 xk, .int .i64 xb, .string xd, .int .i64 xm] 42)).frozen? ⟨p, 4, none⟩ = false := blk_free k2.box 4
            clear k2 hg9 hk9 HP
            go_wp2_with fail
            generalize World.setCell _ _ _ = w8 at *
            obtain ⟨G8, hj8, hg8, hk8⟩ := HPS.out
            have hFE := HE.out
            refine (RSave_any w8 G8 p q S [] n ⟨t, f, g + 1, l⟩ F hj8 (by show t ≤ _; omega) (by have := H2n.out; omega) (by simp)).mono ?_
            rintro e w9 ⟨rfl, hp9⟩
            have HP9 := hide (RjPost.of hg8 hk8 hp9)
            clear hj8 hg8 hk8 hp9 HPS e4 f4
            go_wp2
            go_ret2
            refine ⟨p, rfl, ?_⟩
            show RjPost w D p q (all S ([] ++ [((t + 1) % 2, hsec ⟨t + 1, f, g + 1, l⟩)])) [] n ⟨t + 1, f, g + 1, l⟩ _ _
            have hZE := HZE.out
            rw [show load S n g n f l = F by rw [hZE, hFE]]
            exact HP9.out
          · have hgi : ¬ ((xg : Int) < (lt : Int)) := by omega
            by_cases hg2 : g < xg
            · have hgj : (g : Int) < (xg : Int) := by omega
              have HE := hide (show Z = F by rw [HZF.out, load_no (by rw [HGD.out]; exact Hux.out) (by intro h; have := h.2.2; have e : (⟨xg, xs, xk, xb, xd, xm⟩ : Ent).g = xg := rfl; omega), List.append_nil])
              have HP := HP4
              clear hg1 hg2 HP3 HP4 HPL
              obtain ⟨G9, hj9, hg9, hk9⟩ := HP.out
              have HPS := hide (RjPost.of hg9 hk9 (Rj.set (i := 4) (v := .int .i64 ((g : Int) + 1)) (h' := ⟨t, f, g + 1, l⟩) hj9 (fun X Y => rfl)))
              obtain ⟨D9, J9, X9, Y9, _, k2, _, _⟩ := hj9
              have e4 : (w3.alloc (.cells #[.int .i64 (xs : Int), .int .i64 xk, .int .i64 xb, .string xd, .int .i64 xm] 42)).cell? ⟨p, 4, none⟩ = some (.int .i64 (g : Int)) := k2.heads.2.2.2.1
              have f4 : (w3.alloc (.cells #[.int .i64 (xs : Int), .int .i64 xk, .int .i64 xb, .string xd, .int .i64 xm] 42)).frozen? ⟨p, 4, none⟩ = false := blk_free k2.box 4
              clear k2 hg9 hk9 HP
              go_wp2_with fail
              generalize World.setCell _ _ _ = w8 at *
              obtain ⟨G8, hj8, hg8, hk8⟩ := HPS.out
              have hFE := HE.out
              refine (RSave_any w8 G8 p q S [] n ⟨t, f, g + 1, l⟩ F hj8 (by show t ≤ _; omega) (by have := H2n.out; omega) (by simp)).mono ?_
              rintro e w9 ⟨rfl, hp9⟩
              have HP9 := hide (RjPost.of hg8 hk8 hp9)
              clear hj8 hg8 hk8 hp9 HPS e4 f4
              go_wp2
              go_ret2
              refine ⟨p, rfl, ?_⟩
              show RjPost w D p q (all S ([] ++ [((t + 1) % 2, hsec ⟨t + 1, f, g + 1, l⟩)])) [] n ⟨t + 1, f, g + 1, l⟩ _ _
              have hZE := HZE.out
              rw [show load S n g n f l = F by rw [hZE, hFE]]
              exact HP9.out
            · have hgj : ¬ ((g : Int) < (xg : Int)) := by omega
              have HE := hide (show Z = (F ++ [⟨xg, xs, xk, xb, xd, xm⟩]) ++ load S n g r' (xs + 1) xg by rw [HZF.out, load_yes (e := ⟨xg, xs, xk, xb, xd, xm⟩) (by rw [HGD.out]; exact Hux.out) ⟨rfl, by show lt ≤ xg; omega, by show xg ≤ g; omega⟩, List.append_assoc]; rfl)
              clear hg1 hg2 HPL
              obtain ⟨bx, hbx⟩ : ∃ bx, bx = w3.heap.size := ⟨_, rfl⟩
              obtain ⟨w4, hw4⟩ : ∃ w4, w4 = w3.alloc (.cells #[.int .i64 (xs : Int), .int .i64 xk, .int .i64 xb, .string xd, .int .i64 xm] 42) := ⟨_, rfl⟩
              obtain ⟨G3, ⟨D3, J3, X3, Y3, h1, h2, h3, h4⟩, hg3, hk3⟩ := HP3.out
              have hbb := box_below w3 (xs : Int) xk xb xd xm
              have hNJ : ¬ J3 bx := fun hJ => by have := h2.lt bx hJ; omega
              have h1' := h1.below hbb
              have h2' := h2.below hbb
              have hk3' := hk3.trans hg3 (Kept.of_below (G := G3) hbb)
              rw [← hw4] at h1' h2' hk3' hbx0
              rw [← hbx] at hbx0
              have HX4 := hide hbx0
              have HNJ := hide hNJ
              have H1 := hide h1'
              have H3 := hide h3
              have H4 := hide h4
              have HG4 := hide hg3
              have HK4 := hide hk3'
              obtain ⟨A, c, B, d, rfl, rfl, c0, c1, c2, c3, c4, c5, c6, c7, fz⟩ := h2'.cells
              have H2 := hide h2'
              rw [hF.out] at c6 H2
              have hbW : Below w4.heap.size w4 (w4.drew.alloc (.cells #[.int .i64 (xs : Int), .int .i64 xk, .int .i64 xb, .string xd, .int .i64 xm] 42)) := (Below.refl w4.heap.size w4).drew.alloc (Nat.le_refl _) _
              have HBW := hide hbW
              have HO : Hid (ORow (w4.drew.alloc (.cells #[.int .i64 (xs : Int), .int .i64 xk, .int .i64 xb, .string xd, .int .i64 xm] 42)) 42 5 (.slice A k c) k (rcels F)) := by
                have := h2'.rows
                rw [hF.out] at this
                exact this.same fun i hi => hbW.block i (this.lt i hi)
              have HN : Hid (∀ j u, (rcel ⟨xg, xs, xk, xb, xd, xm⟩)[j]? = some u → (w4.drew.alloc (.cells #[.int .i64 (xs : Int), .int .i64 xk, .int .i64 xb, .string xd, .int .i64 xm] 42)).cell? ((⟨w4.heap.size, 0, none⟩ : Addr).add j) = some u) := fun j u hu => by
                rw [Addr.add_mid, Nat.zero_add]
                show (w4.drew.alloc _).cell? ⟨w4.drew.heap.size, j, none⟩ = _
                rw [cell_of_row _ _ j _ _ _ (heap_alloc_new w4.drew _)]
                exact List.getElem?_toArray.trans hu
              have Hm1 := hide (show k + 1 ≤ maxLen by have := Hn.out; have := Hlt.out; unfold maxLen; omega)
              have Hm2 := hide (show (k + 1) * 48 ≤ 140737488355328 by have := Hn.out; have := Hlt.out; omega)
              have c6' : (w4.alloc (.cells #[.int .i64 (xs : Int), .int .i64 xk, .int .i64 xb, .string xd, .int .i64 xm] 42)).cell? ⟨p, 6, none⟩ = some (.slice A k c) := ((Below.refl w4.heap.size w4).alloc (Nat.le_refl _) _).cell (p := ⟨p, 6, none⟩) (h2'.lt p h2'.mine) |>.trans c6
              have hSa : w4.drew.cell? ⟨bx, 0, none⟩ = some (.int .i64 (xs : Int)) ∧ w4.drew.cell? ⟨bx, 1, none⟩ = some (.int .i64 xk) ∧ w4.drew.cell? ⟨bx, 2, none⟩ = some (.int .i64 xb) ∧ w4.drew.cell? ⟨bx, 3, none⟩ = some (.string xd) ∧ w4.drew.cell? ⟨bx, 4, none⟩ = some (.int .i64 xm) := ⟨HX4.out.c0, HX4.out.c1, HX4.out.c2, HX4.out.c3, HX4.out.c4⟩
              have hxb := HX4.out.below hbW
              have hSb : (w4.drew.alloc (.cells #[.int .i64 (xs : Int), .int .i64 xk, .int .i64 xb, .string xd, .int .i64 xm] 42)).cell? ⟨bx, 0, none⟩ = some (.int .i64 (xs : Int)) ∧ (w4.drew.alloc (.cells #[.int .i64 (xs : Int), .int .i64 xk, .int .i64 xb, .string xd, .int .i64 xm] 42)).cell? ⟨bx, 1, none⟩ = some (.int .i64 xk) ∧ (w4.drew.alloc (.cells #[.int .i64 (xs : Int), .int .i64 xk, .int .i64 xb, .string xd, .int .i64 xm] 42)).cell? ⟨bx, 2, none⟩ = some (.int .i64 xb) ∧ (w4.drew.alloc (.cells #[.int .i64 (xs : Int), .int .i64 xk, .int .i64 xb, .string xd, .int .i64 xm] 42)).cell? ⟨bx, 3, none⟩ = some (.string xd) ∧ (w4.drew.alloc (.cells #[.int .i64 (xs : Int), .int .i64 xk, .int .i64 xb, .string xd, .int .i64 xm] 42)).cell? ⟨bx, 4, none⟩ = some (.int .i64 xm) := ⟨hxb.c0, hxb.c1, hxb.c2, hxb.c3, hxb.c4⟩
              have x0 : w4.cell? ⟨bx, 0, none⟩ = some (.int .i64 (xs : Int)) := HX4.out.c0
              have Hbx := hide hbx
              have Hw4 := hide hw4
              clear h1 h2 h3 h4 h1' h2' hk3 hk3' hg3 hbb hNJ hbx0 hbW c0 c1 c2 c3 c4 c5 c7 fz hxb HP3 HP4
              go_wp2_with fail
              rw [← hw4, ← hbx]
              clear hw4 hbx e4 x0
              refine wp_region_held (S := (fun W => W.cell? ⟨bx, 0, none⟩ = some (.int .i64 (xs : Int)) ∧ W.cell? ⟨bx, 1, none⟩ = some (.int .i64 xk) ∧ W.cell? ⟨bx, 2, none⟩ = some (.int .i64 xb) ∧ W.cell? ⟨bx, 3, none⟩ = some (.string xd) ∧ W.cell? ⟨bx, 4, none⟩ = some (.int .i64 xm))) (by kernel_rfl) ?_
              change wpAnyH _ _ _ _ _ _ _ _ (World.drew _)
              refine wpAnyH_take (i := 0) (oi := ⟨some 180, _, _, _, _, _⟩) (v := ?_) rfl (by kernel_rfl) (by kernel_rfl) (by kernel_rfl) (fun _ _ _ h => h) (Or.inl ⟨by rfl, ?_⟩) hSa ?_
              rotate_left 1
              · (intro w hSw; obtain ⟨hSw1, hSw2, hSw3, hSw4, hSw5⟩ := hSw; go_simp; try with_reducible rfl)
              simp only [Act.put, List.setIfInBounds_toArray, List.set_cons_zero, List.set_cons_succ]
              refine wpAnyH_take (i := 1) (oi := ⟨some 181, _, _, _, _, _⟩) (v := ?_) rfl (by kernel_rfl) (by kernel_rfl) (by kernel_rfl) (fun _ _ _ h => h) (Or.inl ⟨by rfl, ?_⟩) hSa ?_
              rotate_left 1
              · (intro w hSw; obtain ⟨hSw1, hSw2, hSw3, hSw4, hSw5⟩ := hSw; go_simp; try with_reducible rfl)
              simp only [Act.put, List.setIfInBounds_toArray, List.set_cons_zero, List.set_cons_succ]
              refine wpAnyH_take (i := 2) (oi := ⟨some 182, _, _, _, _, _⟩) (v := ?_) rfl (by kernel_rfl) (by kernel_rfl) (by kernel_rfl) (fun _ _ _ h => h) (Or.inl ⟨by rfl, ?_⟩) hSa ?_
              rotate_left 1
              · (intro w hSw; obtain ⟨hSw1, hSw2, hSw3, hSw4, hSw5⟩ := hSw; go_simp; try with_reducible rfl)
              simp only [Act.put, List.setIfInBounds_toArray, List.set_cons_zero, List.set_cons_succ]
              refine wpAnyH_take (i := 3) (oi := ⟨some 183, _, _, _, _, _⟩) (v := ?_) rfl (by kernel_rfl) (by kernel_rfl) (by kernel_rfl) (fun _ _ _ h => h) (Or.inl ⟨by rfl, ?_⟩) hSa ?_
              rotate_left 1
              · (intro w hSw; obtain ⟨hSw1, hSw2, hSw3, hSw4, hSw5⟩ := hSw; go_simp; try with_reducible rfl)
              simp only [Act.put, List.setIfInBounds_toArray, List.set_cons_zero, List.set_cons_succ]
              refine wpAnyH_take (i := 5) (oi := ⟨some 185, _, _, _, _, _⟩) (v := ?_) rfl (by kernel_rfl) (by kernel_rfl) (by kernel_rfl) (fun _ _ _ h => h) (Or.inl ⟨by rfl, ?_⟩) hSa ?_
              rotate_left 1
              · (intro w hSw; obtain ⟨hSw1, hSw2, hSw3, hSw4, hSw5⟩ := hSw; go_simp; try with_reducible rfl)
              simp only [Act.put, List.setIfInBounds_toArray, List.set_cons_zero, List.set_cons_succ]
              refine wpAnyH_ready (rs := [4, 6]) (by kernel_rfl) (by simp) ?_
              refine AllReadyH.cons (o := ⟨some 184, _, _, _, _, _⟩) rfl (fun K hK => ?_) (AllReadyH.cons (o := ⟨some 186, _, _, _, _, _⟩) rfl (fun K hK => ?_) AllReadyH.nil)
              · go_simp
                refine hK.out _ _ (by first | exact hSa | exact hSb) (fun hHeld => ?_)
                clear hK K
                clear hHeld
                refine wpAnyH_ready (rs := [6]) (by kernel_rfl) (by simp) ?_
                refine AllReadyH.cons (o := ⟨some 186, _, _, _, _, _⟩) rfl (fun K hK => ?_) AllReadyH.nil
                go_simp
                refine hK.out _ _ hSb (fun hHeld => ?_)
                clear hK K
                clear hHeld
                refine wpAnyH_ready (rs := [7]) (by kernel_rfl) (by simp) ?_
                refine AllReadyH.cons (o := ⟨some 187, _, _, _, _, _⟩) rfl (fun K hK => ?_) AllReadyH.nil
                refine step_append_o _ rfl (.tmp 184) (.tmp 186) 55 rfl 42 i0 _ 5 48 Tryz.underlying55 hi0 hz0 Hz1.out Hz2.out rfl (.slice A k c) k (rcels F) rfl HO.out ⟨w4.heap.size, 0, none⟩ 1 1 (rcel ⟨xg, xs, xk, xb, xd, xm⟩) rfl rfl HN.out (rcel_one _) (by decide) Hm1.out Hm2.out _ rfl ?_
                intro g2 o2 cap w6 hown6 hgr6 hor6 hlt6
                have hP := H2.out.appendedL (y := ⟨xg, xs, xk, xb, xd, xm⟩) HBW.out hgr6 hown6 hor6 hF.out
                have HPA := hide hP.1
                have HPK := hide hP.2
                have hc6 : w6.cell? ⟨p, 6, none⟩ = some (.slice A k c) := by simp [World.cell?, H2.out.box6 HBW.out (Or.inl rfl) hgr6]
                have hf6 : w6.frozen? ⟨p, 6, none⟩ = false := by simp [World.frozen?, H2.out.box6 HBW.out (Or.inl rfl) hgr6]
                have hbx6 : Bx w6 bx (xs : Int) xk xb xd xm := (hgr6.block _ (Nat.lt_of_lt_of_le HX4.out.lt HBW.out.size) (fun e => HNJ.out ((H2.out.row _ e.symm).1))).trans ((HBW.out.block _ HX4.out.lt).trans HX4.out)
                have hbx7 : Bx (w6.setCell ⟨p, 6, none⟩ (.slice (some ⟨g2, o2, none⟩) (k + 1) cap)) bx (xs : Int) xk xb xd xm := (heap_setCell_other _ _ _ _ (fun e => HNJ.out (by have e2 : bx = p := e; rw [e2]; exact H2.out.mine))).trans hbx6
                have hSc : w6.cell? ⟨bx, 0, none⟩ = some (.int .i64 (xs : Int)) ∧ w6.cell? ⟨bx, 1, none⟩ = some (.int .i64 xk) ∧ w6.cell? ⟨bx, 2, none⟩ = some (.int .i64 xb) ∧ w6.cell? ⟨bx, 3, none⟩ = some (.string xd) ∧ w6.cell? ⟨bx, 4, none⟩ = some (.int .i64 xm) := ⟨hbx6.c0, hbx6.c1, hbx6.c2, hbx6.c3, hbx6.c4⟩
                have HX7 := hide hbx7
                clear hP hown6 hgr6 hor6 hlt6 hbx6 hbx7
                refine hK.out _ _ hSc (fun hHeld => ?_)
                clear hK K
                clear hHeld
                refine wpAnyH_take (i := 8) (oi := ⟨some 188, _, _, _, _, _⟩) (v := ?_) rfl (by kernel_rfl) (by kernel_rfl) (by kernel_rfl) (fun _ _ _ h => h) (Or.inl ⟨by rfl, ?_⟩) hSc ?_
                rotate_left 1
                · (intro w hSw; obtain ⟨hSw1, hSw2, hSw3, hSw4, hSw5⟩ := hSw; go_simp; try with_reducible rfl)
                simp only [Act.put, List.setIfInBounds_toArray, List.set_cons_zero, List.set_cons_succ]
                refine wpAnyH_take (i := 9) (oi := ⟨some 189, _, _, _, _, _⟩) (v := ?_) rfl (by kernel_rfl) (by kernel_rfl) (by kernel_rfl) (fun _ _ _ h => h) (Or.inl ⟨by rfl, ?_⟩) hSc ?_
                rotate_left 1
                · (intro w hSw; obtain ⟨hSw1, hSw2, hSw3, hSw4, hSw5⟩ := hSw; go_simp; try with_reducible rfl)
                simp only [Act.put, List.setIfInBounds_toArray, List.set_cons_zero, List.set_cons_succ]
                refine wpAnyH_ready (rs := [10]) (by kernel_rfl) (by simp) ?_
                refine AllReadyH.cons (o := ⟨none, _, _, _, _, _⟩) rfl (fun K hK => ?_) AllReadyH.nil
                go_simp
                generalize w6.setCell _ _ = w7 at *
                have hSd : w7.cell? ⟨bx, 0, none⟩ = some (.int .i64 (xs : Int)) ∧ w7.cell? ⟨bx, 1, none⟩ = some (.int .i64 xk) ∧ w7.cell? ⟨bx, 2, none⟩ = some (.int .i64 xb) ∧ w7.cell? ⟨bx, 3, none⟩ = some (.string xd) ∧ w7.cell? ⟨bx, 4, none⟩ = some (.int .i64 xm) := ⟨HX7.out.c0, HX7.out.c1, HX7.out.c2, HX7.out.c3, HX7.out.c4⟩
                refine hK.out _ _ hSd (fun hHeld => ?_)
                clear hK K
                clear hHeld
                refine wpAnyH_done (by kernel_rfl) ?_ _
                clear hSa hSb hSc hSd hc6 hf6 c6 c6'
                obtain ⟨A7, c7', B7, e8, e6, e7, k0, k1, k2, k3, k4, k5, k6, k7, fz⟩ := HPA.out.cells
                rw [hF.out] at k7 e7
                obtain ⟨rfl, rfl⟩ : B = B7 ∧ d = e8 := by simpa using e7
                clear e6 e7
                have hbV : Below w7.heap.size w7 (w7.alloc (.cells #[.int .i64 (xg : Int)] 3)) := (Below.refl w7.heap.size w7).alloc (Nat.le_refl _) _
                have HBV := hide hbV
                have HO9 : Hid (ORow (w7.alloc (.cells #[.int .i64 (xg : Int)] 3)) 3 1 (.slice B k d) k (gcels F)) := by
                  have := HPA.out.gens
                  rw [hF.out] at this
                  exact this.same fun i hi => hbV.block i (this.lt i hi)
                have HN9 : Hid (∀ j u, ([.int .i64 (xg : Int)] : List Value)[j]? = some u → (w7.alloc (.cells #[.int .i64 (xg : Int)] 3)).cell? ((⟨w7.heap.size, 0, none⟩ : Addr).add j) = some u) := fun j u hu => by
                  rw [Addr.add_mid, Nat.zero_add, cell_of_row _ _ j _ _ _ (heap_alloc_new w7 _)]
                  exact List.getElem?_toArray.trans hu
                have Hm3 := hide (show (k + 1) * 8 ≤ 140737488355328 by have := Hn.out; have := Hlt.out; omega)
                have f7 := fz 7
                clear k0 k1 k2 k3 k4 k5 k6 fz hbV
                go_wp2_with (at_builtin; go_must (refine wpList_append_o _ rfl (.tmp 194) (.tmp 196) 57 rfl 3 j0 _ 1 8 Tryz.underlying57 hj0 hy0 Hy1.out Hy2.out rfl (.slice B k d) k (gcels F) rfl HO9.out ⟨w7.heap.size, 0, none⟩ 1 1 [.int .i64 (xg : Int)] rfl rfl HN9.out (fun u hu => by simp at hu; subst hu; rfl) (by decide) Hm1.out Hm3.out _ rfl ?_))
                intro g3 o3 cap3 w8 hown8 hgr8 hor8 hlt8
                have hP := HPA.out.appendedG (y := ⟨xg, xs, xk, xb, xd, xm⟩) HBV.out hgr8 hown8 (hor8.imp id (fun e => by rw [e]; simp)) hF.out
                have HQA := hide hP.1
                have HQK := hide hP.2
                have hc7 : w8.cell? ⟨p, 7, none⟩ = some (.slice B k d) := by simp [World.cell?, HPA.out.box6 HBV.out (Or.inr rfl) hgr8]
                have hf7 : w8.frozen? ⟨p, 7, none⟩ = false := by simp [World.frozen?, HPA.out.box6 HBV.out (Or.inr rfl) hgr8]
                clear hP hown8 hgr8 hor8 hlt8 k7 f7
                go_wp2_with fail
                generalize w8.setCell _ _ = w9 at *
                have HPZ := hide (RjPost.of HG4.out HK4.out (Rj.mine (w' := w9) H1.out H3.out H4.out (fun i hi => by
                    rcases hi with hi | hi
                    · rcases hi with hi | hi
                      · exact Or.inl hi
                      · exact Or.inr hi.1
                    · exact Or.inr (Nat.le_trans HPK.out.size hi.1)) (HPK.out.trans (fun i hi => by
                      rcases hi with hi | hi
                      · exact Or.inl hi
                      · exact Or.inr hi.1) HQK.out) HQA.out))
                clear hc7 hf7
                go_roundw
                case rel => exact ⟨k + 1, xg, F ++ [⟨xg, xs, xk, xb, xd, xm⟩], Hlt.out, rfl, hide (by rw [List.length_append, hF.out]; rfl), hide (by rw [HR'.out, show f + (k + 1) = xs + 1 by have := HSQ.out; omega]; exact HE.out), HPZ⟩
                case measure =>
                  have e1 := HPZ.out.len
                  have e2 := hlen.out
                  have := Hlt.out
                  rw [e1, e2, List.length_append, hF.out]
                  show n - (k + 1) < n - k
                  omega
              · go_simp
                refine hK.out _ _ hSb (fun hHeld => ?_)
                clear hK K
                clear hHeld
                refine wpAnyH_ready (rs := [4]) (by kernel_rfl) (by simp) ?_
                refine AllReadyH.cons (o := ⟨some 184, _, _, _, _, _⟩) rfl (fun K hK => ?_) AllReadyH.nil
                go_simp
                refine hK.out _ _ (by first | exact hSa | exact hSb) (fun hHeld => ?_)
                clear hK K
                clear hHeld
                refine wpAnyH_ready (rs := [7]) (by kernel_rfl) (by simp) ?_
                refine AllReadyH.cons (o := ⟨some 187, _, _, _, _, _⟩) rfl (fun K hK => ?_) AllReadyH.nil
                refine step_append_o _ rfl (.tmp 184) (.tmp 186) 55 rfl 42 i0 _ 5 48 Tryz.underlying55 hi0 hz0 Hz1.out Hz2.out rfl (.slice A k c) k (rcels F) rfl HO.out ⟨w4.heap.size, 0, none⟩ 1 1 (rcel ⟨xg, xs, xk, xb, xd, xm⟩) rfl rfl HN.out (rcel_one _) (by decide) Hm1.out Hm2.out _ rfl ?_
                intro g2 o2 cap w6 hown6 hgr6 hor6 hlt6
                have hP := H2.out.appendedL (y := ⟨xg, xs, xk, xb, xd, xm⟩) HBW.out hgr6 hown6 hor6 hF.out
                have HPA := hide hP.1
                have HPK := hide hP.2
                have hc6 : w6.cell? ⟨p, 6, none⟩ = some (.slice A k c) := by simp [World.cell?, H2.out.box6 HBW.out (Or.inl rfl) hgr6]
                have hf6 : w6.frozen? ⟨p, 6, none⟩ = false := by simp [World.frozen?, H2.out.box6 HBW.out (Or.inl rfl) hgr6]
                have hbx6 : Bx w6 bx (xs : Int) xk xb xd xm := (hgr6.block _ (Nat.lt_of_lt_of_le HX4.out.lt HBW.out.size) (fun e => HNJ.out ((H2.out.row _ e.symm).1))).trans ((HBW.out.block _ HX4.out.lt).trans HX4.out)
                have hbx7 : Bx (w6.setCell ⟨p, 6, none⟩ (.slice (some ⟨g2, o2, none⟩) (k + 1) cap)) bx (xs : Int) xk xb xd xm := (heap_setCell_other _ _ _ _ (fun e => HNJ.out (by have e2 : bx = p := e; rw [e2]; exact H2.out.mine))).trans hbx6
                have hSc : w6.cell? ⟨bx, 0, none⟩ = some (.int .i64 (xs : Int)) ∧ w6.cell? ⟨bx, 1, none⟩ = some (.int .i64 xk) ∧ w6.cell? ⟨bx, 2, none⟩ = some (.int .i64 xb) ∧ w6.cell? ⟨bx, 3, none⟩ = some (.string xd) ∧ w6.cell? ⟨bx, 4, none⟩ = some (.int .i64 xm) := ⟨hbx6.c0, hbx6.c1, hbx6.c2, hbx6.c3, hbx6.c4⟩
                have HX7 := hide hbx7
                clear hP hown6 hgr6 hor6 hlt6 hbx6 hbx7
                refine hK.out _ _ hSc (fun hHeld => ?_)
                clear hK K
                clear hHeld
                refine wpAnyH_take (i := 8) (oi := ⟨some 188, _, _, _, _, _⟩) (v := ?_) rfl (by kernel_rfl) (by kernel_rfl) (by kernel_rfl) (fun _ _ _ h => h) (Or.inl ⟨by rfl, ?_⟩) hSc ?_
                rotate_left 1
                · (intro w hSw; obtain ⟨hSw1, hSw2, hSw3, hSw4, hSw5⟩ := hSw; go_simp; try with_reducible rfl)
                simp only [Act.put, List.setIfInBounds_toArray, List.set_cons_zero, List.set_cons_succ]
                refine wpAnyH_take (i := 9) (oi := ⟨some 189, _, _, _, _, _⟩) (v := ?_) rfl (by kernel_rfl) (by kernel_rfl) (by kernel_rfl) (fun _ _ _ h => h) (Or.inl ⟨by rfl, ?_⟩) hSc ?_
                rotate_left 1
                · (intro w hSw; obtain ⟨hSw1, hSw2, hSw3, hSw4, hSw5⟩ := hSw; go_simp; try with_reducible rfl)
                simp only [Act.put, List.setIfInBounds_toArray, List.set_cons_zero, List.set_cons_succ]
                refine wpAnyH_ready (rs := [10]) (by kernel_rfl) (by simp) ?_
                refine AllReadyH.cons (o := ⟨none, _, _, _, _, _⟩) rfl (fun K hK => ?_) AllReadyH.nil
                go_simp
                generalize w6.setCell _ _ = w7 at *
                have hSd : w7.cell? ⟨bx, 0, none⟩ = some (.int .i64 (xs : Int)) ∧ w7.cell? ⟨bx, 1, none⟩ = some (.int .i64 xk) ∧ w7.cell? ⟨bx, 2, none⟩ = some (.int .i64 xb) ∧ w7.cell? ⟨bx, 3, none⟩ = some (.string xd) ∧ w7.cell? ⟨bx, 4, none⟩ = some (.int .i64 xm) := ⟨HX7.out.c0, HX7.out.c1, HX7.out.c2, HX7.out.c3, HX7.out.c4⟩
                refine hK.out _ _ hSd (fun hHeld => ?_)
                clear hK K
                clear hHeld
                refine wpAnyH_done (by kernel_rfl) ?_ _
                clear hSa hSb hSc hSd hc6 hf6 c6 c6'
                obtain ⟨A7, c7', B7, e8, e6, e7, k0, k1, k2, k3, k4, k5, k6, k7, fz⟩ := HPA.out.cells
                rw [hF.out] at k7 e7
                obtain ⟨rfl, rfl⟩ : B = B7 ∧ d = e8 := by simpa using e7
                clear e6 e7
                have hbV : Below w7.heap.size w7 (w7.alloc (.cells #[.int .i64 (xg : Int)] 3)) := (Below.refl w7.heap.size w7).alloc (Nat.le_refl _) _
                have HBV := hide hbV
                have HO9 : Hid (ORow (w7.alloc (.cells #[.int .i64 (xg : Int)] 3)) 3 1 (.slice B k d) k (gcels F)) := by
                  have := HPA.out.gens
                  rw [hF.out] at this
                  exact this.same fun i hi => hbV.block i (this.lt i hi)
                have HN9 : Hid (∀ j u, ([.int .i64 (xg : Int)] : List Value)[j]? = some u → (w7.alloc (.cells #[.int .i64 (xg : Int)] 3)).cell? ((⟨w7.heap.size, 0, none⟩ : Addr).add j) = some u) := fun j u hu => by
                  rw [Addr.add_mid, Nat.zero_add, cell_of_row _ _ j _ _ _ (heap_alloc_new w7 _)]
                  exact List.getElem?_toArray.trans hu
                have Hm3 := hide (show (k + 1) * 8 ≤ 140737488355328 by have := Hn.out; have := Hlt.out; omega)
                have f7 := fz 7
                clear k0 k1 k2 k3 k4 k5 k6 fz hbV
                go_wp2_with (at_builtin; go_must (refine wpList_append_o _ rfl (.tmp 194) (.tmp 196) 57 rfl 3 j0 _ 1 8 Tryz.underlying57 hj0 hy0 Hy1.out Hy2.out rfl (.slice B k d) k (gcels F) rfl HO9.out ⟨w7.heap.size, 0, none⟩ 1 1 [.int .i64 (xg : Int)] rfl rfl HN9.out (fun u hu => by simp at hu; subst hu; rfl) (by decide) Hm1.out Hm3.out _ rfl ?_))
                intro g3 o3 cap3 w8 hown8 hgr8 hor8 hlt8
                have hP := HPA.out.appendedG (y := ⟨xg, xs, xk, xb, xd, xm⟩) HBV.out hgr8 hown8 (hor8.imp id (fun e => by rw [e]; simp)) hF.out
                have HQA := hide hP.1
                have HQK := hide hP.2
                have hc7 : w8.cell? ⟨p, 7, none⟩ = some (.slice B k d) := by simp [World.cell?, HPA.out.box6 HBV.out (Or.inr rfl) hgr8]
                have hf7 : w8.frozen? ⟨p, 7, none⟩ = false := by simp [World.frozen?, HPA.out.box6 HBV.out (Or.inr rfl) hgr8]
                clear hP hown8 hgr8 hor8 hlt8 k7 f7
                go_wp2_with fail
                generalize w8.setCell _ _ = w9 at *
                have HPZ := hide (RjPost.of HG4.out HK4.out (Rj.mine (w' := w9) H1.out H3.out H4.out (fun i hi => by
                    rcases hi with hi | hi
                    · rcases hi with hi | hi
                      · exact Or.inl hi
                      · exact Or.inr hi.1
                    · exact Or.inr (Nat.le_trans HPK.out.size hi.1)) (HPK.out.trans (fun i hi => by
                      rcases hi with hi | hi
                      · exact Or.inl hi
                      · exact Or.inr hi.1) HQK.out) HQA.out))
                clear hc7 hf7
                go_roundw
                case rel => exact ⟨k + 1, xg, F ++ [⟨xg, xs, xk, xb, xd, xm⟩], Hlt.out, rfl, hide (by rw [List.length_append, hF.out]; rfl), hide (by rw [HR'.out, show f + (k + 1) = xs + 1 by have := HSQ.out; omega]; exact HE.out), HPZ⟩
                case measure =>
                  have e1 := HPZ.out.len
                  have e2 := hlen.out
                  have := Hlt.out
                  rw [e1, e2, List.length_append, hF.out]
                  show n - (k + 1) < n - k
                  omega
        · have hq2 : ((xs : Int) != (sq : Int)) = true := by simp; omega
          have hq3 : ((xs : Int) == (sq : Int)) = false := by simp; omega
          have HE := hide (show Z = F by rw [HZF.out, load_no (by rw [HGD.out]; exact Hux.out) (by intro h; exact hq h.1), List.append_nil])
          have HP := HP4
          clear hq HP3 HP4 HPL
          obtain ⟨G9, hj9, hg9, hk9⟩ := HP.out
          have HPS := hide (RjPost.of hg9 hk9 (Rj.set (i := 4) (v := .int .i64 ((g : Int) + 1)) (h' := ⟨t, f, g + 1, l⟩) hj9 (fun X Y => rfl)))
          obtain ⟨D9, J9, X9, Y9, _, k2, _, _⟩ := hj9
          have e4 : (w3.alloc (.cells #[.int .i64 (xs : Int), .int .i64 xk, .int .i64 xb, .string xd, .int .i64 xm] 42)).cell? ⟨p, 4, none⟩ = some (.int .i64 (g : Int)) := k2.heads.2.2.2.1
          have f4 : (w3.alloc (.cells #[.int .i64 (xs : Int), .int .i64 xk, .int .i64 xb, .string xd, .int .i64 xm] 42)).frozen? ⟨p, 4, none⟩ = false := blk_free k2.box 4
          clear k2 hg9 hk9 HP
          go_wp2_with fail
          generalize World.setCell _ _ _ = w8 at *
          obtain ⟨G8, hj8, hg8, hk8⟩ := HPS.out
          have hFE := HE.out
          refine (RSave_any w8 G8 p q S [] n ⟨t, f, g + 1, l⟩ F hj8 (by show t ≤ _; omega) (by have := H2n.out; omega) (by simp)).mono ?_
          rintro e w9 ⟨rfl, hp9⟩
          have HP9 := hide (RjPost.of hg8 hk8 hp9)
          clear hj8 hg8 hk8 hp9 HPS e4 f4
          go_wp2
          go_ret2
          refine ⟨p, rfl, ?_⟩
          show RjPost w D p q (all S ([] ++ [((t + 1) % 2, hsec ⟨t + 1, f, g + 1, l⟩)])) [] n ⟨t + 1, f, g + 1, l⟩ _ _
          have hZE := HZE.out
          rw [show load S n g n f l = F by rw [hZE, hFE]]
          exact HP9.out
      · have HE := hide (show Z = F by rw [HZF.out, load_nil (by rw [HGD.out]; exact hux), List.append_nil])
        have HP := hide (HP3.out.below (box_below w3 0 0 0 ⟨#[]⟩ 0))
        clear hux HP3
        obtain ⟨G9, hj9, hg9, hk9⟩ := HP.out
        have HPS := hide (RjPost.of hg9 hk9 (Rj.set (i := 4) (v := .int .i64 ((g : Int) + 1)) (h' := ⟨t, f, g + 1, l⟩) hj9 (fun X Y => rfl)))
        obtain ⟨D9, J9, X9, Y9, _, k2, _, _⟩ := hj9
        have e4 : (w3.alloc (.cells #[.int .i64 0, .int .i64 0, .int .i64 0, .string ⟨#[]⟩, .int .i64 0] 42)).cell? ⟨p, 4, none⟩ = some (.int .i64 (g : Int)) := k2.heads.2.2.2.1
        have f4 : (w3.alloc (.cells #[.int .i64 0, .int .i64 0, .int .i64 0, .string ⟨#[]⟩, .int .i64 0] 42)).frozen? ⟨p, 4, none⟩ = false := blk_free k2.box 4
        clear k2 hg9 hk9 HP
        go_wp2_with fail
        generalize World.setCell _ _ _ = w8 at *
        obtain ⟨G8, hj8, hg8, hk8⟩ := HPS.out
        have hFE := HE.out
        refine (RSave_any w8 G8 p q S [] n ⟨t, f, g + 1, l⟩ F hj8 (by show t ≤ _; omega) (by have := H2n.out; omega) (by simp)).mono ?_
        rintro e w9 ⟨rfl, hp9⟩
        have HP9 := hide (RjPost.of hg8 hk8 hp9)
        clear hj8 hg8 hk8 hp9 HPS e4 f4
        go_wp2
        go_ret2
        refine ⟨p, rfl, ?_⟩
        show RjPost w D p q (all S ([] ++ [((t + 1) % 2, hsec ⟨t + 1, f, g + 1, l⟩)])) [] n ⟨t + 1, f, g + 1, l⟩ _ _
        have hZE := HZE.out
        rw [show load S n g n f l = F by rw [hZE, hFE]]
        exact HP9.out
    · have hkn : ¬ ((k : Int) < (n : Int)) := by omega
      obtain ⟨A0, cc0, c6⟩ : ∃ A c, wr.cell? ⟨p, 6, none⟩ = some (.slice A k c) := by
        obtain ⟨G1, ⟨D1, J1, X1, Y1, h1, h2, h3, h4⟩, _, _⟩ := hp.out
        obtain ⟨A, c, B, d, rfl, rfl, c0, c1, c2, c3, c4, c5, c6, c7, fz⟩ := h2.cells
        rw [hF.out] at c6
        exact ⟨A, c, c6⟩
      have HE := hide (show Z = F by rw [hZF.out, show n - k = 0 by omega]; exact List.append_nil _)
      have HP := hp
      clear hge hk hZF hp
      obtain ⟨G9, hj9, hg9, hk9⟩ := HP.out
      have HPS := hide (RjPost.of hg9 hk9 (Rj.set (i := 4) (v := .int .i64 ((g : Int) + 1)) (h' := ⟨t, f, g + 1, l⟩) hj9 (fun X Y => rfl)))
      obtain ⟨D9, J9, X9, Y9, _, k2, _, _⟩ := hj9
      have e4 : wr.cell? ⟨p, 4, none⟩ = some (.int .i64 (g : Int)) := k2.heads.2.2.2.1
      have f4 : wr.frozen? ⟨p, 4, none⟩ = false := blk_free k2.box 4
      clear k2 hg9 hk9 HP
      go_wp2_with fail
      generalize World.setCell _ _ _ = w8 at *
      obtain ⟨G8, hj8, hg8, hk8⟩ := HPS.out
      have hFE := HE.out
      refine (RSave_any w8 G8 p q S [] n ⟨t, f, g + 1, l⟩ F hj8 (by show t ≤ _; omega) (by have := H2n.out; omega) (by simp)).mono ?_
      rintro e w9 ⟨rfl, hp9⟩
      have HP9 := hide (RjPost.of hg8 hk8 hp9)
      clear hj8 hg8 hk8 hp9 HPS e4 f4
      go_wp2
      go_ret2
      refine ⟨p, rfl, ?_⟩
      show RjPost w D p q (all S ([] ++ [((t + 1) % 2, hsec ⟨t + 1, f, g + 1, l⟩)])) [] n ⟨t + 1, f, g + 1, l⟩ _ _
      have hZE := HZE.out
      rw [show load S n g n f l = F by rw [hZE, hFE]]
      exact HP9.out

end Go.Proofs.YtmfgcinikopgnaaGreatDoor.Jn
