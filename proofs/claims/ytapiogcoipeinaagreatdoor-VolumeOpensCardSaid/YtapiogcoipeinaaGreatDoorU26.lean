/-
  The contract of the reference's Decode (isobarref05), the ways of what is no write. Nothing that was there is changed.
-/
import Derived.Test.YtapiogcoipeinaaGreatDoorU25
import Derived.Test.YtapiogcoipeinaaGreatDoorU21
namespace Go.Proofs.YtapiogcoipeinaaGreatDoor.Rc
open Go.RowKit
open Pk hiding str str_data str_size str_of run_str head_str str_append
open Sm hiding run_str
open Fa
theorem rOpen_bad (s : ByteArray) (w : World) (hs : s.size ≤ 1000000) (hno : ∀ m, s.data.toList ≠ seal4 m) :
 Calls Tryz.prog 71 #[.string s] w fun e w' => e = .returned (.tuple #[.string ⟨#[]⟩, .bool false]) ∧ Below w.heap.size w w' := by
 rcases Nat.lt_or_ge s.size 4 with h | h
 ·exact rOpen_short s w h
 ·exact rOpen_no s w hs h (fun e => hno _ e.symm)
theorem rOpen_good (s : ByteArray) (w : World) (M : List UInt8) (hs : s.size ≤ 1000000) (hM : s.data.toList = seal4 M) (S : ByteArray) (hS : str M = S) :
 Calls Tryz.prog 71 #[.string s] w fun e w' => e = .returned (.tuple #[.string S, .bool true]) ∧ Below w.heap.size w w' := by
 have hl : s.size = M.length + 4 := by rw [← size_eq s, hM, seal4_length]
 have ht : s.data.toList.take (s.size - 4) = M := by rw [hM, hl, Nat.add_sub_cancel, seal4_take]
 have h := rOpen_yes s w hs (by omega) (by rw [ht, hM])
 rw [ht, hS] at h
 exact h
theorem rNumber_at (g e : Nat) (l : List UInt8) (w : World) (h : Rr w g (str l) e) (hs : l.length ≤ 60) (n : Nat) (l1 : List UInt8) (e1 : Nat) (hr : rnum l e = (n, l1, e1)) :
 Calls Tryz.prog 72 #[.pointer (some ⟨g, 0, none⟩)] w fun r w' => r = .returned (.int .i64 (n : Int)) ∧ Rr w' g (str l1) e1 ∧ w.grownBy w' (some g) ∧ l1.length ≤ 60 := by
 have h2 := rnum_shorter l e
 have := RNumber_rd g e l w h (by omega)
 rw [hr] at this h2
 refine this.mono ?_
 rintro r w' ⟨rfl, h3, h4⟩
 exact ⟨rfl, h3, h4, Nat.le_trans h2 hs⟩
theorem rText_at (g e : Nat) (l : List UInt8) (w : World) (h : Rr w g (str l) e) (hs : l.length ≤ 60) (d l1 : List UInt8) (e1 : Nat) (hr : rtext l e 16 = (d, l1, e1)) :
 Calls Tryz.prog 73 #[.pointer (some ⟨g, 0, none⟩), .int .i64 16] w fun r w' => r = .returned (.string (str d)) ∧ Rr w' g (str l1) e1 ∧ w.grownBy w' (some g) := by
 have := RText_rd g e 16 l w h (by omega)
 rw [hr] at this
 exact this
theorem rr_other {w : World} {g G e : Nat} {s : ByteArray} (h : Rr w g s e) {i : Nat} (hne : G ≠ g) (v : Value) : Rr (w.setCell ⟨G, i, none⟩ v) g s e := (heap_setCell_other _ ⟨G, i, none⟩ g _ (fun e => hne e.symm)).trans h
theorem rr_keep {w w' : World} {g e : Nat} {s : ByteArray} (h : Rr w g s e) (hb : Below w.heap.size w w') : Rr w' g s e := (hb.block g h.lt).trans h
theorem rr_new (w : World) (s : ByteArray) : Rr (w.alloc (.cells #[.string s, .int .i64 0] 138)) w.heap.size s 0 := heap_alloc_new w _
theorem rr_below (w : World) (s : ByteArray) : Below w.heap.size w (w.alloc (.cells #[.string s, .int .i64 0] 138)) := (Below.refl _ _).alloc (Nat.le_refl _) _
theorem only_below {w w' : World} {g B : Nat} (h : w.grownBy w' (some g)) (hB : B ≤ g) (hg : g < w.heap.size) : Below B w w' := below_of_only h hB hg
theorem Bx.other {w : World} {G G' i : Nat} {s k b : Int} {d : ByteArray} {m : Int} (h : Bx w G s k b d m) (hne : G' ≠ G) (v : Value) : Bx (w.setCell ⟨G', i, none⟩ v) G s k b d m := (heap_setCell_other _ ⟨G', i, none⟩ G _ (fun e => hne e.symm)).trans h
abbrev zer : Obj := .cells #[.int .i64 0, .int .i64 0, .int .i64 0, .string ⟨#[]⟩, .int .i64 0] 100
set_option maxRecDepth 100000 in
set_option maxHeartbeats 2000000 in
theorem rDecode_open (a : ByteArray) (w : World) (hs : a.size ≤ 2000) (hno : ∀ m, a.data.toList ≠ seal4 m) :
 Calls Tryz.prog 69 #[.string a] w fun e w' => e = .returned (.tuple #[.int .i64 0, rec5 0 0 0 ⟨#[]⟩ 0, .int .i64 4]) ∧ Below w.heap.size w w' := by
 have Hno := hide hno
 clear hno
 obtain ⟨hx, hz, hb0⟩ := two_boxes w 0 0 0 ⟨#[]⟩ 0 0 0 0 ⟨#[]⟩ 0
 have HB0 := hide hb0
 clear hb0
 go_enter Tryz.func69, Tryz.ntmps69
 go_wp2_with fail
 generalize (w.alloc _).alloc _ = w0 at *
 refine (rOpen_bad a w0 (by omega) Hno.out).mono ?_
 rintro r w1 ⟨rfl, hb1⟩
 have hx1 := hx.below hb1
 have hz1 := hz.below hb1
 have HB1 := hide (HB0.out.trans (hb1.mono HB0.out.size))
 clear hx hz hb1 HB0
 have xc0 := hx1.c0
 have xc1 := hx1.c1
 have xc2 := hx1.c2
 have xc3 := hx1.c3
 have xc4 := hx1.c4
 have xf0 := hx1.free 0
 have xf1 := hx1.free 1
 have xf2 := hx1.free 2
 have xf3 := hx1.free 3
 have xf4 := hx1.free 4
 have zc0 := hz1.c0
 have zc1 := hz1.c1
 have zc2 := hz1.c2
 have zc3 := hz1.c3
 have zc4 := hz1.c4
 have HX := hide (hx1.put 0 0 0 ⟨#[]⟩ 0)
 have HY := hide (below_put HB1.out (Nat.le_refl _) 0 0 0 ⟨#[]⟩ 0).drew
 clear hx1 hz1
 go_wp2_with fail
 go_region
 go_wp2
 refine bodyPost_ret (results_tct rfl _ _ w.heap.size 100 _ (0, 0) _ rfl (show _ from HX.out) Tryz.underlying100 rfl rec_size) rfl ?_
 exact ⟨rfl, HY.out⟩
set_option maxRecDepth 100000 in
set_option maxHeartbeats 2000000 in
theorem rDecode_len (a : ByteArray) (w : World) (M : List UInt8) (hs : a.size ≤ 2000) (hM : a.data.toList = seal4 M) (h64 : ((a.size : Int) == 64) = false) :
 Calls Tryz.prog 69 #[.string a] w fun e w' => e = .returned (.tuple #[.int .i64 0, rec5 0 0 0 ⟨#[]⟩ 0, .int .i64 4]) ∧ Below w.heap.size w w' := by
 obtain ⟨S0, hS0⟩ : ∃ S, str M = S := ⟨_, rfl⟩
 have HS0 := hide hS0
 have HM := hide hM
 clear hS0 hM
 obtain ⟨hx, hz, hb0⟩ := two_boxes w 0 0 0 ⟨#[]⟩ 0 0 0 0 ⟨#[]⟩ 0
 have HB0 := hide hb0
 clear hb0
 go_enter Tryz.func69, Tryz.ntmps69
 go_wp2_with fail
 generalize (w.alloc _).alloc _ = w0 at *
 refine (rOpen_good a w0 M (by omega) HM.out S0 HS0.out).mono ?_
 rintro r w1 ⟨rfl, hb1⟩
 have hx1 := hx.below hb1
 have hz1 := hz.below hb1
 have HB1 := hide (HB0.out.trans (hb1.mono HB0.out.size))
 clear hx hz hb1 HB0
 have xc0 := hx1.c0
 have xc1 := hx1.c1
 have xc2 := hx1.c2
 have xc3 := hx1.c3
 have xc4 := hx1.c4
 have xf0 := hx1.free 0
 have xf1 := hx1.free 1
 have xf2 := hx1.free 2
 have xf3 := hx1.free 3
 have xf4 := hx1.free 4
 have zc0 := hz1.c0
 have zc1 := hz1.c1
 have zc2 := hz1.c2
 have zc3 := hz1.c3
 have zc4 := hz1.c4
 have HX := hide (hx1.put 0 0 0 ⟨#[]⟩ 0)
 have HY := hide (below_put HB1.out (Nat.le_refl _) 0 0 0 ⟨#[]⟩ 0).drew
 clear hx1 hz1
 go_wp2_with fail
 go_region
 go_wp2
 refine bodyPost_ret (results_tct rfl _ _ w.heap.size 100 _ (0, 0) _ rfl (show _ from HX.out) Tryz.underlying100 rfl rec_size) rfl ?_
 exact ⟨rfl, HY.out⟩
set_option maxRecDepth 100000 in
set_option maxHeartbeats 2000000 in
theorem rDecode_werr (a : ByteArray) (w : World) (M : List UInt8) (h64 : a.size = 64) (hM : a.data.toList = seal4 M) (hM60 : M.length ≤ 60) {l1 l2 l3 l4 l5 zd : List UInt8} {zg zs zk z4 e1 e2 e3 e4 e5 : Nat} (h1 : rnum M 0 = (zg, l1, e1)) (h2 : rnum l1 e1 = (zs, l2, e2)) (h3 : rnum l2 e2 = (zk, l3, e3)) (h4 : rnum l3 e3 = (z4, l4, e4)) (h5 : rtext l4 e4 16 = (zd, l5, e5)) (hk : ((zk : Int) == 1) = true) (he : e5 ≠ 0) :
 Calls Tryz.prog 69 #[.string a] w fun e w' => e = .returned (.tuple #[.int .i64 0, rec5 0 0 0 ⟨#[]⟩ 0, .int .i64 1]) ∧ Below w.heap.size w w' := by
 have HE := hide he
 clear he
 obtain ⟨S0, hS0⟩ : ∃ S, str M = S := ⟨_, rfl⟩
 have HS0 := hide hS0
 have HM := hide hM
 have H64 := hide h64
 have HL0 := hide hM60
 have H1 := hide h1
 have H2 := hide h2
 have H3 := hide h3
 have H4 := hide h4
 have H5 := hide h5
 clear hS0 hM hM60 h1 h2 h3 h4 h64 h5
 have hsz : a.size = 64 := H64.out
 have hsz64 : ((a.size : Int) == 64) = true := by rw [hsz]; rfl
 obtain ⟨hx, hz, hb0⟩ := two_boxes w 0 0 0 ⟨#[]⟩ 0 0 0 0 ⟨#[]⟩ 0
 have HB0 := hide hb0
 clear hb0
 go_enter Tryz.func69, Tryz.ntmps69
 go_wp2_with fail
 generalize (w.alloc _).alloc _ = w0 at *
 refine (rOpen_good a w0 M (by omega) HM.out S0 HS0.out).mono ?_
 rintro r w1 ⟨rfl, hb1⟩
 have hx1 := hx.below hb1
 have hz1 := hz.below hb1
 have HB1 := hide (HB0.out.trans (hb1.mono HB0.out.size))
 clear hx hz hb1 HB0
 have hr0 := rr_new w1 S0
 have hb2 := rr_below w1 S0
 have hx2 := hx1.below hb2
 have hz2 := hz1.below hb2
 have HB2 := hide (HB1.out.trans (hb2.mono HB1.out.size))
 obtain ⟨R, hR⟩ : ∃ R, R = w1.heap.size := ⟨_, rfl⟩
 have hxl := hx1.lt
 have hzl := hz1.lt
 rw [← hR] at hxl hzl hr0
 rw [← HS0.out] at hr0
 clear hx1 hz1 hb2 HB1
 go_wp2_with fail
 rw [← hR]
 have hneX : w.heap.size ≠ R := by omega
 have hneZ : w.heap.size + 1 ≠ R := by omega
 have hRl : w.heap.size ≤ R := by omega
 clear hR
 rw [HS0.out] at hr0
 generalize w1.alloc _ = w2 at *
 rw [← HS0.out] at hr0
 refine (rNumber_at R 0 M w2 hr0 HL0.out zg l1 e1 H1.out).mono ?_
 rintro r w3 ⟨rfl, hr1, hg1, hl1⟩
 have HL1 := hide hl1
 have hx3 := hx2.only hg1 hneX
 have hz3 := hz2.only hg1 hneZ
 have HB3 := hide (HB2.out.trans (only_below hg1 hRl hr0.lt))
 clear hx2 hz2 hg1 hr0 hl1 HB2
 go_wp2_with fail
 refine (rNumber_at R e1 l1 w3 hr1 HL1.out zs l2 e2 H2.out).mono ?_
 rintro r w4 ⟨rfl, hr2, hg2, hl2⟩
 have HL2 := hide hl2
 have hx4 := hx3.only hg2 hneX
 have hz4 := hz3.only hg2 hneZ
 have HB4 := hide (HB3.out.trans (only_below hg2 hRl hr1.lt))
 have hRw4 := hr2.lt
 clear hx3 hz3 hg2 hr1 hl2 HB3
 have hv5 := Bx.new w4 (zs : Int) 0 0 ⟨#[]⟩ 0
 have hb5 := box_below w4 (zs : Int) 0 0 ⟨#[]⟩ 0
 have hx5 := hx4.below hb5
 have hz5 := hz4.below hb5
 have hr5 := rr_keep hr2 hb5
 have HB5 := hide (HB4.out.trans (hb5.mono HB4.out.size))
 obtain ⟨V, hV⟩ : ∃ V, V = w4.heap.size := ⟨_, rfl⟩
 have hVX := hx4.lt
 have hVZ := hz4.lt
 have hVl := HB4.out.size
 rw [← hV] at hVX hVZ hRw4 hv5 hVl
 have hneVR : V ≠ R := by omega
 have hneVX : V ≠ w.heap.size := by omega
 have hneVZ : V ≠ w.heap.size + 1 := by omega
 clear hx4 hz4 hr2 hb5 HB4
 go_wp2_with fail
 rw [← hV]
 clear hV hVX hVZ hRw4
 generalize w4.alloc _ = w5 at *
 refine (rNumber_at R e2 l2 w5 hr5 HL2.out zk l3 e3 H3.out).mono ?_
 rintro r w6 ⟨rfl, hr3, hg3, hl3⟩
 have HL3 := hide hl3
 have hx6 := hx5.only hg3 hneX
 have hz6 := hz5.only hg3 hneZ
 have hv6 := hv5.only hg3 hneVR
 have HB6 := hide (HB5.out.trans (only_below hg3 hRl hr5.lt))
 have hc1 := hv6.c1
 have hf1 := hv6.free 1
 have hx7 := hx6.other (i := 1) hneVX (.int .i64 (zk : Int))
 have hz7 := hz6.other (i := 1) hneVZ (.int .i64 (zk : Int))
 have hv7 := hv6.set1 (zk : Int)
 have hr7 := rr_other hr3 (i := 1) hneVR (.int .i64 (zk : Int))
 have HB7 := hide (HB6.out.setCell (p := ⟨V, 1, none⟩) hVl (.int .i64 (zk : Int)))
 have hd1 := hv7.c1
 clear hx5 hz5 hv5 hg3 hr5 hl3 HB5 hx6 hz6 hv6 hr3 HB6
 go_wp2_with fail
 generalize w6.setCell _ _ = w7 at *
 refine (rNumber_at R e3 l3 w7 hr7 HL3.out z4 l4 e4 H4.out).mono ?_
 rintro r w8 ⟨rfl, hr4, hg4, hl4⟩
 have HL4 := hide hl4
 have hx8 := hx7.only hg4 hneX
 have hz8 := hz7.only hg4 hneZ
 have hv8 := hv7.only hg4 hneVR
 have HB8 := hide (HB7.out.trans (only_below hg4 hRl hr7.lt))
 have hc4 := hv8.c2
 have hf4 := hv8.free 2
 have hx9 := hx8.other (i := 2) hneVX (.int .i64 (z4 : Int))
 have hz9 := hz8.other (i := 2) hneVZ (.int .i64 (z4 : Int))
 have hv9 := hv8.set2 (z4 : Int)
 have hr9 := rr_other hr4 (i := 2) hneVR (.int .i64 (z4 : Int))
 have HB9 := hide (HB8.out.setCell (p := ⟨V, 2, none⟩) hVl (.int .i64 (z4 : Int)))
 clear hx7 hz7 hv7 hg4 hr7 hl4 HB7 hx8 hz8 hv8 hr4 HB8 hc1 hf1 hd1
 go_wp2_with fail
 generalize w8.setCell _ _ = w9 at *
 refine (rText_at R e4 l4 w9 hr9 HL4.out zd l5 e5 H5.out).mono ?_
 rintro r w10 ⟨rfl, hr10, hg10⟩
 have hx10 := hx9.only hg10 hneX
 have hz10 := hz9.only hg10 hneZ
 have hv10 := hv9.only hg10 hneVR
 have HB10 := hide (HB9.out.trans (only_below hg10 hRl hr9.lt))
 have hc3 := hv10.c3
 have hf3 := hv10.free 3
 have hee := blk_cell1 hr10
 have vc0 := hv10.c0
 have vc1 := hv10.c1
 have vc2 := hv10.c2
 have vc4 := hv10.c4
 have hx11 := hx10.other (i := 3) hneVX (.string (str zd))
 have hz11 := hz10.other (i := 3) hneVZ (.string (str zd))
 have hv11 := hv10.set3 (str zd)
 have hr11 := rr_other hr10 (i := 3) hneVR (.string (str zd))
 have HB11 := hide (HB10.out.setCell (p := ⟨V, 3, none⟩) hVl (.string (str zd)))
 clear hx9 hz9 hv9 hg10 hr9 HB9 hx10 hz10 hv10 hr10 HB10 hc4 hf4
 have hne0 : ((e5 : Int) == 0) = false := by have := HE.out; simp; omega
 clear hv11 hr11
 go_wp2_with fail
 generalize w10.setCell _ _ = wA at *
 clear hee hc3 vc0 vc1 vc2 vc4
 have xc0 := hx11.c0
 have xc1 := hx11.c1
 have xc2 := hx11.c2
 have xc3 := hx11.c3
 have xc4 := hx11.c4
 have xf0 := hx11.free 0
 have xf1 := hx11.free 1
 have xf2 := hx11.free 2
 have xf3 := hx11.free 3
 have xf4 := hx11.free 4
 have zc0 := hz11.c0
 have zc1 := hz11.c1
 have zc2 := hz11.c2
 have zc3 := hz11.c3
 have zc4 := hz11.c4
 have HX := hide (hx11.put 0 0 0 ⟨#[]⟩ 0)
 have HY := hide (below_put HB11.out (Nat.le_refl _) 0 0 0 ⟨#[]⟩ 0).drew
 clear hx11 hz11
 go_region
 go_wp2
 refine bodyPost_ret (results_tct rfl _ _ w.heap.size 100 _ (0, 0) _ rfl (show _ from HX.out) Tryz.underlying100 rfl rec_size) rfl ?_
 exact ⟨rfl, HY.out⟩
set_option maxRecDepth 100000 in
set_option maxHeartbeats 2000000 in
theorem rDecode_wnot (a : ByteArray) (w : World) (M : List UInt8) (h64 : a.size = 64) (hM : a.data.toList = seal4 M) (hM60 : M.length ≤ 60) {l1 l2 l3 l4 l5 zd : List UInt8} {zg zs zk z4 e1 e2 e3 e4 : Nat} (h1 : rnum M 0 = (zg, l1, e1)) (h2 : rnum l1 e1 = (zs, l2, e2)) (h3 : rnum l2 e2 = (zk, l3, e3)) (h4 : rnum l3 e3 = (z4, l4, e4)) (h5 : rtext l4 e4 16 = (zd, l5, 0)) (hk : ((zk : Int) == 1) = true) (hn : ¬ Rgt (zs : Int) (zk : Int) (z4 : Int) (str zd).size 0) :
 Calls Tryz.prog 69 #[.string a] w fun e w' => e = .returned (.tuple #[.int .i64 0, rec5 0 0 0 ⟨#[]⟩ 0, .int .i64 1]) ∧ Below w.heap.size w w' := by
 have HN := hide hn
 clear hn
 obtain ⟨S0, hS0⟩ : ∃ S, str M = S := ⟨_, rfl⟩
 have HS0 := hide hS0
 have HM := hide hM
 have H64 := hide h64
 have HL0 := hide hM60
 have H1 := hide h1
 have H2 := hide h2
 have H3 := hide h3
 have H4 := hide h4
 have H5 := hide h5
 clear hS0 hM hM60 h1 h2 h3 h4 h64 h5
 have hsz : a.size = 64 := H64.out
 have hsz64 : ((a.size : Int) == 64) = true := by rw [hsz]; rfl
 obtain ⟨hx, hz, hb0⟩ := two_boxes w 0 0 0 ⟨#[]⟩ 0 0 0 0 ⟨#[]⟩ 0
 have HB0 := hide hb0
 clear hb0
 go_enter Tryz.func69, Tryz.ntmps69
 go_wp2_with fail
 generalize (w.alloc _).alloc _ = w0 at *
 refine (rOpen_good a w0 M (by omega) HM.out S0 HS0.out).mono ?_
 rintro r w1 ⟨rfl, hb1⟩
 have hx1 := hx.below hb1
 have hz1 := hz.below hb1
 have HB1 := hide (HB0.out.trans (hb1.mono HB0.out.size))
 clear hx hz hb1 HB0
 have hr0 := rr_new w1 S0
 have hb2 := rr_below w1 S0
 have hx2 := hx1.below hb2
 have hz2 := hz1.below hb2
 have HB2 := hide (HB1.out.trans (hb2.mono HB1.out.size))
 obtain ⟨R, hR⟩ : ∃ R, R = w1.heap.size := ⟨_, rfl⟩
 have hxl := hx1.lt
 have hzl := hz1.lt
 rw [← hR] at hxl hzl hr0
 rw [← HS0.out] at hr0
 clear hx1 hz1 hb2 HB1
 go_wp2_with fail
 rw [← hR]
 have hneX : w.heap.size ≠ R := by omega
 have hneZ : w.heap.size + 1 ≠ R := by omega
 have hRl : w.heap.size ≤ R := by omega
 clear hR
 rw [HS0.out] at hr0
 generalize w1.alloc _ = w2 at *
 rw [← HS0.out] at hr0
 refine (rNumber_at R 0 M w2 hr0 HL0.out zg l1 e1 H1.out).mono ?_
 rintro r w3 ⟨rfl, hr1, hg1, hl1⟩
 have HL1 := hide hl1
 have hx3 := hx2.only hg1 hneX
 have hz3 := hz2.only hg1 hneZ
 have HB3 := hide (HB2.out.trans (only_below hg1 hRl hr0.lt))
 clear hx2 hz2 hg1 hr0 hl1 HB2
 go_wp2_with fail
 refine (rNumber_at R e1 l1 w3 hr1 HL1.out zs l2 e2 H2.out).mono ?_
 rintro r w4 ⟨rfl, hr2, hg2, hl2⟩
 have HL2 := hide hl2
 have hx4 := hx3.only hg2 hneX
 have hz4 := hz3.only hg2 hneZ
 have HB4 := hide (HB3.out.trans (only_below hg2 hRl hr1.lt))
 have hRw4 := hr2.lt
 clear hx3 hz3 hg2 hr1 hl2 HB3
 have hv5 := Bx.new w4 (zs : Int) 0 0 ⟨#[]⟩ 0
 have hb5 := box_below w4 (zs : Int) 0 0 ⟨#[]⟩ 0
 have hx5 := hx4.below hb5
 have hz5 := hz4.below hb5
 have hr5 := rr_keep hr2 hb5
 have HB5 := hide (HB4.out.trans (hb5.mono HB4.out.size))
 obtain ⟨V, hV⟩ : ∃ V, V = w4.heap.size := ⟨_, rfl⟩
 have hVX := hx4.lt
 have hVZ := hz4.lt
 have hVl := HB4.out.size
 rw [← hV] at hVX hVZ hRw4 hv5 hVl
 have hneVR : V ≠ R := by omega
 have hneVX : V ≠ w.heap.size := by omega
 have hneVZ : V ≠ w.heap.size + 1 := by omega
 clear hx4 hz4 hr2 hb5 HB4
 go_wp2_with fail
 rw [← hV]
 clear hV hVX hVZ hRw4
 generalize w4.alloc _ = w5 at *
 refine (rNumber_at R e2 l2 w5 hr5 HL2.out zk l3 e3 H3.out).mono ?_
 rintro r w6 ⟨rfl, hr3, hg3, hl3⟩
 have HL3 := hide hl3
 have hx6 := hx5.only hg3 hneX
 have hz6 := hz5.only hg3 hneZ
 have hv6 := hv5.only hg3 hneVR
 have HB6 := hide (HB5.out.trans (only_below hg3 hRl hr5.lt))
 have hc1 := hv6.c1
 have hf1 := hv6.free 1
 have hx7 := hx6.other (i := 1) hneVX (.int .i64 (zk : Int))
 have hz7 := hz6.other (i := 1) hneVZ (.int .i64 (zk : Int))
 have hv7 := hv6.set1 (zk : Int)
 have hr7 := rr_other hr3 (i := 1) hneVR (.int .i64 (zk : Int))
 have HB7 := hide (HB6.out.setCell (p := ⟨V, 1, none⟩) hVl (.int .i64 (zk : Int)))
 have hd1 := hv7.c1
 clear hx5 hz5 hv5 hg3 hr5 hl3 HB5 hx6 hz6 hv6 hr3 HB6
 go_wp2_with fail
 generalize w6.setCell _ _ = w7 at *
 refine (rNumber_at R e3 l3 w7 hr7 HL3.out z4 l4 e4 H4.out).mono ?_
 rintro r w8 ⟨rfl, hr4, hg4, hl4⟩
 have HL4 := hide hl4
 have hx8 := hx7.only hg4 hneX
 have hz8 := hz7.only hg4 hneZ
 have hv8 := hv7.only hg4 hneVR
 have HB8 := hide (HB7.out.trans (only_below hg4 hRl hr7.lt))
 have hc4 := hv8.c2
 have hf4 := hv8.free 2
 have hx9 := hx8.other (i := 2) hneVX (.int .i64 (z4 : Int))
 have hz9 := hz8.other (i := 2) hneVZ (.int .i64 (z4 : Int))
 have hv9 := hv8.set2 (z4 : Int)
 have hr9 := rr_other hr4 (i := 2) hneVR (.int .i64 (z4 : Int))
 have HB9 := hide (HB8.out.setCell (p := ⟨V, 2, none⟩) hVl (.int .i64 (z4 : Int)))
 clear hx7 hz7 hv7 hg4 hr7 hl4 HB7 hx8 hz8 hv8 hr4 HB8 hc1 hf1 hd1
 go_wp2_with fail
 generalize w8.setCell _ _ = w9 at *
 refine (rText_at R e4 l4 w9 hr9 HL4.out zd l5 0 H5.out).mono ?_
 rintro r w10 ⟨rfl, hr10, hg10⟩
 have hx10 := hx9.only hg10 hneX
 have hz10 := hz9.only hg10 hneZ
 have hv10 := hv9.only hg10 hneVR
 have HB10 := hide (HB9.out.trans (only_below hg10 hRl hr9.lt))
 have hc3 := hv10.c3
 have hf3 := hv10.free 3
 have hee := blk_cell1 hr10
 have vc0 := hv10.c0
 have vc1 := hv10.c1
 have vc2 := hv10.c2
 have vc4 := hv10.c4
 have hx11 := hx10.other (i := 3) hneVX (.string (str zd))
 have hz11 := hz10.other (i := 3) hneVZ (.string (str zd))
 have hv11 := hv10.set3 (str zd)
 have hr11 := rr_other hr10 (i := 3) hneVR (.string (str zd))
 have HB11 := hide (HB10.out.setCell (p := ⟨V, 3, none⟩) hVl (.string (str zd)))
 clear hx9 hz9 hv9 hg10 hr9 HB9 hx10 hz10 hv10 hr10 HB10 hc4 hf4
 clear hr11
 go_wp2_with fail
 generalize w10.setCell _ _ = wA at *
 refine (rRight_any (zs : Int) (zk : Int) (z4 : Int) (str zd) 0 wA).mono ?_
 rintro r wB ⟨⟨B, rfl, hB⟩, hbB⟩
 have hxB := hx11.below hbB
 have hzB := hz11.below hbB
 have hvB := hv11.below hbB
 have HBB := hide (HB11.out.trans (hbB.mono HB11.out.size))
 obtain rfl : B = false := by cases B with | false => rfl | true => exact absurd (hB.1 rfl) HN.out
 clear hx11 hz11 hv11 hbB hB hvB vc0 vc1 vc2 vc4 hee hc3
 have xc0 := hxB.c0
 have xc1 := hxB.c1
 have xc2 := hxB.c2
 have xc3 := hxB.c3
 have xc4 := hxB.c4
 have xf0 := hxB.free 0
 have xf1 := hxB.free 1
 have xf2 := hxB.free 2
 have xf3 := hxB.free 3
 have xf4 := hxB.free 4
 have zc0 := hzB.c0
 have zc1 := hzB.c1
 have zc2 := hzB.c2
 have zc3 := hzB.c3
 have zc4 := hzB.c4
 have HX := hide (hxB.put 0 0 0 ⟨#[]⟩ 0)
 have HY := hide (below_put HBB.out (Nat.le_refl _) 0 0 0 ⟨#[]⟩ 0).drew
 clear hxB hzB
 go_wp2_with fail
 go_region
 go_wp2
 refine bodyPost_ret (results_tct rfl _ _ w.heap.size 100 _ (0, 0) _ rfl (show _ from HX.out) Tryz.underlying100 rfl rec_size) rfl ?_
 exact ⟨rfl, HY.out⟩
set_option maxRecDepth 100000 in
set_option maxHeartbeats 2000000 in
theorem rDecode_wunlike (a : ByteArray) (w : World) (M : List UInt8) (h64 : a.size = 64) (hM : a.data.toList = seal4 M) (hM60 : M.length ≤ 60) {l1 l2 l3 l4 l5 zd : List UInt8} {zg zs zk z4 e1 e2 e3 e4 : Nat} (h1 : rnum M 0 = (zg, l1, e1)) (h2 : rnum l1 e1 = (zs, l2, e2)) (h3 : rnum l2 e2 = (zk, l3, e3)) (h4 : rnum l3 e3 = (z4, l4, e4)) (h5 : rtext l4 e4 16 = (zd, l5, 0)) (hk : ((zk : Int) == 1) = true) (hn : Rgt (zs : Int) (zk : Int) (z4 : Int) (str zd).size 0) (SF : ByteArray) (hSF : str (sec (zg : Int) (zs : Int) (zk : Int) (z4 : Int) (str zd) 0) = SF) (hcmp : (SF.toList == a.toList) = false) :
 Calls Tryz.prog 69 #[.string a] w fun e w' => e = .returned (.tuple #[.int .i64 0, rec5 0 0 0 ⟨#[]⟩ 0, .int .i64 1]) ∧ Below w.heap.size w w' := by
 have HN := hide hn
 have HSF := hide hSF
 clear hn hSF
 obtain ⟨S0, hS0⟩ : ∃ S, str M = S := ⟨_, rfl⟩
 have HS0 := hide hS0
 have HM := hide hM
 have H64 := hide h64
 have HL0 := hide hM60
 have H1 := hide h1
 have H2 := hide h2
 have H3 := hide h3
 have H4 := hide h4
 have H5 := hide h5
 clear hS0 hM hM60 h1 h2 h3 h4 h64 h5
 have hsz : a.size = 64 := H64.out
 have hsz64 : ((a.size : Int) == 64) = true := by rw [hsz]; rfl
 obtain ⟨hx, hz, hb0⟩ := two_boxes w 0 0 0 ⟨#[]⟩ 0 0 0 0 ⟨#[]⟩ 0
 have HB0 := hide hb0
 clear hb0
 go_enter Tryz.func69, Tryz.ntmps69
 go_wp2_with fail
 generalize (w.alloc _).alloc _ = w0 at *
 refine (rOpen_good a w0 M (by omega) HM.out S0 HS0.out).mono ?_
 rintro r w1 ⟨rfl, hb1⟩
 have hx1 := hx.below hb1
 have hz1 := hz.below hb1
 have HB1 := hide (HB0.out.trans (hb1.mono HB0.out.size))
 clear hx hz hb1 HB0
 have hr0 := rr_new w1 S0
 have hb2 := rr_below w1 S0
 have hx2 := hx1.below hb2
 have hz2 := hz1.below hb2
 have HB2 := hide (HB1.out.trans (hb2.mono HB1.out.size))
 obtain ⟨R, hR⟩ : ∃ R, R = w1.heap.size := ⟨_, rfl⟩
 have hxl := hx1.lt
 have hzl := hz1.lt
 rw [← hR] at hxl hzl hr0
 rw [← HS0.out] at hr0
 clear hx1 hz1 hb2 HB1
 go_wp2_with fail
 rw [← hR]
 have hneX : w.heap.size ≠ R := by omega
 have hneZ : w.heap.size + 1 ≠ R := by omega
 have hRl : w.heap.size ≤ R := by omega
 clear hR
 rw [HS0.out] at hr0
 generalize w1.alloc _ = w2 at *
 rw [← HS0.out] at hr0
 refine (rNumber_at R 0 M w2 hr0 HL0.out zg l1 e1 H1.out).mono ?_
 rintro r w3 ⟨rfl, hr1, hg1, hl1⟩
 have HL1 := hide hl1
 have hx3 := hx2.only hg1 hneX
 have hz3 := hz2.only hg1 hneZ
 have HB3 := hide (HB2.out.trans (only_below hg1 hRl hr0.lt))
 clear hx2 hz2 hg1 hr0 hl1 HB2
 go_wp2_with fail
 refine (rNumber_at R e1 l1 w3 hr1 HL1.out zs l2 e2 H2.out).mono ?_
 rintro r w4 ⟨rfl, hr2, hg2, hl2⟩
 have HL2 := hide hl2
 have hx4 := hx3.only hg2 hneX
 have hz4 := hz3.only hg2 hneZ
 have HB4 := hide (HB3.out.trans (only_below hg2 hRl hr1.lt))
 have hRw4 := hr2.lt
 clear hx3 hz3 hg2 hr1 hl2 HB3
 have hv5 := Bx.new w4 (zs : Int) 0 0 ⟨#[]⟩ 0
 have hb5 := box_below w4 (zs : Int) 0 0 ⟨#[]⟩ 0
 have hx5 := hx4.below hb5
 have hz5 := hz4.below hb5
 have hr5 := rr_keep hr2 hb5
 have HB5 := hide (HB4.out.trans (hb5.mono HB4.out.size))
 obtain ⟨V, hV⟩ : ∃ V, V = w4.heap.size := ⟨_, rfl⟩
 have hVX := hx4.lt
 have hVZ := hz4.lt
 have hVl := HB4.out.size
 rw [← hV] at hVX hVZ hRw4 hv5 hVl
 have hneVR : V ≠ R := by omega
 have hneVX : V ≠ w.heap.size := by omega
 have hneVZ : V ≠ w.heap.size + 1 := by omega
 clear hx4 hz4 hr2 hb5 HB4
 go_wp2_with fail
 rw [← hV]
 clear hV hVX hVZ hRw4
 generalize w4.alloc _ = w5 at *
 refine (rNumber_at R e2 l2 w5 hr5 HL2.out zk l3 e3 H3.out).mono ?_
 rintro r w6 ⟨rfl, hr3, hg3, hl3⟩
 have HL3 := hide hl3
 have hx6 := hx5.only hg3 hneX
 have hz6 := hz5.only hg3 hneZ
 have hv6 := hv5.only hg3 hneVR
 have HB6 := hide (HB5.out.trans (only_below hg3 hRl hr5.lt))
 have hc1 := hv6.c1
 have hf1 := hv6.free 1
 have hx7 := hx6.other (i := 1) hneVX (.int .i64 (zk : Int))
 have hz7 := hz6.other (i := 1) hneVZ (.int .i64 (zk : Int))
 have hv7 := hv6.set1 (zk : Int)
 have hr7 := rr_other hr3 (i := 1) hneVR (.int .i64 (zk : Int))
 have HB7 := hide (HB6.out.setCell (p := ⟨V, 1, none⟩) hVl (.int .i64 (zk : Int)))
 have hd1 := hv7.c1
 clear hx5 hz5 hv5 hg3 hr5 hl3 HB5 hx6 hz6 hv6 hr3 HB6
 go_wp2_with fail
 generalize w6.setCell _ _ = w7 at *
 refine (rNumber_at R e3 l3 w7 hr7 HL3.out z4 l4 e4 H4.out).mono ?_
 rintro r w8 ⟨rfl, hr4, hg4, hl4⟩
 have HL4 := hide hl4
 have hx8 := hx7.only hg4 hneX
 have hz8 := hz7.only hg4 hneZ
 have hv8 := hv7.only hg4 hneVR
 have HB8 := hide (HB7.out.trans (only_below hg4 hRl hr7.lt))
 have hc4 := hv8.c2
 have hf4 := hv8.free 2
 have hx9 := hx8.other (i := 2) hneVX (.int .i64 (z4 : Int))
 have hz9 := hz8.other (i := 2) hneVZ (.int .i64 (z4 : Int))
 have hv9 := hv8.set2 (z4 : Int)
 have hr9 := rr_other hr4 (i := 2) hneVR (.int .i64 (z4 : Int))
 have HB9 := hide (HB8.out.setCell (p := ⟨V, 2, none⟩) hVl (.int .i64 (z4 : Int)))
 clear hx7 hz7 hv7 hg4 hr7 hl4 HB7 hx8 hz8 hv8 hr4 HB8 hc1 hf1 hd1
 go_wp2_with fail
 generalize w8.setCell _ _ = w9 at *
 refine (rText_at R e4 l4 w9 hr9 HL4.out zd l5 0 H5.out).mono ?_
 rintro r w10 ⟨rfl, hr10, hg10⟩
 have hx10 := hx9.only hg10 hneX
 have hz10 := hz9.only hg10 hneZ
 have hv10 := hv9.only hg10 hneVR
 have HB10 := hide (HB9.out.trans (only_below hg10 hRl hr9.lt))
 have hc3 := hv10.c3
 have hf3 := hv10.free 3
 have hee := blk_cell1 hr10
 have vc0 := hv10.c0
 have vc1 := hv10.c1
 have vc2 := hv10.c2
 have vc4 := hv10.c4
 have hx11 := hx10.other (i := 3) hneVX (.string (str zd))
 have hz11 := hz10.other (i := 3) hneVZ (.string (str zd))
 have hv11 := hv10.set3 (str zd)
 have hr11 := rr_other hr10 (i := 3) hneVR (.string (str zd))
 have HB11 := hide (HB10.out.setCell (p := ⟨V, 3, none⟩) hVl (.string (str zd)))
 clear hx9 hz9 hv9 hg10 hr9 HB9 hx10 hz10 hv10 hr10 HB10 hc4 hf4
 clear hr11
 go_wp2_with fail
 generalize w10.setCell _ _ = wA at *
 refine (rRight_any (zs : Int) (zk : Int) (z4 : Int) (str zd) 0 wA).mono ?_
 rintro r wB ⟨⟨B, rfl, hB⟩, hbB⟩
 have hxB := hx11.below hbB
 have hzB := hz11.below hbB
 have hvB := hv11.below hbB
 have HBB := hide (HB11.out.trans (hbB.mono HB11.out.size))
 obtain rfl : B = true := hB.2 HN.out
 clear hx11 hz11 hv11 hbB hB vc0 vc1 vc2 vc4 hee hc3
 have vc0 := hvB.c0
 have vc1 := hvB.c1
 have vc2 := hvB.c2
 have vc3 := hvB.c3
 have vc4 := hvB.c4
 go_wp2_with fail
 refine (rBytes_any (zg : Int) (zs : Int) (zk : Int) (z4 : Int) (str zd) 0 wB HN.out SF HSF.out).mono ?_
 rintro r wC ⟨rfl, hbC⟩
 have hxC := hxB.below hbC
 have hzC := hzB.below hbC
 have hvC := hvB.below hbC
 have HBC := hide (HBB.out.trans (hbC.mono HBB.out.size))
 clear hxB hzB hvB hbC HBB vc0 vc1 vc2 vc3 vc4
 clear hvC
 have xc0 := hxC.c0
 have xc1 := hxC.c1
 have xc2 := hxC.c2
 have xc3 := hxC.c3
 have xc4 := hxC.c4
 have xf0 := hxC.free 0
 have xf1 := hxC.free 1
 have xf2 := hxC.free 2
 have xf3 := hxC.free 3
 have xf4 := hxC.free 4
 have zc0 := hzC.c0
 have zc1 := hzC.c1
 have zc2 := hzC.c2
 have zc3 := hzC.c3
 have zc4 := hzC.c4
 have HX := hide (hxC.put 0 0 0 ⟨#[]⟩ 0)
 have HY := hide (below_put HBC.out (Nat.le_refl _) 0 0 0 ⟨#[]⟩ 0).drew
 clear hxC hzC
 go_wp2_with fail
 go_region
 go_wp2
 refine bodyPost_ret (results_tct rfl _ _ w.heap.size 100 _ (0, 0) _ rfl (show _ from HX.out) Tryz.underlying100 rfl rec_size) rfl ?_
 exact ⟨rfl, HY.out⟩
set_option maxRecDepth 100000 in
set_option maxHeartbeats 2000000 in
theorem rDecode_wsame (a : ByteArray) (w : World) (M : List UInt8) (h64 : a.size = 64) (hM : a.data.toList = seal4 M) (hM60 : M.length ≤ 60) {l1 l2 l3 l4 l5 zd : List UInt8} {zg zs zk z4 e1 e2 e3 e4 : Nat} (h1 : rnum M 0 = (zg, l1, e1)) (h2 : rnum l1 e1 = (zs, l2, e2)) (h3 : rnum l2 e2 = (zk, l3, e3)) (h4 : rnum l3 e3 = (z4, l4, e4)) (h5 : rtext l4 e4 16 = (zd, l5, 0)) (hk : ((zk : Int) == 1) = true) (hn : Rgt (zs : Int) (zk : Int) (z4 : Int) (str zd).size 0) (SF : ByteArray) (hSF : str (sec (zg : Int) (zs : Int) (zk : Int) (z4 : Int) (str zd) 0) = SF) (hcmp : (SF.toList == a.toList) = true) :
 Calls Tryz.prog 69 #[.string a] w fun e w' => e = .returned (.tuple #[.int .i64 (zg : Int), rec5 (zs : Int) (zk : Int) (z4 : Int) (str zd) 0, .int .i64 0]) ∧ Below w.heap.size w w' := by
 have HN := hide hn
 have HSF := hide hSF
 clear hn hSF
 obtain ⟨S0, hS0⟩ : ∃ S, str M = S := ⟨_, rfl⟩
 have HS0 := hide hS0
 have HM := hide hM
 have H64 := hide h64
 have HL0 := hide hM60
 have H1 := hide h1
 have H2 := hide h2
 have H3 := hide h3
 have H4 := hide h4
 have H5 := hide h5
 clear hS0 hM hM60 h1 h2 h3 h4 h64 h5
 have hsz : a.size = 64 := H64.out
 have hsz64 : ((a.size : Int) == 64) = true := by rw [hsz]; rfl
 obtain ⟨hx, hz, hb0⟩ := two_boxes w 0 0 0 ⟨#[]⟩ 0 0 0 0 ⟨#[]⟩ 0
 have HB0 := hide hb0
 clear hb0
 go_enter Tryz.func69, Tryz.ntmps69
 go_wp2_with fail
 generalize (w.alloc _).alloc _ = w0 at *
 refine (rOpen_good a w0 M (by omega) HM.out S0 HS0.out).mono ?_
 rintro r w1 ⟨rfl, hb1⟩
 have hx1 := hx.below hb1
 have hz1 := hz.below hb1
 have HB1 := hide (HB0.out.trans (hb1.mono HB0.out.size))
 clear hx hz hb1 HB0
 have hr0 := rr_new w1 S0
 have hb2 := rr_below w1 S0
 have hx2 := hx1.below hb2
 have hz2 := hz1.below hb2
 have HB2 := hide (HB1.out.trans (hb2.mono HB1.out.size))
 obtain ⟨R, hR⟩ : ∃ R, R = w1.heap.size := ⟨_, rfl⟩
 have hxl := hx1.lt
 have hzl := hz1.lt
 rw [← hR] at hxl hzl hr0
 rw [← HS0.out] at hr0
 clear hx1 hz1 hb2 HB1
 go_wp2_with fail
 rw [← hR]
 have hneX : w.heap.size ≠ R := by omega
 have hneZ : w.heap.size + 1 ≠ R := by omega
 have hRl : w.heap.size ≤ R := by omega
 clear hR
 rw [HS0.out] at hr0
 generalize w1.alloc _ = w2 at *
 rw [← HS0.out] at hr0
 refine (rNumber_at R 0 M w2 hr0 HL0.out zg l1 e1 H1.out).mono ?_
 rintro r w3 ⟨rfl, hr1, hg1, hl1⟩
 have HL1 := hide hl1
 have hx3 := hx2.only hg1 hneX
 have hz3 := hz2.only hg1 hneZ
 have HB3 := hide (HB2.out.trans (only_below hg1 hRl hr0.lt))
 clear hx2 hz2 hg1 hr0 hl1 HB2
 go_wp2_with fail
 refine (rNumber_at R e1 l1 w3 hr1 HL1.out zs l2 e2 H2.out).mono ?_
 rintro r w4 ⟨rfl, hr2, hg2, hl2⟩
 have HL2 := hide hl2
 have hx4 := hx3.only hg2 hneX
 have hz4 := hz3.only hg2 hneZ
 have HB4 := hide (HB3.out.trans (only_below hg2 hRl hr1.lt))
 have hRw4 := hr2.lt
 clear hx3 hz3 hg2 hr1 hl2 HB3
 have hv5 := Bx.new w4 (zs : Int) 0 0 ⟨#[]⟩ 0
 have hb5 := box_below w4 (zs : Int) 0 0 ⟨#[]⟩ 0
 have hx5 := hx4.below hb5
 have hz5 := hz4.below hb5
 have hr5 := rr_keep hr2 hb5
 have HB5 := hide (HB4.out.trans (hb5.mono HB4.out.size))
 obtain ⟨V, hV⟩ : ∃ V, V = w4.heap.size := ⟨_, rfl⟩
 have hVX := hx4.lt
 have hVZ := hz4.lt
 have hVl := HB4.out.size
 rw [← hV] at hVX hVZ hRw4 hv5 hVl
 have hneVR : V ≠ R := by omega
 have hneVX : V ≠ w.heap.size := by omega
 have hneVZ : V ≠ w.heap.size + 1 := by omega
 clear hx4 hz4 hr2 hb5 HB4
 go_wp2_with fail
 rw [← hV]
 clear hV hVX hVZ hRw4
 generalize w4.alloc _ = w5 at *
 refine (rNumber_at R e2 l2 w5 hr5 HL2.out zk l3 e3 H3.out).mono ?_
 rintro r w6 ⟨rfl, hr3, hg3, hl3⟩
 have HL3 := hide hl3
 have hx6 := hx5.only hg3 hneX
 have hz6 := hz5.only hg3 hneZ
 have hv6 := hv5.only hg3 hneVR
 have HB6 := hide (HB5.out.trans (only_below hg3 hRl hr5.lt))
 have hc1 := hv6.c1
 have hf1 := hv6.free 1
 have hx7 := hx6.other (i := 1) hneVX (.int .i64 (zk : Int))
 have hz7 := hz6.other (i := 1) hneVZ (.int .i64 (zk : Int))
 have hv7 := hv6.set1 (zk : Int)
 have hr7 := rr_other hr3 (i := 1) hneVR (.int .i64 (zk : Int))
 have HB7 := hide (HB6.out.setCell (p := ⟨V, 1, none⟩) hVl (.int .i64 (zk : Int)))
 have hd1 := hv7.c1
 clear hx5 hz5 hv5 hg3 hr5 hl3 HB5 hx6 hz6 hv6 hr3 HB6
 go_wp2_with fail
 generalize w6.setCell _ _ = w7 at *
 refine (rNumber_at R e3 l3 w7 hr7 HL3.out z4 l4 e4 H4.out).mono ?_
 rintro r w8 ⟨rfl, hr4, hg4, hl4⟩
 have HL4 := hide hl4
 have hx8 := hx7.only hg4 hneX
 have hz8 := hz7.only hg4 hneZ
 have hv8 := hv7.only hg4 hneVR
 have HB8 := hide (HB7.out.trans (only_below hg4 hRl hr7.lt))
 have hc4 := hv8.c2
 have hf4 := hv8.free 2
 have hx9 := hx8.other (i := 2) hneVX (.int .i64 (z4 : Int))
 have hz9 := hz8.other (i := 2) hneVZ (.int .i64 (z4 : Int))
 have hv9 := hv8.set2 (z4 : Int)
 have hr9 := rr_other hr4 (i := 2) hneVR (.int .i64 (z4 : Int))
 have HB9 := hide (HB8.out.setCell (p := ⟨V, 2, none⟩) hVl (.int .i64 (z4 : Int)))
 clear hx7 hz7 hv7 hg4 hr7 hl4 HB7 hx8 hz8 hv8 hr4 HB8 hc1 hf1 hd1
 go_wp2_with fail
 generalize w8.setCell _ _ = w9 at *
 refine (rText_at R e4 l4 w9 hr9 HL4.out zd l5 0 H5.out).mono ?_
 rintro r w10 ⟨rfl, hr10, hg10⟩
 have hx10 := hx9.only hg10 hneX
 have hz10 := hz9.only hg10 hneZ
 have hv10 := hv9.only hg10 hneVR
 have HB10 := hide (HB9.out.trans (only_below hg10 hRl hr9.lt))
 have hc3 := hv10.c3
 have hf3 := hv10.free 3
 have hee := blk_cell1 hr10
 have vc0 := hv10.c0
 have vc1 := hv10.c1
 have vc2 := hv10.c2
 have vc4 := hv10.c4
 have hx11 := hx10.other (i := 3) hneVX (.string (str zd))
 have hz11 := hz10.other (i := 3) hneVZ (.string (str zd))
 have hv11 := hv10.set3 (str zd)
 have hr11 := rr_other hr10 (i := 3) hneVR (.string (str zd))
 have HB11 := hide (HB10.out.setCell (p := ⟨V, 3, none⟩) hVl (.string (str zd)))
 clear hx9 hz9 hv9 hg10 hr9 HB9 hx10 hz10 hv10 hr10 HB10 hc4 hf4
 clear hr11
 go_wp2_with fail
 generalize w10.setCell _ _ = wA at *
 refine (rRight_any (zs : Int) (zk : Int) (z4 : Int) (str zd) 0 wA).mono ?_
 rintro r wB ⟨⟨B, rfl, hB⟩, hbB⟩
 have hxB := hx11.below hbB
 have hzB := hz11.below hbB
 have hvB := hv11.below hbB
 have HBB := hide (HB11.out.trans (hbB.mono HB11.out.size))
 obtain rfl : B = true := hB.2 HN.out
 clear hx11 hz11 hv11 hbB hB vc0 vc1 vc2 vc4 hee hc3
 have vc0 := hvB.c0
 have vc1 := hvB.c1
 have vc2 := hvB.c2
 have vc3 := hvB.c3
 have vc4 := hvB.c4
 go_wp2_with fail
 refine (rBytes_any (zg : Int) (zs : Int) (zk : Int) (z4 : Int) (str zd) 0 wB HN.out SF HSF.out).mono ?_
 rintro r wC ⟨rfl, hbC⟩
 have hxC := hxB.below hbC
 have hzC := hzB.below hbC
 have hvC := hvB.below hbC
 have HBC := hide (HBB.out.trans (hbC.mono HBB.out.size))
 clear hxB hzB hvB hbC HBB vc0 vc1 vc2 vc3 vc4
 have vc0 := hvC.c0
 have vc1 := hvC.c1
 have vc2 := hvC.c2
 have vc3 := hvC.c3
 have vc4 := hvC.c4
 have xc0 := hxC.c0
 have xc1 := hxC.c1
 have xc2 := hxC.c2
 have xc3 := hxC.c3
 have xc4 := hxC.c4
 have xf0 := hxC.free 0
 have xf1 := hxC.free 1
 have xf2 := hxC.free 2
 have xf3 := hxC.free 3
 have xf4 := hxC.free 4
 have HX := hide (hxC.put (zs : Int) (zk : Int) (z4 : Int) (str zd) 0)
 have HY := hide (below_put HBC.out (Nat.le_refl _) (zs : Int) (zk : Int) (z4 : Int) (str zd) 0).drew
 clear hxC hzC hvC
 go_wp2_with fail
 go_region
 go_wp2
 refine bodyPost_ret (results_tct rfl _ _ w.heap.size 100 _ (0, 0) _ rfl (show _ from HX.out) Tryz.underlying100 rfl rec_size) rfl ?_
 exact ⟨rfl, HY.out⟩
end Go.Proofs.YtapiogcoipeinaaGreatDoor.Rc
namespace Go.Proofs.YtapiogcoipeinaaGreatDoor.Rc
open Go.RowKit
open Pk hiding str str_data str_size str_of run_str head_str str_append
open Sm hiding run_str
open Fa
set_option maxRecDepth 100000 in
set_option maxHeartbeats 2000000 in
theorem rDecode_oerr (a : ByteArray) (w : World) (M : List UInt8) (h64 : a.size = 64) (hM : a.data.toList = seal4 M) (hM60 : M.length ≤ 60) {l1 l2 l3 l4 : List UInt8} {zg zs zk z4 e1 e2 e3 e4 : Nat} (h1 : rnum M 0 = (zg, l1, e1)) (h2 : rnum l1 e1 = (zs, l2, e2)) (h3 : rnum l2 e2 = (zk, l3, e3)) (h4 : rnum l3 e3 = (z4, l4, e4)) (hk : ((zk : Int) == 1) = false) (he : e4 ≠ 0) :
 Calls Tryz.prog 69 #[.string a] w fun e w' => e = .returned (.tuple #[.int .i64 0, rec5 0 0 0 ⟨#[]⟩ 0, .int .i64 1]) ∧ Below w.heap.size w w' := by
 have HE := hide he
 clear he
 obtain ⟨S0, hS0⟩ : ∃ S, str M = S := ⟨_, rfl⟩
 have HS0 := hide hS0
 have HM := hide hM
 have H64 := hide h64
 have HL0 := hide hM60
 have H1 := hide h1
 have H2 := hide h2
 have H3 := hide h3
 have H4 := hide h4
 clear hS0 hM hM60 h1 h2 h3 h4 h64
 have hsz : a.size = 64 := H64.out
 have hsz64 : ((a.size : Int) == 64) = true := by rw [hsz]; rfl
 obtain ⟨hx, hz, hb0⟩ := two_boxes w 0 0 0 ⟨#[]⟩ 0 0 0 0 ⟨#[]⟩ 0
 have HB0 := hide hb0
 clear hb0
 go_enter Tryz.func69, Tryz.ntmps69
 go_wp2_with fail
 generalize (w.alloc _).alloc _ = w0 at *
 refine (rOpen_good a w0 M (by omega) HM.out S0 HS0.out).mono ?_
 rintro r w1 ⟨rfl, hb1⟩
 have hx1 := hx.below hb1
 have hz1 := hz.below hb1
 have HB1 := hide (HB0.out.trans (hb1.mono HB0.out.size))
 clear hx hz hb1 HB0
 have hr0 := rr_new w1 S0
 have hb2 := rr_below w1 S0
 have hx2 := hx1.below hb2
 have hz2 := hz1.below hb2
 have HB2 := hide (HB1.out.trans (hb2.mono HB1.out.size))
 obtain ⟨R, hR⟩ : ∃ R, R = w1.heap.size := ⟨_, rfl⟩
 have hxl := hx1.lt
 have hzl := hz1.lt
 rw [← hR] at hxl hzl hr0
 rw [← HS0.out] at hr0
 clear hx1 hz1 hb2 HB1
 go_wp2_with fail
 rw [← hR]
 have hneX : w.heap.size ≠ R := by omega
 have hneZ : w.heap.size + 1 ≠ R := by omega
 have hRl : w.heap.size ≤ R := by omega
 clear hR
 rw [HS0.out] at hr0
 generalize w1.alloc _ = w2 at *
 rw [← HS0.out] at hr0
 refine (rNumber_at R 0 M w2 hr0 HL0.out zg l1 e1 H1.out).mono ?_
 rintro r w3 ⟨rfl, hr1, hg1, hl1⟩
 have HL1 := hide hl1
 have hx3 := hx2.only hg1 hneX
 have hz3 := hz2.only hg1 hneZ
 have HB3 := hide (HB2.out.trans (only_below hg1 hRl hr0.lt))
 clear hx2 hz2 hg1 hr0 hl1 HB2
 go_wp2_with fail
 refine (rNumber_at R e1 l1 w3 hr1 HL1.out zs l2 e2 H2.out).mono ?_
 rintro r w4 ⟨rfl, hr2, hg2, hl2⟩
 have HL2 := hide hl2
 have hx4 := hx3.only hg2 hneX
 have hz4 := hz3.only hg2 hneZ
 have HB4 := hide (HB3.out.trans (only_below hg2 hRl hr1.lt))
 have hRw4 := hr2.lt
 clear hx3 hz3 hg2 hr1 hl2 HB3
 have hv5 := Bx.new w4 (zs : Int) 0 0 ⟨#[]⟩ 0
 have hb5 := box_below w4 (zs : Int) 0 0 ⟨#[]⟩ 0
 have hx5 := hx4.below hb5
 have hz5 := hz4.below hb5
 have hr5 := rr_keep hr2 hb5
 have HB5 := hide (HB4.out.trans (hb5.mono HB4.out.size))
 obtain ⟨V, hV⟩ : ∃ V, V = w4.heap.size := ⟨_, rfl⟩
 have hVX := hx4.lt
 have hVZ := hz4.lt
 have hVl := HB4.out.size
 rw [← hV] at hVX hVZ hRw4 hv5 hVl
 have hneVR : V ≠ R := by omega
 have hneVX : V ≠ w.heap.size := by omega
 have hneVZ : V ≠ w.heap.size + 1 := by omega
 clear hx4 hz4 hr2 hb5 HB4
 go_wp2_with fail
 rw [← hV]
 clear hV hVX hVZ hRw4
 generalize w4.alloc _ = w5 at *
 refine (rNumber_at R e2 l2 w5 hr5 HL2.out zk l3 e3 H3.out).mono ?_
 rintro r w6 ⟨rfl, hr3, hg3, hl3⟩
 have HL3 := hide hl3
 have hx6 := hx5.only hg3 hneX
 have hz6 := hz5.only hg3 hneZ
 have hv6 := hv5.only hg3 hneVR
 have HB6 := hide (HB5.out.trans (only_below hg3 hRl hr5.lt))
 have hc1 := hv6.c1
 have hf1 := hv6.free 1
 have hx7 := hx6.other (i := 1) hneVX (.int .i64 (zk : Int))
 have hz7 := hz6.other (i := 1) hneVZ (.int .i64 (zk : Int))
 have hv7 := hv6.set1 (zk : Int)
 have hr7 := rr_other hr3 (i := 1) hneVR (.int .i64 (zk : Int))
 have HB7 := hide (HB6.out.setCell (p := ⟨V, 1, none⟩) hVl (.int .i64 (zk : Int)))
 have hd1 := hv7.c1
 clear hx5 hz5 hv5 hg3 hr5 hl3 HB5 hx6 hz6 hv6 hr3 HB6
 go_wp2_with fail
 generalize w6.setCell _ _ = w7 at *
 refine (rNumber_at R e3 l3 w7 hr7 HL3.out z4 l4 e4 H4.out).mono ?_
 rintro r w8 ⟨rfl, hr4, hg4, hl4⟩
 have HL4 := hide hl4
 have hx8 := hx7.only hg4 hneX
 have hz8 := hz7.only hg4 hneZ
 have hv8 := hv7.only hg4 hneVR
 have HB8 := hide (HB7.out.trans (only_below hg4 hRl hr7.lt))
 have hc4 := hv8.c4
 have hf4 := hv8.free 4
 have hee := blk_cell1 hr4
 have vc0 := hv8.c0
 have vc1 := hv8.c1
 have vc2 := hv8.c2
 have vc3 := hv8.c3
 have hx9 := hx8.other (i := 4) hneVX (.int .i64 (z4 : Int))
 have hz9 := hz8.other (i := 4) hneVZ (.int .i64 (z4 : Int))
 have hv9 := hv8.set4 (z4 : Int)
 have hr9 := rr_other hr4 (i := 4) hneVR (.int .i64 (z4 : Int))
 have HB9 := hide (HB8.out.setCell (p := ⟨V, 4, none⟩) hVl (.int .i64 (z4 : Int)))
 clear hx7 hz7 hv7 hg4 hr7 hl4 HB7 hx8 hz8 hv8 hr4 HB8 hc1 hf1 hd1
 have hne0 : ((e4 : Int) == 0) = false := by have := HE.out; simp; omega
 clear hv9 hr9
 go_wp2_with fail
 generalize w8.setCell _ _ = wA at *
 clear hee hc4 vc0 vc1 vc2 vc3
 have xc0 := hx9.c0
 have xc1 := hx9.c1
 have xc2 := hx9.c2
 have xc3 := hx9.c3
 have xc4 := hx9.c4
 have xf0 := hx9.free 0
 have xf1 := hx9.free 1
 have xf2 := hx9.free 2
 have xf3 := hx9.free 3
 have xf4 := hx9.free 4
 have zc0 := hz9.c0
 have zc1 := hz9.c1
 have zc2 := hz9.c2
 have zc3 := hz9.c3
 have zc4 := hz9.c4
 have HX := hide (hx9.put 0 0 0 ⟨#[]⟩ 0)
 have HY := hide (below_put HB9.out (Nat.le_refl _) 0 0 0 ⟨#[]⟩ 0).drew
 clear hx9 hz9
 go_region
 go_wp2
 refine bodyPost_ret (results_tct rfl _ _ w.heap.size 100 _ (0, 0) _ rfl (show _ from HX.out) Tryz.underlying100 rfl rec_size) rfl ?_
 exact ⟨rfl, HY.out⟩
set_option maxRecDepth 100000 in
set_option maxHeartbeats 2000000 in
theorem rDecode_onot (a : ByteArray) (w : World) (M : List UInt8) (h64 : a.size = 64) (hM : a.data.toList = seal4 M) (hM60 : M.length ≤ 60) {l1 l2 l3 l4 : List UInt8} {zg zs zk z4 e1 e2 e3 : Nat} (h1 : rnum M 0 = (zg, l1, e1)) (h2 : rnum l1 e1 = (zs, l2, e2)) (h3 : rnum l2 e2 = (zk, l3, e3)) (h4 : rnum l3 e3 = (z4, l4, 0)) (hk : ((zk : Int) == 1) = false) (hn : ¬ Rgt (zs : Int) (zk : Int) 0 (⟨#[]⟩ : ByteArray).size (z4 : Int)) :
 Calls Tryz.prog 69 #[.string a] w fun e w' => e = .returned (.tuple #[.int .i64 0, rec5 0 0 0 ⟨#[]⟩ 0, .int .i64 1]) ∧ Below w.heap.size w w' := by
 have HN := hide hn
 clear hn
 obtain ⟨S0, hS0⟩ : ∃ S, str M = S := ⟨_, rfl⟩
 have HS0 := hide hS0
 have HM := hide hM
 have H64 := hide h64
 have HL0 := hide hM60
 have H1 := hide h1
 have H2 := hide h2
 have H3 := hide h3
 have H4 := hide h4
 clear hS0 hM hM60 h1 h2 h3 h4 h64
 have hsz : a.size = 64 := H64.out
 have hsz64 : ((a.size : Int) == 64) = true := by rw [hsz]; rfl
 obtain ⟨hx, hz, hb0⟩ := two_boxes w 0 0 0 ⟨#[]⟩ 0 0 0 0 ⟨#[]⟩ 0
 have HB0 := hide hb0
 clear hb0
 go_enter Tryz.func69, Tryz.ntmps69
 go_wp2_with fail
 generalize (w.alloc _).alloc _ = w0 at *
 refine (rOpen_good a w0 M (by omega) HM.out S0 HS0.out).mono ?_
 rintro r w1 ⟨rfl, hb1⟩
 have hx1 := hx.below hb1
 have hz1 := hz.below hb1
 have HB1 := hide (HB0.out.trans (hb1.mono HB0.out.size))
 clear hx hz hb1 HB0
 have hr0 := rr_new w1 S0
 have hb2 := rr_below w1 S0
 have hx2 := hx1.below hb2
 have hz2 := hz1.below hb2
 have HB2 := hide (HB1.out.trans (hb2.mono HB1.out.size))
 obtain ⟨R, hR⟩ : ∃ R, R = w1.heap.size := ⟨_, rfl⟩
 have hxl := hx1.lt
 have hzl := hz1.lt
 rw [← hR] at hxl hzl hr0
 rw [← HS0.out] at hr0
 clear hx1 hz1 hb2 HB1
 go_wp2_with fail
 rw [← hR]
 have hneX : w.heap.size ≠ R := by omega
 have hneZ : w.heap.size + 1 ≠ R := by omega
 have hRl : w.heap.size ≤ R := by omega
 clear hR
 rw [HS0.out] at hr0
 generalize w1.alloc _ = w2 at *
 rw [← HS0.out] at hr0
 refine (rNumber_at R 0 M w2 hr0 HL0.out zg l1 e1 H1.out).mono ?_
 rintro r w3 ⟨rfl, hr1, hg1, hl1⟩
 have HL1 := hide hl1
 have hx3 := hx2.only hg1 hneX
 have hz3 := hz2.only hg1 hneZ
 have HB3 := hide (HB2.out.trans (only_below hg1 hRl hr0.lt))
 clear hx2 hz2 hg1 hr0 hl1 HB2
 go_wp2_with fail
 refine (rNumber_at R e1 l1 w3 hr1 HL1.out zs l2 e2 H2.out).mono ?_
 rintro r w4 ⟨rfl, hr2, hg2, hl2⟩
 have HL2 := hide hl2
 have hx4 := hx3.only hg2 hneX
 have hz4 := hz3.only hg2 hneZ
 have HB4 := hide (HB3.out.trans (only_below hg2 hRl hr1.lt))
 have hRw4 := hr2.lt
 clear hx3 hz3 hg2 hr1 hl2 HB3
 have hv5 := Bx.new w4 (zs : Int) 0 0 ⟨#[]⟩ 0
 have hb5 := box_below w4 (zs : Int) 0 0 ⟨#[]⟩ 0
 have hx5 := hx4.below hb5
 have hz5 := hz4.below hb5
 have hr5 := rr_keep hr2 hb5
 have HB5 := hide (HB4.out.trans (hb5.mono HB4.out.size))
 obtain ⟨V, hV⟩ : ∃ V, V = w4.heap.size := ⟨_, rfl⟩
 have hVX := hx4.lt
 have hVZ := hz4.lt
 have hVl := HB4.out.size
 rw [← hV] at hVX hVZ hRw4 hv5 hVl
 have hneVR : V ≠ R := by omega
 have hneVX : V ≠ w.heap.size := by omega
 have hneVZ : V ≠ w.heap.size + 1 := by omega
 clear hx4 hz4 hr2 hb5 HB4
 go_wp2_with fail
 rw [← hV]
 clear hV hVX hVZ hRw4
 generalize w4.alloc _ = w5 at *
 refine (rNumber_at R e2 l2 w5 hr5 HL2.out zk l3 e3 H3.out).mono ?_
 rintro r w6 ⟨rfl, hr3, hg3, hl3⟩
 have HL3 := hide hl3
 have hx6 := hx5.only hg3 hneX
 have hz6 := hz5.only hg3 hneZ
 have hv6 := hv5.only hg3 hneVR
 have HB6 := hide (HB5.out.trans (only_below hg3 hRl hr5.lt))
 have hc1 := hv6.c1
 have hf1 := hv6.free 1
 have hx7 := hx6.other (i := 1) hneVX (.int .i64 (zk : Int))
 have hz7 := hz6.other (i := 1) hneVZ (.int .i64 (zk : Int))
 have hv7 := hv6.set1 (zk : Int)
 have hr7 := rr_other hr3 (i := 1) hneVR (.int .i64 (zk : Int))
 have HB7 := hide (HB6.out.setCell (p := ⟨V, 1, none⟩) hVl (.int .i64 (zk : Int)))
 have hd1 := hv7.c1
 clear hx5 hz5 hv5 hg3 hr5 hl3 HB5 hx6 hz6 hv6 hr3 HB6
 go_wp2_with fail
 generalize w6.setCell _ _ = w7 at *
 refine (rNumber_at R e3 l3 w7 hr7 HL3.out z4 l4 0 H4.out).mono ?_
 rintro r w8 ⟨rfl, hr4, hg4, hl4⟩
 have HL4 := hide hl4
 have hx8 := hx7.only hg4 hneX
 have hz8 := hz7.only hg4 hneZ
 have hv8 := hv7.only hg4 hneVR
 have HB8 := hide (HB7.out.trans (only_below hg4 hRl hr7.lt))
 have hc4 := hv8.c4
 have hf4 := hv8.free 4
 have hee := blk_cell1 hr4
 have vc0 := hv8.c0
 have vc1 := hv8.c1
 have vc2 := hv8.c2
 have vc3 := hv8.c3
 have hx9 := hx8.other (i := 4) hneVX (.int .i64 (z4 : Int))
 have hz9 := hz8.other (i := 4) hneVZ (.int .i64 (z4 : Int))
 have hv9 := hv8.set4 (z4 : Int)
 have hr9 := rr_other hr4 (i := 4) hneVR (.int .i64 (z4 : Int))
 have HB9 := hide (HB8.out.setCell (p := ⟨V, 4, none⟩) hVl (.int .i64 (z4 : Int)))
 clear hx7 hz7 hv7 hg4 hr7 hl4 HB7 hx8 hz8 hv8 hr4 HB8 hc1 hf1 hd1
 clear hr9
 go_wp2_with fail
 generalize w8.setCell _ _ = wA at *
 refine (rRight_any (zs : Int) (zk : Int) 0 ⟨#[]⟩ (z4 : Int) wA).mono ?_
 rintro r wB ⟨⟨B, rfl, hB⟩, hbB⟩
 have hxB := hx9.below hbB
 have hzB := hz9.below hbB
 have hvB := hv9.below hbB
 have HBB := hide (HB9.out.trans (hbB.mono HB9.out.size))
 obtain rfl : B = false := by cases B with | false => rfl | true => exact absurd (hB.1 rfl) HN.out
 clear hx9 hz9 hv9 hbB hB hvB vc0 vc1 vc2 vc3 hee hc4
 have xc0 := hxB.c0
 have xc1 := hxB.c1
 have xc2 := hxB.c2
 have xc3 := hxB.c3
 have xc4 := hxB.c4
 have xf0 := hxB.free 0
 have xf1 := hxB.free 1
 have xf2 := hxB.free 2
 have xf3 := hxB.free 3
 have xf4 := hxB.free 4
 have zc0 := hzB.c0
 have zc1 := hzB.c1
 have zc2 := hzB.c2
 have zc3 := hzB.c3
 have zc4 := hzB.c4
 have HX := hide (hxB.put 0 0 0 ⟨#[]⟩ 0)
 have HY := hide (below_put HBB.out (Nat.le_refl _) 0 0 0 ⟨#[]⟩ 0).drew
 clear hxB hzB
 go_wp2_with fail
 go_region
 go_wp2
 refine bodyPost_ret (results_tct rfl _ _ w.heap.size 100 _ (0, 0) _ rfl (show _ from HX.out) Tryz.underlying100 rfl rec_size) rfl ?_
 exact ⟨rfl, HY.out⟩
set_option maxRecDepth 100000 in
set_option maxHeartbeats 2000000 in
theorem rDecode_ounlike (a : ByteArray) (w : World) (M : List UInt8) (h64 : a.size = 64) (hM : a.data.toList = seal4 M) (hM60 : M.length ≤ 60) {l1 l2 l3 l4 : List UInt8} {zg zs zk z4 e1 e2 e3 : Nat} (h1 : rnum M 0 = (zg, l1, e1)) (h2 : rnum l1 e1 = (zs, l2, e2)) (h3 : rnum l2 e2 = (zk, l3, e3)) (h4 : rnum l3 e3 = (z4, l4, 0)) (hk : ((zk : Int) == 1) = false) (hn : Rgt (zs : Int) (zk : Int) 0 (⟨#[]⟩ : ByteArray).size (z4 : Int)) (SF : ByteArray) (hSF : str (sec (zg : Int) (zs : Int) (zk : Int) 0 ⟨#[]⟩ (z4 : Int)) = SF) (hcmp : (SF.toList == a.toList) = false) :
 Calls Tryz.prog 69 #[.string a] w fun e w' => e = .returned (.tuple #[.int .i64 0, rec5 0 0 0 ⟨#[]⟩ 0, .int .i64 1]) ∧ Below w.heap.size w w' := by
 have HN := hide hn
 have HSF := hide hSF
 clear hn hSF
 obtain ⟨S0, hS0⟩ : ∃ S, str M = S := ⟨_, rfl⟩
 have HS0 := hide hS0
 have HM := hide hM
 have H64 := hide h64
 have HL0 := hide hM60
 have H1 := hide h1
 have H2 := hide h2
 have H3 := hide h3
 have H4 := hide h4
 clear hS0 hM hM60 h1 h2 h3 h4 h64
 have hsz : a.size = 64 := H64.out
 have hsz64 : ((a.size : Int) == 64) = true := by rw [hsz]; rfl
 obtain ⟨hx, hz, hb0⟩ := two_boxes w 0 0 0 ⟨#[]⟩ 0 0 0 0 ⟨#[]⟩ 0
 have HB0 := hide hb0
 clear hb0
 go_enter Tryz.func69, Tryz.ntmps69
 go_wp2_with fail
 generalize (w.alloc _).alloc _ = w0 at *
 refine (rOpen_good a w0 M (by omega) HM.out S0 HS0.out).mono ?_
 rintro r w1 ⟨rfl, hb1⟩
 have hx1 := hx.below hb1
 have hz1 := hz.below hb1
 have HB1 := hide (HB0.out.trans (hb1.mono HB0.out.size))
 clear hx hz hb1 HB0
 have hr0 := rr_new w1 S0
 have hb2 := rr_below w1 S0
 have hx2 := hx1.below hb2
 have hz2 := hz1.below hb2
 have HB2 := hide (HB1.out.trans (hb2.mono HB1.out.size))
 obtain ⟨R, hR⟩ : ∃ R, R = w1.heap.size := ⟨_, rfl⟩
 have hxl := hx1.lt
 have hzl := hz1.lt
 rw [← hR] at hxl hzl hr0
 rw [← HS0.out] at hr0
 clear hx1 hz1 hb2 HB1
 go_wp2_with fail
 rw [← hR]
 have hneX : w.heap.size ≠ R := by omega
 have hneZ : w.heap.size + 1 ≠ R := by omega
 have hRl : w.heap.size ≤ R := by omega
 clear hR
 rw [HS0.out] at hr0
 generalize w1.alloc _ = w2 at *
 rw [← HS0.out] at hr0
 refine (rNumber_at R 0 M w2 hr0 HL0.out zg l1 e1 H1.out).mono ?_
 rintro r w3 ⟨rfl, hr1, hg1, hl1⟩
 have HL1 := hide hl1
 have hx3 := hx2.only hg1 hneX
 have hz3 := hz2.only hg1 hneZ
 have HB3 := hide (HB2.out.trans (only_below hg1 hRl hr0.lt))
 clear hx2 hz2 hg1 hr0 hl1 HB2
 go_wp2_with fail
 refine (rNumber_at R e1 l1 w3 hr1 HL1.out zs l2 e2 H2.out).mono ?_
 rintro r w4 ⟨rfl, hr2, hg2, hl2⟩
 have HL2 := hide hl2
 have hx4 := hx3.only hg2 hneX
 have hz4 := hz3.only hg2 hneZ
 have HB4 := hide (HB3.out.trans (only_below hg2 hRl hr1.lt))
 have hRw4 := hr2.lt
 clear hx3 hz3 hg2 hr1 hl2 HB3
 have hv5 := Bx.new w4 (zs : Int) 0 0 ⟨#[]⟩ 0
 have hb5 := box_below w4 (zs : Int) 0 0 ⟨#[]⟩ 0
 have hx5 := hx4.below hb5
 have hz5 := hz4.below hb5
 have hr5 := rr_keep hr2 hb5
 have HB5 := hide (HB4.out.trans (hb5.mono HB4.out.size))
 obtain ⟨V, hV⟩ : ∃ V, V = w4.heap.size := ⟨_, rfl⟩
 have hVX := hx4.lt
 have hVZ := hz4.lt
 have hVl := HB4.out.size
 rw [← hV] at hVX hVZ hRw4 hv5 hVl
 have hneVR : V ≠ R := by omega
 have hneVX : V ≠ w.heap.size := by omega
 have hneVZ : V ≠ w.heap.size + 1 := by omega
 clear hx4 hz4 hr2 hb5 HB4
 go_wp2_with fail
 rw [← hV]
 clear hV hVX hVZ hRw4
 generalize w4.alloc _ = w5 at *
 refine (rNumber_at R e2 l2 w5 hr5 HL2.out zk l3 e3 H3.out).mono ?_
 rintro r w6 ⟨rfl, hr3, hg3, hl3⟩
 have HL3 := hide hl3
 have hx6 := hx5.only hg3 hneX
 have hz6 := hz5.only hg3 hneZ
 have hv6 := hv5.only hg3 hneVR
 have HB6 := hide (HB5.out.trans (only_below hg3 hRl hr5.lt))
 have hc1 := hv6.c1
 have hf1 := hv6.free 1
 have hx7 := hx6.other (i := 1) hneVX (.int .i64 (zk : Int))
 have hz7 := hz6.other (i := 1) hneVZ (.int .i64 (zk : Int))
 have hv7 := hv6.set1 (zk : Int)
 have hr7 := rr_other hr3 (i := 1) hneVR (.int .i64 (zk : Int))
 have HB7 := hide (HB6.out.setCell (p := ⟨V, 1, none⟩) hVl (.int .i64 (zk : Int)))
 have hd1 := hv7.c1
 clear hx5 hz5 hv5 hg3 hr5 hl3 HB5 hx6 hz6 hv6 hr3 HB6
 go_wp2_with fail
 generalize w6.setCell _ _ = w7 at *
 refine (rNumber_at R e3 l3 w7 hr7 HL3.out z4 l4 0 H4.out).mono ?_
 rintro r w8 ⟨rfl, hr4, hg4, hl4⟩
 have HL4 := hide hl4
 have hx8 := hx7.only hg4 hneX
 have hz8 := hz7.only hg4 hneZ
 have hv8 := hv7.only hg4 hneVR
 have HB8 := hide (HB7.out.trans (only_below hg4 hRl hr7.lt))
 have hc4 := hv8.c4
 have hf4 := hv8.free 4
 have hee := blk_cell1 hr4
 have vc0 := hv8.c0
 have vc1 := hv8.c1
 have vc2 := hv8.c2
 have vc3 := hv8.c3
 have hx9 := hx8.other (i := 4) hneVX (.int .i64 (z4 : Int))
 have hz9 := hz8.other (i := 4) hneVZ (.int .i64 (z4 : Int))
 have hv9 := hv8.set4 (z4 : Int)
 have hr9 := rr_other hr4 (i := 4) hneVR (.int .i64 (z4 : Int))
 have HB9 := hide (HB8.out.setCell (p := ⟨V, 4, none⟩) hVl (.int .i64 (z4 : Int)))
 clear hx7 hz7 hv7 hg4 hr7 hl4 HB7 hx8 hz8 hv8 hr4 HB8 hc1 hf1 hd1
 clear hr9
 go_wp2_with fail
 generalize w8.setCell _ _ = wA at *
 refine (rRight_any (zs : Int) (zk : Int) 0 ⟨#[]⟩ (z4 : Int) wA).mono ?_
 rintro r wB ⟨⟨B, rfl, hB⟩, hbB⟩
 have hxB := hx9.below hbB
 have hzB := hz9.below hbB
 have hvB := hv9.below hbB
 have HBB := hide (HB9.out.trans (hbB.mono HB9.out.size))
 obtain rfl : B = true := hB.2 HN.out
 clear hx9 hz9 hv9 hbB hB vc0 vc1 vc2 vc3 hee hc4
 have vc0 := hvB.c0
 have vc1 := hvB.c1
 have vc2 := hvB.c2
 have vc3 := hvB.c3
 have vc4 := hvB.c4
 go_wp2_with fail
 refine (rBytes_any (zg : Int) (zs : Int) (zk : Int) 0 ⟨#[]⟩ (z4 : Int) wB HN.out SF HSF.out).mono ?_
 rintro r wC ⟨rfl, hbC⟩
 have hxC := hxB.below hbC
 have hzC := hzB.below hbC
 have hvC := hvB.below hbC
 have HBC := hide (HBB.out.trans (hbC.mono HBB.out.size))
 clear hxB hzB hvB hbC HBB vc0 vc1 vc2 vc3 vc4
 clear hvC
 have xc0 := hxC.c0
 have xc1 := hxC.c1
 have xc2 := hxC.c2
 have xc3 := hxC.c3
 have xc4 := hxC.c4
 have xf0 := hxC.free 0
 have xf1 := hxC.free 1
 have xf2 := hxC.free 2
 have xf3 := hxC.free 3
 have xf4 := hxC.free 4
 have zc0 := hzC.c0
 have zc1 := hzC.c1
 have zc2 := hzC.c2
 have zc3 := hzC.c3
 have zc4 := hzC.c4
 have HX := hide (hxC.put 0 0 0 ⟨#[]⟩ 0)
 have HY := hide (below_put HBC.out (Nat.le_refl _) 0 0 0 ⟨#[]⟩ 0).drew
 clear hxC hzC
 go_wp2_with fail
 go_region
 go_wp2
 refine bodyPost_ret (results_tct rfl _ _ w.heap.size 100 _ (0, 0) _ rfl (show _ from HX.out) Tryz.underlying100 rfl rec_size) rfl ?_
 exact ⟨rfl, HY.out⟩
set_option maxRecDepth 100000 in
set_option maxHeartbeats 2000000 in
theorem rDecode_osame (a : ByteArray) (w : World) (M : List UInt8) (h64 : a.size = 64) (hM : a.data.toList = seal4 M) (hM60 : M.length ≤ 60) {l1 l2 l3 l4 : List UInt8} {zg zs zk z4 e1 e2 e3 : Nat} (h1 : rnum M 0 = (zg, l1, e1)) (h2 : rnum l1 e1 = (zs, l2, e2)) (h3 : rnum l2 e2 = (zk, l3, e3)) (h4 : rnum l3 e3 = (z4, l4, 0)) (hk : ((zk : Int) == 1) = false) (hn : Rgt (zs : Int) (zk : Int) 0 (⟨#[]⟩ : ByteArray).size (z4 : Int)) (SF : ByteArray) (hSF : str (sec (zg : Int) (zs : Int) (zk : Int) 0 ⟨#[]⟩ (z4 : Int)) = SF) (hcmp : (SF.toList == a.toList) = true) :
 Calls Tryz.prog 69 #[.string a] w fun e w' => e = .returned (.tuple #[.int .i64 (zg : Int), rec5 (zs : Int) (zk : Int) 0 ⟨#[]⟩ (z4 : Int), .int .i64 0]) ∧ Below w.heap.size w w' := by
 have HN := hide hn
 have HSF := hide hSF
 clear hn hSF
 obtain ⟨S0, hS0⟩ : ∃ S, str M = S := ⟨_, rfl⟩
 have HS0 := hide hS0
 have HM := hide hM
 have H64 := hide h64
 have HL0 := hide hM60
 have H1 := hide h1
 have H2 := hide h2
 have H3 := hide h3
 have H4 := hide h4
 clear hS0 hM hM60 h1 h2 h3 h4 h64
 have hsz : a.size = 64 := H64.out
 have hsz64 : ((a.size : Int) == 64) = true := by rw [hsz]; rfl
 obtain ⟨hx, hz, hb0⟩ := two_boxes w 0 0 0 ⟨#[]⟩ 0 0 0 0 ⟨#[]⟩ 0
 have HB0 := hide hb0
 clear hb0
 go_enter Tryz.func69, Tryz.ntmps69
 go_wp2_with fail
 generalize (w.alloc _).alloc _ = w0 at *
 refine (rOpen_good a w0 M (by omega) HM.out S0 HS0.out).mono ?_
 rintro r w1 ⟨rfl, hb1⟩
 have hx1 := hx.below hb1
 have hz1 := hz.below hb1
 have HB1 := hide (HB0.out.trans (hb1.mono HB0.out.size))
 clear hx hz hb1 HB0
 have hr0 := rr_new w1 S0
 have hb2 := rr_below w1 S0
 have hx2 := hx1.below hb2
 have hz2 := hz1.below hb2
 have HB2 := hide (HB1.out.trans (hb2.mono HB1.out.size))
 obtain ⟨R, hR⟩ : ∃ R, R = w1.heap.size := ⟨_, rfl⟩
 have hxl := hx1.lt
 have hzl := hz1.lt
 rw [← hR] at hxl hzl hr0
 rw [← HS0.out] at hr0
 clear hx1 hz1 hb2 HB1
 go_wp2_with fail
 rw [← hR]
 have hneX : w.heap.size ≠ R := by omega
 have hneZ : w.heap.size + 1 ≠ R := by omega
 have hRl : w.heap.size ≤ R := by omega
 clear hR
 rw [HS0.out] at hr0
 generalize w1.alloc _ = w2 at *
 rw [← HS0.out] at hr0
 refine (rNumber_at R 0 M w2 hr0 HL0.out zg l1 e1 H1.out).mono ?_
 rintro r w3 ⟨rfl, hr1, hg1, hl1⟩
 have HL1 := hide hl1
 have hx3 := hx2.only hg1 hneX
 have hz3 := hz2.only hg1 hneZ
 have HB3 := hide (HB2.out.trans (only_below hg1 hRl hr0.lt))
 clear hx2 hz2 hg1 hr0 hl1 HB2
 go_wp2_with fail
 refine (rNumber_at R e1 l1 w3 hr1 HL1.out zs l2 e2 H2.out).mono ?_
 rintro r w4 ⟨rfl, hr2, hg2, hl2⟩
 have HL2 := hide hl2
 have hx4 := hx3.only hg2 hneX
 have hz4 := hz3.only hg2 hneZ
 have HB4 := hide (HB3.out.trans (only_below hg2 hRl hr1.lt))
 have hRw4 := hr2.lt
 clear hx3 hz3 hg2 hr1 hl2 HB3
 have hv5 := Bx.new w4 (zs : Int) 0 0 ⟨#[]⟩ 0
 have hb5 := box_below w4 (zs : Int) 0 0 ⟨#[]⟩ 0
 have hx5 := hx4.below hb5
 have hz5 := hz4.below hb5
 have hr5 := rr_keep hr2 hb5
 have HB5 := hide (HB4.out.trans (hb5.mono HB4.out.size))
 obtain ⟨V, hV⟩ : ∃ V, V = w4.heap.size := ⟨_, rfl⟩
 have hVX := hx4.lt
 have hVZ := hz4.lt
 have hVl := HB4.out.size
 rw [← hV] at hVX hVZ hRw4 hv5 hVl
 have hneVR : V ≠ R := by omega
 have hneVX : V ≠ w.heap.size := by omega
 have hneVZ : V ≠ w.heap.size + 1 := by omega
 clear hx4 hz4 hr2 hb5 HB4
 go_wp2_with fail
 rw [← hV]
 clear hV hVX hVZ hRw4
 generalize w4.alloc _ = w5 at *
 refine (rNumber_at R e2 l2 w5 hr5 HL2.out zk l3 e3 H3.out).mono ?_
 rintro r w6 ⟨rfl, hr3, hg3, hl3⟩
 have HL3 := hide hl3
 have hx6 := hx5.only hg3 hneX
 have hz6 := hz5.only hg3 hneZ
 have hv6 := hv5.only hg3 hneVR
 have HB6 := hide (HB5.out.trans (only_below hg3 hRl hr5.lt))
 have hc1 := hv6.c1
 have hf1 := hv6.free 1
 have hx7 := hx6.other (i := 1) hneVX (.int .i64 (zk : Int))
 have hz7 := hz6.other (i := 1) hneVZ (.int .i64 (zk : Int))
 have hv7 := hv6.set1 (zk : Int)
 have hr7 := rr_other hr3 (i := 1) hneVR (.int .i64 (zk : Int))
 have HB7 := hide (HB6.out.setCell (p := ⟨V, 1, none⟩) hVl (.int .i64 (zk : Int)))
 have hd1 := hv7.c1
 clear hx5 hz5 hv5 hg3 hr5 hl3 HB5 hx6 hz6 hv6 hr3 HB6
 go_wp2_with fail
 generalize w6.setCell _ _ = w7 at *
 refine (rNumber_at R e3 l3 w7 hr7 HL3.out z4 l4 0 H4.out).mono ?_
 rintro r w8 ⟨rfl, hr4, hg4, hl4⟩
 have HL4 := hide hl4
 have hx8 := hx7.only hg4 hneX
 have hz8 := hz7.only hg4 hneZ
 have hv8 := hv7.only hg4 hneVR
 have HB8 := hide (HB7.out.trans (only_below hg4 hRl hr7.lt))
 have hc4 := hv8.c4
 have hf4 := hv8.free 4
 have hee := blk_cell1 hr4
 have vc0 := hv8.c0
 have vc1 := hv8.c1
 have vc2 := hv8.c2
 have vc3 := hv8.c3
 have hx9 := hx8.other (i := 4) hneVX (.int .i64 (z4 : Int))
 have hz9 := hz8.other (i := 4) hneVZ (.int .i64 (z4 : Int))
 have hv9 := hv8.set4 (z4 : Int)
 have hr9 := rr_other hr4 (i := 4) hneVR (.int .i64 (z4 : Int))
 have HB9 := hide (HB8.out.setCell (p := ⟨V, 4, none⟩) hVl (.int .i64 (z4 : Int)))
 clear hx7 hz7 hv7 hg4 hr7 hl4 HB7 hx8 hz8 hv8 hr4 HB8 hc1 hf1 hd1
 clear hr9
 go_wp2_with fail
 generalize w8.setCell _ _ = wA at *
 refine (rRight_any (zs : Int) (zk : Int) 0 ⟨#[]⟩ (z4 : Int) wA).mono ?_
 rintro r wB ⟨⟨B, rfl, hB⟩, hbB⟩
 have hxB := hx9.below hbB
 have hzB := hz9.below hbB
 have hvB := hv9.below hbB
 have HBB := hide (HB9.out.trans (hbB.mono HB9.out.size))
 obtain rfl : B = true := hB.2 HN.out
 clear hx9 hz9 hv9 hbB hB vc0 vc1 vc2 vc3 hee hc4
 have vc0 := hvB.c0
 have vc1 := hvB.c1
 have vc2 := hvB.c2
 have vc3 := hvB.c3
 have vc4 := hvB.c4
 go_wp2_with fail
 refine (rBytes_any (zg : Int) (zs : Int) (zk : Int) 0 ⟨#[]⟩ (z4 : Int) wB HN.out SF HSF.out).mono ?_
 rintro r wC ⟨rfl, hbC⟩
 have hxC := hxB.below hbC
 have hzC := hzB.below hbC
 have hvC := hvB.below hbC
 have HBC := hide (HBB.out.trans (hbC.mono HBB.out.size))
 clear hxB hzB hvB hbC HBB vc0 vc1 vc2 vc3 vc4
 have vc0 := hvC.c0
 have vc1 := hvC.c1
 have vc2 := hvC.c2
 have vc3 := hvC.c3
 have vc4 := hvC.c4
 have xc0 := hxC.c0
 have xc1 := hxC.c1
 have xc2 := hxC.c2
 have xc3 := hxC.c3
 have xc4 := hxC.c4
 have xf0 := hxC.free 0
 have xf1 := hxC.free 1
 have xf2 := hxC.free 2
 have xf3 := hxC.free 3
 have xf4 := hxC.free 4
 have HX := hide (hxC.put (zs : Int) (zk : Int) 0 ⟨#[]⟩ (z4 : Int))
 have HY := hide (below_put HBC.out (Nat.le_refl _) (zs : Int) (zk : Int) 0 ⟨#[]⟩ (z4 : Int)).drew
 clear hxC hzC hvC
 go_wp2_with fail
 go_region
 go_wp2
 refine bodyPost_ret (results_tct rfl _ _ w.heap.size 100 _ (0, 0) _ rfl (show _ from HX.out) Tryz.underlying100 rfl rec_size) rfl ?_
 exact ⟨rfl, HY.out⟩
theorem rDecode_sum (a : ByteArray) (w : World) (hs : a.size ≤ 2000) (h : NoSum a.data.toList) :
 Calls Tryz.prog 69 #[.string a] w fun e w' => e = .returned (.tuple #[.int .i64 0, rec5 0 0 0 ⟨#[]⟩ 0, .int .i64 4]) ∧ Below w.heap.size w w' := by
 by_cases hm : ∃ m, a.data.toList = seal4 m
 ·obtain ⟨M, hM⟩ := hm
  refine rDecode_len a w M hs hM ?_
  rcases h with h | h
  ·rw [size_eq] at h
   simp
   omega
  ·exact absurd hM (h M)
 ·exact rDecode_open a w hs fun m e => hm ⟨m, e⟩
theorem rDecode_none (a : ByteArray) (w : World) (h : ¬ NoSum a.data.toList) (h2 : NoRec a.data.toList) :
 Calls Tryz.prog 69 #[.string a] w fun e w' => e = .returned (.tuple #[.int .i64 0, rec5 0 0 0 ⟨#[]⟩ 0, .int .i64 1]) ∧ Below w.heap.size w w' := by
 unfold NoSum at h
 have h64 : a.data.toList.length = 64 := by
  by_cases h64 : a.data.toList.length = 64
  ·exact h64
  ·exact absurd (Or.inl h64) h
 obtain ⟨M, hM⟩ : ∃ m, a.data.toList = seal4 m := by
  apply Classical.byContradiction
  intro hc
  exact h (Or.inr fun m e => hc ⟨m, e⟩)
 have hM60 : M.length ≤ 60 := by rw [hM, seal4_length] at h64; omega
 have hsz : a.size = 64 := by rw [← size_eq a]; exact h64
 obtain ⟨zg, l1, e1, h1⟩ : ∃ g l1 e1, rnum M 0 = (g, l1, e1) := ⟨_, _, _, rfl⟩
 obtain ⟨zs, l2, e2, h2'⟩ : ∃ s l2 e2, rnum l1 e1 = (s, l2, e2) := ⟨_, _, _, rfl⟩
 obtain ⟨zk, l3, e3, h3⟩ : ∃ k l3 e3, rnum l2 e2 = (k, l3, e3) := ⟨_, _, _, rfl⟩
 obtain ⟨z4, l4, e4, h4⟩ : ∃ m l4 e4, rnum l3 e3 = (m, l4, e4) := ⟨_, _, _, rfl⟩
 obtain ⟨zd, l5, e5, h5⟩ : ∃ d l5 e5, rtext l4 e4 16 = (d, l5, e5) := ⟨_, _, _, rfl⟩
 have hgl := rnum_lt M 0
 rw [h1] at hgl
 have hg : Num (zg : Int) := by unfold Num; show 0 ≤ (zg : Int) ∧ _; have : zg ≤ 1152921504606846975 := hgl; omega
 have hcmp : ∀ S : List UInt8, a.data.toList ≠ S → ((str S).toList == a.toList) = false := fun S hS => by
  have e := str_same S a.data.toList
  rw [str_of] at e
  rw [e]
  exact decide_eq_false fun e => hS e.symm
 by_cases hk : zk = 1
 ·have hk' : ((zk : Int) == 1) = true := by rw [hk]; rfl
  by_cases he : e5 = 0
  ·subst he
   by_cases hr : Rgt (zs : Int) (zk : Int) (z4 : Int) (str zd).size 0
   ·exact rDecode_wunlike a w M hsz hM hM60 h1 h2' h3 h4 h5 hk' hr _ rfl (hcmp _ (h2 _ _ _ _ _ _ hr hg))
   ·exact rDecode_wnot a w M hsz hM hM60 h1 h2' h3 h4 h5 hk' hr
  ·exact rDecode_werr a w M hsz hM hM60 h1 h2' h3 h4 h5 hk' he
 ·have hk' : ((zk : Int) == 1) = false := by simp; omega
  by_cases he : e4 = 0
  ·subst he
   by_cases hr : Rgt (zs : Int) (zk : Int) 0 (⟨#[]⟩ : ByteArray).size (z4 : Int)
   ·exact rDecode_ounlike a w M hsz hM hM60 h1 h2' h3 h4 hk' hr _ rfl (hcmp _ (h2 _ _ _ _ _ _ hr hg))
   ·exact rDecode_onot a w M hsz hM hM60 h1 h2' h3 h4 hk' hr
  ·exact rDecode_oerr a w M hsz hM hM60 h1 h2' h3 h4 hk' he
theorem rDecode_good (a : ByteArray) (w : World) (g s k b : Int) (d : ByteArray) (m : Int) (h : Rgt s k b d.size m) (hg : Num g) (ha : a.data.toList = sec g s k b d m) :
 Calls Tryz.prog 69 #[.string a] w fun e w' => e = .returned (.tuple #[.int .i64 g, rec5 s k b d m, .int .i64 0]) ∧ Below w.heap.size w w' := by
 obtain ⟨hs, hk, hbl, hm⟩ := h.num
 have e1 : ∀ t, rnum (enc (clamp g) ++ t) 0 = (g.toNat, t, 0) := fun t => by rw [clamp_num hg]; exact rnum_enc _ _ (toNat_lt hg)
 have e2 : ∀ t, rnum (enc (clamp s) ++ t) 0 = (s.toNat, t, 0) := fun t => by rw [clamp_num hs]; exact rnum_enc _ _ (toNat_lt hs)
 have e3 : ∀ t, rnum (enc (clamp k) ++ t) 0 = (k.toNat, t, 0) := fun t => by rw [clamp_num hk]; exact rnum_enc _ _ (toNat_lt hk)
 have c1 : ((g.toNat : Nat) : Int) = g := Int.toNat_of_nonneg hg.1
 have c2 : ((s.toNat : Nat) : Int) = s := Int.toNat_of_nonneg hs.1
 have hsz : a.size = 64 := by rw [← size_eq a, ha]; exact sec_length h
 have hp := pad_length _ (bod_le (g := g) h)
 have hcmp : ((str (sec g s k b d m)).toList == a.toList) = true := by
  have e := str_same (sec g s k b d m) a.data.toList
  rw [str_of] at e
  rw [e, ha]
  exact decide_eq_true rfl
 obtain ⟨r, hr⟩ : ∃ r, pad (bod g s k b d m) = bod g s k b d m ++ r := ⟨_, rfl⟩
 have hk12 : k = 1 ∨ k = 2 := by unfold Rgt at h; omega
 rcases hk12 with rfl | rfl
 ·have e4 : ∀ t, rnum (enc (clamp b) ++ t) 0 = (b.toNat, t, 0) := fun t => by rw [clamp_num hbl]; exact rnum_enc _ _ (toNat_lt hbl)
  have hd16 : d.size ≤ 16 ∧ m = 0 := by unfold Rgt at h; omega
  obtain ⟨hd, rfl⟩ := hd16
  have e5 : rtext (enc d.size ++ d.data.toList ++ r) 0 16 = (d.data.toList, r, 0) := by
   have := rtext_enc d.data.toList r 16 (by rw [size_eq]; omega) (by rw [size_eq]; omega)
   rw [size_eq] at this
   exact this
  have e0 : pad (bod g s 1 b d 0) = enc (clamp g) ++ (enc (clamp s) ++ (enc (clamp 1) ++ (enc (clamp b) ++ (enc d.size ++ d.data.toList ++ r)))) := by
   rw [hr]
   unfold bod
   rw [if_neg (by decide)]
   simp
  have c4 : ((b.toNat : Nat) : Int) = b := Int.toNat_of_nonneg hbl.1
  have hD := rDecode_wsame a w (pad (bod g s 1 b d 0)) hsz ha (by omega) (by rw [e0]; exact e1 _) (e2 _) (e3 _) (e4 _) e5 rfl
  rw [c1, c2, c4, str_of] at hD
  exact hD h _ rfl hcmp
 ·have e4 : ∀ t, rnum (enc (clamp m) ++ t) 0 = (m.toNat, t, 0) := fun t => by rw [clamp_num hm]; exact rnum_enc _ _ (toNat_lt hm)
  have hb0 : b = 0 ∧ d.size = 0 := by unfold Rgt at h; omega
  obtain ⟨rfl, hd0⟩ := hb0
  obtain rfl : d = ⟨#[]⟩ := by
   have h0 : d.data.toList = [] := List.eq_nil_of_length_eq_zero (by rw [size_eq]; exact hd0)
   rw [← str_of d, h0]
   rfl
  have e0 : pad (bod g s 2 0 ⟨#[]⟩ m) = enc (clamp g) ++ (enc (clamp s) ++ (enc (clamp 2) ++ (enc (clamp m) ++ r))) := by
   rw [hr]
   unfold bod
   rw [if_pos rfl]
   simp
  have c4 : ((m.toNat : Nat) : Int) = m := Int.toNat_of_nonneg hm.1
  have hD := rDecode_osame a w (pad (bod g s 2 0 ⟨#[]⟩ m)) hsz ha (by omega) (by rw [e0]; exact e1 _) (e2 _) (e3 _) (e4 _) rfl
  rw [c1, c2, c4] at hD
  exact hD h _ rfl hcmp
end Go.Proofs.YtapiogcoipeinaaGreatDoor.Rc
