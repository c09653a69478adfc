/-
  The contract of record.read: the generation and the fields that are read of bytes. Nothing that was there is changed.
-/
import Derived.Test.YtapiogcoipeinaaDoorRcEncode
namespace Go.Proofs.YtapiogcoipeinaaDoor.Rc
open Go.RowKit
open Pk Sm Fa

/-- Results of which the second one is a record in memory. -/
theorem results_tc {P : Program} {fn : Func} {t p : Tmp} {ty : TypeId} (h : fn.results = #[.tmp t, .cell p ty]) (tmps : Array Value) (w : World) (g : Nat) (T : TypeId) (cs : Array Value) (fr : Nat × Nat) (d : TypeDesc)
    (hp : tmps.getD p undef = .pointer (some ⟨g, 0, none⟩)) (hg : w.heap[g]? = some (.cells cs T fr))
    (hu : P.underlying ty = some d) (hd : (match d with | .struct _ | .array _ _ => true | _ => false) = true) (hi : (P.info? ty).map (·.size) = some cs.size) :
    (results fn tmps).run P w = .ok (.tuple #[tmps.getD t undef, .agg cs]) w := by
  have hp' : tmps[p]?.getD undef = .pointer (some ⟨g, 0, none⟩) := by simpa using hp
  simp [results, h, hp', asAddr, run_loadVar_row w g T ty cs fr d hg hu hd hi]
theorem results_tct {P : Program} {fn : Func} {t p u : Tmp} {ty : TypeId} (h : fn.results = #[.tmp t, .cell p ty, .tmp u]) (tmps : Array Value) (w : World) (g : Nat) (T : TypeId) (cs : Array Value) (fr : Nat × Nat) (d : TypeDesc)
    (hp : tmps.getD p undef = .pointer (some ⟨g, 0, none⟩)) (hg : w.heap[g]? = some (.cells cs T fr))
    (hu : P.underlying ty = some d) (hd : (match d with | .struct _ | .array _ _ => true | _ => false) = true) (hi : (P.info? ty).map (·.size) = some cs.size) :
    (results fn tmps).run P w = .ok (.tuple #[tmps.getD t undef, .agg cs, tmps.getD u undef]) w := by
  have hp' : tmps[p]?.getD undef = .pointer (some ⟨g, 0, none⟩) := by simpa using hp
  simp [results, h, hp', asAddr, run_loadVar_row w g T ty cs fr d hg hu hd hi]
theorem rec_size : (Tryd.prog.info? 67).map (·.size) = some 5 := by kernel_rfl

section
variable {w w' : World} {G R i e : Nat} {s k b : Int} {d : ByteArray} {m : Int} {l : List UInt8}
theorem Bx.only (h : Bx w G s k b d m) (hg : w.grownBy w' (some R)) (hne : G ≠ R) : Bx w' G s k b d m := by
  obtain ⟨_, _, _, _, hk⟩ := hg
  exact (hk G h.lt (by simp; exact hne)).trans h
/-- A reader is kept while a record's own fields are set. -/
theorem rd_store (hr : Rd w R l e) (h : Bx w G s k b d m) (hne : G ≠ R) (v : Value) : Rd (w.setCell ⟨G, i, none⟩ v) R l e := by
  obtain ⟨A, c, h1, h2, h3, h4⟩ := hr
  refine ⟨A, c, (heap_setCell_other _ ⟨G, i, none⟩ R _ (fun e => hne e.symm)).trans h1, h2, h3, fun hn => ?_⟩
  obtain ⟨p, o, rfl, hp, hc⟩ := h4 hn
  refine ⟨p, o, rfl, hp, fun j u hu => ?_⟩
  have hcj := hc j u hu
  have hpG : p ≠ G := by
    rintro rfl
    simp only [World.cell?, show w.heap[p]? = _ from h] at hcj
    match hoj : o + j, hcj with
    | 0, hcj => simp [cel] at hcj
    | 1, hcj => simp [cel] at hcj
    | 2, hcj => simp [cel] at hcj
    | 3, hcj => simp [cel] at hcj
    | 4, hcj => simp [cel] at hcj
    | q + 5, hcj => simp at hcj
  rw [← hcj]
  have := heap_setCell_other w ⟨G, i, none⟩ p v hpG
  simp only [World.cell?, this]
theorem Bx.set0 (h : Bx w G s k b d m) (x : Int) : Bx (w.setCell ⟨G, 0, none⟩ (.int .i64 x)) G x k b d m := heap_setCell_same w G 0 _ _ (.int .i64 x) h
theorem Bx.set1 (h : Bx w G s k b d m) (x : Int) : Bx (w.setCell ⟨G, 1, none⟩ (.int .i64 x)) G s x b d m := heap_setCell_same w G 1 _ _ (.int .i64 x) h
theorem Bx.set2 (h : Bx w G s k b d m) (x : Int) : Bx (w.setCell ⟨G, 2, none⟩ (.int .i64 x)) G s k x d m := heap_setCell_same w G 2 _ _ (.int .i64 x) h
theorem Bx.set3 (h : Bx w G s k b d m) (x : ByteArray) : Bx (w.setCell ⟨G, 3, none⟩ (.string x)) G s k b x m := heap_setCell_same w G 3 _ _ (.string x) h
theorem Bx.set4 (h : Bx w G s k b d m) (x : Int) : Bx (w.setCell ⟨G, 4, none⟩ (.int .i64 x)) G s k b d x := heap_setCell_same w G 4 _ _ (.int .i64 x) h
/-- All five fields set. -/
abbrev put5 (w : World) (G : Nat) (s k b : Int) (d : ByteArray) (m : Int) : World :=
  ((((w.setCell ⟨G, 0, none⟩ (.int .i64 s)).setCell ⟨G, 1, none⟩ (.int .i64 k)).setCell ⟨G, 2, none⟩ (.int .i64 b)).setCell ⟨G, 3, none⟩ (.string d)).setCell ⟨G, 4, none⟩ (.int .i64 m)
theorem Bx.put (h : Bx w G s k b d m) (s' k' b' : Int) (d' : ByteArray) (m' : Int) : Bx (put5 w G s' k' b' d' m') G s' k' b' d' m' := ((((h.set0 s').set1 k').set2 b').set3 d').set4 m'
theorem below_put {w0 w : World} {B G : Nat} (h : Below B w0 w) (hG : B ≤ G) (s k b : Int) (d : ByteArray) (m : Int) : Below B w0 (put5 w G s k b d m) :=
  ((((h.setCell (p := ⟨G, 0, none⟩) hG _).setCell (p := ⟨G, 1, none⟩) hG _).setCell (p := ⟨G, 2, none⟩) hG _).setCell (p := ⟨G, 3, none⟩) hG _).setCell (p := ⟨G, 4, none⟩) hG _
theorem Bx.free (h : Bx w G s k b d m) (i : Nat) : w.frozen? ⟨G, i, none⟩ = false := blk_free h i
end

theorem Read_told (A : Option Addr) (l : List UInt8) (n c : Nat) (w : World) (hn : l.length = n) (hb : Byt w w.heap.size A l) (hl : n ≤ c) (hc : c ≤ maxLen) :
    Calls Tryd.prog 70 #[.slice A n c] w fun e w' => e = .returned (.pointer (some ⟨w.heap.size, 0, none⟩)) ∧ Rd w' w.heap.size l 0 ∧ Below w.heap.size w w' := by
  subst hn
  exact Read_any A l c w hb hl hc

theorem Number_at' (g e : Nat) (l : List UInt8) (w : World) (h : Rd w g l e) (n : Nat) (l1 : List UInt8) (e1 : Nat) (hr : rnum l e = (n, l1, e1)) :
    Calls Tryd.prog 71 #[.pointer (some ⟨g, 0, none⟩)] w fun r w' => r = .returned (.int .i64 (n : Int)) ∧ Rd w' g l1 e1 ∧ w.grownBy w' (some g) := by
  have := Number_rd g e l w h
  rw [hr] at this
  exact this
theorem Text_at' (g e : Nat) (most : Int) (l : List UInt8) (w : World) (h : Rd w g l e) (d l1 : List UInt8) (e1 : Nat) (hr : rtext l e most = (d, l1, e1)) :
    Calls Tryd.prog 72 #[.pointer (some ⟨g, 0, none⟩), .int .i64 most] w fun r w' => r = .returned (.string (str d)) ∧ Rd w' g l1 e1 ∧ w.grownBy w' (some g) := by
  have := Text_rd g most l e w h
  rw [hr] at this
  exact this

set_option maxRecDepth 100000 in
set_option maxHeartbeats 1000000 in
theorem read_mark (A : Option Addr) (l : List UInt8) (n c : Nat) (w : World) (hn : l.length = n) (hb : Byt w w.heap.size A l) (hl : n ≤ c) (hc : c ≤ maxLen) {l1 l2 l3 l4 : List UInt8} {e1 e2 e3 e4 g s m : Nat}
    (h1 : rnum l 0 = (g, l1, e1)) (h2 : rnum l1 e1 = (s, l2, e2)) (h3 : rnum l2 e2 = (2, l3, e3)) (h4 : rnum l3 e3 = (m, l4, e4)) :
    Calls Tryd.prog 68 #[.slice A n c] w fun e w' => e = .returned (.tuple #[.int .i64 (g : Int), rec5 (s : Int) 2 0 (str []) (m : Int)]) ∧ Below w.heap.size w w' := by
  have hbx := Bx.new w 0 0 0 ⟨#[]⟩ 0
  have hb0 := box_below w 0 0 0 ⟨#[]⟩ 0
  have H1 := hide h1
  have H2 := hide h2
  have H3 := hide h3
  have H4 := hide h4
  clear h1 h2 h3 h4
  have hby0 := (hb.below hb0).more hb0.size
  have HB0 := hide hb0
  have Hn := hide hn
  clear hb0 hn
  go_enter Tryd.func68, Tryd.ntmps68
  go_wp2_with fail
  generalize w.alloc _ = w0 at *
  have hG0 := hbx.lt
  refine (Read_told A l n c w0 Hn.out hby0 hl hc).mono ?_
  rintro r w1 ⟨rfl, hr1, hb1⟩
  obtain ⟨R, hR⟩ : ∃ R, R = w0.heap.size := ⟨_, rfl⟩
  rw [← hR] at hr1 hb1 hG0
  have hRR := hide hR
  have hne : w.heap.size ≠ R := by omega
  have hbx1 : Bx w1 w.heap.size 0 0 0 ⟨#[]⟩ 0 := hbx.below (by rw [← hR]; exact hb1)
  have HB1 := hide (HB0.out.trans (hb1.mono (by rw [hR]; exact HB0.out.size)))
  have hRlt : w.heap.size ≤ R := by omega
  rw [← hR]
  clear hbx hb1 HB0 hby0 hb Hn hR hRR
  go_wp2_with fail
  refine (Number_at' R 0 l w1 hr1 g l1 e1 H1.out).mono ?_
  rintro r w2 ⟨rfl, hr2, hg2⟩
  have hbx2 := hbx1.only hg2 hne
  have HB2 := hide (HB1.out.trans (below_of_only hg2 hRlt hr1.lt))
  clear hbx1 hg2 hr1 HB1
  go_wp2_with fail
  refine (Number_at' R e1 l1 w2 hr2 s l2 e2 H2.out).mono ?_
  rintro r w3 ⟨rfl, hr3, hg3⟩
  have hbx3 := hbx2.only hg3 hne
  have HB3 := hide (HB2.out.trans (below_of_only hg3 hRlt hr2.lt))
  have hc0 := hbx3.c0
  have hf0 := hbx3.free 0
  have hr3' := rd_store (i := 0) hr3 hbx3 hne (.int .i64 (s : Int))
  have hbx3' := hbx3.set0 (s : Int)
  have HB3' := hide (HB3.out.setCell (p := ⟨w.heap.size, 0, none⟩) (Nat.le_refl _) (.int .i64 (s : Int)))
  clear hbx2 hg3 hr2 HB2 hr3 HB3 hbx3
  go_wp2_with fail
  generalize w3.setCell _ _ = w3' at *
  refine (Number_at' R e2 l2 w3' hr3' 2 l3 e3 H3.out).mono ?_
  rintro r w4 ⟨rfl, hr4, hg4⟩
  have hbx4 := hbx3'.only hg4 hne
  have HB4 := hide (HB3'.out.trans (below_of_only hg4 hRlt hr3'.lt))
  have hc1 := hbx4.c1
  have hf1 := hbx4.free 1
  have hr4' := rd_store (i := 1) hr4 hbx4 hne (.int .i64 2)
  have hbx4' := hbx4.set1 2
  have hd1 := hbx4'.c1
  have HB4' := hide (HB4.out.setCell (p := ⟨w.heap.size, 1, none⟩) (Nat.le_refl _) (.int .i64 2))
  clear hbx3' hg4 hr3' HB3' hr4 HB4 hbx4 hc0 hf0
  go_wp2_with fail
  generalize w4.setCell _ _ = w4' at *
  refine (Number_at' R e3 l3 w4' hr4' m l4 e4 H4.out).mono ?_
  rintro r w5 ⟨rfl, hr5, hg5⟩
  have hbx5 := hbx4'.only hg5 hne
  have HB5 := hide (HB4'.out.trans (below_of_only hg5 hRlt hr4'.lt))
  have hc4 := hbx5.c4
  have hf4 := hbx5.free 4
  have hbx5' := hbx5.set4 (m : Int)
  have HB5' := hide (HB5.out.setCell (p := ⟨w.heap.size, 4, none⟩) (Nat.le_refl _) (.int .i64 (m : Int)))
  clear hbx4' hg5 hr4' HB4' hr5 HB5 hc1 hf1 hd1
  clear hbx5
  go_wp2_with fail
  generalize w5.setCell _ _ = w5' at *
  have hz0 := hbx5'.c0
  have hz1 := hbx5'.c1
  have hz2 := hbx5'.c2
  have hz3 := hbx5'.c3
  have hz4 := hbx5'.c4
  have hy0 := hbx5'.free 0
  have hy1 := hbx5'.free 1
  have hy2 := hbx5'.free 2
  have hy3 := hbx5'.free 3
  have hy4 := hbx5'.free 4
  have HX := hide (hbx5'.put (s : Int) 2 0 ⟨#[]⟩ (m : Int))
  have HY := hide (below_put HB5'.out (Nat.le_refl _) (s : Int) 2 0 ⟨#[]⟩ (m : Int)).drew
  clear hc4 hf4 hbx5' HB5'
  go_region
  go_wp2
  refine bodyPost_ret (results_tc rfl _ _ w.heap.size 67 _ (0, 0) _ rfl (show _ from HX.out) Tryd.underlying67 rfl rec_size) rfl ?_
  exact ⟨rfl, HY.out⟩

set_option maxRecDepth 100000 in
set_option maxHeartbeats 1000000 in
theorem read_write (A : Option Addr) (l : List UInt8) (n c : Nat) (w : World) (hn : l.length = n) (hb : Byt w w.heap.size A l) (hl : n ≤ c) (hc : c ≤ maxLen) {l1 l2 l3 l4 l5 d : List UInt8} {e1 e2 e3 e4 e5 g s k b : Nat}
    (h1 : rnum l 0 = (g, l1, e1)) (h2 : rnum l1 e1 = (s, l2, e2)) (h3 : rnum l2 e2 = (k, l3, e3)) (h4 : rnum l3 e3 = (b, l4, e4)) (h5 : rtext l4 e4 16 = (d, l5, e5)) (hk : ((k : Int) == 2) = false) :
    Calls Tryd.prog 68 #[.slice A n c] w fun e w' => e = .returned (.tuple #[.int .i64 (g : Int), rec5 (s : Int) (k : Int) (b : Int) (str d) 0]) ∧ Below w.heap.size w w' := by
  have hbx := Bx.new w 0 0 0 ⟨#[]⟩ 0
  have hb0 := box_below w 0 0 0 ⟨#[]⟩ 0
  have H1 := hide h1
  have H2 := hide h2
  have H3 := hide h3
  have H4 := hide h4
  have H5 := hide h5
  clear h1 h2 h3 h4 h5
  have hby0 := (hb.below hb0).more hb0.size
  have HB0 := hide hb0
  have Hn := hide hn
  clear hb0 hn
  go_enter Tryd.func68, Tryd.ntmps68
  go_wp2_with fail
  generalize w.alloc _ = w0 at *
  have hG0 := hbx.lt
  refine (Read_told A l n c w0 Hn.out hby0 hl hc).mono ?_
  rintro r w1 ⟨rfl, hr1, hb1⟩
  obtain ⟨R, hR⟩ : ∃ R, R = w0.heap.size := ⟨_, rfl⟩
  rw [← hR] at hr1 hb1 hG0
  have hRR := hide hR
  have hne : w.heap.size ≠ R := by omega
  have hbx1 : Bx w1 w.heap.size 0 0 0 ⟨#[]⟩ 0 := hbx.below (by rw [← hR]; exact hb1)
  have HB1 := hide (HB0.out.trans (hb1.mono (by rw [hR]; exact HB0.out.size)))
  have hRlt : w.heap.size ≤ R := by omega
  rw [← hR]
  clear hbx hb1 HB0 hby0 hb Hn hR hRR
  go_wp2_with fail
  refine (Number_at' R 0 l w1 hr1 g l1 e1 H1.out).mono ?_
  rintro r w2 ⟨rfl, hr2, hg2⟩
  have hbx2 := hbx1.only hg2 hne
  have HB2 := hide (HB1.out.trans (below_of_only hg2 hRlt hr1.lt))
  clear hbx1 hg2 hr1 HB1
  go_wp2_with fail
  refine (Number_at' R e1 l1 w2 hr2 s l2 e2 H2.out).mono ?_
  rintro r w3 ⟨rfl, hr3, hg3⟩
  have hbx3 := hbx2.only hg3 hne
  have HB3 := hide (HB2.out.trans (below_of_only hg3 hRlt hr2.lt))
  have hc0 := hbx3.c0
  have hf0 := hbx3.free 0
  have hr3' := rd_store (i := 0) hr3 hbx3 hne (.int .i64 (s : Int))
  have hbx3' := hbx3.set0 (s : Int)
  have HB3' := hide (HB3.out.setCell (p := ⟨w.heap.size, 0, none⟩) (Nat.le_refl _) (.int .i64 (s : Int)))
  clear hbx2 hg3 hr2 HB2 hr3 HB3 hbx3
  go_wp2_with fail
  generalize w3.setCell _ _ = w3' at *
  refine (Number_at' R e2 l2 w3' hr3' k l3 e3 H3.out).mono ?_
  rintro r w4 ⟨rfl, hr4, hg4⟩
  have hbx4 := hbx3'.only hg4 hne
  have HB4 := hide (HB3'.out.trans (below_of_only hg4 hRlt hr3'.lt))
  have hc1 := hbx4.c1
  have hf1 := hbx4.free 1
  have hr4' := rd_store (i := 1) hr4 hbx4 hne (.int .i64 (k : Int))
  have hbx4' := hbx4.set1 (k : Int)
  have hd1 := hbx4'.c1
  have HB4' := hide (HB4.out.setCell (p := ⟨w.heap.size, 1, none⟩) (Nat.le_refl _) (.int .i64 (k : Int)))
  clear hbx3' hg4 hr3' HB3' hr4 HB4 hbx4 hc0 hf0
  go_wp2_with fail
  generalize w4.setCell _ _ = w4' at *
  refine (Number_at' R e3 l3 w4' hr4' b l4 e4 H4.out).mono ?_
  rintro r w5 ⟨rfl, hr5, hg5⟩
  have hbx5 := hbx4'.only hg5 hne
  have HB5 := hide (HB4'.out.trans (below_of_only hg5 hRlt hr4'.lt))
  have hc2 := hbx5.c2
  have hf2 := hbx5.free 2
  have hr5' := rd_store (i := 2) hr5 hbx5 hne (.int .i64 (b : Int))
  have hbx5' := hbx5.set2 (b : Int)
  have HB5' := hide (HB5.out.setCell (p := ⟨w.heap.size, 2, none⟩) (Nat.le_refl _) (.int .i64 (b : Int)))
  clear hbx4' hg5 hr4' HB4' hr5 HB5 hc1 hf1 hd1
  clear hbx5
  go_wp2_with fail
  generalize w5.setCell _ _ = w5' at *
  refine (Text_at' R e4 16 l4 w5' hr5' d l5 e5 H5.out).mono ?_
  rintro r w6 ⟨rfl, hr6, hg6⟩
  have hbx6 := hbx5'.only hg6 hne
  have HB6 := hide (HB5'.out.trans (below_of_only hg6 hRlt hr5'.lt))
  have hc3 := hbx6.c3
  have hf3 := hbx6.free 3
  have hbx6' := hbx6.set3 (str d)
  have HB6' := hide (HB6.out.setCell (p := ⟨w.heap.size, 3, none⟩) (Nat.le_refl _) (.string (str d)))
  clear hbx5' hg6 hr5' HB5' hr6 HB6 hc2 hf2
  clear hbx6
  go_wp2_with fail
  generalize w6.setCell _ _ = w6' at *
  have hz0 := hbx6'.c0
  have hz1 := hbx6'.c1
  have hz2 := hbx6'.c2
  have hz3 := hbx6'.c3
  have hz4 := hbx6'.c4
  have hy0 := hbx6'.free 0
  have hy1 := hbx6'.free 1
  have hy2 := hbx6'.free 2
  have hy3 := hbx6'.free 3
  have hy4 := hbx6'.free 4
  have HX := hide (hbx6'.put (s : Int) (k : Int) (b : Int) (str d) 0)
  have HY := hide (below_put HB6'.out (Nat.le_refl _) (s : Int) (k : Int) (b : Int) (str d) 0).drew
  clear hc3 hf3 hbx6' HB6'
  go_region
  go_wp2
  refine bodyPost_ret (results_tc rfl _ _ w.heap.size 67 _ (0, 0) _ rfl (show _ from HX.out) Tryd.underlying67 rfl rec_size) rfl ?_
  exact ⟨rfl, HY.out⟩

/-- read, for every bytes. -/
theorem read_any (A : Option Addr) (l : List UInt8) (n c : Nat) (w : World) (hn : l.length = n) (hb : Byt w w.heap.size A l) (hl : n ≤ c) (hc : c ≤ maxLen) (g s k b : Nat) (d : List UInt8) (m : Nat) (hg : got l = (g, s, k, b, d, m)) :
    Calls Tryd.prog 68 #[.slice A n c] w fun e w' => e = .returned (.tuple #[.int .i64 (g : Int), rec5 (s : Int) (k : Int) (b : Int) (str d) (m : Int)]) ∧ Below w.heap.size w w' := by
  obtain ⟨g1, l1, e1, h1⟩ : ∃ g l1 e1, rnum l 0 = (g, l1, e1) := ⟨_, _, _, rfl⟩
  obtain ⟨s1, l2, e2, h2⟩ : ∃ s l2 e2, rnum l1 e1 = (s, l2, e2) := ⟨_, _, _, rfl⟩
  obtain ⟨k1, l3, e3, h3⟩ : ∃ k l3 e3, rnum l2 e2 = (k, l3, e3) := ⟨_, _, _, rfl⟩
  obtain ⟨m1, l4, e4, h4⟩ : ∃ m l4 e4, rnum l3 e3 = (m, l4, e4) := ⟨_, _, _, rfl⟩
  obtain ⟨d1, l5, e5, h5⟩ : ∃ d l5 e5, rtext l4 e4 16 = (d, l5, e5) := ⟨_, _, _, rfl⟩
  by_cases hk : k1 = 2
  · subst hk
    have e := got_mark h1 h2 h3 h4 rfl
    rw [hg] at e
    simp only [Prod.mk.injEq] at e
    obtain ⟨rfl, rfl, rfl, rfl, rfl, rfl⟩ := e
    exact read_mark A l n c w hn hb hl hc h1 h2 h3 h4
  · have e := got_write h1 h2 h3 h4 h5 hk
    rw [hg] at e
    simp only [Prod.mk.injEq] at e
    obtain ⟨rfl, rfl, rfl, rfl, rfl, rfl⟩ := e
    exact read_write A l n c w hn hb hl hc h1 h2 h3 h4 h5 (by simp; omega)

end Go.Proofs.YtapiogcoipeinaaDoor.Rc
