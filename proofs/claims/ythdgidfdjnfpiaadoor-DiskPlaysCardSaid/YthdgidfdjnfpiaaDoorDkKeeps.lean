/-
  DiskKeeps at every input: it returns true, and changes nothing that was there. Condition: the library's variable errors.errorType holds its own type's handle.
-/
import Derived.Test.YthdgidfdjnfpiaaDoorDkLast
namespace Go.Proofs.YthdgidfdjnfpiaaDoor.Dk
open Go.RowKit
open Pk Sm Fa

theorem Dsk.poke {w : World} {G : Nat → Prop} {p g j : Nat} {S : List Sec} {L : List Wr} (h : Dsk w G p S L) (hn : ¬ G g) (v : Value) : Dsk (w.setCell ⟨g, j, none⟩ v) G p S L :=
  h.kept (G2 := fun i => i = g) ⟨rfl, rfl, rfl, by simp [World.setCell], fun _ _ hn => heap_setCell_other _ _ _ _ hn⟩ (fun _ hi e => hn (e ▸ hi))
theorem poke_size (w : World) (a : Addr) (v : Value) : (w.setCell a v).heap.size = w.heap.size := by simp [World.setCell]
theorem cell_fl {w : World} {g j : Nat} {c : UInt8} (h : w.heap[g]? = some (.cells (cels (fl c)).toArray 5 (0, 0))) (hj : j < 64) : w.cell? ⟨g, j, none⟩ = some (.int .u8 c.toNat) ∧ w.frozen? ⟨g, j, none⟩ = false := by
  constructor
  · rw [cell_of_row w g j _ _ _ h, List.getElem?_toArray]
    simp only [cels, fl, List.map_replicate, List.getElem?_replicate, if_pos hj]
    rfl
  · simp [World.frozen?, h]

set_option maxRecDepth 100000 in
set_option maxHeartbeats 4000000 in
theorem Keeps_any (i c : Nat) (q : Oq) (w : World) (hty : Ety w) (hi : i < 256) (hc : c < 256) (hq : OFit q) :
    Calls Tryd.prog 6 #[.int .u8 i, .int .u8 c, .agg #[.int .i64 q.1, .int .i64 q.2.1, .int .u64 q.2.2.1, .string q.2.2.2]] w fun r w' => r = .returned (.bool true) ∧ Below w.heap.size w w' := by
  have Hty := hide hty
  have Hi := hide hi
  have Hc := hide hc
  have Hq := hide hq
  have hii : (i : Int) < 256 := by omega
  have hci : (c : Int) < 256 := by omega
  clear hty hi hc hq
  go_enter Tryd.func6, Tryd.ntmps6
  go_wp2_with fail
  refine (awake_any _ (Hty.out.below ((Below.refl _ _).alloc (Nat.le_refl _) _) Hty.out.lt)).mono ?_
  rintro r w1 ⟨rfl, hb1⟩
  have hbu : Below w.heap.size w (w.alloc (.cells #[.int .i64 q.1, .int .i64 q.2.1, .int .u64 q.2.2.1, .string q.2.2.2] 32)) := (Below.refl _ _).alloc (Nat.le_refl _) _
  have hgu := heap_alloc_new w (.cells #[.int .i64 q.1, .int .i64 q.2.1, .int .u64 q.2.2.1, .string q.2.2.2] 32)
  have hsu : (w.alloc (.cells #[.int .i64 q.1, .int .i64 q.2.1, .int .u64 q.2.2.1, .string q.2.2.2] 32)).heap.size = w.heap.size + 1 := by simp
  have hg1 : w1.heap[w.heap.size]? = some (.cells #[.int .i64 q.1, .int .i64 q.2.1, .int .u64 q.2.2.1, .string q.2.2.2] 32 (0, 0)) := (hb1.block _ (by omega)).trans hgu
  have HB1 := hide (hbu.trans (hb1.mono (by omega)))
  have HG1 := hide hg1
  have hx0 : w1.cell? ⟨w.heap.size, 0, none⟩ = some (.int .i64 q.1) := by simp [World.cell?, hg1]
  have hx1 : w1.cell? ⟨w.heap.size, 1, none⟩ = some (.int .i64 q.2.1) := by simp [World.cell?, hg1]
  have hx2 : w1.cell? ⟨w.heap.size, 2, none⟩ = some (.int .u64 q.2.2.1) := by simp [World.cell?, hg1]
  have hx3 : w1.cell? ⟨w.heap.size, 3, none⟩ = some (.string q.2.2.2) := by simp [World.cell?, hg1]
  clear hb1 hbu hgu hsu hg1
  go_wp2_with fail
  refine (few_any _ 1 1 [q] _ rfl ?hops (fun x hx => by rw [List.mem_singleton.1 hx]; exact Hq.out)).mono ?_
  case hops =>
    intro _
    refine ⟨w1.heap.size, 0, rfl, by simp, fun j x hj => ?_⟩
    match j, hj with
    | 0, hj =>
      simp at hj
      subst hj
      exact ⟨(cell_of_row _ _ _ _ _ _ (heap_alloc_new w1 _)).trans rfl, (cell_of_row _ _ _ _ _ _ (heap_alloc_new w1 _)).trans rfl, (cell_of_row _ _ _ _ _ _ (heap_alloc_new w1 _)).trans rfl, (cell_of_row _ _ _ _ _ _ (heap_alloc_new w1 _)).trans rfl⟩
  rintro r w2 ⟨⟨bb, rfl, hbb⟩, hw2⟩
  have hb2 : Below w1.heap.size w1 w2 := by rw [← hw2]; exact (Below.refl _ _).alloc (Nat.le_refl _) _
  have HB2 := hide (HB1.out.trans (hb2.mono HB1.out.size))
  have hg2 : w2.heap[w.heap.size]? = _ := (hb2.block _ (heap_lt HG1.out)).trans HG1.out
  have HG2 := hide hg2
  have hy1 : w2.cell? ⟨w.heap.size, 1, none⟩ = some (.int .i64 q.2.1) := by simp [World.cell?, hg2]
  have hy2 : w2.cell? ⟨w.heap.size, 2, none⟩ = some (.int .u64 q.2.2.1) := by simp [World.cell?, hg2]
  have Hbb := hide hbb
  clear hw2 hb2 hg2 hx0 hx1 hx2 hx3 hbb HG1 HB1
  cases bb with
  | false =>
    have HA := hide (awake_any w2 (Hty.out.below HB2.out Hty.out.lt))
    go_wp2_with fail
    refine HA.out.mono ?_
    rintro r w3 ⟨rfl, hb3⟩
    have HB3 := hide (HB2.out.trans (hb3.mono HB2.out.size))
    clear HA hb3
    go_wp2
    go_ret
    exact ⟨rfl, HB3.out⟩
  | true =>
    go_wp2_with fail
    refine (Flush_nil w2).mono ?_
    rintro r w2a ⟨rfl, rfl⟩
    go_wp2_with fail
    refine (Crash_nil _ w2).mono ?_
    rintro r w2b ⟨rfl, rfl⟩
    have hz3 : ∀ w3, w3 = w2.alloc (.cells #[.slice none 0 0, .slice none 0 0] 60) → Dsk w3 (fun k => k = w2.heap.size) w2.heap.size [] [] := fun w3 h => by
      subst h
      exact ⟨_, _, heap_alloc_new w2 _, World.ownsRow_nil _ _ _ _, World.ownsRow_nil _ _ _ _, rfl, fun k hk => by simp [Value.ownBlock] at hk, fun k hk => by simp [Value.ownBlock] at hk, fun k hk => by rw [hk]; simp, fun x hx => (by cases hx), fun x hx => (by cases hx)⟩
    have Hz3 := hide hz3
    have hy1' : (w2.alloc (.cells #[.slice none 0 0, .slice none 0 0] 60)).cell? ⟨w.heap.size, 1, none⟩ = some (.int .i64 q.2.1) := by rw [World.cell?_alloc_lt _ _ _ (heap_lt HG2.out)]; exact hy1
    clear hz3
    go_wp2_with fail
    refine (Read_out (.pointer none) q.2.1 0 _ (Len_nil _) (by omega)).mono ?_
    rintro r v0 ⟨rfl, hv0⟩
    obtain ⟨u, hu⟩ : ∃ u, u = w2.alloc (.cells #[.slice none 0 0, .slice none 0 0] 60) := ⟨_, rfl⟩
    have hbu : Below w2.heap.size w2 u := by rw [hu]; exact (Below.refl _ _).alloc (Nat.le_refl _) _
    rw [← hu] at hv0
    have hb0 : Below u.heap.size u v0 := by rw [hv0]; exact flt_below u _ 5
    have HB0 := hide ((HB2.out.trans (hbu.mono HB2.out.size)).trans (hb0.mono (Nat.le_trans HB2.out.size hbu.size)))
    obtain ⟨pz, hpz⟩ : ∃ pz, pz = w2.heap.size := ⟨_, rfl⟩
    have HZ0 : Hid (Dsk v0 (fun k => k = pz) pz [] []) := by rw [hpz]; exact (Hz3.out u hu).below hb0
    have hgo : v0.heap[w.heap.size]? = _ := ((hbu.trans (hb0.mono hbu.size)).block _ (heap_lt HG2.out)).trans HG2.out
    have HI0 := hide (show v0.cell? ⟨w.heap.size, 1, none⟩ = some (.int .i64 q.2.1) by simp [World.cell?, hgo])
    have Hbo := hide (show (⟨w.heap.size, 1, none⟩ : Addr).block < v0.heap.size from heap_lt hgo)
    have Hty0 := hide (Hty.out.below HB0.out Hty.out.lt)
    have hch : Chain v0 [(u.heap.size, ⟨#[100, 105, 115, 107]⟩, q.2.1)] (ptr u) (.iface 33 (.int .i64 5)) := by rw [hv0]; exact flt_chain u q.2.1 5
    have HQ1 := hide (Code_any _ _ _ 5 v0.drew Hty0.out (hch.below (Nat.le_refl _) (Below.refl _ _).drew) (Or.inr rfl) (by simp))
    rw [← hu, ← hpz]
    have Hhu := hide hu
    clear hv0 hbu hb0 hgo hch hy1 hy2 hy1' hu hpz
    go_wp2
    refine wp_region_any (by kernel_rfl) ?_
    change wpAny _ _ _ _ _ _ _ (World.drew _)
    refine wpAny_take (i := 0) (oi := ⟨some 43, _, _, _, _, _⟩) (v := ?_) rfl (by kernel_rfl) (by kernel_rfl) (by kernel_rfl) (fun _ _ _ h => h) (Or.inl ⟨by rfl, ?_⟩) ?_
    rotate_left 1
    · (intro w; go_simp; try with_reducible rfl)
    simp only [Act.put, List.setIfInBounds_toArray, List.set_cons_zero, List.set_cons_succ]
    refine wpAny_take (i := 1) (oi := ⟨some 44, _, _, _, _, _⟩) (v := ?_) rfl (by kernel_rfl) (by kernel_rfl) (by kernel_rfl) (fun _ _ _ h => h) (Or.inl ⟨by rfl, ?_⟩) ?_
    rotate_left 1
    · (intro w; go_simp; try with_reducible rfl)
    simp only [Act.put, List.setIfInBounds_toArray, List.set_cons_zero, List.set_cons_succ]
    refine wpAny_take (i := 2) (oi := ⟨some 45, _, _, _, _, _⟩) (v := ?_) rfl (by kernel_rfl) (by kernel_rfl) (by kernel_rfl) (fun _ _ _ h => h) (Or.inl ⟨by rfl, ?_⟩) ?_
    rotate_left 1
    · (intro w; go_simp; try with_reducible rfl)
    simp only [Act.put, List.setIfInBounds_toArray, List.set_cons_zero, List.set_cons_succ]
    refine wpAny_take (i := 3) (oi := ⟨some 46, _, _, _, _, _⟩) (v := ?_) rfl (by kernel_rfl) (by kernel_rfl) (by kernel_rfl) (fun _ _ _ h => h) (Or.inl ⟨by rfl, ?_⟩) ?_
    rotate_left 1
    · (intro w; go_simp; try with_reducible rfl)
    simp only [Act.put, List.setIfInBounds_toArray, List.set_cons_zero, List.set_cons_succ]
    refine wpAny_take (i := 4) (oi := ⟨some 47, _, _, _, _, _⟩) (v := ?_) rfl (by kernel_rfl) (by kernel_rfl) (by kernel_rfl) (fun _ _ _ h => h) (Or.inl ⟨by rfl, ?_⟩) ?_
    rotate_left 1
    · (intro w; go_simp; try with_reducible rfl)
    simp only [Act.put, List.setIfInBounds_toArray, List.set_cons_zero, List.set_cons_succ]
    refine wpAny_ready (rs := [5]) (by kernel_rfl) (by simp) ?_
    refine AllReady.cons (o := ⟨some 48, _, _, _, _, _⟩) rfl (fun K hK => ?_) AllReady.nil
    go_simp
    refine HQ1.out.mono ?_
    rintro r v1 ⟨rfl, hb1⟩
    have HV1 := hide (drew_below hb1)
    have hi1 : v1.cell? ⟨w.heap.size, 1, none⟩ = some (.int .i64 q.2.1) := (HV1.out.cell (p := ⟨w.heap.size, 1, none⟩) Hbo.out).trans HI0.out
    clear hb1
    refine hK _ _ ?_
    clear hK K
    refine wpAny_take (i := 6) (oi := ⟨some 49, _, _, _, _, _⟩) (v := ?_) rfl (by kernel_rfl) (by kernel_rfl) (by kernel_rfl) (fun _ _ _ h => h) (Or.inl ⟨by rfl, ?_⟩) ?_
    rotate_left 1
    · (intro w; go_simp; try with_reducible rfl)
    simp only [Act.put, List.setIfInBounds_toArray, List.set_cons_zero, List.set_cons_succ]
    refine wpAny_take (i := 7) (oi := ⟨some 50, _, _, _, _, _⟩) (v := ?_) rfl (by kernel_rfl) (by kernel_rfl) (by kernel_rfl) (fun _ _ _ h => h) (Or.inl ⟨by rfl, ?_⟩) ?_
    rotate_left 1
    · (intro w; go_simp; try with_reducible rfl)
    simp only [Act.put, List.setIfInBounds_toArray, List.set_cons_zero, List.set_cons_succ]
    refine wpAny_take (i := 8) (oi := ⟨some 51, _, _, _, _, _⟩) (v := ?_) rfl (by kernel_rfl) (by kernel_rfl) (by kernel_rfl) (fun _ _ _ h => h) (Or.inl ⟨by rfl, ?_⟩) ?_
    rotate_left 1
    · (intro w; go_simp; try with_reducible rfl)
    simp only [Act.put, List.setIfInBounds_toArray, List.set_cons_zero, List.set_cons_succ]
    refine wpAny_take (i := 9) (oi := ⟨some 52, _, _, _, _, _⟩) (v := ?_) rfl (by kernel_rfl) (by kernel_rfl) (by kernel_rfl) (fun _ _ _ h => h) (Or.inl ⟨by rfl, ?_⟩) ?_
    rotate_left 1
    · (intro w; go_simp; try with_reducible rfl)
    simp only [Act.put, List.setIfInBounds_toArray, List.set_cons_zero, List.set_cons_succ]
    refine wpAny_take (i := 10) (oi := ⟨some 53, _, _, _, _, _⟩) (v := ?_) rfl (by kernel_rfl) (by kernel_rfl) (by kernel_rfl) (fun _ _ _ h => h) (Or.inl ⟨by rfl, ?_⟩) ?_
    rotate_left 1
    · (intro w; go_simp; try with_reducible rfl)
    simp only [Act.put, List.setIfInBounds_toArray, List.set_cons_zero, List.set_cons_succ]
    refine wpAny_take (i := 12) (oi := ⟨some 55, _, _, _, _, _⟩) (v := ?_) rfl (by kernel_rfl) (by kernel_rfl) (by kernel_rfl) (fun _ _ _ h => h) (Or.inl ⟨by rfl, ?_⟩) ?_
    rotate_left 1
    · (intro w; go_simp; try with_reducible rfl)
    simp only [Act.put, List.setIfInBounds_toArray, List.set_cons_zero, List.set_cons_succ]
    refine wpAny_ready (rs := [11, 13]) (by kernel_rfl) (by simp) ?_
    refine AllReady.cons (o := ⟨some 54, _, _, _, _, _⟩) rfl (fun K hK => ?_) (AllReady.cons (o := ⟨some 56, _, _, _, _, _⟩) rfl (fun K hK => ?_) AllReady.nil)
    · go_simp
      refine hK _ _ ?_
      clear hK K
      refine wpAny_ready (rs := [13]) (by kernel_rfl) (by simp) ?_
      refine AllReady.cons (o := ⟨some 56, _, _, _, _, _⟩) rfl (fun K hK => ?_) AllReady.nil
      go_simp
      refine (full_any (UInt8.ofNat c) _ _ (ofNat8 c Hc.out)).mono ?_
      rintro r v2 ⟨g2, rfl, _, _, hb2⟩
      have HV2 := hide (HV1.out.trans (hb2.mono HV1.out.size))
      have hi2 : v2.cell? ⟨w.heap.size, 1, none⟩ = some (.int .i64 q.2.1) := (HV2.out.cell (p := ⟨w.heap.size, 1, none⟩) Hbo.out).trans HI0.out
      clear hb2 hi1
      refine hK _ _ ?_
      clear hK K
      refine wpAny_ready (rs := [14]) (by kernel_rfl) (by simp) ?_
      refine AllReady.cons (o := ⟨some 57, _, _, _, _, _⟩) rfl (fun K hK => ?_) AllReady.nil
      go_simp
      refine (Write_out (.pointer none) q.2.1 _ 0 v2 (Len_nil v2) (by omega)).mono ?_
      rintro r v3 ⟨rfl, hw3⟩
      have hb3 : Below v2.heap.size v2 v3 := by rw [hw3]; exact flt_below v2 _ 5
      have HV3 := hide (HV2.out.trans (hb3.mono HV2.out.size))
      have HC3 : Hid (Chain v3 [(v2.heap.size, ⟨#[100, 105, 115, 107]⟩, q.2.1)] (ptr v2) (.iface 33 (.int .i64 5))) := by rw [hw3]; exact flt_chain v2 q.2.1 5
      clear hb3 hw3 hi2
      refine hK _ _ ?_
      clear hK K
      refine wpAny_ready (rs := [15]) (by kernel_rfl) (by simp) ?_
      refine AllReady.cons (o := ⟨some 58, _, _, _, _, _⟩) rfl (fun K hK => ?_) AllReady.nil
      go_simp
      refine (Code_any _ _ _ 5 v3 (Hty0.out.below HV3.out Hty0.out.lt) HC3.out (Or.inr rfl) (by simp)).mono ?_
      rintro r v4 ⟨rfl, hb4⟩
      have HV4 := hide (HV3.out.trans (hb4.mono HV3.out.size))
      clear hb4 HC3
      refine hK _ _ ?_
      clear hK K
      refine wpAny_take (i := 16) (oi := ⟨some 59, _, _, _, _, _⟩) (v := ?_) rfl (by kernel_rfl) (by kernel_rfl) (by kernel_rfl) (fun _ _ _ h => h) (Or.inl ⟨by rfl, ?_⟩) ?_
      rotate_left 1
      · (intro w; go_simp; try with_reducible rfl)
      simp only [Act.put, List.setIfInBounds_toArray, List.set_cons_zero, List.set_cons_succ]
      refine wpAny_take (i := 17) (oi := ⟨some 60, _, _, _, _, _⟩) (v := ?_) rfl (by kernel_rfl) (by kernel_rfl) (by kernel_rfl) (fun _ _ _ h => h) (Or.inl ⟨by rfl, ?_⟩) ?_
      rotate_left 1
      · (intro w; go_simp; try with_reducible rfl)
      simp only [Act.put, List.setIfInBounds_toArray, List.set_cons_zero, List.set_cons_succ]
      refine wpAny_take (i := 18) (oi := ⟨some 61, _, _, _, _, _⟩) (v := ?_) rfl (by kernel_rfl) (by kernel_rfl) (by kernel_rfl) (fun _ _ _ h => h) (Or.inl ⟨by rfl, ?_⟩) ?_
      rotate_left 1
      · (intro w; go_simp; try with_reducible rfl)
      simp only [Act.put, List.setIfInBounds_toArray, List.set_cons_zero, List.set_cons_succ]
      refine wpAny_take (i := 19) (oi := ⟨some 62, _, _, _, _, _⟩) (v := ?_) rfl (by kernel_rfl) (by kernel_rfl) (by kernel_rfl) (fun _ _ _ h => h) (Or.inl ⟨by rfl, ?_⟩) ?_
      rotate_left 1
      · (intro w; go_simp; try with_reducible rfl)
      simp only [Act.put, List.setIfInBounds_toArray, List.set_cons_zero, List.set_cons_succ]
      refine wpAny_take (i := 21) (oi := ⟨some 64, _, _, _, _, _⟩) (v := ?_) rfl (by kernel_rfl) (by kernel_rfl) (by kernel_rfl) (fun _ _ _ h => h) (Or.inl ⟨by rfl, ?_⟩) ?_
      rotate_left 1
      · (intro w; go_simp; try with_reducible rfl)
      simp only [Act.put, List.setIfInBounds_toArray, List.set_cons_zero, List.set_cons_succ]
      refine wpAny_take (i := 24) (oi := ⟨some 67, _, _, _, _, _⟩) (v := ?_) rfl (by kernel_rfl) (by kernel_rfl) (by kernel_rfl) (fun _ _ _ h => h) (Or.inl ⟨by rfl, ?_⟩) ?_
      rotate_left 1
      · (intro w; go_simp; try with_reducible rfl)
      simp only [Act.put, List.setIfInBounds_toArray, List.set_cons_zero, List.set_cons_succ]
      refine wpAny_ready (rs := [20]) (by kernel_rfl) (by simp) ?_
      refine AllReady.cons (o := ⟨some 63, _, _, _, _, _⟩) rfl (fun K hK => ?_) AllReady.nil
      go_simp
      refine (Len_nil v4).mono ?_
      rintro r v4a ⟨rfl, rfl⟩
      refine hK _ _ ?_
      clear hK K
      refine wpAny_ready (rs := [22]) (by kernel_rfl) (by simp) ?_
      refine AllReady.cons (o := ⟨some 65, _, _, _, _, _⟩) rfl (fun K hK => ?_) AllReady.nil
      go_simp
      refine (Loose_nil v4).mono ?_
      rintro r v4b ⟨rfl, rfl⟩
      refine hK _ _ ?_
      clear hK K
      refine wpAny_take (i := 23) (oi := ⟨some 66, _, _, _, _, _⟩) (v := ?_) rfl (by kernel_rfl) (by kernel_rfl) (by kernel_rfl) (fun _ _ _ h => h) (Or.inl ⟨by rfl, ?_⟩) ?_
      rotate_left 1
      · (intro w; go_simp; try with_reducible rfl)
      simp only [Act.put, List.setIfInBounds_toArray, List.set_cons_zero, List.set_cons_succ]
      refine wpAny_ready (rs := [25]) (by kernel_rfl) (by simp) ?_
      refine AllReady.cons (o := ⟨some 68, _, _, _, _, _⟩) rfl (fun K hK => ?_) AllReady.nil
      go_simp
      refine (Len_any (HZ0.out.below HV4.out)).mono ?_
      rintro r v4c ⟨rfl, rfl⟩
      refine hK _ _ ?_
      clear hK K
      refine wpAny_take (i := 26) (oi := ⟨some 69, _, _, _, _, _⟩) (v := ?_) rfl (by kernel_rfl) (by kernel_rfl) (by kernel_rfl) (fun _ _ _ h => h) (Or.inl ⟨by rfl, ?_⟩) ?_
      rotate_left 1
      · (intro w; go_simp; try with_reducible rfl)
      simp only [Act.put, List.setIfInBounds_toArray, List.set_cons_zero, List.set_cons_succ]
      refine wpAny_take (i := 27) (oi := ⟨some 70, _, _, _, _, _⟩) (v := ?_) rfl (by kernel_rfl) (by kernel_rfl) (by kernel_rfl) (fun _ _ _ h => h) (Or.inl ⟨by rfl, ?_⟩) ?_
      rotate_left 1
      · (intro w; go_simp; try with_reducible rfl)
      simp only [Act.put, List.setIfInBounds_toArray, List.set_cons_zero, List.set_cons_succ]
      refine wpAny_take (i := 28) (oi := ⟨some 71, _, _, _, _, _⟩) (v := ?_) rfl (by kernel_rfl) (by kernel_rfl) (by kernel_rfl) (fun _ _ _ h => h) (Or.inl ⟨by rfl, ?_⟩) ?_
      rotate_left 1
      · (intro w; go_simp; try with_reducible rfl)
      simp only [Act.put, List.setIfInBounds_toArray, List.set_cons_zero, List.set_cons_succ]
      refine wpAny_take (i := 29) (oi := ⟨some 72, _, _, _, _, _⟩) (v := ?_) rfl (by kernel_rfl) (by kernel_rfl) (by kernel_rfl) (fun _ _ _ h => h) (Or.inl ⟨by rfl, ?_⟩) ?_
      rotate_left 1
      · (intro w; go_simp; try with_reducible rfl)
      simp only [Act.put, List.setIfInBounds_toArray, List.set_cons_zero, List.set_cons_succ]
      refine wpAny_take (i := 30) (oi := ⟨some 73, _, _, _, _, _⟩) (v := ?_) rfl (by kernel_rfl) (by kernel_rfl) (by kernel_rfl) (fun _ _ _ h => h) (Or.inl ⟨by rfl, ?_⟩) ?_
      rotate_left 1
      · (intro w; go_simp; try with_reducible rfl)
      simp only [Act.put, List.setIfInBounds_toArray, List.set_cons_zero, List.set_cons_succ]
      refine wpAny_take (i := 31) (oi := ⟨some 74, _, _, _, _, _⟩) (v := ?_) rfl (by kernel_rfl) (by kernel_rfl) (by kernel_rfl) (fun _ _ _ h => h) (Or.inl ⟨by rfl, ?_⟩) ?_
      rotate_left 1
      · (intro w; go_simp; try with_reducible rfl)
      simp only [Act.put, List.setIfInBounds_toArray, List.set_cons_zero, List.set_cons_succ]
      refine wpAny_ready (rs := [32]) (by kernel_rfl) (by simp) ?_
      refine AllReady.cons (o := ⟨some 75, _, _, _, _, _⟩) rfl (fun K hK => ?_) AllReady.nil
      go_simp
      refine (full_any (UInt8.ofNat c) _ _ (ofNat8 c Hc.out)).mono ?_
      rintro r v5 ⟨g5, rfl, _, _, hb5⟩
      have HV5 := hide (HV4.out.trans (hb5.mono HV4.out.size))
      clear hb5
      refine hK _ _ ?_
      clear hK K
      refine wpAny_ready (rs := [33]) (by kernel_rfl) (by simp) ?_
      refine AllReady.cons (o := ⟨some 76, _, _, _, _, _⟩) rfl (fun K hK => ?_) AllReady.nil
      go_simp
      refine (Write_out (.pointer (some ⟨pz, 0, none⟩)) 0 _ 0 v5 (Len_any (HZ0.out.below HV5.out)) (by omega)).mono ?_
      rintro r v6 ⟨rfl, hw6⟩
      have hb6 : Below v5.heap.size v5 v6 := by rw [hw6]; exact flt_below v5 _ 5
      have HV6 := hide (HV5.out.trans (hb6.mono HV5.out.size))
      have HC6 : Hid (Chain v6 [(v5.heap.size, ⟨#[100, 105, 115, 107]⟩, 0)] (ptr v5) (.iface 33 (.int .i64 5))) := by rw [hw6]; exact flt_chain v5 0 5
      clear hb6 hw6
      refine hK _ _ ?_
      clear hK K
      refine wpAny_ready (rs := [34]) (by kernel_rfl) (by simp) ?_
      refine AllReady.cons (o := ⟨some 77, _, _, _, _, _⟩) rfl (fun K hK => ?_) AllReady.nil
      go_simp
      refine (Code_any _ _ _ 5 v6 (Hty0.out.below HV6.out Hty0.out.lt) HC6.out (Or.inr rfl) (by simp)).mono ?_
      rintro r v7 ⟨rfl, hb7⟩
      have HV7 := hide (HV6.out.trans (hb7.mono HV6.out.size))
      clear hb7 HC6
      refine hK _ _ ?_
      clear hK K
      refine wpAny_take (i := 35) (oi := ⟨some 78, _, _, _, _, _⟩) (v := ?_) rfl (by kernel_rfl) (by kernel_rfl) (by kernel_rfl) (fun _ _ _ h => h) (Or.inl ⟨by rfl, ?_⟩) ?_
      rotate_left 1
      · (intro w; go_simp; try with_reducible rfl)
      simp only [Act.put, List.setIfInBounds_toArray, List.set_cons_zero, List.set_cons_succ]
      refine wpAny_take (i := 36) (oi := ⟨some 79, _, _, _, _, _⟩) (v := ?_) rfl (by kernel_rfl) (by kernel_rfl) (by kernel_rfl) (fun _ _ _ h => h) (Or.inl ⟨by rfl, ?_⟩) ?_
      rotate_left 1
      · (intro w; go_simp; try with_reducible rfl)
      simp only [Act.put, List.setIfInBounds_toArray, List.set_cons_zero, List.set_cons_succ]
      refine wpAny_done (by kernel_rfl) ?_ _
      have HB7 := hide (HB0.out.trans (HV7.out.mono HB0.out.size))
      clear HV7 HV6 HV5 HV4 HV3 HV2 HV1
      go_wp2_with fail
      refine (New_any 256 256 v7 (by decide)).mono ?_
      rintro r d1 ⟨p, G, rfl, hd1, hG1, hb1⟩
      have HBd1 := hide (HB7.out.trans (hb1.mono HB7.out.size))
      have HG1 := hide (show ∀ k, G k → w.heap.size ≤ k from fun k hk => Nat.le_trans HB7.out.size (hG1 k hk))
      have HD1 := hide hd1
      clear hd1 hG1 hb1
      go_wp2_with fail
      refine (full_any (UInt8.ofNat c) _ _ (ofNat8 c Hc.out)).mono ?_
      rintro r d2 ⟨go, rfl, hgo, hco, hb2⟩
      have HD2 := hide (HD1.out.below hb2)
      have HBd2 := hide (HBd1.out.trans (hb2.mono HBd1.out.size))
      have HnG := hide (show ¬ G go from fun h => by have := HD1.out.lt go h; omega)
      have Hgow := hide (show w.heap.size ≤ go from Nat.le_trans HBd1.out.size hgo)
      have Hco := hide hco
      clear hgo hco hb2
      go_wp2_with fail
      refine (Write_any d2 G p i 64 _ _ [] (fl (UInt8.ofNat c)) HD2.out (by rw [List.length_replicate]; exact Hi.out) (byt_row Hco.out) (fl_length _) (by decide)).mono ?_
      rintro r d3 ⟨rfl, G3, hd3, hg3, hk3⟩
      have hgo3 := (hk3.block go (heap_lt Hco.out) HnG.out).trans Hco.out
      have hnG3 : ¬ G3 go := fun h => by
        rcases hg3 go h with h | h
        · exact HnG.out h
        · have := heap_lt Hco.out; omega
      have HBd3 := hide (HBd2.out.trans (hk3.below HG1.out HBd2.out.size))
      have HG3 := hide (hg3.from HG1.out HBd2.out.size)
      obtain ⟨hc5, hf5⟩ := cell_fl (j := 5) hgo3 (by decide)
      have HDv := hide (show ∀ v, Dsk (d3.setCell ⟨go, 5, none⟩ v) G3 p (List.replicate 256 zero) ([] ++ [(i, fl (UInt8.ofNat c))]) from fun v => hd3.poke hnG3 v)
      have Hall := hide (show (all (List.replicate 256 zero) ([] ++ [(i, fl (UInt8.ofNat c))]))[i]? = some (fl (UInt8.ofNat c)) from all_last (L := []) (M := []) (by rw [List.length_replicate]; exact Hi.out) (fun x hx => by cases hx))
      have Hlen := hide (show i < (List.replicate 256 zero).length by rw [List.length_replicate]; exact Hi.out)
      have HD3 := hide hd3
      clear hd3 hg3 hk3 hgo3 hnG3
      go_wp2_with fail
      refine (Read_any _ G3 p i _ _ (fl (UInt8.ofNat c)) (HDv.out _) Hall.out Hlen.out (by simp)).mono ?_
      rintro r d4 ⟨gx, rfl, hgx, hcx, hb4⟩
      have HBd4 := hide ((HBd3.out.setCell (p := ⟨go, 5, none⟩) Hgow.out _).trans (hb4.mono (by rw [poke_size]; exact HBd3.out.size)))
      have hd4 := (HDv.out _).below hb4
      rw [poke_size] at hgx
      have hnx : ¬ G3 gx := fun h => by have := HD3.out.lt gx h; omega
      have Hgxw := hide (show w.heap.size ≤ gx from Nat.le_trans HBd3.out.size hgx)
      obtain ⟨hc6, hf6⟩ := cell_fl (j := 6) hcx.out (by decide)
      have HDx := hide (show ∀ v, Dsk (d4.setCell ⟨gx, 6, none⟩ v) G3 p (List.replicate 256 zero) ([] ++ [(i, fl (UInt8.ofNat c))]) from fun v => hd4.poke hnx v)
      clear hgx hcx hb4 hd4 hnx hc5 hf5 HDv HD3
      go_wp2_with fail
      refine (Flush_any _ G3 p _ _ (HDx.out _) (by simp)).mono ?_
      rintro r d5 ⟨rfl, G5, hd5, hg5, hk5⟩
      have hBx := HBd4.out.setCell (p := ⟨gx, 6, none⟩) Hgxw.out (.int .u8 (bits .xor .u8 ((UInt8.ofNat c).toNat : Int) 255))
      have HBd5 := hide ((HBd4.out.setCell (p := ⟨gx, 6, none⟩) Hgxw.out _).trans (hk5.below HG3.out (by rw [poke_size]; exact HBd4.out.size)))
      have HD5 := hide hd5
      clear hd5 hg5 hk5 hBx hc6 hf6 HDx
      go_wp2_with fail
      refine (Read_any d5 G5 p i _ _ (fl (UInt8.ofNat c)) HD5.out Hall.out (by rw [all_length]; exact Hlen.out) (by simp)).mono ?_
      rintro r d6 ⟨gy, rfl, hgy, hcy, hb6⟩
      have HBd6 := hide (HBd5.out.trans (hb6.mono HBd5.out.size))
      have hd6 := HD5.out.below hb6
      have hny : ¬ G5 gy := fun h => by have := HD5.out.lt gy h; omega
      have Hgyw := hide (show w.heap.size ≤ gy from Nat.le_trans HBd5.out.size hgy)
      obtain ⟨hc7, hf7⟩ := cell_fl (j := 7) hcy.out (by decide)
      have HDy := hide (show ∀ v, Dsk (d6.setCell ⟨gy, 7, none⟩ v) G5 p (all (List.replicate 256 zero) ([] ++ [(i, fl (UInt8.ofNat c))])) [] from fun v => hd6.poke hny v)
      clear hgy hcy hb6 hd6 hny HD5
      go_wp2_with fail
      refine (Read_any _ G5 p i _ _ (fl (UInt8.ofNat c)) (HDy.out _) Hall.out (by rw [all_length]; exact Hlen.out) (by simp)).mono ?_
      rintro r z ⟨gz, rfl, hgz, hcz, hbz⟩
      have HBz := hide ((HBd6.out.setCell (p := ⟨gy, 7, none⟩) Hgyw.out _).trans (hbz.mono (by rw [poke_size]; exact HBd6.out.size)))
      have Hby : Hid (Byt z.drew z.drew.heap.size (some ⟨gz, 0, none⟩) (fl (UInt8.ofNat c))) := byt_row (w := z) hcz.out
      have HS5 := hide (run_str z.drew _ _ _ 64 64 (fl_length _) Hby.out)
      clear hgz hcz hbz hc7 hf7 HDy
      go_wp2
      refine wp_region_any (by kernel_rfl) ?_
      change wpAny _ _ _ _ _ _ _ (World.drew _)
      refine wpAny_take (i := 0) (oi := ⟨some 133, _, _, _, _, _⟩) (v := ?_) rfl (by kernel_rfl) (by kernel_rfl) (by kernel_rfl) (fun _ _ _ h => h) (Or.inl ⟨by rfl, ?_⟩) ?_
      rotate_left 1
      · (intro w; go_simp; try with_reducible rfl)
      simp only [Act.put, List.setIfInBounds_toArray, List.set_cons_zero, List.set_cons_succ]
      refine wpAny_take (i := 1) (oi := ⟨some 134, _, _, _, _, _⟩) (v := ?_) rfl (by kernel_rfl) (by kernel_rfl) (by kernel_rfl) (fun _ _ _ h => h) (Or.inl ⟨by rfl, ?_⟩) ?_
      rotate_left 1
      · (intro w; go_simp; try with_reducible rfl)
      simp only [Act.put, List.setIfInBounds_toArray, List.set_cons_zero, List.set_cons_succ]
      refine wpAny_take (i := 2) (oi := ⟨some 135, _, _, _, _, _⟩) (v := ?_) rfl (by kernel_rfl) (by kernel_rfl) (by kernel_rfl) (fun _ _ _ h => h) (Or.inl ⟨by rfl, ?_⟩) ?_
      rotate_left 1
      · (intro w; go_simp; try with_reducible rfl)
      simp only [Act.put, List.setIfInBounds_toArray, List.set_cons_zero, List.set_cons_succ]
      refine wpAny_take (i := 3) (oi := ⟨some 136, _, _, _, _, _⟩) (v := ?_) rfl (by kernel_rfl) (by kernel_rfl) (by kernel_rfl) (fun _ _ _ h => h) (Or.inl ⟨by rfl, ?_⟩) ?_
      rotate_left 1
      · (intro w; go_simp; try with_reducible rfl)
      simp only [Act.put, List.setIfInBounds_toArray, List.set_cons_zero, List.set_cons_succ]
      refine wpAny_take (i := 5) (oi := ⟨some 138, _, _, _, _, _⟩) (v := ?_) rfl (by kernel_rfl) (by kernel_rfl) (by kernel_rfl) (fun _ _ _ h => h) (Or.inl ⟨by rfl, ?_⟩) ?_
      rotate_left 1
      · (intro w; go_simp; try with_reducible rfl)
      simp only [Act.put, List.setIfInBounds_toArray, List.set_cons_zero, List.set_cons_succ]
      refine wpAny_ready (rs := [4, 6]) (by kernel_rfl) (by simp) ?_
      refine AllReady.cons (o := ⟨some 137, _, _, _, _, _⟩) rfl (fun K hK => ?_) (AllReady.cons (o := ⟨some 139, _, _, _, _, _⟩) rfl (fun K hK => ?_) AllReady.nil)
      · refine step_wp2 (by rfl) (wp_convert_told 38 9 (.tmp 136) rfl _ rfl HS5.out ?_)
        refine hK _ _ ?_
        clear hK K
        refine wpAny_ready (rs := [6]) (by kernel_rfl) (by simp) ?_
        refine AllReady.cons (o := ⟨some 139, _, _, _, _, _⟩) rfl (fun K hK => ?_) AllReady.nil
        go_simp
        refine (full_any (UInt8.ofNat c) _ _ (ofNat8 c Hc.out)).mono ?_
        rintro r y6 ⟨h6, rfl, hg6, hc6, hb6⟩
        have HS6 := hide (run_str y6 _ _ _ 64 64 (fl_length _) ((Hby.out.below hb6).more hb6.size))
        have HT6 := hide (run_str y6 _ _ _ 64 64 (fl_length _) (byt_row hc6))
        have HBy := hide (HBz.out.trans ((drew_below hb6).mono HBz.out.size))
        clear hg6 hc6 hb6
        refine hK _ _ ?_
        clear hK K
        refine wpAny_ready (rs := [7]) (by kernel_rfl) (by simp) ?_
        refine AllReady.cons (o := ⟨some 140, _, _, _, _, _⟩) rfl (fun K hK => ?_) AllReady.nil
        refine step_wp2 (by rfl) (wp_convert_told 38 9 (.tmp 139) rfl _ rfl HT6.out ?_)
        refine hK _ _ ?_
        clear hK K
        refine wpAny_take (i := 8) (oi := ⟨some 141, _, _, _, _, _⟩) (v := ?_) rfl (by kernel_rfl) (by kernel_rfl) (by kernel_rfl) (fun _ _ _ h => h) (Or.inl ⟨by rfl, ?_⟩) ?_
        rotate_left 1
        · (intro w; go_simp; try with_reducible rfl)
        simp only [Act.put, List.setIfInBounds_toArray, List.set_cons_zero, List.set_cons_succ]
        refine wpAny_take (i := 9) (oi := ⟨some 142, _, _, _, _, _⟩) (v := ?_) rfl (by kernel_rfl) (by kernel_rfl) (by kernel_rfl) (fun _ _ _ h => h) (Or.inl ⟨by rfl, ?_⟩) ?_
        rotate_left 1
        · (intro w; go_simp; try with_reducible rfl)
        simp only [Act.put, List.setIfInBounds_toArray, List.set_cons_zero, List.set_cons_succ]
        refine wpAny_take (i := 10) (oi := ⟨some 6, _, _, _, _, _⟩) (v := ?_) rfl (by kernel_rfl) (by kernel_rfl) (by kernel_rfl) (fun _ _ _ h => h) (Or.inl ⟨by rfl, ?_⟩) ?_
        rotate_left 1
        · (intro w; go_simp; try with_reducible rfl)
        simp only [Act.put, List.setIfInBounds_toArray, List.set_cons_zero, List.set_cons_succ]
        refine wpAny_done (by kernel_rfl) ?_ _
        go_wp2
        go_ret
        exact ⟨rfl, HBy.out⟩
      · go_simp
        refine (full_any (UInt8.ofNat c) _ _ (ofNat8 c Hc.out)).mono ?_
        rintro r y6 ⟨h6, rfl, hg6, hc6, hb6⟩
        have HS6 := hide (run_str y6 _ _ _ 64 64 (fl_length _) ((Hby.out.below hb6).more hb6.size))
        have HT6 := hide (run_str y6 _ _ _ 64 64 (fl_length _) (byt_row hc6))
        have HBy := hide (HBz.out.trans ((drew_below hb6).mono HBz.out.size))
        clear hg6 hc6 hb6
        refine hK _ _ ?_
        clear hK K
        refine wpAny_ready (rs := [4, 7]) (by kernel_rfl) (by simp) ?_
        refine AllReady.cons (o := ⟨some 137, _, _, _, _, _⟩) rfl (fun K hK => ?_) (AllReady.cons (o := ⟨some 140, _, _, _, _, _⟩) rfl (fun K hK => ?_) AllReady.nil)
        · refine step_wp2 (by rfl) (wp_convert_told 38 9 (.tmp 136) rfl _ rfl HS6.out ?_)
          refine hK _ _ ?_
          clear hK K
          refine wpAny_ready (rs := [7]) (by kernel_rfl) (by simp) ?_
          refine AllReady.cons (o := ⟨some 140, _, _, _, _, _⟩) rfl (fun K hK => ?_) AllReady.nil
          refine step_wp2 (by rfl) (wp_convert_told 38 9 (.tmp 139) rfl _ rfl HT6.out ?_)
          refine hK _ _ ?_
          clear hK K
          refine wpAny_take (i := 8) (oi := ⟨some 141, _, _, _, _, _⟩) (v := ?_) rfl (by kernel_rfl) (by kernel_rfl) (by kernel_rfl) (fun _ _ _ h => h) (Or.inl ⟨by rfl, ?_⟩) ?_
          rotate_left 1
          · (intro w; go_simp; try with_reducible rfl)
          simp only [Act.put, List.setIfInBounds_toArray, List.set_cons_zero, List.set_cons_succ]
          refine wpAny_take (i := 9) (oi := ⟨some 142, _, _, _, _, _⟩) (v := ?_) rfl (by kernel_rfl) (by kernel_rfl) (by kernel_rfl) (fun _ _ _ h => h) (Or.inl ⟨by rfl, ?_⟩) ?_
          rotate_left 1
          · (intro w; go_simp; try with_reducible rfl)
          simp only [Act.put, List.setIfInBounds_toArray, List.set_cons_zero, List.set_cons_succ]
          refine wpAny_take (i := 10) (oi := ⟨some 6, _, _, _, _, _⟩) (v := ?_) rfl (by kernel_rfl) (by kernel_rfl) (by kernel_rfl) (fun _ _ _ h => h) (Or.inl ⟨by rfl, ?_⟩) ?_
          rotate_left 1
          · (intro w; go_simp; try with_reducible rfl)
          simp only [Act.put, List.setIfInBounds_toArray, List.set_cons_zero, List.set_cons_succ]
          refine wpAny_done (by kernel_rfl) ?_ _
          go_wp2
          go_ret
          exact ⟨rfl, HBy.out⟩
        · refine step_wp2 (by rfl) (wp_convert_told 38 9 (.tmp 139) rfl _ rfl HT6.out ?_)
          refine hK _ _ ?_
          clear hK K
          refine wpAny_ready (rs := [4]) (by kernel_rfl) (by simp) ?_
          refine AllReady.cons (o := ⟨some 137, _, _, _, _, _⟩) rfl (fun K hK => ?_) AllReady.nil
          refine step_wp2 (by rfl) (wp_convert_told 38 9 (.tmp 136) rfl _ rfl HS6.out ?_)
          refine hK _ _ ?_
          clear hK K
          refine wpAny_take (i := 8) (oi := ⟨some 141, _, _, _, _, _⟩) (v := ?_) rfl (by kernel_rfl) (by kernel_rfl) (by kernel_rfl) (fun _ _ _ h => h) (Or.inl ⟨by rfl, ?_⟩) ?_
          rotate_left 1
          · (intro w; go_simp; try with_reducible rfl)
          simp only [Act.put, List.setIfInBounds_toArray, List.set_cons_zero, List.set_cons_succ]
          refine wpAny_take (i := 9) (oi := ⟨some 142, _, _, _, _, _⟩) (v := ?_) rfl (by kernel_rfl) (by kernel_rfl) (by kernel_rfl) (fun _ _ _ h => h) (Or.inl ⟨by rfl, ?_⟩) ?_
          rotate_left 1
          · (intro w; go_simp; try with_reducible rfl)
          simp only [Act.put, List.setIfInBounds_toArray, List.set_cons_zero, List.set_cons_succ]
          refine wpAny_take (i := 10) (oi := ⟨some 6, _, _, _, _, _⟩) (v := ?_) rfl (by kernel_rfl) (by kernel_rfl) (by kernel_rfl) (fun _ _ _ h => h) (Or.inl ⟨by rfl, ?_⟩) ?_
          rotate_left 1
          · (intro w; go_simp; try with_reducible rfl)
          simp only [Act.put, List.setIfInBounds_toArray, List.set_cons_zero, List.set_cons_succ]
          refine wpAny_done (by kernel_rfl) ?_ _
          go_wp2
          go_ret
          exact ⟨rfl, HBy.out⟩
    · go_simp
      refine (full_any (UInt8.ofNat c) _ _ (ofNat8 c Hc.out)).mono ?_
      rintro r v2 ⟨g2, rfl, _, _, hb2⟩
      have HV2 := hide (HV1.out.trans (hb2.mono HV1.out.size))
      have hi2 : v2.cell? ⟨w.heap.size, 1, none⟩ = some (.int .i64 q.2.1) := (HV2.out.cell (p := ⟨w.heap.size, 1, none⟩) Hbo.out).trans HI0.out
      clear hb2 hi1
      refine hK _ _ ?_
      clear hK K
      refine wpAny_ready (rs := [11]) (by kernel_rfl) (by simp) ?_
      refine AllReady.cons (o := ⟨some 54, _, _, _, _, _⟩) rfl (fun K hK => ?_) AllReady.nil
      go_simp
      refine hK _ _ ?_
      clear hK K
      refine wpAny_ready (rs := [14]) (by kernel_rfl) (by simp) ?_
      refine AllReady.cons (o := ⟨some 57, _, _, _, _, _⟩) rfl (fun K hK => ?_) AllReady.nil
      go_simp
      refine (Write_out (.pointer none) q.2.1 _ 0 v2 (Len_nil v2) (by omega)).mono ?_
      rintro r v3 ⟨rfl, hw3⟩
      have hb3 : Below v2.heap.size v2 v3 := by rw [hw3]; exact flt_below v2 _ 5
      have HV3 := hide (HV2.out.trans (hb3.mono HV2.out.size))
      have HC3 : Hid (Chain v3 [(v2.heap.size, ⟨#[100, 105, 115, 107]⟩, q.2.1)] (ptr v2) (.iface 33 (.int .i64 5))) := by rw [hw3]; exact flt_chain v2 q.2.1 5
      clear hb3 hw3 hi2
      refine hK _ _ ?_
      clear hK K
      refine wpAny_ready (rs := [15]) (by kernel_rfl) (by simp) ?_
      refine AllReady.cons (o := ⟨some 58, _, _, _, _, _⟩) rfl (fun K hK => ?_) AllReady.nil
      go_simp
      refine (Code_any _ _ _ 5 v3 (Hty0.out.below HV3.out Hty0.out.lt) HC3.out (Or.inr rfl) (by simp)).mono ?_
      rintro r v4 ⟨rfl, hb4⟩
      have HV4 := hide (HV3.out.trans (hb4.mono HV3.out.size))
      clear hb4 HC3
      refine hK _ _ ?_
      clear hK K
      refine wpAny_take (i := 16) (oi := ⟨some 59, _, _, _, _, _⟩) (v := ?_) rfl (by kernel_rfl) (by kernel_rfl) (by kernel_rfl) (fun _ _ _ h => h) (Or.inl ⟨by rfl, ?_⟩) ?_
      rotate_left 1
      · (intro w; go_simp; try with_reducible rfl)
      simp only [Act.put, List.setIfInBounds_toArray, List.set_cons_zero, List.set_cons_succ]
      refine wpAny_take (i := 17) (oi := ⟨some 60, _, _, _, _, _⟩) (v := ?_) rfl (by kernel_rfl) (by kernel_rfl) (by kernel_rfl) (fun _ _ _ h => h) (Or.inl ⟨by rfl, ?_⟩) ?_
      rotate_left 1
      · (intro w; go_simp; try with_reducible rfl)
      simp only [Act.put, List.setIfInBounds_toArray, List.set_cons_zero, List.set_cons_succ]
      refine wpAny_take (i := 18) (oi := ⟨some 61, _, _, _, _, _⟩) (v := ?_) rfl (by kernel_rfl) (by kernel_rfl) (by kernel_rfl) (fun _ _ _ h => h) (Or.inl ⟨by rfl, ?_⟩) ?_
      rotate_left 1
      · (intro w; go_simp; try with_reducible rfl)
      simp only [Act.put, List.setIfInBounds_toArray, List.set_cons_zero, List.set_cons_succ]
      refine wpAny_take (i := 19) (oi := ⟨some 62, _, _, _, _, _⟩) (v := ?_) rfl (by kernel_rfl) (by kernel_rfl) (by kernel_rfl) (fun _ _ _ h => h) (Or.inl ⟨by rfl, ?_⟩) ?_
      rotate_left 1
      · (intro w; go_simp; try with_reducible rfl)
      simp only [Act.put, List.setIfInBounds_toArray, List.set_cons_zero, List.set_cons_succ]
      refine wpAny_take (i := 21) (oi := ⟨some 64, _, _, _, _, _⟩) (v := ?_) rfl (by kernel_rfl) (by kernel_rfl) (by kernel_rfl) (fun _ _ _ h => h) (Or.inl ⟨by rfl, ?_⟩) ?_
      rotate_left 1
      · (intro w; go_simp; try with_reducible rfl)
      simp only [Act.put, List.setIfInBounds_toArray, List.set_cons_zero, List.set_cons_succ]
      refine wpAny_take (i := 24) (oi := ⟨some 67, _, _, _, _, _⟩) (v := ?_) rfl (by kernel_rfl) (by kernel_rfl) (by kernel_rfl) (fun _ _ _ h => h) (Or.inl ⟨by rfl, ?_⟩) ?_
      rotate_left 1
      · (intro w; go_simp; try with_reducible rfl)
      simp only [Act.put, List.setIfInBounds_toArray, List.set_cons_zero, List.set_cons_succ]
      refine wpAny_ready (rs := [20]) (by kernel_rfl) (by simp) ?_
      refine AllReady.cons (o := ⟨some 63, _, _, _, _, _⟩) rfl (fun K hK => ?_) AllReady.nil
      go_simp
      refine (Len_nil v4).mono ?_
      rintro r v4a ⟨rfl, rfl⟩
      refine hK _ _ ?_
      clear hK K
      refine wpAny_ready (rs := [22]) (by kernel_rfl) (by simp) ?_
      refine AllReady.cons (o := ⟨some 65, _, _, _, _, _⟩) rfl (fun K hK => ?_) AllReady.nil
      go_simp
      refine (Loose_nil v4).mono ?_
      rintro r v4b ⟨rfl, rfl⟩
      refine hK _ _ ?_
      clear hK K
      refine wpAny_take (i := 23) (oi := ⟨some 66, _, _, _, _, _⟩) (v := ?_) rfl (by kernel_rfl) (by kernel_rfl) (by kernel_rfl) (fun _ _ _ h => h) (Or.inl ⟨by rfl, ?_⟩) ?_
      rotate_left 1
      · (intro w; go_simp; try with_reducible rfl)
      simp only [Act.put, List.setIfInBounds_toArray, List.set_cons_zero, List.set_cons_succ]
      refine wpAny_ready (rs := [25]) (by kernel_rfl) (by simp) ?_
      refine AllReady.cons (o := ⟨some 68, _, _, _, _, _⟩) rfl (fun K hK => ?_) AllReady.nil
      go_simp
      refine (Len_any (HZ0.out.below HV4.out)).mono ?_
      rintro r v4c ⟨rfl, rfl⟩
      refine hK _ _ ?_
      clear hK K
      refine wpAny_take (i := 26) (oi := ⟨some 69, _, _, _, _, _⟩) (v := ?_) rfl (by kernel_rfl) (by kernel_rfl) (by kernel_rfl) (fun _ _ _ h => h) (Or.inl ⟨by rfl, ?_⟩) ?_
      rotate_left 1
      · (intro w; go_simp; try with_reducible rfl)
      simp only [Act.put, List.setIfInBounds_toArray, List.set_cons_zero, List.set_cons_succ]
      refine wpAny_take (i := 27) (oi := ⟨some 70, _, _, _, _, _⟩) (v := ?_) rfl (by kernel_rfl) (by kernel_rfl) (by kernel_rfl) (fun _ _ _ h => h) (Or.inl ⟨by rfl, ?_⟩) ?_
      rotate_left 1
      · (intro w; go_simp; try with_reducible rfl)
      simp only [Act.put, List.setIfInBounds_toArray, List.set_cons_zero, List.set_cons_succ]
      refine wpAny_take (i := 28) (oi := ⟨some 71, _, _, _, _, _⟩) (v := ?_) rfl (by kernel_rfl) (by kernel_rfl) (by kernel_rfl) (fun _ _ _ h => h) (Or.inl ⟨by rfl, ?_⟩) ?_
      rotate_left 1
      · (intro w; go_simp; try with_reducible rfl)
      simp only [Act.put, List.setIfInBounds_toArray, List.set_cons_zero, List.set_cons_succ]
      refine wpAny_take (i := 29) (oi := ⟨some 72, _, _, _, _, _⟩) (v := ?_) rfl (by kernel_rfl) (by kernel_rfl) (by kernel_rfl) (fun _ _ _ h => h) (Or.inl ⟨by rfl, ?_⟩) ?_
      rotate_left 1
      · (intro w; go_simp; try with_reducible rfl)
      simp only [Act.put, List.setIfInBounds_toArray, List.set_cons_zero, List.set_cons_succ]
      refine wpAny_take (i := 30) (oi := ⟨some 73, _, _, _, _, _⟩) (v := ?_) rfl (by kernel_rfl) (by kernel_rfl) (by kernel_rfl) (fun _ _ _ h => h) (Or.inl ⟨by rfl, ?_⟩) ?_
      rotate_left 1
      · (intro w; go_simp; try with_reducible rfl)
      simp only [Act.put, List.setIfInBounds_toArray, List.set_cons_zero, List.set_cons_succ]
      refine wpAny_take (i := 31) (oi := ⟨some 74, _, _, _, _, _⟩) (v := ?_) rfl (by kernel_rfl) (by kernel_rfl) (by kernel_rfl) (fun _ _ _ h => h) (Or.inl ⟨by rfl, ?_⟩) ?_
      rotate_left 1
      · (intro w; go_simp; try with_reducible rfl)
      simp only [Act.put, List.setIfInBounds_toArray, List.set_cons_zero, List.set_cons_succ]
      refine wpAny_ready (rs := [32]) (by kernel_rfl) (by simp) ?_
      refine AllReady.cons (o := ⟨some 75, _, _, _, _, _⟩) rfl (fun K hK => ?_) AllReady.nil
      go_simp
      refine (full_any (UInt8.ofNat c) _ _ (ofNat8 c Hc.out)).mono ?_
      rintro r v5 ⟨g5, rfl, _, _, hb5⟩
      have HV5 := hide (HV4.out.trans (hb5.mono HV4.out.size))
      clear hb5
      refine hK _ _ ?_
      clear hK K
      refine wpAny_ready (rs := [33]) (by kernel_rfl) (by simp) ?_
      refine AllReady.cons (o := ⟨some 76, _, _, _, _, _⟩) rfl (fun K hK => ?_) AllReady.nil
      go_simp
      refine (Write_out (.pointer (some ⟨pz, 0, none⟩)) 0 _ 0 v5 (Len_any (HZ0.out.below HV5.out)) (by omega)).mono ?_
      rintro r v6 ⟨rfl, hw6⟩
      have hb6 : Below v5.heap.size v5 v6 := by rw [hw6]; exact flt_below v5 _ 5
      have HV6 := hide (HV5.out.trans (hb6.mono HV5.out.size))
      have HC6 : Hid (Chain v6 [(v5.heap.size, ⟨#[100, 105, 115, 107]⟩, 0)] (ptr v5) (.iface 33 (.int .i64 5))) := by rw [hw6]; exact flt_chain v5 0 5
      clear hb6 hw6
      refine hK _ _ ?_
      clear hK K
      refine wpAny_ready (rs := [34]) (by kernel_rfl) (by simp) ?_
      refine AllReady.cons (o := ⟨some 77, _, _, _, _, _⟩) rfl (fun K hK => ?_) AllReady.nil
      go_simp
      refine (Code_any _ _ _ 5 v6 (Hty0.out.below HV6.out Hty0.out.lt) HC6.out (Or.inr rfl) (by simp)).mono ?_
      rintro r v7 ⟨rfl, hb7⟩
      have HV7 := hide (HV6.out.trans (hb7.mono HV6.out.size))
      clear hb7 HC6
      refine hK _ _ ?_
      clear hK K
      refine wpAny_take (i := 35) (oi := ⟨some 78, _, _, _, _, _⟩) (v := ?_) rfl (by kernel_rfl) (by kernel_rfl) (by kernel_rfl) (fun _ _ _ h => h) (Or.inl ⟨by rfl, ?_⟩) ?_
      rotate_left 1
      · (intro w; go_simp; try with_reducible rfl)
      simp only [Act.put, List.setIfInBounds_toArray, List.set_cons_zero, List.set_cons_succ]
      refine wpAny_take (i := 36) (oi := ⟨some 79, _, _, _, _, _⟩) (v := ?_) rfl (by kernel_rfl) (by kernel_rfl) (by kernel_rfl) (fun _ _ _ h => h) (Or.inl ⟨by rfl, ?_⟩) ?_
      rotate_left 1
      · (intro w; go_simp; try with_reducible rfl)
      simp only [Act.put, List.setIfInBounds_toArray, List.set_cons_zero, List.set_cons_succ]
      refine wpAny_done (by kernel_rfl) ?_ _
      have HB7 := hide (HB0.out.trans (HV7.out.mono HB0.out.size))
      clear HV7 HV6 HV5 HV4 HV3 HV2 HV1
      go_wp2_with fail
      refine (New_any 256 256 v7 (by decide)).mono ?_
      rintro r d1 ⟨p, G, rfl, hd1, hG1, hb1⟩
      have HBd1 := hide (HB7.out.trans (hb1.mono HB7.out.size))
      have HG1 := hide (show ∀ k, G k → w.heap.size ≤ k from fun k hk => Nat.le_trans HB7.out.size (hG1 k hk))
      have HD1 := hide hd1
      clear hd1 hG1 hb1
      go_wp2_with fail
      refine (full_any (UInt8.ofNat c) _ _ (ofNat8 c Hc.out)).mono ?_
      rintro r d2 ⟨go, rfl, hgo, hco, hb2⟩
      have HD2 := hide (HD1.out.below hb2)
      have HBd2 := hide (HBd1.out.trans (hb2.mono HBd1.out.size))
      have HnG := hide (show ¬ G go from fun h => by have := HD1.out.lt go h; omega)
      have Hgow := hide (show w.heap.size ≤ go from Nat.le_trans HBd1.out.size hgo)
      have Hco := hide hco
      clear hgo hco hb2
      go_wp2_with fail
      refine (Write_any d2 G p i 64 _ _ [] (fl (UInt8.ofNat c)) HD2.out (by rw [List.length_replicate]; exact Hi.out) (byt_row Hco.out) (fl_length _) (by decide)).mono ?_
      rintro r d3 ⟨rfl, G3, hd3, hg3, hk3⟩
      have hgo3 := (hk3.block go (heap_lt Hco.out) HnG.out).trans Hco.out
      have hnG3 : ¬ G3 go := fun h => by
        rcases hg3 go h with h | h
        · exact HnG.out h
        · have := heap_lt Hco.out; omega
      have HBd3 := hide (HBd2.out.trans (hk3.below HG1.out HBd2.out.size))
      have HG3 := hide (hg3.from HG1.out HBd2.out.size)
      obtain ⟨hc5, hf5⟩ := cell_fl (j := 5) hgo3 (by decide)
      have HDv := hide (show ∀ v, Dsk (d3.setCell ⟨go, 5, none⟩ v) G3 p (List.replicate 256 zero) ([] ++ [(i, fl (UInt8.ofNat c))]) from fun v => hd3.poke hnG3 v)
      have Hall := hide (show (all (List.replicate 256 zero) ([] ++ [(i, fl (UInt8.ofNat c))]))[i]? = some (fl (UInt8.ofNat c)) from all_last (L := []) (M := []) (by rw [List.length_replicate]; exact Hi.out) (fun x hx => by cases hx))
      have Hlen := hide (show i < (List.replicate 256 zero).length by rw [List.length_replicate]; exact Hi.out)
      have HD3 := hide hd3
      clear hd3 hg3 hk3 hgo3 hnG3
      go_wp2_with fail
      refine (Read_any _ G3 p i _ _ (fl (UInt8.ofNat c)) (HDv.out _) Hall.out Hlen.out (by simp)).mono ?_
      rintro r d4 ⟨gx, rfl, hgx, hcx, hb4⟩
      have HBd4 := hide ((HBd3.out.setCell (p := ⟨go, 5, none⟩) Hgow.out _).trans (hb4.mono (by rw [poke_size]; exact HBd3.out.size)))
      have hd4 := (HDv.out _).below hb4
      rw [poke_size] at hgx
      have hnx : ¬ G3 gx := fun h => by have := HD3.out.lt gx h; omega
      have Hgxw := hide (show w.heap.size ≤ gx from Nat.le_trans HBd3.out.size hgx)
      obtain ⟨hc6, hf6⟩ := cell_fl (j := 6) hcx.out (by decide)
      have HDx := hide (show ∀ v, Dsk (d4.setCell ⟨gx, 6, none⟩ v) G3 p (List.replicate 256 zero) ([] ++ [(i, fl (UInt8.ofNat c))]) from fun v => hd4.poke hnx v)
      clear hgx hcx hb4 hd4 hnx hc5 hf5 HDv HD3
      go_wp2_with fail
      refine (Flush_any _ G3 p _ _ (HDx.out _) (by simp)).mono ?_
      rintro r d5 ⟨rfl, G5, hd5, hg5, hk5⟩
      have hBx := HBd4.out.setCell (p := ⟨gx, 6, none⟩) Hgxw.out (.int .u8 (bits .xor .u8 ((UInt8.ofNat c).toNat : Int) 255))
      have HBd5 := hide ((HBd4.out.setCell (p := ⟨gx, 6, none⟩) Hgxw.out _).trans (hk5.below HG3.out (by rw [poke_size]; exact HBd4.out.size)))
      have HD5 := hide hd5
      clear hd5 hg5 hk5 hBx hc6 hf6 HDx
      go_wp2_with fail
      refine (Read_any d5 G5 p i _ _ (fl (UInt8.ofNat c)) HD5.out Hall.out (by rw [all_length]; exact Hlen.out) (by simp)).mono ?_
      rintro r d6 ⟨gy, rfl, hgy, hcy, hb6⟩
      have HBd6 := hide (HBd5.out.trans (hb6.mono HBd5.out.size))
      have hd6 := HD5.out.below hb6
      have hny : ¬ G5 gy := fun h => by have := HD5.out.lt gy h; omega
      have Hgyw := hide (show w.heap.size ≤ gy from Nat.le_trans HBd5.out.size hgy)
      obtain ⟨hc7, hf7⟩ := cell_fl (j := 7) hcy.out (by decide)
      have HDy := hide (show ∀ v, Dsk (d6.setCell ⟨gy, 7, none⟩ v) G5 p (all (List.replicate 256 zero) ([] ++ [(i, fl (UInt8.ofNat c))])) [] from fun v => hd6.poke hny v)
      clear hgy hcy hb6 hd6 hny HD5
      go_wp2_with fail
      refine (Read_any _ G5 p i _ _ (fl (UInt8.ofNat c)) (HDy.out _) Hall.out (by rw [all_length]; exact Hlen.out) (by simp)).mono ?_
      rintro r z ⟨gz, rfl, hgz, hcz, hbz⟩
      have HBz := hide ((HBd6.out.setCell (p := ⟨gy, 7, none⟩) Hgyw.out _).trans (hbz.mono (by rw [poke_size]; exact HBd6.out.size)))
      have Hby : Hid (Byt z.drew z.drew.heap.size (some ⟨gz, 0, none⟩) (fl (UInt8.ofNat c))) := byt_row (w := z) hcz.out
      have HS5 := hide (run_str z.drew _ _ _ 64 64 (fl_length _) Hby.out)
      clear hgz hcz hbz hc7 hf7 HDy
      go_wp2
      refine wp_region_any (by kernel_rfl) ?_
      change wpAny _ _ _ _ _ _ _ (World.drew _)
      refine wpAny_take (i := 0) (oi := ⟨some 133, _, _, _, _, _⟩) (v := ?_) rfl (by kernel_rfl) (by kernel_rfl) (by kernel_rfl) (fun _ _ _ h => h) (Or.inl ⟨by rfl, ?_⟩) ?_
      rotate_left 1
      · (intro w; go_simp; try with_reducible rfl)
      simp only [Act.put, List.setIfInBounds_toArray, List.set_cons_zero, List.set_cons_succ]
      refine wpAny_take (i := 1) (oi := ⟨some 134, _, _, _, _, _⟩) (v := ?_) rfl (by kernel_rfl) (by kernel_rfl) (by kernel_rfl) (fun _ _ _ h => h) (Or.inl ⟨by rfl, ?_⟩) ?_
      rotate_left 1
      · (intro w; go_simp; try with_reducible rfl)
      simp only [Act.put, List.setIfInBounds_toArray, List.set_cons_zero, List.set_cons_succ]
      refine wpAny_take (i := 2) (oi := ⟨some 135, _, _, _, _, _⟩) (v := ?_) rfl (by kernel_rfl) (by kernel_rfl) (by kernel_rfl) (fun _ _ _ h => h) (Or.inl ⟨by rfl, ?_⟩) ?_
      rotate_left 1
      · (intro w; go_simp; try with_reducible rfl)
      simp only [Act.put, List.setIfInBounds_toArray, List.set_cons_zero, List.set_cons_succ]
      refine wpAny_take (i := 3) (oi := ⟨some 136, _, _, _, _, _⟩) (v := ?_) rfl (by kernel_rfl) (by kernel_rfl) (by kernel_rfl) (fun _ _ _ h => h) (Or.inl ⟨by rfl, ?_⟩) ?_
      rotate_left 1
      · (intro w; go_simp; try with_reducible rfl)
      simp only [Act.put, List.setIfInBounds_toArray, List.set_cons_zero, List.set_cons_succ]
      refine wpAny_take (i := 5) (oi := ⟨some 138, _, _, _, _, _⟩) (v := ?_) rfl (by kernel_rfl) (by kernel_rfl) (by kernel_rfl) (fun _ _ _ h => h) (Or.inl ⟨by rfl, ?_⟩) ?_
      rotate_left 1
      · (intro w; go_simp; try with_reducible rfl)
      simp only [Act.put, List.setIfInBounds_toArray, List.set_cons_zero, List.set_cons_succ]
      refine wpAny_ready (rs := [4, 6]) (by kernel_rfl) (by simp) ?_
      refine AllReady.cons (o := ⟨some 137, _, _, _, _, _⟩) rfl (fun K hK => ?_) (AllReady.cons (o := ⟨some 139, _, _, _, _, _⟩) rfl (fun K hK => ?_) AllReady.nil)
      · refine step_wp2 (by rfl) (wp_convert_told 38 9 (.tmp 136) rfl _ rfl HS5.out ?_)
        refine hK _ _ ?_
        clear hK K
        refine wpAny_ready (rs := [6]) (by kernel_rfl) (by simp) ?_
        refine AllReady.cons (o := ⟨some 139, _, _, _, _, _⟩) rfl (fun K hK => ?_) AllReady.nil
        go_simp
        refine (full_any (UInt8.ofNat c) _ _ (ofNat8 c Hc.out)).mono ?_
        rintro r y6 ⟨h6, rfl, hg6, hc6, hb6⟩
        have HS6 := hide (run_str y6 _ _ _ 64 64 (fl_length _) ((Hby.out.below hb6).more hb6.size))
        have HT6 := hide (run_str y6 _ _ _ 64 64 (fl_length _) (byt_row hc6))
        have HBy := hide (HBz.out.trans ((drew_below hb6).mono HBz.out.size))
        clear hg6 hc6 hb6
        refine hK _ _ ?_
        clear hK K
        refine wpAny_ready (rs := [7]) (by kernel_rfl) (by simp) ?_
        refine AllReady.cons (o := ⟨some 140, _, _, _, _, _⟩) rfl (fun K hK => ?_) AllReady.nil
        refine step_wp2 (by rfl) (wp_convert_told 38 9 (.tmp 139) rfl _ rfl HT6.out ?_)
        refine hK _ _ ?_
        clear hK K
        refine wpAny_take (i := 8) (oi := ⟨some 141, _, _, _, _, _⟩) (v := ?_) rfl (by kernel_rfl) (by kernel_rfl) (by kernel_rfl) (fun _ _ _ h => h) (Or.inl ⟨by rfl, ?_⟩) ?_
        rotate_left 1
        · (intro w; go_simp; try with_reducible rfl)
        simp only [Act.put, List.setIfInBounds_toArray, List.set_cons_zero, List.set_cons_succ]
        refine wpAny_take (i := 9) (oi := ⟨some 142, _, _, _, _, _⟩) (v := ?_) rfl (by kernel_rfl) (by kernel_rfl) (by kernel_rfl) (fun _ _ _ h => h) (Or.inl ⟨by rfl, ?_⟩) ?_
        rotate_left 1
        · (intro w; go_simp; try with_reducible rfl)
        simp only [Act.put, List.setIfInBounds_toArray, List.set_cons_zero, List.set_cons_succ]
        refine wpAny_take (i := 10) (oi := ⟨some 6, _, _, _, _, _⟩) (v := ?_) rfl (by kernel_rfl) (by kernel_rfl) (by kernel_rfl) (fun _ _ _ h => h) (Or.inl ⟨by rfl, ?_⟩) ?_
        rotate_left 1
        · (intro w; go_simp; try with_reducible rfl)
        simp only [Act.put, List.setIfInBounds_toArray, List.set_cons_zero, List.set_cons_succ]
        refine wpAny_done (by kernel_rfl) ?_ _
        go_wp2
        go_ret
        exact ⟨rfl, HBy.out⟩
      · go_simp
        refine (full_any (UInt8.ofNat c) _ _ (ofNat8 c Hc.out)).mono ?_
        rintro r y6 ⟨h6, rfl, hg6, hc6, hb6⟩
        have HS6 := hide (run_str y6 _ _ _ 64 64 (fl_length _) ((Hby.out.below hb6).more hb6.size))
        have HT6 := hide (run_str y6 _ _ _ 64 64 (fl_length _) (byt_row hc6))
        have HBy := hide (HBz.out.trans ((drew_below hb6).mono HBz.out.size))
        clear hg6 hc6 hb6
        refine hK _ _ ?_
        clear hK K
        refine wpAny_ready (rs := [4, 7]) (by kernel_rfl) (by simp) ?_
        refine AllReady.cons (o := ⟨some 137, _, _, _, _, _⟩) rfl (fun K hK => ?_) (AllReady.cons (o := ⟨some 140, _, _, _, _, _⟩) rfl (fun K hK => ?_) AllReady.nil)
        · refine step_wp2 (by rfl) (wp_convert_told 38 9 (.tmp 136) rfl _ rfl HS6.out ?_)
          refine hK _ _ ?_
          clear hK K
          refine wpAny_ready (rs := [7]) (by kernel_rfl) (by simp) ?_
          refine AllReady.cons (o := ⟨some 140, _, _, _, _, _⟩) rfl (fun K hK => ?_) AllReady.nil
          refine step_wp2 (by rfl) (wp_convert_told 38 9 (.tmp 139) rfl _ rfl HT6.out ?_)
          refine hK _ _ ?_
          clear hK K
          refine wpAny_take (i := 8) (oi := ⟨some 141, _, _, _, _, _⟩) (v := ?_) rfl (by kernel_rfl) (by kernel_rfl) (by kernel_rfl) (fun _ _ _ h => h) (Or.inl ⟨by rfl, ?_⟩) ?_
          rotate_left 1
          · (intro w; go_simp; try with_reducible rfl)
          simp only [Act.put, List.setIfInBounds_toArray, List.set_cons_zero, List.set_cons_succ]
          refine wpAny_take (i := 9) (oi := ⟨some 142, _, _, _, _, _⟩) (v := ?_) rfl (by kernel_rfl) (by kernel_rfl) (by kernel_rfl) (fun _ _ _ h => h) (Or.inl ⟨by rfl, ?_⟩) ?_
          rotate_left 1
          · (intro w; go_simp; try with_reducible rfl)
          simp only [Act.put, List.setIfInBounds_toArray, List.set_cons_zero, List.set_cons_succ]
          refine wpAny_take (i := 10) (oi := ⟨some 6, _, _, _, _, _⟩) (v := ?_) rfl (by kernel_rfl) (by kernel_rfl) (by kernel_rfl) (fun _ _ _ h => h) (Or.inl ⟨by rfl, ?_⟩) ?_
          rotate_left 1
          · (intro w; go_simp; try with_reducible rfl)
          simp only [Act.put, List.setIfInBounds_toArray, List.set_cons_zero, List.set_cons_succ]
          refine wpAny_done (by kernel_rfl) ?_ _
          go_wp2
          go_ret
          exact ⟨rfl, HBy.out⟩
        · refine step_wp2 (by rfl) (wp_convert_told 38 9 (.tmp 139) rfl _ rfl HT6.out ?_)
          refine hK _ _ ?_
          clear hK K
          refine wpAny_ready (rs := [4]) (by kernel_rfl) (by simp) ?_
          refine AllReady.cons (o := ⟨some 137, _, _, _, _, _⟩) rfl (fun K hK => ?_) AllReady.nil
          refine step_wp2 (by rfl) (wp_convert_told 38 9 (.tmp 136) rfl _ rfl HS6.out ?_)
          refine hK _ _ ?_
          clear hK K
          refine wpAny_take (i := 8) (oi := ⟨some 141, _, _, _, _, _⟩) (v := ?_) rfl (by kernel_rfl) (by kernel_rfl) (by kernel_rfl) (fun _ _ _ h => h) (Or.inl ⟨by rfl, ?_⟩) ?_
          rotate_left 1
          · (intro w; go_simp; try with_reducible rfl)
          simp only [Act.put, List.setIfInBounds_toArray, List.set_cons_zero, List.set_cons_succ]
          refine wpAny_take (i := 9) (oi := ⟨some 142, _, _, _, _, _⟩) (v := ?_) rfl (by kernel_rfl) (by kernel_rfl) (by kernel_rfl) (fun _ _ _ h => h) (Or.inl ⟨by rfl, ?_⟩) ?_
          rotate_left 1
          · (intro w; go_simp; try with_reducible rfl)
          simp only [Act.put, List.setIfInBounds_toArray, List.set_cons_zero, List.set_cons_succ]
          refine wpAny_take (i := 10) (oi := ⟨some 6, _, _, _, _, _⟩) (v := ?_) rfl (by kernel_rfl) (by kernel_rfl) (by kernel_rfl) (fun _ _ _ h => h) (Or.inl ⟨by rfl, ?_⟩) ?_
          rotate_left 1
          · (intro w; go_simp; try with_reducible rfl)
          simp only [Act.put, List.setIfInBounds_toArray, List.set_cons_zero, List.set_cons_succ]
          refine wpAny_done (by kernel_rfl) ?_ _
          go_wp2
          go_ret
          exact ⟨rfl, HBy.out⟩

end Go.Proofs.YthdgidfdjnfpiaaDoor.Dk
