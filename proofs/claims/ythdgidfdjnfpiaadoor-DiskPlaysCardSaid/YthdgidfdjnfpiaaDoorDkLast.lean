/-
  DiskLast at every script and every number: it returns true, and changes nothing that was there. Condition: the library's variable errors.errorType holds its own type's handle.
-/
import Derived.Test.YthdgidfdjnfpiaaDoorFaPlace
import Derived.Test.YthdgidfdjnfpiaaDoorDkOps
import Derived.Test.YthdgidfdjnfpiaaDoorDkHalves
namespace Go.Proofs.YthdgidfdjnfpiaaDoor.Dk
open Go.RowKit
open Pk Sm Fa

theorem wp_convert_told {P : Program} {op : Oper} {a : Act} {w : World} {K : Act → World → Prop} {Q : Exit → Act → World → Prop} (t u : TypeId) (x : Operand) (ho : op.op = .convert t u x)
    (v : Value) (hx : a.eval x = v) {r : Value} (hrun : (convert t u v).run P w = .ok r w) (h : K (a.put op.dst r) w) : op.wp P a w K Q := by
  unfold Oper.wp execOp
  simp only [ho, hx, Sem.run_bind, hrun, Sem.run_pure, Result.andThen_ok]
  exact h
theorem step_wp2 {P : Program} {ops : Array Oper} {o : Oper} {a : Act} {w : World} {K : Act → World → Prop} {Q : Exit → Act → World → Prop} {E : Prop} (hw : Region.wanted o (yielded ops a.tmps) = true) (h : o.wp P a w K Q) :
    if Region.wanted o (yielded ops a.tmps) = true then Oper.wp P o a w K Q else E := by
  rw [if_pos hw]
  exact h

/-- The disk p of n sectors, each of which reads as the byte that the row gl holds for it. -/
def Lst (w : World) (p n gl k : Nat) (wr : World) : Prop :=
  ∃ (G : Nat → Prop) (S : List Sec) (L : List Wr) (ls : List UInt8), Dsk wr G p S L ∧ S.length = n ∧ ls.length = n ∧ (∀ (i : Nat) (x : UInt8), ls[i]? = some x → (all S L)[i]? = some (fl x)) ∧ L.length ≤ k ∧
    wr.heap[gl]? = some (.cells (cels ls).toArray 5 (0, 0)) ∧ (∀ i, G i → w.heap.size ≤ i ∧ i ≠ gl) ∧ Below w.heap.size w wr
theorem Lst.below {w : World} {p n gl k : Nat} {wr wr' : World} (h : Lst w p n gl k wr) (hb : Below wr.heap.size wr wr') : Lst w p n gl k wr' := by
  obtain ⟨G, S, L, ls, h1, h2, h3, h4, h5, h6, h7, h8⟩ := h
  exact ⟨G, S, L, ls, h1.below hb, h2, h3, h4, h5, (hb.block gl (Array.getElem?_eq_some_iff.1 h6).1).trans h6, h7, h8.trans (hb.mono h8.size)⟩
theorem Lst.more {w : World} {p n gl k : Nat} {wr : World} (h : Lst w p n gl k wr) : Lst w p n gl (k + 1) wr := by
  obtain ⟨G, S, L, ls, h1, h2, h3, h4, h5, h6, h7, h8⟩ := h
  exact ⟨G, S, L, ls, h1, h2, h3, h4, by omega, h6, h7, h8⟩
theorem Lst.size {w : World} {p n gl k : Nat} {wr : World} (h : Lst w p n gl k wr) : Below w.heap.size w wr := by
  obtain ⟨G, S, L, ls, h1, h2, h3, h4, h5, h6, h7, h8⟩ := h
  exact h8
theorem Lst.len {w : World} {p n gl k : Nat} {wr : World} (h : Lst w p n gl k wr) : Lens wr (.pointer (some ⟨p, 0, none⟩)) n := by
  obtain ⟨G, S, L, ls, h1, h2, h3, h4, h5, h6, h7, h8⟩ := h
  have := Len_any h1
  rw [h2] at this
  exact this
/-- A flush. -/
theorem Lst.flush {w : World} {p n gl k : Nat} {wr : World} (h : Lst w p n gl k wr) (hk : k ≤ 200) : Calls Tryd.prog 19 #[.pointer (some ⟨p, 0, none⟩)] wr fun e w' => e = .returned (.tuple #[]) ∧ Lst w p n gl k w' := by
  obtain ⟨G, S, L, ls, h1, h2, h3, h4, h5, h6, h7, h8⟩ := h
  refine (Flush_any wr G p S L h1 (by omega)).mono ?_
  rintro e w' ⟨rfl, G', hd, hg, hk'⟩
  have hgl := (Array.getElem?_eq_some_iff.1 h6).1
  refine ⟨rfl, G', all S L, [], ls, hd, by rw [all_length, h2], h3, h4, Nat.zero_le _, (hk'.block gl hgl (fun hh => (h7 gl hh).2 rfl)).trans h6, fun i hi => ?_, h8.trans (hk'.below (fun i hi => (h7 i hi).1) h8.size)⟩
  rcases hg i hi with h9 | h9
  · exact h7 i h9
  · have := h8.size
    exact ⟨by omega, by omega⟩
/-- A byte is laid into the row, and the sector is written so. -/
theorem Lst.write {w : World} {p n gl k kk g : Nat} {wr w6 : World} {c : UInt8} (h : Lst w p n gl k wr) (hk : k ≤ 200) (hkk : kk < n) (hgw : w.heap.size ≤ gl) (hb : Below (wr.setCell ⟨gl, kk, none⟩ (.int .u8 c.toNat)).heap.size (wr.setCell ⟨gl, kk, none⟩ (.int .u8 c.toNat)) w6)
    (hg : w6.heap[g]? = some (.cells (cels (fl c)).toArray 5 (0, 0))) :
    Calls Tryd.prog 15 #[.pointer (some ⟨p, 0, none⟩), .int .i64 kk, .slice (some ⟨g, 0, none⟩) 64 64] w6 fun e w' => e = .returned .nilIface ∧ Lst w p n gl (k + 1) w' := by
  obtain ⟨G, S, L, ls, h1, h2, h3, h4, h5, h6, h7, h8⟩ := h
  have hgl := (Array.getElem?_eq_some_iff.1 h6).1
  have hk1 : Kept (fun i => i = gl) wr (wr.setCell ⟨gl, kk, none⟩ (.int .u8 c.toNat)) := ⟨rfl, rfl, rfl, by simp [World.setCell], fun i _ hn => heap_setCell_other _ _ _ _ hn⟩
  have hd1 := h1.kept hk1 (fun i hi e => (h7 i hi).2 e)
  have hd6 := hd1.below hb
  have hsz : (wr.setCell ⟨gl, kk, none⟩ (.int .u8 c.toNat)).heap.size = wr.heap.size := by simp [World.setCell]
  have hB : Below w.heap.size w w6 := (h8.setCell (p := ⟨gl, kk, none⟩) hgw _).trans (hb.mono (by rw [hsz]; exact h8.size))
  have hc6 : w6.heap[gl]? = some (.cells (cels (ls.set kk c)).toArray 5 (0, 0)) := by
    rw [hb.block gl (by rw [hsz]; exact hgl), heap_setCell_same wr gl kk _ _ _ h6]
    congr 2
    apply Array.ext'
    rw [Array.toList_setIfInBounds]
    simp [cels, List.map_set, cel]
  refine (Write_any w6 G p kk 64 _ S L (fl c) hd6 (by rw [h2]; exact hkk) (byt_row hg) (fl_length c) (by omega)).mono ?_
  rintro e w' ⟨rfl, G', hd, hgr, hk'⟩
  have hs6 := hb.size
  have hgl6 : gl < w6.heap.size := by rw [hsz] at hs6; omega
  refine ⟨rfl, G', S, L ++ [(kk, fl c)], ls.set kk c, hd, h2, by rw [List.length_set, h3], ?_, by rw [List.length_append]; simp; exact h5, (hk'.block gl hgl6 (fun hh => (h7 gl hh).2 rfl)).trans hc6, fun i hi => ?_, hB.trans (hk'.below (fun i hi => (h7 i hi).1) hB.size)⟩
  · intro i x hx
    by_cases hi : i = kk
    · subst hi
      rw [List.getElem?_set_self (by rw [h3]; exact hkk)] at hx
      obtain rfl := Option.some.inj hx
      exact all_last (M := []) (by rw [h2]; exact hkk) (fun x hx => by cases hx)
    · rw [List.getElem?_set_ne (fun e => hi e.symm)] at hx
      rw [all_append]
      show (done (all S L) (kk, fl c))[i]? = _
      rw [done, List.getElem?_set_ne (fun e => hi e.symm)]
      exact h4 i x hx
  · rcases hgr i hi with h9 | h9
    · exact h7 i h9
    · have := hB.size
      exact ⟨by omega, by omega⟩
/-- A sector is read. -/
theorem Lst.read {w : World} {p n gl k j : Nat} {wr : World} (h : Lst w p n gl k wr) (hk : k ≤ 200) (hj : j < n) :
    ∃ x : UInt8, wr.cell? ⟨gl, j, none⟩ = some (.int .u8 x.toNat) ∧ Calls Tryd.prog 17 #[.pointer (some ⟨p, 0, none⟩), .int .i64 j] wr fun e w' => ∃ g, e = .returned (.tuple #[.slice (some ⟨g, 0, none⟩) 64 64, .nilIface]) ∧ wr.heap.size ≤ g ∧ Hid (w'.heap[g]? = some (.cells (cels (fl x)).toArray 5 (0, 0))) ∧ Below wr.heap.size wr w' := by
  obtain ⟨G, S, L, ls, h1, h2, h3, h4, h5, h6, h7, h8⟩ := h
  obtain ⟨x, hx⟩ : ∃ x, ls[j]? = some x := ⟨_, List.getElem?_eq_getElem (by rw [h3]; exact hj)⟩
  refine ⟨x, ?_, Read_any wr G p j S L (fl x) h1 (h4 j x hx) (by rw [h2]; exact hj) (by omega)⟩
  rw [cell_of_row wr gl j _ _ _ h6]
  simp [cels, hx, cel]
theorem Lst.cell {w : World} {p n gl k j : Nat} {wr : World} (h : Lst w p n gl k wr) (hj : j < n) : ∃ v, wr.cell? ⟨gl, j, none⟩ = some v ∧ wr.frozen? ⟨gl, j, none⟩ = false := by
  obtain ⟨G, S, L, ls, h1, h2, h3, h4, h5, h6, h7, h8⟩ := h
  obtain ⟨x, hx⟩ : ∃ x, ls[j]? = some x := ⟨_, List.getElem?_eq_getElem (by rw [h3]; exact hj)⟩
  exact ⟨cel x, by rw [cell_of_row wr gl j _ _ _ h6]; simp [cels, hx], by simp [World.frozen?, h6]⟩

theorem made_bytes (n : Nat) : (madeCells #[.int .u8 0] n).toList = cels (List.replicate n 0) := by
  apply List.ext_getElem?
  intro j
  by_cases hj : j < n
  · simp [madeCells, hj, cels, cel, Nat.mod_one]
  · rw [List.getElem?_eq_none (by rw [Array.length_toList, size_madeCells]; omega), List.getElem?_eq_none (by rw [cels_length, List.length_replicate]; omega)]
theorem Lst.start {w w2 : World} {p n : Nat} {G : Nat → Prop} (h : Dsk w2 G p (List.replicate n zero) []) (hG : ∀ i, G i → w.heap.size ≤ i) (hb : Below w.heap.size w w2) (w3 : World) (h3 : w3 = w2.alloc (.cells (madeCells #[.int .u8 0] n) 5)) : Lst w p n w2.heap.size 0 w3 := by
  have hb3 : Below w2.heap.size w2 w3 := by rw [h3]; exact (Below.refl _ _).alloc (Nat.le_refl _) _
  refine ⟨G, _, _, List.replicate n 0, h.below hb3, List.length_replicate, List.length_replicate, fun i x hx => ?_, Nat.zero_le _, ?_, fun i hi => ⟨hG i hi, ?_⟩, hb.trans (hb3.mono hb.size)⟩
  · rw [List.getElem?_replicate] at hx
    split at hx
    · obtain rfl := Option.some.inj hx
      show (List.replicate n zero)[i]? = _
      rw [List.getElem?_replicate, if_pos (by assumption)]
      rfl
    · cases hx
  · rw [h3]
    refine (heap_alloc_new w2 _).trans ?_
    rw [← made_bytes, Array.toArray_toList]
  · have := h.lt i hi
    omega

theorem twice (I : Int) (n : Nat) (hn : 0 < n) (hn2 : n ≤ 16) : ∃ (r : Int) (kk : Nat), I.tmod (n : Int) = r ∧ -16 < r ∧ r < 16 ∧ (r + (n : Int)).tmod (n : Int) = (kk : Int) ∧ (r + (n : Int)) % (n : Int) = (kk : Int) ∧ 0 ≤ r + (n : Int) ∧ kk < n := by
  have h1 : -(n : Int) < I.tmod n := by
    have := Int.lt_tmod_of_pos I (show (0 : Int) < n by omega)
    omega
  have h2 : I.tmod n < n := Int.tmod_lt_of_pos I (by omega)
  have h3 : 0 ≤ I.tmod n + n := by omega
  have h4 : 0 ≤ (I.tmod n + n) % (n : Int) := Int.emod_nonneg _ (by omega)
  have h5 : (I.tmod n + n) % (n : Int) < n := Int.emod_lt_of_pos _ (by omega)
  refine ⟨I.tmod n, ((I.tmod n + n) % (n : Int)).toNat, rfl, by omega, by omega, ?_, by omega, h3, by omega⟩
  rw [Int.tmod_eq_emod_of_nonneg h3]
  omega

set_option maxRecDepth 100000 in
set_option maxHeartbeats 4000000 in
theorem Last_any (A : Option Addr) (m c : Nat) (l : List Oq) (sec : Nat) (w : World) (hty : Ety w) (hl : l.length = m) (hp : Ops w w.heap.size A l) (hf : OFits l) (hsec : sec < 256) :
    Calls Tryd.prog 7 #[.slice A m c, .int .u8 sec] w fun r w' => r = .returned (.bool true) ∧ Below w.heap.size w w' := by
  obtain ⟨i0, hi0, hz0, hz1, hz2⟩ := info_parts u8_info
  have HA := hide (awake_any w hty)
  obtain ⟨n, hn⟩ : ∃ n : Nat, 1 + (sec : Int) % 16 = (n : Int) := ⟨1 + sec % 16, by omega⟩
  have Hn16 := hide (show 0 < n ∧ n ≤ 16 by omega)
  have hai : (sec : Int) < 256 := by omega
  have Hty := hide hty
  have Hl := hide hl
  have Hp := hide hp
  have Hf := hide hf
  have Hz1 := hide hz1
  have Hz2 := hide hz2
  clear hty hl hp hf hsec hz1 hz2
  go_enter Tryd.func7, Tryd.ntmps7
  go_wp2_with fail
  refine HA.out.mono ?_
  rintro r w1 ⟨rfl, hb1⟩
  have HB1 := hide hb1
  have HFw := hide (few_any A m c l w1 Hl.out ((Hp.out.below hb1).more1 hb1.size) Hf.out)
  clear HA hb1
  go_wp2_with fail
  refine HFw.out.mono ?_
  rintro r w1' ⟨⟨bb, rfl, hbb⟩, rfl⟩
  have Hbb := hide hbb
  clear hbb HFw
  cases bb with
  | false =>
    have HA := hide (awake_any w1 (Hty.out.below HB1.out Hty.out.lt))
    go_wp2_with fail
    refine HA.out.mono ?_
    rintro r w2 ⟨rfl, hb2⟩
    have HB2 := hide (HB1.out.trans (hb2.mono HB1.out.size))
    clear HA hb2
    go_wp2
    go_ret
    exact ⟨rfl, HB2.out⟩
  | true =>
    have Hm := hide (show m ≤ 150 by rw [← Hl.out]; exact (Hbb.out.1 rfl).1)
    go_wp2_with fail
    refine (New_any _ n _ (by have := Hn16.out; omega)).mono ?_
    rintro r w2 ⟨p, G, rfl, hd2, hG2, hb2⟩
    have HB2 := hide (HB1.out.trans (hb2.mono HB1.out.size))
    have HG2 := hide (show ∀ i, G i → w.heap.size ≤ i from fun i hi => Nat.le_trans HB1.out.size (hG2 i hi))
    have HD2 := hide hd2
    clear hd2 hG2 hb2
    go_wp2_with (with_reducible refine wpList_make_told rfl 38 _ _ rfl 5 i0 _ Tryd.underlying38 hi0 hz0 .i64 .i64 n n rfl rfl (Nat.le_refl _) (by rw [Hz2.out]; have := Hn16.out; omega) (by have := Hn16.out; omega) 1 Hz1.out ?_)
    intro w3 Hw3
    have HL3 := hide (Lst.start HD2.out HG2.out HB2.out w3 (by rw [Hw3.out]))
    have Hgw := hide HB2.out.size
    clear Hw3 HD2 HG2
    go_wp2
    clear hn
    go_loopw [31] (fun j wr => ∃ k : Nat, k ≤ m ∧ j = .int .i64 k ∧ Hid (Lst w p n w2.heap.size k wr)) (fun j _ => m - (intOf j).toNat)
    case atStart => exact ⟨0, Nat.zero_le _, rfl, HL3.out⟩
    case round =>
      obtain ⟨k, hk, rfl, hlst⟩ := hrel
      have hm150 := Hm.out
      rcases Nat.lt_or_ge k m with hlt | hge
      · have Hlt := hide hlt
        have hki : (k : Int) < 150 := by omega
        have hkm : (k : Int) < (m : Int) := by omega
        obtain ⟨q, hq⟩ : ∃ q, l[k]? = some q := ⟨_, List.getElem?_eq_getElem (by rw [Hl.out]; exact hlt)⟩
        obtain ⟨b, o, rfl, hb, hcell⟩ := Hp.out (by rintro rfl; simp at hq)
        obtain ⟨hc0, hc1, _, _⟩ := hcell k q hq
        have Hblt := hide hb
        have Hc0 := hide hc0
        have Hc1 := hide hc1
        have hfq := Hf.out q (List.mem_of_getElem? hq)
        obtain ⟨⟨hq1, hq2⟩, ⟨hq3, hq4⟩, _⟩ := hfq
        clear hq hcell hb hlt hk hm150 hc0 hc1
        have hx0 : wr.cell? ⟨b, o + k * 4, none⟩ = some (.int .i64 q.1) := (hlst.out.size.cell (p := ⟨b, o + k * 4, none⟩) Hblt.out).trans Hc0.out
        have hx1 : wr.cell? ⟨b, o + k * 4 + 1, none⟩ = some (.int .i64 q.2.1) := (hlst.out.size.cell (p := ⟨b, o + k * 4 + 1, none⟩) Hblt.out).trans Hc1.out
        by_cases h3 : q.1 = 3
        · have hne1 : ¬ q.1 = 1 := by omega
          have HFl := hide (Lst.flush hlst.out (by have := Hlt.out; have := Hm.out; omega))
          clear hx1
          go_wp2_with fail
          refine HFl.out.mono ?_
          rintro r w4 ⟨rfl, hl4⟩
          have HL4 := hide hl4.more
          have hx0' : w4.cell? ⟨b, o + k * 4, none⟩ = some (.int .i64 3) := by rw [← h3]; exact (hl4.size.cell (p := ⟨b, o + k * 4, none⟩) Hblt.out).trans Hc0.out
          clear HFl hl4 hlst hx0 hne1 h3
          go_wp2
          go_roundw
          case rel => exact ⟨k + 1, Hlt.out, by go_num, HL4.out⟩
          case measure => have := Hlt.out; simp [intOf]; omega
        · by_cases h1 : q.1 = 1
          · obtain ⟨r1, kk, hr1, hr2, hr3, hr4, hr5, hr6, hr7⟩ := twice q.2.1 n Hn16.out.1 Hn16.out.2
            have Hkk := hide hr7
            have hkkn : (kk : Int) < (n : Int) := by omega
            have hn0 : (0 : Int) < (n : Int) := by have := Hn16.out; omega
            have hn16 : (n : Int) ≤ 16 := by have := Hn16.out; omega
            obtain ⟨v0, hv0, hfz⟩ := Lst.cell hlst.out hr7
            have hmod : ((k : Int) + 1) % 256 = (k : Int) + 1 := by omega
            clear hr7 h3
            go_wp2_with fail
            refine (full_any (UInt8.ofNat (k + 1)) _ _ (by rw [ofNat8 _ (by have := Hlt.out; have := Hm.out; omega)]; omega)).mono ?_
            rintro r w6 ⟨g6, rfl, hg6, hc6, hb6⟩
            have e8 : ((UInt8.ofNat (k + 1)).toNat : Int) = (k : Int) + 1 := by rw [ofNat8 _ (by have := Hlt.out; have := Hm.out; omega)]; omega
            rw [← e8] at hb6
            have HW := hide (Lst.write (g := g6) hlst.out (by have := Hlt.out; have := Hm.out; omega) Hkk.out Hgw.out hb6 hc6)
            clear hg6 hc6 hb6 e8 hv0 hfz hlst
            go_wp2_with fail
            refine HW.out.mono ?_
            rintro r w9 ⟨rfl, hl9⟩
            have HL9 := hide hl9
            clear HW hl9 hx0 hx1 hr1 hr2 hr3 hr4 hr5 hr6 h1 hq1 hq2 hq3 hq4
            go_wp2
            go_loopw [74] (fun jj wr => ∃ j : Nat, j ≤ n ∧ jj = .int .i64 j ∧ Hid (Below w9.heap.size w9 wr)) (fun jj _ => n - (intOf jj).toNat)
            case atStart => exact ⟨0, Nat.zero_le _, rfl, Below.refl _ _⟩
            case round =>
              obtain ⟨j, hj, rfl, hbel⟩ := hrel
              rcases Nat.lt_or_ge j n with hltj | hgej
              · have Hlt2 := hide hltj
                have hji : (j : Int) < 16 := by omega
                have hjn : (j : Int) < (n : Int) := by omega
                obtain ⟨x, hx, hread⟩ := Lst.read (HL9.out.below hbel.out) (by have := Hlt.out; have := Hm.out; omega) hltj
                have HR := hide hread
                have Hx := hide hx
                clear hread hx hltj hj
                go_wp2_with fail
                refine HR.out.mono ?_
                rintro r w5 ⟨g5, rfl, hg5, hc5, hb5⟩
                have HB5 := hide (hbel.out.trans (hb5.mono hbel.out.size))
                have Hby : Hid (Byt w5.drew w5.drew.heap.size (some ⟨g5, 0, none⟩) (fl x)) := byt_row (w := w5) hc5.out
                have HS5 := hide (run_str w5.drew _ _ _ 64 64 (fl_length x) Hby.out)
                have hx5 : w5.cell? ⟨w2.heap.size, j, none⟩ = some (.int .u8 x.toNat) := (hb5.cell (p := ⟨w2.heap.size, j, none⟩) (World.block_lt_of_cell? wr _ Hx.out)).trans Hx.out
                clear HR hg5 hc5 hb5 hbel Hx
                go_wp2
                refine wp_region_any (by kernel_rfl) ?_
                change wpAny _ _ _ _ _ _ _ (World.drew _)
                refine wpAny_take (i := 0) (oi := ⟨some 83, _, _, _, _, _⟩) (v := ?_) rfl (by kernel_rfl) (by kernel_rfl) (by kernel_rfl) (fun _ _ _ h => h) (Or.inl ⟨by rfl, ?_⟩) ?_
                rotate_left 1
                · (intro w; go_simp; try with_reducible rfl)
                simp only [Act.put, List.setIfInBounds_toArray, List.set_cons_zero, List.set_cons_succ]
                refine wpAny_take (i := 1) (oi := ⟨some 84, _, _, _, _, _⟩) (v := ?_) rfl (by kernel_rfl) (by kernel_rfl) (by kernel_rfl) (fun _ _ _ h => h) (Or.inl ⟨by rfl, ?_⟩) ?_
                rotate_left 1
                · (intro w; go_simp; try with_reducible rfl)
                simp only [Act.put, List.setIfInBounds_toArray, List.set_cons_zero, List.set_cons_succ]
                refine wpAny_take (i := 2) (oi := ⟨some 85, _, _, _, _, _⟩) (v := ?_) rfl (by kernel_rfl) (by kernel_rfl) (by kernel_rfl) (fun _ _ _ h => h) (Or.inl ⟨by rfl, ?_⟩) ?_
                rotate_left 1
                · (intro w; go_simp; try with_reducible rfl)
                simp only [Act.put, List.setIfInBounds_toArray, List.set_cons_zero, List.set_cons_succ]
                refine wpAny_take (i := 3) (oi := ⟨some 86, _, _, _, _, _⟩) (v := ?_) rfl (by kernel_rfl) (by kernel_rfl) (by kernel_rfl) (fun _ _ _ h => h) (Or.inl ⟨by rfl, ?_⟩) ?_
                rotate_left 1
                · (intro w; go_simp; try with_reducible rfl)
                simp only [Act.put, List.setIfInBounds_toArray, List.set_cons_zero, List.set_cons_succ]
                refine wpAny_take (i := 5) (oi := ⟨some 88, _, _, _, _, _⟩) (v := ?_) rfl (by kernel_rfl) (by kernel_rfl) (by kernel_rfl) (fun _ _ _ h => h) (Or.inl ⟨by rfl, ?_⟩) ?_
                rotate_left 1
                · (intro w; go_simp; try with_reducible rfl)
                simp only [Act.put, List.setIfInBounds_toArray, List.set_cons_zero, List.set_cons_succ]
                refine wpAny_take (i := 6) (oi := ⟨some 89, _, _, _, _, _⟩) (v := ?_) rfl (by kernel_rfl) (by kernel_rfl) (by kernel_rfl) (fun _ _ _ h => h) (Or.inl ⟨by rfl, ?_⟩) ?_
                rotate_left 1
                · (intro w; go_simp; try with_reducible rfl)
                simp only [Act.put, List.setIfInBounds_toArray, List.set_cons_zero, List.set_cons_succ]
                refine wpAny_take (i := 7) (oi := ⟨some 90, _, _, _, _, _⟩) (v := ?_) rfl (by kernel_rfl) (by kernel_rfl) (by kernel_rfl) (fun _ _ _ h => h) (Or.inl ⟨by rfl, ?_⟩) ?_
                rotate_left 1
                · (intro w; go_simp; try with_reducible rfl)
                simp only [Act.put, List.setIfInBounds_toArray, List.set_cons_zero, List.set_cons_succ]
                refine wpAny_ready (rs := [4, 8]) (by kernel_rfl) (by simp) ?_
                refine AllReady.cons (o := ⟨some 87, _, _, _, _, _⟩) rfl (fun K hK => ?_) (AllReady.cons (o := ⟨some 91, _, _, _, _, _⟩) rfl (fun K hK => ?_) AllReady.nil)
                · refine step_wp2 (by rfl) (wp_convert_told 38 9 (.tmp 86) rfl _ rfl HS5.out ?_)
                  refine hK _ _ ?_
                  clear hK K
                  refine wpAny_ready (rs := [8]) (by kernel_rfl) (by simp) ?_
                  refine AllReady.cons (o := ⟨some 91, _, _, _, _, _⟩) rfl (fun K hK => ?_) AllReady.nil
                  go_simp
                  refine hK _ _ ?_
                  clear hK K
                  refine wpAny_ready (rs := [9]) (by kernel_rfl) (by simp) ?_
                  refine AllReady.cons (o := ⟨some 92, _, _, _, _, _⟩) rfl (fun K hK => ?_) AllReady.nil
                  go_simp
                  refine (full_any x _ _ rfl).mono ?_
                  rintro r w6 ⟨g6, rfl, hg6, hc6, hb6⟩
                  have HS6 := hide (run_str w6 _ _ _ 64 64 (fl_length x) ((Hby.out.below hb6).more hb6.size))
                  have HT6 := hide (run_str w6 _ _ _ 64 64 (fl_length x) (byt_row hc6))
                  have HB6 := hide (show Below w9.heap.size w9 w6 from HB5.out.trans ((drew_below hb6).mono HB5.out.size))
                  clear hg6 hc6 hb6
                  refine hK _ _ ?_
                  clear hK K
                  refine wpAny_ready (rs := [10]) (by kernel_rfl) (by simp) ?_
                  refine AllReady.cons (o := ⟨some 93, _, _, _, _, _⟩) rfl (fun K hK => ?_) AllReady.nil
                  refine step_wp2 (by rfl) (wp_convert_told 38 9 (.tmp 92) rfl _ rfl HT6.out ?_)
                  refine hK _ _ ?_
                  clear hK K
                  refine wpAny_take (i := 11) (oi := ⟨some 94, _, _, _, _, _⟩) (v := ?_) rfl (by kernel_rfl) (by kernel_rfl) (by kernel_rfl) (fun _ _ _ h => h) (Or.inl ⟨by rfl, ?_⟩) ?_
                  rotate_left 1
                  · (intro w; go_simp; try with_reducible rfl)
                  simp only [Act.put, List.setIfInBounds_toArray, List.set_cons_zero, List.set_cons_succ]
                  refine wpAny_take (i := 12) (oi := ⟨some 95, _, _, _, _, _⟩) (v := ?_) rfl (by kernel_rfl) (by kernel_rfl) (by kernel_rfl) (fun _ _ _ h => h) (Or.inl ⟨by rfl, ?_⟩) ?_
                  rotate_left 1
                  · (intro w; go_simp; try with_reducible rfl)
                  simp only [Act.put, List.setIfInBounds_toArray, List.set_cons_zero, List.set_cons_succ]
                  refine wpAny_done (by kernel_rfl) ?_ _
                  go_wp2
                  go_roundw
                  case rel => exact ⟨j + 1, Hlt2.out, by go_num, HB6.out⟩
                  case measure => have := Hlt2.out; simp [intOf]; omega
                · go_simp
                  refine hK _ _ ?_
                  clear hK K
                  refine wpAny_ready (rs := [4, 9]) (by kernel_rfl) (by simp) ?_
                  refine AllReady.cons (o := ⟨some 87, _, _, _, _, _⟩) rfl (fun K hK => ?_) (AllReady.cons (o := ⟨some 92, _, _, _, _, _⟩) rfl (fun K hK => ?_) AllReady.nil)
                  · refine step_wp2 (by rfl) (wp_convert_told 38 9 (.tmp 86) rfl _ rfl HS5.out ?_)
                    refine hK _ _ ?_
                    clear hK K
                    refine wpAny_ready (rs := [9]) (by kernel_rfl) (by simp) ?_
                    refine AllReady.cons (o := ⟨some 92, _, _, _, _, _⟩) rfl (fun K hK => ?_) AllReady.nil
                    go_simp
                    refine (full_any x _ _ rfl).mono ?_
                    rintro r w6 ⟨g6, rfl, hg6, hc6, hb6⟩
                    have HS6 := hide (run_str w6 _ _ _ 64 64 (fl_length x) ((Hby.out.below hb6).more hb6.size))
                    have HT6 := hide (run_str w6 _ _ _ 64 64 (fl_length x) (byt_row hc6))
                    have HB6 := hide (show Below w9.heap.size w9 w6 from HB5.out.trans ((drew_below hb6).mono HB5.out.size))
                    clear hg6 hc6 hb6
                    refine hK _ _ ?_
                    clear hK K
                    refine wpAny_ready (rs := [10]) (by kernel_rfl) (by simp) ?_
                    refine AllReady.cons (o := ⟨some 93, _, _, _, _, _⟩) rfl (fun K hK => ?_) AllReady.nil
                    refine step_wp2 (by rfl) (wp_convert_told 38 9 (.tmp 92) rfl _ rfl HT6.out ?_)
                    refine hK _ _ ?_
                    clear hK K
                    refine wpAny_take (i := 11) (oi := ⟨some 94, _, _, _, _, _⟩) (v := ?_) rfl (by kernel_rfl) (by kernel_rfl) (by kernel_rfl) (fun _ _ _ h => h) (Or.inl ⟨by rfl, ?_⟩) ?_
                    rotate_left 1
                    · (intro w; go_simp; try with_reducible rfl)
                    simp only [Act.put, List.setIfInBounds_toArray, List.set_cons_zero, List.set_cons_succ]
                    refine wpAny_take (i := 12) (oi := ⟨some 95, _, _, _, _, _⟩) (v := ?_) rfl (by kernel_rfl) (by kernel_rfl) (by kernel_rfl) (fun _ _ _ h => h) (Or.inl ⟨by rfl, ?_⟩) ?_
                    rotate_left 1
                    · (intro w; go_simp; try with_reducible rfl)
                    simp only [Act.put, List.setIfInBounds_toArray, List.set_cons_zero, List.set_cons_succ]
                    refine wpAny_done (by kernel_rfl) ?_ _
                    go_wp2
                    go_roundw
                    case rel => exact ⟨j + 1, Hlt2.out, by go_num, HB6.out⟩
                    case measure => have := Hlt2.out; simp [intOf]; omega
                  · go_simp
                    refine (full_any x _ _ rfl).mono ?_
                    rintro r w6 ⟨g6, rfl, hg6, hc6, hb6⟩
                    have HS6 := hide (run_str w6 _ _ _ 64 64 (fl_length x) ((Hby.out.below hb6).more hb6.size))
                    have HT6 := hide (run_str w6 _ _ _ 64 64 (fl_length x) (byt_row hc6))
                    have HB6 := hide (show Below w9.heap.size w9 w6 from HB5.out.trans ((drew_below hb6).mono HB5.out.size))
                    clear hg6 hc6 hb6
                    refine hK _ _ ?_
                    clear hK K
                    refine wpAny_ready (rs := [4, 10]) (by kernel_rfl) (by simp) ?_
                    refine AllReady.cons (o := ⟨some 87, _, _, _, _, _⟩) rfl (fun K hK => ?_) (AllReady.cons (o := ⟨some 93, _, _, _, _, _⟩) rfl (fun K hK => ?_) AllReady.nil)
                    · refine step_wp2 (by rfl) (wp_convert_told 38 9 (.tmp 86) rfl _ rfl HS6.out ?_)
                      refine hK _ _ ?_
                      clear hK K
                      refine wpAny_ready (rs := [10]) (by kernel_rfl) (by simp) ?_
                      refine AllReady.cons (o := ⟨some 93, _, _, _, _, _⟩) rfl (fun K hK => ?_) AllReady.nil
                      refine step_wp2 (by rfl) (wp_convert_told 38 9 (.tmp 92) rfl _ rfl HT6.out ?_)
                      refine hK _ _ ?_
                      clear hK K
                      refine wpAny_take (i := 11) (oi := ⟨some 94, _, _, _, _, _⟩) (v := ?_) rfl (by kernel_rfl) (by kernel_rfl) (by kernel_rfl) (fun _ _ _ h => h) (Or.inl ⟨by rfl, ?_⟩) ?_
                      rotate_left 1
                      · (intro w; go_simp; try with_reducible rfl)
                      simp only [Act.put, List.setIfInBounds_toArray, List.set_cons_zero, List.set_cons_succ]
                      refine wpAny_take (i := 12) (oi := ⟨some 95, _, _, _, _, _⟩) (v := ?_) rfl (by kernel_rfl) (by kernel_rfl) (by kernel_rfl) (fun _ _ _ h => h) (Or.inl ⟨by rfl, ?_⟩) ?_
                      rotate_left 1
                      · (intro w; go_simp; try with_reducible rfl)
                      simp only [Act.put, List.setIfInBounds_toArray, List.set_cons_zero, List.set_cons_succ]
                      refine wpAny_done (by kernel_rfl) ?_ _
                      go_wp2
                      go_roundw
                      case rel => exact ⟨j + 1, Hlt2.out, by go_num, HB6.out⟩
                      case measure => have := Hlt2.out; simp [intOf]; omega
                    · refine step_wp2 (by rfl) (wp_convert_told 38 9 (.tmp 92) rfl _ rfl HT6.out ?_)
                      refine hK _ _ ?_
                      clear hK K
                      refine wpAny_ready (rs := [4]) (by kernel_rfl) (by simp) ?_
                      refine AllReady.cons (o := ⟨some 87, _, _, _, _, _⟩) rfl (fun K hK => ?_) AllReady.nil
                      refine step_wp2 (by rfl) (wp_convert_told 38 9 (.tmp 86) rfl _ rfl HS6.out ?_)
                      refine hK _ _ ?_
                      clear hK K
                      refine wpAny_take (i := 11) (oi := ⟨some 94, _, _, _, _, _⟩) (v := ?_) rfl (by kernel_rfl) (by kernel_rfl) (by kernel_rfl) (fun _ _ _ h => h) (Or.inl ⟨by rfl, ?_⟩) ?_
                      rotate_left 1
                      · (intro w; go_simp; try with_reducible rfl)
                      simp only [Act.put, List.setIfInBounds_toArray, List.set_cons_zero, List.set_cons_succ]
                      refine wpAny_take (i := 12) (oi := ⟨some 95, _, _, _, _, _⟩) (v := ?_) rfl (by kernel_rfl) (by kernel_rfl) (by kernel_rfl) (fun _ _ _ h => h) (Or.inl ⟨by rfl, ?_⟩) ?_
                      rotate_left 1
                      · (intro w; go_simp; try with_reducible rfl)
                      simp only [Act.put, List.setIfInBounds_toArray, List.set_cons_zero, List.set_cons_succ]
                      refine wpAny_done (by kernel_rfl) ?_ _
                      go_wp2
                      go_roundw
                      case rel => exact ⟨j + 1, Hlt2.out, by go_num, HB6.out⟩
                      case measure => have := Hlt2.out; simp [intOf]; omega
              · obtain rfl : j = n := by omega
                have HLf := hide (HL9.out.below hbel.out)
                clear hbel hj hgej
                go_wp2
                go_roundw
                case rel => exact ⟨k + 1, Hlt.out, by go_num, HLf.out⟩
                case measure => have := Hlt.out; simp [intOf]; omega
          · go_wp2
            go_roundw
            case rel => exact ⟨k + 1, Hlt.out, by go_num, hlst.out.more⟩
            case measure => have := Hlt.out; simp [intOf]; omega
      · obtain rfl : k = m := by omega
        have HLn := hide hlst.out.len
        have HB9 := hide hlst.out.size
        clear hlst hm150 hk hge
        go_wp2_with fail
        refine HLn.out.mono ?_
        rintro r w4 ⟨rfl, rfl⟩
        go_wp2
        go_ret
        exact ⟨rfl, HB9.out⟩

end Go.Proofs.YthdgidfdjnfpiaaDoor.Dk
