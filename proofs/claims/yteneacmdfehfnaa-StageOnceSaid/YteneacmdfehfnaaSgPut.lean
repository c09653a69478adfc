/-
  The contract of the statements' own put: records with the next numbers are taken, or refused.
-/
import Derived.Test.YteneacmdfehfnaaSgAwake
import Derived.Test.YteneacmdfehfnaaSgOp
namespace Go.Proofs.Yteneacmdfehfnaa.Sg
open Go.RowKit
open Pk Dk Wn Lk Rc

/-- More records behind. -/
def Putted (p f b : Nat) (m : Int) (L : List Rd) (k : Nat) (w : World) (G : Nat → Prop) (w' : World) : Prop := ∃ M : List Rd, M.length ≤ k ∧ After (stgT p (L ++ M) f b m) w G w'
set_option maxRecDepth 100000 in
set_option maxHeartbeats 4000000 in
theorem put_any {p f b : Nat} {m : Int} {L : List Rd} {w : World} {G : Nat → Prop} (h : Stg p L f b m w G) (A : Option Addr) (n c : Nat) (l : List Oq) (hl : l.length = n) (hn : n ≤ 200) (hL : L.length ≤ 1000) (hb : b ≤ 1000) (w0 : World) (hbel : Below w0.heap.size w0 w) (hG : ∀ k, G k → w0.heap.size ≤ k) (hs : Src w0 A (ocels l)) (hf : Fits l) :
    Calls Try.prog 9 #[.pointer (some ⟨p, 0, none⟩), .slice A n c] w fun e w' => e = .returned (.tuple #[]) ∧ Putted p f b m L n w G w' := by
  have Hl := hide hl
  have Hn := hide hn
  have HL := hide hL
  have Hb := hide hb
  have Hs := hide hs
  have Ho := hide hG
  have Hbel := hide hbel
  have Hf := hide hf
  have HS0 : Hid (Putted p f b m L 0 w G w) := ⟨[], Nat.le_refl _, by rw [List.append_nil]; exact h.after (Below.refl _ _)⟩
  have hni : (n : Int) ≤ 200 := by omega
  clear h hl hn hL hb hs hG hbel hf
  go_enter Try.func9, Try.ntmps9
  go_wp2_with fail
  go_loopw [4, 5, 6, 7, 10] (fun _ _ _ _ j wr => ∃ k : Nat, k ≤ n ∧ j = .int .i64 (k : Int) ∧ Hid (Putted p f b m L k w G wr)) (fun _ _ _ _ j _ => n - (intOf j).toNat)
  case atStart => exact ⟨0, Nat.zero_le _, rfl, HS0⟩
  case round =>
    clear HS0
    obtain ⟨k, hk, rfl, M, hM, G1, hp, hg, hkp⟩ := hrel
    rcases Nat.lt_or_ge k n with hlt | hge
    · have Hlt := hide hlt
      have hki : (k : Int) < (n : Int) := by omega
      obtain ⟨q, hq⟩ : ∃ q, l[k]? = some q := ⟨_, List.getElem?_eq_getElem (by rw [Hl.out]; exact hlt)⟩
      obtain ⟨g, o, rfl, hgl, hat0⟩ := Src.op Hs.out hq
      have hgG : ¬ G g := fun e => by have := Ho.out _ e; omega
      have hgw : g < w.heap.size := Nat.lt_of_lt_of_le hgl Hbel.out.size
      have hat : RAt wr g (o + k * 8 + 2) q.r := by
        have e : ∀ i, wr.cell? ⟨g, i, none⟩ = w.cell? ⟨g, i, none⟩ := fun i => by simp only [World.cell?, hkp.block g hgw hgG]
        have := hat0.r.below hgl Hbel.out
        exact ⟨(e _).trans this.1, (e _).trans this.2.1, (e _).trans this.2.2.1, (e _).trans this.2.2.2.1, (e _).trans this.2.2.2.2⟩
      have hd : q.r.d.size ≤ 9223372036854775807 := by
        have := Hf.out q (List.mem_of_getElem? hq)
        unfold maxLen at this
        omega
      obtain ⟨⟩ := q
      rename_i qk qn qr qx
      obtain ⟨rs, rk, rb, rd, rm⟩ := qr
      obtain ⟨c0, c1, c2, c3, c4⟩ := hat
      simp only at hd
      have hp' : Stg p (L ++ M) f b m wr G1 := hp
      have hbx : Below wr.heap.size wr (wr.alloc (.cells #[.int .i64 rs, .int .i64 rk, .int .i64 rb, .string rd, .int .i64 rm] 34)) := (Below.refl _ _).alloc (Nat.le_refl _) _
      obtain ⟨t, ht⟩ : ∃ t, b + (L ++ M).length = t := ⟨_, rfl⟩
      have htl : t ≤ 3000 := by rw [← ht, List.length_append]; have := HL.out; have := Hb.out; have := Hn.out; omega
      have HLa := hide (Last_any (hp'.below hbx) ht rfl)
      have hq1 := heap_alloc_new wr (.cells #[.int .i64 rs, .int .i64 rk, .int .i64 rb, .string rd, .int .i64 rm] 34)
      have HRt : Hid (∀ W, Below (wr.alloc (.cells #[.int .i64 rs, .int .i64 rk, .int .i64 rb, .string rd, .int .i64 rm] 34)).heap.size (wr.alloc (.cells #[.int .i64 rs, .int .i64 rk, .int .i64 rb, .string rd, .int .i64 rm] 34)) W → W.heap[wr.heap.size]? = some (.cells #[.int .i64 rs, .int .i64 rk, .int .i64 rb, .string rd, .int .i64 rm] 34 (0, 0)) ∧ Below wr.heap.size wr W) := fun W hW => ⟨(hW.block _ (by simp)).trans hq1, hbx.trans (hW.mono hbx.size)⟩
      have HP := hide hp'
      have HG := hide (And.intro hg hkp)
      have HM := hide hM
      have Ht := hide ht
      have Htl := hide htl
      have Hd := hide hd
      have e1 : IntKind.i64.wrap ((t : Int) + 1) = (t : Int) + 1 := wrap_id (by omega) (by omega)
      clear hp hp' hg hkp hM hq hgl hgw hat0 hgG hd hbx ht htl hq1 hlt hk
      go_wp2_with fail
      refine HLa.out.mono ?_
      rintro e w3 ⟨rfl, hb3⟩
      obtain ⟨hbk, hbw⟩ := HRt.out w3 hb3
      have HBk := hide hbk
      have HBw := hide hbw
      have hbs : Below wr.heap.size wr (w3.setCell ⟨wr.heap.size, 0, none⟩ (.int .i64 ((t : Int) + 1))) := hbw.setCell (Nat.le_refl _) _
      have HBs := hide hbs
      have hbk2 := heap_setCell_same w3 wr.heap.size 0 _ _ (.int .i64 ((t : Int) + 1)) hbk
      have HB2 := hide hbk2
      have z0 : w3.cell? ⟨wr.heap.size, 0, none⟩ = some (.int .i64 rs) := by rw [cell_of_row w3 _ _ _ _ _ hbk]; rfl
      have z5 : w3.frozen? ⟨wr.heap.size, 0, none⟩ = false := by simp [World.frozen?, hbk]
      have z1 : w3.cell? ⟨wr.heap.size, 1, none⟩ = some (.int .i64 rk) := by rw [cell_of_row w3 _ _ _ _ _ hbk]; rfl
      have z2 : w3.cell? ⟨wr.heap.size, 2, none⟩ = some (.int .i64 rb) := by rw [cell_of_row w3 _ _ _ _ _ hbk]; rfl
      have z3 : w3.cell? ⟨wr.heap.size, 3, none⟩ = some (.string rd) := by rw [cell_of_row w3 _ _ _ _ _ hbk]; rfl
      have z4 : w3.cell? ⟨wr.heap.size, 4, none⟩ = some (.int .i64 rm) := by rw [cell_of_row w3 _ _ _ _ _ hbk]; rfl
      clear hb3 hbk hbw hbs hbk2 HLa HRt c0 c1 c2 c3 c4
      go_wp2_with fail
      generalize World.setCell _ _ _ = w4 at *
      by_cases hfit : fits ⟨(t : Int) + 1, rk, rb, rd, rm⟩ t
      · have HC := hide (Take_yes (HP.out.below HBs.out) ⟨(t : Int) + 1, rk, rb, rd, rm⟩ Hd.out Ht.out hfit (by rw [List.length_append]; have := HL.out; have := HM.out; have := Hlt.out; have := Hn.out; omega))
        clear z0 z1 z2 z3 z4 z5 hfit
        refine HC.out.mono ?_
        rintro e w5 ⟨rfl, hA⟩
        have HA : Hid (Putted p f b m L (k + 1) w G w5) := by
          refine ⟨M ++ [⟨(t : Int) + 1, rk, rb, rd, rm⟩], by rw [List.length_append]; have := HM.out; simp; omega, ?_⟩
          rw [← List.append_assoc]
          exact Lk.After.next HG.out.1 HG.out.2 (hA.from HBs.out)
        clear hA HC
        go_wp2
        go_roundw
        case rel => exact ⟨k + 1, Hlt.out, by go_num, HA⟩
        case measure => have := Hlt.out; simp [intOf]; omega
      · have HC := hide (Take_no (HP.out.below HBs.out) ⟨(t : Int) + 1, rk, rb, rd, rm⟩ Hd.out Ht.out hfit)
        clear z0 z1 z2 z3 z4 z5 hfit
        refine HC.out.mono ?_
        rintro e w5 ⟨rfl, hb5⟩
        have HA : Hid (Putted p f b m L (k + 1) w G w5) := by
          refine ⟨M, by have := HM.out; omega, ?_⟩
          exact Lk.After.next HG.out.1 HG.out.2 (HP.out.after (HBs.out.trans (hb5.mono HBs.out.size)))
        clear hb5 HC
        go_wp2
        go_roundw
        case rel => exact ⟨k + 1, Hlt.out, by go_num, HA⟩
        case measure => have := Hlt.out; simp [intOf]; omega
    · obtain rfl : k = n := by omega
      have HA : Hid (Putted p f b m L k w G wr) := ⟨M, hM, G1, hp, hg, hkp⟩
      clear hp hg hkp hM hge hk
      go_wp2
      go_end0
      exact ⟨rfl, HA.out⟩

end Go.Proofs.Yteneacmdfehfnaa.Sg
