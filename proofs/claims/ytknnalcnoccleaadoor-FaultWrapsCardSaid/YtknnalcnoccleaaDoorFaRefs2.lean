/-
  The reference's Text at a slice of places and a number. Nothing below is changed. Conditions: at most 50 places, whose names have at most 200 bytes and whose numbers are an int's.
-/
import Derived.Test.YtknnalcnoccleaaDoorFaRefs
namespace Go.Proofs.YtknnalcnoccleaaDoor.Fa
open Go.RowKit Go.Deep
open Pk Sm

/-- The places' part of the text. -/
def pthP : List Pl → List UInt8
  | [] => []
  | q :: r => plc q.1 q.2 ++ [58, 32] ++ pthP r
theorem pth_pls (fs : List Flt) : pth fs = pthP (pls fs) := by
  induction fs with
  | nil => rfl
  | cons f r ih => simp only [pth, ih]; rfl
theorem pthP_append (a b : List Pl) : pthP (a ++ b) = pthP a ++ pthP b := by
  induction a with
  | nil => rfl
  | cons f r ih => simp [pthP, ih]
theorem plc_len {op : ByteArray} {n : Int} (h : Int64 n) (hs : op.size ≤ 200) : (plc op n).length ≤ 222 := by
  have := Lib.itoa_length_le n h.1 h.2
  unfold plc
  rw [List.length_append, List.length_append, size_eq]
  simp
  omega
/-- Short names, and numbers of an int's. -/
def Good (l : List Pl) : Prop := ∀ q ∈ l, q.1.size ≤ 200 ∧ Int64 q.2
theorem pthP_le {l : List Pl} (h : Good l) : (pthP l).length ≤ 224 * l.length := by
  induction l with
  | nil => simp [pthP]
  | cons f r ih =>
    have h1 := ih (fun g hg => h g (List.mem_cons_of_mem _ hg))
    have h2 := plc_len (h f (List.mem_cons_self ..)).2 (h f (List.mem_cons_self ..)).1
    simp only [pthP, List.length_append, List.length_cons, List.length_nil]
    omega
theorem drop_rev {l : List Pl} {k : Nat} {q : Pl} (h : l[k]? = some q) : (l.drop k).reverse = (l.drop (k + 1)).reverse ++ [q] := by
  obtain ⟨hk, he⟩ := List.getElem?_eq_some_iff.1 h
  rw [List.drop_eq_getElem_cons hk, he]
  simp
theorem pthP_snoc {l : List Pl} {k : Nat} {q : Pl} (h : l[k]? = some q) : pthP (l.drop k).reverse = pthP (l.drop (k + 1)).reverse ++ plc q.1 q.2 ++ [58, 32] := by
  rw [drop_rev h, pthP_append]
  simp [pthP]

set_option maxHeartbeats 2000000 in
theorem RText_any (A : Option Addr) (n c : Nat) (l : List Pl) (code : Int) (w : World) (hl : l.length = n) (hn : n ≤ 50) (hp : Pls w w.heap.size A l) (hg : Good l) :
    Calls Tryd.prog 17 #[.slice A n c, .int .i64 code] w fun r w' => r = .returned (.string (str (pthP l.reverse ++ word code))) ∧ Below w.heap.size w w' := by
  have Hl := hide hl
  have Hp := hide hp
  have Hg := hide hg
  clear hl hp hg
  go_enter Tryd.func17, Tryd.ntmps17
  go_wp2_with fail
  go_loopw [5, 6] (fun s j wr => ∃ (k : Nat) (x : Int) (S : ByteArray), k ≤ n ∧ x = (k : Int) - 1 ∧ j = .int .i64 x ∧ s = .string S ∧ Hid (S = str (pthP (l.drop k).reverse)) ∧ Hid (Below w.heap.size w wr)) (fun _ j _ => (intOf j + 1).toNat)
  case atStart => exact ⟨n, _, _, Nat.le_refl _, rfl, rfl, rfl, by rw [List.drop_eq_nil_of_le (by rw [Hl.out]; exact Nat.le_refl _)]; rfl, Below.refl _ _⟩
  case round =>
    obtain ⟨k, x, S, hk, hx, rfl, rfl, hS, hbel⟩ := hrel
    cases k with
    | zero =>
      have hx0 : x < 0 := by omega
      have hS' := hS.out
      rw [List.drop_zero] at hS'
      have hlen : (pthP l.reverse).length ≤ 11200 := by
        have := pthP_le (l := l.reverse) (fun q hq => Hg.out q (List.mem_reverse.1 hq))
        rw [List.length_reverse, Hl.out] at this
        omega
      have hwl := word_le code
      obtain ⟨V, hV⟩ : ∃ V, V = str (word code) := ⟨_, rfl⟩
      obtain ⟨T, hT⟩ : ∃ T, T = str (pthP l.reverse ++ word code) := ⟨_, rfl⟩
      have hadd : ∀ W : World, (Op.stringOp .add S V).run Tryd.prog W = .ok (.string T) W := fun W => by
        rw [hS', hV, hT]
        exact run_add _ _ (by omega) W
      have HR := hide (RWord_any code wr)
      rw [← hV] at HR
      have HT := hide hT
      clear hS hS' hlen hwl hV hT hx
      go_wp2_with fail
      refine HR.out.mono ?_
      rintro r w2 ⟨rfl, hb2⟩
      have HB2 := hide (hbel.out.trans (hb2.mono hbel.out.size))
      clear hb2 hbel
      go_wp2
      go_ret
      exact ⟨by rw [← HT.out]; rfl, HB2.out⟩
    | succ k =>
      obtain rfl : x = (k : Int) := by omega
      obtain ⟨q, hqk⟩ : ∃ q, l[k]? = some q := ⟨_, List.getElem?_eq_getElem (by rw [Hl.out]; omega)⟩
      have hmem : q ∈ l := List.mem_of_getElem? hqk
      have hgq := Hg.out q hmem
      have hp0 := Hp.out.below hbel.out
      obtain ⟨b, o, rfl, hlt, hcells⟩ := hp0 (by rintro rfl; simp at hqk)
      obtain ⟨hc0, hc1⟩ := hcells k q hqk
      have hlt2 : b < wr.heap.size := Nat.lt_of_lt_of_le hlt hbel.out.size
      have hlen : (pthP (l.drop (k + 1)).reverse).length ≤ 11200 := by
        have := pthP_le (l := (l.drop (k + 1)).reverse) (fun q hq => Hg.out q (List.mem_of_mem_drop (List.mem_reverse.1 hq)))
        rw [List.length_reverse, List.length_drop, Hl.out] at this
        omega
      have hil := Lib.itoa_length_le q.2 hgq.2.1 hgq.2.2
      have hS' := hS.out
      obtain ⟨S1, h1⟩ : ∃ T, T = str (pthP (l.drop (k + 1)).reverse ++ q.1.data.toList) := ⟨_, rfl⟩
      obtain ⟨S2, h2⟩ : ∃ T, T = str (pthP (l.drop (k + 1)).reverse ++ q.1.data.toList ++ [32]) := ⟨_, rfl⟩
      obtain ⟨SD, hD⟩ : ∃ T, T = str (Lib.itoa q.2) := ⟨_, rfl⟩
      obtain ⟨S3, h3⟩ : ∃ T, T = str (pthP (l.drop (k + 1)).reverse ++ q.1.data.toList ++ [32] ++ Lib.itoa q.2) := ⟨_, rfl⟩
      obtain ⟨S4, h4⟩ : ∃ T, T = str (pthP (l.drop (k + 1)).reverse ++ q.1.data.toList ++ [32] ++ Lib.itoa q.2 ++ [58, 32]) := ⟨_, rfl⟩
      have hsz : q.1.data.toList.length ≤ 200 := by rw [size_eq]; exact hgq.1
      have hadd1 : ∀ W : World, (Op.stringOp .add S q.1).run Tryd.prog W = .ok (.string S1) W := fun W => by
        rw [hS', h1]
        exact run_add _ q.1.data.toList (by omega) W
      have hadd2 : ∀ W : World, (Op.stringOp .add S1 ⟨#[32]⟩).run Tryd.prog W = .ok (.string S2) W := fun W => by
        rw [h1, h2]
        exact run_add _ [32] (by simp only [List.length_append, List.length_cons, List.length_nil]; omega) W
      have hadd3 : ∀ W : World, (Op.stringOp .add S2 SD).run Tryd.prog W = .ok (.string S3) W := fun W => by
        rw [h2, hD, h3]
        exact run_add _ _ (by simp only [List.length_append, List.length_cons, List.length_nil]; omega) W
      have hadd4 : ∀ W : World, (Op.stringOp .add S3 ⟨#[58, 32]⟩).run Tryd.prog W = .ok (.string S4) W := fun W => by
        rw [h3, h4]
        exact run_add _ [58, 32] (by simp only [List.length_append, List.length_cons, List.length_nil]; omega) W
      have H4 := hide (show S4 = str (pthP (l.drop k).reverse) by rw [h4, pthP_snoc hqk]; simp [plc])
      have HD := hide (Digits_any q.2 hgq.2 wr.drew)
      rw [← hD] at HD
      have Hlt := hide hlt2
      clear hS hS' hlen hil h1 h2 hD h3 h4 hsz hqk hmem hgq hp0 hcells hlt hlt2 hx
      go_wp2_with fail
      go_region_with (go_at_call 26; refine HD.out.mono ?_; rintro r w1 ⟨rfl, hb1⟩; have hc2 : w1.cell? ⟨b, o + k * 2, none⟩ = some (.string q.1) := (hb1.cell (p := ⟨b, o + k * 2, none⟩) Hlt.out).trans hc0; have HB1 := hide (hbel.out.trans ((drew_below hb1).mono hbel.out.size)); clear hb1)
      all_goals
        go_wp2
        go_roundw
        case rel => exact ⟨k, _, _, by omega, rfl, by go_num, rfl, H4.out, HB1.out⟩
        case measure => simp [intOf]

end Go.Proofs.YtknnalcnoccleaaDoor.Fa
