/-
  Proved: for every l, code, op and at the call FaultWraps(l, code, op, at) returns true and changes no argument: one more place around an error is the first one of its path, and changes neither its number, nor what is below. Condition: the library's variables errors.errorType and the table of powers of ten hold what the program's own text lays.
-/
import Derived.Test.YtknnalcnoccleaaDoorFaWrapsA
import Derived.Deep.RegionHeld3
namespace Go.Proofs.YtknnalcnoccleaaDoor.Fa
open Go.RowKit Go.Deep
open Pk Sm

theorem vec_head {w : World} {B b o : Nat} {x : Value} {xs : List Value} (h : Vec w B (some ⟨b, o, none⟩) (x :: xs)) : w.cell? ⟨b, o, none⟩ = some x := by
  obtain ⟨b', o', e, _, hc⟩ := h (by simp)
  simp only [Option.some.injEq, Addr.mk.injEq, and_true] at e
  obtain ⟨rfl, rfl⟩ := e
  exact hc 0 x rfl

/-- q[1:] against p. -/
theorem same_tail {w : World} {bq oq cq n cp : Nat} {Ap : Option Addr} {SP : ByteArray} {l : List Pl} (hq : Vec w w.heap.size (some ⟨bq, oq, none⟩) (.string SP :: plcs l.reverse)) (hp : Vec w w.heap.size Ap (plcs l.reverse)) (hc : n + 1 ≤ cq) (hl : l.length = n) (hn : n ≤ 50) :
    Calls Tryd.prog 18 #[.slice (if cq = 1 then some ⟨bq, oq, none⟩ else some ⟨bq, oq + 1, none⟩) n (cq - 1), .slice Ap n cp] w fun r w' => r = .returned (.bool true) ∧ Below w.heap.size w w' := by
  have h1 := hq.tail (c := cq) (by rw [plcs_length, List.length_reverse, hl]; exact hc)
  rw [plcs_strs] at h1 hp
  exact Same_yes _ _ n (cq - 1) cp (l.reverse.map fun q => str (plc q.1 q.2)) w (by rw [List.length_map, List.length_reverse]; exact hl) (by omega) h1 hp

theorem same_at {w : World} {bq oq cq n cp : Nat} {Ap At : Option Addr} {SP : ByteArray} {l : List Pl} (hAt : (if cq = 1 then some ⟨bq, oq, none⟩ else some ⟨bq, oq + 1, none⟩) = At) (hq : Vec w w.heap.size (some ⟨bq, oq, none⟩) (.string SP :: plcs l.reverse)) (hp : Vec w w.heap.size Ap (plcs l.reverse)) (hc : n + 1 ≤ cq) (hl : l.length = n) (hn : n ≤ 50) :
    Calls Tryd.prog 18 #[.slice At n (cq - 1), .slice Ap n cp] w fun r w' => r = .returned (.bool true) ∧ Below w.heap.size w w' := by
  subst hAt
  exact same_tail hq hp hc hl hn

/-- A wrapped error's text. -/
theorem ErrF_any {w : World} {l : List Pl} {fs : List Flt} {p : Nat} {code : Int} {T : ByteArray} (h : Wrp w l (.iface 41 (.pointer (some ⟨p, 0, none⟩))) (.iface 28 (.int .i64 code)) fs) (hty : Ety w) (hn : l.length ≤ 51) (hT : T = str (pthP l.reverse ++ word code)) :
    Calls Tryd.prog 25 #[.pointer (some ⟨p, 0, none⟩)] w fun r w' => r = .returned (.string T) ∧ Below w.heap.size w w' := by
  have hE := Error_any fs p _ (word code) _ w rfl hty h.chain (Or.inr (Or.inl ⟨code, rfl, rfl⟩)) h.nice (by rw [h.len]; omega) (by have := word_le code; omega)
  rw [pth_pls, h.laid, ← hT] at hE
  exact hE

/-- errors.Is at a fault and the fault that it wraps. -/
theorem is_step {w : World} {l l' : List Pl} {fs r : List Flt} {g p : Nat} {op o' : ByteArray} {n m : Int} {i : Value} (hf : Wrp w l (.iface 41 (.pointer (some ⟨g, 0, none⟩))) i ((g, op, n) :: fs)) (he : Wrp w l' (.iface 41 (.pointer (some ⟨p, 0, none⟩))) i ((p, o', m) :: r)) (hfs : fs = (p, o', m) :: r) (hne : g ≠ p) :
    Calls Tryd.prog 22 #[.iface 41 (.pointer (some ⟨g, 0, none⟩)), .iface 41 (.pointer (some ⟨p, 0, none⟩))] w fun r w' => r = .returned (.bool true) ∧ w' = w := by
  subst hfs
  obtain ⟨_, e', hg, hc⟩ := hf.chain
  obtain ⟨_, e'', hp, _⟩ := he.chain
  obtain ⟨rfl, _⟩ := hc
  exact Is_two g p op n _ w hg hp hne

theorem Wrp.wrap {w : World} {l : List Pl} {fs : List Flt} {e i : Value} (h : Wrp w l e i fs) (op : ByteArray) (n : Int) (hs : op.size ≤ 200) (hd : Dig w n) :
    Wrp (w.alloc (.cells #[.string op, .int .i64 n, e] 46)) (l ++ [(op, n)]) (.iface 41 (.pointer (some ⟨w.heap.size, 0, none⟩))) i ((w.heap.size, op, n) :: fs) := by
  have hb : Below w.heap.size w (w.alloc (.cells #[.string op, .int .i64 n, e] 46)) := (Below.refl _ _).alloc (Nat.le_refl _) _
  refine ⟨h.chain.wrap op n, ?_, ?_, ?_⟩
  · rw [List.reverse_append]
    show (op, n) :: pls fs = _
    rw [h.laid]
    rfl
  · intro f hf
    rcases List.mem_cons.1 hf with rfl | hf
    · exact ⟨hs, hd.below hb⟩
    · exact h.nice.below hb f hf
  · simp [h.len]

set_option maxHeartbeats 8000000 in
set_option maxRecDepth 100000 in
theorem Wraps_in (A : Option Addr) (n c : Nat) (l : List Pl) (code at_ : Int) (op : ByteArray) (w : World) (hty : Ety w) (htab : Tab10 w) (hat : Int64 at_) (hl : l.length = n) (hp : Pls w w.heap.size A l) (hf : Fit l) (hfew : Few l) (hcode : ¬ code = 0) (hs : op.size ≤ 200) :
    Calls Tryd.prog 7 #[.slice A n c, .int .i64 code, .string op, .int .i64 at_] w fun e w' => e = .returned (.bool true) ∧ Below w.heap.size w w' := by
  have hn : n ≤ 50 := by rw [← hl]; exact hfew.1
  have hm := methodErrF
  have hmn := methodErrN
  have hil := Lib.itoa_length_le at_ hat.1 hat.2
  have hplen := plc_len hat hs
  have hgood := few_good hfew hf
  have hpt := pthP_le (l := l.reverse) (fun q hq => hgood q (List.mem_reverse.1 hq))
  have hpt2 : (pthP l.reverse).length ≤ 11200 := by rw [List.length_reverse, hl] at hpt; omega
  have hwl := word_le code
  obtain ⟨S1, h1⟩ : ∃ S, S = str (op.data.toList ++ [32]) := ⟨_, rfl⟩
  obtain ⟨SA, h2⟩ : ∃ S, S = str (Lib.itoa at_) := ⟨_, rfl⟩
  obtain ⟨SP, h3⟩ : ∃ S, S = str (plc op at_) := ⟨_, rfl⟩
  obtain ⟨SC, h4⟩ : ∃ S, S = str (plc op at_ ++ [58, 32]) := ⟨_, rfl⟩
  obtain ⟨TE, h5⟩ : ∃ S, S = str (pthP l.reverse ++ word code) := ⟨_, rfl⟩
  obtain ⟨TF, h6⟩ : ∃ S, S = str (pthP (l ++ [(op, at_)]).reverse ++ word code) := ⟨_, rfl⟩
  have hTF : TF = str (plc op at_ ++ [58, 32] ++ (pthP l.reverse ++ word code)) := by rw [h6, List.reverse_append]; simp [pthP]
  have hadd1 : ∀ W : World, (Op.stringOp .add op ⟨#[32]⟩).run Tryd.prog W = .ok (.string S1) W := fun W => by
    rw [h1]
    exact run_add op.data.toList [32] (by rw [size_eq]; simp only [List.length_cons, List.length_nil]; omega) W
  have hadd2 : ∀ W : World, (Op.stringOp .add S1 SA).run Tryd.prog W = .ok (.string SP) W := fun W => by
    rw [h1, h2, h3]
    exact run_add _ _ (by rw [List.length_append, size_eq]; simp only [List.length_cons, List.length_nil]; omega) W
  have hadd3 : ∀ W : World, (Op.stringOp .add SP ⟨#[58, 32]⟩).run Tryd.prog W = .ok (.string SC) W := fun W => by
    rw [h3, h4]
    exact run_add _ [58, 32] (by simp only [List.length_cons, List.length_nil]; omega) W
  have hadd4 : ∀ W : World, (Op.stringOp .add SC TE).run Tryd.prog W = .ok (.string TF) W := fun W => by
    rw [h4, h5, hTF]
    exact run_add _ _ (by simp only [List.length_append, List.length_cons, List.length_nil]; omega) W
  have HD := hide fun W => Digits_any at_ hat W
  rw [← h2] at HD
  have HTe := hide h5
  have HTf := hide h6
  have H3 := hide h3
  have HA := hide (awake_any w hty)
  have HFw := hide fun (w1 : World) (hb : Below w.heap.size w w1) => few_any A n c l w1 hl ((hp.below hb).more hb.size) hf
  have HM := hide fun (w1 : World) (hb : Below w.heap.size w w1) => made_num A n c l code w1 hl hn ((hp.below hb).more hb.size) hcode
  have Hfew := hide hfew
  have Hty := hide hty
  have Htab := hide htab
  have Hat := hide hat
  have Hl := hide hl
  have Hf := hide hf
  have Hn := hide hn
  have Hs := hide hs
  have Hfn := hide (show (l ++ [(op, at_)]).length ≤ 51 by rw [List.length_append, hl]; simp only [List.length_cons, List.length_nil]; omega)
  have Hen := hide (show l.length ≤ 51 by omega)
  have hc0 : (code == 0) = false := by simpa using hcode
  have hs' : decide ((200 : Int) < (op.size : Int)) = false := decide_eq_false (by omega)
  have hw1 : IntKind.i64.wrap ((n : Int) + 1) = (n : Int) + 1 := by rw [IntKind.wrap_i64]; omega
  clear hty hl hp hf hfew hcode htab hil hplen hgood hpt hpt2 hwl h1 h2 h3 h4 h5 h6 hTF hat hs
  go_enter Tryd.func7, Tryd.ntmps7
  go_wp2_with fail
  refine HA.out.mono ?_
  rintro r w1 ⟨rfl, hb1⟩
  go_wp2_with fail
  refine (HFw.out w1 hb1).mono ?_
  rintro r w2 ⟨⟨b, rfl, hb⟩, rfl⟩
  obtain rfl : b = true := hb.2 Hfew.out
  have HB := hide hb1
  have HM2 := hide (HM.out w2 hb1)
  clear hb hb1 HA HFw HM
  go_wp2_with fail
  refine HM2.out.mono ?_
  rintro r w3 ⟨e, rfl, hM⟩
  have HB3 := hide (HB.out.trans (hM.2.2.mono HB.out.size))
  obtain ⟨fs, hW3⟩ := hM.wrp Hl.out Hfew.out Hf.out (Htab.out.below HB3.out)
  have hF3 := hW3.wrap op at_ Hs.out (Or.inr ⟨Htab.out.below HB3.out, Hat.out⟩)
  have hb4 : Below w3.heap.size w3 (w3.alloc (.cells #[.string op, .int .i64 at_, e] 46)) := (Below.refl _ _).alloc (Nat.le_refl _) _
  have HWr := hide (Wrap_real op at_ e w3 hM.1)
  have HEa := hide hW3
  have Hee := hide (show fs.length ≤ 60000 by rw [hW3.len, Hl.out]; omega)
  have Hff := hide (show ((w3.heap.size, op, at_) :: fs).length ≤ 60000 by rw [List.length_cons, hW3.len, Hl.out]; omega)
  have Hfl := hide (hW3.len.trans Hl.out)
  clear hM hW3 HM2
  go_wp2_with fail
  refine HWr.out.mono ?_
  rintro r w4 ⟨rfl, hw4⟩
  rw [← hw4] at hF3 hb4
  have HB4 := hide (HB3.out.trans (hb4.mono HB3.out.size))
  have HF4 := hide hF3
  have HE4 := hide (HEa.out.below hb4)
  have HPa := hide (Path_any fs _ _ n w4 Hfl.out (Hty.out.below HB4.out Hty.out.lt) HE4.out.chain (Or.inr (Or.inl ⟨code, rfl⟩)) HE4.out.nice (by omega))
  clear hw4 hF3 hb4 HWr
  go_wp2_with fail
  refine HPa.out.mono ?_
  rintro r w40 ⟨Ap, cp, rfl, _, _, hv40, hb40⟩
  have HB40 := hide (HB4.out.trans (hb40.mono HB4.out.size))
  have HF40 := hide (HF4.out.below hb40)
  have HE40 := hide (HE4.out.below hb40)
  rw [HE40.out.laid] at hv40
  have HP40 := hide hv40
  have HPb := hide (Path_any _ _ _ (n + 1) w40 (by rw [List.length_cons, Hfl.out]) (Hty.out.below HB40.out Hty.out.lt) HF40.out.chain (Or.inr (Or.inl ⟨code, rfl⟩)) HF40.out.nice (by omega))
  clear hb40 hv40 HPa HF4 HE4
  go_wp2_with fail
  refine HPb.out.mono ?_
  rintro r w41 ⟨Aq, cq, rfl, hq1, _, hv41, hb41⟩
  have HB41 := hide (HB40.out.trans (hb41.mono HB40.out.size))
  have HF41 := hide (HF40.out.below hb41)
  have HE41 := hide (HE40.out.below hb41)
  have HP41 := hide (HP40.out.keep hb41)
  have hlaid := HF41.out.laid
  rw [List.reverse_append] at hlaid
  have hv41' : Vec w41 w41.heap.size Aq (.string SP :: plcs l.reverse) := by
    rw [hlaid] at hv41
    rw [H3.out]
    exact hv41
  obtain ⟨bq, oq, rfl, _, _⟩ := hv41' (by simp)
  have HQ41 := hide hv41'
  have Hqc := hide hq1
  have hq2 : (1 : Int) ≤ (cq : Int) := by omega
  have hq3 : (1 : Int) ≤ (n : Int) + 1 := by omega
  have hq4 : (n : Int) + 1 ≤ (cq : Int) := by omega
  have hfi := First_any _ _ _ op (n + 1) w41 (by rw [List.length_cons, Hfl.out]) (Hty.out.below HB41.out Hty.out.lt) HF41.out.chain (Or.inr (Or.inl ⟨code, rfl⟩)) (by omega)
  rw [show pls ((w3.heap.size, op, at_) :: fs) = (op, at_) :: pls fs from rfl, fnd_yes (by simp)] at hfi
  have HFi := hide hfi
  clear hb41 hv41 hv41' hlaid hfi HPb HF40 HE40 HP40
  go_wp2_with fail
  refine HFi.out.mono ?_
  rintro r w5 ⟨rfl, hb5⟩
  have HB5 := hide (HB41.out.trans (hb5.mono HB41.out.size))
  have HF5 := hide (HF41.out.below hb5)
  have HE5 := hide (HE41.out.below hb5)
  have HQ5 := hide (HQ41.out.keep hb5)
  have HP5 := hide (HP41.out.keep hb5)
  have hld5 : w5.cell? ⟨bq, oq, none⟩ = some (.string SP) := vec_head HQ5.out
  clear hb5 HFi HF41 HE41 HQ41 HP41
  go_wp2_with fail
  obtain ⟨At, hAt⟩ : ∃ At : Option Addr, (if cq = 1 then some ⟨bq, oq, none⟩ else some ⟨bq, oq + 1, none⟩) = At := ⟨_, rfl⟩
  have HAt := hide hAt
  have hS0 : w5.drew.cell? ⟨bq, oq, none⟩ = some (.string SP) := hld5
  cases fs with
  | nil =>
    obtain rfl := HE5.out.chain
    have hll : l = [] := List.eq_nil_of_length_eq_zero HE5.out.len.symm
    have HTe' := hide (show TE = str (word code) by rw [HTe.out, hll]; rfl)
    clear hll HTe
    have HTe := HTe'
    clear HTe'
    go_region_held3 (fun W => W.cell? ⟨bq, oq, none⟩ = some (.string SP)) (first | exact hS0 | assumption) (first | (go_at_call 26; refine (HD.out w5.drew).mono ?_; rintro r w6 ⟨rfl, hb6'⟩; have hb6 := drew_below hb6'; have HB6 := hide (HB5.out.trans (hb6.mono HB5.out.size)); have HF6 := hide (HF5.out.below hb6); have HE6 := hide (HE5.out.below hb6); have HQ6 := hide (HQ5.out.keep hb6); have HP6 := hide (HP5.out.keep hb6); have hld6 : w6.cell? ⟨bq, oq, none⟩ = some (.string SP) := vec_head HQ6.out; clear hb6'; clear hb6 HF5 HE5 HQ5 HP5) | (go_at_call 18; refine (same_at HAt.out HQ6.out HP6.out Hqc.out Hl.out Hn.out).mono ?_; rintro r w7 ⟨rfl, hb7⟩; have HB7 := hide (HB6.out.trans (hb7.mono HB6.out.size)); have HF7 := hide (HF6.out.below hb7); have HE7 := hide (HE6.out.below hb7); have HQ7 := hide (HQ6.out.keep hb7); have HP7 := hide (HP6.out.keep hb7); have hld7 : w7.cell? ⟨bq, oq, none⟩ = some (.string SP) := vec_head HQ7.out; clear hb7 HF6 HE6 HQ6 HP6) | (go_at_call 12; refine (Code_any _ _ _ code w7 (Hty.out.below HB7.out Hty.out.lt) HF7.out.chain (Or.inr (Or.inl rfl)) Hff.out).mono ?_; rintro r w8 ⟨rfl, hb8⟩; have HB8 := hide (HB7.out.trans (hb8.mono HB7.out.size)); have HF8 := hide (HF7.out.below hb8); have HE8 := hide (HE7.out.below hb8); have HQ8 := hide (HQ7.out.keep hb8); have HP8 := hide (HP7.out.keep hb8); have hld8 : w8.cell? ⟨bq, oq, none⟩ = some (.string SP) := vec_head HQ8.out; clear hb8 HF7 HE7 HQ7 HP7) | (go_at_call 12; refine (Code_any _ _ _ code w8 (Hty.out.below HB8.out Hty.out.lt) HE8.out.chain (Or.inr (Or.inl rfl)) Hee.out).mono ?_; rintro r w9 ⟨rfl, hb9⟩; have HB9 := hide (HB8.out.trans (hb9.mono HB8.out.size)); have HF9 := hide (HF8.out.below hb9); have HE9 := hide (HE8.out.below hb9); have HQ9 := hide (HQ8.out.keep hb9); have HP9 := hide (HP8.out.keep hb9); have hld9 : w9.cell? ⟨bq, oq, none⟩ = some (.string SP) := vec_head HQ9.out; clear hb9 HF8 HE8 HQ8 HP8) | (go_at_call 25; refine (ErrF_any HF9.out (Hty.out.below HB9.out Hty.out.lt) Hfn.out HTf.out).mono ?_; rintro r w10 ⟨rfl, hb10⟩; have HB10 := hide (HB9.out.trans (hb10.mono HB9.out.size)); have HF10 := hide (HF9.out.below hb10); have HE10 := hide (HE9.out.below hb10); have HQ10 := hide (HQ9.out.keep hb10); have HP10 := hide (HP9.out.keep hb10); have hld10 : w10.cell? ⟨bq, oq, none⟩ = some (.string SP) := vec_head HQ10.out; clear hb10 HF9 HE9 HQ9 HP9) | (go_at_call 27; refine (Word_any code w10).mono ?_; rintro r w11 ⟨hr11, hb11⟩; rw [← HTe.out] at hr11; subst hr11; have HB11 := hide (HB10.out.trans (hb11.mono HB10.out.size)); have HF11 := hide (HF10.out.below hb11); have HE11 := hide (HE10.out.below hb11); have HQ11 := hide (HQ10.out.keep hb11); have HP11 := hide (HP10.out.keep hb11); have hld11 : w11.cell? ⟨bq, oq, none⟩ = some (.string SP) := vec_head HQ11.out; clear hb11 HF10 HE10 HQ10 HP10) | (go_at_call 22; refine (Is_chainN _ _ (.int .i64 code) code true w11 HF11.out.chain (fun W => by rw [eql_errno]; simp)).mono ?_; rintro r w12 ⟨rfl, rfl⟩))
    all_goals
      go_wp2
      go_ret
      exact ⟨rfl, HB11.out⟩
  | cons q r =>
    obtain ⟨p, o', m⟩ := q
    obtain rfl := HE5.out.chain.1
    have Hne := hide (show w3.heap.size ≠ p by
      obtain ⟨_, e', hp, _⟩ := HEa.out.chain
      have := heap_lt hp
      omega)
    go_region_held3 (fun W => W.cell? ⟨bq, oq, none⟩ = some (.string SP)) (first | exact hS0 | assumption) (first | (go_at_call 26; refine (HD.out w5.drew).mono ?_; rintro r w6 ⟨rfl, hb6'⟩; have hb6 := drew_below hb6'; have HB6 := hide (HB5.out.trans (hb6.mono HB5.out.size)); have HF6 := hide (HF5.out.below hb6); have HE6 := hide (HE5.out.below hb6); have HQ6 := hide (HQ5.out.keep hb6); have HP6 := hide (HP5.out.keep hb6); have hld6 : w6.cell? ⟨bq, oq, none⟩ = some (.string SP) := vec_head HQ6.out; clear hb6'; clear hb6 HF5 HE5 HQ5 HP5) | (go_at_call 18; refine (same_at HAt.out HQ6.out HP6.out Hqc.out Hl.out Hn.out).mono ?_; rintro r w7 ⟨rfl, hb7⟩; have HB7 := hide (HB6.out.trans (hb7.mono HB6.out.size)); have HF7 := hide (HF6.out.below hb7); have HE7 := hide (HE6.out.below hb7); have HQ7 := hide (HQ6.out.keep hb7); have HP7 := hide (HP6.out.keep hb7); have hld7 : w7.cell? ⟨bq, oq, none⟩ = some (.string SP) := vec_head HQ7.out; clear hb7 HF6 HE6 HQ6 HP6) | (go_at_call 12; refine (Code_any _ _ _ code w7 (Hty.out.below HB7.out Hty.out.lt) HF7.out.chain (Or.inr (Or.inl rfl)) Hff.out).mono ?_; rintro r w8 ⟨rfl, hb8⟩; have HB8 := hide (HB7.out.trans (hb8.mono HB7.out.size)); have HF8 := hide (HF7.out.below hb8); have HE8 := hide (HE7.out.below hb8); have HQ8 := hide (HQ7.out.keep hb8); have HP8 := hide (HP7.out.keep hb8); have hld8 : w8.cell? ⟨bq, oq, none⟩ = some (.string SP) := vec_head HQ8.out; clear hb8 HF7 HE7 HQ7 HP7) | (go_at_call 12; refine (Code_any _ _ _ code w8 (Hty.out.below HB8.out Hty.out.lt) HE8.out.chain (Or.inr (Or.inl rfl)) Hee.out).mono ?_; rintro r w9 ⟨rfl, hb9⟩; have HB9 := hide (HB8.out.trans (hb9.mono HB8.out.size)); have HF9 := hide (HF8.out.below hb9); have HE9 := hide (HE8.out.below hb9); have HQ9 := hide (HQ8.out.keep hb9); have HP9 := hide (HP8.out.keep hb9); have hld9 : w9.cell? ⟨bq, oq, none⟩ = some (.string SP) := vec_head HQ9.out; clear hb9 HF8 HE8 HQ8 HP8) | (go_at_call 25; refine (ErrF_any HF9.out (Hty.out.below HB9.out Hty.out.lt) Hfn.out HTf.out).mono ?_; rintro r w10 ⟨rfl, hb10⟩; have HB10 := hide (HB9.out.trans (hb10.mono HB9.out.size)); have HF10 := hide (HF9.out.below hb10); have HE10 := hide (HE9.out.below hb10); have HQ10 := hide (HQ9.out.keep hb10); have HP10 := hide (HP9.out.keep hb10); have hld10 : w10.cell? ⟨bq, oq, none⟩ = some (.string SP) := vec_head HQ10.out; clear hb10 HF9 HE9 HQ9 HP9) | (go_at_call 25; refine (ErrF_any HE10.out (Hty.out.below HB10.out Hty.out.lt) Hen.out HTe.out).mono ?_; rintro r w11 ⟨rfl, hb11⟩; have HB11 := hide (HB10.out.trans (hb11.mono HB10.out.size)); have HF11 := hide (HF10.out.below hb11); have HE11 := hide (HE10.out.below hb11); have HQ11 := hide (HQ10.out.keep hb11); have HP11 := hide (HP10.out.keep hb11); have hld11 : w11.cell? ⟨bq, oq, none⟩ = some (.string SP) := vec_head HQ11.out; clear hb11 HF10 HE10 HQ10 HP10) | (go_at_call 22; refine (is_step HF11.out HE11.out rfl Hne.out).mono ?_; rintro r w12 ⟨rfl, rfl⟩))
    all_goals
      go_wp2
      go_ret
      exact ⟨rfl, HB11.out⟩

theorem Wraps_walk (A : Option Addr) (n c : Nat) (l : List Pl) (code : Int) (op : ByteArray) (at_ : Int) (w : World) (hty : Ety w) (htab : Tab10 w) (hl : l.length = n) (hp : Pls w w.heap.size A l) (hf : Fit l) (_ : (Lit.int .i64 code).wf = true) (_ : op.size ≤ maxLen) (hat : (Lit.int .i64 at_).wf = true) :
    Calls Tryd.prog 7 #[.slice A n c, .int .i64 code, .string op, .int .i64 at_] w fun e w' => e = .returned (.bool true) ∧ Below w.heap.size w w' := by
  have h5 := bounds_i64 hat
  by_cases hfew : Few l
  · rcases Nat.lt_or_ge 200 op.size with h | h
    · exact Wraps_out A n c l code at_ op w hty hl hp hf (Or.inr (Or.inl h))
    · by_cases hc : code = 0
      · exact Wraps_out A n c l code at_ op w hty hl hp hf (Or.inr (Or.inr hc))
      · exact Wraps_in A n c l code at_ op w hty htab (by unfold Int64; omega) hl hp hf hfew hc h
  · exact Wraps_out A n c l code at_ op w hty hl hp hf (Or.inl hfew)

end Go.Proofs.YtknnalcnoccleaaDoor.Fa
