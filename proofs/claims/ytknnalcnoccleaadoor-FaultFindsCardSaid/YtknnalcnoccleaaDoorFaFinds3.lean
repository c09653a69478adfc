/-
  Proved: for every l, code and other the call FaultFinds(l, code, other) returns true and changes no argument: the library finds the number in a wrapped error, and no other one, and the outermost fault; and so does Is. Condition: the library's variable errors.errorType holds its own type's handle.
-/
import Derived.Test.YtknnalcnoccleaaDoorFaFinds2
import Derived.BigQuiet
namespace Go.Proofs.YtknnalcnoccleaaDoor.Fa
open Go.RowKit Go.Deep
open Pk Sm

/-- The model's look ahead of '!=' lets an error that is not nil by. -/
theorem guard_self {w : World} {fs : List Flt} {e : Value} {k : Int} (h : Chain w fs e (.iface 28 (.int .i64 k))) (x y : Operand) (W : World) : (eqGuard .neq 26 x y e e).run Tryd.prog W = .ok () W := by
  cases fs with
  | nil =>
    obtain rfl := h
    simp [eqGuard]
  | cons q r =>
    obtain ⟨rfl, _⟩ := h
    simp [eqGuard]

set_option maxHeartbeats 2000000 in
theorem Finds_in (A : Option Addr) (n c : Nat) (l : List Pl) (code other : Int) (w : World) (hty : Ety w) (hl : l.length = n) (hp : Pls w w.heap.size A l) (hf : Fit l) (hfew : Few l) (hcode : ¬ code = 0) :
    Calls Tryd.prog 4 #[.slice A n c, .int .i64 code, .int .i64 other] w fun e w' => e = .returned (.bool true) ∧ Below w.heap.size w w' := by
  have hn : n ≤ 50 := by rw [← hl]; exact hfew.1
  have HA := hide (awake_any w hty)
  have HF := hide fun (w1 : World) (hb : Below w.heap.size w w1) => few_any A n c l w1 hl ((hp.below hb).more hb.size) hf
  have HM := hide fun (w1 : World) (hb : Below w.heap.size w w1) => made_num A n c l code w1 hl hn ((hp.below hb).more hb.size) hcode
  have Hfew := hide hfew
  have Hty := hide hty
  have Hl := hide hl
  have Hp := hide hp
  have H0 := hide hcode
  have hc0 : (code == 0) = false := by simpa using hcode
  clear hty hl hp hf hfew hcode
  go_enter Tryd.func4, Tryd.ntmps4
  go_wp2_with fail
  refine HA.out.mono ?_
  rintro r w1 ⟨rfl, hb1⟩
  go_wp2_with fail
  refine (HF.out w1 hb1).mono ?_
  rintro r w2 ⟨⟨b, rfl, hb⟩, rfl⟩
  obtain rfl : b = true := hb.2 Hfew.out
  have HB := hide hb1
  have HM2 := hide (HM.out w2 hb1)
  clear hb hb1 HA HF HM
  go_wp2_with fail
  refine HM2.out.mono ?_
  rintro r w3 ⟨e, rfl, hR, ⟨fs, hch, hlaid⟩, hb3⟩
  rw [List.take_of_length_le (by rw [Hl.out]; exact Nat.le_refl _)] at hlaid
  have HB3 := hide (HB.out.trans (hb3.mono HB.out.size))
  have HCH := hide hch
  have HLD := hide hlaid
  have hb4 : Below w3.heap.size w3 ((w3.alloc (.cells #[.pointer none] 41)).alloc (.cells #[.int .i64 0] 28)) := ((Below.refl _ _).alloc (Nat.le_refl _) _).alloc (by simp) _
  have hty4 := Hty.out.below (HB3.out.trans (hb4.mono HB3.out.size)) Hty.out.lt
  have hg1 : ((w3.alloc (.cells #[.pointer none] 41)).alloc (.cells #[.int .i64 0] 28)).heap[w3.heap.size]? = some (.cells #[.pointer none] 41 (0, 0)) := by
    rw [heap_alloc_old _ _ (r := w3.heap.size) (by simp)]
    exact heap_alloc_new w3 _
  have hg2 : ((w3.alloc (.cells #[.pointer none] 41)).alloc (.cells #[.int .i64 0] 28)).heap[w3.heap.size + 1]? = some (.cells #[.int .i64 0] 28 (0, 0)) := by
    have := heap_alloc_new (w3.alloc (.cells #[.pointer none] 41)) (.cells #[.int .i64 0] 28)
    simpa using this
  have HAS := hide (As_chain fs e code (w3.heap.size + 1) (.int .i64 0) _ hty4 (hch.below (Nat.le_refl _) hb4) hg2)
  have HG1 := hide hg1
  have HB4 := hide hb4
  clear hch hlaid hb3 hb4 hty4 hg1 hg2 HM2 hR
  go_wp2_with fail
  refine HAS.out.mono ?_
  rintro r w5 ⟨rfl, hg2, hgr⟩
  have hcn := one_cell hg2
  have hg1 : w5.heap[w3.heap.size]? = some (.cells #[.pointer none] 41 (0, 0)) := (hgr.block w3.heap.size (by simp; omega) (by simp)).trans HG1.out
  have HB5 := hide (Below.grown HB4.out hgr (by simp; omega) (fun k hk => by cases hk; omega))
  have hch5 := HCH.out.below (Nat.le_refl _) HB5.out
  have hty5 := Hty.out.below (HB3.out.trans (HB5.out.mono HB3.out.size)) Hty.out.lt
  have hlen : fs.length = n := by rw [HLD.out.length, Hl.out]
  have Hlen := hide hlen
  clear HAS hg2 hgr HG1 HB4 hlen
  cases fs with
  | nil =>
    obtain rfl := hch5
    obtain rfl : 0 = n := Hlen.out
    have HAS2 := hide (As_missFN (.int .i64 code) w3.heap.size (.pointer none) w5 hty5 hg1)
    clear hg1 hty5
    go_wp2_with fail
    refine HAS2.out.mono ?_
    rintro r w6 ⟨rfl, hb6⟩
    have HB6 := hide (HB3.out.trans ((HB5.out.trans (hb6.mono HB5.out.size)).mono HB3.out.size))
    clear HAS2 hb6 hcn
    go_wp2_with fail
    go_quiet (fail)
    have hbq : Below w6.heap.size w6 (w6.drewN nq) := ⟨rfl, rfl, rfl, Nat.le_refl _, fun _ _ => rfl⟩
    have HBq := hide (HB6.out.trans (hbq.mono HB6.out.size))
    clear hbq
    generalize w6.drewN nq = w7 at HBq ⊢
    have HI := hide (Is_chainN [] _ (.int .i64 code) other (code == other) w7 rfl (fun W => eql_errno code other W))
    go_wp2_with fail
    refine HI.out.mono ?_
    rintro r w8 ⟨rfl, rfl⟩
    have HJ := hide (FIs_num [] _ code other w8 H0.out (Hty.out.below HBq.out Hty.out.lt) rfl (by simp))
    go_wp2_with fail
    refine HJ.out.mono ?_
    rintro r w9 ⟨rfl, hb9⟩
    have HB9 := hide (HBq.out.trans (hb9.mono HBq.out.size))
    clear hb9
    go_wp2
    go_ret
    exact ⟨rfl, HB9.out⟩
  | cons q r =>
    obtain ⟨p, op, m⟩ := q
    obtain ⟨rfl, e', hp5, hr5⟩ := hch5
    obtain ⟨_, e'', hp3, hr3⟩ : _ = _ ∧ ∃ e'', w3.heap[p]? = some (.cells #[.string op, .int .i64 m, e''] 46 (0, 0)) ∧ Chain w3 r e'' _ := HCH.out
    have hlt := heap_lt hp3
    obtain rfl : e'' = e' := by
      have := (HB5.out.block p hlt).symm.trans hp5
      rw [hp3] at this
      simpa using this
    have hq := HLD.out.head rfl
    obtain ⟨mm, hmm⟩ : ∃ mm, n = mm + 1 := ⟨r.length, by rw [← Hlen.out]; rfl⟩
    subst hmm
    rw [Hl.out] at hq
    have HAS2 := hide (As_hitF ⟨p, 0, none⟩ w3.heap.size (.pointer none) w5 hty5 hg1)
    have hneq := neq_self hr5
    have hgd := guard_self hr5
    have Hq := hide hq
    have Hp3 := hide hp3
    have Hlt := hide hlt
    clear hg1 hty5 hp5 hr5 hp3 hr3 hq hlt
    go_wp2_with fail
    refine HAS2.out.mono ?_
    rintro r' w6 ⟨rfl, hg6, hgr6⟩
    have hcf := one_cell hg6
    have hsz := HB5.out.size
    have HB6 := hide (Below.grown HB5.out hgr6 hsz (fun k hk => by cases hk; exact Nat.le_refl _))
    have hp6 := (HB6.out.block p Hlt.out).trans Hp3.out
    have hc0 : w6.cell? ⟨p, 0, none⟩ = some (.string op) := by simp [World.cell?, hp6]
    have hc1 : w6.cell? ⟨p, 1, none⟩ = some (.int .i64 m) := by simp [World.cell?, hp6]
    have hc2 : w6.cell? ⟨p, 2, none⟩ = some e'' := by simp [World.cell?, hp6]
    have hbw := HB3.out.trans (HB6.out.mono HB3.out.size)
    obtain ⟨b, o, rfl, hl0, hl1⟩ := (Hp.out.below hbw).at_ Hq.out
    have HU := hide fun (k : Nat) => Unwrap_any p op m e'' (w6.drewN k) hp6
    have HBW := hide hbw
    have hl0' : w6.cell? ⟨b, o + mm * 2, none⟩ = some (.string op) := by simpa using hl0
    have hl1' : w6.cell? ⟨b, o + mm * 2 + 1, none⟩ = some (.int .i64 m) := by simpa using hl1
    clear HAS2 hcn hg6 hgr6 hsz hp6 hbw hl0 hl1
    have hw1 : IntKind.i64.wrap (mm : Int) = (mm : Int) := by rw [IntKind.wrap_i64]; omega
    have hw2 : IntKind.i64.wrap ((mm : Int) + 1 - 1) = (mm : Int) := by rw [IntKind.wrap_i64]; omega
    have hi0 : (0 : Int) ≤ (mm : Int) := by omega
    have hi1 : (mm : Int) < (mm : Int) + 1 := by omega
    go_wp2_with fail
    go_quiet (first | (go_at_call 21; exact Calls.quiet_of_same (HU.out _)))
    have hbq : Below w6.heap.size w6 (w6.drewN nq) := ⟨rfl, rfl, rfl, Nat.le_refl _, fun _ _ => rfl⟩
    have HBq := hide (HBW.out.trans (hbq.mono HBW.out.size))
    have HCq := hide (HCH.out.below (Nat.le_refl _) (HB6.out.trans (hbq.mono HB6.out.size)))
    clear hbq hcf hc0 hc1 hc2 hl0' hl1' hneq hgd hi0 hi1 hw1 hw2
    generalize w6.drewN nq = w7 at HBq HCq ⊢
    have HI := hide (Is_chainN _ _ (.int .i64 code) other (code == other) w7 HCq.out (fun W => eql_errno code other W))
    go_wp2_with fail
    refine HI.out.mono ?_
    rintro r' w8 ⟨rfl, rfl⟩
    have HJ := hide (FIs_num _ _ code other w8 H0.out (Hty.out.below HBq.out Hty.out.lt) HCq.out (by have := Hlen.out; omega))
    go_wp2_with fail
    refine HJ.out.mono ?_
    rintro r' w9 ⟨rfl, hb9⟩
    have HB9 := hide (HBq.out.trans (hb9.mono HBq.out.size))
    clear hb9
    go_wp2
    go_ret
    exact ⟨rfl, HB9.out⟩

theorem Finds_walk (A : Option Addr) (n c : Nat) (l : List Pl) (code other : Int) (w : World) (hty : Ety w) (hl : l.length = n) (hp : Pls w w.heap.size A l) (hf : Fit l) :
    Calls Tryd.prog 4 #[.slice A n c, .int .i64 code, .int .i64 other] w fun e w' => e = .returned (.bool true) ∧ Below w.heap.size w w' := by
  by_cases hfew : Few l
  · by_cases hc : code = 0
    · exact Finds_out A n c l code other w hty hl hp hf (Or.inr hc)
    · exact Finds_in A n c l code other w hty hl hp hf hfew hc
  · exact Finds_out A n c l code other w hty hl hp hf (Or.inl hfew)

end Go.Proofs.YtknnalcnoccleaaDoor.Fa
