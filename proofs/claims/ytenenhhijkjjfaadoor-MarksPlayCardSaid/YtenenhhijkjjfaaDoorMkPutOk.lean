/-
  The contract of a table's Put of a volume's marker: the volume has it from then on.
-/
import Derived.Test.YtenenhhijkjjfaaDoorMkPut
namespace Go.Proofs.YtenenhhijkjjfaaDoor.Mk
open Go.RowKit Go.Maps
open Pk Dk Wn Lk

/-- A map beside nil. -/
theorem eqlIn_map {t k e : TypeId} (d : Nat) (w : World) (r : Option Nat) (h : Tryd.prog.underlying t = some (.map k e)) : (Op.equalIn (d + 1) t (.map r) (.map none)).run Tryd.prog w = .ok r.isNone w := by
  cases r <;> simp [Op.equalIn, run_underlying h]
theorem eql_map {t k e : TypeId} (h : Tryd.prog.underlying t = some (.map k e)) (w : World) (r : Option Nat) : (binOp .eql t (.map r) (.map none)).run Tryd.prog w = .ok (.bool r.isNone) w := by
  simp only [binOp]
  simp [show Op.equal t (.map r) (.map none) = Op.equalIn (9999 + 1) t (.map r) (.map none) from rfl, eqlIn_map 9999 w r h]
theorem neq_map {t k e : TypeId} (h : Tryd.prog.underlying t = some (.map k e)) (w : World) (r : Option Nat) : (binOp .neq t (.map r) (.map none)).run Tryd.prog w = .ok (.bool r.isSome) w := by
  simp only [binOp]
  simp [show Op.equal t (.map r) (.map none) = Op.equalIn (9999 + 1) t (.map r) (.map none) from rfl, eqlIn_map 9999 w r h]
section
variable {p n : Nat} {mb : Option Nat} {F : Int → Option Nat} {A : Int → List Int} {w w' : World} {G : Nat → Prop}
/-- What a Put leaves. -/
def PutR (p : Nat) (A : Int → List Int) (n : Nat) (v m : Int) (w : World) (G : Nat → Prop) (w' : World) : Prop := After (tblT p (put A v m) (n + 1)) w G w'
set_option maxRecDepth 100000 in
set_option maxHeartbeats 2000000 in
/-- The volume has a set. -/
theorem Put_has (h : TblF p mb F A n w G) {v m : Int} (hv : 0 ≤ v ∧ v < 4) (hm : 1 ≤ m ∧ m ≤ 9223372036854775807) {b : Nat} (hF : F v = some b) (hn : n < 1000000) :
    Calls Tryd.prog 6 #[.pointer (some ⟨p, 0, none⟩), .int .i64 v, .int .i64 m] w fun e w' => e = .returned .nilIface ∧ PutR p A n v m w G w' := by
  obtain ⟨bo, rfl⟩ : ∃ bo, mb = some bo := by
    cases mb with
    | none => have := h.bare rfl v; rw [hF] at this; cases this
    | some bo => exact ⟨bo, rfl⟩
  have hmm := @run_makeMap Tryd.prog
  have qo := eql_map Tryd.underlying26
  have qs := eql_map Tryd.underlying55
  have hV := isVolume_any v w
  rw [decide_eq_true hv] at hV
  have HV := hide hV
  have hm1 : ¬ m < 1 := by omega
  have c0 := h.cell
  have hl := h.look (I64.vol hv)
  rw [hF] at hl
  obtain ⟨w2, hrun, hT, hk⟩ := h.store hv hm hF (by unfold maxLen; omega)
  have HR : Hid (PutR p A n v m w G w2) := ⟨G, ⟨_, _, hT⟩, Grew.refl _ _, hk⟩
  clear h hT hk hv hm hV hF hn
  go_enter Tryd.func6, Tryd.ntmps6
  go_wp2_with fail
  refine HV.out.mono ?_
  rintro e w' ⟨rfl, rfl⟩
  clear HV
  go_wp2
  go_ret
  exact ⟨rfl, HR.out⟩
set_option maxRecDepth 100000 in
set_option maxHeartbeats 2000000 in
/-- The volume gets one. -/
theorem Put_new {bo : Nat} (h : TblF p (some bo) F A n w G) {v m : Int} (hv : 0 ≤ v ∧ v < 4) (hm : 1 ≤ m ∧ m ≤ 9223372036854775807) (hF : F v = none) (hn : n < 1000000) :
    Calls Tryd.prog 6 #[.pointer (some ⟨p, 0, none⟩), .int .i64 v, .int .i64 m] w fun e w' => e = .returned .nilIface ∧ PutR p A (n + 1) v m w G w' := by
  have hmm := @run_makeMap Tryd.prog
  have qo := eql_map Tryd.underlying26
  have qs := eql_map Tryd.underlying55
  have hV := isVolume_any v w
  rw [decide_eq_true hv] at hV
  have HV := hide hV
  have hm1 : ¬ m < 1 := by omega
  have c0 := h.cell
  have hl := h.look (I64.vol hv)
  rw [hF] at hl
  obtain ⟨w2, hrun, G2, hT, hg, hk⟩ := h.newset (I64.vol hv) hF (by unfold maxLen; omega)
  have c2 := hT.cell
  have hl2 := hT.look (I64.vol hv)
  rw [if_pos rfl] at hl2
  obtain ⟨w3, hrun3, hT3, hk3⟩ := hT.store hv hm (if_pos rfl) (by unfold maxLen; omega)
  have HR : Hid (PutR p A (n + 1) v m w G w3) := ⟨G2, ⟨_, _, hT3⟩, hg, hk.trans hg hk3⟩
  clear h hT hk hk3 hT3 hg hv hm hV hF hn
  go_enter Tryd.func6, Tryd.ntmps6
  go_wp2_with fail
  refine HV.out.mono ?_
  rintro e w' ⟨rfl, rfl⟩
  clear HV
  go_wp2
  go_ret
  exact ⟨rfl, HR.out⟩
set_option maxRecDepth 100000 in
set_option maxHeartbeats 2000000 in
/-- The table gets its map, the volume its set. -/
theorem Put_first (h : TblF p none F A n w G) {v m : Int} (hv : 0 ≤ v ∧ v < 4) (hm : 1 ≤ m ∧ m ≤ 9223372036854775807) (hn : n < 1000000) :
    Calls Tryd.prog 6 #[.pointer (some ⟨p, 0, none⟩), .int .i64 v, .int .i64 m] w fun e w' => e = .returned .nilIface ∧ PutR p A (n + 1) v m w G w' := by
  have hmm := @run_makeMap Tryd.prog
  have qo := eql_map Tryd.underlying26
  have qs := eql_map Tryd.underlying55
  have hV := isVolume_any v w
  rw [decide_eq_true hv] at hV
  have HV := hide hV
  have hm1 : ¬ m < 1 := by omega
  have c0 := h.cell
  have f0 := h.frozen
  have hpl := h.lt p h.mine
  have hF := h.bare rfl v
  obtain ⟨G1, h1, hg1, hk1⟩ := h.make
  obtain ⟨w1, hw1⟩ : ∃ w1, (w.alloc (.map #[] 0)).setCell ⟨p, 0, none⟩ (.map (some w.heap.size)) = w1 := ⟨_, rfl⟩
  rw [hw1] at h1 hk1
  have c1 := h1.cell
  have hl := h1.look (I64.vol hv)
  rw [hF] at hl
  obtain ⟨w2, hrun, G2, hT, hg, hk⟩ := h1.newset (I64.vol hv) hF (by unfold maxLen; omega)
  have c2 := hT.cell
  have hl2 := hT.look (I64.vol hv)
  rw [if_pos rfl] at hl2
  obtain ⟨w3, hrun3, hT3, hk3⟩ := hT.store hv hm (if_pos rfl) (by unfold maxLen; omega)
  have HR : Hid (PutR p A (n + 1) v m w G w3) := ⟨G2, ⟨_, _, hT3⟩, Grew.trans hk1.size hg1 hg, hk1.trans hg1 (hk.trans hg hk3)⟩
  have b1 : Below w.heap.size w (w.alloc (.map #[] 0)) := (Below.refl _ _).alloc (Nat.le_refl _) _
  have c0' := (b1.cell (p := ⟨p, 0, none⟩) hpl).trans c0
  have f0' : (w.alloc (.map #[] 0)).frozen? ⟨p, 0, none⟩ = false := by
    have := (b1.block p hpl).trans h.box
    simp [World.frozen?, this]
  clear h hT hk hk3 hT3 hg hv hm hV hF hn h1 hg1 hk1 b1 hpl
  go_enter Tryd.func6, Tryd.ntmps6
  go_wp2_with fail
  refine HV.out.mono ?_
  rintro e w' ⟨rfl, rfl⟩
  clear HV
  go_wp2
  go_ret
  exact ⟨rfl, HR.out⟩
theorem TblF.wide (h : After (tblT p A n) w G w') {n' : Nat} (hn : n ≤ n') : After (tblT p A n') w G w' := by
  obtain ⟨G1, ⟨mb, F, h1⟩, h2, h3⟩ := h
  exact ⟨G1, ⟨mb, F, h1.mono hn⟩, h2, h3⟩
/-- A marker of a volume. -/
theorem Put_ok (h : Tbl p A n w G) {v m : Int} (hv : 0 ≤ v ∧ v < 4) (hm : 1 ≤ m ∧ m ≤ 9223372036854775807) (hn : n < 1000000) :
    Calls Tryd.prog 6 #[.pointer (some ⟨p, 0, none⟩), .int .i64 v, .int .i64 m] w fun e w' => e = .returned .nilIface ∧ After (tblT p (put A v m) (n + 2)) w G w' := by
  obtain ⟨mb, F, h⟩ := h
  have up : ∀ w', PutR p A n v m w G w' → After (tblT p (put A v m) (n + 2)) w G w' := fun w' ⟨G1, ⟨mb, F, h1⟩, h2, h3⟩ => ⟨G1, ⟨mb, F, h1.mono (by omega)⟩, h2, h3⟩
  cases e : F v with
  | some b => exact (Put_has h hv hm e hn).mono fun e w' ⟨h1, h2⟩ => ⟨h1, up w' h2⟩
  | none =>
    cases mb with
    | none => exact Put_first h hv hm hn
    | some bo => exact Put_new h hv hm e hn
end

end Go.Proofs.YtenenhhijkjjfaaDoor.Mk
