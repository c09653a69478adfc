/-
  What the statements' own made returns: an error of a number, wrapped at places one after the other, in memory. Nothing below is changed. Conditions: in each.
-/
import Derived.Test.YtknnalcnoccleaaDoorFaPlaces
namespace Go.Proofs.YtknnalcnoccleaaDoor.Fa
open Go.RowKit
open Pk Sm

/-- The faults of places that were wrapped one after the other: the last one is the outermost. -/
def Laid (fs : List Flt) (l : List Pl) : Prop := fs.map (·.2) = l.reverse
theorem Laid.length {fs : List Flt} {l : List Pl} (h : Laid fs l) : fs.length = l.length := by
  have := congrArg List.length h
  simpa using this
theorem Laid.nice {w : World} {fs : List Flt} {l : List Pl} (h : Laid fs l) (hs : Shorts l) (hd : ∀ q ∈ l, Dig w q.2) : Nice w fs := fun f hf => by
  have hm : f.2 ∈ l := by
    have : f.2 ∈ fs.map (·.2) := List.mem_map_of_mem hf
    rw [h] at this
    exact List.mem_reverse.1 this
  exact ⟨hs _ hm, hd _ hm⟩

/-- The loop's state in made: so many places are around. -/
def Mad (w : World) (l : List Pl) (i : Value) (k : Nat) (e : Value) (wr : World) : Prop :=
  Real e ∧ (∃ fs, Chain wr fs e i ∧ Laid fs (l.take k)) ∧ Below w.heap.size w wr
theorem Mad.next {w wr : World} {l : List Pl} {i e : Value} {k : Nat} {q : Pl} (h : Mad w l i k e wr) (hq : l[k]? = some q) :
    Mad w l i (k + 1) (.iface 41 (.pointer (some ⟨wr.heap.size, 0, none⟩))) (wr.alloc (.cells #[.string q.1, .int .i64 q.2, e] 46)) := by
  obtain ⟨_, ⟨fs, hc, hl⟩, hb⟩ := h
  refine ⟨Real.flt _, ⟨_, hc.wrap q.1 q.2, ?_⟩, hb.alloc hb.size _⟩
  unfold Laid
  rw [take_snoc l k q hq, List.reverse_append, List.map_cons, hl]
  rfl
theorem Mad.drew {w wr : World} {l : List Pl} {i e : Value} {k : Nat} (h : Mad w l i k e wr) : Mad w l i k e wr.drew := by
  obtain ⟨h1, ⟨fs, hc, hl⟩, hb⟩ := h
  exact ⟨h1, ⟨fs, hc.below (Nat.le_refl _) ((Below.refl _ _).drew), hl⟩, hb.drew⟩

set_option maxHeartbeats 2000000 in
theorem made_num (A : Option Addr) (n c : Nat) (l : List Pl) (code : Int) (w : World) (hl : l.length = n) (hn : n ≤ 50) (hp : Pls w w.heap.size A l) (h0 : ¬ code = 0) :
    Calls Tryd.prog 11 #[.slice A n c, .int .i64 code] w fun r w' => ∃ e, r = .returned e ∧ Mad w l (.iface 28 (.int .i64 code)) n e w' := by
  have Hl := hide hl
  have Hp := hide hp
  have hb : (code != 0) = true := by simpa using h0
  have H0 := hide h0
  clear hl hp h0
  go_enter Tryd.func11, Tryd.ntmps11
  go_wp2_with fail
  go_loopw [5, 13] (fun e i wr => ∃ k : Nat, k ≤ n ∧ i = .int .i64 k ∧ Hid (Mad w l (.iface 28 (.int .i64 code)) k e wr)) (fun _ i _ => n - (intOf i).toNat)
  case atStart => exact ⟨0, Nat.zero_le _, rfl, Real.num H0.out, ⟨[], rfl, rfl⟩, Below.refl _ _⟩
  case round =>
    obtain ⟨k, hk, rfl, hM⟩ := hrel
    rcases Nat.lt_or_ge k n with hlt | hge
    · obtain ⟨q, hqk⟩ : ∃ q, l[k]? = some q := ⟨_, List.getElem?_eq_getElem (by rw [Hl.out]; exact hlt)⟩
      obtain ⟨b, o, rfl, hc0, hc1⟩ := (Hp.out.below hM.out.2.2).at_ hqk
      have HW := hide (Wrap_real q.1 q.2 _ wr.drew hM.out.1)
      have HN := hide (hM.out.next hqk).drew
      clear hqk
      go_wp2_with fail
      go_region_with (go_at_call 24; refine HW.out.mono ?_; rintro r w1 ⟨rfl, rfl⟩)
      all_goals
        go_wp2
        go_roundw
        case rel => exact ⟨k + 1, by omega, by go_num, HN.out⟩
        case measure => simp [intOf]; omega
    · obtain rfl : k = n := by omega
      go_wp2
      go_ret
      exact ⟨_, rfl, hM.out⟩

set_option maxHeartbeats 2000000 in
theorem made_zero (A : Option Addr) (n c : Nat) (l : List Pl) (w : World) (hl : l.length = n) (hn : n ≤ 50) (hp : Pls w w.heap.size A l) :
    Calls Tryd.prog 11 #[.slice A n c, .int .i64 0] w fun r w' => r = .returned .nilIface ∧ Below w.heap.size w w' := by
  have Hl := hide hl
  have Hp := hide hp
  clear hl hp
  go_enter Tryd.func11, Tryd.ntmps11
  go_wp2_with fail
  go_loopw [5, 13] (fun e i wr => ∃ k : Nat, k ≤ n ∧ i = .int .i64 k ∧ e = .nilIface ∧ Hid (Below w.heap.size w wr)) (fun _ i _ => n - (intOf i).toNat)
  case atStart => exact ⟨0, Nat.zero_le _, rfl, rfl, Below.refl _ _⟩
  case round =>
    obtain ⟨k, hk, rfl, rfl, hM⟩ := hrel
    rcases Nat.lt_or_ge k n with hlt | hge
    · obtain ⟨q, hqk⟩ : ∃ q, l[k]? = some q := ⟨_, List.getElem?_eq_getElem (by rw [Hl.out]; exact hlt)⟩
      obtain ⟨b, o, rfl, hc0, hc1⟩ := (Hp.out.below hM.out).at_ hqk
      have HW := hide (Wrap_nil q.1 q.2 wr.drew)
      have HN := hide hM.out.drew
      clear hqk
      go_wp2_with fail
      go_region_with (go_at_call 24; refine HW.out.mono ?_; rintro r w1 ⟨rfl, rfl⟩)
      all_goals
        go_wp2
        go_roundw
        case rel => exact ⟨k + 1, by omega, by go_num, rfl, HN.out⟩
        case measure => simp [intOf]; omega
    · obtain rfl : k = n := by omega
      go_wp2
      go_ret
      exact ⟨rfl, hM.out⟩

end Go.Proofs.YtknnalcnoccleaaDoor.Fa
