/-
  The document's group among other things in memory: one contract for each of its calls; a group's bytes as a slice. Plain consequences of the calls' own contracts.
-/
import Derived.Test.YthoflpjmdhabmaaDoorMbRDec
import Derived.Test.YthoflpjmdhabmaaDoorMbDec
namespace Go.Proofs.YthoflpjmdhabmaaDoor.Mb
open Go.RowKit
open Pk hiding str str_data str_size str_of run_str str_append
open Sm hiding run_str
open Fa Dk Wn Lk

section
variable {w0 w w' : World} {Ts : List Thg} {i p s : Nat} {L : List Ch}
theorem S_rlast (h : St w0 Ts w) (hi : Ts[i]? = some (rgrpT p s L)) (hF : Fine s L) : Calls Tryd.prog 15 #[.pointer (some ⟨p, 0, none⟩)] w fun e w' => e = .returned (.int .i64 (last L)) ∧ St w0 Ts w' :=
  Lk.St.read (R := fun e _ => e = .returned (.int .i64 (last L))) h hi fun _ hp => RLast_any hp hF.len
theorem S_rat (h : St w0 Ts w) (hi : Ts[i]? = some (rgrpT p s L)) (hF : Fine s L) (mark : Int) : Calls Tryd.prog 18 #[.pointer (some ⟨p, 0, none⟩), .int .i64 mark] w fun e w' => RowR w0 Ts (vols (atS s L mark) 4) e w' := by
  obtain ⟨G, hp, _, _⟩ := St.opened h hi
  refine (RAt_any hp hF mark).mono ?_
  rintro e w' ⟨v, rfl, hI, hb⟩
  obtain ⟨VA, c, rfl, hS⟩ := St.ints h hI hb
  exact ⟨VA, c, rfl, hS⟩
/-- The document's group in its own blocks alone: no fault lies there. -/
theorem Rgp.tight {w : World} {G : Nat → Prop} {p s : Nat} {L : List Ch} (h : (rgrpT p s L).P w G) : ∃ G', (rgrpT p s L).P w G' ∧ (∀ k, G' k → G k) ∧ ∀ q r k, Flt w q r k → ¬ G' q := by
  obtain ⟨X, hx⟩ := h
  have hbox := One.box hx
  have hrow := One.row hx
  obtain ⟨G0, hb, hG0, _⟩ := All.opened hx (j := 0) rfl
  obtain ⟨G1, hr, hG1, _⟩ := All.opened hx (j := 1) rfl
  have hb' : Blk p _ _ w G0 := hb
  have hr' : Row _ _ X _ _ w G1 := hr
  have hty : ∀ g, X.ownBlock = some g → ∃ cur, w.heap[g]? = some (.cells cur 72 (0, 0)) := fun g hg => by
    rcases hrow.2 with ⟨rfl, _⟩ | ⟨g', o, cap, cur, rfl, hc, _⟩
    · simp [Value.ownBlock] at hg
    · simp only [Value.ownBlock, Option.some.injEq] at hg
      subst hg
      exact ⟨cur, hc⟩
  have hne : ∀ g, X.ownBlock = some g → g ≠ p := fun g hg e => by
    obtain ⟨cur, hc⟩ := hty g hg
    rw [e, hbox] at hc
    simp at hc
  refine ⟨fun k => (if k = p then 1 else if X.ownBlock = some k then 2 else 0) ≠ 0, ⟨X, ⟨_, fun k => Iff.rfl, fun k hk => ?_, fun i T hi => ?_⟩⟩, fun k hk => ?_, fun q r k hf hq => ?_⟩
  · by_cases h1 : k = p
    · rw [h1]; exact One.lt hx
    · by_cases h2 : X.ownBlock = some k
      · exact hrow.lt k h2
      · simp [h1, h2] at hk
  · match i, hi with
    | 0, hi =>
      simp at hi
      subst hi
      refine ⟨hbox, fun k => ?_⟩
      by_cases h1 : k = p
      · simp [h1]
      · by_cases h2 : X.ownBlock = some k <;> simp [h1, h2]
    | 1, hi =>
      simp at hi
      subst hi
      refine ⟨hrow, fun k hk => ?_, fun k hk => ?_⟩
      · have := hne k hk
        simp [this, hk]
      · by_cases h1 : k = p
        · simp [h1] at hk
        · by_cases h2 : X.ownBlock = some k
          · exact hrow.lt k h2
          · simp [h1, h2] at hk
    | i + 2, hi => simp at hi
  · by_cases h1 : k = p
    · exact hG0 k ((hb'.own k).2 h1)
    · by_cases h2 : X.ownBlock = some k
      · exact hG1 k (hr'.own k h2)
      · simp [h1, h2] at hk
  · unfold Flt at hf
    by_cases h1 : q = p
    · rw [h1, hbox] at hf
      simp at hf
    · simp only [h1, if_false] at hq
      by_cases h2 : X.ownBlock = some q
      · obtain ⟨cur, hc⟩ := hty q h2
        rw [hc] at hf
        simp at hf
      · simp [h2] at hq
theorem S_change (h : St w0 Ts w) (hi : Ts[i]? = some (rgrpT p s L)) (hF : Fine s L) (v m : Int) (r : Bool) : Calls Tryd.prog 12 #[.pointer (some ⟨p, 0, none⟩), .int .i64 v, .int .i64 m, .bool r] w fun e w' => e = .returned (.int .i64 (chk s L v m r)) ∧ St w0 (Ts.set i (rgrpT p s (add1 s L v m r))) w' ∧ ∀ q r k, Flt w q r k → Flt w' q r k := by
  obtain ⟨G, hp, _, hs⟩ := St.opened h hi
  obtain ⟨G', hp', hsub, hno⟩ := Rgp.tight hp
  refine (RChange_any hp' hF v m r).mono ?_
  rintro e w' ⟨h1, G2, h2, h3, h4⟩
  refine ⟨h1, hs w' _ ⟨G2, h2, fun k hk => (h3 k hk).imp (hsub k) id, ⟨h4.os, h4.tape, h4.output, h4.size, fun k hk hn => h4.block k hk fun hg => hn (hsub k hg)⟩⟩, fun q r k hf => ?_⟩
  unfold Flt at hf ⊢
  rw [h4.block q (Flt.lt hf) (hno q r k hf)]
  exact hf
theorem S_rbytes (h : St w0 Ts w) (hi : Ts[i]? = some (rgrpT p s L)) (hF : Fine s L) (hs : s < 16) : Calls Tryd.prog 21 #[.pointer (some ⟨p, 0, none⟩)] w fun e w' => e = .returned (.string (str (wrote s L))) ∧ St w0 Ts w' :=
  Lk.St.read (R := fun e _ => e = .returned (.string (str (wrote s L)))) h hi fun _ hp => RBytes_any hp hF hs _ rfl
/-- What Bytes returns: a slice that reads so in whatever world comes. -/
def ByR (l : List UInt8) (e : Ending) (w' : World) : Prop := ∃ A n c, e = .returned (.slice A n c) ∧ l.length = n ∧ n ≤ c ∧ c ≤ maxLen ∧ Byt w' w'.heap.size A l
theorem S_bytes (h : St w0 Ts w) (hi : Ts[i]? = some (grpT p s L)) (hF : Fine s L) (hs : s < 16) : Calls Tryd.prog 20 #[.pointer (some ⟨p, 0, none⟩)] w fun e w' => ByR (wrote s L) e w' ∧ St w0 Ts w' :=
  Lk.St.read (R := fun e w' => ByR (wrote s L) e w') h hi fun _ hp => (Bytes_any hp hF (by omega)).mono fun e w' ⟨v, h1, h2, h3⟩ => by
    obtain ⟨A, c, rfl, h4, h5, h6⟩ := h2.form
    exact ⟨⟨A, _, c, h1, rfl, h4, h5, h6⟩, h3⟩
end

end Go.Proofs.YthoflpjmdhabmaaDoor.Mb
