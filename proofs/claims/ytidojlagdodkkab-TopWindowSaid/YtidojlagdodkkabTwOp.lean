/-
  TopWindow's script: a slice of Fates, of which the kind and the place are told. A sender, a receiver, a link of packets side by side: what each call leaves of them. Nothing that was there before is changed.
-/
import Derived.Test.YtidojlagdodkkabRows
import Derived.WalkKit
import Derived.ProofKit
import Derived.OpenShut
import Derived.ShutString
import Derived.ChangeOld
import Derived.Below
import Derived.Deep.SlicePairs
import Derived.Test.YtidojlagdodkkabWiPlay
import Derived.Test.YtidojlagdodkkabLpSend
namespace Go.Proofs.Ytidojlagdodkkab.Tw
open Go.ChangeShapes Go.WideShapes Go.ChangeAt Go.RowKit Go.Deep
open Pk Dk Wn Wi

/-! ### Fates -/
/-- Kind and place of the Fates that can be read from A on. -/
def Fts (W : World) (A : Option Addr) (l : List Pkt) : Prop := l ≠ [] → ∃ g o, A = some ⟨g, o, none⟩ ∧ g < W.heap.size ∧ ∀ (j : Nat) (q : Pkt), l[j]? = some q → W.cell? ⟨g, o + j * 5, none⟩ = some (.int .i64 q.1) ∧ W.cell? ⟨g, o + j * 5 + 1, none⟩ = some (.int .i64 q.2)
theorem Fts.below {W W' : World} {A : Option Addr} {l : List Pkt} (h : Fts W A l) (hb : Below W.heap.size W W') : Fts W' A l := fun hn => by
  obtain ⟨g, o, e, hl, hc⟩ := h hn
  exact ⟨g, o, e, Nat.lt_of_lt_of_le hl hb.size, fun j q hq => ⟨(hb.cell (p := ⟨g, o + j * 5, none⟩) hl).trans (hc j q hq).1, (hb.cell (p := ⟨g, o + j * 5 + 1, none⟩) hl).trans (hc j q hq).2⟩⟩
theorem Fts.at_ {W : World} {A : Option Addr} {l : List Pkt} {j : Nat} {q : Pkt} (h : Fts W A l) (hq : l[j]? = some q) : ∃ g o, A = some ⟨g, o, none⟩ ∧ g < W.heap.size ∧ W.cell? ⟨g, o + j * 5, none⟩ = some (.int .i64 q.1) ∧ W.cell? ⟨g, o + j * 5 + 1, none⟩ = some (.int .i64 q.2) := by
  obtain ⟨g, o, e, hl, hc⟩ := h (by rintro rfl; simp at hq)
  exact ⟨g, o, e, hl, hc j q hq⟩
section
variable {H : Type} {enc : TypeId × Value → H} {W : World} {d : DataW H} {p : List MemPlace} {a0 : Option Addr} {len cap : Nat}
theorem trod5 {t : TypeId} {f0 f1 f2 f3 f4 : Field} {fuel : Nat} {cs : List Value} {x : DataW H × List MemPlace} (ht : Try.prog.underlying t = some (.struct #[f0, f1, f2, f3, f4])) (h : DataW.trod enc Try.prog W 0 (fun _ => true) true fuel t cs = some x) :
    ∃ y0 y1 n, DataW.trod enc Try.prog W 0 (fun _ => true) true n f0.type ((cs.drop f0.offset).take (Try.prog.cellsOf f0.type)) = some y0 ∧ DataW.trod enc Try.prog W 0 (fun _ => true) true n f1.type ((cs.drop f1.offset).take (Try.prog.cellsOf f1.type)) = some y1 := by
  obtain ⟨xs, n, _, _, _, hlen, hf⟩ := DataW.trod_struct ht h
  match xs, hlen with
  | [y0, y1, y2, y3, y4], _ => exact ⟨y0, y1, n, by simpa using hf 0 f0 rfl, by simpa using hf 1 f1 rfl⟩
set_option maxRecDepth 100000 in
theorem open_fates (h : DataW.Trod enc Try.prog W 0 (fun _ => true) true 22 (.slice a0 len cap) d p) :
    ∃ l : List Pkt, l.length = len ∧ Fts W a0 l := by
  obtain ⟨fuel, hf⟩ := h
  rcases open_slice Try.underlying22 hf with ⟨hcs, _⟩ | ⟨x, l, c, m, n, D, Pl, hcs, _, hl, hm, hmm, _, hc⟩
  · simp [Value.cells] at hcs
    obtain ⟨rfl, rfl, rfl⟩ := hcs
    exact ⟨[], rfl, fun hl => absurd rfl hl⟩
  · simp [Value.cells] at hcs
    obtain ⟨rfl, rfl, rfl⟩ := hcs
    have hmc : m = cap := by simpa using hmm
    subst hmc
    have ce : Try.prog.cellsOf 37 = 5 := by kernel_rfl
    have c1 : Try.prog.cellsOf 3 = 1 := by kernel_rfl
    have each : ∀ i, i < m → ∃ q : Pkt, W.cell? (x.add (i * 5)) = some (.int .i64 q.1) ∧ W.cell? (x.add (i * 5 + 1)) = some (.int .i64 q.2) := fun i hi => by
      obtain ⟨cs', g1, g2⟩ := hc i hi
      rw [ce] at g1
      obtain ⟨_, hlen, hcell⟩ := World.cells?_some g1
      obtain ⟨y0, y1, k, t0, t1⟩ := trod5 Try.underlying37 g2
      match cs', hlen with
      | [v0, v1, v2, v3, v4], _ =>
        simp [c1] at t0 t1
        obtain ⟨k0, e0, _, w0⟩ := DataW.trod_int Try.underlying3 t0
        obtain ⟨k1, e1, _, w1⟩ := DataW.trod_int Try.underlying3 t1
        simp at e0 e1
        subst e0 e1
        have h0 := hcell 0 (by omega)
        have h1 := hcell 1 (by omega)
        rw [Addr.add_add] at h0 h1
        exact ⟨(k0, k1), h0, h1⟩
    obtain ⟨q, hq⟩ := choose_lt each
    refine ⟨(List.range len).map q, by simp, fun hpos => ?_⟩
    have hlp : 0 < len := by
      rcases Nat.eq_zero_or_pos len with h0 | h0
      · exact absurd (by rw [h0]; rfl) hpos
      · exact h0
    obtain ⟨b, o, sp⟩ := x
    have hsp : sp = none := by
      simpa [Addr.add] using World.cell?_spot (hq 0 (by omega)).1
    subst hsp
    have hb : b < W.heap.size := by
      have := (hq 0 (by omega)).1
      rw [Addr.add_lit] at this
      exact World.block_lt_of_cell? W ⟨b, _, none⟩ this
    refine ⟨b, o, rfl, hb, fun j u hu => ?_⟩
    have hjl : j < len := by
      have := (List.getElem?_eq_some_iff.1 hu).1
      simpa using this
    have hx : q j = u := by simpa [hjl] using hu
    subst hx
    have := hq j (by omega)
    rw [Addr.add_lit, Addr.add_lit] at this
    exact this
end

/-! ### The window over the link -/
abbrev pkT (v : Value) (P : List Pkt) : Thg := rowT 33 2 v P.length (pcels P)
/-- A sender and a receiver, and a link on which packets of the sender's fly. -/
structure TW (w1 : World) (Us : List Thg) (p r f : Nat) (L : List Int) (nx a T : Nat) (F : List Pkt) (w : World) : Prop where
  ls : LS w1 (Lp.lnkT f F 500 false :: Us) p r L nx a T [] (.slice none 0 0) [] (.slice none 0 0) w
  fl : ∀ q ∈ F, Wi.Good L nx q
section
variable {w1 w w' : World} {Us : List Thg} {p r f nx a T : Nat} {L : List Int} {F P : List Pkt} {v : Value}
theorem TW.below (h : TW w1 Us p r f L nx a T F w) (hb : Below w.heap.size w w') : TW w1 Us p r f L nx a T F w' := ⟨h.ls.below hb, h.fl⟩
theorem TW.push (h : TW w1 Us p r f L nx a T F w) (hf : L.length < 100000) (x : Int) :
    Calls Try.prog 5 #[.pointer (some ⟨p, 0, none⟩), .int .i64 x] w fun e w' => e = .returned (.tuple #[]) ∧ TW w1 Us p r f (L ++ [x]) nx a T F w' := by
  refine (h.ls.push hf x).mono ?_
  rintro e w' ⟨rfl, hs⟩
  exact ⟨rfl, hs, fun q hq => (h.fl q hq).snoc x⟩
theorem TW.send (h : TW w1 Us p r f L nx a T F w) :
    Calls Try.prog 7 #[.pointer (some ⟨p, 0, none⟩)] w fun e w' => ∃ v, e = .returned v ∧ Pkts w' w.heap.size v (upTo L nx (room a L.length)) ∧ TW w1 Us p r f L (room a L.length) a T F w' := by
  have hnum := h.ls.nums
  have hnr : nx ≤ room a L.length := by unfold room; split <;> omega
  refine h.ls.send.mono ?_
  rintro e w' ⟨v, rfl, hv, hs⟩
  exact ⟨v, rfl, hv, hs, fun q hq => (h.fl q hq).more hnr⟩
theorem TW.resend (h : TW w1 Us p r f L nx a T F w) :
    Calls Try.prog 6 #[.pointer (some ⟨p, 0, none⟩)] w fun e w' => ∃ v, e = .returned v ∧ Pkts w' w.heap.size v (upTo L a nx) ∧ TW w1 Us p r f L nx a T F w' ∧ Below w.heap.size w w' := by
  refine h.ls.resend.mono ?_
  rintro e w' ⟨v, rfl, hv, hs, hb⟩
  exact ⟨v, rfl, hv, ⟨hs, h.fl⟩, hb⟩
theorem TW.counts (h : TW w1 Us p r f L nx a T F w) :
    Calls Try.prog 15 #[.pointer (some ⟨p, 0, none⟩)] w fun e w' => e = .returned (.tuple #[.int .i64 (L.length : Int), .int .i64 (nx : Int), .int .i64 (a : Int)]) ∧ Below w.heap.size w w' := by
  refine h.ls.counts.mono ?_
  rintro e w' ⟨rfl, hs, hb⟩
  exact ⟨rfl, hb⟩
theorem TW.list (h : TW w1 Us p r f L nx a T F w) :
    Calls Try.prog 14 #[.pointer (some ⟨r, 0, none⟩)] w fun e w' => ∃ v, e = .returned v ∧ Els w' w.heap.size v (L.take T) ∧ TW w1 Us p r f L nx a T F w' := by
  refine h.ls.list.mono ?_
  rintro e w' ⟨v, rfl, hv, hs, hb⟩
  exact ⟨v, rfl, hv, hs, h.fl⟩
theorem TW.ack (h : TW w1 Us p r f L nx a T F w) (c : Nat) (hc : c ≤ T) :
    Calls Try.prog 10 #[.pointer (some ⟨p, 0, none⟩), .int .i64 (c : Int)] w fun e w' => e = .returned .nilIface ∧ TW w1 Us p r f L nx (max a c) T F w' := by
  refine (h.ls.ack c hc).mono ?_
  rintro e w' ⟨rfl, hs⟩
  exact ⟨rfl, hs, h.fl⟩
theorem TW.take (h : TW w1 Us p r f L nx a T F w) (q : Pkt) (j : Nat) (x : Int) (hj : j < nx) (hx : L[j]? = some x) (hq : q = (((j + 1 : Nat) : Int), x)) :
    Calls Try.prog 11 #[.pointer (some ⟨r, 0, none⟩), .agg #[.int .i64 q.1, .int .i64 q.2]] w fun e w' => e = .returned (.int .i64 ((took T j : Nat) : Int)) ∧ TW w1 Us p r f L nx a (took T j) F w' := by
  refine (h.ls.take q j x hj hx hq).mono ?_
  rintro e w' ⟨rfl, hs⟩
  exact ⟨rfl, hs, h.fl⟩
/-- The link's calls. -/
theorem TW.lset (h : TW w1 Us p r f L nx a T F w) {F' : List Pkt} (hf : ∀ q ∈ F', Wi.Good L nx q) (hs : St w1 ((sndT p L nx a :: rcvT r (L.take T) :: rowT 33 2 (.slice none 0 0) ([] : List Pkt).length (pcels []) :: rowT 3 1 (.slice none 0 0) ([] : List Int).length (vals []) :: Lp.lnkT f F 500 false :: Us).set 4 (Lp.lnkT f F' 500 false)) w') : TW w1 Us p r f L nx a T F' w' :=
  ⟨⟨hs, h.ls.fl, h.ls.ak, h.ls.aT, h.ls.Tn⟩, hf⟩
theorem TW.lsend (h : TW w1 Us p r f L nx a T F w) (q : Pkt) (hg : Wi.Good L nx q) :
    Calls Try.prog 8 #[.pointer (some ⟨f, 0, none⟩), .agg #[.int .i64 q.1, .int .i64 q.2]] w fun e w' => ∃ v F', e = .returned v ∧ TW w1 Us p r f L nx a T F' w' := by
  refine (Lp.Send_st h.ls.st (i := 4) rfl q).mono ?_
  rintro e w' ⟨v, F', rfl, hF, hs⟩
  refine ⟨v, F', rfl, h.lset (fun y hy => ?_) hs⟩
  rcases hF y hy with h1 | h1
  · exact h.fl y h1
  · rw [h1]; exact hg
theorem TW.ldel (h : TW w1 Us p r f L nx a T F w) (j : Int) :
    Calls Try.prog 9 #[.pointer (some ⟨f, 0, none⟩), .int .i64 j] w fun e w' =>
      (∃ (x : Pkt) (F' : List Pkt), Wi.Good L nx x ∧ e = .returned (.tuple #[.agg #[.int .i64 x.1, .int .i64 x.2], .nilIface]) ∧ Hid (TW w1 Us p r f L nx a T F' w')) ∨
      (∃ q, e = .returned (.tuple #[.agg #[.int .i64 0, .int .i64 0], .iface 62 (.pointer (some ⟨q, 0, none⟩))]) ∧ Below w.heap.size w w') := by
  refine (Lp.Deliver_st h.ls.st (i := 4) rfl j).mono ?_
  rintro e w' (⟨x, F', hx, hF, rfl, hs⟩ | ⟨q, rfl, hb⟩)
  · exact Or.inl ⟨x, F', h.fl x hx, rfl, h.lset (fun y hy => h.fl y (hF y hy)) hs.out⟩
  · exact Or.inr ⟨q, rfl, hb⟩
theorem TW.ldrop (h : TW w1 Us p r f L nx a T F w) (j : Int) :
    Calls Try.prog 12 #[.pointer (some ⟨f, 0, none⟩), .int .i64 j] w fun e w' => ∃ v F', e = .returned v ∧ TW w1 Us p r f L nx a T F' w' := by
  refine (Lp.Drop_st h.ls.st (i := 4) rfl j).mono ?_
  rintro e w' ⟨v, F', rfl, hF, hs⟩
  exact ⟨v, F', rfl, h.lset (fun y hy => h.fl y (hF y hy)) hs⟩
theorem TW.ldbl (h : TW w1 Us p r f L nx a T F w) (j : Int) :
    Calls Try.prog 13 #[.pointer (some ⟨f, 0, none⟩), .int .i64 j] w fun e w' => ∃ v F', e = .returned v ∧ TW w1 Us p r f L nx a T F' w' := by
  refine (Lp.Double_st h.ls.st (i := 4) rfl j).mono ?_
  rintro e w' ⟨v, F', rfl, hF, hs⟩
  exact ⟨v, F', rfl, h.lset (fun y hy => h.fl y (hF y hy)) hs⟩
/-- A row of packets that a call made. -/
theorem TW.addrow (h : TW w1 [] p r f L nx a T F w) (hb : Below w.heap.size w w') (hv : Pkts w' w.heap.size v P) : TW w1 [pkT v P] p r f L nx a T F w' :=
  ⟨⟨h.ls.st.add hb hv.thg (fun k hk => hv.own k hk), h.ls.fl, h.ls.ak, h.ls.aT, h.ls.Tn⟩, h.fl⟩
theorem TW.extra (h : TW w1 [pkT v P] p r f L nx a T F w) : ∃ G, (pkT v P).P w G ∧ ∀ w' U', After U' w G w' → LS w1 [Lp.lnkT f F 500 false, U'] p r L nx a T [] (.slice none 0 0) [] (.slice none 0 0) w' := by
  obtain ⟨G, hp, _, hs⟩ := St.opened h.ls.st (i := 5) rfl
  exact ⟨G, hp, fun w' U' hA => ⟨hs w' U' hA, h.ls.fl, h.ls.ak, h.ls.aT, h.ls.Tn⟩⟩
theorem TW.weak {Us : List Thg} (h : TW w1 Us p r f L nx a T F w) : TW w1 [] p r f L nx a T F w :=
  ⟨⟨St.weaken (Us := Us) h.ls.st, h.ls.fl, h.ls.ak, h.ls.aT, h.ls.Tn⟩, h.fl⟩
theorem TW.row (h : TW w1 [pkT v P] p r f L nx a T F w) : ORow w 33 2 v P.length (pcels P) := by
  obtain ⟨G, hp, _⟩ := h.extra
  exact hp.row
theorem TW.grown {v' : Value} {m : Nat} {R : List Pkt} (h : TW w1 [pkT v P] p r f L nx a T F w) (hm : m = P.length + R.length) (hg : Grown w 33 2 v m (pcels P ++ pcels R) v' w') : TW w1 [pkT v' (P ++ R)] p r f L nx a T F w' := by
  obtain ⟨G, hp, hs⟩ := h.extra
  refine ⟨hs w' _ ?_, h.fl⟩
  unfold pkT
  rw [List.length_append, ← hm, pcels_append]
  exact Row.app hp (Below.refl _ _) hg
/-- All begins. -/
theorem TW.start (h : LS w1 [] p r [] 0 0 0 [] (.slice none 0 0) [] (.slice none 0 0) w) :
    Calls Try.prog 4 #[.int .i64 500] w fun e w' => ∃ f, e = .returned (.pointer (some ⟨f, 0, none⟩)) ∧ TW w1 [] p r f [] 0 0 0 [] w' := by
  refine (Lp.New_st h.st 500).mono ?_
  rintro e w' ⟨f, rfl, hs⟩
  exact ⟨f, rfl, ⟨⟨hs.out, h.fl, h.ak, h.aT, h.Tn⟩, fun q hq => (by cases hq)⟩⟩
end

end Go.Proofs.Ytidojlagdodkkab.Tw
