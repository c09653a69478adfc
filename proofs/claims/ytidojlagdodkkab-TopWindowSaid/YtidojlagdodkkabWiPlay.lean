/-
  A sender, a receiver, the packets that fly and the answers that were given, side by side: what holds of them together, and what each call leaves of it. Nothing that was there before is changed.
-/
import Derived.Test.YtidojlagdodkkabWiOp
namespace Go.Proofs.Ytidojlagdodkkab.Wi
open Go.RowKit
open Pk Dk Wn

/-- A packet of L's, of a number up to n. -/
def Good (L : List Int) (n : Nat) (q : Pkt) : Prop := ∃ (j : Nat) (x : Int), j < n ∧ L[j]? = some x ∧ q = (((j + 1 : Nat) : Int), x)
theorem Good.more {L : List Int} {n n' : Nat} {q : Pkt} (h : Good L n q) (hn : n ≤ n') : Good L n' q := by
  obtain ⟨j, x, h1, h2, h3⟩ := h
  exact ⟨j, x, by omega, h2, h3⟩
theorem Good.snoc {L : List Int} {n : Nat} {q : Pkt} (h : Good L n q) (y : Int) : Good (L ++ [y]) n q := by
  obtain ⟨j, x, h1, h2, h3⟩ := h
  exact ⟨j, x, h1, by rw [List.getElem?_append_left (List.getElem?_eq_some_iff.1 h2).1]; exact h2, h3⟩
theorem upTo_good {L : List Int} {b l : Nat} : ∀ q ∈ upTo L b l, Good L l q := by
  intro q hq
  obtain ⟨i, hi⟩ := List.mem_iff_getElem?.1 hq
  rw [upTo, pks_get] at hi
  rw [List.getElem?_take] at hi
  split at hi
  · rename_i hlt
    rw [List.getElem?_drop] at hi
    obtain ⟨x, hx, rfl⟩ := Option.map_eq_some_iff.1 hi
    exact ⟨b + i, x, by omega, hx, rfl⟩
  · cases hi
/-- What holds of all of them: F flies (in fv), K were answered (in av), T elements are taken. -/
structure LS (w1 : World) (Us : List Thg) (p r : Nat) (L : List Int) (n a T : Nat) (F : List Pkt) (fv : Value) (K : List Int) (av : Value) (w : World) : Prop where
  st : St w1 (sndT p L n a :: rcvT r (L.take T) :: rowT 33 2 fv F.length (pcels F) :: rowT 3 1 av K.length (vals K) :: Us) w
  fl : ∀ q ∈ F, Good L n q
  ak : ∀ k ∈ K, ∃ c : Nat, c ≤ T ∧ k = (c : Int)
  aT : a ≤ T
  Tn : T ≤ n
section
variable {w1 w W w' : World} {Us : List Thg} {p r n a T : Nat} {L : List Int} {F P : List Pkt} {fv av v : Value} {K : List Int}
theorem LS.snd (h : LS w1 Us p r L n a T F fv K av w) : ∃ G, Snd p L n a w G ∧ ∀ w' T', After T' w G w' → St w1 (T' :: rcvT r (L.take T) :: rowT 33 2 fv F.length (pcels F) :: rowT 3 1 av K.length (vals K) :: Us) w' := by
  obtain ⟨G, hp, _, hs⟩ := St.opened h.st (i := 0) rfl
  exact ⟨G, hp, hs⟩
theorem LS.rcv (h : LS w1 Us p r L n a T F fv K av w) : ∃ G, Rcv r (L.take T) w G ∧ ∀ w' T', After T' w G w' → St w1 (sndT p L n a :: T' :: rowT 33 2 fv F.length (pcels F) :: rowT 3 1 av K.length (vals K) :: Us) w' := by
  obtain ⟨G, hp, _, hs⟩ := St.opened h.st (i := 1) rfl
  exact ⟨G, hp, hs⟩
theorem LS.fly (h : LS w1 Us p r L n a T F fv K av w) : ∃ G, Row 33 2 fv F.length (pcels F) w G ∧ ∀ w' T', After T' w G w' → St w1 (sndT p L n a :: rcvT r (L.take T) :: T' :: rowT 3 1 av K.length (vals K) :: Us) w' := by
  obtain ⟨G, hp, _, hs⟩ := St.opened h.st (i := 2) rfl
  exact ⟨G, hp, hs⟩
theorem LS.ans (h : LS w1 Us p r L n a T F fv K av w) : ∃ G, Row 3 1 av K.length (vals K) w G ∧ ∀ w' T', After T' w G w' → St w1 (sndT p L n a :: rcvT r (L.take T) :: rowT 33 2 fv F.length (pcels F) :: T' :: Us) w' := by
  obtain ⟨G, hp, _, hs⟩ := St.opened h.st (i := 3) rfl
  exact ⟨G, hp, hs⟩
theorem LS.nums (h : LS w1 Us p r L n a T F fv K av w) : a ≤ T ∧ T ≤ n ∧ n ≤ L.length ∧ n ≤ a + 4 ∧ L.length ≤ 100000 := by
  obtain ⟨G, hp, _⟩ := h.snd
  exact ⟨h.aT, h.Tn, hp.nl, hp.win, hp.few⟩
theorem LS.takes (h : LS w1 Us p r L n a T F fv K av w) : (L.take T).length = T := by
  have := h.nums
  rw [List.length_take]
  omega
theorem LS.below (h : LS w1 Us p r L n a T F fv K av w) (hb : Below w.heap.size w w') : LS w1 Us p r L n a T F fv K av w' := { h with st := h.st.below hb }
theorem LS.row (h : LS w1 Us p r L n a T F fv K av w) : ORow w 33 2 fv F.length (pcels F) := by
  obtain ⟨G, hp, _⟩ := h.fly
  exact hp.row
theorem LS.arow (h : LS w1 Us p r L n a T F fv K av w) : ORow w 3 1 av K.length (vals K) := by
  obtain ⟨G, hp, _⟩ := h.ans
  exact hp.row
/-- More packets fly. -/
theorem LS.flown (h : LS w1 Us p r L n a T F fv K av w) (hb : Below w.heap.size w W) {m : Nat} (hm : m = F.length + P.length) (hg : Grown W 33 2 fv m (pcels F ++ pcels P) v w') (hP : ∀ q ∈ P, Good L n q) : LS w1 Us p r L n a T (F ++ P) v K av w' := by
  obtain ⟨G, hp, hs⟩ := h.fly
  refine { h with st := hs _ _ ?_, fl := fun q hq => ?_ }
  · rw [List.length_append, ← hm, pcels_append]
    exact hp.app hb hg
  · rcases List.mem_append.1 hq with h1 | h1
    · exact h.fl q h1
    · exact hP q h1
/-- One more answer. -/
theorem LS.answered (h : LS w1 Us p r L n a T F fv K av w) (hb : Below w.heap.size w W) {m c : Nat} (hm : m = K.length + 1) (hg : Grown W 3 1 av m (vals K ++ vals [(c : Int)]) v w') (hc : c ≤ T) : LS w1 Us p r L n a T F fv (K ++ [(c : Int)]) v w' := by
  obtain ⟨G, hp, hs⟩ := h.ans
  refine { h with st := hs _ _ ?_, ak := fun k hk => ?_ }
  · rw [List.length_append, List.length_singleton, ← hm, vals_append]
    exact hp.app hb hg
  · rcases List.mem_append.1 hk with h1 | h1
    · exact h.ak k h1
    · exact ⟨c, hc, List.mem_singleton.1 h1⟩

/-! ### The calls -/
theorem LS.push (h : LS w1 Us p r L n a T F fv K av w) (hf : L.length < 100000) (x : Int) :
    Calls Try.prog 5 #[.pointer (some ⟨p, 0, none⟩), .int .i64 x] w fun e w' => e = .returned (.tuple #[]) ∧ LS w1 Us p r (L ++ [x]) n a T F fv K av w' := by
  obtain ⟨G, hp, hs⟩ := h.snd
  have hnum := h.nums
  refine (Push_any hp hf x).mono ?_
  rintro e w' ⟨rfl, hA⟩
  refine ⟨rfl, ⟨?_, fun q hq => (h.fl q hq).snoc x, h.ak, h.aT, h.Tn⟩⟩
  rw [List.take_append_of_le_length (by omega)]
  exact hs _ _ hA
theorem LS.send (h : LS w1 Us p r L n a T F fv K av w) :
    Calls Try.prog 7 #[.pointer (some ⟨p, 0, none⟩)] w fun e w' => ∃ v, e = .returned v ∧ Pkts w' w.heap.size v (upTo L n (room a L.length)) ∧ LS w1 Us p r L (room a L.length) a T F fv K av w' := by
  obtain ⟨G, hp, hs⟩ := h.snd
  have hnum := h.nums
  have hnr : n ≤ room a L.length := by unfold room; split <;> omega
  refine (Send_any hp).mono ?_
  rintro e w' ⟨v, rfl, hv, hA⟩
  exact ⟨v, rfl, hv, ⟨hs _ _ hA, fun q hq => (h.fl q hq).more hnr, h.ak, h.aT, Nat.le_trans h.Tn hnr⟩⟩
theorem LS.resend (h : LS w1 Us p r L n a T F fv K av w) :
    Calls Try.prog 6 #[.pointer (some ⟨p, 0, none⟩)] w fun e w' => ∃ v, e = .returned v ∧ Pkts w' w.heap.size v (upTo L a n) ∧ LS w1 Us p r L n a T F fv K av w' ∧ Below w.heap.size w w' := by
  obtain ⟨G, hp, hs⟩ := h.snd
  refine (Resend_any hp).mono ?_
  rintro e w' ⟨v, rfl, hv, hb⟩
  exact ⟨v, rfl, hv, h.below hb, hb⟩
theorem LS.counts (h : LS w1 Us p r L n a T F fv K av w) :
    Calls Try.prog 15 #[.pointer (some ⟨p, 0, none⟩)] w fun e w' => e = .returned (.tuple #[.int .i64 (L.length : Int), .int .i64 (n : Int), .int .i64 (a : Int)]) ∧ LS w1 Us p r L n a T F fv K av w' ∧ Below w.heap.size w w' := by
  obtain ⟨G, hp, hs⟩ := h.snd
  refine (Counts_any hp).mono ?_
  rintro e w' ⟨rfl, hb⟩
  exact ⟨rfl, h.below hb, hb⟩
theorem LS.list (h : LS w1 Us p r L n a T F fv K av w) :
    Calls Try.prog 14 #[.pointer (some ⟨r, 0, none⟩)] w fun e w' => ∃ v, e = .returned v ∧ Els w' w.heap.size v (L.take T) ∧ LS w1 Us p r L n a T F fv K av w' ∧ Below w.heap.size w w' := by
  obtain ⟨G, hp, hs⟩ := h.rcv
  refine (List_any hp).mono ?_
  rintro e w' ⟨v, rfl, hv, hb⟩
  exact ⟨v, rfl, hv, h.below hb, hb⟩
theorem LS.ack (h : LS w1 Us p r L n a T F fv K av w) (c : Nat) (hc : c ≤ T) :
    Calls Try.prog 10 #[.pointer (some ⟨p, 0, none⟩), .int .i64 (c : Int)] w fun e w' => e = .returned .nilIface ∧ LS w1 Us p r L n (max a c) T F fv K av w' := by
  obtain ⟨G, hp, hs⟩ := h.snd
  have hTn := h.Tn
  have haT := h.aT
  refine (Ack_ok hp c (by omega)).mono ?_
  rintro e w' ⟨rfl, hA⟩
  exact ⟨rfl, ⟨hs _ _ hA, h.fl, h.ak, by omega, h.Tn⟩⟩
/-- How many are taken when a packet has come. -/
def took (T j : Nat) : Nat := if j = T then T + 1 else T
theorem LS.take (h : LS w1 Us p r L n a T F fv K av w) (q : Pkt) (j : Nat) (x : Int) (hj : j < n) (hx : L[j]? = some x) (hq : q = (((j + 1 : Nat) : Int), x)) :
    Calls Try.prog 11 #[.pointer (some ⟨r, 0, none⟩), .agg #[.int .i64 q.1, .int .i64 q.2]] w fun e w' => e = .returned (.int .i64 ((took T j : Nat) : Int)) ∧ LS w1 Us p r L n a (took T j) F fv K av w' := by
  obtain ⟨G, hp, hs⟩ := h.rcv
  have hnum := h.nums
  have hlen := h.takes
  subst hq
  unfold took
  by_cases hjT : j = T
  · subst hjT
    have hC := Take_next hp (by rw [hlen]; have := (List.getElem?_eq_some_iff.1 hx).1; omega) x
    rw [hlen] at hC
    rw [if_pos rfl]
    refine hC.mono ?_
    rintro e w' ⟨rfl, hA⟩
    refine ⟨rfl, ⟨?_, h.fl, fun k hk => ?_, by omega, by omega⟩⟩
    · rw [List.take_add_one, hx]
      exact hs _ _ hA
    · obtain ⟨c, hc, e⟩ := h.ak k hk
      exact ⟨c, by omega, e⟩
  · rw [if_neg hjT]
    have hC := Take_other hp ((j + 1 : Nat) : Int) x (by rw [hlen]; omega)
    rw [hlen] at hC
    refine hC.mono ?_
    rintro e w' ⟨rfl, hb⟩
    exact ⟨rfl, h.below hb⟩
theorem took_le (T j : Nat) : T ≤ took T j := by unfold took; split <;> omega
end

/-- All begins. -/
theorem LS.start {w1 w2 w3 : World} (h2 : w2 = w1.alloc (.cells #[.slice none 0 0, .int .i64 0, .int .i64 0] 26)) (h3 : w3 = w2.alloc (.cells #[.slice none 0 0] 29)) :
    LS w1 [] w1.heap.size w2.heap.size [] 0 0 0 [] (.slice none 0 0) [] (.slice none 0 0) w3 := by
  have s1 := (St.start w1).add (box_snd h2).2 (T := sndT w1.heap.size [] 0 0) (box_snd h2).1 (fun k hk => by rw [hk]; exact Nat.le_refl _)
  have s2 := s1.add (box_rcv h3).2 (T := rcvT w2.heap.size []) (box_rcv h3).1 (fun k hk => by rw [hk]; exact Nat.le_refl _)
  have s3 := s2.add (Below.refl _ _) (T := rowT 33 2 (.slice none 0 0) 0 []) (Row.nil w3 _ _) (fun _ h => h.elim)
  have s4 := s3.add (Below.refl _ _) (T := rowT 3 1 (.slice none 0 0) 0 []) (Row.nil w3 _ _) (fun _ h => h.elim)
  exact ⟨s4, fun q hq => (by cases hq), fun q hq => (by cases hq), Nat.le_refl _, Nat.le_refl _⟩

end Go.Proofs.Ytidojlagdodkkab.Wi
