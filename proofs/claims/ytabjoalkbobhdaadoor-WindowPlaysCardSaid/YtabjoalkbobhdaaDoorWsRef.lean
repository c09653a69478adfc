/-
  The document's window (isobarref09) in memory: Send, Resend, Ack, Same; isobarlaw09.list and isobarref03.Same. Nothing but the sender's own blocks is changed.
-/
import Derived.Deep.WholeRow
import Derived.Test.YtabjoalkbobhdaaDoorWsOps2
namespace Go.Proofs.YtabjoalkbobhdaaDoor.Ws
open Go.RowKit
open Pk Dk Wn

theorem app_rp : AppTy Tryd.prog 39 73 2 24 := AppTy.of Tryd.underlying39 (by kernel_rfl)
/-- The document's packets in a slice that a call made. -/
structure RPk (w : World) (B : Nat) (v : Value) (P : List Pkt) : Prop where
  row : ORow w 73 2 v P.length (pcels P)
  own : ∀ k, v.ownBlock = some k → B ≤ k
section
variable {w W w' : World} {B : Nat} {v : Value} {P R : List Pkt}
theorem RPk.nil (w : World) (B : Nat) : RPk w B (.slice none 0 0) [] := ⟨ORow.nil _ _ _, fun k hk => by simp [Value.ownBlock] at hk⟩
theorem RPk.below (h : RPk w B v P) (hb : Below w.heap.size w w') : RPk w' B v P := ⟨h.row.below hb, h.own⟩
theorem RPk.form (h : RPk w B v P) : ∃ A c, v = .slice A P.length c ∧ P.length ≤ c ∧ c ≤ maxLen ∧ Src w A (pcels P) := by
  obtain ⟨A, c, rfl, h1, h2, _⟩ := h.row.form
  exact ⟨A, c, rfl, h1, h2, h.row.src⟩
theorem RPk.thg (h : RPk w B v P) : (rowT 73 2 v P.length (pcels P)).P w (fun k => v.ownBlock = some k) := ⟨h.row, fun _ hk => hk, fun k hk => h.row.lt k hk⟩
/-- One more. -/
theorem RPk.grown {v' : Value} {m : Nat} {q : Pkt} (h : RPk w B v P) (hb : Below w.heap.size w W) (hB : B ≤ w.heap.size) (hm : m = P.length + 1) (hg : Grown W 73 2 v m (pcels P ++ pcel q) v' w') : RPk w' B v' (P ++ [q]) := by
  refine ⟨?_, fun k hk => ?_⟩
  · rw [List.length_append, List.length_singleton, ← hm, pcels_append]
    have := hg.row
    simpa [pcels] using this
  · rcases hg.own k hk with h1 | h1
    · exact h.own k h1
    · have := hb.size
      omega
end

/-! ### list -/
set_option maxRecDepth 100000 in
set_option maxHeartbeats 2000000 in
theorem list_any (A : Option Addr) (n c : Nat) (P : List Pkt) (w : World) (hP : P.length = n) (hn : n ≤ 1000) (hs : Src w A (pcels P)) :
    Calls Tryd.prog 9 #[.slice A n c] w fun e w' => ∃ v, e = .returned v ∧ RPk w' w.heap.size v P ∧ Below w.heap.size w w' := by
  have HP := hide hP
  have Hs := hide hs
  have Hn := hide hn
  have hni : (n : Int) ≤ 1000 := by omega
  clear hP hs hn
  go_enter Tryd.func9, Tryd.ntmps9
  go_wp2_with fail
  go_loopw [3, 7] (fun v j wr => ∃ k : Nat, k ≤ n ∧ j = .int .i64 (k : Int) ∧ Hid (RPk wr w.heap.size v (P.take k)) ∧ Hid (Below w.heap.size w wr)) (fun _ j _ => n - (intOf j).toNat)
  case atStart => exact ⟨0, Nat.zero_le _, rfl, RPk.nil _ _, Below.refl _ _⟩
  case round =>
    obtain ⟨k, hk, rfl, hr, hb⟩ := hrel
    rcases Nat.lt_or_ge k n with hlt | hge
    · have Hlt := hide hlt
      have hki : (k : Int) < (n : Int) := by omega
      obtain ⟨q, hq⟩ : ∃ q, P[k]? = some q := ⟨_, List.getElem?_eq_getElem (by rw [HP.out]; exact hlt)⟩
      obtain ⟨g, o, rfl, _, c0, c1⟩ := Src.pkt (Hs.out.below hb.out) hq
      obtain ⟨qa, qb⟩ := q
      have hb4 : Below wr.heap.size wr (wr.alloc (.cells #[.int .i64 qa, .string qb] 73)) := (Below.refl _ _).alloc (Nat.le_refl _) _
      have HM := hide (Made.row (Below.refl wr.heap.size wr) #[.int .i64 qa, .string qb] 73).src
      have HT : Hid (P.take (k + 1) = P.take k ++ [(qa, qb)]) := by rw [List.take_add_one, hq]; rfl
      obtain ⟨VA, vc, rfl, _, _, _⟩ := hr.out.form
      have hlen : (P.take k).length = k := by rw [List.length_take, HP.out]; omega
      have hrow := hr.out.row.below hb4
      rw [hlen] at hrow
      have HO := hide hrow
      have HNX := hide (fun (W2 : World) (v2 : Value) (hg : Grown (wr.alloc (.cells #[.int .i64 qa, .string qb] 73)) 73 2 (.slice VA k vc) (k + 1) (pcels (P.take k) ++ pcel (qa, qb)) v2 W2) => (⟨by
          have h1 : RPk wr w.heap.size (.slice VA k vc) (P.take k) := by have := hr.out; rw [hlen] at this; exact this
          rw [HT.out]
          exact h1.grown hb4 hb.out.size (by rw [hlen]) hg, by
          have h1 : RPk wr w.heap.size (.slice VA k vc) (P.take k) := by have := hr.out; rw [hlen] at this; exact this
          exact hb.out.trans ((hg.kept (G := fun i => w.heap.size ≤ i) hb4 (fun i hi => h1.own i hi)).below (fun _ h => h) hb.out.size)⟩ : RPk W2 w.heap.size v2 (P.take (k + 1)) ∧ Below w.heap.size w W2))
      have Hm1 := hide (show k + 1 ≤ maxLen by have := Hn.out; unfold maxLen; omega)
      have Hm2 := hide (show (k + 1) * 24 ≤ 140737488355328 by have := Hn.out; omega)
      rw [hlen]
      clear hq hr hb hb4 hlen hrow hlt hk
      go_wp2_with (at_builtin; go_must (refine wpList_app app_rp rfl (.tmp 10) (.tmp 15) rfl (.slice VA k vc) k (pcels (P.take k)) rfl HO.out _ 1 1 (pcel (qa, qb)) rfl rfl HM.out (pcel_one _) (by decide) Hm1.out Hm2.out ?_))
      intro v2 w2 hg
      have HN := hide (HNX.out w2 v2 hg.out)
      clear hg HNX HO HM
      go_wp2
      go_roundw
      case rel => exact ⟨k + 1, Hlt.out, by go_num, HN.out.1, HN.out.2⟩
      case measure => have := Hlt.out; simp [intOf]; omega
    · obtain rfl : k = n := by omega
      have hr' := hr.out
      rw [List.take_of_length_le (by rw [HP.out]; exact Nat.le_refl _)] at hr'
      have HR := hide hr'
      have HB := hide hb.out
      clear hr hb hr' hge hk
      go_wp2
      go_ret
      exact ⟨_, rfl, HR.out, HB.out⟩

/-! ### Same -/
theorem pkt_fields : (Tryd.prog.fieldsOf 73).toList.map (fun f => (f.name, f.type, f.offset)) = [("Seq", 3, 0), ("Data", 9, 1)] := by kernel_rfl
theorem pkt_struct : Tryd.prog.underlying 73 = some (.struct (Tryd.prog.fieldsOf 73)) := by kernel_rfl
theorem pkt_held : Tryd.prog.stoodInHeld 73 = false := by kernel_rfl
theorem pkt_guard : Tryd.prog.eqGuardType Tryd.prog.depth 73 = false := by kernel_rfl
set_option maxRecDepth 100000 in
theorem pkt_equal (i : Int) (d : ByteArray) (W : World) : (Op.equalIn 10000 73 (.agg #[.int .i64 i, .string d]) (.agg #[.int .i64 i, .string d])).run Tryd.prog W = .ok true W := by
  rw [run_equalIn_agg W 9999 73 _ _ pkt_struct pkt_held]
  obtain ⟨f0, f1, hf, h0, h1⟩ : ∃ f0 f1 : Field, (Tryd.prog.fieldsOf 73).toList = [f0, f1] ∧ (f0.name, f0.type, f0.offset) = ("Seq", 3, 0) ∧ (f1.name, f1.type, f1.offset) = ("Data", 9, 1) := by
    have h := pkt_fields
    match hl : (Tryd.prog.fieldsOf 73).toList, (show (Tryd.prog.fieldsOf 73).toList.length = 2 by simpa using congrArg List.length h) with
    | [f0, f1], _ =>
      rw [hl] at h
      simp only [List.map_cons, List.map_nil, List.cons.injEq, and_true] at h
      exact ⟨f0, f1, rfl, h⟩
  rw [hf]
  simp only [Prod.mk.injEq] at h0 h1
  obtain ⟨a0, b0, c0⟩ := h0
  obtain ⟨a1, b1, c1⟩ := h1
  simp only [Op.eqFields, a0, b0, c0, a1, b1, c1]
  go_simp
  try simp
theorem pkt_neq (i : Int) (d : ByteArray) (W : World) : (binOp .neq 73 (.agg #[.int .i64 i, .string d]) (.agg #[.int .i64 i, .string d])).run Tryd.prog W = .ok (.bool false) W := by
  rw [run_neq_struct, pkt_equal]
  rfl
theorem pkt_eqg (o : BinOp) (x y : Operand) (i : Int) (d : ByteArray) (W : World) : (eqGuard o 73 x y (.agg #[.int .i64 i, .string d]) (.agg #[.int .i64 i, .string d])).run Tryd.prog W = .ok () W := run_eqGuard_agg W o 73 x y _ _ pkt_guard

set_option maxRecDepth 100000 in
set_option maxHeartbeats 2000000 in
theorem Same9_any (w : World) (P : List Pkt) (n : Nat) (A1 A2 : Option Addr) (c1 c2 : Nat) (hn : P.length = n) (hlim : n ≤ 1000) (h1 : Src w A1 (pcels P)) (h2 : Src w A2 (pcels P)) :
    Calls Tryd.prog 8 #[.slice A1 n c1, .slice A2 n c2] w fun e w' => e = .returned (.bool true) ∧ Below w.heap.size w w' := by
  have Hn := hide hn
  have H1 := hide h1
  have H2 := hide h2
  have hlimi : (n : Int) ≤ 1000 := by omega
  clear hn h1 h2
  go_enter Tryd.func8, Tryd.ntmps8
  go_wp2
  go_loopw [13] (fun j wr => ∃ k : Nat, k ≤ n ∧ j = .int .i64 k ∧ Hid (Below w.heap.size w wr)) (fun j _ => n - (intOf j).toNat)
  case atStart => exact ⟨0, Nat.zero_le _, rfl, Below.refl _ _⟩
  case round =>
    obtain ⟨k, hk, rfl, hb⟩ := hrel
    rcases Nat.lt_or_ge k n with hlt | hge
    · have Hlt := hide hlt
      have hki : (k : Int) < (n : Int) := by omega
      obtain ⟨x, hx⟩ : ∃ x, P[k]? = some x := ⟨_, List.getElem?_eq_getElem (by rw [Hn.out]; exact hlt)⟩
      obtain ⟨g1, o1, rfl, _, a0, a1⟩ := Src.pkt (H1.out.below hb.out) hx
      obtain ⟨g2, o2, rfl, _, b0, b1⟩ := Src.pkt (H2.out.below hb.out) hx
      obtain ⟨xi, xd⟩ := x
      have hq := pkt_neq xi xd
      have hg := fun W => pkt_eqg .neq (.tmp 19) (.tmp 23) xi xd W
      clear hx hlt
      go_wp2
      go_quiet (fail)
      go_wp2
      go_roundw
      case rel => exact ⟨k + 1, Hlt.out, by go_num, hb.out.trans ⟨rfl, rfl, rfl, Nat.le_refl _, fun _ _ => rfl⟩⟩
      case measure => have := Hlt.out; simp [intOf]; omega
    · obtain rfl : k = n := by omega
      clear hge hk
      go_wp2
      go_ret
      exact ⟨rfl, hb.out⟩
set_option maxRecDepth 100000 in
set_option maxHeartbeats 2000000 in
theorem Same3_any (w : World) (L : List ByteArray) (n : Nat) (A1 A2 : Option Addr) (c1 c2 : Nat) (hn : L.length = n) (hlim : n ≤ 1000) (h1 : Src w A1 (vals L)) (h2 : Src w A2 (vals L)) :
    Calls Tryd.prog 20 #[.slice A1 n c1, .slice A2 n c2] w fun e w' => e = .returned (.bool true) ∧ Below w.heap.size w w' := by
  have Hn := hide hn
  have H1 := hide h1
  have H2 := hide h2
  have hlimi : (n : Int) ≤ 1000 := by omega
  clear hn h1 h2
  go_enter Tryd.func20, Tryd.ntmps20
  go_wp2
  go_loopw [13] (fun j wr => ∃ k : Nat, k ≤ n ∧ j = .int .i64 k ∧ Hid (Below w.heap.size w wr)) (fun j _ => n - (intOf j).toNat)
  case atStart => exact ⟨0, Nat.zero_le _, rfl, Below.refl _ _⟩
  case round =>
    obtain ⟨k, hk, rfl, hb⟩ := hrel
    rcases Nat.lt_or_ge k n with hlt | hge
    · have Hlt := hide hlt
      have hki : (k : Int) < (n : Int) := by omega
      obtain ⟨x, hx⟩ : ∃ x, L[k]? = some x := ⟨_, List.getElem?_eq_getElem (by rw [Hn.out]; exact hlt)⟩
      obtain ⟨g1, o1, rfl, _, a0⟩ := Src.el (H1.out.below hb.out) hx
      obtain ⟨g2, o2, rfl, _, b0⟩ := Src.el (H2.out.below hb.out) hx
      clear hx hlt
      go_wp2
      go_quiet (fail)
      go_wp2
      go_roundw
      case rel => exact ⟨k + 1, Hlt.out, by go_num, hb.out.trans ⟨rfl, rfl, rfl, Nat.le_refl _, fun _ _ => rfl⟩⟩
      case measure => have := Hlt.out; simp [intOf]; omega
    · obtain rfl : k = n := by omega
      clear hge hk
      go_wp2
      go_ret
      exact ⟨rfl, hb.out⟩

/-! ### The document's sender -/
abbrev RAt (p : Nat) (X : Value) (n a : Nat) (L : List ByteArray) : World → (Nat → Prop) → Prop := BAt 31 9 1 p X (more n a) L.length (vals L)
structure RSnd (p : Nat) (L : List ByteArray) (n a : Nat) (w : World) (G : Nat → Prop) : Prop where
  ex : ∃ X, RAt p X n a L w G
  an : a ≤ n
  nl : n ≤ L.length
  win : n ≤ a + 4
  few : L.length ≤ 100000
theorem RSnd.kept {p n a : Nat} {L : List ByteArray} {w w' : World} {G K : Nat → Prop} (h : RSnd p L n a w G) (hk : Kept K w w') (hd : ∀ k, G k → ¬ K k) : RSnd p L n a w' G := by
  obtain ⟨X, hx⟩ := h.ex
  exact ⟨⟨X, BAt.kept hx hk hd⟩, h.an, h.nl, h.win, h.few⟩
theorem RSnd.lt {p n a : Nat} {L : List ByteArray} {w : World} {G : Nat → Prop} (h : RSnd p L n a w G) : ∀ k, G k → k < w.heap.size := by
  obtain ⟨X, hx⟩ := h.ex
  exact hx.lt
def rsT (p : Nat) (L : List ByteArray) (n a : Nat) : Thg := ⟨RSnd p L n a, fun h hk hd => RSnd.kept h hk hd, fun h => RSnd.lt h⟩
section
variable {w w' : World} {G : Nat → Prop} {p n a k : Nat} {L : List ByteArray} {v : Value}
theorem RSnd.below (h : RSnd p L n a w G) (hb : Below w.heap.size w w') : RSnd p L n a w' G := h.kept (Kept.of_below (G := fun _ => False) hb) fun _ _ h => h
theorem RSnd.cells (h : RSnd p L n a w G) : ∃ A m c, BAt 31 9 1 p (.slice A m c) (more n a) m (vals L) w G ∧ m = L.length ∧ m ≤ c ∧ c ≤ maxLen ∧ Src w A (vals L) ∧ w.cell? ⟨p, 0, none⟩ = some (.slice A m c) ∧ w.cell? ⟨p, 1, none⟩ = some (.int .i64 (n : Int)) ∧ w.cell? ⟨p, 2, none⟩ = some (.int .i64 (a : Int)) ∧ ∀ j, w.frozen? ⟨p, j, none⟩ = false := by
  obtain ⟨X, hx⟩ := h.ex
  obtain ⟨A, c, rfl, h1, h2, _⟩ := hx.row.form
  exact ⟨A, _, c, hx, rfl, h1, h2, hx.row.src, hx.cell 0, hx.cell 1, hx.cell 2, hx.frozen⟩
/-- In the middle of Send: k are sent. -/
structure RI (p : Nat) (L : List ByteArray) (n a k : Nat) (w : World) (G : Nat → Prop) (v : Value) (wr : World) : Prop where
  st : RSnd p L k a wr G
  kept : Kept G w wr
  row : RPk wr w.heap.size v (upTo L n k)
def sentOf (p : Nat) (w : World) : Nat := (intOf ((w.cell? ⟨p, 1, none⟩).getD (.int .i64 0))).toNat
theorem RI.sent {wr : World} (h : RI p L n a k w G v wr) : sentOf p wr = k := by
  obtain ⟨_, _, _, _, _, _, _, _, _, c1, _⟩ := h.st.cells
  simp [sentOf, c1, intOf]
theorem RI.below {wr w2 : World} (h : RI p L n a k w G v wr) (hb : Below wr.heap.size wr w2) : RI p L n a k w G v w2 :=
  ⟨h.st.below hb, ⟨hb.os.trans h.kept.os, hb.tape.trans h.kept.tape, hb.output.trans h.kept.output, Nat.le_trans h.kept.size hb.size, fun i hi hn => (hb.block i (Nat.lt_of_lt_of_le hi h.kept.size)).trans (h.kept.block i hi hn)⟩, h.row.below hb⟩
/-- One more is sent. -/
theorem RI.next {wr W1 W2 : World} {v2 : Value} {m : Nat} {x : ByteArray} (h : RI p L n a k w G v wr) (hw : ∀ k, G k → k < w.heap.size) (hnk : n ≤ k) (hk : k + 1 ≤ L.length) (ha : k + 1 ≤ a + 4) (hx : L[k]? = some x) (hm : m = (upTo L n k).length + 1)
    (hb : Below (wr.setCell ⟨p, 1, none⟩ (.int .i64 ((k + 1 : Nat) : Int))).heap.size (wr.setCell ⟨p, 1, none⟩ (.int .i64 ((k + 1 : Nat) : Int))) W1) (hg : Grown W1 73 2 v m (pcels (upTo L n k) ++ pcel (((k + 1 : Nat) : Int), x)) v2 W2) : RI p L n a (k + 1) w G v2 W2 := by
  obtain ⟨X, hX⟩ := h.st.ex
  have h5 := hX.set 0 (.int .i64 ((k + 1 : Nat) : Int))
  have hsz : (wr.setCell ⟨p, 1, none⟩ (.int .i64 ((k + 1 : Nat) : Int))).heap.size = wr.heap.size := by simp [World.setCell]
  have hws := h.kept.size
  have hG2 : ∀ i, v.ownBlock = some i → w.heap.size ≤ i := h.row.own
  have hkk : Kept (fun i => v.ownBlock = some i) (wr.setCell ⟨p, 1, none⟩ (.int .i64 ((k + 1 : Nat) : Int))) W2 := hg.kept hb (fun _ h => h)
  have hrow : RPk (wr.setCell ⟨p, 1, none⟩ (.int .i64 ((k + 1 : Nat) : Int))) w.heap.size v (upTo L n k) := by
    refine ⟨h.row.row.same fun i hi => heap_setCell_other _ _ _ _ fun e => ?_, h.row.own⟩
    have h1 := h.row.own i hi
    have h2 := hw p hX.mine
    have e' : i = p := e
    omega
  refine ⟨⟨⟨X, ?_⟩, by have := h.st.an; omega, hk, ha, h.st.few⟩, ?_, ?_⟩
  · refine BAt.kept h5.1 hkk fun i hi hv => ?_
    have h1 := hG2 i hv
    have h2 := hw i hi
    omega
  · refine ⟨hkk.os.trans (h5.2.os.trans h.kept.os), hkk.tape.trans (h5.2.tape.trans h.kept.tape), hkk.output.trans (h5.2.output.trans h.kept.output), Nat.le_trans hws (Nat.le_trans h5.2.size hkk.size), fun i hi hn => ?_⟩
    rw [hkk.block i (by rw [hsz]; omega) (fun hv => by have := hG2 i hv; omega), h5.2.block i (by omega) hn, h.kept.block i hi hn]
  · rw [upTo_snoc hnk hx]
    exact hrow.grown hb (by rw [hsz]; exact hws) hm hg

set_option maxRecDepth 100000 in
set_option maxHeartbeats 4000000 in
theorem RSend_any (h : RSnd p L n a w G) : Calls Tryd.prog 11 #[.pointer (some ⟨p, 0, none⟩)] w fun e w' => ∃ v, e = .returned v ∧ RPk w' w.heap.size v (upTo L n (room a L.length)) ∧ After (rsT p L (room a L.length) a) w G w' := by
  obtain ⟨q, hq⟩ : ∃ q, room a L.length = q := ⟨_, rfl⟩
  obtain ⟨ll, hll⟩ : ∃ ll, L.length = ll := ⟨_, rfl⟩
  have hnq : n ≤ q := by have := h.nl; have := h.win; rw [← hq]; unfold room; split <;> omega
  have hqa : q ≤ a + 4 ∧ q ≤ ll ∧ (q = ll ∨ q = a + 4) := by rw [← hq, hll]; unfold room; split <;> omega
  rw [hq]
  have HA := hide hqa
  have HW := hide h.lt
  have HLL := hide hll
  have HR0 : Hid (RI p L n a n w G (.slice none 0 0) w) := ⟨h, Kept.refl _ _, by rw [upTo_self]; exact RPk.nil _ _⟩
  have Hnq := hide hnq
  have Hfew := hide h.few
  clear h hq hnq hqa hll
  go_enter Tryd.func11, Tryd.ntmps11
  go_wp2
  go_loopw [3] (fun v wr => ∃ k : Nat, n ≤ k ∧ k ≤ q ∧ Hid (RI p L n a k w G v wr)) (fun _ wr => q - sentOf p wr)
  case atStart => exact ⟨n, Nat.le_refl _, Hnq.out, HR0.out⟩
  case round =>
    clear HR0
    obtain ⟨k, hnk, hkq, hri⟩ := hrel
    obtain ⟨A, m, c, hx, hm, _, _, hs, c0, c1, c2, fz⟩ := hri.out.st.cells
    rw [HLL.out] at hm
    subst hm
    have hak := hri.out.st.an
    obtain ⟨f, hf⟩ : ∃ f, f = k - a := ⟨_, rfl⟩
    have e1 : (k : Int) - (a : Int) = (f : Int) := by omega
    have e2 : IntKind.i64.wrap (f : Int) = (f : Int) := wrap_id (by omega) (by have := Hfew.out; have := HLL.out; have := HA.out; omega)
    have HSo := hide hri.out.sent
    rcases Nat.lt_or_ge k q with hlt | hge
    · have Hnk := hide hnk
      have Hkq := hide (show k + 1 ≤ q from hlt)
      have hkl : (k : Int) < (m : Int) := by have := HA.out; omega
      have hf4 : (f : Int) < 4 := by have := HA.out; omega
      have Hmk := hide (show k < m by have := HA.out; omega)
      have Hm5 := hide (show m ≤ 100000 by have := Hfew.out; have := HLL.out; omega)
      clear hx hs fz hf hak hlt hkq hnk
      go_wp2_with fail
      go_quiet (fail)
      have HRI := hide (hri.out.below (w2 := wr.drewN nq) ⟨rfl, rfl, rfl, Nat.le_refl _, fun _ _ => rfl⟩)
      clear c0 c1 c2 hri hf4 e1 e2
      generalize World.drewN wr nq = wq at *
      obtain ⟨A, m', c, hx, hm, _, _, hs, c0, c1, c2, fz⟩ := HRI.out.st.cells
      rw [HLL.out] at hm
      have hm := hm.symm
      subst hm
      obtain ⟨x, hxk⟩ : ∃ x, L[k]? = some x := ⟨_, List.getElem?_eq_getElem (by rw [HLL.out]; exact Hmk.out)⟩
      obtain ⟨g, o, rfl, hgl, hce⟩ := Src.el hs hxk
      obtain ⟨j, hj⟩ : ∃ j, j = k + 1 := ⟨_, rfl⟩
      have hm5 := Hm5.out
      have hmk := Hmk.out
      have e3 : (k : Int) + 1 = (j : Int) := by omega
      have e4 : IntKind.i64.wrap (j : Int) = (j : Int) := wrap_id (by omega) (by omega)
      have e5 : (j : Int) - 1 = (k : Int) := by omega
      have e6 : IntKind.i64.wrap (k : Int) = (k : Int) := wrap_id (by omega) (by omega)
      have hf1 := fz 1
      obtain ⟨VA, vc, rfl, _, _, _⟩ := HRI.out.row.form
      obtain ⟨ol, hol⟩ : ∃ ol, (upTo L n k).length = ol := ⟨_, rfl⟩
      have hri' := HRI.out
      rw [hol] at hri' ⊢
      have hgo := (hx.own g rfl)
      have hs5 := (hx.set 0 (.int .i64 (j : Int))).1
      have hpl := hx.lt p hx.mine
      have hsz : (wq.setCell ⟨p, 1, none⟩ (.int .i64 (j : Int))).heap.size = wq.heap.size := by simp [World.setCell]
      have hce5 : (wq.setCell ⟨p, 1, none⟩ (.int .i64 (j : Int))).cell? ⟨g, o + k, none⟩ = some (.string x) := by
        rw [World.cell?_of_block (heap_setCell_other _ _ _ _ (show (⟨g, o + k, none⟩ : Addr).block ≠ p from hgo.2))]
        exact hce
      have hsn := hri'.row.own
      have HC : Hid (∀ W : World, Below (wq.setCell ⟨p, 1, none⟩ (.int .i64 (j : Int))).heap.size (wq.setCell ⟨p, 1, none⟩ (.int .i64 (j : Int))) W → W.cell? ⟨p, 0, none⟩ = some (.slice (some ⟨g, o, none⟩) m c) ∧ W.cell? ⟨p, 1, none⟩ = some (.int .i64 (j : Int)) ∧ W.cell? ⟨g, o + k, none⟩ = some (.string x)) := fun W hW =>
        ⟨(hW.cell (p := ⟨p, 0, none⟩) (by rw [hsz]; exact hpl)).trans (hs5.cell 0), (hW.cell (p := ⟨p, 1, none⟩) (by rw [hsz]; exact hpl)).trans (hs5.cell 1), (hW.cell (p := ⟨g, o + k, none⟩) (by rw [hsz]; exact hgl)).trans hce5⟩
      have HO : Hid (∀ W : World, Below (wq.setCell ⟨p, 1, none⟩ (.int .i64 (j : Int))).heap.size (wq.setCell ⟨p, 1, none⟩ (.int .i64 (j : Int))) W → ORow W 73 2 (.slice VA ol vc) ol (pcels (upTo L n k))) := fun W hW => by
        have h1 := hri'.row.row
        rw [hol] at h1
        refine (h1.same fun i hi => heap_setCell_other _ _ _ _ fun e => ?_).below hW
        have h2 := hsn i hi
        have h3 := HW.out p hx.mine
        have e' : i = p := e
        omega
      have HNX : Hid (∀ (W1 W2 : World) (v2 : Value), Below (wq.setCell ⟨p, 1, none⟩ (.int .i64 (j : Int))).heap.size (wq.setCell ⟨p, 1, none⟩ (.int .i64 (j : Int))) W1 → Grown W1 73 2 (.slice VA ol vc) (ol + 1) (pcels (upTo L n k) ++ pcel ((j : Int), x)) v2 W2 → RI p L n a (k + 1) w G v2 W2) := fun W1 W2 v2 hb hg => by
        subst hj
        exact hri'.next HW.out Hnk.out (by rw [HLL.out]; omega) (by have := HA.out; have := Hkq.out; omega) hxk (by rw [hol]) hb hg
      have HMS : Hid (∀ (W2 : World) (v2 : Value), RI p L n a (k + 1) w G v2 W2 → q - sentOf p W2 < q - sentOf p wr) := fun W2 v2 hr => by
        rw [hr.sent, HSo.out]
        have := Hkq.out
        omega
      have Hol := hide (show ol ≤ 100000 by rw [← hol, upTo_len (by rw [HLL.out]; omega)]; omega)
      have Hm1 := hide (show ol + 1 ≤ maxLen by have := Hol.out; unfold maxLen; omega)
      have Hm2 := hide (show (ol + 1) * 24 ≤ 140737488355328 by have := Hol.out; omega)
      have K0 : Hid (Below (wq.setCell ⟨p, 1, none⟩ (.int .i64 (j : Int))).heap.size (wq.setCell ⟨p, 1, none⟩ (.int .i64 (j : Int))) (World.drew (wq.setCell ⟨p, 1, none⟩ (.int .i64 (j : Int))))) := (Below.refl _ _).drew
      clear HRI hx hs fz hxk hgl hce hj hol hri' hgo hs5 hpl hsz hce5 hsn c0 c2
      go_wp2_with fail
      refine wp_region_any (by kernel_rfl) ?_
      change wpAny _ _ _ _ _ _ _ (World.drew _)
      generalize World.drew _ = wd at *
      refine wpAny_take (i := 0) (oi := ⟨some 33, _, _, _, _, _⟩) (v := ?_) rfl (by kernel_rfl) (by kernel_rfl) (by kernel_rfl) (fun _ _ _ h => h) (Or.inl ⟨by rfl, ?_⟩) ?_
      rotate_left 1
      · (intro w; go_simp; try with_reducible rfl)
      simp only [Act.put, List.setIfInBounds_toArray, List.set_cons_zero, List.set_cons_succ]
      refine wpAny_take (i := 1) (oi := ⟨some 34, _, _, _, _, _⟩) (v := ?_) rfl (by kernel_rfl) (by kernel_rfl) (by kernel_rfl) (fun _ _ _ h => h) (Or.inl ⟨by rfl, ?_⟩) ?_
      rotate_left 1
      · (intro w; go_simp; try with_reducible rfl)
      simp only [Act.put, List.setIfInBounds_toArray, List.set_cons_zero, List.set_cons_succ]
      refine wpAny_take (i := 2) (oi := ⟨some 35, _, _, _, _, _⟩) (v := ?_) rfl (by kernel_rfl) (by kernel_rfl) (by kernel_rfl) (fun _ _ _ h => h) (Or.inl ⟨by rfl, ?_⟩) ?_
      rotate_left 1
      · (intro w; go_simp; try with_reducible rfl)
      simp only [Act.put, List.setIfInBounds_toArray, List.set_cons_zero, List.set_cons_succ]
      refine wpAny_take (i := 3) (oi := ⟨some 36, _, _, _, _, _⟩) (v := ?_) rfl (by kernel_rfl) (by kernel_rfl) (by kernel_rfl) (fun _ _ _ h => h) (Or.inl ⟨by rfl, ?_⟩) ?_
      rotate_left 1
      · (intro w; go_simp; try with_reducible rfl)
      simp only [Act.put, List.setIfInBounds_toArray, List.set_cons_zero, List.set_cons_succ]
      refine wpAny_take (i := 5) (oi := ⟨some 38, _, _, _, _, _⟩) (v := ?_) rfl (by kernel_rfl) (by kernel_rfl) (by kernel_rfl) (fun _ _ _ h => h) (Or.inl ⟨by rfl, ?_⟩) ?_
      rotate_left 1
      · (intro w; go_simp; try with_reducible rfl)
      simp only [Act.put, List.setIfInBounds_toArray, List.set_cons_zero, List.set_cons_succ]
      refine wpAny_take (i := 6) (oi := ⟨some 39, _, _, _, _, _⟩) (v := ?_) rfl (by kernel_rfl) (by kernel_rfl) (by kernel_rfl) (fun _ _ _ h => h) (Or.inl ⟨by rfl, ?_⟩) ?_
      rotate_left 1
      · (intro w; go_simp; try with_reducible rfl)
      simp only [Act.put, List.setIfInBounds_toArray, List.set_cons_zero, List.set_cons_succ]
      refine wpAny_take (i := 7) (oi := ⟨some 40, _, _, _, _, _⟩) (v := ?_) rfl (by kernel_rfl) (by kernel_rfl) (by kernel_rfl) (fun _ _ _ h => h) (Or.inl ⟨by rfl, ?_⟩) ?_
      rotate_left 1
      · (intro w; go_simp; try with_reducible rfl)
      simp only [Act.put, List.setIfInBounds_toArray, List.set_cons_zero, List.set_cons_succ]
      refine wpAny_take (i := 9) (oi := ⟨some 42, _, _, _, _, _⟩) (v := ?_) rfl (by kernel_rfl) (by kernel_rfl) (by kernel_rfl) (fun _ _ _ h => h) (Or.inl ⟨by rfl, ?_⟩) ?_
      rotate_left 1
      · (intro w; go_simp; try with_reducible rfl)
      simp only [Act.put, List.setIfInBounds_toArray, List.set_cons_zero, List.set_cons_succ]
      refine wpAny_take (i := 10) (oi := ⟨some 43, _, _, _, _, _⟩) (v := ?_) rfl (by kernel_rfl) (by kernel_rfl) (by kernel_rfl) (fun _ _ _ h => h) (Or.inl ⟨by rfl, ?_⟩) ?_
      rotate_left 1
      · (intro w; go_simp; try with_reducible rfl)
      simp only [Act.put, List.setIfInBounds_toArray, List.set_cons_zero, List.set_cons_succ]
      refine wpAny_take (i := 11) (oi := ⟨some 44, _, _, _, _, _⟩) (v := ?_) rfl (by kernel_rfl) (by kernel_rfl) (by kernel_rfl) (fun _ _ _ h => h) (Or.inl ⟨by rfl, ?_⟩) ?_
      rotate_left 1
      · (intro w; go_simp; try with_reducible rfl)
      simp only [Act.put, List.setIfInBounds_toArray, List.set_cons_zero, List.set_cons_succ]
      refine wpAny_ready (rs := [4, 8, 12]) (by kernel_rfl) (by simp) ?_
      refine AllReady.cons (o := ⟨some 37, _, _, _, _, _⟩) rfl (fun K hK => ?_) (AllReady.cons (o := ⟨some 41, _, _, _, _, _⟩) rfl (fun K hK => ?_) (AllReady.cons (o := ⟨some 45, _, _, _, _, _⟩) rfl (fun K hK => ?_) AllReady.nil))
      · have hq := (HC.out _ K0.out).2.1
        go_simp
        clear hq
        refine hK _ _ ?_
        clear hK K
        refine wpAny_ready (rs := [8, 12]) (by kernel_rfl) (by simp) ?_
        refine AllReady.cons (o := ⟨some 41, _, _, _, _, _⟩) rfl (fun K hK => ?_) (AllReady.cons (o := ⟨some 45, _, _, _, _, _⟩) rfl (fun K hK => ?_) AllReady.nil)
        · have hq := (HC.out _ K0.out).1
          go_simp
          clear hq
          refine hK _ _ ?_
          clear hK K
          refine wpAny_ready (rs := [12]) (by kernel_rfl) (by simp) ?_
          refine AllReady.cons (o := ⟨some 45, _, _, _, _, _⟩) rfl (fun K hK => ?_) AllReady.nil
          have hq := (HC.out _ K0.out).2.1
          go_simp
          clear hq
          refine hK _ _ ?_
          clear hK K
          refine wpAny_take (i := 13) (oi := ⟨some 46, _, _, _, _, _⟩) (v := ?_) rfl (by kernel_rfl) (by kernel_rfl) (by kernel_rfl) (fun _ _ _ h => h) (Or.inl ⟨by rfl, ?_⟩) ?_
          rotate_left 1
          · (intro w; go_simp; try with_reducible rfl)
          simp only [Act.put, List.setIfInBounds_toArray, List.set_cons_zero, List.set_cons_succ]
          refine wpAny_take (i := 14) (oi := ⟨some 47, _, _, _, _, _⟩) (v := ?_) rfl (by kernel_rfl) (by kernel_rfl) (by kernel_rfl) (fun _ _ _ h => h) (Or.inl ⟨by rfl, ?_⟩) ?_
          rotate_left 1
          · (intro w; go_simp; try with_reducible rfl)
          simp only [Act.put, List.setIfInBounds_toArray, List.set_cons_zero, List.set_cons_succ]
          refine wpAny_ready (rs := [15]) (by kernel_rfl) (by simp) ?_
          refine AllReady.cons (o := ⟨some 48, _, _, _, _, _⟩) rfl (fun K hK => ?_) AllReady.nil
          have hq := (HC.out _ K0.out).2.2
          go_simp
          clear hq
          refine hK _ _ ?_
          clear hK K
          refine wpAny_take (i := 16) (oi := ⟨some 49, _, _, _, _, _⟩) (v := ?_) rfl (by kernel_rfl) (by kernel_rfl) (by kernel_rfl) (fun _ _ _ h => h) (Or.inl ⟨by rfl, ?_⟩) ?_
          rotate_left 1
          · (intro w; go_simp; try with_reducible rfl)
          simp only [Act.put, List.setIfInBounds_toArray, List.set_cons_zero, List.set_cons_succ]
          refine wpAny_ready (rs := [17]) (by kernel_rfl) (by simp) ?_
          refine AllReady.cons (o := ⟨some 50, _, _, _, _, _⟩) rfl (fun K hK => ?_) AllReady.nil
          go_simp
          have HM := hide (Made.row K0.out #[.int .i64 (j : Int), .string x] 73)
          have K1 := hide HM.out.bel
          generalize World.alloc _ _ = W1 at *
          refine hK _ _ ?_
          clear hK K
          refine wpAny_ready (rs := [18]) (by kernel_rfl) (by simp) ?_
          refine AllReady.cons (o := ⟨some 51, _, _, _, _, _⟩) rfl (fun K hK => ?_) AllReady.nil
          refine step_app app_rp (by rfl) (.tmp 33) (.tmp 50) rfl (.slice VA ol vc) ol (pcels (upTo L n k)) rfl (HO.out _ K1.out) _ 1 1 (pcel ((j : Int), x)) rfl rfl HM.out.src (pcel_one _) (by decide) Hm1.out Hm2.out ?_
          intro v2 w2 hg
          have HN := hide (HNX.out _ _ _ K1.out hg.out)
          clear hg
          refine hK _ _ ?_
          clear hK K
          refine wpAny_take (i := 19) (oi := ⟨some 3, _, _, _, _, _⟩) (v := ?_) rfl (by kernel_rfl) (by kernel_rfl) (by kernel_rfl) (fun _ _ _ h => h) (Or.inl ⟨by rfl, ?_⟩) ?_
          rotate_left 1
          · (intro w; go_simp; try with_reducible rfl)
          simp only [Act.put, List.setIfInBounds_toArray, List.set_cons_zero, List.set_cons_succ]
          refine wpAny_done (by kernel_rfl) ?_ _
          go_wp2
          go_roundw
          case rel => exact ⟨k + 1, by have := Hnk.out; omega, Hkq.out, HN.out⟩
          case measure => have := HN.out; exact HMS.out _ _ this
        · have hq := (HC.out _ K0.out).2.1
          go_simp
          clear hq
          refine hK _ _ ?_
          clear hK K
          refine wpAny_take (i := 13) (oi := ⟨some 46, _, _, _, _, _⟩) (v := ?_) rfl (by kernel_rfl) (by kernel_rfl) (by kernel_rfl) (fun _ _ _ h => h) (Or.inl ⟨by rfl, ?_⟩) ?_
          rotate_left 1
          · (intro w; go_simp; try with_reducible rfl)
          simp only [Act.put, List.setIfInBounds_toArray, List.set_cons_zero, List.set_cons_succ]
          refine wpAny_ready (rs := [8]) (by kernel_rfl) (by simp) ?_
          refine AllReady.cons (o := ⟨some 41, _, _, _, _, _⟩) rfl (fun K hK => ?_) AllReady.nil
          have hq := (HC.out _ K0.out).1
          go_simp
          clear hq
          refine hK _ _ ?_
          clear hK K
          refine wpAny_take (i := 14) (oi := ⟨some 47, _, _, _, _, _⟩) (v := ?_) rfl (by kernel_rfl) (by kernel_rfl) (by kernel_rfl) (fun _ _ _ h => h) (Or.inl ⟨by rfl, ?_⟩) ?_
          rotate_left 1
          · (intro w; go_simp; try with_reducible rfl)
          simp only [Act.put, List.setIfInBounds_toArray, List.set_cons_zero, List.set_cons_succ]
          refine wpAny_ready (rs := [15]) (by kernel_rfl) (by simp) ?_
          refine AllReady.cons (o := ⟨some 48, _, _, _, _, _⟩) rfl (fun K hK => ?_) AllReady.nil
          have hq := (HC.out _ K0.out).2.2
          go_simp
          clear hq
          refine hK _ _ ?_
          clear hK K
          refine wpAny_take (i := 16) (oi := ⟨some 49, _, _, _, _, _⟩) (v := ?_) rfl (by kernel_rfl) (by kernel_rfl) (by kernel_rfl) (fun _ _ _ h => h) (Or.inl ⟨by rfl, ?_⟩) ?_
          rotate_left 1
          · (intro w; go_simp; try with_reducible rfl)
          simp only [Act.put, List.setIfInBounds_toArray, List.set_cons_zero, List.set_cons_succ]
          refine wpAny_ready (rs := [17]) (by kernel_rfl) (by simp) ?_
          refine AllReady.cons (o := ⟨some 50, _, _, _, _, _⟩) rfl (fun K hK => ?_) AllReady.nil
          go_simp
          have HM := hide (Made.row K0.out #[.int .i64 (j : Int), .string x] 73)
          have K1 := hide HM.out.bel
          generalize World.alloc _ _ = W1 at *
          refine hK _ _ ?_
          clear hK K
          refine wpAny_ready (rs := [18]) (by kernel_rfl) (by simp) ?_
          refine AllReady.cons (o := ⟨some 51, _, _, _, _, _⟩) rfl (fun K hK => ?_) AllReady.nil
          refine step_app app_rp (by rfl) (.tmp 33) (.tmp 50) rfl (.slice VA ol vc) ol (pcels (upTo L n k)) rfl (HO.out _ K1.out) _ 1 1 (pcel ((j : Int), x)) rfl rfl HM.out.src (pcel_one _) (by decide) Hm1.out Hm2.out ?_
          intro v2 w2 hg
          have HN := hide (HNX.out _ _ _ K1.out hg.out)
          clear hg
          refine hK _ _ ?_
          clear hK K
          refine wpAny_take (i := 19) (oi := ⟨some 3, _, _, _, _, _⟩) (v := ?_) rfl (by kernel_rfl) (by kernel_rfl) (by kernel_rfl) (fun _ _ _ h => h) (Or.inl ⟨by rfl, ?_⟩) ?_
          rotate_left 1
          · (intro w; go_simp; try with_reducible rfl)
          simp only [Act.put, List.setIfInBounds_toArray, List.set_cons_zero, List.set_cons_succ]
          refine wpAny_done (by kernel_rfl) ?_ _
          go_wp2
          go_roundw
          case rel => exact ⟨k + 1, by have := Hnk.out; omega, Hkq.out, HN.out⟩
          case measure => have := HN.out; exact HMS.out _ _ this
      · have hq := (HC.out _ K0.out).1
        go_simp
        clear hq
        refine hK _ _ ?_
        clear hK K
        refine wpAny_ready (rs := [4, 12]) (by kernel_rfl) (by simp) ?_
        refine AllReady.cons (o := ⟨some 37, _, _, _, _, _⟩) rfl (fun K hK => ?_) (AllReady.cons (o := ⟨some 45, _, _, _, _, _⟩) rfl (fun K hK => ?_) AllReady.nil)
        · have hq := (HC.out _ K0.out).2.1
          go_simp
          clear hq
          refine hK _ _ ?_
          clear hK K
          refine wpAny_ready (rs := [12]) (by kernel_rfl) (by simp) ?_
          refine AllReady.cons (o := ⟨some 45, _, _, _, _, _⟩) rfl (fun K hK => ?_) AllReady.nil
          have hq := (HC.out _ K0.out).2.1
          go_simp
          clear hq
          refine hK _ _ ?_
          clear hK K
          refine wpAny_take (i := 13) (oi := ⟨some 46, _, _, _, _, _⟩) (v := ?_) rfl (by kernel_rfl) (by kernel_rfl) (by kernel_rfl) (fun _ _ _ h => h) (Or.inl ⟨by rfl, ?_⟩) ?_
          rotate_left 1
          · (intro w; go_simp; try with_reducible rfl)
          simp only [Act.put, List.setIfInBounds_toArray, List.set_cons_zero, List.set_cons_succ]
          refine wpAny_take (i := 14) (oi := ⟨some 47, _, _, _, _, _⟩) (v := ?_) rfl (by kernel_rfl) (by kernel_rfl) (by kernel_rfl) (fun _ _ _ h => h) (Or.inl ⟨by rfl, ?_⟩) ?_
          rotate_left 1
          · (intro w; go_simp; try with_reducible rfl)
          simp only [Act.put, List.setIfInBounds_toArray, List.set_cons_zero, List.set_cons_succ]
          refine wpAny_ready (rs := [15]) (by kernel_rfl) (by simp) ?_
          refine AllReady.cons (o := ⟨some 48, _, _, _, _, _⟩) rfl (fun K hK => ?_) AllReady.nil
          have hq := (HC.out _ K0.out).2.2
          go_simp
          clear hq
          refine hK _ _ ?_
          clear hK K
          refine wpAny_take (i := 16) (oi := ⟨some 49, _, _, _, _, _⟩) (v := ?_) rfl (by kernel_rfl) (by kernel_rfl) (by kernel_rfl) (fun _ _ _ h => h) (Or.inl ⟨by rfl, ?_⟩) ?_
          rotate_left 1
          · (intro w; go_simp; try with_reducible rfl)
          simp only [Act.put, List.setIfInBounds_toArray, List.set_cons_zero, List.set_cons_succ]
          refine wpAny_ready (rs := [17]) (by kernel_rfl) (by simp) ?_
          refine AllReady.cons (o := ⟨some 50, _, _, _, _, _⟩) rfl (fun K hK => ?_) AllReady.nil
          go_simp
          have HM := hide (Made.row K0.out #[.int .i64 (j : Int), .string x] 73)
          have K1 := hide HM.out.bel
          generalize World.alloc _ _ = W1 at *
          refine hK _ _ ?_
          clear hK K
          refine wpAny_ready (rs := [18]) (by kernel_rfl) (by simp) ?_
          refine AllReady.cons (o := ⟨some 51, _, _, _, _, _⟩) rfl (fun K hK => ?_) AllReady.nil
          refine step_app app_rp (by rfl) (.tmp 33) (.tmp 50) rfl (.slice VA ol vc) ol (pcels (upTo L n k)) rfl (HO.out _ K1.out) _ 1 1 (pcel ((j : Int), x)) rfl rfl HM.out.src (pcel_one _) (by decide) Hm1.out Hm2.out ?_
          intro v2 w2 hg
          have HN := hide (HNX.out _ _ _ K1.out hg.out)
          clear hg
          refine hK _ _ ?_
          clear hK K
          refine wpAny_take (i := 19) (oi := ⟨some 3, _, _, _, _, _⟩) (v := ?_) rfl (by kernel_rfl) (by kernel_rfl) (by kernel_rfl) (fun _ _ _ h => h) (Or.inl ⟨by rfl, ?_⟩) ?_
          rotate_left 1
          · (intro w; go_simp; try with_reducible rfl)
          simp only [Act.put, List.setIfInBounds_toArray, List.set_cons_zero, List.set_cons_succ]
          refine wpAny_done (by kernel_rfl) ?_ _
          go_wp2
          go_roundw
          case rel => exact ⟨k + 1, by have := Hnk.out; omega, Hkq.out, HN.out⟩
          case measure => have := HN.out; exact HMS.out _ _ this
        · have hq := (HC.out _ K0.out).2.1
          go_simp
          clear hq
          refine hK _ _ ?_
          clear hK K
          refine wpAny_take (i := 13) (oi := ⟨some 46, _, _, _, _, _⟩) (v := ?_) rfl (by kernel_rfl) (by kernel_rfl) (by kernel_rfl) (fun _ _ _ h => h) (Or.inl ⟨by rfl, ?_⟩) ?_
          rotate_left 1
          · (intro w; go_simp; try with_reducible rfl)
          simp only [Act.put, List.setIfInBounds_toArray, List.set_cons_zero, List.set_cons_succ]
          refine wpAny_take (i := 14) (oi := ⟨some 47, _, _, _, _, _⟩) (v := ?_) rfl (by kernel_rfl) (by kernel_rfl) (by kernel_rfl) (fun _ _ _ h => h) (Or.inl ⟨by rfl, ?_⟩) ?_
          rotate_left 1
          · (intro w; go_simp; try with_reducible rfl)
          simp only [Act.put, List.setIfInBounds_toArray, List.set_cons_zero, List.set_cons_succ]
          refine wpAny_ready (rs := [4, 15]) (by kernel_rfl) (by simp) ?_
          refine AllReady.cons (o := ⟨some 37, _, _, _, _, _⟩) rfl (fun K hK => ?_) (AllReady.cons (o := ⟨some 48, _, _, _, _, _⟩) rfl (fun K hK => ?_) AllReady.nil)
          · have hq := (HC.out _ K0.out).2.1
            go_simp
            clear hq
            refine hK _ _ ?_
            clear hK K
            refine wpAny_ready (rs := [15]) (by kernel_rfl) (by simp) ?_
            refine AllReady.cons (o := ⟨some 48, _, _, _, _, _⟩) rfl (fun K hK => ?_) AllReady.nil
            have hq := (HC.out _ K0.out).2.2
            go_simp
            clear hq
            refine hK _ _ ?_
            clear hK K
            refine wpAny_take (i := 16) (oi := ⟨some 49, _, _, _, _, _⟩) (v := ?_) rfl (by kernel_rfl) (by kernel_rfl) (by kernel_rfl) (fun _ _ _ h => h) (Or.inl ⟨by rfl, ?_⟩) ?_
            rotate_left 1
            · (intro w; go_simp; try with_reducible rfl)
            simp only [Act.put, List.setIfInBounds_toArray, List.set_cons_zero, List.set_cons_succ]
            refine wpAny_ready (rs := [17]) (by kernel_rfl) (by simp) ?_
            refine AllReady.cons (o := ⟨some 50, _, _, _, _, _⟩) rfl (fun K hK => ?_) AllReady.nil
            go_simp
            have HM := hide (Made.row K0.out #[.int .i64 (j : Int), .string x] 73)
            have K1 := hide HM.out.bel
            generalize World.alloc _ _ = W1 at *
            refine hK _ _ ?_
            clear hK K
            refine wpAny_ready (rs := [18]) (by kernel_rfl) (by simp) ?_
            refine AllReady.cons (o := ⟨some 51, _, _, _, _, _⟩) rfl (fun K hK => ?_) AllReady.nil
            refine step_app app_rp (by rfl) (.tmp 33) (.tmp 50) rfl (.slice VA ol vc) ol (pcels (upTo L n k)) rfl (HO.out _ K1.out) _ 1 1 (pcel ((j : Int), x)) rfl rfl HM.out.src (pcel_one _) (by decide) Hm1.out Hm2.out ?_
            intro v2 w2 hg
            have HN := hide (HNX.out _ _ _ K1.out hg.out)
            clear hg
            refine hK _ _ ?_
            clear hK K
            refine wpAny_take (i := 19) (oi := ⟨some 3, _, _, _, _, _⟩) (v := ?_) rfl (by kernel_rfl) (by kernel_rfl) (by kernel_rfl) (fun _ _ _ h => h) (Or.inl ⟨by rfl, ?_⟩) ?_
            rotate_left 1
            · (intro w; go_simp; try with_reducible rfl)
            simp only [Act.put, List.setIfInBounds_toArray, List.set_cons_zero, List.set_cons_succ]
            refine wpAny_done (by kernel_rfl) ?_ _
            go_wp2
            go_roundw
            case rel => exact ⟨k + 1, by have := Hnk.out; omega, Hkq.out, HN.out⟩
            case measure => have := HN.out; exact HMS.out _ _ this
          · have hq := (HC.out _ K0.out).2.2
            go_simp
            clear hq
            refine hK _ _ ?_
            clear hK K
            refine wpAny_ready (rs := [4]) (by kernel_rfl) (by simp) ?_
            refine AllReady.cons (o := ⟨some 37, _, _, _, _, _⟩) rfl (fun K hK => ?_) AllReady.nil
            have hq := (HC.out _ K0.out).2.1
            go_simp
            clear hq
            refine hK _ _ ?_
            clear hK K
            refine wpAny_take (i := 16) (oi := ⟨some 49, _, _, _, _, _⟩) (v := ?_) rfl (by kernel_rfl) (by kernel_rfl) (by kernel_rfl) (fun _ _ _ h => h) (Or.inl ⟨by rfl, ?_⟩) ?_
            rotate_left 1
            · (intro w; go_simp; try with_reducible rfl)
            simp only [Act.put, List.setIfInBounds_toArray, List.set_cons_zero, List.set_cons_succ]
            refine wpAny_ready (rs := [17]) (by kernel_rfl) (by simp) ?_
            refine AllReady.cons (o := ⟨some 50, _, _, _, _, _⟩) rfl (fun K hK => ?_) AllReady.nil
            go_simp
            have HM := hide (Made.row K0.out #[.int .i64 (j : Int), .string x] 73)
            have K1 := hide HM.out.bel
            generalize World.alloc _ _ = W1 at *
            refine hK _ _ ?_
            clear hK K
            refine wpAny_ready (rs := [18]) (by kernel_rfl) (by simp) ?_
            refine AllReady.cons (o := ⟨some 51, _, _, _, _, _⟩) rfl (fun K hK => ?_) AllReady.nil
            refine step_app app_rp (by rfl) (.tmp 33) (.tmp 50) rfl (.slice VA ol vc) ol (pcels (upTo L n k)) rfl (HO.out _ K1.out) _ 1 1 (pcel ((j : Int), x)) rfl rfl HM.out.src (pcel_one _) (by decide) Hm1.out Hm2.out ?_
            intro v2 w2 hg
            have HN := hide (HNX.out _ _ _ K1.out hg.out)
            clear hg
            refine hK _ _ ?_
            clear hK K
            refine wpAny_take (i := 19) (oi := ⟨some 3, _, _, _, _, _⟩) (v := ?_) rfl (by kernel_rfl) (by kernel_rfl) (by kernel_rfl) (fun _ _ _ h => h) (Or.inl ⟨by rfl, ?_⟩) ?_
            rotate_left 1
            · (intro w; go_simp; try with_reducible rfl)
            simp only [Act.put, List.setIfInBounds_toArray, List.set_cons_zero, List.set_cons_succ]
            refine wpAny_done (by kernel_rfl) ?_ _
            go_wp2
            go_roundw
            case rel => exact ⟨k + 1, by have := Hnk.out; omega, Hkq.out, HN.out⟩
            case measure => have := HN.out; exact HMS.out _ _ this
      · have hq := (HC.out _ K0.out).2.1
        go_simp
        clear hq
        refine hK _ _ ?_
        clear hK K
        refine wpAny_take (i := 13) (oi := ⟨some 46, _, _, _, _, _⟩) (v := ?_) rfl (by kernel_rfl) (by kernel_rfl) (by kernel_rfl) (fun _ _ _ h => h) (Or.inl ⟨by rfl, ?_⟩) ?_
        rotate_left 1
        · (intro w; go_simp; try with_reducible rfl)
        simp only [Act.put, List.setIfInBounds_toArray, List.set_cons_zero, List.set_cons_succ]
        refine wpAny_ready (rs := [4, 8]) (by kernel_rfl) (by simp) ?_
        refine AllReady.cons (o := ⟨some 37, _, _, _, _, _⟩) rfl (fun K hK => ?_) (AllReady.cons (o := ⟨some 41, _, _, _, _, _⟩) rfl (fun K hK => ?_) AllReady.nil)
        · have hq := (HC.out _ K0.out).2.1
          go_simp
          clear hq
          refine hK _ _ ?_
          clear hK K
          refine wpAny_ready (rs := [8]) (by kernel_rfl) (by simp) ?_
          refine AllReady.cons (o := ⟨some 41, _, _, _, _, _⟩) rfl (fun K hK => ?_) AllReady.nil
          have hq := (HC.out _ K0.out).1
          go_simp
          clear hq
          refine hK _ _ ?_
          clear hK K
          refine wpAny_take (i := 14) (oi := ⟨some 47, _, _, _, _, _⟩) (v := ?_) rfl (by kernel_rfl) (by kernel_rfl) (by kernel_rfl) (fun _ _ _ h => h) (Or.inl ⟨by rfl, ?_⟩) ?_
          rotate_left 1
          · (intro w; go_simp; try with_reducible rfl)
          simp only [Act.put, List.setIfInBounds_toArray, List.set_cons_zero, List.set_cons_succ]
          refine wpAny_ready (rs := [15]) (by kernel_rfl) (by simp) ?_
          refine AllReady.cons (o := ⟨some 48, _, _, _, _, _⟩) rfl (fun K hK => ?_) AllReady.nil
          have hq := (HC.out _ K0.out).2.2
          go_simp
          clear hq
          refine hK _ _ ?_
          clear hK K
          refine wpAny_take (i := 16) (oi := ⟨some 49, _, _, _, _, _⟩) (v := ?_) rfl (by kernel_rfl) (by kernel_rfl) (by kernel_rfl) (fun _ _ _ h => h) (Or.inl ⟨by rfl, ?_⟩) ?_
          rotate_left 1
          · (intro w; go_simp; try with_reducible rfl)
          simp only [Act.put, List.setIfInBounds_toArray, List.set_cons_zero, List.set_cons_succ]
          refine wpAny_ready (rs := [17]) (by kernel_rfl) (by simp) ?_
          refine AllReady.cons (o := ⟨some 50, _, _, _, _, _⟩) rfl (fun K hK => ?_) AllReady.nil
          go_simp
          have HM := hide (Made.row K0.out #[.int .i64 (j : Int), .string x] 73)
          have K1 := hide HM.out.bel
          generalize World.alloc _ _ = W1 at *
          refine hK _ _ ?_
          clear hK K
          refine wpAny_ready (rs := [18]) (by kernel_rfl) (by simp) ?_
          refine AllReady.cons (o := ⟨some 51, _, _, _, _, _⟩) rfl (fun K hK => ?_) AllReady.nil
          refine step_app app_rp (by rfl) (.tmp 33) (.tmp 50) rfl (.slice VA ol vc) ol (pcels (upTo L n k)) rfl (HO.out _ K1.out) _ 1 1 (pcel ((j : Int), x)) rfl rfl HM.out.src (pcel_one _) (by decide) Hm1.out Hm2.out ?_
          intro v2 w2 hg
          have HN := hide (HNX.out _ _ _ K1.out hg.out)
          clear hg
          refine hK _ _ ?_
          clear hK K
          refine wpAny_take (i := 19) (oi := ⟨some 3, _, _, _, _, _⟩) (v := ?_) rfl (by kernel_rfl) (by kernel_rfl) (by kernel_rfl) (fun _ _ _ h => h) (Or.inl ⟨by rfl, ?_⟩) ?_
          rotate_left 1
          · (intro w; go_simp; try with_reducible rfl)
          simp only [Act.put, List.setIfInBounds_toArray, List.set_cons_zero, List.set_cons_succ]
          refine wpAny_done (by kernel_rfl) ?_ _
          go_wp2
          go_roundw
          case rel => exact ⟨k + 1, by have := Hnk.out; omega, Hkq.out, HN.out⟩
          case measure => have := HN.out; exact HMS.out _ _ this
        · have hq := (HC.out _ K0.out).1
          go_simp
          clear hq
          refine hK _ _ ?_
          clear hK K
          refine wpAny_take (i := 14) (oi := ⟨some 47, _, _, _, _, _⟩) (v := ?_) rfl (by kernel_rfl) (by kernel_rfl) (by kernel_rfl) (fun _ _ _ h => h) (Or.inl ⟨by rfl, ?_⟩) ?_
          rotate_left 1
          · (intro w; go_simp; try with_reducible rfl)
          simp only [Act.put, List.setIfInBounds_toArray, List.set_cons_zero, List.set_cons_succ]
          refine wpAny_ready (rs := [4, 15]) (by kernel_rfl) (by simp) ?_
          refine AllReady.cons (o := ⟨some 37, _, _, _, _, _⟩) rfl (fun K hK => ?_) (AllReady.cons (o := ⟨some 48, _, _, _, _, _⟩) rfl (fun K hK => ?_) AllReady.nil)
          · have hq := (HC.out _ K0.out).2.1
            go_simp
            clear hq
            refine hK _ _ ?_
            clear hK K
            refine wpAny_ready (rs := [15]) (by kernel_rfl) (by simp) ?_
            refine AllReady.cons (o := ⟨some 48, _, _, _, _, _⟩) rfl (fun K hK => ?_) AllReady.nil
            have hq := (HC.out _ K0.out).2.2
            go_simp
            clear hq
            refine hK _ _ ?_
            clear hK K
            refine wpAny_take (i := 16) (oi := ⟨some 49, _, _, _, _, _⟩) (v := ?_) rfl (by kernel_rfl) (by kernel_rfl) (by kernel_rfl) (fun _ _ _ h => h) (Or.inl ⟨by rfl, ?_⟩) ?_
            rotate_left 1
            · (intro w; go_simp; try with_reducible rfl)
            simp only [Act.put, List.setIfInBounds_toArray, List.set_cons_zero, List.set_cons_succ]
            refine wpAny_ready (rs := [17]) (by kernel_rfl) (by simp) ?_
            refine AllReady.cons (o := ⟨some 50, _, _, _, _, _⟩) rfl (fun K hK => ?_) AllReady.nil
            go_simp
            have HM := hide (Made.row K0.out #[.int .i64 (j : Int), .string x] 73)
            have K1 := hide HM.out.bel
            generalize World.alloc _ _ = W1 at *
            refine hK _ _ ?_
            clear hK K
            refine wpAny_ready (rs := [18]) (by kernel_rfl) (by simp) ?_
            refine AllReady.cons (o := ⟨some 51, _, _, _, _, _⟩) rfl (fun K hK => ?_) AllReady.nil
            refine step_app app_rp (by rfl) (.tmp 33) (.tmp 50) rfl (.slice VA ol vc) ol (pcels (upTo L n k)) rfl (HO.out _ K1.out) _ 1 1 (pcel ((j : Int), x)) rfl rfl HM.out.src (pcel_one _) (by decide) Hm1.out Hm2.out ?_
            intro v2 w2 hg
            have HN := hide (HNX.out _ _ _ K1.out hg.out)
            clear hg
            refine hK _ _ ?_
            clear hK K
            refine wpAny_take (i := 19) (oi := ⟨some 3, _, _, _, _, _⟩) (v := ?_) rfl (by kernel_rfl) (by kernel_rfl) (by kernel_rfl) (fun _ _ _ h => h) (Or.inl ⟨by rfl, ?_⟩) ?_
            rotate_left 1
            · (intro w; go_simp; try with_reducible rfl)
            simp only [Act.put, List.setIfInBounds_toArray, List.set_cons_zero, List.set_cons_succ]
            refine wpAny_done (by kernel_rfl) ?_ _
            go_wp2
            go_roundw
            case rel => exact ⟨k + 1, by have := Hnk.out; omega, Hkq.out, HN.out⟩
            case measure => have := HN.out; exact HMS.out _ _ this
          · have hq := (HC.out _ K0.out).2.2
            go_simp
            clear hq
            refine hK _ _ ?_
            clear hK K
            refine wpAny_ready (rs := [4]) (by kernel_rfl) (by simp) ?_
            refine AllReady.cons (o := ⟨some 37, _, _, _, _, _⟩) rfl (fun K hK => ?_) AllReady.nil
            have hq := (HC.out _ K0.out).2.1
            go_simp
            clear hq
            refine hK _ _ ?_
            clear hK K
            refine wpAny_take (i := 16) (oi := ⟨some 49, _, _, _, _, _⟩) (v := ?_) rfl (by kernel_rfl) (by kernel_rfl) (by kernel_rfl) (fun _ _ _ h => h) (Or.inl ⟨by rfl, ?_⟩) ?_
            rotate_left 1
            · (intro w; go_simp; try with_reducible rfl)
            simp only [Act.put, List.setIfInBounds_toArray, List.set_cons_zero, List.set_cons_succ]
            refine wpAny_ready (rs := [17]) (by kernel_rfl) (by simp) ?_
            refine AllReady.cons (o := ⟨some 50, _, _, _, _, _⟩) rfl (fun K hK => ?_) AllReady.nil
            go_simp
            have HM := hide (Made.row K0.out #[.int .i64 (j : Int), .string x] 73)
            have K1 := hide HM.out.bel
            generalize World.alloc _ _ = W1 at *
            refine hK _ _ ?_
            clear hK K
            refine wpAny_ready (rs := [18]) (by kernel_rfl) (by simp) ?_
            refine AllReady.cons (o := ⟨some 51, _, _, _, _, _⟩) rfl (fun K hK => ?_) AllReady.nil
            refine step_app app_rp (by rfl) (.tmp 33) (.tmp 50) rfl (.slice VA ol vc) ol (pcels (upTo L n k)) rfl (HO.out _ K1.out) _ 1 1 (pcel ((j : Int), x)) rfl rfl HM.out.src (pcel_one _) (by decide) Hm1.out Hm2.out ?_
            intro v2 w2 hg
            have HN := hide (HNX.out _ _ _ K1.out hg.out)
            clear hg
            refine hK _ _ ?_
            clear hK K
            refine wpAny_take (i := 19) (oi := ⟨some 3, _, _, _, _, _⟩) (v := ?_) rfl (by kernel_rfl) (by kernel_rfl) (by kernel_rfl) (fun _ _ _ h => h) (Or.inl ⟨by rfl, ?_⟩) ?_
            rotate_left 1
            · (intro w; go_simp; try with_reducible rfl)
            simp only [Act.put, List.setIfInBounds_toArray, List.set_cons_zero, List.set_cons_succ]
            refine wpAny_done (by kernel_rfl) ?_ _
            go_wp2
            go_roundw
            case rel => exact ⟨k + 1, by have := Hnk.out; omega, Hkq.out, HN.out⟩
            case measure => have := HN.out; exact HMS.out _ _ this
    · obtain rfl : k = q := by omega
      have HAf : Hid (After (rsT p L k a) w G wr) := ⟨G, hri.out.st, Grew.refl _ _, hri.out.kept⟩
      have HRo := hide hri.out.row
      by_cases hkm : k = m
      · have hn1 : ¬ (k : Int) < (m : Int) := by omega
        have hn1n : ¬ k < m := by omega
        clear hx hs fz hf hak hri hge hkq hnk hkm
        go_wp2_with fail
        go_quiet (fail)
        go_wp2
        go_ret
        exact ⟨_, rfl, HRo.out.below ⟨rfl, rfl, rfl, Nat.le_refl _, fun _ _ => rfl⟩, HAf.out.below ⟨rfl, rfl, rfl, Nat.le_refl _, fun _ _ => rfl⟩⟩
      · have hn1 : (k : Int) < (m : Int) := by have := HA.out; omega
        have hn2 : ¬ (f : Int) < 4 := by have := HA.out; omega
        clear hx hs fz hf hak hri hge hkq hnk hkm
        go_wp2_with fail
        go_quiet (fail)
        go_wp2
        go_ret
        exact ⟨_, rfl, HRo.out.below ⟨rfl, rfl, rfl, Nat.le_refl _, fun _ _ => rfl⟩, HAf.out.below ⟨rfl, rfl, rfl, Nat.le_refl _, fun _ _ => rfl⟩⟩
end

end Go.Proofs.YtabjoalkbobhdaaDoor.Ws
