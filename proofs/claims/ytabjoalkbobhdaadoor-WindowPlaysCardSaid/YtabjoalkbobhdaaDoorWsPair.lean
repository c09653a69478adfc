/-
  Both windows side by side, with what was taken: what each call leaves of them. Nothing that was there before is changed.
-/
import Derived.Deep.WholeRow
import Derived.Test.YtabjoalkbobhdaaDoorWsOp
import Derived.Test.YtabjoalkbobhdaaDoorWiAwake
import Derived.Test.YtabjoalkbobhdaaDoorWnErrD
namespace Go.Proofs.YtabjoalkbobhdaaDoor.Ws
open Go.RowKit
open Pk Dk Wn

/-- A new variable of zeros, the world behind it under a name of its own. -/
theorem wpList_alloc_told {P : Program} {ops : Array Oper} {rest : List Oper} {o : Oper} {a : Act} {w : World} {Q : Exit → Act → World → Prop} (hg : o.guard = none) (t : TypeId) (ho : o.op = .alloc t)
    (z : Array Value) (hz : (P.info? t).map (·.zero) = some (some (.agg z)))
    (h : ∀ w', Hid (w' = w.alloc (.cells z t)) → wpList P ops Q rest (a.put o.dst (.pointer (some ⟨w.heap.size, 0, none⟩))) w') : wpList P ops Q (o :: rest) a w := by
  refine wpList_plain hg fun K hK => ?_
  cases hq : P.info? t with
  | none => simp [hq] at hz
  | some i =>
    have hz' : i.zero = some (.agg z) := by simpa [hq] using hz
    have hrun : (zeroValue t).run P w = .ok (.agg z) w := by simp [zeroValue, typeInfo, hq, hz']
    unfold Oper.wp execOp
    simp only [ho, Sem.run_bind, Instr.alloc, newVar, newRow, run_newObj_alloc, Sem.run_pure, Result.andThen_ok, hrun, Value.cells]
    exact hK _ _ (h _ rfl)
/-- A whole block written anew, likewise. -/
theorem wpList_store_told {P : Program} {ops : Array Oper} {rest : List Oper} {o : Oper} {a : Act} {w : World} {Q : Exit → Act → World → Prop} (hg : o.guard = none) (ty : TypeId) (x y : Operand) (ho : o.op = .store ty x y)
    (b : Nat) (cs : Array Value) (hx : a.eval x = .pointer (some ⟨b, 0, none⟩)) (hy : a.eval y = .agg cs) (old : Array Value) (hb : w.heap[b]? = some (.cells old ty (0, 0)))
    (hi : (P.info? ty).map (·.size) = some cs.size) (hs : old.size = cs.size) (h1 : cs.all (·.oneCell') = true)
    (h : ∀ w', Hid (w' = w.setRow b cs) → wpList P ops Q rest (a.put o.dst undef) w') : wpList P ops Q (o :: rest) a w := by
  refine wpList_plain hg fun K hK => ?_
  have hrun := run_storeVar_row (P := P) w b ty ty old cs hb hi hs h1
  unfold Oper.wp execOp
  simp only [ho, hx, hy, Instr.storeAt, Instr.sureAddr, Sem.run_bind, hrun, Sem.run_pure, Result.andThen_ok]
  exact hK _ _ (h _ rfl)
theorem op_size : (Tryd.prog.info? 36).map (·.size) = some 3 := by kernel_rfl
theorem op_zero : (Tryd.prog.info? 36).map (·.zero) = some (some (.agg #[.int .i64 0, .int .i64 0, .string ⟨#[]⟩])) := by kernel_rfl
theorem op_one (o : Oq) : (#[.int .i64 o.kind, .int .i64 o.n, .string o.s] : Array Value).all (·.oneCell') = true :=
  all_oneCell_toArray (cs := [.int .i64 o.kind, .int .i64 o.n, .string o.s]) (fun u hu => by
    simp at hu
    rcases hu with rfl | rfl | rfl <;> rfl)

/-- The window, the document's own, the receiver, what was taken, and what else. -/
abbrev PL (p q r : Nat) (L : List ByteArray) (n a : Nat) (L' : List ByteArray) (n' a' : Nat) (R T : List ByteArray) (tv : Value) (Us : List Thg) : List Thg :=
  sndT p L n a :: rsT q L' n' a' :: rcvT r R :: rowT 9 1 tv T.length (vals T) :: Us
abbrev opT (b : Nat) (o : Oq) : Thg := boxT 36 b (ocel o)
section
variable {w1 w W w' : World} {Us : List Thg} {p q r n a n' a' : Nat} {L L' R T : List ByteArray} {tv v : Value}
theorem P_snd (h : St w1 (PL p q r L n a L' n' a' R T tv Us) w) : ∃ G, Snd p L n a w G ∧ ∀ w' U, After U w G w' → St w1 (U :: rsT q L' n' a' :: rcvT r R :: rowT 9 1 tv T.length (vals T) :: Us) w' := by
  obtain ⟨G, hp, _, hs⟩ := St.opened h (i := 0) rfl
  exact ⟨G, hp, hs⟩
theorem P_rs (h : St w1 (PL p q r L n a L' n' a' R T tv Us) w) : ∃ G, RSnd q L' n' a' w G ∧ ∀ w' U, After U w G w' → St w1 (sndT p L n a :: U :: rcvT r R :: rowT 9 1 tv T.length (vals T) :: Us) w' := by
  obtain ⟨G, hp, _, hs⟩ := St.opened h (i := 1) rfl
  exact ⟨G, hp, hs⟩
theorem P_rcv (h : St w1 (PL p q r L n a L' n' a' R T tv Us) w) : ∃ G, Rcv r R w G ∧ ∀ w' U, After U w G w' → St w1 (sndT p L n a :: rsT q L' n' a' :: U :: rowT 9 1 tv T.length (vals T) :: Us) w' := by
  obtain ⟨G, hp, _, hs⟩ := St.opened h (i := 2) rfl
  exact ⟨G, hp, hs⟩
theorem P_row (h : St w1 (PL p q r L n a L' n' a' R T tv Us) w) : ∃ G, Row 9 1 tv T.length (vals T) w G ∧ ∀ w' U, After U w G w' → St w1 (sndT p L n a :: rsT q L' n' a' :: rcvT r R :: U :: Us) w' := by
  obtain ⟨G, hp, _, hs⟩ := St.opened h (i := 3) rfl
  exact ⟨G, hp, hs⟩
theorem P_form (h : St w1 (PL p q r L n a L' n' a' R T tv Us) w) : ∃ A c, tv = .slice A T.length c ∧ ORow w 9 1 tv T.length (vals T) := by
  obtain ⟨G, hp, _⟩ := P_row h
  obtain ⟨A, c, rfl, _⟩ := hp.row.form
  exact ⟨A, c, rfl, hp.row⟩
theorem P_drop (h : St w1 (PL p q r L n a L' n' a' R T tv Us) w) : St w1 (PL p q r L n a L' n' a' R T tv []) w := St.weaken (Us := Us) h
theorem P_nums (h : St w1 (PL p q r L n a L' n' a' R T tv Us) w) : a ≤ n ∧ n ≤ L.length ∧ n ≤ a + 4 := by
  obtain ⟨G, hp, _⟩ := P_snd h
  exact ⟨hp.an, hp.nl, hp.win⟩
/-- The Op of this round is laid. -/
theorem P_lay {z : Array Value} (h : St w1 (PL p q r L n a L' n' a' R T tv []) w) (o : Oq) {b : Nat} {w5 w6 : World} (hb : b = w.heap.size) (h5 : w5 = w.alloc (.cells z 36))
    (h6 : w6 = w5.setRow b #[.int .i64 o.kind, .int .i64 o.n, .string o.s]) : St w1 (PL p q r L n a L' n' a' R T tv [opT b o]) w6 := by
  subst h5 h6 hb
  have hb2 : Below w.heap.size w ((w.alloc (.cells z 36)).setRow w.heap.size #[.int .i64 o.kind, .int .i64 o.n, .string o.s]) := below_setRow ((Below.refl _ _).alloc (Nat.le_refl _) _) (Nat.le_refl _) _
  exact St.add h hb2 (T := opT w.heap.size o) (G := fun k => k = w.heap.size) ⟨setRow_heap _ _ _ _ _ _ (heap_alloc_new w _), fun k hk => by rw [hk]; simp, rfl⟩ (fun k hk => by rw [hk]; exact Nat.le_refl _)
theorem P_op {b : Nat} {o : Oq} (h : St w1 (PL p q r L n a L' n' a' R T tv (opT b o :: Us)) w) : w.cell? ⟨b, 0, none⟩ = some (.int .i64 o.kind) ∧ w.cell? ⟨b, 1, none⟩ = some (.int .i64 o.n) ∧ w.cell? ⟨b, 2, none⟩ = some (.string o.s) := by
  obtain ⟨G, hp, _, _⟩ := St.opened h (i := 4) rfl
  exact ⟨Box.cell hp 0, Box.cell hp 1, Box.cell hp 2⟩

/-! ### The calls -/
theorem P_push (h : St w1 (PL p q r L n a L' n' a' R T tv Us) w) (hf : L.length < 100000) (x : ByteArray) :
    Calls Tryd.prog 7 #[.pointer (some ⟨p, 0, none⟩), .string x] w fun e w' => e = .returned (.tuple #[]) ∧ St w1 (PL p q r (L ++ [x]) n a L' n' a' R T tv Us) w' := by
  obtain ⟨G, hp, hs⟩ := P_snd h
  exact (Push_any hp hf x).mono fun e w' ⟨he, hA⟩ => ⟨he, hs _ _ hA⟩
theorem P_send (h : St w1 (PL p q r L n a L' n' a' R T tv Us) w) :
    Calls Tryd.prog 10 #[.pointer (some ⟨p, 0, none⟩)] w fun e w' => ∃ v, e = .returned v ∧ Pkts w' w.heap.size v (upTo L n (room a L.length)) ∧ St w1 (PL p q r L (room a L.length) a L' n' a' R T tv Us) w' := by
  obtain ⟨G, hp, hs⟩ := P_snd h
  exact (Send_any hp).mono fun e w' ⟨v, he, hv, hA⟩ => ⟨v, he, hv, hs _ _ hA⟩
theorem P_resend (h : St w1 (PL p q r L n a L' n' a' R T tv Us) w) :
    Calls Tryd.prog 12 #[.pointer (some ⟨p, 0, none⟩)] w fun e w' => ∃ v, e = .returned v ∧ Pkts w' w.heap.size v (upTo L a n) ∧ St w1 (PL p q r L n a L' n' a' R T tv Us) w' := by
  obtain ⟨G, hp, hs⟩ := P_snd h
  exact (Resend_any hp).mono fun e w' ⟨v, he, hv, hb⟩ => ⟨v, he, hv, h.below hb⟩
theorem P_counts (h : St w1 (PL p q r L n a L' n' a' R T tv Us) w) :
    Calls Tryd.prog 19 #[.pointer (some ⟨p, 0, none⟩)] w fun e w' => e = .returned (.tuple #[.int .i64 (L.length : Int), .int .i64 (n : Int), .int .i64 (a : Int)]) ∧ St w1 (PL p q r L n a L' n' a' R T tv Us) w' := by
  obtain ⟨G, hp, hs⟩ := P_snd h
  exact (Counts_any hp).mono fun e w' ⟨he, hb⟩ => ⟨he, h.below hb⟩
theorem P_ackN (h : St w1 (PL p q r L n a L' n' a' R T tv Us) w) (k : Int) (hk : k < 0 ∨ (n : Int) < k) :
    Calls Tryd.prog 14 #[.pointer (some ⟨p, 0, none⟩), .int .i64 k] w fun e w' => ∃ f, e = .returned (.iface 79 (.pointer (some ⟨f, 0, none⟩))) ∧ Flt w' f k 5 ∧ St w1 (PL p q r L n a L' n' a' R T tv Us) w' := by
  obtain ⟨G, hp, hs⟩ := P_snd h
  exact (Ack_bad hp k hk).mono fun e w' ⟨f, he, hf, hb⟩ => ⟨f, he, hf, h.below hb⟩
theorem P_ackY (h : St w1 (PL p q r L n a L' n' a' R T tv Us) w) (k : Nat) (hk : k ≤ n) :
    Calls Tryd.prog 14 #[.pointer (some ⟨p, 0, none⟩), .int .i64 (k : Int)] w fun e w' => e = .returned .nilIface ∧ St w1 (PL p q r L n (max a k) L' n' a' R T tv Us) w' := by
  obtain ⟨G, hp, hs⟩ := P_snd h
  exact (Ack_ok hp k hk).mono fun e w' ⟨he, hA⟩ => ⟨he, hs _ _ hA⟩
theorem P_list (h : St w1 (PL p q r L n a L' n' a' R T tv Us) w) :
    Calls Tryd.prog 21 #[.pointer (some ⟨r, 0, none⟩)] w fun e w' => ∃ v, e = .returned v ∧ Els w' w.heap.size v R ∧ St w1 (PL p q r L n a L' n' a' R T tv Us) w' := by
  obtain ⟨G, hp, hs⟩ := P_rcv h
  exact (List_any hp).mono fun e w' ⟨v, he, hv, hb⟩ => ⟨v, he, hv, h.below hb⟩
theorem P_takeY (h : St w1 (PL p q r L n a L' n' a' R T tv Us) w) (hf : R.length < 100000) (x : ByteArray) :
    Calls Tryd.prog 18 #[.pointer (some ⟨r, 0, none⟩), .agg #[.int .i64 ((R.length : Int) + 1), .string x]] w fun e w' => e = .returned (.int .i64 ((R.length : Int) + 1)) ∧ St w1 (PL p q r L n a L' n' a' (R ++ [x]) T tv Us) w' := by
  obtain ⟨G, hp, hs⟩ := P_rcv h
  exact (Take_next hp hf x).mono fun e w' ⟨he, hA⟩ => ⟨he, hs _ _ hA⟩
theorem P_takeN (h : St w1 (PL p q r L n a L' n' a' R T tv Us) w) (k : Int) (x : ByteArray) (hk : k ≠ (R.length : Int) + 1) :
    Calls Tryd.prog 18 #[.pointer (some ⟨r, 0, none⟩), .agg #[.int .i64 k, .string x]] w fun e w' => e = .returned (.int .i64 (R.length : Int)) ∧ St w1 (PL p q r L n a L' n' a' R T tv Us) w' := by
  obtain ⟨G, hp, hs⟩ := P_rcv h
  exact (Take_other hp k x hk).mono fun e w' ⟨he, hb⟩ => ⟨he, h.below hb⟩
theorem P_rsend (h : St w1 (PL p q r L n a L' n' a' R T tv Us) w) :
    Calls Tryd.prog 11 #[.pointer (some ⟨q, 0, none⟩)] w fun e w' => ∃ v, e = .returned v ∧ RPk w' w.heap.size v (upTo L' n' (room a' L'.length)) ∧ St w1 (PL p q r L n a L' (room a' L'.length) a' R T tv Us) w' := by
  obtain ⟨G, hp, hs⟩ := P_rs h
  exact (RSend_any hp).mono fun e w' ⟨v, he, hv, hA⟩ => ⟨v, he, hv, hs _ _ hA⟩
theorem P_rresend (h : St w1 (PL p q r L n a L' n' a' R T tv Us) w) :
    Calls Tryd.prog 13 #[.pointer (some ⟨q, 0, none⟩)] w fun e w' => ∃ v, e = .returned v ∧ RPk w' w.heap.size v (upTo L' a' n') ∧ St w1 (PL p q r L n a L' n' a' R T tv Us) w' := by
  obtain ⟨G, hp, hs⟩ := P_rs h
  exact (RResend_any hp).mono fun e w' ⟨v, he, hv, hb⟩ => ⟨v, he, hv, h.below hb⟩
theorem P_rackN (h : St w1 (PL p q r L n a L' n' a' R T tv Us) w) (k : Int) (hk : k < 0 ∨ (n' : Int) < k) :
    Calls Tryd.prog 17 #[.pointer (some ⟨q, 0, none⟩), .int .i64 k] w fun e w' => e = .returned (.int .i64 5) ∧ St w1 (PL p q r L n a L' n' a' R T tv Us) w' := by
  obtain ⟨G, hp, hs⟩ := P_rs h
  exact (RAck_bad hp k hk).mono fun e w' ⟨he, hb⟩ => ⟨he, h.below hb⟩
theorem P_rackY (h : St w1 (PL p q r L n a L' n' a' R T tv Us) w) (k : Nat) (hk : k ≤ n') :
    Calls Tryd.prog 17 #[.pointer (some ⟨q, 0, none⟩), .int .i64 (k : Int)] w fun e w' => e = .returned (.int .i64 0) ∧ St w1 (PL p q r L n a L' n' (max a' k) R T tv Us) w' := by
  obtain ⟨G, hp, hs⟩ := P_rs h
  exact (RAck_ok hp k hk).mono fun e w' ⟨he, hA⟩ => ⟨he, hs _ _ hA⟩
/-- The document's cells. -/
theorem P_cells (h : St w1 (PL p q r L n a L' n' a' R T tv Us) w) : ∃ A m c, m = L'.length ∧ w.cell? ⟨q, 0, none⟩ = some (.slice A m c) ∧ w.cell? ⟨q, 1, none⟩ = some (.int .i64 (n' : Int)) ∧ w.cell? ⟨q, 2, none⟩ = some (.int .i64 (a' : Int)) ∧ ORow w 9 1 (.slice A m c) m (vals L') := by
  obtain ⟨G, hp, _⟩ := P_rs h
  obtain ⟨A, m, c, hx, hm, _, _, _, c0, c1, c2, _⟩ := hp.cells
  exact ⟨A, m, c, hm, c0, c1, c2, hx.row⟩
/-- One more element of the document's. -/
theorem P_rpush (h : St w1 (PL p q r L n a L' n' a' R T tv Us) w) (hf : L'.length < 100000) {A : Option Addr} {m c : Nat} (hm : m = L'.length) (hc0 : w.cell? ⟨q, 0, none⟩ = some (.slice A m c)) (x : ByteArray) {W2 : World} (hb : Below w.heap.size w W)
    (hg : Grown W 9 1 (.slice A m c) (m + 1) (vals L' ++ vals [x]) v W2) : W2.cell? ⟨q, 0, none⟩ = some (.slice A m c) ∧ W2.frozen? ⟨q, 0, none⟩ = false ∧ St w1 (PL p q r L n a (L' ++ [x]) n' a' R T tv Us) (W2.setCell ⟨q, 0, none⟩ v) := by
  obtain ⟨G, hp, hs⟩ := P_rs h
  obtain ⟨A', m', c', hx, hm', _, _, _, c0, c1, c2, _⟩ := hp.cells
  rw [hc0] at c0
  simp only [Option.some.injEq, Value.slice.injEq] at c0
  obtain ⟨rfl, rfl, rfl⟩ := c0
  refine ⟨hx.cell' (hx.p_same hb hg) 0, hx.frozen' (hx.p_same hb hg) 0, hs _ (rsT q (L' ++ [x]) n' a') ?_⟩
  obtain ⟨G', h1, h2, h3⟩ := hx.put hb hg
  refine ⟨G', ⟨⟨v, ?_⟩, hp.an, ?_, hp.win, ?_⟩, h2, h3⟩
  · unfold RAt
    rw [List.length_append, ← hm, vals_append]
    exact h1
  · rw [List.length_append]; have := hp.nl; omega
  · rw [List.length_append]; simp; omega
/-- One more is taken, in the statement's own list. -/
theorem P_took (h : St w1 (PL p q r L n a L' n' a' R T tv Us) w) (hb : Below w.heap.size w W) {m : Nat} (hm : m = T.length + 1) (x : ByteArray) (hg : Grown W 9 1 tv m (vals T ++ vals [x]) v w') : St w1 (PL p q r L n a L' n' a' R (T ++ [x]) v Us) w' := by
  obtain ⟨G, hp, hs⟩ := P_row h
  refine hs _ (rowT 9 1 v (T ++ [x]).length (vals (T ++ [x]))) ?_
  rw [List.length_append, List.length_singleton, ← hm, vals_append]
  exact hp.app hb hg
/-- What list made is held on to. -/
theorem P_addP {b : Nat} {o : Oq} {P : List Pkt} (h : St w1 (PL p q r L n a L' n' a' R T tv [opT b o]) w) (hb : Below w.heap.size w w') (hv : RPk w' w.heap.size v P) : St w1 (PL p q r L n a L' n' a' R T tv [opT b o, rowT 73 2 v P.length (pcels P)]) w' :=
  St.add h hb hv.thg (fun k hk => hv.own k hk)
theorem P_srcP {b : Nat} {o : Oq} {P : List Pkt} {A : Option Addr} {c : Nat} (h : St w1 (PL p q r L n a L' n' a' R T tv [opT b o, rowT 73 2 (.slice A P.length c) P.length (pcels P)]) w) : Src w A (pcels P) := by
  obtain ⟨G, hp, _, _⟩ := St.opened h (i := 5) rfl
  exact hp.row.src
end
theorem P_start {w1 w2 w3 w4 : World} (h2 : w2 = w1.alloc (.cells #[.slice none 0 0, .int .i64 0, .int .i64 0] 28)) (h3 : w3 = w2.alloc (.cells #[.slice none 0 0, .int .i64 0, .int .i64 0] 31)) (h4 : w4 = w3.alloc (.cells #[.slice none 0 0] 34)) :
    St w1 (PL w1.heap.size w2.heap.size w3.heap.size [] 0 0 [] 0 0 [] [] (.slice none 0 0) []) w4 := by
  have b2 : Below w1.heap.size w1 w2 := by rw [h2]; exact (Below.refl _ _).alloc (Nat.le_refl _) _
  have b3 : Below w2.heap.size w2 w3 := by rw [h3]; exact (Below.refl _ _).alloc (Nat.le_refl _) _
  have b4 : Below w3.heap.size w3 w4 := by rw [h4]; exact (Below.refl _ _).alloc (Nat.le_refl _) _
  have s1 := (St.start w1).add b2 (T := sndT w1.heap.size [] 0 0) (G := (· = w1.heap.size)) (by rw [h2]; exact Snd.fresh w1) (fun k hk => by rw [hk]; exact Nat.le_refl _)
  have s2 := s1.add b3 (T := rsT w2.heap.size [] 0 0) (G := (· = w2.heap.size)) (by rw [h3]; exact RSnd.fresh w2) (fun k hk => by rw [hk]; exact Nat.le_refl _)
  have s3 := s2.add b4 (T := rcvT w3.heap.size []) (G := (· = w3.heap.size)) (by rw [h4]; exact Rcv.fresh w3) (fun k hk => by rw [hk]; exact Nat.le_refl _)
  exact s3.add (Below.refl _ _) (T := rowT 9 1 (.slice none 0 0) 0 []) (Row.nil w4 _ _) (fun _ h => h.elim)

end Go.Proofs.YtabjoalkbobhdaaDoor.Ws
