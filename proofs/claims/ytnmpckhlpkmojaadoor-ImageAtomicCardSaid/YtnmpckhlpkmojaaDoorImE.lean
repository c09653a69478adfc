/-
  ImageAtomic: wherever an update is cut off, whatever of what is loose is kept: what is opened is exactly the old blocks and marker, or exactly the new ones; and the marker never decreases. Condition: the table of half bytes holds what the program's own text lays.
-/
import Derived.Test.YtnmpckhlpkmojaaDoorImD

/-
  ImageNil: a nil image is down, and empty. Conditions: the table of half bytes, and the library's variable errors.errorType, hold what the program's own text lays.
-/
namespace Go.Proofs.YtnmpckhlpkmojaaDoor.Im
open Go.RowKit
open Pk Sm Fa Rc Dk Wn Lk

/-- A slice of one Op, of texts alone. -/
theorem few_lit (A : Option Addr) (n c : Nat) (l : List ByteArray) (w : World) (hl : l.length = n) (hs : Src w A (texts l)) :
    Calls Tryd.prog 8 #[.slice (some ⟨w.heap.size, 0, none⟩) 1 1] (w.alloc (.cells #[.slice A n c, .int .i64 0, .int .u8 0, .int .u64 0] 35)) fun r w' => FewR (n ≤ 40 ∧ ∀ s ∈ l, s.size ≤ 100) r ∧ w.alloc (.cells #[.slice A n c, .int .i64 0, .int .u8 0, .int .u64 0] 35) = w' := by
  have hb := (Below.refl w.heap.size w).alloc (Nat.le_refl _) (.cells #[.slice A n c, .int .i64 0, .int .u8 0, .int .u64 0] 35)
  have hrow := heap_alloc_new w (.cells #[.slice A n c, .int .i64 0, .int .u8 0, .int .u64 0] 35)
  have hsz : (w.alloc (.cells #[.slice A n c, .int .i64 0, .int .u8 0, .int .u64 0] 35)).heap.size = w.heap.size + 1 := by simp
  have hc := fun j => cell_of_row _ _ j _ _ _ hrow
  refine (few_any (some ⟨w.heap.size, 0, none⟩) 1 1 [⟨A, n, c, l, 0, 0, 0⟩] _ rfl (fun _ => ⟨w.heap.size, 0, rfl, by rw [hsz]; omega, fun j q hq => ?_⟩) fun q hq => ?_).mono ?_
  · match j, hq with
    | 0, hq =>
      obtain rfl : _ = q := by simpa using hq
      exact ⟨hc 0, hc 1, hc 2, hc 3⟩
    | j + 1, hq => simp at hq
  · obtain rfl := List.mem_singleton.1 hq
    exact ⟨⟨by show (-9223372036854775808 : Int) ≤ 0; omega, by show (0 : Int) ≤ _; omega⟩, by show 0 < 256; omega, by show 0 < 18446744073709551616; omega, hl, hs.below hb⟩
  · rintro r w' ⟨⟨b, rfl, h⟩, rfl⟩
    exact ⟨⟨b, rfl, fun e => (h e).2 _ (List.mem_singleton.2 rfl)⟩, rfl⟩
theorem lit_below (w : World) (A : Option Addr) (n c : Nat) : Below w.heap.size w (w.alloc (.cells #[.slice A n c, .int .i64 0, .int .u8 0, .int .u64 0] 35)) := (Below.refl _ _).alloc (Nat.le_refl _) _

set_option maxRecDepth 100000 in
set_option maxHeartbeats 4000000 in
theorem Nil_any (A : Option Addr) (n c : Nat) (l : List ByteArray) (m : Int) (w : World) (ht : Tab w) (hty : Ety w) (hl : l.length = n) (hs : Src w A (texts l)) :
    Calls Tryd.prog 4 #[.slice A n c, .int .i64 m] w fun r w' => r = .returned (.bool true) ∧ Below w.heap.size w w' := by
  have HA := hide (awake_any w ht)
  have HT := hide ht
  have HY := hide hty
  have HYL := hide hty.lt
  have HL := hide hl
  have HS := hide hs
  clear hty ht hl hs
  go_enter Tryd.func4, Tryd.ntmps4
  go_wp2_with fail
  refine HA.out.mono ?_
  rintro e w1 ⟨rfl, hb1⟩
  have HB1 := hide (hb1.trans ((lit_below w1 A n c).mono hb1.size))
  have HF := hide (few_lit A n c l w1 HL.out (HS.out.below hb1))
  clear hb1 HA
  go_wp2_with fail
  generalize w1.alloc _ = w2 at *
  refine HF.out.mono ?_
  rintro e w3 ⟨⟨b, rfl, hgood⟩, rfl⟩
  clear HF
  cases b with
  | false =>
    have HA2 := hide (awake_any w2 (HT.out.below HB1.out HT.out.pos))
    clear hgood
    go_wp2_with fail
    refine HA2.out.mono ?_
    rintro e w3 ⟨rfl, hb3⟩
    have HB3 := hide (HB1.out.trans (hb3.mono HB1.out.size))
    clear hb3 HA2
    go_wp2
    go_ret
    exact ⟨rfl, HB3.out⟩
  | true =>
    obtain ⟨hn, hsz⟩ := hgood rfl
    have HN := hide hn
    have HSZ := hide hsz
    clear hgood hn hsz
    go_wp2_with fail
    refine (Step_nil w2).mono ?_
    rintro e w3 ⟨p3, rfl, hf3, hb3⟩
    have HF3 := hide hf3
    have HB3 := hide (HB1.out.trans (hb3.mono HB1.out.size))
    clear hf3 hb3 HB1
    go_wp2_with fail
    refine (made_any A n c l w3 HL.out HN.out (HS.out.below HB3.out)).mono ?_
    rintro e w4 ⟨rfl, hb4⟩
    have HF4 := hide (HF3.out.below hb4)
    have HB4 := hide (HB3.out.trans (hb4.mono HB3.out.size))
    obtain ⟨M, hM⟩ : ∃ M, M = mk l := ⟨_, rfl⟩
    rw [← hM]
    clear hb4 HB3 HF3 hM
    go_wp2_with fail
    refine (Begin_nil M m w4).mono ?_
    rintro e w5 ⟨p5, rfl, hf5, hb5⟩
    have HF5 := hide (HF4.out.below hb5)
    have HB5 := hide (HB4.out.trans (hb5.mono HB4.out.size))
    have HP5 := hide (place_flt (HY.out.below HB5.out HYL.out) hf5 (by decide))
    clear hf5 hb5 HB4 HF4
    go_wp2_with fail
    refine HP5.out.mono ?_
    rintro e w6 ⟨rfl, hb6⟩
    have HB6 := hide (HB5.out.trans (hb6.mono HB5.out.size))
    have HP6 := hide (place_flt (HY.out.below HB6.out HYL.out) (HF5.out.below hb6) (by decide))
    clear hb6 HB5 HF5 HP5
    go_wp2_with fail
    refine HP6.out.mono ?_
    rintro e w7 ⟨rfl, hb7⟩
    have HB7 := hide (HB6.out.trans (hb7.mono HB6.out.size))
    clear hb7 HB6 HP6
    go_wp2_with fail
    refine (Busy_nil w7).mono ?_
    rintro e w8 ⟨rfl, rfl⟩
    go_wp2_with fail
    refine (Mark_nil w7).mono ?_
    rintro e w8 ⟨rfl, rfl⟩
    go_wp2_with fail
    refine (Blocks_nil w7).mono ?_
    rintro e w8 ⟨rfl, hb8⟩
    have HB8 := hide (HB7.out.trans (hb8.mono HB7.out.size))
    obtain ⟨E, hE⟩ : ∃ E, emp = E := ⟨_, rfl⟩
    rw [hE]
    have heq := fun W => eql_zero E (by rw [← hE]; simp) true (decide_eq_true hE.symm) W
    clear hb8 HB7 hE
    go_wp2
    go_ret
    exact ⟨rfl, HB8.out⟩

end Go.Proofs.YtnmpckhlpkmojaaDoor.Im

/-
  ImageSteps: blocks are laid in thirty-five steps, and are the image's at the last one alone; then, and ahead, no step can be done. Conditions: the table of half bytes, and the library's variable errors.errorType, hold what the program's own text lays.
-/
namespace Go.Proofs.YtnmpckhlpkmojaaDoor.Im
open Go.RowKit
open Pk Sm Fa Rc Dk Wn Lk

/-- A whole block written anew, the world behind it under a name of its own. -/
theorem wpList_blk_told {P : Program} {ops : Array Oper} {rest : List Oper} {o : Oper} {a : Act} {w : World} {Q : Exit → Act → World → Prop} (hg : o.guard = none) (ty : TypeId) (x y : Operand) (ho : o.op = .store ty x y)
    (b : Nat) (cs : Array Value) (hx : a.eval x = .pointer (some ⟨b, 0, none⟩)) (hy : a.eval y = .agg cs) (old : Array Value) (hb : w.heap[b]? = some (.cells old ty (0, 0)))
    (hi : (P.info? ty).map (·.size) = some cs.size) (hs : old.size = cs.size) (h1 : cs.all (·.oneCell') = true)
    (h : ∀ w', Hid (w' = w.setRow b cs) → wpList P ops Q rest (a.put o.dst undef) w') : wpList P ops Q (o :: rest) a w := by
  refine wpList_plain hg fun K hK => ?_
  have hrun := run_storeVar_row (P := P) w b ty ty old cs hb hi hs h1
  unfold Oper.wp execOp
  simp only [ho, hx, hy, Instr.storeAt, Instr.sureAddr, Sem.run_bind, hrun, Sem.run_pure, Result.andThen_ok]
  exact hK _ _ (h _ rfl)
section
variable {w0 w : World} {Ts Us : List Thg} {j b : Nat} {cs cs' : Array Value} {ty : TypeId} {M : List ByteArray}
theorem St.blk_row (h : St w0 Ts w) (hj : Ts[j]? = some (blkT b cs ty)) : St w0 (Ts.set j (blkT b cs' ty)) (w.setRow b cs') := by
  obtain ⟨G, hp, _, hs⟩ := St.opened h hj
  exact hs _ _ (Blk.row_set hp)
abbrev blksT (b : Nat) (M : List ByteArray) : Thg := blkT b (strs M).toArray 38
/-- A variable of blocks. -/
theorem St.var_new (h : St w0 Us w) : St w0 (Us ++ [blksT w.heap.size emp]) (w.alloc (.cells (strs emp).toArray 38)) := St.blk_new h _ _
theorem St.var_set {M' : List ByteArray} (h : St w0 Ts w) (hj : Ts[j]? = some (blksT b M)) : St w0 (Ts.set j (blksT b M')) (w.setRow b (strs M').toArray) := St.blk_row h hj
theorem St.var (h : St w0 Ts w) (hj : Ts[j]? = some (blksT b M)) : Lies w b M := by
  obtain ⟨G, hp, _⟩ := St.opened h hj
  exact Blk.row hp
end
/-- A fault among other things. -/
abbrev fltT (p : Nat) (r k : Int) : Thg := blkT p #[.string nam, .int .i64 r, .iface 48 (.int .i64 k)] 92
theorem St.flt {w0 w w' : World} {Us : List Thg} {pp : Nat} {r k : Int} (h : St w0 Us w) (hf : Flt w' pp r k) (hn : w.heap.size ≤ pp) (hb : Below w.heap.size w w') : St w0 (Us ++ [fltT pp r k]) w' :=
  h.add hb (T := fltT pp r k) (G := (· = pp)) ⟨hf, fun _ => Iff.rfl⟩ fun k hk => by rw [hk]; exact hn
theorem St.flt_at {w0 w : World} {Us : List Thg} {j pp : Nat} {r k : Int} (h : St w0 Us w) (hj : Us[j]? = some (fltT pp r k)) : Flt w pp r k := by
  obtain ⟨G, hp, _⟩ := St.opened h hj
  exact Blk.row hp
theorem u64_in {x : Int} (h0 : 0 ≤ x) (h1 : x < 18446744073709551616) : IntKind.u64.wrap x = x := by
  rw [IntKind.wrap_u64]
  omega
theorem St.lse {w0 w : World} {Ts : List Thg} {a q : Nat} {S : List Sec} {L : List Wr} (h : St w0 Ts w) (ha : Ts[a]? = some (dskT q S L)) : Calls Tryd.prog 20 #[.pointer (some ⟨q, 0, none⟩)] w fun r w' => r = .returned (.int .i64 L.length) ∧ w = w' := by
  obtain ⟨G, hd⟩ := St.disk h ha
  exact Loose_any hd
theorem crash_none (K : Nat) (S : List Sec) : Dk.crash K 0 [] S = S := rfl
/-- k steps of an update of im0 to n were done. -/
def Mid (w0 : World) (q p : Nat) (n : Img) (Us : List Thg) (k : Nat) (w : World) : Prop :=
  ∃ S L, (k < 35 ∧ Upd S L im0 n k ∧ St w0 (PS q p S L im0 n k Us) w) ∨ (k = 35 ∧ Gd S n ∧ St w0 (PS q p S [] n im0 0 Us) w)
set_option maxRecDepth 100000 in
set_option maxHeartbeats 4000000 in
theorem Steps_no (A : Option Addr) (n c : Nat) (l : List ByteArray) (m : Int) (cut : Nat) (w : World) (ht : Tab w) (hty : Ety w) (hl : l.length = n) (hs : Src w A (texts l)) (hcut : cut < 256) (hno : bgn im0 (mk l) m ≠ 0) :
    Calls Tryd.prog 5 #[.slice A n c, .int .i64 m, .int .u8 (cut : Int)] w fun r w' => r = .returned (.bool true) ∧ Below w.heap.size w w' := by
  have HA := hide (awake_any w ht)
  have HT := hide ht
  have HY := hide hty
  have HYL := hide hty.lt
  have HL := hide hl
  have HS := hide hs
  have HCUT := hide hcut
  have HNO := hide hno
  clear hno
  clear hty ht hl hs hcut
  go_enter Tryd.func5, Tryd.ntmps5
  go_wp2_with fail
  refine HA.out.mono ?_
  rintro e w1 ⟨rfl, hb1⟩
  have HB1 := hide (hb1.trans ((lit_below w1 A n c).mono hb1.size))
  have HF := hide (few_lit A n c l w1 HL.out (HS.out.below hb1))
  clear hb1 HA
  go_wp2_with fail
  generalize w1.alloc _ = w2 at *
  refine HF.out.mono ?_
  rintro e w3 ⟨⟨b, rfl, hgood⟩, rfl⟩
  clear HF
  cases b with
  | false =>
    have HA2 := hide (awake_any w2 (HT.out.below HB1.out HT.out.pos))
    clear hgood
    go_wp2_with fail
    refine HA2.out.mono ?_
    rintro e w3 ⟨rfl, hb3⟩
    have HB3 := hide (HB1.out.trans (hb3.mono HB1.out.size))
    clear hb3 HA2
    go_wp2
    go_ret
    exact ⟨rfl, HB3.out⟩
  | true =>
    obtain ⟨hn, hsz⟩ := hgood rfl
    have HN := hide hn
    have HSZ := hide hsz
    have HS2 := hide ((St.start w).below HB1.out)
    clear hgood hn hsz HB1
    go_wp2_with fail
    refine (PS.start HS2.out).mono ?_
    rintro e w3 ⟨q, rfl, hs3⟩
    have HO := hide (PS.open (q := q) (Us := []) hs3 HT.out Gd.fresh)
    clear hs3 HS2
    go_wp2_with fail
    refine HO.out.mono ?_
    rintro e w4 ⟨p, rfl, hs4⟩
    have HS4 := hide hs4
    clear hs4 HO
    go_wp2_with fail
    refine (made_any A n c l w4 HL.out HN.out (HS.out.below HS4.out.bel)).mono ?_
    rintro e w5 ⟨rfl, hb5⟩
    have HS5 := hide (HS4.out.below hb5)
    obtain ⟨M, hM⟩ : ∃ M, M = mk l := ⟨_, rfl⟩
    have hMl : M.length = 32 := by rw [hM]; exact mk_length l
    have HML := hide hMl
    have HMS := hide (show ∀ d ∈ M, d.size ≤ 1000 by rw [hM]; exact mk_short fun s hs => by have := HSZ.out s hs; omega)
    have HMM := hide hM
    rw [← hM]
    clear hb5 HS4 hM hMl
    go_wp2_with (refine wpList_alloc_told rfl 38 rfl _ blks_zero ?_)
    intro w6 H6
    have HS6 := hide (show St w (PS q p _ [] im0 im0 0 [blksT w5.heap.size emp]) w6 by rw [H6.out]; exact St.var_new HS5.out)
    have HV6 := hide (St.var HS6.out (j := 2) rfl)
    clear H6 HS5
    go_wp2_with (refine wpList_blk_told rfl 38 (.tmp 10) (.tmp 39) rfl w5.heap.size (strs M).toArray rfl rfl (strs emp).toArray HV6.out.heap (by rw [blks_size, List.size_toArray, List.length_map, HML.out]) (by rw [List.size_toArray, List.size_toArray, List.length_map, List.length_map, HML.out]; simp) (all_oneCell_toArray (strs_one _)) ?_)
    intro w7 H7
    have HS7 := hide (show St w (PS q p _ [] im0 im0 0 [blksT w5.heap.size M]) w7 by rw [H7.out]; exact St.var_set HS6.out (j := 2) rfl)
    have HV7 := hide (St.var HS7.out (j := 2) rfl)
    have HR7 := hide HV7.out.range
    clear H7 HS6 HV6
    go_wp2_with (first | with_reducible refine wpList_load_mid rfl 38 (.tmp 10) rfl w5.heap.size 0 rfl (strs M) _ HR7.out Tryd.underlying38 rfl (by rw [blks_size, List.length_map, HML.out]) ?_)
    refine (PS.begin_no HS7.out Gd.fresh.sz HML.out HMS.out (by rw [HMM.out]; exact HNO.out)).mono ?_
    rintro e w8 ⟨pp, rfl, hf8, hb8⟩
    have HS8 := hide (HS7.out.below hb8)
    clear hf8 hb8 HS7 HV7 HR7
    go_wp2_with fail
    refine (PS.nostep HS8.out Gd.fresh.sz).mono ?_
    rintro e w9 ⟨p9, rfl, hf9, hb9⟩
    have HS9 := hide (HS8.out.below hb9)
    have HC := hide (Code_flt (HY.out.below HS9.out.bel HYL.out) hf9.1)
    clear hf9 hb9 HS8
    go_wp2_with fail
    refine HC.out.mono ?_
    rintro e w10 ⟨rfl, hb10⟩
    have HS10 := hide (HS9.out.below hb10)
    clear hb10 HS9 HC
    go_wp2_with fail
    refine (PS.idle HS10.out Gd.fresh.sz).mono ?_
    rintro e w11 ⟨rfl, rfl⟩
    go_wp2
    go_ret
    exact ⟨rfl, HS10.out.bel⟩
set_option maxRecDepth 100000 in
set_option maxHeartbeats 4000000 in
theorem Steps_yes (A : Option Addr) (n c : Nat) (l : List ByteArray) (m : Int) (cut : Nat) (w : World) (ht : Tab w) (hty : Ety w) (hl : l.length = n) (hs : Src w A (texts l)) (hcut : cut < 256) (hok : bgn im0 (mk l) m = 0) :
    Calls Tryd.prog 5 #[.slice A n c, .int .i64 m, .int .u8 (cut : Int)] w fun r w' => r = .returned (.bool true) ∧ Below w.heap.size w w' := by
  have HA := hide (awake_any w ht)
  have HT := hide ht
  have HY := hide hty
  have HYL := hide hty.lt
  have HL := hide hl
  have HS := hide hs
  have HCUT := hide hcut
  have HOK := hide hok
  clear hok
  clear hty ht hl hs hcut
  go_enter Tryd.func5, Tryd.ntmps5
  go_wp2_with fail
  refine HA.out.mono ?_
  rintro e w1 ⟨rfl, hb1⟩
  have HB1 := hide (hb1.trans ((lit_below w1 A n c).mono hb1.size))
  have HF := hide (few_lit A n c l w1 HL.out (HS.out.below hb1))
  clear hb1 HA
  go_wp2_with fail
  generalize w1.alloc _ = w2 at *
  refine HF.out.mono ?_
  rintro e w3 ⟨⟨b, rfl, hgood⟩, rfl⟩
  clear HF
  cases b with
  | false =>
    have HA2 := hide (awake_any w2 (HT.out.below HB1.out HT.out.pos))
    clear hgood
    go_wp2_with fail
    refine HA2.out.mono ?_
    rintro e w3 ⟨rfl, hb3⟩
    have HB3 := hide (HB1.out.trans (hb3.mono HB1.out.size))
    clear hb3 HA2
    go_wp2
    go_ret
    exact ⟨rfl, HB3.out⟩
  | true =>
    obtain ⟨hn, hsz⟩ := hgood rfl
    have HN := hide hn
    have HSZ := hide hsz
    have HS2 := hide ((St.start w).below HB1.out)
    clear hgood hn hsz HB1
    go_wp2_with fail
    refine (PS.start HS2.out).mono ?_
    rintro e w3 ⟨q, rfl, hs3⟩
    have HO := hide (PS.open (q := q) (Us := []) hs3 HT.out Gd.fresh)
    clear hs3 HS2
    go_wp2_with fail
    refine HO.out.mono ?_
    rintro e w4 ⟨p, rfl, hs4⟩
    have HS4 := hide hs4
    clear hs4 HO
    go_wp2_with fail
    refine (made_any A n c l w4 HL.out HN.out (HS.out.below HS4.out.bel)).mono ?_
    rintro e w5 ⟨rfl, hb5⟩
    have HS5 := hide (HS4.out.below hb5)
    obtain ⟨M, hM⟩ : ∃ M, M = mk l := ⟨_, rfl⟩
    have hMl : M.length = 32 := by rw [hM]; exact mk_length l
    have HML := hide hMl
    have HMS := hide (show ∀ d ∈ M, d.size ≤ 1000 by rw [hM]; exact mk_short fun s hs => by have := HSZ.out s hs; omega)
    have HMM := hide hM
    rw [← hM]
    clear hb5 HS4 hM hMl
    go_wp2_with (refine wpList_alloc_told rfl 38 rfl _ blks_zero ?_)
    intro w6 H6
    have HS6 := hide (show St w (PS q p _ [] im0 im0 0 [blksT w5.heap.size emp]) w6 by rw [H6.out]; exact St.var_new HS5.out)
    have HV6 := hide (St.var HS6.out (j := 2) rfl)
    clear H6 HS5
    go_wp2_with (refine wpList_blk_told rfl 38 (.tmp 10) (.tmp 39) rfl w5.heap.size (strs M).toArray rfl rfl (strs emp).toArray HV6.out.heap (by rw [blks_size, List.size_toArray, List.length_map, HML.out]) (by rw [List.size_toArray, List.size_toArray, List.length_map, List.length_map, HML.out]; simp) (all_oneCell_toArray (strs_one _)) ?_)
    intro w7 H7
    have HS7 := hide (show St w (PS q p _ [] im0 im0 0 [blksT w5.heap.size M]) w7 by rw [H7.out]; exact St.var_set HS6.out (j := 2) rfl)
    have HV7 := hide (St.var HS7.out (j := 2) rfl)
    have HR7 := hide HV7.out.range
    clear H7 HS6 HV6
    go_wp2_with (first | with_reducible refine wpList_load_mid rfl 38 (.tmp 10) rfl w5.heap.size 0 rfl (strs M) _ HR7.out Tryd.underlying38 rfl (by rw [blks_size, List.length_map, HML.out]) ?_)
    obtain ⟨mk0, hmk, hnx, hbg⟩ := PS.begin_ok HS7.out Gd.fresh.sz HML.out HMS.out (m := m) (by rw [HMM.out]; exact HOK.out) (Nat.zero_le _)
    have HBG := hide hbg
    have HU := hide (Gd.fresh.begin hnx)
    have hnt : (⟨im0.t + 1, mk0, M⟩ : Img).m = mk0 := rfl
    have hnb : (⟨im0.t + 1, mk0, M⟩ : Img).B = M := rfl
    obtain ⟨N, hN⟩ : ∃ N, (⟨im0.t + 1, mk0, M⟩ : Img) = N := ⟨_, rfl⟩
    rw [hN] at HBG HU hnt hnb
    have HNT := hide hnt
    have HNB := hide hnb
    subst hmk
    clear hnx hbg hN hnt hnb HS7 HV7 HR7
    refine HBG.out.mono ?_
    rintro e w8 ⟨rfl, hs8⟩
    have HM8 := hide (show Mid w q p N [blksT w5.heap.size M] 0 w8 from ⟨_, [], Or.inl ⟨by omega, HU.out, hs8⟩⟩)
    clear hs8 HBG HU
    go_wp2
    go_loopw [58] (fun j wr => ∃ k : Nat, k ≤ 35 ∧ j = .int .i64 k ∧ Hid (Mid w q p N [blksT w5.heap.size M] k wr)) (fun j _ => 35 - (intOf j).toNat)
    case atStart => exact ⟨0, by omega, rfl, HM8.out⟩
    case round =>
      clear HM8
      obtain ⟨k, hk, rfl, hmid⟩ := hrel
      obtain ⟨S, L, hx⟩ := hmid.out
      clear hmid
      rcases hx with ⟨hlt, hu, hst⟩ | ⟨rfl, hgd, hst⟩
      · have hki : (k : Int) < 35 := by omega
        have HU := hide hu
        have HST := hide hst
        have HR := hide (St.var hst (j := 2) rfl).range
        clear hu hst
        go_wp2_with (first | with_reducible refine wpList_load_mid rfl 38 (.tmp 10) rfl w5.heap.size 0 rfl (strs M) _ HR.out Tryd.underlying38 rfl (by rw [blks_size, List.length_map, HML.out]) ?_)
        refine (PS.begin_busy HST.out HU.out HML.out HMS.out _).mono ?_
        rintro e w9 ⟨p9, rfl, hf9, hb9⟩
        have HS9 := hide (HST.out.below hb9)
        have HC := hide (Code_flt (HY.out.below HS9.out.bel HYL.out) hf9)
        clear hf9 hb9 HST HR
        go_wp2_with fail
        refine HC.out.mono ?_
        rintro e w10 ⟨rfl, hb10⟩
        have HS10 := hide (HS9.out.below hb10)
        clear hb10 HS9 HC
        go_wp2_with fail
        refine (PS.mark HS10.out).mono ?_
        rintro e w11 ⟨rfl, rfl⟩
        go_wp2_with fail
        refine (PS.blocks HS10.out HU.out.sz).mono ?_
        rintro e w12 ⟨rfl, hb12⟩
        have HS12 := hide (HS10.out.below hb12)
        obtain ⟨E, hE⟩ : ∃ E, im0.B = E := ⟨_, rfl⟩
        rw [hE]
        have heq := fun W => eql_zero E (by rw [← hE]; simp) true (decide_eq_true hE.symm) W
        clear hb12 HS10 hE
        rcases Nat.lt_or_ge k 34 with h34 | h34
        · have hk34 : ((k : Int) == 34) = false := by simp; omega
          have HK34 := hide h34
          clear h34 hlt hk
          go_wp2_with fail
          clear heq
          refine (PS.step HS12.out HU.out HT.out HK34.out).mono ?_
          rintro e w13 ⟨rfl, S', L', hu', hs'⟩
          have HM13 := hide (show Mid w q p N [blksT w5.heap.size M] (k + 1) w13 from ⟨S', L', Or.inl ⟨by have := HK34.out; omega, hu', hs'⟩⟩)
          clear hu' hs' HS12 HU
          go_wp2
          go_roundw
          case rel => exact ⟨k + 1, by have := HK34.out; omega, by go_num, HM13.out⟩
          case measure => have := HK34.out; simp [intOf]; omega
        · obtain rfl : k = 34 := by omega
          clear h34 hlt hk
          go_wp2_with fail
          clear heq
          refine (PS.last HS12.out HU.out HT.out).mono ?_
          rintro e w13 ⟨rfl, hs'⟩
          have HM13 := hide (show Mid w q p N [blksT w5.heap.size M] 35 w13 from ⟨_, [], Or.inr ⟨rfl, HU.out.end_good, hs'⟩⟩)
          clear hs' HS12 HU
          go_wp2
          go_roundw
          case rel => exact ⟨35, by omega, by go_num, HM13.out⟩
          case measure => simp [intOf]
      · have HGD := hide hgd
        have HST := hide hst
        clear hgd hst hk
        go_wp2_with fail
        refine (PS.nostep HST.out HGD.out.sz).mono ?_
        rintro e w9 ⟨p9, rfl, hf9, hb9⟩
        have HS9 := hide (St.flt HST.out hf9.1 hf9.2 hb9)
        clear hf9 hb9 HST
        have HCR := hide (PS.crash HS9.out (K := cut) (by have := HCUT.out; omega) (by simp))
        have hcv : IntKind.u64.wrap (cut : Int) = (cut : Int) := u64_in (by omega) (by have := HCUT.out; omega)
        clear HS9
        go_wp2_with fail
        clear hcv
        refine HCR.out.mono ?_
        rintro e w10 ⟨rfl, hs10⟩
        have HS10 := hide hs10
        clear HCR hs10
        go_wp2_with fail
        refine (PS.open HS10.out HT.out HGD.out).mono ?_
        rintro e w11 ⟨p2, rfl, hs11⟩
        have HS11 := hide hs11
        have HC := hide (Code_flt (HY.out.below hs11.drew.bel HYL.out) (St.flt_at hs11.drew (j := 4) rfl))
        have hV11 := St.var hs11.drew (j := 3) rfl
        have heq := fun W => blks_equal M M HML.out HML.out W
        rw [decide_eq_true (rfl : M = M)] at heq
        clear hs11 HS10
        go_wp2_with fail
        refine wp_region_held (S := (fun W => Lies W w5.heap.size M)) (by kernel_rfl) ?_
        change wpAnyH _ _ _ _ _ _ _ _ (World.drew _)
        refine wpAnyH_take (i := 0) (oi := ⟨some 106, _, _, _, _, _⟩) (v := ?_) rfl (by kernel_rfl) (by kernel_rfl) (by kernel_rfl) (fun _ _ _ h => h) (Or.inl ⟨by rfl, ?_⟩) hV11 ?_
        rotate_left 1
        · (intro w hSw; clear hSw; go_simp; try with_reducible rfl)
        simp only [Act.put, List.setIfInBounds_toArray, List.set_cons_zero, List.set_cons_succ]
        refine wpAnyH_ready (rs := [1]) (by kernel_rfl) (by simp) ?_
        refine AllReadyH.cons (o := ⟨some 107, _, _, _, _, _⟩) rfl (fun K hK => ?_) AllReadyH.nil
        go_simp
        refine HC.out.mono ?_
        rintro e w12 ⟨rfl, hb12⟩
        have HS12 := hide (HS11.out.drew.below hb12)
        have hV12 := St.var HS12.out (j := 3) rfl
        clear hb12 HC HS11
        refine hK.out _ _ hV12 (fun hHeld => ?_)
        clear hK K
        clear hHeld
        refine wpAnyH_take (i := 2) (oi := ⟨some 108, _, _, _, _, _⟩) (v := ?_) rfl (by kernel_rfl) (by kernel_rfl) (by kernel_rfl) (fun _ _ _ h => h) (Or.inl ⟨by rfl, ?_⟩) hV12 ?_
        rotate_left 1
        · (intro w hSw; clear hSw; go_simp; try with_reducible rfl)
        simp only [Act.put, List.setIfInBounds_toArray, List.set_cons_zero, List.set_cons_succ]
        refine wpAnyH_take (i := 3) (oi := ⟨some 109, _, _, _, _, _⟩) (v := ?_) rfl (by kernel_rfl) (by kernel_rfl) (by kernel_rfl) (fun _ _ _ h => h) (Or.inl ⟨by rfl, ?_⟩) hV12 ?_
        rotate_left 1
        · (intro w hSw; clear hSw; go_simp; try with_reducible rfl)
        simp only [Act.put, List.setIfInBounds_toArray, List.set_cons_zero, List.set_cons_succ]
        refine wpAnyH_take (i := 4) (oi := ⟨some 110, _, _, _, _, _⟩) (v := ?_) rfl (by kernel_rfl) (by kernel_rfl) (by kernel_rfl) (fun _ _ _ h => h) (Or.inl ⟨by rfl, ?_⟩) hV12 ?_
        rotate_left 1
        · (intro w hSw; clear hSw; go_simp; try with_reducible rfl)
        simp only [Act.put, List.setIfInBounds_toArray, List.set_cons_zero, List.set_cons_succ]
        refine wpAnyH_take (i := 6) (oi := ⟨some 112, _, _, _, _, _⟩) (v := ?_) rfl (by kernel_rfl) (by kernel_rfl) (by kernel_rfl) (fun _ _ _ h => h) (Or.inl ⟨by rfl, ?_⟩) hV12 ?_
        rotate_left 1
        · (intro w hSw; clear hSw; go_simp; try with_reducible rfl)
        simp only [Act.put, List.setIfInBounds_toArray, List.set_cons_zero, List.set_cons_succ]
        refine wpAnyH_ready (rs := [5]) (by kernel_rfl) (by simp) ?_
        refine AllReadyH.cons (o := ⟨some 111, _, _, _, _, _⟩) rfl (fun K hK => ?_) AllReadyH.nil
        go_simp
        refine (Mark_any (St.ib HS12.out (j := 2) rfl)).mono ?_
        rintro e w13 ⟨rfl, hw13⟩
        rw [← hw13, HNT.out]
        clear hw13
        refine hK.out _ _ hV12 (fun hHeld => ?_)
        clear hK K
        clear hHeld
        refine wpAnyH_take (i := 7) (oi := ⟨some 113, _, _, _, _, _⟩) (v := ?_) rfl (by kernel_rfl) (by kernel_rfl) (by kernel_rfl) (fun _ _ _ h => h) (Or.inl ⟨by rfl, ?_⟩) hV12 ?_
        rotate_left 1
        · (intro w hSw; clear hSw; go_simp; try with_reducible rfl)
        simp only [Act.put, List.setIfInBounds_toArray, List.set_cons_zero, List.set_cons_succ]
        refine wpAnyH_take (i := 8) (oi := ⟨some 114, _, _, _, _, _⟩) (v := ?_) rfl (by kernel_rfl) (by kernel_rfl) (by kernel_rfl) (fun _ _ _ h => h) (Or.inl ⟨by rfl, ?_⟩) hV12 ?_
        rotate_left 1
        · (intro w hSw; clear hSw; go_simp; try with_reducible rfl)
        simp only [Act.put, List.setIfInBounds_toArray, List.set_cons_zero, List.set_cons_succ]
        refine wpAnyH_take (i := 9) (oi := ⟨some 115, _, _, _, _, _⟩) (v := ?_) rfl (by kernel_rfl) (by kernel_rfl) (by kernel_rfl) (fun _ _ _ h => h) (Or.inl ⟨by rfl, ?_⟩) hV12 ?_
        rotate_left 1
        · (intro w hSw; clear hSw; go_simp; try with_reducible rfl)
        simp only [Act.put, List.setIfInBounds_toArray, List.set_cons_zero, List.set_cons_succ]
        refine wpAnyH_take (i := 10) (oi := ⟨some 116, _, _, _, _, _⟩) (v := ?_) rfl (by kernel_rfl) (by kernel_rfl) (by kernel_rfl) (fun _ _ _ h => h) (Or.inl ⟨by rfl, ?_⟩) hV12 ?_
        rotate_left 1
        · (intro w hSw; clear hSw; go_simp; try with_reducible rfl)
        simp only [Act.put, List.setIfInBounds_toArray, List.set_cons_zero, List.set_cons_succ]
        refine wpAnyH_take (i := 12) (oi := ⟨some 118, _, _, _, _, _⟩) (v := bval M) rfl (by kernel_rfl) (by kernel_rfl) (by kernel_rfl) (fun _ _ _ h => h) (yields_blks (by rfl) (.tmp 10) rfl w5.heap.size rfl M HML.out (fun w hw => hw)) hV12 ?_
        simp only [Act.put, List.setIfInBounds_toArray, List.set_cons_zero, List.set_cons_succ]
        refine wpAnyH_ready (rs := [11]) (by kernel_rfl) (by simp) ?_
        refine AllReadyH.cons (o := ⟨some 117, _, _, _, _, _⟩) rfl (fun K hK => ?_) AllReadyH.nil
        go_simp
        refine (Blocks_any (St.ib HS12.out (j := 2) rfl) HGD.out.sz).mono ?_
        rintro e w13 ⟨rfl, hb13⟩
        rw [HNB.out]
        have HS13 := hide (HS12.out.below hb13)
        have hV13 := St.var HS13.out (j := 3) rfl
        clear hb13 HS12
        refine hK.out _ _ hV13 (fun hHeld => ?_)
        clear hK K
        clear hHeld
        refine wpAnyH_take (i := 13) (oi := ⟨some 119, _, _, _, _, _⟩) (v := ?_) rfl (by kernel_rfl) (by kernel_rfl) (by kernel_rfl) (fun _ _ _ h => h) (Or.inl ⟨by rfl, ?_⟩) hV13 ?_
        rotate_left 1
        · (intro w hSw; clear hSw; go_simp; try with_reducible rfl)
        simp only [Act.put, List.setIfInBounds_toArray, List.set_cons_zero, List.set_cons_succ]
        refine wpAnyH_take (i := 14) (oi := ⟨some 120, _, _, _, _, _⟩) (v := ?_) rfl (by kernel_rfl) (by kernel_rfl) (by kernel_rfl) (fun _ _ _ h => h) (Or.inl ⟨by rfl, ?_⟩) hV13 ?_
        rotate_left 1
        · (intro w hSw; clear hSw; go_simp; try with_reducible rfl)
        simp only [Act.put, List.setIfInBounds_toArray, List.set_cons_zero, List.set_cons_succ]
        refine wpAnyH_take (i := 15) (oi := ⟨some 121, _, _, _, _, _⟩) (v := ?_) rfl (by kernel_rfl) (by kernel_rfl) (by kernel_rfl) (fun _ _ _ h => h) (Or.inl ⟨by rfl, ?_⟩) hV13 ?_
        rotate_left 1
        · (intro w hSw; clear hSw; go_simp; try with_reducible rfl)
        simp only [Act.put, List.setIfInBounds_toArray, List.set_cons_zero, List.set_cons_succ]
        refine wpAnyH_take (i := 16) (oi := ⟨some 122, _, _, _, _, _⟩) (v := ?_) rfl (by kernel_rfl) (by kernel_rfl) (by kernel_rfl) (fun _ _ _ h => h) (Or.inl ⟨by rfl, ?_⟩) hV13 ?_
        rotate_left 1
        · (intro w hSw; clear hSw; go_simp; try with_reducible rfl)
        simp only [Act.put, List.setIfInBounds_toArray, List.set_cons_zero, List.set_cons_succ]
        refine wpAnyH_take (i := 17) (oi := ⟨some 123, _, _, _, _, _⟩) (v := ?_) rfl (by kernel_rfl) (by kernel_rfl) (by kernel_rfl) (fun _ _ _ h => h) (Or.inl ⟨by rfl, ?_⟩) hV13 ?_
        rotate_left 1
        · (intro w hSw; clear hSw; go_simp; try with_reducible rfl)
        simp only [Act.put, List.setIfInBounds_toArray, List.set_cons_zero, List.set_cons_succ]
        refine wpAnyH_take (i := 18) (oi := ⟨some 124, _, _, _, _, _⟩) (v := ?_) rfl (by kernel_rfl) (by kernel_rfl) (by kernel_rfl) (fun _ _ _ h => h) (Or.inl ⟨by rfl, ?_⟩) hV13 ?_
        rotate_left 1
        · (intro w hSw; clear hSw; go_simp; try with_reducible rfl)
        simp only [Act.put, List.setIfInBounds_toArray, List.set_cons_zero, List.set_cons_succ]
        refine wpAnyH_take (i := 19) (oi := ⟨some 125, _, _, _, _, _⟩) (v := ?_) rfl (by kernel_rfl) (by kernel_rfl) (by kernel_rfl) (fun _ _ _ h => h) (Or.inl ⟨by rfl, ?_⟩) hV13 ?_
        rotate_left 1
        · (intro w hSw; clear hSw; go_simp; try with_reducible rfl)
        simp only [Act.put, List.setIfInBounds_toArray, List.set_cons_zero, List.set_cons_succ]
        refine wpAnyH_take (i := 20) (oi := ⟨some 126, _, _, _, _, _⟩) (v := ?_) rfl (by kernel_rfl) (by kernel_rfl) (by kernel_rfl) (fun _ _ _ h => h) (Or.inl ⟨by rfl, ?_⟩) hV13 ?_
        rotate_left 1
        · (intro w hSw; clear hSw; go_simp; try with_reducible rfl)
        simp only [Act.put, List.setIfInBounds_toArray, List.set_cons_zero, List.set_cons_succ]
        refine wpAnyH_take (i := 22) (oi := ⟨some 128, _, _, _, _, _⟩) (v := ?_) rfl (by kernel_rfl) (by kernel_rfl) (by kernel_rfl) (fun _ _ _ h => h) (Or.inl ⟨by rfl, ?_⟩) hV13 ?_
        rotate_left 1
        · (intro w hSw; clear hSw; go_simp; try with_reducible rfl)
        simp only [Act.put, List.setIfInBounds_toArray, List.set_cons_zero, List.set_cons_succ]
        refine wpAnyH_ready (rs := [21]) (by kernel_rfl) (by simp) ?_
        refine AllReadyH.cons (o := ⟨some 127, _, _, _, _, _⟩) rfl (fun K hK => ?_) AllReadyH.nil
        go_simp
        refine (Mark_any (St.ib HS13.out (j := 1) rfl)).mono ?_
        rintro e w14 ⟨rfl, hw14⟩
        rw [← hw14, HNT.out]
        clear hw14
        refine hK.out _ _ hV13 (fun hHeld => ?_)
        clear hK K
        clear hHeld
        refine wpAnyH_take (i := 23) (oi := ⟨some 129, _, _, _, _, _⟩) (v := ?_) rfl (by kernel_rfl) (by kernel_rfl) (by kernel_rfl) (fun _ _ _ h => h) (Or.inl ⟨by rfl, ?_⟩) hV13 ?_
        rotate_left 1
        · (intro w hSw; clear hSw; go_simp; try with_reducible rfl)
        simp only [Act.put, List.setIfInBounds_toArray, List.set_cons_zero, List.set_cons_succ]
        refine wpAnyH_take (i := 24) (oi := ⟨some 130, _, _, _, _, _⟩) (v := ?_) rfl (by kernel_rfl) (by kernel_rfl) (by kernel_rfl) (fun _ _ _ h => h) (Or.inl ⟨by rfl, ?_⟩) hV13 ?_
        rotate_left 1
        · (intro w hSw; clear hSw; go_simp; try with_reducible rfl)
        simp only [Act.put, List.setIfInBounds_toArray, List.set_cons_zero, List.set_cons_succ]
        refine wpAnyH_take (i := 25) (oi := ⟨some 131, _, _, _, _, _⟩) (v := ?_) rfl (by kernel_rfl) (by kernel_rfl) (by kernel_rfl) (fun _ _ _ h => h) (Or.inl ⟨by rfl, ?_⟩) hV13 ?_
        rotate_left 1
        · (intro w hSw; clear hSw; go_simp; try with_reducible rfl)
        simp only [Act.put, List.setIfInBounds_toArray, List.set_cons_zero, List.set_cons_succ]
        refine wpAnyH_take (i := 26) (oi := ⟨some 132, _, _, _, _, _⟩) (v := ?_) rfl (by kernel_rfl) (by kernel_rfl) (by kernel_rfl) (fun _ _ _ h => h) (Or.inl ⟨by rfl, ?_⟩) hV13 ?_
        rotate_left 1
        · (intro w hSw; clear hSw; go_simp; try with_reducible rfl)
        simp only [Act.put, List.setIfInBounds_toArray, List.set_cons_zero, List.set_cons_succ]
        refine wpAnyH_take (i := 28) (oi := ⟨some 134, _, _, _, _, _⟩) (v := bval M) rfl (by kernel_rfl) (by kernel_rfl) (by kernel_rfl) (fun _ _ _ h => h) (yields_blks (by rfl) (.tmp 10) rfl w5.heap.size rfl M HML.out (fun w hw => hw)) hV13 ?_
        simp only [Act.put, List.setIfInBounds_toArray, List.set_cons_zero, List.set_cons_succ]
        refine wpAnyH_ready (rs := [27]) (by kernel_rfl) (by simp) ?_
        refine AllReadyH.cons (o := ⟨some 133, _, _, _, _, _⟩) rfl (fun K hK => ?_) AllReadyH.nil
        go_simp
        refine (Blocks_any (St.ib HS13.out (j := 1) rfl) HGD.out.sz).mono ?_
        rintro e w14 ⟨rfl, hb14⟩
        rw [HNB.out]
        have HS14 := hide (HS13.out.below hb14)
        have hV14 := St.var HS14.out (j := 3) rfl
        clear hb14 HS13
        refine hK.out _ _ hV14 (fun hHeld => ?_)
        clear hK K
        clear hHeld
        refine wpAnyH_take (i := 29) (oi := ⟨some 135, _, _, _, _, _⟩) (v := ?_) rfl (by kernel_rfl) (by kernel_rfl) (by kernel_rfl) (fun _ _ _ h => h) (Or.inl ⟨by rfl, ?_⟩) hV14 ?_
        rotate_left 1
        · (intro w hSw; clear hSw; go_simp; try with_reducible rfl)
        simp only [Act.put, List.setIfInBounds_toArray, List.set_cons_zero, List.set_cons_succ]
        refine wpAnyH_take (i := 30) (oi := ⟨some 136, _, _, _, _, _⟩) (v := ?_) rfl (by kernel_rfl) (by kernel_rfl) (by kernel_rfl) (fun _ _ _ h => h) (Or.inl ⟨by rfl, ?_⟩) hV14 ?_
        rotate_left 1
        · (intro w hSw; clear hSw; go_simp; try with_reducible rfl)
        simp only [Act.put, List.setIfInBounds_toArray, List.set_cons_zero, List.set_cons_succ]
        refine wpAnyH_take (i := 31) (oi := ⟨some 137, _, _, _, _, _⟩) (v := ?_) rfl (by kernel_rfl) (by kernel_rfl) (by kernel_rfl) (fun _ _ _ h => h) (Or.inl ⟨by rfl, ?_⟩) hV14 ?_
        rotate_left 1
        · (intro w hSw; clear hSw; go_simp; try with_reducible rfl)
        simp only [Act.put, List.setIfInBounds_toArray, List.set_cons_zero, List.set_cons_succ]
        refine wpAnyH_take (i := 32) (oi := ⟨some 138, _, _, _, _, _⟩) (v := ?_) rfl (by kernel_rfl) (by kernel_rfl) (by kernel_rfl) (fun _ _ _ h => h) (Or.inl ⟨by rfl, ?_⟩) hV14 ?_
        rotate_left 1
        · (intro w hSw; clear hSw; go_simp; try with_reducible rfl)
        simp only [Act.put, List.setIfInBounds_toArray, List.set_cons_zero, List.set_cons_succ]
        refine wpAnyH_ready (rs := [33]) (by kernel_rfl) (by simp) ?_
        refine AllReadyH.cons (o := ⟨some 139, _, _, _, _, _⟩) rfl (fun K hK => ?_) AllReadyH.nil
        go_simp
        refine (St.lse HS14.out (a := 0) rfl).mono ?_
        rintro e w15 ⟨rfl, hw15⟩
        rw [← hw15]
        clear hw15
        refine hK.out _ _ hV14 (fun hHeld => ?_)
        clear hK K
        clear hHeld
        refine wpAnyH_take (i := 34) (oi := ⟨some 140, _, _, _, _, _⟩) (v := ?_) rfl (by kernel_rfl) (by kernel_rfl) (by kernel_rfl) (fun _ _ _ h => h) (Or.inl ⟨by rfl, ?_⟩) hV14 ?_
        rotate_left 1
        · (intro w hSw; clear hSw; go_simp; try with_reducible rfl)
        simp only [Act.put, List.setIfInBounds_toArray, List.set_cons_zero, List.set_cons_succ]
        refine wpAnyH_take (i := 35) (oi := ⟨some 141, _, _, _, _, _⟩) (v := ?_) rfl (by kernel_rfl) (by kernel_rfl) (by kernel_rfl) (fun _ _ _ h => h) (Or.inl ⟨by rfl, ?_⟩) hV14 ?_
        rotate_left 1
        · (intro w hSw; clear hSw; go_simp; try with_reducible rfl)
        simp only [Act.put, List.setIfInBounds_toArray, List.set_cons_zero, List.set_cons_succ]
        refine wpAnyH_take (i := 36) (oi := ⟨some 6, _, _, _, _, _⟩) (v := ?_) rfl (by kernel_rfl) (by kernel_rfl) (by kernel_rfl) (fun _ _ _ h => h) (Or.inl ⟨by rfl, ?_⟩) hV14 ?_
        rotate_left 1
        · (intro w hSw; clear hSw; go_simp; try with_reducible rfl)
        simp only [Act.put, List.setIfInBounds_toArray, List.set_cons_zero, List.set_cons_succ]
        refine wpAnyH_done (by kernel_rfl) ?_ _
        skip
        clear hV11 hV12 hV13 hV14 heq
        go_wp2
        go_ret
        exact ⟨rfl, HS14.out.bel⟩
theorem Steps_any (A : Option Addr) (n c : Nat) (l : List ByteArray) (m : Int) (cut : Nat) (w : World) (ht : Tab w) (hty : Ety w) (hl : l.length = n) (hs : Src w A (texts l)) (hcut : cut < 256) :
    Calls Tryd.prog 5 #[.slice A n c, .int .i64 m, .int .u8 (cut : Int)] w fun r w' => r = .returned (.bool true) ∧ Below w.heap.size w w' := by
  by_cases h : bgn im0 (mk l) m = 0
  · exact Steps_yes A n c l m cut w ht hty hl hs hcut h
  · exact Steps_no A n c l m cut w ht hty hl hs hcut h

end Go.Proofs.YtnmpckhlpkmojaaDoor.Im

/-
  ImageTurns: images that are laid one behind the other are each opened as they were laid, as long as the markers rise; one whose does not is refused, and changes nothing. Conditions: the table of half bytes, and the library's variable errors.errorType, hold what the program's own text lays.
-/
namespace Go.Proofs.YtnmpckhlpkmojaaDoor.Im
open Go.RowKit
open Pk Sm Fa Rc Dk Wn Lk

/-- k steps of an update of i to n were done. -/
def Mid2 (w0 : World) (q p : Nat) (i n : Img) (Us : List Thg) (k : Nat) (w : World) : Prop :=
  ∃ S L, (k < 35 ∧ Upd S L i n k ∧ St w0 (PS q p S L i n k Us) w) ∨ (k = 35 ∧ Gd S n ∧ St w0 (PS q p S [] n im0 0 Us) w)
/-- Any step. -/
theorem Mid2.step {w0 w : World} {q p : Nat} {i n : Img} {Us : List Thg} {k : Nat} (h : Mid2 w0 q p i n Us k w) (ht : Tab w0) (hk : k < 35) :
    Calls Tryd.prog 15 #[.pointer (some ⟨p, 0, none⟩)] w fun e w' => e = .returned (.tuple #[.bool (decide (k = 34)), .nilIface]) ∧ Mid2 w0 q p i n Us (k + 1) w' := by
  obtain ⟨S, L, ⟨_, hu, hs⟩ | ⟨h1, _, _⟩⟩ := h
  · rcases Nat.lt_or_ge k 34 with h34 | h34
    · refine (PS.step hs hu ht h34).mono ?_
      rintro e w' ⟨rfl, S', L', hu', hs'⟩
      rw [decide_eq_false (show ¬ k = 34 by omega)]
      exact ⟨rfl, S', L', Or.inl ⟨by omega, hu', hs'⟩⟩
    · obtain rfl : k = 34 := by omega
      refine (PS.last hs hu ht).mono ?_
      rintro e w' ⟨rfl, hs'⟩
      exact ⟨rfl, _, [], Or.inr ⟨rfl, hu.end_good, hs'⟩⟩
  · omega
theorem Mid2.done {w0 w : World} {q p : Nat} {i n : Img} {Us : List Thg} (h : Mid2 w0 q p i n Us 35 w) : ∃ S, Gd S n ∧ St w0 (PS q p S [] n im0 0 Us) w := by
  obtain ⟨S, L, ⟨h1, _⟩ | ⟨_, h2, h3⟩⟩ := h
  · omega
  · exact ⟨S, h2, h3⟩
/-- Between two rounds. -/
def Trn (w0 : World) (q p wv : Nat) (i : Img) (k : Nat) (w : World) : Prop := ∃ S, Gd S i ∧ i.t ≤ k ∧ St w0 (PS q p S [] i im0 0 [blksT wv i.B]) w
theorem bgn_one {i : Img} {B : List ByteArray} {m : Int} (h : bgn i B m ≠ 0) : bgn i B m = 1 ∨ (bgn i B m = 10 ∧ m ≤ (i.m : Int)) := by
  unfold bgn at h ⊢
  split
  · exact Or.inl rfl
  · rename_i h1
    rw [if_neg h1] at h
    split
    · rename_i h2
      exact Or.inr ⟨rfl, h2⟩
    · rename_i h2
      rw [if_neg h2] at h
      exact absurd rfl h
theorem row_all (xs ys : List Value) (h : xs.length = ys.length) : xs.toArray.toList.take 0 ++ (ys ++ xs.toArray.toList.drop (0 + ys.length)) = ys := by
  show [] ++ (ys ++ xs.drop (0 + ys.length)) = ys
  rw [List.nil_append, Nat.zero_add, List.drop_of_length_le (by omega), List.append_nil]
set_option maxRecDepth 100000 in
set_option maxHeartbeats 8000000 in
theorem Turns_any (A : Option Addr) (n c : Nat) (l : List Oq) (w : World) (ht : Tab w) (hty : Ety w) (hl : l.length = n) (hf : OFits w l) (hp : Ops w A l) :
    Calls Tryd.prog 6 #[.slice A n c] w fun r w' => r = .returned (.bool true) ∧ Below w.heap.size w w' := by
  have HA := hide (awake_any w ht)
  have HT := hide ht
  have HY := hide hty
  have HYL := hide hty.lt
  have HL := hide hl
  have HF := hide hf
  have HP := hide hp
  clear hty ht hl hf hp
  go_enter Tryd.func6, Tryd.ntmps6
  go_wp2_with fail
  refine HA.out.mono ?_
  rintro e w1 ⟨rfl, hb1⟩
  have HB1 := hide hb1
  have HW := hide (few_any A n c l w1 HL.out (HP.out.below hb1) (HF.out.below hb1))
  have HA2 := hide (awake_any w1 (HT.out.below HB1.out HT.out.pos))
  clear hb1 HA
  go_wp2_with fail
  refine HW.out.mono ?_
  rintro e w3 ⟨⟨b, rfl, hgood⟩, rfl⟩
  clear HW
  cases b with
  | false =>
    clear hgood
    go_wp2_with fail
    refine HA2.out.mono ?_
    rintro e w3 ⟨rfl, hb3⟩
    have HB3 := hide (HB1.out.trans (hb3.mono HB1.out.size))
    clear hb3 HA2
    go_wp2
    go_ret
    exact ⟨rfl, HB3.out⟩
  | true =>
    obtain ⟨hn, hsm⟩ := hgood rfl
    have HSM := hide hsm
    clear hgood hsm
    by_cases h6 : 6 < n
    · have h6i : (6 : Int) < (n : Int) := by omega
      clear h6
      go_wp2_with fail
      refine HA2.out.mono ?_
      rintro e w3 ⟨rfl, hb3⟩
      have HB3 := hide (HB1.out.trans (hb3.mono HB1.out.size))
      clear hb3 HA2
      go_wp2
      go_ret
      exact ⟨rfl, HB3.out⟩
    have h6i : ¬ (6 : Int) < (n : Int) := by omega
    have hn6 : n ≤ 6 := by omega
    have HS1 := hide ((St.start w).below HB1.out)
    clear HA2 HB1 h6 hn
    go_wp2_with fail
    refine (PS.start HS1.out).mono ?_
    rintro e w3 ⟨q, rfl, hs3⟩
    have HO := hide (PS.open (q := q) (Us := []) hs3 HT.out Gd.fresh)
    clear hs3 HS1
    go_wp2_with fail
    refine HO.out.mono ?_
    rintro e w4 ⟨p0, rfl, hs4⟩
    have HS4 := hide hs4
    clear hs4 HO
    go_wp2_with (refine wpList_alloc_told rfl 38 rfl _ blks_zero ?_)
    intro w6 H6
    have HS6 := hide (show St w (PS q p0 _ [] im0 im0 0 [blksT w4.heap.size emp]) w6 by rw [H6.out]; exact St.var_new HS4.out)
    have HV6 := hide (St.var HS6.out (j := 2) rfl)
    clear H6 HS4
    go_wp2_with (refine wpList_row_told rfl 38 (.tmp 6) (.tmp 33) rfl w4.heap.size 0 (strs emp) rfl (by kernel_rfl) 38 (strs emp).toArray HV6.out.heap (by kernel_rfl) (by simp) (strs_one _) ?_)
    intro w7 H7
    have HT7 := hide (show Trn w q p0 w4.heap.size im0 0 w7 from ⟨_, Gd.fresh, Nat.le_refl _, by rw [H7.out]; exact St.var_set (M' := emp) HS6.out (j := 2) rfl⟩)
    clear H7 HS6 HV6
    generalize w4.heap.size = wv at *
    go_wp2
    go_loopw [4, 7, 36] (fun pv mv j wr => ∃ (k p : Nat) (i : Img), k ≤ n ∧ j = .int .i64 k ∧ pv = .pointer (some ⟨p, 0, none⟩) ∧ mv = .int .i64 (i.m : Int) ∧ Hid (Trn w q p wv i k wr)) (fun _ _ j _ => n - (intOf j).toNat)
    case atStart => exact ⟨0, p0, im0, Nat.zero_le _, rfl, rfl, rfl, HT7.out⟩
    case round =>
      clear HT7
      obtain ⟨k, p, i, hk, rfl, rfl, rfl, htr⟩ := hrel
      rcases Nat.lt_or_ge k n with hlt | hge
      · obtain ⟨S, hgd, hti, hst⟩ := htr.out
        have hki : (k : Int) < (n : Int) := by omega
        have HK := hide hlt
        obtain ⟨o, hok⟩ : ∃ o, l[k]? = some o := ⟨_, List.getElem?_eq_getElem (by rw [HL.out]; exact hlt)⟩
        obtain ⟨ob, oo, hA, hob, hat⟩ := HP.out.at_ hok
        have hfit := hide (HF.out o (List.mem_of_getElem? hok))
        have HSMo := hide (HSM.out o (List.mem_of_getElem? hok))
        have hcl := (hat.below hob hst.bel).1
        have HAT := hide hat
        have HOB := hide hob
        have HG := hide hgd
        have HTI := hide hti
        have HST := hide hst
        rw [hA]
        clear htr hgd hti hst hat hok hlt hk
        go_wp2_with fail
        refine (made_any o.a o.n o.c o.l wr hfit.out.len HSMo.out.1 (hfit.out.src.below HST.out.bel)).mono ?_
        rintro e w8 ⟨rfl, hb8⟩
        have HS8 := hide (HST.out.below hb8)
        obtain ⟨M, hM⟩ : ∃ M, M = mk o.l := ⟨_, rfl⟩
        have HML := hide (show M.length = 32 by rw [hM]; exact mk_length _)
        have HMS := hide (show ∀ d ∈ M, d.size ≤ 1000 by rw [hM]; exact mk_short fun s hs => by have := HSMo.out.2 s hs; omega)
        rw [← hM]
        clear hb8 hM hcl HST
        go_wp2_with (refine wpList_alloc_told rfl 38 rfl _ blks_zero ?_)
        intro w9 H9
        have HS9 := hide (show St w (PS q p S [] i im0 0 [blksT wv i.B, blksT w8.heap.size emp]) w9 by rw [H9.out]; exact St.var_new HS8.out)
        have HV9 := hide (St.var HS9.out (j := 3) rfl)
        clear H9 HS8
        go_wp2_with (refine wpList_blk_told rfl 38 (.tmp 9) (.tmp 44) rfl w8.heap.size (strs M).toArray rfl rfl (strs emp).toArray HV9.out.heap (by rw [blks_size, List.size_toArray, List.length_map, HML.out]) (by rw [List.size_toArray, List.size_toArray, List.length_map, List.length_map, HML.out]; simp) (all_oneCell_toArray (strs_one _)) ?_)
        intro w10 H10
        have HS10 := hide (show St w (PS q p S [] i im0 0 [blksT wv i.B, blksT w8.heap.size M]) w10 by rw [H10.out]; exact St.var_set HS9.out (j := 3) rfl)
        clear H10 HS9 HV9
        generalize w8.heap.size = bb at *
        have hS12 : Lies w10.drew bb M ∧ w10.drew.cell? ⟨ob, oo + k * 4 + 1, none⟩ = some (.int .i64 o.mark) := ⟨St.var HS10.out.drew (j := 3) rfl, (HAT.out.below HOB.out HS10.out.drew.bel).2.1⟩
        by_cases hbg : bgn i M o.mark = 0
        · obtain ⟨mk0, hmk, hnx, hcall⟩ := PS.begin_ok HS10.out.drew HG.out.sz HML.out HMS.out hbg (by have := HTI.out; omega)
          have HCALL := hide hcall
          have HU := hide (HG.out.begin hnx)
          have HMK := hide hmk
          have HMO := hide (show i.m < mk0 from hnx.more)
          clear hbg hmk hnx hcall HMS
          go_wp2_with fail
          refine wp_region_held (S := (fun W => Lies W bb M ∧ W.cell? ⟨ob, oo + k * 4 + 1, none⟩ = some (.int .i64 o.mark))) (by kernel_rfl) ?_
          change wpAnyH _ _ _ _ _ _ _ _ (World.drew _)
          refine wpAnyH_take (i := 0) (oi := ⟨some 45, _, _, _, _, _⟩) (v := ?_) rfl (by kernel_rfl) (by kernel_rfl) (by kernel_rfl) (fun _ _ _ h => h) (Or.inl ⟨by rfl, ?_⟩) hS12 ?_
          rotate_left 1
          · (intro w hSw; obtain ⟨hSw1, hSw2⟩ := hSw; go_simp; try with_reducible rfl)
          simp only [Act.put, List.setIfInBounds_toArray, List.set_cons_zero, List.set_cons_succ]
          refine wpAnyH_take (i := 1) (oi := ⟨some 46, _, _, _, _, _⟩) (v := bval M) rfl (by kernel_rfl) (by kernel_rfl) (by kernel_rfl) (fun _ _ _ h => h) (yields_blks (by rfl) (.tmp 9) rfl bb rfl M HML.out (fun w hw => hw.1)) hS12 ?_
          simp only [Act.put, List.setIfInBounds_toArray, List.set_cons_zero, List.set_cons_succ]
          refine wpAnyH_take (i := 2) (oi := ⟨some 47, _, _, _, _, _⟩) (v := ?_) rfl (by kernel_rfl) (by kernel_rfl) (by kernel_rfl) (fun _ _ _ h => h) (Or.inl ⟨by rfl, ?_⟩) hS12 ?_
          rotate_left 1
          · (intro w hSw; obtain ⟨hSw1, hSw2⟩ := hSw; go_simp; try with_reducible rfl)
          simp only [Act.put, List.setIfInBounds_toArray, List.set_cons_zero, List.set_cons_succ]
          refine wpAnyH_take (i := 3) (oi := ⟨some 48, _, _, _, _, _⟩) (v := ?_) rfl (by kernel_rfl) (by kernel_rfl) (by kernel_rfl) (fun _ _ _ h => h) (Or.inl ⟨by rfl, ?_⟩) hS12 ?_
          rotate_left 1
          · (intro w hSw; obtain ⟨hSw1, hSw2⟩ := hSw; go_simp; try with_reducible rfl)
          simp only [Act.put, List.setIfInBounds_toArray, List.set_cons_zero, List.set_cons_succ]
          refine wpAnyH_take (i := 4) (oi := ⟨some 49, _, _, _, _, _⟩) (v := ?_) rfl (by kernel_rfl) (by kernel_rfl) (by kernel_rfl) (fun _ _ _ h => h) (Or.inl ⟨by rfl, ?_⟩) hS12 ?_
          rotate_left 1
          · (intro w hSw; obtain ⟨hSw1, hSw2⟩ := hSw; go_simp; try with_reducible rfl)
          simp only [Act.put, List.setIfInBounds_toArray, List.set_cons_zero, List.set_cons_succ]
          refine wpAnyH_take (i := 5) (oi := ⟨some 50, _, _, _, _, _⟩) (v := ?_) rfl (by kernel_rfl) (by kernel_rfl) (by kernel_rfl) (fun _ _ _ h => h) (Or.inl ⟨by rfl, ?_⟩) hS12 ?_
          rotate_left 1
          · (intro w hSw; obtain ⟨hSw1, hSw2⟩ := hSw; go_simp; try with_reducible rfl)
          simp only [Act.put, List.setIfInBounds_toArray, List.set_cons_zero, List.set_cons_succ]
          refine wpAnyH_take (i := 6) (oi := ⟨some 51, _, _, _, _, _⟩) (v := ?_) rfl (by kernel_rfl) (by kernel_rfl) (by kernel_rfl) (fun _ _ _ h => h) (Or.inl ⟨by rfl, ?_⟩) hS12 ?_
          rotate_left 1
          · (intro w hSw; obtain ⟨hSw1, hSw2⟩ := hSw; go_simp; try with_reducible rfl)
          simp only [Act.put, List.setIfInBounds_toArray, List.set_cons_zero, List.set_cons_succ]
          refine wpAnyH_ready (rs := [7]) (by kernel_rfl) (by simp) ?_
          refine AllReadyH.cons (o := ⟨some 52, _, _, _, _, _⟩) rfl (fun K hK => ?_) AllReadyH.nil
          go_simp
          refine HCALL.out.mono ?_
          rintro e w12 ⟨rfl, hs12⟩
          have HS12 := hide hs12
          have hS13 : Lies w12 bb M ∧ w12.cell? ⟨ob, oo + k * 4 + 1, none⟩ = some (.int .i64 o.mark) := ⟨St.var hs12 (j := 3) rfl, (HAT.out.below HOB.out hs12.bel).2.1⟩
          clear hs12 HCALL HS10
          refine hK.out _ _ hS13 (fun hHeld => ?_)
          clear hK K
          clear hHeld
          refine wpAnyH_take (i := 8) (oi := ⟨some 10, _, _, _, _, _⟩) (v := ?_) rfl (by kernel_rfl) (by kernel_rfl) (by kernel_rfl) (fun _ _ _ h => h) (Or.inl ⟨by rfl, ?_⟩) hS13 ?_
          rotate_left 1
          · (intro w hSw; obtain ⟨hSw1, hSw2⟩ := hSw; go_simp; try with_reducible rfl)
          simp only [Act.put, List.setIfInBounds_toArray, List.set_cons_zero, List.set_cons_succ]
          refine wpAnyH_done (by kernel_rfl) ?_ _
          skip
          clear hS12 hS13
          have HM14 := hide (show Mid2 w q p i ⟨i.t + 1, mk0, M⟩ [blksT wv i.B, blksT bb M] 0 w12 from ⟨_, [], Or.inl ⟨by omega, HU.out, HS12.out⟩⟩)
          obtain ⟨N, hN⟩ : ∃ N, (⟨i.t + 1, mk0, M⟩ : Img) = N := ⟨_, rfl⟩
          have HNE := hide hN
          rw [hN] at HM14
          clear HS12 HU hN
          go_wp2
          go_loopw [55] (fun j wt => ∃ x : Nat, x ≤ 35 ∧ j = .int .i64 x ∧ Hid (Mid2 w q p i N [blksT wv i.B, blksT bb M] x wt)) (fun j _ => 35 - (intOf j).toNat)
          case atStart => exact ⟨0, by omega, rfl, HM14.out⟩
          case round =>
            clear HM14
            obtain ⟨x, hx, rfl, hmid⟩ := hrel
            rcases Nat.lt_or_ge x 35 with hlt | hge
            · have hxi : (x : Int) < 35 := by omega
              have HX := hide hlt
              have HSTP := hide (hmid.out.step HT.out hlt)
              clear hmid hlt hx
              go_wp2_with fail
              refine HSTP.out.mono ?_
              rintro e w15 ⟨rfl, hm⟩
              have HM15 := hide hm
              clear hm HSTP
              go_wp2
              go_roundw
              case rel => exact ⟨x + 1, HX.out, by go_num, HM15.out⟩
              case measure => have := HX.out; simp [intOf]; omega
            · obtain rfl : x = 35 := by omega
              obtain ⟨S1, hg1, hs1⟩ := hmid.out.done
              have HG1 := hide hg1
              have HS15 := hide hs1
              have hcm := (HAT.out.below HOB.out hs1.bel).2.1
              have hle : ¬ o.mark ≤ (i.m : Int) := by have := HMO.out; have := HMK.out; omega
              have hS20 : Lies wr.drew bb M ∧ wr.drew.cell? ⟨ob, oo + k * 4 + 1, none⟩ = some (.int .i64 o.mark) := ⟨St.var hs1.drew (j := 3) rfl, (HAT.out.below HOB.out hs1.drew.bel).2.1⟩
              have HVW := hide (St.var hs1.drew (j := 2) rfl)
              have HIB := hide HG.out.sz.i
              have HROW := hide (row_all (strs i.B) (strs M) (by rw [List.length_map, List.length_map, HML.out, HIB.out]))
              have HS16 := hide (show St w (PS q p S1 [] N im0 0 [blksT wv M, blksT bb M]) (wr.drew.setRow wv (strs M).toArray) from St.var_set hs1.drew (j := 2) rfl)
              have HSHOW := hide (show Lies (wr.drew.setRow wv (strs M).toArray) bb M ∧ (wr.drew.setRow wv (strs M).toArray).cell? ⟨ob, oo + k * 4 + 1, none⟩ = some (.int .i64 o.mark) from ⟨St.var HS16.out (j := 3) rfl, (HAT.out.below HOB.out HS16.out.bel).2.1⟩)
              clear hmid hge hx hg1 hs1
              go_wp2_with fail
              refine wp_region_held (S := (fun W => Lies W bb M ∧ W.cell? ⟨ob, oo + k * 4 + 1, none⟩ = some (.int .i64 o.mark))) (by kernel_rfl) ?_
              change wpAnyH _ _ _ _ _ _ _ _ (World.drew _)
              refine wpAnyH_take (i := 0) (oi := ⟨some 67, _, _, _, _, _⟩) (v := bval M) rfl (by kernel_rfl) (by kernel_rfl) (by kernel_rfl) (fun _ _ _ h => h) (yields_blks (by rfl) (.tmp 9) rfl bb rfl M HML.out (fun w hw => hw.1)) hS20 ?_
              simp only [Act.put, List.setIfInBounds_toArray, List.set_cons_zero, List.set_cons_succ]
              refine wpAnyH_take (i := 1) (oi := ⟨some 68, _, _, _, _, _⟩) (v := ?_) rfl (by kernel_rfl) (by kernel_rfl) (by kernel_rfl) (fun _ _ _ h => h) (Or.inl ⟨by rfl, ?_⟩) hS20 ?_
              rotate_left 1
              · (intro w hSw; obtain ⟨hSw1, hSw2⟩ := hSw; go_simp; try with_reducible rfl)
              simp only [Act.put, List.setIfInBounds_toArray, List.set_cons_zero, List.set_cons_succ]
              refine wpAnyH_take (i := 2) (oi := ⟨some 69, _, _, _, _, _⟩) (v := ?_) rfl (by kernel_rfl) (by kernel_rfl) (by kernel_rfl) (fun _ _ _ h => h) (Or.inl ⟨by rfl, ?_⟩) hS20 ?_
              rotate_left 1
              · (intro w hSw; obtain ⟨hSw1, hSw2⟩ := hSw; go_simp; try with_reducible rfl)
              simp only [Act.put, List.setIfInBounds_toArray, List.set_cons_zero, List.set_cons_succ]
              refine wpAnyH_take (i := 3) (oi := ⟨some 70, _, _, _, _, _⟩) (v := ?_) rfl (by kernel_rfl) (by kernel_rfl) (by kernel_rfl) (fun _ _ _ h => h) (Or.inl ⟨by rfl, ?_⟩) hS20 ?_
              rotate_left 1
              · (intro w hSw; obtain ⟨hSw1, hSw2⟩ := hSw; go_simp; try with_reducible rfl)
              simp only [Act.put, List.setIfInBounds_toArray, List.set_cons_zero, List.set_cons_succ]
              refine wpAnyH_take (i := 4) (oi := ⟨some 71, _, _, _, _, _⟩) (v := ?_) rfl (by kernel_rfl) (by kernel_rfl) (by kernel_rfl) (fun _ _ _ h => h) (Or.inl ⟨by rfl, ?_⟩) hS20 ?_
              rotate_left 1
              · (intro w hSw; obtain ⟨hSw1, hSw2⟩ := hSw; go_simp; try with_reducible rfl)
              simp only [Act.put, List.setIfInBounds_toArray, List.set_cons_zero, List.set_cons_succ]
              refine wpAnyH_take (i := 5) (oi := ⟨some 72, _, _, _, _, _⟩) (v := ?_) rfl (by kernel_rfl) (by kernel_rfl) (by kernel_rfl) (fun _ _ _ h => h) (Or.inl ⟨by rfl, ?_⟩) hS20 ?_
              rotate_left 1
              · (intro w hSw; obtain ⟨hSw1, hSw2⟩ := hSw; go_simp; try with_reducible rfl)
              simp only [Act.put, List.setIfInBounds_toArray, List.set_cons_zero, List.set_cons_succ]
              refine wpAnyH_ready (rs := [6]) (by kernel_rfl) (by simp) ?_
              refine AllReadyH.cons (o := ⟨none, _, _, _, _, _⟩) rfl (fun K hK => ?_) AllReadyH.nil
              refine step_wp rfl (Dk.wp_store_at 38 (.tmp 6) (.tmp 67) rfl wv 0 (strs M) rfl rfl 38 (strs i.B).toArray HVW.out.heap (by rw [List.length_map, HML.out]; exact blks_size) (by rw [List.size_toArray, List.length_map, List.length_map, HML.out, HIB.out]; omega) (strs_one _) ?_)
              rw [HROW.out]
              refine hK.out _ _ HSHOW.out (fun hHeld => ?_)
              clear hK K
              clear hHeld
              refine wpAnyH_take (i := 7) (oi := ⟨some 7, _, _, _, _, _⟩) (v := ?_) rfl (by kernel_rfl) (by kernel_rfl) (by kernel_rfl) (fun _ _ _ h => h) (Or.inl ⟨by rfl, ?_⟩) HSHOW.out ?_
              rotate_left 1
              · (intro w hSw; obtain ⟨hSw1, hSw2⟩ := hSw; go_simp; try with_reducible rfl)
              simp only [Act.put, List.setIfInBounds_toArray, List.set_cons_zero, List.set_cons_succ]
              refine wpAnyH_done (by kernel_rfl) ?_ _
              skip
              generalize wr.drew.setRow _ _ = w16 at *
              have hNB : N.B = M := by rw [← HNE.out]
              have hmv : o.mark = (N.m : Int) := by rw [HMK.out, ← HNE.out]
              have HS17 := hide (show St w (PS q p S1 [] N im0 0 [blksT wv N.B, blksT bb M]) w16 by rw [hNB]; exact HS16.out)
              have HGD := HG1
              have HTI2 := hide (show N.t ≤ k + 1 by rw [← HNE.out]; have := HTI.out; show i.t + 1 ≤ k + 1; omega)
              have HMV := hide hmv
              clear hS20 HVW HROW HSHOW HS16 hcm hle hNB
              have HAG := hide (PS.again HS17.out HT.out HGD.out)
              clear HS17
              go_wp2_with fail
              refine HAG.out.mono ?_
              rintro e w17 ⟨p1, rfl, hs17⟩
              have HS17 := hide hs17
              have heq := fun W => blks_equal N.B N.B HGD.out.sz.i HGD.out.sz.i W
              rw [decide_eq_true (rfl : N.B = N.B)] at heq
              have hV17 := St.var hs17.drew (j := 2) rfl
              clear hs17 HAG
              go_wp2_with fail
              refine wp_region_held (S := (fun W => Lies W wv N.B)) (by kernel_rfl) ?_
              change wpAnyH _ _ _ _ _ _ _ _ (World.drew _)
              refine wpAnyH_take (i := 0) (oi := ⟨some 99, _, _, _, _, _⟩) (v := ?_) rfl (by kernel_rfl) (by kernel_rfl) (by kernel_rfl) (fun _ _ _ h => h) (Or.inl ⟨by rfl, ?_⟩) hV17 ?_
              rotate_left 1
              · (intro w hSw; clear hSw; go_simp; try with_reducible rfl)
              simp only [Act.put, List.setIfInBounds_toArray, List.set_cons_zero, List.set_cons_succ]
              refine wpAnyH_take (i := 1) (oi := ⟨some 100, _, _, _, _, _⟩) (v := ?_) rfl (by kernel_rfl) (by kernel_rfl) (by kernel_rfl) (fun _ _ _ h => h) (Or.inl ⟨by rfl, ?_⟩) hV17 ?_
              rotate_left 1
              · (intro w hSw; clear hSw; go_simp; try with_reducible rfl)
              simp only [Act.put, List.setIfInBounds_toArray, List.set_cons_zero, List.set_cons_succ]
              refine wpAnyH_take (i := 2) (oi := ⟨some 101, _, _, _, _, _⟩) (v := ?_) rfl (by kernel_rfl) (by kernel_rfl) (by kernel_rfl) (fun _ _ _ h => h) (Or.inl ⟨by rfl, ?_⟩) hV17 ?_
              rotate_left 1
              · (intro w hSw; clear hSw; go_simp; try with_reducible rfl)
              simp only [Act.put, List.setIfInBounds_toArray, List.set_cons_zero, List.set_cons_succ]
              refine wpAnyH_take (i := 3) (oi := ⟨some 102, _, _, _, _, _⟩) (v := ?_) rfl (by kernel_rfl) (by kernel_rfl) (by kernel_rfl) (fun _ _ _ h => h) (Or.inl ⟨by rfl, ?_⟩) hV17 ?_
              rotate_left 1
              · (intro w hSw; clear hSw; go_simp; try with_reducible rfl)
              simp only [Act.put, List.setIfInBounds_toArray, List.set_cons_zero, List.set_cons_succ]
              refine wpAnyH_take (i := 5) (oi := ⟨some 104, _, _, _, _, _⟩) (v := bval N.B) rfl (by kernel_rfl) (by kernel_rfl) (by kernel_rfl) (fun _ _ _ h => h) (yields_blks (by rfl) (.tmp 6) rfl wv rfl N.B HGD.out.sz.i (fun w hw => hw)) hV17 ?_
              simp only [Act.put, List.setIfInBounds_toArray, List.set_cons_zero, List.set_cons_succ]
              refine wpAnyH_ready (rs := [4]) (by kernel_rfl) (by simp) ?_
              refine AllReadyH.cons (o := ⟨some 103, _, _, _, _, _⟩) rfl (fun K hK => ?_) AllReadyH.nil
              go_simp
              refine (PS.blocks HS17.out.drew HGD.out.sz).mono ?_
              rintro e w18 ⟨rfl, hb18⟩
              have HS18 := hide (HS17.out.drew.below hb18)
              have hV18 := St.var HS18.out (j := 2) rfl
              clear hb18 HS17
              refine hK.out _ _ hV18 (fun hHeld => ?_)
              clear hK K
              clear hHeld
              refine wpAnyH_take (i := 6) (oi := ⟨some 105, _, _, _, _, _⟩) (v := ?_) rfl (by kernel_rfl) (by kernel_rfl) (by kernel_rfl) (fun _ _ _ h => h) (Or.inl ⟨by rfl, ?_⟩) hV18 ?_
              rotate_left 1
              · (intro w hSw; clear hSw; go_simp; try with_reducible rfl)
              simp only [Act.put, List.setIfInBounds_toArray, List.set_cons_zero, List.set_cons_succ]
              refine wpAnyH_take (i := 7) (oi := ⟨some 106, _, _, _, _, _⟩) (v := ?_) rfl (by kernel_rfl) (by kernel_rfl) (by kernel_rfl) (fun _ _ _ h => h) (Or.inl ⟨by rfl, ?_⟩) hV18 ?_
              rotate_left 1
              · (intro w hSw; clear hSw; go_simp; try with_reducible rfl)
              simp only [Act.put, List.setIfInBounds_toArray, List.set_cons_zero, List.set_cons_succ]
              refine wpAnyH_take (i := 8) (oi := ⟨some 107, _, _, _, _, _⟩) (v := ?_) rfl (by kernel_rfl) (by kernel_rfl) (by kernel_rfl) (fun _ _ _ h => h) (Or.inl ⟨by rfl, ?_⟩) hV18 ?_
              rotate_left 1
              · (intro w hSw; clear hSw; go_simp; try with_reducible rfl)
              simp only [Act.put, List.setIfInBounds_toArray, List.set_cons_zero, List.set_cons_succ]
              refine wpAnyH_take (i := 9) (oi := ⟨some 108, _, _, _, _, _⟩) (v := ?_) rfl (by kernel_rfl) (by kernel_rfl) (by kernel_rfl) (fun _ _ _ h => h) (Or.inl ⟨by rfl, ?_⟩) hV18 ?_
              rotate_left 1
              · (intro w hSw; clear hSw; go_simp; try with_reducible rfl)
              simp only [Act.put, List.setIfInBounds_toArray, List.set_cons_zero, List.set_cons_succ]
              refine wpAnyH_take (i := 11) (oi := ⟨some 110, _, _, _, _, _⟩) (v := ?_) rfl (by kernel_rfl) (by kernel_rfl) (by kernel_rfl) (fun _ _ _ h => h) (Or.inl ⟨by rfl, ?_⟩) hV18 ?_
              rotate_left 1
              · (intro w hSw; clear hSw; go_simp; try with_reducible rfl)
              simp only [Act.put, List.setIfInBounds_toArray, List.set_cons_zero, List.set_cons_succ]
              refine wpAnyH_ready (rs := [10]) (by kernel_rfl) (by simp) ?_
              refine AllReadyH.cons (o := ⟨some 109, _, _, _, _, _⟩) rfl (fun K hK => ?_) AllReadyH.nil
              go_simp
              refine (PS.mark HS18.out).mono ?_
              rintro e w19 ⟨rfl, hw19⟩
              rw [← hw19]
              clear hw19
              refine hK.out _ _ hV18 (fun hHeld => ?_)
              clear hK K
              clear hHeld
              refine wpAnyH_take (i := 12) (oi := ⟨some 111, _, _, _, _, _⟩) (v := ?_) rfl (by kernel_rfl) (by kernel_rfl) (by kernel_rfl) (fun _ _ _ h => h) (Or.inl ⟨by rfl, ?_⟩) hV18 ?_
              rotate_left 1
              · (intro w hSw; clear hSw; go_simp; try with_reducible rfl)
              simp only [Act.put, List.setIfInBounds_toArray, List.set_cons_zero, List.set_cons_succ]
              refine wpAnyH_take (i := 13) (oi := ⟨some 112, _, _, _, _, _⟩) (v := ?_) rfl (by kernel_rfl) (by kernel_rfl) (by kernel_rfl) (fun _ _ _ h => h) (Or.inl ⟨by rfl, ?_⟩) hV18 ?_
              rotate_left 1
              · (intro w hSw; clear hSw; go_simp; try with_reducible rfl)
              simp only [Act.put, List.setIfInBounds_toArray, List.set_cons_zero, List.set_cons_succ]
              refine wpAnyH_done (by kernel_rfl) ?_ _
              skip
              have HTR := hide (show Trn w q p1 wv N (k + 1) w18 from ⟨S1, HGD.out, HTI2.out, St.left (Us := [blksT bb M]) HS18.out⟩)
              clear hV17 hV18 heq HS18
              go_wp2
              go_roundw
              case rel => exact ⟨k + 1, p1, N, HK.out, by go_num, rfl, rfl, HTR.out⟩
              case measure => have := HK.out; simp [intOf]; omega
        · have HBN := hide (PS.begin_no HS10.out.drew HG.out.sz HML.out HMS.out hbg)
          have hone := bgn_one hbg
          obtain ⟨cc, hcc⟩ : ∃ cc, bgn i M o.mark = cc := ⟨_, rfl⟩
          rw [hcc] at HBN hone
          clear hbg hcc HMS
          go_wp2_with fail
          refine wp_region_held (S := (fun W => Lies W bb M ∧ W.cell? ⟨ob, oo + k * 4 + 1, none⟩ = some (.int .i64 o.mark))) (by kernel_rfl) ?_
          change wpAnyH _ _ _ _ _ _ _ _ (World.drew _)
          refine wpAnyH_take (i := 0) (oi := ⟨some 45, _, _, _, _, _⟩) (v := ?_) rfl (by kernel_rfl) (by kernel_rfl) (by kernel_rfl) (fun _ _ _ h => h) (Or.inl ⟨by rfl, ?_⟩) hS12 ?_
          rotate_left 1
          · (intro w hSw; obtain ⟨hSw1, hSw2⟩ := hSw; go_simp; try with_reducible rfl)
          simp only [Act.put, List.setIfInBounds_toArray, List.set_cons_zero, List.set_cons_succ]
          refine wpAnyH_take (i := 1) (oi := ⟨some 46, _, _, _, _, _⟩) (v := bval M) rfl (by kernel_rfl) (by kernel_rfl) (by kernel_rfl) (fun _ _ _ h => h) (yields_blks (by rfl) (.tmp 9) rfl bb rfl M HML.out (fun w hw => hw.1)) hS12 ?_
          simp only [Act.put, List.setIfInBounds_toArray, List.set_cons_zero, List.set_cons_succ]
          refine wpAnyH_take (i := 2) (oi := ⟨some 47, _, _, _, _, _⟩) (v := ?_) rfl (by kernel_rfl) (by kernel_rfl) (by kernel_rfl) (fun _ _ _ h => h) (Or.inl ⟨by rfl, ?_⟩) hS12 ?_
          rotate_left 1
          · (intro w hSw; obtain ⟨hSw1, hSw2⟩ := hSw; go_simp; try with_reducible rfl)
          simp only [Act.put, List.setIfInBounds_toArray, List.set_cons_zero, List.set_cons_succ]
          refine wpAnyH_take (i := 3) (oi := ⟨some 48, _, _, _, _, _⟩) (v := ?_) rfl (by kernel_rfl) (by kernel_rfl) (by kernel_rfl) (fun _ _ _ h => h) (Or.inl ⟨by rfl, ?_⟩) hS12 ?_
          rotate_left 1
          · (intro w hSw; obtain ⟨hSw1, hSw2⟩ := hSw; go_simp; try with_reducible rfl)
          simp only [Act.put, List.setIfInBounds_toArray, List.set_cons_zero, List.set_cons_succ]
          refine wpAnyH_take (i := 4) (oi := ⟨some 49, _, _, _, _, _⟩) (v := ?_) rfl (by kernel_rfl) (by kernel_rfl) (by kernel_rfl) (fun _ _ _ h => h) (Or.inl ⟨by rfl, ?_⟩) hS12 ?_
          rotate_left 1
          · (intro w hSw; obtain ⟨hSw1, hSw2⟩ := hSw; go_simp; try with_reducible rfl)
          simp only [Act.put, List.setIfInBounds_toArray, List.set_cons_zero, List.set_cons_succ]
          refine wpAnyH_take (i := 5) (oi := ⟨some 50, _, _, _, _, _⟩) (v := ?_) rfl (by kernel_rfl) (by kernel_rfl) (by kernel_rfl) (fun _ _ _ h => h) (Or.inl ⟨by rfl, ?_⟩) hS12 ?_
          rotate_left 1
          · (intro w hSw; obtain ⟨hSw1, hSw2⟩ := hSw; go_simp; try with_reducible rfl)
          simp only [Act.put, List.setIfInBounds_toArray, List.set_cons_zero, List.set_cons_succ]
          refine wpAnyH_take (i := 6) (oi := ⟨some 51, _, _, _, _, _⟩) (v := ?_) rfl (by kernel_rfl) (by kernel_rfl) (by kernel_rfl) (fun _ _ _ h => h) (Or.inl ⟨by rfl, ?_⟩) hS12 ?_
          rotate_left 1
          · (intro w hSw; obtain ⟨hSw1, hSw2⟩ := hSw; go_simp; try with_reducible rfl)
          simp only [Act.put, List.setIfInBounds_toArray, List.set_cons_zero, List.set_cons_succ]
          refine wpAnyH_ready (rs := [7]) (by kernel_rfl) (by simp) ?_
          refine AllReadyH.cons (o := ⟨some 52, _, _, _, _, _⟩) rfl (fun K hK => ?_) AllReadyH.nil
          go_simp
          refine HBN.out.mono ?_
          rintro e w12 ⟨pp, rfl, hf12, hb12⟩
          have HS12 := hide (HS10.out.drew.below hb12)
          have hS13 : Lies w12 bb M ∧ w12.cell? ⟨ob, oo + k * 4 + 1, none⟩ = some (.int .i64 o.mark) := ⟨St.var HS12.out (j := 3) rfl, (HAT.out.below HOB.out HS12.out.bel).2.1⟩
          have HC := hide (Code_flt (HY.out.below HS12.out.bel HYL.out) hf12)
          clear hf12 hb12 HBN HS10
          refine hK.out _ _ hS13 (fun hHeld => ?_)
          clear hK K
          clear hHeld
          refine wpAnyH_take (i := 8) (oi := ⟨some 10, _, _, _, _, _⟩) (v := ?_) rfl (by kernel_rfl) (by kernel_rfl) (by kernel_rfl) (fun _ _ _ h => h) (Or.inl ⟨by rfl, ?_⟩) hS13 ?_
          rotate_left 1
          · (intro w hSw; obtain ⟨hSw1, hSw2⟩ := hSw; go_simp; try with_reducible rfl)
          simp only [Act.put, List.setIfInBounds_toArray, List.set_cons_zero, List.set_cons_succ]
          refine wpAnyH_done (by kernel_rfl) ?_ _
          skip
          clear hS12 hS13
          go_wp2_with fail
          refine HC.out.mono ?_
          rintro e w13 ⟨rfl, hb13⟩
          have HS17 := hide (HS12.out.below hb13)
          have HGD := HG
          have HTI2 := hide (show i.t ≤ k + 1 by have := HTI.out; omega)
          clear hb13 HS12 HC
          rcases hone with rfl | ⟨rfl, hle⟩
          · have HAG := hide (PS.again HS17.out HT.out HGD.out)
            clear HS17
            go_wp2_with fail
            refine HAG.out.mono ?_
            rintro e w17 ⟨p1, rfl, hs17⟩
            have HS17 := hide hs17
            have heq := fun W => blks_equal i.B i.B HGD.out.sz.i HGD.out.sz.i W
            rw [decide_eq_true (rfl : i.B = i.B)] at heq
            have hV17 := St.var hs17.drew (j := 2) rfl
            clear hs17 HAG
            go_wp2_with fail
            refine wp_region_held (S := (fun W => Lies W wv i.B)) (by kernel_rfl) ?_
            change wpAnyH _ _ _ _ _ _ _ _ (World.drew _)
            refine wpAnyH_take (i := 0) (oi := ⟨some 99, _, _, _, _, _⟩) (v := ?_) rfl (by kernel_rfl) (by kernel_rfl) (by kernel_rfl) (fun _ _ _ h => h) (Or.inl ⟨by rfl, ?_⟩) hV17 ?_
            rotate_left 1
            · (intro w hSw; clear hSw; go_simp; try with_reducible rfl)
            simp only [Act.put, List.setIfInBounds_toArray, List.set_cons_zero, List.set_cons_succ]
            refine wpAnyH_take (i := 1) (oi := ⟨some 100, _, _, _, _, _⟩) (v := ?_) rfl (by kernel_rfl) (by kernel_rfl) (by kernel_rfl) (fun _ _ _ h => h) (Or.inl ⟨by rfl, ?_⟩) hV17 ?_
            rotate_left 1
            · (intro w hSw; clear hSw; go_simp; try with_reducible rfl)
            simp only [Act.put, List.setIfInBounds_toArray, List.set_cons_zero, List.set_cons_succ]
            refine wpAnyH_take (i := 2) (oi := ⟨some 101, _, _, _, _, _⟩) (v := ?_) rfl (by kernel_rfl) (by kernel_rfl) (by kernel_rfl) (fun _ _ _ h => h) (Or.inl ⟨by rfl, ?_⟩) hV17 ?_
            rotate_left 1
            · (intro w hSw; clear hSw; go_simp; try with_reducible rfl)
            simp only [Act.put, List.setIfInBounds_toArray, List.set_cons_zero, List.set_cons_succ]
            refine wpAnyH_take (i := 3) (oi := ⟨some 102, _, _, _, _, _⟩) (v := ?_) rfl (by kernel_rfl) (by kernel_rfl) (by kernel_rfl) (fun _ _ _ h => h) (Or.inl ⟨by rfl, ?_⟩) hV17 ?_
            rotate_left 1
            · (intro w hSw; clear hSw; go_simp; try with_reducible rfl)
            simp only [Act.put, List.setIfInBounds_toArray, List.set_cons_zero, List.set_cons_succ]
            refine wpAnyH_take (i := 5) (oi := ⟨some 104, _, _, _, _, _⟩) (v := bval i.B) rfl (by kernel_rfl) (by kernel_rfl) (by kernel_rfl) (fun _ _ _ h => h) (yields_blks (by rfl) (.tmp 6) rfl wv rfl i.B HGD.out.sz.i (fun w hw => hw)) hV17 ?_
            simp only [Act.put, List.setIfInBounds_toArray, List.set_cons_zero, List.set_cons_succ]
            refine wpAnyH_ready (rs := [4]) (by kernel_rfl) (by simp) ?_
            refine AllReadyH.cons (o := ⟨some 103, _, _, _, _, _⟩) rfl (fun K hK => ?_) AllReadyH.nil
            go_simp
            refine (PS.blocks HS17.out.drew HGD.out.sz).mono ?_
            rintro e w18 ⟨rfl, hb18⟩
            have HS18 := hide (HS17.out.drew.below hb18)
            have hV18 := St.var HS18.out (j := 2) rfl
            clear hb18 HS17
            refine hK.out _ _ hV18 (fun hHeld => ?_)
            clear hK K
            clear hHeld
            refine wpAnyH_take (i := 6) (oi := ⟨some 105, _, _, _, _, _⟩) (v := ?_) rfl (by kernel_rfl) (by kernel_rfl) (by kernel_rfl) (fun _ _ _ h => h) (Or.inl ⟨by rfl, ?_⟩) hV18 ?_
            rotate_left 1
            · (intro w hSw; clear hSw; go_simp; try with_reducible rfl)
            simp only [Act.put, List.setIfInBounds_toArray, List.set_cons_zero, List.set_cons_succ]
            refine wpAnyH_take (i := 7) (oi := ⟨some 106, _, _, _, _, _⟩) (v := ?_) rfl (by kernel_rfl) (by kernel_rfl) (by kernel_rfl) (fun _ _ _ h => h) (Or.inl ⟨by rfl, ?_⟩) hV18 ?_
            rotate_left 1
            · (intro w hSw; clear hSw; go_simp; try with_reducible rfl)
            simp only [Act.put, List.setIfInBounds_toArray, List.set_cons_zero, List.set_cons_succ]
            refine wpAnyH_take (i := 8) (oi := ⟨some 107, _, _, _, _, _⟩) (v := ?_) rfl (by kernel_rfl) (by kernel_rfl) (by kernel_rfl) (fun _ _ _ h => h) (Or.inl ⟨by rfl, ?_⟩) hV18 ?_
            rotate_left 1
            · (intro w hSw; clear hSw; go_simp; try with_reducible rfl)
            simp only [Act.put, List.setIfInBounds_toArray, List.set_cons_zero, List.set_cons_succ]
            refine wpAnyH_take (i := 9) (oi := ⟨some 108, _, _, _, _, _⟩) (v := ?_) rfl (by kernel_rfl) (by kernel_rfl) (by kernel_rfl) (fun _ _ _ h => h) (Or.inl ⟨by rfl, ?_⟩) hV18 ?_
            rotate_left 1
            · (intro w hSw; clear hSw; go_simp; try with_reducible rfl)
            simp only [Act.put, List.setIfInBounds_toArray, List.set_cons_zero, List.set_cons_succ]
            refine wpAnyH_take (i := 11) (oi := ⟨some 110, _, _, _, _, _⟩) (v := ?_) rfl (by kernel_rfl) (by kernel_rfl) (by kernel_rfl) (fun _ _ _ h => h) (Or.inl ⟨by rfl, ?_⟩) hV18 ?_
            rotate_left 1
            · (intro w hSw; clear hSw; go_simp; try with_reducible rfl)
            simp only [Act.put, List.setIfInBounds_toArray, List.set_cons_zero, List.set_cons_succ]
            refine wpAnyH_ready (rs := [10]) (by kernel_rfl) (by simp) ?_
            refine AllReadyH.cons (o := ⟨some 109, _, _, _, _, _⟩) rfl (fun K hK => ?_) AllReadyH.nil
            go_simp
            refine (PS.mark HS18.out).mono ?_
            rintro e w19 ⟨rfl, hw19⟩
            rw [← hw19]
            clear hw19
            refine hK.out _ _ hV18 (fun hHeld => ?_)
            clear hK K
            clear hHeld
            refine wpAnyH_take (i := 12) (oi := ⟨some 111, _, _, _, _, _⟩) (v := ?_) rfl (by kernel_rfl) (by kernel_rfl) (by kernel_rfl) (fun _ _ _ h => h) (Or.inl ⟨by rfl, ?_⟩) hV18 ?_
            rotate_left 1
            · (intro w hSw; clear hSw; go_simp; try with_reducible rfl)
            simp only [Act.put, List.setIfInBounds_toArray, List.set_cons_zero, List.set_cons_succ]
            refine wpAnyH_take (i := 13) (oi := ⟨some 112, _, _, _, _, _⟩) (v := ?_) rfl (by kernel_rfl) (by kernel_rfl) (by kernel_rfl) (fun _ _ _ h => h) (Or.inl ⟨by rfl, ?_⟩) hV18 ?_
            rotate_left 1
            · (intro w hSw; clear hSw; go_simp; try with_reducible rfl)
            simp only [Act.put, List.setIfInBounds_toArray, List.set_cons_zero, List.set_cons_succ]
            refine wpAnyH_done (by kernel_rfl) ?_ _
            skip
            have HTR := hide (show Trn w q p1 wv i (k + 1) w18 from ⟨S, HGD.out, HTI2.out, St.left (Us := [blksT bb M]) HS18.out⟩)
            clear hV17 hV18 heq HS18
            go_wp2
            go_roundw
            case rel => exact ⟨k + 1, p1, i, HK.out, by go_num, rfl, rfl, HTR.out⟩
            case measure => have := HK.out; simp [intOf]; omega
          · have hcm := (HAT.out.below HOB.out HS17.out.bel).2.1
            have hgt : ¬ (i.m : Int) < o.mark := by omega
            clear hle
            have HAG := hide (PS.again HS17.out HT.out HGD.out)
            clear HS17
            go_wp2_with fail
            refine HAG.out.mono ?_
            rintro e w17 ⟨p1, rfl, hs17⟩
            have HS17 := hide hs17
            have heq := fun W => blks_equal i.B i.B HGD.out.sz.i HGD.out.sz.i W
            rw [decide_eq_true (rfl : i.B = i.B)] at heq
            have hV17 := St.var hs17.drew (j := 2) rfl
            clear hs17 HAG
            go_wp2_with fail
            refine wp_region_held (S := (fun W => Lies W wv i.B)) (by kernel_rfl) ?_
            change wpAnyH _ _ _ _ _ _ _ _ (World.drew _)
            refine wpAnyH_take (i := 0) (oi := ⟨some 99, _, _, _, _, _⟩) (v := ?_) rfl (by kernel_rfl) (by kernel_rfl) (by kernel_rfl) (fun _ _ _ h => h) (Or.inl ⟨by rfl, ?_⟩) hV17 ?_
            rotate_left 1
            · (intro w hSw; clear hSw; go_simp; try with_reducible rfl)
            simp only [Act.put, List.setIfInBounds_toArray, List.set_cons_zero, List.set_cons_succ]
            refine wpAnyH_take (i := 1) (oi := ⟨some 100, _, _, _, _, _⟩) (v := ?_) rfl (by kernel_rfl) (by kernel_rfl) (by kernel_rfl) (fun _ _ _ h => h) (Or.inl ⟨by rfl, ?_⟩) hV17 ?_
            rotate_left 1
            · (intro w hSw; clear hSw; go_simp; try with_reducible rfl)
            simp only [Act.put, List.setIfInBounds_toArray, List.set_cons_zero, List.set_cons_succ]
            refine wpAnyH_take (i := 2) (oi := ⟨some 101, _, _, _, _, _⟩) (v := ?_) rfl (by kernel_rfl) (by kernel_rfl) (by kernel_rfl) (fun _ _ _ h => h) (Or.inl ⟨by rfl, ?_⟩) hV17 ?_
            rotate_left 1
            · (intro w hSw; clear hSw; go_simp; try with_reducible rfl)
            simp only [Act.put, List.setIfInBounds_toArray, List.set_cons_zero, List.set_cons_succ]
            refine wpAnyH_take (i := 3) (oi := ⟨some 102, _, _, _, _, _⟩) (v := ?_) rfl (by kernel_rfl) (by kernel_rfl) (by kernel_rfl) (fun _ _ _ h => h) (Or.inl ⟨by rfl, ?_⟩) hV17 ?_
            rotate_left 1
            · (intro w hSw; clear hSw; go_simp; try with_reducible rfl)
            simp only [Act.put, List.setIfInBounds_toArray, List.set_cons_zero, List.set_cons_succ]
            refine wpAnyH_take (i := 5) (oi := ⟨some 104, _, _, _, _, _⟩) (v := bval i.B) rfl (by kernel_rfl) (by kernel_rfl) (by kernel_rfl) (fun _ _ _ h => h) (yields_blks (by rfl) (.tmp 6) rfl wv rfl i.B HGD.out.sz.i (fun w hw => hw)) hV17 ?_
            simp only [Act.put, List.setIfInBounds_toArray, List.set_cons_zero, List.set_cons_succ]
            refine wpAnyH_ready (rs := [4]) (by kernel_rfl) (by simp) ?_
            refine AllReadyH.cons (o := ⟨some 103, _, _, _, _, _⟩) rfl (fun K hK => ?_) AllReadyH.nil
            go_simp
            refine (PS.blocks HS17.out.drew HGD.out.sz).mono ?_
            rintro e w18 ⟨rfl, hb18⟩
            have HS18 := hide (HS17.out.drew.below hb18)
            have hV18 := St.var HS18.out (j := 2) rfl
            clear hb18 HS17
            refine hK.out _ _ hV18 (fun hHeld => ?_)
            clear hK K
            clear hHeld
            refine wpAnyH_take (i := 6) (oi := ⟨some 105, _, _, _, _, _⟩) (v := ?_) rfl (by kernel_rfl) (by kernel_rfl) (by kernel_rfl) (fun _ _ _ h => h) (Or.inl ⟨by rfl, ?_⟩) hV18 ?_
            rotate_left 1
            · (intro w hSw; clear hSw; go_simp; try with_reducible rfl)
            simp only [Act.put, List.setIfInBounds_toArray, List.set_cons_zero, List.set_cons_succ]
            refine wpAnyH_take (i := 7) (oi := ⟨some 106, _, _, _, _, _⟩) (v := ?_) rfl (by kernel_rfl) (by kernel_rfl) (by kernel_rfl) (fun _ _ _ h => h) (Or.inl ⟨by rfl, ?_⟩) hV18 ?_
            rotate_left 1
            · (intro w hSw; clear hSw; go_simp; try with_reducible rfl)
            simp only [Act.put, List.setIfInBounds_toArray, List.set_cons_zero, List.set_cons_succ]
            refine wpAnyH_take (i := 8) (oi := ⟨some 107, _, _, _, _, _⟩) (v := ?_) rfl (by kernel_rfl) (by kernel_rfl) (by kernel_rfl) (fun _ _ _ h => h) (Or.inl ⟨by rfl, ?_⟩) hV18 ?_
            rotate_left 1
            · (intro w hSw; clear hSw; go_simp; try with_reducible rfl)
            simp only [Act.put, List.setIfInBounds_toArray, List.set_cons_zero, List.set_cons_succ]
            refine wpAnyH_take (i := 9) (oi := ⟨some 108, _, _, _, _, _⟩) (v := ?_) rfl (by kernel_rfl) (by kernel_rfl) (by kernel_rfl) (fun _ _ _ h => h) (Or.inl ⟨by rfl, ?_⟩) hV18 ?_
            rotate_left 1
            · (intro w hSw; clear hSw; go_simp; try with_reducible rfl)
            simp only [Act.put, List.setIfInBounds_toArray, List.set_cons_zero, List.set_cons_succ]
            refine wpAnyH_take (i := 11) (oi := ⟨some 110, _, _, _, _, _⟩) (v := ?_) rfl (by kernel_rfl) (by kernel_rfl) (by kernel_rfl) (fun _ _ _ h => h) (Or.inl ⟨by rfl, ?_⟩) hV18 ?_
            rotate_left 1
            · (intro w hSw; clear hSw; go_simp; try with_reducible rfl)
            simp only [Act.put, List.setIfInBounds_toArray, List.set_cons_zero, List.set_cons_succ]
            refine wpAnyH_ready (rs := [10]) (by kernel_rfl) (by simp) ?_
            refine AllReadyH.cons (o := ⟨some 109, _, _, _, _, _⟩) rfl (fun K hK => ?_) AllReadyH.nil
            go_simp
            refine (PS.mark HS18.out).mono ?_
            rintro e w19 ⟨rfl, hw19⟩
            rw [← hw19]
            clear hw19
            refine hK.out _ _ hV18 (fun hHeld => ?_)
            clear hK K
            clear hHeld
            refine wpAnyH_take (i := 12) (oi := ⟨some 111, _, _, _, _, _⟩) (v := ?_) rfl (by kernel_rfl) (by kernel_rfl) (by kernel_rfl) (fun _ _ _ h => h) (Or.inl ⟨by rfl, ?_⟩) hV18 ?_
            rotate_left 1
            · (intro w hSw; clear hSw; go_simp; try with_reducible rfl)
            simp only [Act.put, List.setIfInBounds_toArray, List.set_cons_zero, List.set_cons_succ]
            refine wpAnyH_take (i := 13) (oi := ⟨some 112, _, _, _, _, _⟩) (v := ?_) rfl (by kernel_rfl) (by kernel_rfl) (by kernel_rfl) (fun _ _ _ h => h) (Or.inl ⟨by rfl, ?_⟩) hV18 ?_
            rotate_left 1
            · (intro w hSw; clear hSw; go_simp; try with_reducible rfl)
            simp only [Act.put, List.setIfInBounds_toArray, List.set_cons_zero, List.set_cons_succ]
            refine wpAnyH_done (by kernel_rfl) ?_ _
            skip
            have HTR := hide (show Trn w q p1 wv i (k + 1) w18 from ⟨S, HGD.out, HTI2.out, St.left (Us := [blksT bb M]) HS18.out⟩)
            clear hV17 hV18 heq HS18
            go_wp2
            go_roundw
            case rel => exact ⟨k + 1, p1, i, HK.out, by go_num, rfl, rfl, HTR.out⟩
            case measure => have := HK.out; simp [intOf]; omega
      · obtain rfl : k = n := by omega
        obtain ⟨S, hgd, hti, hst⟩ := htr.out
        have HST := hide hst
        clear htr hgd hti hst hge hk
        go_wp2
        go_ret
        exact ⟨rfl, HST.out.bel⟩

end Go.Proofs.YtnmpckhlpkmojaaDoor.Im

namespace Go.Proofs.YtnmpckhlpkmojaaDoor.Im
open Go.RowKit
open Pk Sm Fa Rc Dk Wn Lk

/-- An Op in a variable. -/
abbrev opT (b : Nat) (o : Oq) : Thg := blkT b #[.slice o.a o.n o.c, .int .i64 o.mark, .int .u8 (o.cut : Int), .int .u64 (o.keep : Int)] 35
structure OBx (w : World) (b : Nat) (o : Oq) : Prop where
  l : w.cell? ⟨b, 0, none⟩ = some (.slice o.a o.n o.c)
  mark : w.cell? ⟨b, 1, none⟩ = some (.int .i64 o.mark)
  cut : w.cell? ⟨b, 2, none⟩ = some (.int .u8 (o.cut : Int))
  keep : w.cell? ⟨b, 3, none⟩ = some (.int .u64 (o.keep : Int))
theorem OBx.two {w : World} {b : Nat} {o : Oq} (h : OBx w b o) : w.cell? ⟨b, 0, none⟩ = some (.slice o.a o.n o.c) ∧ w.cell? ⟨b, 1, none⟩ = some (.int .i64 o.mark) := ⟨h.l, h.mark⟩
theorem St.op {w0 w : World} {Ts : List Thg} {j b : Nat} {o : Oq} (h : St w0 Ts w) (hj : Ts[j]? = some (opT b o)) : OBx w b o := ⟨(St.blk h hj).1 0, (St.blk h hj).1 1, (St.blk h hj).1 2, (St.blk h hj).1 3⟩
/-- Between two rounds. -/
def Trn0 (w0 : World) (q p : Nat) (i : Img) (k : Nat) (w : World) : Prop := ∃ S, Gd S i ∧ i.t ≤ k ∧ St w0 (PS q p S [] i im0 0 []) w
theorem Mid2.upd {w0 w : World} {q p : Nat} {i n : Img} {Us : List Thg} {k : Nat} (h : Mid2 w0 q p i n Us k w) (hk : k < 35) : ∃ S L, Upd S L i n k ∧ St w0 (PS q p S L i n k Us) w := by
  obtain ⟨S, L, ⟨_, hu, hs⟩ | ⟨h1, _, _⟩⟩ := h
  · exact ⟨S, L, hu, hs⟩
  · omega
set_option maxRecDepth 100000 in
set_option maxHeartbeats 16000000 in
theorem Atomic_any (A : Option Addr) (n c : Nat) (l : List Oq) (w : World) (ht : Tab w) (hl : l.length = n) (hf : OFits w l) (hp : Ops w A l) :
    Calls Tryd.prog 3 #[.slice A n c] w fun r w' => r = .returned (.bool true) ∧ Below w.heap.size w w' := by
  have HA := hide (awake_any w ht)
  have HT := hide ht
  have HL := hide hl
  have HF := hide hf
  have HP := hide hp
  clear ht hl hf hp
  go_enter Tryd.func3, Tryd.ntmps3
  go_wp2_with fail
  refine HA.out.mono ?_
  rintro e w1 ⟨rfl, hb1⟩
  have HB1 := hide hb1
  have HW := hide (few_any A n c l w1 HL.out (HP.out.below hb1) (HF.out.below hb1))
  have HA2 := hide (awake_any w1 (HT.out.below HB1.out HT.out.pos))
  clear hb1 HA
  go_wp2_with fail
  refine HW.out.mono ?_
  rintro e w3 ⟨⟨b, rfl, hgood⟩, rfl⟩
  clear HW
  cases b with
  | false =>
    clear hgood
    go_wp2_with fail
    refine HA2.out.mono ?_
    rintro e w3 ⟨rfl, hb3⟩
    have HB3 := hide (HB1.out.trans (hb3.mono HB1.out.size))
    clear hb3 HA2
    go_wp2
    go_ret
    exact ⟨rfl, HB3.out⟩
  | true =>
    obtain ⟨hn, hsm⟩ := hgood rfl
    have HSM := hide hsm
    have HS1 := hide ((St.start w).below HB1.out)
    clear HA2 HB1 hgood hsm
    go_wp2_with fail
    refine (PS.start HS1.out).mono ?_
    rintro e w3 ⟨q, rfl, hs3⟩
    have HO := hide (PS.open (q := q) (Us := []) hs3 HT.out Gd.fresh)
    clear hs3 HS1
    go_wp2_with fail
    refine HO.out.mono ?_
    rintro e w4 ⟨p0, rfl, hs4⟩
    have HT7 := hide (show Trn0 w q p0 im0 0 w4 from ⟨_, Gd.fresh, Nat.le_refl _, hs4⟩)
    clear hs4 HO
    go_wp2
    go_loopw [4, 32] (fun pv j wr => ∃ (k p : Nat) (i : Img), k ≤ n ∧ j = .int .i64 k ∧ pv = .pointer (some ⟨p, 0, none⟩) ∧ Hid (Trn0 w q p i k wr)) (fun _ j _ => n - (intOf j).toNat)
    case atStart => exact ⟨0, p0, im0, Nat.zero_le _, rfl, rfl, HT7.out⟩
    case round =>
      clear HT7
      obtain ⟨k, p, i, hk, rfl, rfl, htr⟩ := hrel
      rcases Nat.lt_or_ge k n with hlt | hge
      · obtain ⟨S, hgd, hti, hst⟩ := htr.out
        have hki : (k : Int) < (n : Int) := by omega
        have HK := hide hlt
        have HTI := hide hti
        obtain ⟨o, hok⟩ : ∃ o, l[k]? = some o := ⟨_, List.getElem?_eq_getElem (by rw [HL.out]; exact hlt)⟩
        obtain ⟨ob, oo, hA, hob, hat⟩ := HP.out.at_ hok
        have HFIT := hide (HF.out o (List.mem_of_getElem? hok))
        have HSMo := hide (HSM.out o (List.mem_of_getElem? hok))
        obtain ⟨hc0, hc1, hc2, hc3⟩ := hat.below hob hst.bel
        have HG0 := hide hgd
        have HIB := hide hgd.sz.i
        have HST0 := hide hst
        rw [hA]
        clear htr hgd hti hst hat hok hlt hk
        go_wp2_with fail
        have HS7 := hide (show St w (PS q p S [] i im0 0 [opT wr.heap.size o]) (wr.alloc (.cells #[.slice o.a o.n o.c, .int .i64 o.mark, .int .u8 (o.cut : Int), .int .u64 (o.keep : Int)] 35)) from St.blk_new HST0.out _ _)
        generalize wr.heap.size = bo at *
        generalize wr.alloc _ = w7 at *
        clear HST0 hc0 hc1 hc2 hc3
        refine (PS.blocks HS7.out HG0.out.sz).mono ?_
        rintro e w8 ⟨rfl, hb8⟩
        have HS8 := hide (HS7.out.below hb8)
        clear hb8 HS7
        go_wp2_with fail
        refine (PS.mark HS8.out).mono ?_
        rintro e w9 ⟨rfl, rfl⟩
        go_wp2_with (refine wpList_alloc_told rfl 38 rfl _ blks_zero ?_)
        intro w9 H9
        have HS9 := hide (show St w (PS q p S [] i im0 0 [opT bo o, blksT w8.heap.size emp]) w9 by rw [H9.out]; exact St.var_new HS8.out)
        have HV9 := hide (St.var HS9.out (j := 3) rfl)
        clear H9 HS8
        go_wp2_with (refine wpList_blk_told rfl 38 (.tmp 8) (.tmp 40) rfl w8.heap.size (strs i.B).toArray rfl rfl (strs emp).toArray HV9.out.heap (by rw [blks_size, List.size_toArray, List.length_map, HIB.out]) (by rw [List.size_toArray, List.size_toArray, List.length_map, List.length_map, HIB.out]; simp) (all_oneCell_toArray (strs_one _)) ?_)
        intro w10 H10
        have HS10 := hide (show St w (PS q p S [] i im0 0 [opT bo o, blksT w8.heap.size i.B]) w10 by rw [H10.out]; exact St.var_set HS9.out (j := 3) rfl)
        clear H10 HS9 HV9
        generalize w8.heap.size = vb at *
        have hO10 := (St.op HS10.out.drew (j := 2) rfl).two
        have HMD := hide (made_any o.a o.n o.c o.l w10.drew HFIT.out.len HSMo.out.1 (HFIT.out.src.below HS10.out.drew.bel))
        obtain ⟨M, hM⟩ : ∃ M, M = mk o.l := ⟨_, rfl⟩
        have HMM := hide hM
        have HML := hide (show M.length = 32 by rw [hM]; exact mk_length _)
        have HMS := hide (show ∀ d ∈ M, d.size ≤ 1000 by rw [hM]; exact mk_short fun s hs => by have := HSMo.out.2 s hs; omega)
        clear hM
        by_cases hbg : bgn i M o.mark = 0
        · obtain ⟨mk0, hmk, hnx, _⟩ := PS.begin_ok HS10.out HG0.out.sz HML.out HMS.out hbg (by have := HTI.out; omega)
          have HCALL := hide (fun W (hW : St w (PS q p S [] i im0 0 [opT bo o, blksT vb i.B]) W) => show Calls Tryd.prog 13 #[.pointer (some ⟨p, 0, none⟩), bval M, .int .i64 o.mark] W fun e w' => e = .returned .nilIface ∧ St w (PS q p S [] i ⟨i.t + 1, mk0, M⟩ 0 [opT bo o, blksT vb i.B]) w' by
            obtain ⟨mk1, hmk1, _, hc⟩ := PS.begin_ok hW HG0.out.sz HML.out HMS.out hbg (by have := HTI.out; omega)
            obtain rfl : mk1 = mk0 := by omega
            exact hc)
          have HU := hide (HG0.out.begin hnx)
          have HMV0 := hide hmk
          have HMO := hide (show i.m < mk0 from hnx.more)
          clear hbg hmk hnx HMS
          go_wp2_with fail
          refine wp_region_held (S := (fun W => W.cell? ⟨bo, 0, none⟩ = some (.slice o.a o.n o.c) ∧ W.cell? ⟨bo, 1, none⟩ = some (.int .i64 o.mark))) (by kernel_rfl) ?_
          change wpAnyH _ _ _ _ _ _ _ _ (World.drew _)
          refine wpAnyH_take (i := 0) (oi := ⟨some 43, _, _, _, _, _⟩) (v := ?_) rfl (by kernel_rfl) (by kernel_rfl) (by kernel_rfl) (fun _ _ _ h => h) (Or.inl ⟨by rfl, ?_⟩) hO10 ?_
          rotate_left 1
          · (intro w hSw; obtain ⟨hSw1, hSw2⟩ := hSw; go_simp; try with_reducible rfl)
          simp only [Act.put, List.setIfInBounds_toArray, List.set_cons_zero, List.set_cons_succ]
          refine wpAnyH_take (i := 1) (oi := ⟨some 44, _, _, _, _, _⟩) (v := ?_) rfl (by kernel_rfl) (by kernel_rfl) (by kernel_rfl) (fun _ _ _ h => h) (Or.inl ⟨by rfl, ?_⟩) hO10 ?_
          rotate_left 1
          · (intro w hSw; obtain ⟨hSw1, hSw2⟩ := hSw; go_simp; try with_reducible rfl)
          simp only [Act.put, List.setIfInBounds_toArray, List.set_cons_zero, List.set_cons_succ]
          refine wpAnyH_take (i := 2) (oi := ⟨some 45, _, _, _, _, _⟩) (v := ?_) rfl (by kernel_rfl) (by kernel_rfl) (by kernel_rfl) (fun _ _ _ h => h) (Or.inl ⟨by rfl, ?_⟩) hO10 ?_
          rotate_left 1
          · (intro w hSw; obtain ⟨hSw1, hSw2⟩ := hSw; go_simp; try with_reducible rfl)
          simp only [Act.put, List.setIfInBounds_toArray, List.set_cons_zero, List.set_cons_succ]
          refine wpAnyH_take (i := 4) (oi := ⟨some 47, _, _, _, _, _⟩) (v := ?_) rfl (by kernel_rfl) (by kernel_rfl) (by kernel_rfl) (fun _ _ _ h => h) (Or.inl ⟨by rfl, ?_⟩) hO10 ?_
          rotate_left 1
          · (intro w hSw; obtain ⟨hSw1, hSw2⟩ := hSw; go_simp; try with_reducible rfl)
          simp only [Act.put, List.setIfInBounds_toArray, List.set_cons_zero, List.set_cons_succ]
          refine wpAnyH_take (i := 5) (oi := ⟨some 48, _, _, _, _, _⟩) (v := ?_) rfl (by kernel_rfl) (by kernel_rfl) (by kernel_rfl) (fun _ _ _ h => h) (Or.inl ⟨by rfl, ?_⟩) hO10 ?_
          rotate_left 1
          · (intro w hSw; obtain ⟨hSw1, hSw2⟩ := hSw; go_simp; try with_reducible rfl)
          simp only [Act.put, List.setIfInBounds_toArray, List.set_cons_zero, List.set_cons_succ]
          refine wpAnyH_ready (rs := [3]) (by kernel_rfl) (by simp) ?_
          refine AllReadyH.cons (o := ⟨some 46, _, _, _, _, _⟩) rfl (fun K hK => ?_) AllReadyH.nil
          go_simp
          refine HMD.out.mono ?_
          rintro e w11 ⟨rfl, hb11⟩
          rw [← HMM.out]
          have HS11 := hide (HS10.out.drew.below hb11)
          have hO11 := (St.op HS11.out (j := 2) rfl).two
          clear hb11 HMD
          refine hK.out _ _ hO11 (fun hHeld => ?_)
          clear hK K
          clear hHeld
          refine wpAnyH_ready (rs := [6]) (by kernel_rfl) (by simp) ?_
          refine AllReadyH.cons (o := ⟨some 49, _, _, _, _, _⟩) rfl (fun K hK => ?_) AllReadyH.nil
          go_simp
          refine (HCALL.out w11 HS11.out).mono ?_
          rintro e w12 ⟨rfl, hs12⟩
          have HS12 := hide hs12
          have hO12 := (St.op HS12.out (j := 2) rfl).two
          clear hs12 HCALL HS11 HS10
          refine hK.out _ _ hO12 (fun hHeld => ?_)
          clear hK K
          clear hHeld
          refine wpAnyH_take (i := 7) (oi := ⟨some 50, _, _, _, _, _⟩) (v := ?_) rfl (by kernel_rfl) (by kernel_rfl) (by kernel_rfl) (fun _ _ _ h => h) (Or.inl ⟨by rfl, ?_⟩) hO12 ?_
          rotate_left 1
          · (intro w hSw; obtain ⟨hSw1, hSw2⟩ := hSw; go_simp; try with_reducible rfl)
          simp only [Act.put, List.setIfInBounds_toArray, List.set_cons_zero, List.set_cons_succ]
          refine wpAnyH_done (by kernel_rfl) ?_ _
          skip
          clear hO10 hO11 hO12
          have HM14 := hide (show Mid2 w q p i ⟨i.t + 1, mk0, M⟩ [opT bo o, blksT vb i.B] 0 w12 from ⟨_, [], Or.inl ⟨by omega, HU.out, HS12.out⟩⟩)
          obtain ⟨N, hN⟩ : ∃ N, (⟨i.t + 1, mk0, M⟩ : Img) = N := ⟨_, rfl⟩
          have HNT := hide (show N.t = i.t + 1 by rw [← hN])
          have HNB := hide (show N.B = M by rw [← hN])
          have HMV := hide (show o.mark = (N.m : Int) by rw [HMV0.out, ← hN])
          have HMORE := hide (show i.m < N.m by rw [← hN]; exact HMO.out)
          rw [hN] at HM14
          clear HS12 HU hN HMV0 HMO
          have hcw : IntKind.i64.wrap (o.cut : Int) = (o.cut : Int) := IntWalk.i64_in _ (by have := HFIT.out.cut; omega)
          go_wp2
          go_loopw [10, 11] (fun ev j wt => ∃ x : Nat, x ≤ 35 ∧ j = .int .i64 x ∧ ev = .bool (decide (x = 35)) ∧ Hid (Mid2 w q p i N [opT bo o, blksT vb i.B] x wt)) (fun _ j _ => 35 - (intOf j).toNat)
          case atStart => exact ⟨0, by omega, rfl, rfl, HM14.out⟩
          case round =>
            clear HM14
            obtain ⟨x, hx, rfl, rfl, hmid⟩ := hrel
            rcases Nat.lt_or_ge x 35 with hlt | hge
            · have hxi : (x : Int) < 35 := by omega
              have hx35 : decide (x = 35) = false := decide_eq_false (by omega)
              have HX := hide hlt
              obtain ⟨S1, L1, hu, hs1⟩ := hmid.out.upd hlt
              have hcc := (St.op hs1 (j := 2) rfl).cut
              by_cases hgo : o.cut = 0 ∨ x + 1 < o.cut
              · have HSTP := hide (hmid.out.step HT.out hlt)
                have hif : decide (x + 1 = 35) = decide (x = 34) := decide_eq_decide.2 (by omega)
                have HIF := hide hif
                rcases hgo with h0 | h1
                · rw [h0] at hcc
                  clear hmid hlt hx hu hs1 h0 hif
                  go_wp2_with fail
                  refine HSTP.out.mono ?_
                  rintro e w15 ⟨rfl, hm⟩
                  have HM15 := hide hm
                  clear hm HSTP hcc
                  go_wp2
                  go_roundw
                  case rel => exact ⟨x + 1, HX.out, by go_num, by rw [HIF.out], HM15.out⟩
                  case measure => have := HX.out; simp [intOf]; omega
                · have h1i : (x : Int) + 1 < (o.cut : Int) := by omega
                  have hc0b : ((o.cut : Int) == 0) = false := by simp; omega
                  clear hmid hlt hx hu hs1 h1 hif
                  go_wp2_with fail
                  refine HSTP.out.mono ?_
                  rintro e w15 ⟨rfl, hm⟩
                  have HM15 := hide hm
                  clear hm HSTP hcc
                  go_wp2
                  go_roundw
                  case rel => exact ⟨x + 1, HX.out, by go_num, by rw [HIF.out], HM15.out⟩
                  case measure => have := HX.out; simp [intOf]; omega
              · have h1i : ¬ (x : Int) + 1 < (o.cut : Int) := by omega
                have hc0b : ((o.cut : Int) == 0) = false := by simp; omega
                have hkp := (St.op hs1 (j := 2) rfl).keep
                have HCR := hide (PS.crash hs1 HFIT.out.keep (by have := hu.loose; omega))
                have HCG := hide (hu.crash_good o.keep)
                clear hmid hlt hx hu hs1 hgo
                go_wp2_with fail
                refine HCR.out.mono ?_
                rintro e w19 ⟨rfl, hs19⟩
                have HS19 := hide hs19
                clear hs19 HCR hcc hkp hcw
                rcases HCG.out with hg | hg
                · have HGD := hide hg
                  clear hg HCG
                  have HAG := hide (PS.again HS19.out HT.out HGD.out)
                  clear HS19
                  go_wp2_with fail
                  refine HAG.out.mono ?_
                  rintro e w20 ⟨p1, rfl, hs20⟩
                  have HST := hide hs20
                  clear hs20 HAG
                  by_cases hE : i.B = M
                  · have HE := hide hE
                    clear hE
                    have hV20 := St.var HST.out.drew (j := 3) rfl
                    have heq := fun W => blks_equal i.B i.B HIB.out HIB.out W
                    rw [decide_eq_true (rfl : i.B = i.B)] at heq
                    go_wp2_with fail
                    refine wp_region_held (S := (fun W => Lies W vb i.B)) (by kernel_rfl) ?_
                    change wpAnyH _ _ _ _ _ _ _ _ (World.drew _)
                    refine wpAnyH_take (i := 0) (oi := ⟨some 91, _, _, _, _, _⟩) (v := ?_) rfl (by kernel_rfl) (by kernel_rfl) (by kernel_rfl) (fun _ _ _ h => h) (Or.inl ⟨by rfl, ?_⟩) hV20 ?_
                    rotate_left 1
                    · (intro w hSw; clear hSw; go_simp; try with_reducible rfl)
                    simp only [Act.put, List.setIfInBounds_toArray, List.set_cons_zero, List.set_cons_succ]
                    refine wpAnyH_take (i := 2) (oi := ⟨some 93, _, _, _, _, _⟩) (v := bval i.B) rfl (by kernel_rfl) (by kernel_rfl) (by kernel_rfl) (fun _ _ _ h => h) (yields_blks (by rfl) (.tmp 8) rfl vb rfl i.B HIB.out (fun w hw => hw)) hV20 ?_
                    simp only [Act.put, List.setIfInBounds_toArray, List.set_cons_zero, List.set_cons_succ]
                    refine wpAnyH_ready (rs := [1]) (by kernel_rfl) (by simp) ?_
                    refine AllReadyH.cons (o := ⟨some 92, _, _, _, _, _⟩) rfl (fun K hK => ?_) AllReadyH.nil
                    go_simp
                    refine (PS.blocks HST.out.drew HGD.out.sz).mono ?_
                    rintro e w21 ⟨rfl, hb21⟩
                    have HS21 := hide (HST.out.drew.below hb21)
                    have hV21 := St.var HS21.out (j := 3) rfl
                    clear hb21 HST
                    refine hK.out _ _ hV21 (fun hHeld => ?_)
                    clear hK K
                    clear hHeld
                    refine wpAnyH_take (i := 3) (oi := ⟨some 94, _, _, _, _, _⟩) (v := ?_) rfl (by kernel_rfl) (by kernel_rfl) (by kernel_rfl) (fun _ _ _ h => h) (Or.inl ⟨by rfl, ?_⟩) hV21 ?_
                    rotate_left 1
                    · (intro w hSw; clear hSw; go_simp; try with_reducible rfl)
                    simp only [Act.put, List.setIfInBounds_toArray, List.set_cons_zero, List.set_cons_succ]
                    refine wpAnyH_take (i := 4) (oi := ⟨some 95, _, _, _, _, _⟩) (v := ?_) rfl (by kernel_rfl) (by kernel_rfl) (by kernel_rfl) (fun _ _ _ h => h) (Or.inl ⟨by rfl, ?_⟩) hV21 ?_
                    rotate_left 1
                    · (intro w hSw; clear hSw; go_simp; try with_reducible rfl)
                    simp only [Act.put, List.setIfInBounds_toArray, List.set_cons_zero, List.set_cons_succ]
                    refine wpAnyH_take (i := 5) (oi := ⟨some 96, _, _, _, _, _⟩) (v := ?_) rfl (by kernel_rfl) (by kernel_rfl) (by kernel_rfl) (fun _ _ _ h => h) (Or.inl ⟨by rfl, ?_⟩) hV21 ?_
                    rotate_left 1
                    · (intro w hSw; clear hSw; go_simp; try with_reducible rfl)
                    simp only [Act.put, List.setIfInBounds_toArray, List.set_cons_zero, List.set_cons_succ]
                    refine wpAnyH_take (i := 7) (oi := ⟨some 98, _, _, _, _, _⟩) (v := ?_) rfl (by kernel_rfl) (by kernel_rfl) (by kernel_rfl) (fun _ _ _ h => h) (Or.inl ⟨by rfl, ?_⟩) hV21 ?_
                    rotate_left 1
                    · (intro w hSw; clear hSw; go_simp; try with_reducible rfl)
                    simp only [Act.put, List.setIfInBounds_toArray, List.set_cons_zero, List.set_cons_succ]
                    refine wpAnyH_ready (rs := [6]) (by kernel_rfl) (by simp) ?_
                    refine AllReadyH.cons (o := ⟨some 97, _, _, _, _, _⟩) rfl (fun K hK => ?_) AllReadyH.nil
                    go_simp
                    refine (PS.mark HS21.out).mono ?_
                    rintro e w22 ⟨rfl, hw22⟩
                    rw [← hw22]
                    clear hw22
                    refine hK.out _ _ hV21 (fun hHeld => ?_)
                    clear hK K
                    clear hHeld
                    refine wpAnyH_take (i := 8) (oi := ⟨some 99, _, _, _, _, _⟩) (v := ?_) rfl (by kernel_rfl) (by kernel_rfl) (by kernel_rfl) (fun _ _ _ h => h) (Or.inl ⟨by rfl, ?_⟩) hV21 ?_
                    rotate_left 1
                    · (intro w hSw; clear hSw; go_simp; try with_reducible rfl)
                    simp only [Act.put, List.setIfInBounds_toArray, List.set_cons_zero, List.set_cons_succ]
                    refine wpAnyH_take (i := 9) (oi := ⟨some 100, _, _, _, _, _⟩) (v := ?_) rfl (by kernel_rfl) (by kernel_rfl) (by kernel_rfl) (fun _ _ _ h => h) (Or.inl ⟨by rfl, ?_⟩) hV21 ?_
                    rotate_left 1
                    · (intro w hSw; clear hSw; go_simp; try with_reducible rfl)
                    simp only [Act.put, List.setIfInBounds_toArray, List.set_cons_zero, List.set_cons_succ]
                    refine wpAnyH_take (i := 10) (oi := ⟨some 12, _, _, _, _, _⟩) (v := ?_) rfl (by kernel_rfl) (by kernel_rfl) (by kernel_rfl) (fun _ _ _ h => h) (Or.inl ⟨by rfl, ?_⟩) hV21 ?_
                    rotate_left 1
                    · (intro w hSw; clear hSw; go_simp; try with_reducible rfl)
                    simp only [Act.put, List.setIfInBounds_toArray, List.set_cons_zero, List.set_cons_succ]
                    refine wpAnyH_done (by kernel_rfl) ?_ _
                    skip
                    clear hV20 hV21 heq
                    have hO21 := (St.op HS21.out.drew (j := 2) rfl).two
                    have HMD2 := hide (fun W (hb : Below w.heap.size w W) => made_any o.a o.n o.c o.l W HFIT.out.len HSMo.out.1 (HFIT.out.src.below hb))
                    have heq := fun W => blks_equal i.B M HIB.out HML.out W
                    rw [decide_eq_true HE.out] at heq
                    have hmk2 : ((i.m : Int) == o.mark) = false := by simp; have := HMORE.out; have := HMV.out; omega
                    go_wp2_with fail
                    refine wp_region_held (S := (fun W => W.cell? ⟨bo, 0, none⟩ = some (.slice o.a o.n o.c) ∧ W.cell? ⟨bo, 1, none⟩ = some (.int .i64 o.mark))) (by kernel_rfl) ?_
                    change wpAnyH _ _ _ _ _ _ _ _ (World.drew _)
                    refine wpAnyH_take (i := 0) (oi := ⟨some 101, _, _, _, _, _⟩) (v := ?_) rfl (by kernel_rfl) (by kernel_rfl) (by kernel_rfl) (fun _ _ _ h => h) (Or.inl ⟨by rfl, ?_⟩) hO21 ?_
                    rotate_left 1
                    · (intro w hSw; obtain ⟨hSw1, hSw2⟩ := hSw; go_simp; try with_reducible rfl)
                    simp only [Act.put, List.setIfInBounds_toArray, List.set_cons_zero, List.set_cons_succ]
                    refine wpAnyH_take (i := 2) (oi := ⟨some 103, _, _, _, _, _⟩) (v := ?_) rfl (by kernel_rfl) (by kernel_rfl) (by kernel_rfl) (fun _ _ _ h => h) (Or.inl ⟨by rfl, ?_⟩) hO21 ?_
                    rotate_left 1
                    · (intro w hSw; obtain ⟨hSw1, hSw2⟩ := hSw; go_simp; try with_reducible rfl)
                    simp only [Act.put, List.setIfInBounds_toArray, List.set_cons_zero, List.set_cons_succ]
                    refine wpAnyH_take (i := 3) (oi := ⟨some 104, _, _, _, _, _⟩) (v := ?_) rfl (by kernel_rfl) (by kernel_rfl) (by kernel_rfl) (fun _ _ _ h => h) (Or.inl ⟨by rfl, ?_⟩) hO21 ?_
                    rotate_left 1
                    · (intro w hSw; obtain ⟨hSw1, hSw2⟩ := hSw; go_simp; try with_reducible rfl)
                    simp only [Act.put, List.setIfInBounds_toArray, List.set_cons_zero, List.set_cons_succ]
                    refine wpAnyH_ready (rs := [1]) (by kernel_rfl) (by simp) ?_
                    refine AllReadyH.cons (o := ⟨some 102, _, _, _, _, _⟩) rfl (fun K hK => ?_) AllReadyH.nil
                    go_simp
                    refine (PS.blocks HS21.out.drew HGD.out.sz).mono ?_
                    rintro e w23 ⟨rfl, hb23⟩
                    have HS23 := hide (HS21.out.drew.below hb23)
                    have hO23 := (St.op HS23.out (j := 2) rfl).two
                    clear hb23 HS21
                    refine hK.out _ _ hO23 (fun hHeld => ?_)
                    clear hK K
                    clear hHeld
                    refine wpAnyH_ready (rs := [4]) (by kernel_rfl) (by simp) ?_
                    refine AllReadyH.cons (o := ⟨some 105, _, _, _, _, _⟩) rfl (fun K hK => ?_) AllReadyH.nil
                    go_simp
                    refine (HMD2.out w23 HS23.out.bel).mono ?_
                    rintro e w24 ⟨rfl, hb24⟩
                    rw [← HMM.out]
                    have HS24 := hide (HS23.out.below hb24)
                    have hO24 := (St.op HS24.out (j := 2) rfl).two
                    clear hb24 HS23 HMD2
                    refine hK.out _ _ hO24 (fun hHeld => ?_)
                    clear hK K
                    clear hHeld
                    refine wpAnyH_take (i := 5) (oi := ⟨some 106, _, _, _, _, _⟩) (v := ?_) rfl (by kernel_rfl) (by kernel_rfl) (by kernel_rfl) (fun _ _ _ h => h) (Or.inl ⟨by rfl, ?_⟩) hO24 ?_
                    rotate_left 1
                    · (intro w hSw; obtain ⟨hSw1, hSw2⟩ := hSw; go_simp; try with_reducible rfl)
                    simp only [Act.put, List.setIfInBounds_toArray, List.set_cons_zero, List.set_cons_succ]
                    refine wpAnyH_take (i := 6) (oi := ⟨some 107, _, _, _, _, _⟩) (v := ?_) rfl (by kernel_rfl) (by kernel_rfl) (by kernel_rfl) (fun _ _ _ h => h) (Or.inl ⟨by rfl, ?_⟩) hO24 ?_
                    rotate_left 1
                    · (intro w hSw; obtain ⟨hSw1, hSw2⟩ := hSw; go_simp; try with_reducible rfl)
                    simp only [Act.put, List.setIfInBounds_toArray, List.set_cons_zero, List.set_cons_succ]
                    refine wpAnyH_take (i := 7) (oi := ⟨some 108, _, _, _, _, _⟩) (v := ?_) rfl (by kernel_rfl) (by kernel_rfl) (by kernel_rfl) (fun _ _ _ h => h) (Or.inl ⟨by rfl, ?_⟩) hO24 ?_
                    rotate_left 1
                    · (intro w hSw; obtain ⟨hSw1, hSw2⟩ := hSw; go_simp; try with_reducible rfl)
                    simp only [Act.put, List.setIfInBounds_toArray, List.set_cons_zero, List.set_cons_succ]
                    refine wpAnyH_take (i := 9) (oi := ⟨some 110, _, _, _, _, _⟩) (v := ?_) rfl (by kernel_rfl) (by kernel_rfl) (by kernel_rfl) (fun _ _ _ h => h) (Or.inl ⟨by rfl, ?_⟩) hO24 ?_
                    rotate_left 1
                    · (intro w hSw; obtain ⟨hSw1, hSw2⟩ := hSw; go_simp; try with_reducible rfl)
                    simp only [Act.put, List.setIfInBounds_toArray, List.set_cons_zero, List.set_cons_succ]
                    refine wpAnyH_take (i := 10) (oi := ⟨some 111, _, _, _, _, _⟩) (v := ?_) rfl (by kernel_rfl) (by kernel_rfl) (by kernel_rfl) (fun _ _ _ h => h) (Or.inl ⟨by rfl, ?_⟩) hO24 ?_
                    rotate_left 1
                    · (intro w hSw; obtain ⟨hSw1, hSw2⟩ := hSw; go_simp; try with_reducible rfl)
                    simp only [Act.put, List.setIfInBounds_toArray, List.set_cons_zero, List.set_cons_succ]
                    refine wpAnyH_ready (rs := [8]) (by kernel_rfl) (by simp) ?_
                    refine AllReadyH.cons (o := ⟨some 109, _, _, _, _, _⟩) rfl (fun K hK => ?_) AllReadyH.nil
                    go_simp
                    refine (PS.mark HS24.out).mono ?_
                    rintro e w25 ⟨rfl, hw25⟩
                    rw [← hw25]
                    clear hw25
                    refine hK.out _ _ hO24 (fun hHeld => ?_)
                    clear hK K
                    clear hHeld
                    refine wpAnyH_take (i := 11) (oi := ⟨some 112, _, _, _, _, _⟩) (v := ?_) rfl (by kernel_rfl) (by kernel_rfl) (by kernel_rfl) (fun _ _ _ h => h) (Or.inl ⟨by rfl, ?_⟩) hO24 ?_
                    rotate_left 1
                    · (intro w hSw; obtain ⟨hSw1, hSw2⟩ := hSw; go_simp; try with_reducible rfl)
                    simp only [Act.put, List.setIfInBounds_toArray, List.set_cons_zero, List.set_cons_succ]
                    refine wpAnyH_take (i := 12) (oi := ⟨some 113, _, _, _, _, _⟩) (v := ?_) rfl (by kernel_rfl) (by kernel_rfl) (by kernel_rfl) (fun _ _ _ h => h) (Or.inl ⟨by rfl, ?_⟩) hO24 ?_
                    rotate_left 1
                    · (intro w hSw; obtain ⟨hSw1, hSw2⟩ := hSw; go_simp; try with_reducible rfl)
                    simp only [Act.put, List.setIfInBounds_toArray, List.set_cons_zero, List.set_cons_succ]
                    refine wpAnyH_take (i := 13) (oi := ⟨some 13, _, _, _, _, _⟩) (v := ?_) rfl (by kernel_rfl) (by kernel_rfl) (by kernel_rfl) (fun _ _ _ h => h) (Or.inl ⟨by rfl, ?_⟩) hO24 ?_
                    rotate_left 1
                    · (intro w hSw; obtain ⟨hSw1, hSw2⟩ := hSw; go_simp; try with_reducible rfl)
                    simp only [Act.put, List.setIfInBounds_toArray, List.set_cons_zero, List.set_cons_succ]
                    refine wpAnyH_done (by kernel_rfl) ?_ _
                    skip
                    clear hO21 hO23 hO24 heq hmk2
                    have hlt : ¬ (i.m : Int) < (i.m : Int) := by omega
                    go_wp2_with fail
                    refine (PS.mark HS24.out).mono ?_
                    rintro e w26 ⟨rfl, rfl⟩
                    go_wp2_with fail
                    refine (PS.idle HS24.out HGD.out.sz).mono ?_
                    rintro e w26 ⟨rfl, rfl⟩
                    have HTR := hide (show Trn0 w q p1 i (k + 1) w24 from ⟨_, HGD.out, by have := HTI.out; have := HNT.out; omega, St.left (Us := [opT bo o, blksT vb i.B]) HS24.out⟩)
                    clear HS24 hlt
                    go_wp2
                    go_roundw
                    case rel => exact ⟨k + 1, p1, i, HK.out, by go_num, rfl, HTR.out⟩
                    case measure => have := HK.out; simp [intOf]; omega
                  · have HE := hide hE
                    clear hE
                    have hV20 := St.var HST.out.drew (j := 3) rfl
                    have heq := fun W => blks_equal i.B i.B HIB.out HIB.out W
                    rw [decide_eq_true (rfl : i.B = i.B)] at heq
                    go_wp2_with fail
                    refine wp_region_held (S := (fun W => Lies W vb i.B)) (by kernel_rfl) ?_
                    change wpAnyH _ _ _ _ _ _ _ _ (World.drew _)
                    refine wpAnyH_take (i := 0) (oi := ⟨some 91, _, _, _, _, _⟩) (v := ?_) rfl (by kernel_rfl) (by kernel_rfl) (by kernel_rfl) (fun _ _ _ h => h) (Or.inl ⟨by rfl, ?_⟩) hV20 ?_
                    rotate_left 1
                    · (intro w hSw; clear hSw; go_simp; try with_reducible rfl)
                    simp only [Act.put, List.setIfInBounds_toArray, List.set_cons_zero, List.set_cons_succ]
                    refine wpAnyH_take (i := 2) (oi := ⟨some 93, _, _, _, _, _⟩) (v := bval i.B) rfl (by kernel_rfl) (by kernel_rfl) (by kernel_rfl) (fun _ _ _ h => h) (yields_blks (by rfl) (.tmp 8) rfl vb rfl i.B HIB.out (fun w hw => hw)) hV20 ?_
                    simp only [Act.put, List.setIfInBounds_toArray, List.set_cons_zero, List.set_cons_succ]
                    refine wpAnyH_ready (rs := [1]) (by kernel_rfl) (by simp) ?_
                    refine AllReadyH.cons (o := ⟨some 92, _, _, _, _, _⟩) rfl (fun K hK => ?_) AllReadyH.nil
                    go_simp
                    refine (PS.blocks HST.out.drew HGD.out.sz).mono ?_
                    rintro e w21 ⟨rfl, hb21⟩
                    have HS21 := hide (HST.out.drew.below hb21)
                    have hV21 := St.var HS21.out (j := 3) rfl
                    clear hb21 HST
                    refine hK.out _ _ hV21 (fun hHeld => ?_)
                    clear hK K
                    clear hHeld
                    refine wpAnyH_take (i := 3) (oi := ⟨some 94, _, _, _, _, _⟩) (v := ?_) rfl (by kernel_rfl) (by kernel_rfl) (by kernel_rfl) (fun _ _ _ h => h) (Or.inl ⟨by rfl, ?_⟩) hV21 ?_
                    rotate_left 1
                    · (intro w hSw; clear hSw; go_simp; try with_reducible rfl)
                    simp only [Act.put, List.setIfInBounds_toArray, List.set_cons_zero, List.set_cons_succ]
                    refine wpAnyH_take (i := 4) (oi := ⟨some 95, _, _, _, _, _⟩) (v := ?_) rfl (by kernel_rfl) (by kernel_rfl) (by kernel_rfl) (fun _ _ _ h => h) (Or.inl ⟨by rfl, ?_⟩) hV21 ?_
                    rotate_left 1
                    · (intro w hSw; clear hSw; go_simp; try with_reducible rfl)
                    simp only [Act.put, List.setIfInBounds_toArray, List.set_cons_zero, List.set_cons_succ]
                    refine wpAnyH_take (i := 5) (oi := ⟨some 96, _, _, _, _, _⟩) (v := ?_) rfl (by kernel_rfl) (by kernel_rfl) (by kernel_rfl) (fun _ _ _ h => h) (Or.inl ⟨by rfl, ?_⟩) hV21 ?_
                    rotate_left 1
                    · (intro w hSw; clear hSw; go_simp; try with_reducible rfl)
                    simp only [Act.put, List.setIfInBounds_toArray, List.set_cons_zero, List.set_cons_succ]
                    refine wpAnyH_take (i := 7) (oi := ⟨some 98, _, _, _, _, _⟩) (v := ?_) rfl (by kernel_rfl) (by kernel_rfl) (by kernel_rfl) (fun _ _ _ h => h) (Or.inl ⟨by rfl, ?_⟩) hV21 ?_
                    rotate_left 1
                    · (intro w hSw; clear hSw; go_simp; try with_reducible rfl)
                    simp only [Act.put, List.setIfInBounds_toArray, List.set_cons_zero, List.set_cons_succ]
                    refine wpAnyH_ready (rs := [6]) (by kernel_rfl) (by simp) ?_
                    refine AllReadyH.cons (o := ⟨some 97, _, _, _, _, _⟩) rfl (fun K hK => ?_) AllReadyH.nil
                    go_simp
                    refine (PS.mark HS21.out).mono ?_
                    rintro e w22 ⟨rfl, hw22⟩
                    rw [← hw22]
                    clear hw22
                    refine hK.out _ _ hV21 (fun hHeld => ?_)
                    clear hK K
                    clear hHeld
                    refine wpAnyH_take (i := 8) (oi := ⟨some 99, _, _, _, _, _⟩) (v := ?_) rfl (by kernel_rfl) (by kernel_rfl) (by kernel_rfl) (fun _ _ _ h => h) (Or.inl ⟨by rfl, ?_⟩) hV21 ?_
                    rotate_left 1
                    · (intro w hSw; clear hSw; go_simp; try with_reducible rfl)
                    simp only [Act.put, List.setIfInBounds_toArray, List.set_cons_zero, List.set_cons_succ]
                    refine wpAnyH_take (i := 9) (oi := ⟨some 100, _, _, _, _, _⟩) (v := ?_) rfl (by kernel_rfl) (by kernel_rfl) (by kernel_rfl) (fun _ _ _ h => h) (Or.inl ⟨by rfl, ?_⟩) hV21 ?_
                    rotate_left 1
                    · (intro w hSw; clear hSw; go_simp; try with_reducible rfl)
                    simp only [Act.put, List.setIfInBounds_toArray, List.set_cons_zero, List.set_cons_succ]
                    refine wpAnyH_take (i := 10) (oi := ⟨some 12, _, _, _, _, _⟩) (v := ?_) rfl (by kernel_rfl) (by kernel_rfl) (by kernel_rfl) (fun _ _ _ h => h) (Or.inl ⟨by rfl, ?_⟩) hV21 ?_
                    rotate_left 1
                    · (intro w hSw; clear hSw; go_simp; try with_reducible rfl)
                    simp only [Act.put, List.setIfInBounds_toArray, List.set_cons_zero, List.set_cons_succ]
                    refine wpAnyH_done (by kernel_rfl) ?_ _
                    skip
                    clear hV20 hV21 heq
                    have hO21 := (St.op HS21.out.drew (j := 2) rfl).two
                    have HMD2 := hide (fun W (hb : Below w.heap.size w W) => made_any o.a o.n o.c o.l W HFIT.out.len HSMo.out.1 (HFIT.out.src.below hb))
                    have heq := fun W => blks_equal i.B M HIB.out HML.out W
                    rw [decide_eq_false HE.out] at heq
                    go_wp2_with fail
                    refine wp_region_held (S := (fun W => W.cell? ⟨bo, 0, none⟩ = some (.slice o.a o.n o.c) ∧ W.cell? ⟨bo, 1, none⟩ = some (.int .i64 o.mark))) (by kernel_rfl) ?_
                    change wpAnyH _ _ _ _ _ _ _ _ (World.drew _)
                    refine wpAnyH_take (i := 0) (oi := ⟨some 101, _, _, _, _, _⟩) (v := ?_) rfl (by kernel_rfl) (by kernel_rfl) (by kernel_rfl) (fun _ _ _ h => h) (Or.inl ⟨by rfl, ?_⟩) hO21 ?_
                    rotate_left 1
                    · (intro w hSw; obtain ⟨hSw1, hSw2⟩ := hSw; go_simp; try with_reducible rfl)
                    simp only [Act.put, List.setIfInBounds_toArray, List.set_cons_zero, List.set_cons_succ]
                    refine wpAnyH_take (i := 2) (oi := ⟨some 103, _, _, _, _, _⟩) (v := ?_) rfl (by kernel_rfl) (by kernel_rfl) (by kernel_rfl) (fun _ _ _ h => h) (Or.inl ⟨by rfl, ?_⟩) hO21 ?_
                    rotate_left 1
                    · (intro w hSw; obtain ⟨hSw1, hSw2⟩ := hSw; go_simp; try with_reducible rfl)
                    simp only [Act.put, List.setIfInBounds_toArray, List.set_cons_zero, List.set_cons_succ]
                    refine wpAnyH_take (i := 3) (oi := ⟨some 104, _, _, _, _, _⟩) (v := ?_) rfl (by kernel_rfl) (by kernel_rfl) (by kernel_rfl) (fun _ _ _ h => h) (Or.inl ⟨by rfl, ?_⟩) hO21 ?_
                    rotate_left 1
                    · (intro w hSw; obtain ⟨hSw1, hSw2⟩ := hSw; go_simp; try with_reducible rfl)
                    simp only [Act.put, List.setIfInBounds_toArray, List.set_cons_zero, List.set_cons_succ]
                    refine wpAnyH_ready (rs := [1]) (by kernel_rfl) (by simp) ?_
                    refine AllReadyH.cons (o := ⟨some 102, _, _, _, _, _⟩) rfl (fun K hK => ?_) AllReadyH.nil
                    go_simp
                    refine (PS.blocks HS21.out.drew HGD.out.sz).mono ?_
                    rintro e w23 ⟨rfl, hb23⟩
                    have HS23 := hide (HS21.out.drew.below hb23)
                    have hO23 := (St.op HS23.out (j := 2) rfl).two
                    clear hb23 HS21
                    refine hK.out _ _ hO23 (fun hHeld => ?_)
                    clear hK K
                    clear hHeld
                    refine wpAnyH_ready (rs := [4]) (by kernel_rfl) (by simp) ?_
                    refine AllReadyH.cons (o := ⟨some 105, _, _, _, _, _⟩) rfl (fun K hK => ?_) AllReadyH.nil
                    go_simp
                    refine (HMD2.out w23 HS23.out.bel).mono ?_
                    rintro e w24 ⟨rfl, hb24⟩
                    rw [← HMM.out]
                    have HS24 := hide (HS23.out.below hb24)
                    have hO24 := (St.op HS24.out (j := 2) rfl).two
                    clear hb24 HS23 HMD2
                    refine hK.out _ _ hO24 (fun hHeld => ?_)
                    clear hK K
                    clear hHeld
                    refine wpAnyH_take (i := 5) (oi := ⟨some 106, _, _, _, _, _⟩) (v := ?_) rfl (by kernel_rfl) (by kernel_rfl) (by kernel_rfl) (fun _ _ _ h => h) (Or.inl ⟨by rfl, ?_⟩) hO24 ?_
                    rotate_left 1
                    · (intro w hSw; obtain ⟨hSw1, hSw2⟩ := hSw; go_simp; try with_reducible rfl)
                    simp only [Act.put, List.setIfInBounds_toArray, List.set_cons_zero, List.set_cons_succ]
                    refine wpAnyH_take (i := 6) (oi := ⟨some 107, _, _, _, _, _⟩) (v := ?_) rfl (by kernel_rfl) (by kernel_rfl) (by kernel_rfl) (fun _ _ _ h => h) (Or.inl ⟨by rfl, ?_⟩) hO24 ?_
                    rotate_left 1
                    · (intro w hSw; obtain ⟨hSw1, hSw2⟩ := hSw; go_simp; try with_reducible rfl)
                    simp only [Act.put, List.setIfInBounds_toArray, List.set_cons_zero, List.set_cons_succ]
                    refine wpAnyH_take (i := 7) (oi := ⟨some 108, _, _, _, _, _⟩) (v := undef) rfl (by kernel_rfl) (by kernel_rfl) (by kernel_rfl) (fun _ _ _ h => h) (Or.inr ⟨by rfl, rfl⟩) hO24 ?_
                    simp only [Act.put, List.setIfInBounds_toArray, List.set_cons_zero, List.set_cons_succ]
                    refine wpAnyH_take (i := 8) (oi := ⟨some 109, _, _, _, _, _⟩) (v := undef) rfl (by kernel_rfl) (by kernel_rfl) (by kernel_rfl) (fun _ _ _ h => h) (Or.inr ⟨by rfl, rfl⟩) hO24 ?_
                    simp only [Act.put, List.setIfInBounds_toArray, List.set_cons_zero, List.set_cons_succ]
                    refine wpAnyH_take (i := 9) (oi := ⟨some 110, _, _, _, _, _⟩) (v := undef) rfl (by kernel_rfl) (by kernel_rfl) (by kernel_rfl) (fun _ _ _ h => h) (Or.inr ⟨by rfl, rfl⟩) hO24 ?_
                    simp only [Act.put, List.setIfInBounds_toArray, List.set_cons_zero, List.set_cons_succ]
                    refine wpAnyH_take (i := 10) (oi := ⟨some 111, _, _, _, _, _⟩) (v := undef) rfl (by kernel_rfl) (by kernel_rfl) (by kernel_rfl) (fun _ _ _ h => h) (Or.inr ⟨by rfl, rfl⟩) hO24 ?_
                    simp only [Act.put, List.setIfInBounds_toArray, List.set_cons_zero, List.set_cons_succ]
                    refine wpAnyH_take (i := 11) (oi := ⟨some 112, _, _, _, _, _⟩) (v := undef) rfl (by kernel_rfl) (by kernel_rfl) (by kernel_rfl) (fun _ _ _ h => h) (Or.inr ⟨by rfl, rfl⟩) hO24 ?_
                    simp only [Act.put, List.setIfInBounds_toArray, List.set_cons_zero, List.set_cons_succ]
                    refine wpAnyH_take (i := 12) (oi := ⟨some 113, _, _, _, _, _⟩) (v := ?_) rfl (by kernel_rfl) (by kernel_rfl) (by kernel_rfl) (fun _ _ _ h => h) (Or.inl ⟨by rfl, ?_⟩) hO24 ?_
                    rotate_left 1
                    · (intro w hSw; obtain ⟨hSw1, hSw2⟩ := hSw; go_simp; try with_reducible rfl)
                    simp only [Act.put, List.setIfInBounds_toArray, List.set_cons_zero, List.set_cons_succ]
                    refine wpAnyH_take (i := 13) (oi := ⟨some 13, _, _, _, _, _⟩) (v := ?_) rfl (by kernel_rfl) (by kernel_rfl) (by kernel_rfl) (fun _ _ _ h => h) (Or.inl ⟨by rfl, ?_⟩) hO24 ?_
                    rotate_left 1
                    · (intro w hSw; obtain ⟨hSw1, hSw2⟩ := hSw; go_simp; try with_reducible rfl)
                    simp only [Act.put, List.setIfInBounds_toArray, List.set_cons_zero, List.set_cons_succ]
                    refine wpAnyH_done (by kernel_rfl) ?_ _
                    skip
                    clear hO21 hO23 hO24 heq
                    have hlt : ¬ (i.m : Int) < (i.m : Int) := by omega
                    go_wp2_with fail
                    refine (PS.mark HS24.out).mono ?_
                    rintro e w26 ⟨rfl, rfl⟩
                    go_wp2_with fail
                    refine (PS.idle HS24.out HGD.out.sz).mono ?_
                    rintro e w26 ⟨rfl, rfl⟩
                    have HTR := hide (show Trn0 w q p1 i (k + 1) w24 from ⟨_, HGD.out, by have := HTI.out; have := HNT.out; omega, St.left (Us := [opT bo o, blksT vb i.B]) HS24.out⟩)
                    clear HS24 hlt
                    go_wp2
                    go_roundw
                    case rel => exact ⟨k + 1, p1, i, HK.out, by go_num, rfl, HTR.out⟩
                    case measure => have := HK.out; simp [intOf]; omega
                · have HGD := hide hg
                  clear hg HCG
                  have HAG := hide (PS.again HS19.out HT.out HGD.out)
                  clear HS19
                  go_wp2_with fail
                  refine HAG.out.mono ?_
                  rintro e w20 ⟨p1, rfl, hs20⟩
                  have HST := hide hs20
                  clear hs20 HAG
                  by_cases hE : N.B = i.B
                  · have HE := hide hE
                    clear hE
                    have hV20 := St.var HST.out.drew (j := 3) rfl
                    have heq := fun W => blks_equal N.B i.B HGD.out.sz.i HIB.out W
                    rw [decide_eq_true HE.out] at heq
                    have hmk1 : ((N.m : Int) == (i.m : Int)) = false := by simp; have := HMORE.out; omega
                    go_wp2_with fail
                    refine wp_region_held (S := (fun W => Lies W vb i.B)) (by kernel_rfl) ?_
                    change wpAnyH _ _ _ _ _ _ _ _ (World.drew _)
                    refine wpAnyH_take (i := 0) (oi := ⟨some 91, _, _, _, _, _⟩) (v := ?_) rfl (by kernel_rfl) (by kernel_rfl) (by kernel_rfl) (fun _ _ _ h => h) (Or.inl ⟨by rfl, ?_⟩) hV20 ?_
                    rotate_left 1
                    · (intro w hSw; clear hSw; go_simp; try with_reducible rfl)
                    simp only [Act.put, List.setIfInBounds_toArray, List.set_cons_zero, List.set_cons_succ]
                    refine wpAnyH_take (i := 2) (oi := ⟨some 93, _, _, _, _, _⟩) (v := bval i.B) rfl (by kernel_rfl) (by kernel_rfl) (by kernel_rfl) (fun _ _ _ h => h) (yields_blks (by rfl) (.tmp 8) rfl vb rfl i.B HIB.out (fun w hw => hw)) hV20 ?_
                    simp only [Act.put, List.setIfInBounds_toArray, List.set_cons_zero, List.set_cons_succ]
                    refine wpAnyH_ready (rs := [1]) (by kernel_rfl) (by simp) ?_
                    refine AllReadyH.cons (o := ⟨some 92, _, _, _, _, _⟩) rfl (fun K hK => ?_) AllReadyH.nil
                    go_simp
                    refine (PS.blocks HST.out.drew HGD.out.sz).mono ?_
                    rintro e w21 ⟨rfl, hb21⟩
                    have HS21 := hide (HST.out.drew.below hb21)
                    have hV21 := St.var HS21.out (j := 3) rfl
                    clear hb21 HST
                    refine hK.out _ _ hV21 (fun hHeld => ?_)
                    clear hK K
                    clear hHeld
                    refine wpAnyH_take (i := 3) (oi := ⟨some 94, _, _, _, _, _⟩) (v := ?_) rfl (by kernel_rfl) (by kernel_rfl) (by kernel_rfl) (fun _ _ _ h => h) (Or.inl ⟨by rfl, ?_⟩) hV21 ?_
                    rotate_left 1
                    · (intro w hSw; clear hSw; go_simp; try with_reducible rfl)
                    simp only [Act.put, List.setIfInBounds_toArray, List.set_cons_zero, List.set_cons_succ]
                    refine wpAnyH_take (i := 4) (oi := ⟨some 95, _, _, _, _, _⟩) (v := ?_) rfl (by kernel_rfl) (by kernel_rfl) (by kernel_rfl) (fun _ _ _ h => h) (Or.inl ⟨by rfl, ?_⟩) hV21 ?_
                    rotate_left 1
                    · (intro w hSw; clear hSw; go_simp; try with_reducible rfl)
                    simp only [Act.put, List.setIfInBounds_toArray, List.set_cons_zero, List.set_cons_succ]
                    refine wpAnyH_take (i := 5) (oi := ⟨some 96, _, _, _, _, _⟩) (v := ?_) rfl (by kernel_rfl) (by kernel_rfl) (by kernel_rfl) (fun _ _ _ h => h) (Or.inl ⟨by rfl, ?_⟩) hV21 ?_
                    rotate_left 1
                    · (intro w hSw; clear hSw; go_simp; try with_reducible rfl)
                    simp only [Act.put, List.setIfInBounds_toArray, List.set_cons_zero, List.set_cons_succ]
                    refine wpAnyH_take (i := 7) (oi := ⟨some 98, _, _, _, _, _⟩) (v := ?_) rfl (by kernel_rfl) (by kernel_rfl) (by kernel_rfl) (fun _ _ _ h => h) (Or.inl ⟨by rfl, ?_⟩) hV21 ?_
                    rotate_left 1
                    · (intro w hSw; clear hSw; go_simp; try with_reducible rfl)
                    simp only [Act.put, List.setIfInBounds_toArray, List.set_cons_zero, List.set_cons_succ]
                    refine wpAnyH_ready (rs := [6]) (by kernel_rfl) (by simp) ?_
                    refine AllReadyH.cons (o := ⟨some 97, _, _, _, _, _⟩) rfl (fun K hK => ?_) AllReadyH.nil
                    go_simp
                    refine (PS.mark HS21.out).mono ?_
                    rintro e w22 ⟨rfl, hw22⟩
                    rw [← hw22]
                    clear hw22
                    refine hK.out _ _ hV21 (fun hHeld => ?_)
                    clear hK K
                    clear hHeld
                    refine wpAnyH_take (i := 8) (oi := ⟨some 99, _, _, _, _, _⟩) (v := ?_) rfl (by kernel_rfl) (by kernel_rfl) (by kernel_rfl) (fun _ _ _ h => h) (Or.inl ⟨by rfl, ?_⟩) hV21 ?_
                    rotate_left 1
                    · (intro w hSw; clear hSw; go_simp; try with_reducible rfl)
                    simp only [Act.put, List.setIfInBounds_toArray, List.set_cons_zero, List.set_cons_succ]
                    refine wpAnyH_take (i := 9) (oi := ⟨some 100, _, _, _, _, _⟩) (v := ?_) rfl (by kernel_rfl) (by kernel_rfl) (by kernel_rfl) (fun _ _ _ h => h) (Or.inl ⟨by rfl, ?_⟩) hV21 ?_
                    rotate_left 1
                    · (intro w hSw; clear hSw; go_simp; try with_reducible rfl)
                    simp only [Act.put, List.setIfInBounds_toArray, List.set_cons_zero, List.set_cons_succ]
                    refine wpAnyH_take (i := 10) (oi := ⟨some 12, _, _, _, _, _⟩) (v := ?_) rfl (by kernel_rfl) (by kernel_rfl) (by kernel_rfl) (fun _ _ _ h => h) (Or.inl ⟨by rfl, ?_⟩) hV21 ?_
                    rotate_left 1
                    · (intro w hSw; clear hSw; go_simp; try with_reducible rfl)
                    simp only [Act.put, List.setIfInBounds_toArray, List.set_cons_zero, List.set_cons_succ]
                    refine wpAnyH_done (by kernel_rfl) ?_ _
                    skip
                    clear hV20 hV21 heq hmk1
                    have hO21 := (St.op HS21.out.drew (j := 2) rfl).two
                    have HMD2 := hide (fun W (hb : Below w.heap.size w W) => made_any o.a o.n o.c o.l W HFIT.out.len HSMo.out.1 (HFIT.out.src.below hb))
                    have heq := fun W => blks_equal N.B M HGD.out.sz.i HML.out W
                    rw [decide_eq_true HNB.out] at heq
                    have hmk2 : ((N.m : Int) == o.mark) = true := by simp; exact HMV.out.symm
                    go_wp2_with fail
                    refine wp_region_held (S := (fun W => W.cell? ⟨bo, 0, none⟩ = some (.slice o.a o.n o.c) ∧ W.cell? ⟨bo, 1, none⟩ = some (.int .i64 o.mark))) (by kernel_rfl) ?_
                    change wpAnyH _ _ _ _ _ _ _ _ (World.drew _)
                    refine wpAnyH_take (i := 0) (oi := ⟨some 101, _, _, _, _, _⟩) (v := ?_) rfl (by kernel_rfl) (by kernel_rfl) (by kernel_rfl) (fun _ _ _ h => h) (Or.inl ⟨by rfl, ?_⟩) hO21 ?_
                    rotate_left 1
                    · (intro w hSw; obtain ⟨hSw1, hSw2⟩ := hSw; go_simp; try with_reducible rfl)
                    simp only [Act.put, List.setIfInBounds_toArray, List.set_cons_zero, List.set_cons_succ]
                    refine wpAnyH_take (i := 2) (oi := ⟨some 103, _, _, _, _, _⟩) (v := ?_) rfl (by kernel_rfl) (by kernel_rfl) (by kernel_rfl) (fun _ _ _ h => h) (Or.inl ⟨by rfl, ?_⟩) hO21 ?_
                    rotate_left 1
                    · (intro w hSw; obtain ⟨hSw1, hSw2⟩ := hSw; go_simp; try with_reducible rfl)
                    simp only [Act.put, List.setIfInBounds_toArray, List.set_cons_zero, List.set_cons_succ]
                    refine wpAnyH_take (i := 3) (oi := ⟨some 104, _, _, _, _, _⟩) (v := ?_) rfl (by kernel_rfl) (by kernel_rfl) (by kernel_rfl) (fun _ _ _ h => h) (Or.inl ⟨by rfl, ?_⟩) hO21 ?_
                    rotate_left 1
                    · (intro w hSw; obtain ⟨hSw1, hSw2⟩ := hSw; go_simp; try with_reducible rfl)
                    simp only [Act.put, List.setIfInBounds_toArray, List.set_cons_zero, List.set_cons_succ]
                    refine wpAnyH_ready (rs := [1]) (by kernel_rfl) (by simp) ?_
                    refine AllReadyH.cons (o := ⟨some 102, _, _, _, _, _⟩) rfl (fun K hK => ?_) AllReadyH.nil
                    go_simp
                    refine (PS.blocks HS21.out.drew HGD.out.sz).mono ?_
                    rintro e w23 ⟨rfl, hb23⟩
                    have HS23 := hide (HS21.out.drew.below hb23)
                    have hO23 := (St.op HS23.out (j := 2) rfl).two
                    clear hb23 HS21
                    refine hK.out _ _ hO23 (fun hHeld => ?_)
                    clear hK K
                    clear hHeld
                    refine wpAnyH_ready (rs := [4]) (by kernel_rfl) (by simp) ?_
                    refine AllReadyH.cons (o := ⟨some 105, _, _, _, _, _⟩) rfl (fun K hK => ?_) AllReadyH.nil
                    go_simp
                    refine (HMD2.out w23 HS23.out.bel).mono ?_
                    rintro e w24 ⟨rfl, hb24⟩
                    rw [← HMM.out]
                    have HS24 := hide (HS23.out.below hb24)
                    have hO24 := (St.op HS24.out (j := 2) rfl).two
                    clear hb24 HS23 HMD2
                    refine hK.out _ _ hO24 (fun hHeld => ?_)
                    clear hK K
                    clear hHeld
                    refine wpAnyH_take (i := 5) (oi := ⟨some 106, _, _, _, _, _⟩) (v := ?_) rfl (by kernel_rfl) (by kernel_rfl) (by kernel_rfl) (fun _ _ _ h => h) (Or.inl ⟨by rfl, ?_⟩) hO24 ?_
                    rotate_left 1
                    · (intro w hSw; obtain ⟨hSw1, hSw2⟩ := hSw; go_simp; try with_reducible rfl)
                    simp only [Act.put, List.setIfInBounds_toArray, List.set_cons_zero, List.set_cons_succ]
                    refine wpAnyH_take (i := 6) (oi := ⟨some 107, _, _, _, _, _⟩) (v := ?_) rfl (by kernel_rfl) (by kernel_rfl) (by kernel_rfl) (fun _ _ _ h => h) (Or.inl ⟨by rfl, ?_⟩) hO24 ?_
                    rotate_left 1
                    · (intro w hSw; obtain ⟨hSw1, hSw2⟩ := hSw; go_simp; try with_reducible rfl)
                    simp only [Act.put, List.setIfInBounds_toArray, List.set_cons_zero, List.set_cons_succ]
                    refine wpAnyH_take (i := 7) (oi := ⟨some 108, _, _, _, _, _⟩) (v := ?_) rfl (by kernel_rfl) (by kernel_rfl) (by kernel_rfl) (fun _ _ _ h => h) (Or.inl ⟨by rfl, ?_⟩) hO24 ?_
                    rotate_left 1
                    · (intro w hSw; obtain ⟨hSw1, hSw2⟩ := hSw; go_simp; try with_reducible rfl)
                    simp only [Act.put, List.setIfInBounds_toArray, List.set_cons_zero, List.set_cons_succ]
                    refine wpAnyH_take (i := 9) (oi := ⟨some 110, _, _, _, _, _⟩) (v := ?_) rfl (by kernel_rfl) (by kernel_rfl) (by kernel_rfl) (fun _ _ _ h => h) (Or.inl ⟨by rfl, ?_⟩) hO24 ?_
                    rotate_left 1
                    · (intro w hSw; obtain ⟨hSw1, hSw2⟩ := hSw; go_simp; try with_reducible rfl)
                    simp only [Act.put, List.setIfInBounds_toArray, List.set_cons_zero, List.set_cons_succ]
                    refine wpAnyH_take (i := 10) (oi := ⟨some 111, _, _, _, _, _⟩) (v := ?_) rfl (by kernel_rfl) (by kernel_rfl) (by kernel_rfl) (fun _ _ _ h => h) (Or.inl ⟨by rfl, ?_⟩) hO24 ?_
                    rotate_left 1
                    · (intro w hSw; obtain ⟨hSw1, hSw2⟩ := hSw; go_simp; try with_reducible rfl)
                    simp only [Act.put, List.setIfInBounds_toArray, List.set_cons_zero, List.set_cons_succ]
                    refine wpAnyH_ready (rs := [8]) (by kernel_rfl) (by simp) ?_
                    refine AllReadyH.cons (o := ⟨some 109, _, _, _, _, _⟩) rfl (fun K hK => ?_) AllReadyH.nil
                    go_simp
                    refine (PS.mark HS24.out).mono ?_
                    rintro e w25 ⟨rfl, hw25⟩
                    rw [← hw25]
                    clear hw25
                    refine hK.out _ _ hO24 (fun hHeld => ?_)
                    clear hK K
                    clear hHeld
                    refine wpAnyH_take (i := 11) (oi := ⟨some 112, _, _, _, _, _⟩) (v := ?_) rfl (by kernel_rfl) (by kernel_rfl) (by kernel_rfl) (fun _ _ _ h => h) (Or.inl ⟨by rfl, ?_⟩) hO24 ?_
                    rotate_left 1
                    · (intro w hSw; obtain ⟨hSw1, hSw2⟩ := hSw; go_simp; try with_reducible rfl)
                    simp only [Act.put, List.setIfInBounds_toArray, List.set_cons_zero, List.set_cons_succ]
                    refine wpAnyH_take (i := 12) (oi := ⟨some 113, _, _, _, _, _⟩) (v := ?_) rfl (by kernel_rfl) (by kernel_rfl) (by kernel_rfl) (fun _ _ _ h => h) (Or.inl ⟨by rfl, ?_⟩) hO24 ?_
                    rotate_left 1
                    · (intro w hSw; obtain ⟨hSw1, hSw2⟩ := hSw; go_simp; try with_reducible rfl)
                    simp only [Act.put, List.setIfInBounds_toArray, List.set_cons_zero, List.set_cons_succ]
                    refine wpAnyH_take (i := 13) (oi := ⟨some 13, _, _, _, _, _⟩) (v := ?_) rfl (by kernel_rfl) (by kernel_rfl) (by kernel_rfl) (fun _ _ _ h => h) (Or.inl ⟨by rfl, ?_⟩) hO24 ?_
                    rotate_left 1
                    · (intro w hSw; obtain ⟨hSw1, hSw2⟩ := hSw; go_simp; try with_reducible rfl)
                    simp only [Act.put, List.setIfInBounds_toArray, List.set_cons_zero, List.set_cons_succ]
                    refine wpAnyH_done (by kernel_rfl) ?_ _
                    skip
                    clear hO21 hO23 hO24 heq hmk2
                    have hlt : ¬ (N.m : Int) < (i.m : Int) := by have := HMORE.out; omega
                    go_wp2_with fail
                    refine (PS.mark HS24.out).mono ?_
                    rintro e w26 ⟨rfl, rfl⟩
                    go_wp2_with fail
                    refine (PS.idle HS24.out HGD.out.sz).mono ?_
                    rintro e w26 ⟨rfl, rfl⟩
                    have HTR := hide (show Trn0 w q p1 N (k + 1) w24 from ⟨_, HGD.out, by have := HTI.out; have := HNT.out; omega, St.left (Us := [opT bo o, blksT vb i.B]) HS24.out⟩)
                    clear HS24 hlt
                    go_wp2
                    go_roundw
                    case rel => exact ⟨k + 1, p1, N, HK.out, by go_num, rfl, HTR.out⟩
                    case measure => have := HK.out; simp [intOf]; omega
                  · have HE := hide hE
                    clear hE
                    have hV20 := St.var HST.out.drew (j := 3) rfl
                    have heq := fun W => blks_equal N.B i.B HGD.out.sz.i HIB.out W
                    rw [decide_eq_false HE.out] at heq
                    go_wp2_with fail
                    refine wp_region_held (S := (fun W => Lies W vb i.B)) (by kernel_rfl) ?_
                    change wpAnyH _ _ _ _ _ _ _ _ (World.drew _)
                    refine wpAnyH_take (i := 0) (oi := ⟨some 91, _, _, _, _, _⟩) (v := ?_) rfl (by kernel_rfl) (by kernel_rfl) (by kernel_rfl) (fun _ _ _ h => h) (Or.inl ⟨by rfl, ?_⟩) hV20 ?_
                    rotate_left 1
                    · (intro w hSw; clear hSw; go_simp; try with_reducible rfl)
                    simp only [Act.put, List.setIfInBounds_toArray, List.set_cons_zero, List.set_cons_succ]
                    refine wpAnyH_take (i := 2) (oi := ⟨some 93, _, _, _, _, _⟩) (v := bval i.B) rfl (by kernel_rfl) (by kernel_rfl) (by kernel_rfl) (fun _ _ _ h => h) (yields_blks (by rfl) (.tmp 8) rfl vb rfl i.B HIB.out (fun w hw => hw)) hV20 ?_
                    simp only [Act.put, List.setIfInBounds_toArray, List.set_cons_zero, List.set_cons_succ]
                    refine wpAnyH_ready (rs := [1]) (by kernel_rfl) (by simp) ?_
                    refine AllReadyH.cons (o := ⟨some 92, _, _, _, _, _⟩) rfl (fun K hK => ?_) AllReadyH.nil
                    go_simp
                    refine (PS.blocks HST.out.drew HGD.out.sz).mono ?_
                    rintro e w21 ⟨rfl, hb21⟩
                    have HS21 := hide (HST.out.drew.below hb21)
                    have hV21 := St.var HS21.out (j := 3) rfl
                    clear hb21 HST
                    refine hK.out _ _ hV21 (fun hHeld => ?_)
                    clear hK K
                    clear hHeld
                    refine wpAnyH_take (i := 3) (oi := ⟨some 94, _, _, _, _, _⟩) (v := ?_) rfl (by kernel_rfl) (by kernel_rfl) (by kernel_rfl) (fun _ _ _ h => h) (Or.inl ⟨by rfl, ?_⟩) hV21 ?_
                    rotate_left 1
                    · (intro w hSw; clear hSw; go_simp; try with_reducible rfl)
                    simp only [Act.put, List.setIfInBounds_toArray, List.set_cons_zero, List.set_cons_succ]
                    refine wpAnyH_take (i := 4) (oi := ⟨some 95, _, _, _, _, _⟩) (v := ?_) rfl (by kernel_rfl) (by kernel_rfl) (by kernel_rfl) (fun _ _ _ h => h) (Or.inl ⟨by rfl, ?_⟩) hV21 ?_
                    rotate_left 1
                    · (intro w hSw; clear hSw; go_simp; try with_reducible rfl)
                    simp only [Act.put, List.setIfInBounds_toArray, List.set_cons_zero, List.set_cons_succ]
                    refine wpAnyH_take (i := 5) (oi := ⟨some 96, _, _, _, _, _⟩) (v := undef) rfl (by kernel_rfl) (by kernel_rfl) (by kernel_rfl) (fun _ _ _ h => h) (Or.inr ⟨by rfl, rfl⟩) hV21 ?_
                    simp only [Act.put, List.setIfInBounds_toArray, List.set_cons_zero, List.set_cons_succ]
                    refine wpAnyH_take (i := 6) (oi := ⟨some 97, _, _, _, _, _⟩) (v := undef) rfl (by kernel_rfl) (by kernel_rfl) (by kernel_rfl) (fun _ _ _ h => h) (Or.inr ⟨by rfl, rfl⟩) hV21 ?_
                    simp only [Act.put, List.setIfInBounds_toArray, List.set_cons_zero, List.set_cons_succ]
                    refine wpAnyH_take (i := 7) (oi := ⟨some 98, _, _, _, _, _⟩) (v := undef) rfl (by kernel_rfl) (by kernel_rfl) (by kernel_rfl) (fun _ _ _ h => h) (Or.inr ⟨by rfl, rfl⟩) hV21 ?_
                    simp only [Act.put, List.setIfInBounds_toArray, List.set_cons_zero, List.set_cons_succ]
                    refine wpAnyH_take (i := 8) (oi := ⟨some 99, _, _, _, _, _⟩) (v := undef) rfl (by kernel_rfl) (by kernel_rfl) (by kernel_rfl) (fun _ _ _ h => h) (Or.inr ⟨by rfl, rfl⟩) hV21 ?_
                    simp only [Act.put, List.setIfInBounds_toArray, List.set_cons_zero, List.set_cons_succ]
                    refine wpAnyH_take (i := 9) (oi := ⟨some 100, _, _, _, _, _⟩) (v := ?_) rfl (by kernel_rfl) (by kernel_rfl) (by kernel_rfl) (fun _ _ _ h => h) (Or.inl ⟨by rfl, ?_⟩) hV21 ?_
                    rotate_left 1
                    · (intro w hSw; clear hSw; go_simp; try with_reducible rfl)
                    simp only [Act.put, List.setIfInBounds_toArray, List.set_cons_zero, List.set_cons_succ]
                    refine wpAnyH_take (i := 10) (oi := ⟨some 12, _, _, _, _, _⟩) (v := ?_) rfl (by kernel_rfl) (by kernel_rfl) (by kernel_rfl) (fun _ _ _ h => h) (Or.inl ⟨by rfl, ?_⟩) hV21 ?_
                    rotate_left 1
                    · (intro w hSw; clear hSw; go_simp; try with_reducible rfl)
                    simp only [Act.put, List.setIfInBounds_toArray, List.set_cons_zero, List.set_cons_succ]
                    refine wpAnyH_done (by kernel_rfl) ?_ _
                    skip
                    clear hV20 hV21 heq
                    have hO21 := (St.op HS21.out.drew (j := 2) rfl).two
                    have HMD2 := hide (fun W (hb : Below w.heap.size w W) => made_any o.a o.n o.c o.l W HFIT.out.len HSMo.out.1 (HFIT.out.src.below hb))
                    have heq := fun W => blks_equal N.B M HGD.out.sz.i HML.out W
                    rw [decide_eq_true HNB.out] at heq
                    have hmk2 : ((N.m : Int) == o.mark) = true := by simp; exact HMV.out.symm
                    go_wp2_with fail
                    refine wp_region_held (S := (fun W => W.cell? ⟨bo, 0, none⟩ = some (.slice o.a o.n o.c) ∧ W.cell? ⟨bo, 1, none⟩ = some (.int .i64 o.mark))) (by kernel_rfl) ?_
                    change wpAnyH _ _ _ _ _ _ _ _ (World.drew _)
                    refine wpAnyH_take (i := 0) (oi := ⟨some 101, _, _, _, _, _⟩) (v := ?_) rfl (by kernel_rfl) (by kernel_rfl) (by kernel_rfl) (fun _ _ _ h => h) (Or.inl ⟨by rfl, ?_⟩) hO21 ?_
                    rotate_left 1
                    · (intro w hSw; obtain ⟨hSw1, hSw2⟩ := hSw; go_simp; try with_reducible rfl)
                    simp only [Act.put, List.setIfInBounds_toArray, List.set_cons_zero, List.set_cons_succ]
                    refine wpAnyH_take (i := 2) (oi := ⟨some 103, _, _, _, _, _⟩) (v := ?_) rfl (by kernel_rfl) (by kernel_rfl) (by kernel_rfl) (fun _ _ _ h => h) (Or.inl ⟨by rfl, ?_⟩) hO21 ?_
                    rotate_left 1
                    · (intro w hSw; obtain ⟨hSw1, hSw2⟩ := hSw; go_simp; try with_reducible rfl)
                    simp only [Act.put, List.setIfInBounds_toArray, List.set_cons_zero, List.set_cons_succ]
                    refine wpAnyH_take (i := 3) (oi := ⟨some 104, _, _, _, _, _⟩) (v := ?_) rfl (by kernel_rfl) (by kernel_rfl) (by kernel_rfl) (fun _ _ _ h => h) (Or.inl ⟨by rfl, ?_⟩) hO21 ?_
                    rotate_left 1
                    · (intro w hSw; obtain ⟨hSw1, hSw2⟩ := hSw; go_simp; try with_reducible rfl)
                    simp only [Act.put, List.setIfInBounds_toArray, List.set_cons_zero, List.set_cons_succ]
                    refine wpAnyH_ready (rs := [1]) (by kernel_rfl) (by simp) ?_
                    refine AllReadyH.cons (o := ⟨some 102, _, _, _, _, _⟩) rfl (fun K hK => ?_) AllReadyH.nil
                    go_simp
                    refine (PS.blocks HS21.out.drew HGD.out.sz).mono ?_
                    rintro e w23 ⟨rfl, hb23⟩
                    have HS23 := hide (HS21.out.drew.below hb23)
                    have hO23 := (St.op HS23.out (j := 2) rfl).two
                    clear hb23 HS21
                    refine hK.out _ _ hO23 (fun hHeld => ?_)
                    clear hK K
                    clear hHeld
                    refine wpAnyH_ready (rs := [4]) (by kernel_rfl) (by simp) ?_
                    refine AllReadyH.cons (o := ⟨some 105, _, _, _, _, _⟩) rfl (fun K hK => ?_) AllReadyH.nil
                    go_simp
                    refine (HMD2.out w23 HS23.out.bel).mono ?_
                    rintro e w24 ⟨rfl, hb24⟩
                    rw [← HMM.out]
                    have HS24 := hide (HS23.out.below hb24)
                    have hO24 := (St.op HS24.out (j := 2) rfl).two
                    clear hb24 HS23 HMD2
                    refine hK.out _ _ hO24 (fun hHeld => ?_)
                    clear hK K
                    clear hHeld
                    refine wpAnyH_take (i := 5) (oi := ⟨some 106, _, _, _, _, _⟩) (v := ?_) rfl (by kernel_rfl) (by kernel_rfl) (by kernel_rfl) (fun _ _ _ h => h) (Or.inl ⟨by rfl, ?_⟩) hO24 ?_
                    rotate_left 1
                    · (intro w hSw; obtain ⟨hSw1, hSw2⟩ := hSw; go_simp; try with_reducible rfl)
                    simp only [Act.put, List.setIfInBounds_toArray, List.set_cons_zero, List.set_cons_succ]
                    refine wpAnyH_take (i := 6) (oi := ⟨some 107, _, _, _, _, _⟩) (v := ?_) rfl (by kernel_rfl) (by kernel_rfl) (by kernel_rfl) (fun _ _ _ h => h) (Or.inl ⟨by rfl, ?_⟩) hO24 ?_
                    rotate_left 1
                    · (intro w hSw; obtain ⟨hSw1, hSw2⟩ := hSw; go_simp; try with_reducible rfl)
                    simp only [Act.put, List.setIfInBounds_toArray, List.set_cons_zero, List.set_cons_succ]
                    refine wpAnyH_take (i := 7) (oi := ⟨some 108, _, _, _, _, _⟩) (v := ?_) rfl (by kernel_rfl) (by kernel_rfl) (by kernel_rfl) (fun _ _ _ h => h) (Or.inl ⟨by rfl, ?_⟩) hO24 ?_
                    rotate_left 1
                    · (intro w hSw; obtain ⟨hSw1, hSw2⟩ := hSw; go_simp; try with_reducible rfl)
                    simp only [Act.put, List.setIfInBounds_toArray, List.set_cons_zero, List.set_cons_succ]
                    refine wpAnyH_take (i := 9) (oi := ⟨some 110, _, _, _, _, _⟩) (v := ?_) rfl (by kernel_rfl) (by kernel_rfl) (by kernel_rfl) (fun _ _ _ h => h) (Or.inl ⟨by rfl, ?_⟩) hO24 ?_
                    rotate_left 1
                    · (intro w hSw; obtain ⟨hSw1, hSw2⟩ := hSw; go_simp; try with_reducible rfl)
                    simp only [Act.put, List.setIfInBounds_toArray, List.set_cons_zero, List.set_cons_succ]
                    refine wpAnyH_take (i := 10) (oi := ⟨some 111, _, _, _, _, _⟩) (v := ?_) rfl (by kernel_rfl) (by kernel_rfl) (by kernel_rfl) (fun _ _ _ h => h) (Or.inl ⟨by rfl, ?_⟩) hO24 ?_
                    rotate_left 1
                    · (intro w hSw; obtain ⟨hSw1, hSw2⟩ := hSw; go_simp; try with_reducible rfl)
                    simp only [Act.put, List.setIfInBounds_toArray, List.set_cons_zero, List.set_cons_succ]
                    refine wpAnyH_ready (rs := [8]) (by kernel_rfl) (by simp) ?_
                    refine AllReadyH.cons (o := ⟨some 109, _, _, _, _, _⟩) rfl (fun K hK => ?_) AllReadyH.nil
                    go_simp
                    refine (PS.mark HS24.out).mono ?_
                    rintro e w25 ⟨rfl, hw25⟩
                    rw [← hw25]
                    clear hw25
                    refine hK.out _ _ hO24 (fun hHeld => ?_)
                    clear hK K
                    clear hHeld
                    refine wpAnyH_take (i := 11) (oi := ⟨some 112, _, _, _, _, _⟩) (v := ?_) rfl (by kernel_rfl) (by kernel_rfl) (by kernel_rfl) (fun _ _ _ h => h) (Or.inl ⟨by rfl, ?_⟩) hO24 ?_
                    rotate_left 1
                    · (intro w hSw; obtain ⟨hSw1, hSw2⟩ := hSw; go_simp; try with_reducible rfl)
                    simp only [Act.put, List.setIfInBounds_toArray, List.set_cons_zero, List.set_cons_succ]
                    refine wpAnyH_take (i := 12) (oi := ⟨some 113, _, _, _, _, _⟩) (v := ?_) rfl (by kernel_rfl) (by kernel_rfl) (by kernel_rfl) (fun _ _ _ h => h) (Or.inl ⟨by rfl, ?_⟩) hO24 ?_
                    rotate_left 1
                    · (intro w hSw; obtain ⟨hSw1, hSw2⟩ := hSw; go_simp; try with_reducible rfl)
                    simp only [Act.put, List.setIfInBounds_toArray, List.set_cons_zero, List.set_cons_succ]
                    refine wpAnyH_take (i := 13) (oi := ⟨some 13, _, _, _, _, _⟩) (v := ?_) rfl (by kernel_rfl) (by kernel_rfl) (by kernel_rfl) (fun _ _ _ h => h) (Or.inl ⟨by rfl, ?_⟩) hO24 ?_
                    rotate_left 1
                    · (intro w hSw; obtain ⟨hSw1, hSw2⟩ := hSw; go_simp; try with_reducible rfl)
                    simp only [Act.put, List.setIfInBounds_toArray, List.set_cons_zero, List.set_cons_succ]
                    refine wpAnyH_done (by kernel_rfl) ?_ _
                    skip
                    clear hO21 hO23 hO24 heq hmk2
                    have hlt : ¬ (N.m : Int) < (i.m : Int) := by have := HMORE.out; omega
                    go_wp2_with fail
                    refine (PS.mark HS24.out).mono ?_
                    rintro e w26 ⟨rfl, rfl⟩
                    go_wp2_with fail
                    refine (PS.idle HS24.out HGD.out.sz).mono ?_
                    rintro e w26 ⟨rfl, rfl⟩
                    have HTR := hide (show Trn0 w q p1 N (k + 1) w24 from ⟨_, HGD.out, by have := HTI.out; have := HNT.out; omega, St.left (Us := [opT bo o, blksT vb i.B]) HS24.out⟩)
                    clear HS24 hlt
                    go_wp2
                    go_roundw
                    case rel => exact ⟨k + 1, p1, N, HK.out, by go_num, rfl, HTR.out⟩
                    case measure => have := HK.out; simp [intOf]; omega
            · obtain rfl : x = 35 := by omega
              obtain ⟨S1, hg1, hs1⟩ := hmid.out.done
              have HGD := hide hg1
              have hcc := (St.op hs1 (j := 2) rfl).cut
              have hkp := (St.op hs1 (j := 2) rfl).keep
              by_cases h0 : o.cut = 0
              · rw [h0] at hcc
                have HST := hide hs1
                clear hmid hge hx hg1 hs1 hkp h0 hcw
                go_wp2_with fail
                clear hcc
                by_cases hE : N.B = i.B
                · have HE := hide hE
                  clear hE
                  have hV20 := St.var HST.out.drew (j := 3) rfl
                  have heq := fun W => blks_equal N.B i.B HGD.out.sz.i HIB.out W
                  rw [decide_eq_true HE.out] at heq
                  have hmk1 : ((N.m : Int) == (i.m : Int)) = false := by simp; have := HMORE.out; omega
                  go_wp2_with fail
                  refine wp_region_held (S := (fun W => Lies W vb i.B)) (by kernel_rfl) ?_
                  change wpAnyH _ _ _ _ _ _ _ _ (World.drew _)
                  refine wpAnyH_take (i := 0) (oi := ⟨some 91, _, _, _, _, _⟩) (v := ?_) rfl (by kernel_rfl) (by kernel_rfl) (by kernel_rfl) (fun _ _ _ h => h) (Or.inl ⟨by rfl, ?_⟩) hV20 ?_
                  rotate_left 1
                  · (intro w hSw; clear hSw; go_simp; try with_reducible rfl)
                  simp only [Act.put, List.setIfInBounds_toArray, List.set_cons_zero, List.set_cons_succ]
                  refine wpAnyH_take (i := 2) (oi := ⟨some 93, _, _, _, _, _⟩) (v := bval i.B) rfl (by kernel_rfl) (by kernel_rfl) (by kernel_rfl) (fun _ _ _ h => h) (yields_blks (by rfl) (.tmp 8) rfl vb rfl i.B HIB.out (fun w hw => hw)) hV20 ?_
                  simp only [Act.put, List.setIfInBounds_toArray, List.set_cons_zero, List.set_cons_succ]
                  refine wpAnyH_ready (rs := [1]) (by kernel_rfl) (by simp) ?_
                  refine AllReadyH.cons (o := ⟨some 92, _, _, _, _, _⟩) rfl (fun K hK => ?_) AllReadyH.nil
                  go_simp
                  refine (PS.blocks HST.out.drew HGD.out.sz).mono ?_
                  rintro e w21 ⟨rfl, hb21⟩
                  have HS21 := hide (HST.out.drew.below hb21)
                  have hV21 := St.var HS21.out (j := 3) rfl
                  clear hb21 HST
                  refine hK.out _ _ hV21 (fun hHeld => ?_)
                  clear hK K
                  clear hHeld
                  refine wpAnyH_take (i := 3) (oi := ⟨some 94, _, _, _, _, _⟩) (v := ?_) rfl (by kernel_rfl) (by kernel_rfl) (by kernel_rfl) (fun _ _ _ h => h) (Or.inl ⟨by rfl, ?_⟩) hV21 ?_
                  rotate_left 1
                  · (intro w hSw; clear hSw; go_simp; try with_reducible rfl)
                  simp only [Act.put, List.setIfInBounds_toArray, List.set_cons_zero, List.set_cons_succ]
                  refine wpAnyH_take (i := 4) (oi := ⟨some 95, _, _, _, _, _⟩) (v := ?_) rfl (by kernel_rfl) (by kernel_rfl) (by kernel_rfl) (fun _ _ _ h => h) (Or.inl ⟨by rfl, ?_⟩) hV21 ?_
                  rotate_left 1
                  · (intro w hSw; clear hSw; go_simp; try with_reducible rfl)
                  simp only [Act.put, List.setIfInBounds_toArray, List.set_cons_zero, List.set_cons_succ]
                  refine wpAnyH_take (i := 5) (oi := ⟨some 96, _, _, _, _, _⟩) (v := ?_) rfl (by kernel_rfl) (by kernel_rfl) (by kernel_rfl) (fun _ _ _ h => h) (Or.inl ⟨by rfl, ?_⟩) hV21 ?_
                  rotate_left 1
                  · (intro w hSw; clear hSw; go_simp; try with_reducible rfl)
                  simp only [Act.put, List.setIfInBounds_toArray, List.set_cons_zero, List.set_cons_succ]
                  refine wpAnyH_take (i := 7) (oi := ⟨some 98, _, _, _, _, _⟩) (v := ?_) rfl (by kernel_rfl) (by kernel_rfl) (by kernel_rfl) (fun _ _ _ h => h) (Or.inl ⟨by rfl, ?_⟩) hV21 ?_
                  rotate_left 1
                  · (intro w hSw; clear hSw; go_simp; try with_reducible rfl)
                  simp only [Act.put, List.setIfInBounds_toArray, List.set_cons_zero, List.set_cons_succ]
                  refine wpAnyH_ready (rs := [6]) (by kernel_rfl) (by simp) ?_
                  refine AllReadyH.cons (o := ⟨some 97, _, _, _, _, _⟩) rfl (fun K hK => ?_) AllReadyH.nil
                  go_simp
                  refine (PS.mark HS21.out).mono ?_
                  rintro e w22 ⟨rfl, hw22⟩
                  rw [← hw22]
                  clear hw22
                  refine hK.out _ _ hV21 (fun hHeld => ?_)
                  clear hK K
                  clear hHeld
                  refine wpAnyH_take (i := 8) (oi := ⟨some 99, _, _, _, _, _⟩) (v := ?_) rfl (by kernel_rfl) (by kernel_rfl) (by kernel_rfl) (fun _ _ _ h => h) (Or.inl ⟨by rfl, ?_⟩) hV21 ?_
                  rotate_left 1
                  · (intro w hSw; clear hSw; go_simp; try with_reducible rfl)
                  simp only [Act.put, List.setIfInBounds_toArray, List.set_cons_zero, List.set_cons_succ]
                  refine wpAnyH_take (i := 9) (oi := ⟨some 100, _, _, _, _, _⟩) (v := ?_) rfl (by kernel_rfl) (by kernel_rfl) (by kernel_rfl) (fun _ _ _ h => h) (Or.inl ⟨by rfl, ?_⟩) hV21 ?_
                  rotate_left 1
                  · (intro w hSw; clear hSw; go_simp; try with_reducible rfl)
                  simp only [Act.put, List.setIfInBounds_toArray, List.set_cons_zero, List.set_cons_succ]
                  refine wpAnyH_take (i := 10) (oi := ⟨some 12, _, _, _, _, _⟩) (v := ?_) rfl (by kernel_rfl) (by kernel_rfl) (by kernel_rfl) (fun _ _ _ h => h) (Or.inl ⟨by rfl, ?_⟩) hV21 ?_
                  rotate_left 1
                  · (intro w hSw; clear hSw; go_simp; try with_reducible rfl)
                  simp only [Act.put, List.setIfInBounds_toArray, List.set_cons_zero, List.set_cons_succ]
                  refine wpAnyH_done (by kernel_rfl) ?_ _
                  skip
                  clear hV20 hV21 heq hmk1
                  have hO21 := (St.op HS21.out.drew (j := 2) rfl).two
                  have HMD2 := hide (fun W (hb : Below w.heap.size w W) => made_any o.a o.n o.c o.l W HFIT.out.len HSMo.out.1 (HFIT.out.src.below hb))
                  have heq := fun W => blks_equal N.B M HGD.out.sz.i HML.out W
                  rw [decide_eq_true HNB.out] at heq
                  have hmk2 : ((N.m : Int) == o.mark) = true := by simp; exact HMV.out.symm
                  go_wp2_with fail
                  refine wp_region_held (S := (fun W => W.cell? ⟨bo, 0, none⟩ = some (.slice o.a o.n o.c) ∧ W.cell? ⟨bo, 1, none⟩ = some (.int .i64 o.mark))) (by kernel_rfl) ?_
                  change wpAnyH _ _ _ _ _ _ _ _ (World.drew _)
                  refine wpAnyH_take (i := 0) (oi := ⟨some 101, _, _, _, _, _⟩) (v := ?_) rfl (by kernel_rfl) (by kernel_rfl) (by kernel_rfl) (fun _ _ _ h => h) (Or.inl ⟨by rfl, ?_⟩) hO21 ?_
                  rotate_left 1
                  · (intro w hSw; obtain ⟨hSw1, hSw2⟩ := hSw; go_simp; try with_reducible rfl)
                  simp only [Act.put, List.setIfInBounds_toArray, List.set_cons_zero, List.set_cons_succ]
                  refine wpAnyH_take (i := 2) (oi := ⟨some 103, _, _, _, _, _⟩) (v := ?_) rfl (by kernel_rfl) (by kernel_rfl) (by kernel_rfl) (fun _ _ _ h => h) (Or.inl ⟨by rfl, ?_⟩) hO21 ?_
                  rotate_left 1
                  · (intro w hSw; obtain ⟨hSw1, hSw2⟩ := hSw; go_simp; try with_reducible rfl)
                  simp only [Act.put, List.setIfInBounds_toArray, List.set_cons_zero, List.set_cons_succ]
                  refine wpAnyH_take (i := 3) (oi := ⟨some 104, _, _, _, _, _⟩) (v := ?_) rfl (by kernel_rfl) (by kernel_rfl) (by kernel_rfl) (fun _ _ _ h => h) (Or.inl ⟨by rfl, ?_⟩) hO21 ?_
                  rotate_left 1
                  · (intro w hSw; obtain ⟨hSw1, hSw2⟩ := hSw; go_simp; try with_reducible rfl)
                  simp only [Act.put, List.setIfInBounds_toArray, List.set_cons_zero, List.set_cons_succ]
                  refine wpAnyH_ready (rs := [1]) (by kernel_rfl) (by simp) ?_
                  refine AllReadyH.cons (o := ⟨some 102, _, _, _, _, _⟩) rfl (fun K hK => ?_) AllReadyH.nil
                  go_simp
                  refine (PS.blocks HS21.out.drew HGD.out.sz).mono ?_
                  rintro e w23 ⟨rfl, hb23⟩
                  have HS23 := hide (HS21.out.drew.below hb23)
                  have hO23 := (St.op HS23.out (j := 2) rfl).two
                  clear hb23 HS21
                  refine hK.out _ _ hO23 (fun hHeld => ?_)
                  clear hK K
                  clear hHeld
                  refine wpAnyH_ready (rs := [4]) (by kernel_rfl) (by simp) ?_
                  refine AllReadyH.cons (o := ⟨some 105, _, _, _, _, _⟩) rfl (fun K hK => ?_) AllReadyH.nil
                  go_simp
                  refine (HMD2.out w23 HS23.out.bel).mono ?_
                  rintro e w24 ⟨rfl, hb24⟩
                  rw [← HMM.out]
                  have HS24 := hide (HS23.out.below hb24)
                  have hO24 := (St.op HS24.out (j := 2) rfl).two
                  clear hb24 HS23 HMD2
                  refine hK.out _ _ hO24 (fun hHeld => ?_)
                  clear hK K
                  clear hHeld
                  refine wpAnyH_take (i := 5) (oi := ⟨some 106, _, _, _, _, _⟩) (v := ?_) rfl (by kernel_rfl) (by kernel_rfl) (by kernel_rfl) (fun _ _ _ h => h) (Or.inl ⟨by rfl, ?_⟩) hO24 ?_
                  rotate_left 1
                  · (intro w hSw; obtain ⟨hSw1, hSw2⟩ := hSw; go_simp; try with_reducible rfl)
                  simp only [Act.put, List.setIfInBounds_toArray, List.set_cons_zero, List.set_cons_succ]
                  refine wpAnyH_take (i := 6) (oi := ⟨some 107, _, _, _, _, _⟩) (v := ?_) rfl (by kernel_rfl) (by kernel_rfl) (by kernel_rfl) (fun _ _ _ h => h) (Or.inl ⟨by rfl, ?_⟩) hO24 ?_
                  rotate_left 1
                  · (intro w hSw; obtain ⟨hSw1, hSw2⟩ := hSw; go_simp; try with_reducible rfl)
                  simp only [Act.put, List.setIfInBounds_toArray, List.set_cons_zero, List.set_cons_succ]
                  refine wpAnyH_take (i := 7) (oi := ⟨some 108, _, _, _, _, _⟩) (v := ?_) rfl (by kernel_rfl) (by kernel_rfl) (by kernel_rfl) (fun _ _ _ h => h) (Or.inl ⟨by rfl, ?_⟩) hO24 ?_
                  rotate_left 1
                  · (intro w hSw; obtain ⟨hSw1, hSw2⟩ := hSw; go_simp; try with_reducible rfl)
                  simp only [Act.put, List.setIfInBounds_toArray, List.set_cons_zero, List.set_cons_succ]
                  refine wpAnyH_take (i := 9) (oi := ⟨some 110, _, _, _, _, _⟩) (v := ?_) rfl (by kernel_rfl) (by kernel_rfl) (by kernel_rfl) (fun _ _ _ h => h) (Or.inl ⟨by rfl, ?_⟩) hO24 ?_
                  rotate_left 1
                  · (intro w hSw; obtain ⟨hSw1, hSw2⟩ := hSw; go_simp; try with_reducible rfl)
                  simp only [Act.put, List.setIfInBounds_toArray, List.set_cons_zero, List.set_cons_succ]
                  refine wpAnyH_take (i := 10) (oi := ⟨some 111, _, _, _, _, _⟩) (v := ?_) rfl (by kernel_rfl) (by kernel_rfl) (by kernel_rfl) (fun _ _ _ h => h) (Or.inl ⟨by rfl, ?_⟩) hO24 ?_
                  rotate_left 1
                  · (intro w hSw; obtain ⟨hSw1, hSw2⟩ := hSw; go_simp; try with_reducible rfl)
                  simp only [Act.put, List.setIfInBounds_toArray, List.set_cons_zero, List.set_cons_succ]
                  refine wpAnyH_ready (rs := [8]) (by kernel_rfl) (by simp) ?_
                  refine AllReadyH.cons (o := ⟨some 109, _, _, _, _, _⟩) rfl (fun K hK => ?_) AllReadyH.nil
                  go_simp
                  refine (PS.mark HS24.out).mono ?_
                  rintro e w25 ⟨rfl, hw25⟩
                  rw [← hw25]
                  clear hw25
                  refine hK.out _ _ hO24 (fun hHeld => ?_)
                  clear hK K
                  clear hHeld
                  refine wpAnyH_take (i := 11) (oi := ⟨some 112, _, _, _, _, _⟩) (v := ?_) rfl (by kernel_rfl) (by kernel_rfl) (by kernel_rfl) (fun _ _ _ h => h) (Or.inl ⟨by rfl, ?_⟩) hO24 ?_
                  rotate_left 1
                  · (intro w hSw; obtain ⟨hSw1, hSw2⟩ := hSw; go_simp; try with_reducible rfl)
                  simp only [Act.put, List.setIfInBounds_toArray, List.set_cons_zero, List.set_cons_succ]
                  refine wpAnyH_take (i := 12) (oi := ⟨some 113, _, _, _, _, _⟩) (v := ?_) rfl (by kernel_rfl) (by kernel_rfl) (by kernel_rfl) (fun _ _ _ h => h) (Or.inl ⟨by rfl, ?_⟩) hO24 ?_
                  rotate_left 1
                  · (intro w hSw; obtain ⟨hSw1, hSw2⟩ := hSw; go_simp; try with_reducible rfl)
                  simp only [Act.put, List.setIfInBounds_toArray, List.set_cons_zero, List.set_cons_succ]
                  refine wpAnyH_take (i := 13) (oi := ⟨some 13, _, _, _, _, _⟩) (v := ?_) rfl (by kernel_rfl) (by kernel_rfl) (by kernel_rfl) (fun _ _ _ h => h) (Or.inl ⟨by rfl, ?_⟩) hO24 ?_
                  rotate_left 1
                  · (intro w hSw; obtain ⟨hSw1, hSw2⟩ := hSw; go_simp; try with_reducible rfl)
                  simp only [Act.put, List.setIfInBounds_toArray, List.set_cons_zero, List.set_cons_succ]
                  refine wpAnyH_done (by kernel_rfl) ?_ _
                  skip
                  clear hO21 hO23 hO24 heq hmk2
                  have hlt : ¬ (N.m : Int) < (i.m : Int) := by have := HMORE.out; omega
                  go_wp2_with fail
                  refine (PS.mark HS24.out).mono ?_
                  rintro e w26 ⟨rfl, rfl⟩
                  go_wp2_with fail
                  refine (PS.idle HS24.out HGD.out.sz).mono ?_
                  rintro e w26 ⟨rfl, rfl⟩
                  have HTR := hide (show Trn0 w q p N (k + 1) w24 from ⟨S1, HGD.out, by have := HTI.out; have := HNT.out; omega, St.left (Us := [opT bo o, blksT vb i.B]) HS24.out⟩)
                  clear HS24 hlt
                  go_wp2
                  go_roundw
                  case rel => exact ⟨k + 1, p, N, HK.out, by go_num, rfl, HTR.out⟩
                  case measure => have := HK.out; simp [intOf]; omega
                · have HE := hide hE
                  clear hE
                  have hV20 := St.var HST.out.drew (j := 3) rfl
                  have heq := fun W => blks_equal N.B i.B HGD.out.sz.i HIB.out W
                  rw [decide_eq_false HE.out] at heq
                  go_wp2_with fail
                  refine wp_region_held (S := (fun W => Lies W vb i.B)) (by kernel_rfl) ?_
                  change wpAnyH _ _ _ _ _ _ _ _ (World.drew _)
                  refine wpAnyH_take (i := 0) (oi := ⟨some 91, _, _, _, _, _⟩) (v := ?_) rfl (by kernel_rfl) (by kernel_rfl) (by kernel_rfl) (fun _ _ _ h => h) (Or.inl ⟨by rfl, ?_⟩) hV20 ?_
                  rotate_left 1
                  · (intro w hSw; clear hSw; go_simp; try with_reducible rfl)
                  simp only [Act.put, List.setIfInBounds_toArray, List.set_cons_zero, List.set_cons_succ]
                  refine wpAnyH_take (i := 2) (oi := ⟨some 93, _, _, _, _, _⟩) (v := bval i.B) rfl (by kernel_rfl) (by kernel_rfl) (by kernel_rfl) (fun _ _ _ h => h) (yields_blks (by rfl) (.tmp 8) rfl vb rfl i.B HIB.out (fun w hw => hw)) hV20 ?_
                  simp only [Act.put, List.setIfInBounds_toArray, List.set_cons_zero, List.set_cons_succ]
                  refine wpAnyH_ready (rs := [1]) (by kernel_rfl) (by simp) ?_
                  refine AllReadyH.cons (o := ⟨some 92, _, _, _, _, _⟩) rfl (fun K hK => ?_) AllReadyH.nil
                  go_simp
                  refine (PS.blocks HST.out.drew HGD.out.sz).mono ?_
                  rintro e w21 ⟨rfl, hb21⟩
                  have HS21 := hide (HST.out.drew.below hb21)
                  have hV21 := St.var HS21.out (j := 3) rfl
                  clear hb21 HST
                  refine hK.out _ _ hV21 (fun hHeld => ?_)
                  clear hK K
                  clear hHeld
                  refine wpAnyH_take (i := 3) (oi := ⟨some 94, _, _, _, _, _⟩) (v := ?_) rfl (by kernel_rfl) (by kernel_rfl) (by kernel_rfl) (fun _ _ _ h => h) (Or.inl ⟨by rfl, ?_⟩) hV21 ?_
                  rotate_left 1
                  · (intro w hSw; clear hSw; go_simp; try with_reducible rfl)
                  simp only [Act.put, List.setIfInBounds_toArray, List.set_cons_zero, List.set_cons_succ]
                  refine wpAnyH_take (i := 4) (oi := ⟨some 95, _, _, _, _, _⟩) (v := ?_) rfl (by kernel_rfl) (by kernel_rfl) (by kernel_rfl) (fun _ _ _ h => h) (Or.inl ⟨by rfl, ?_⟩) hV21 ?_
                  rotate_left 1
                  · (intro w hSw; clear hSw; go_simp; try with_reducible rfl)
                  simp only [Act.put, List.setIfInBounds_toArray, List.set_cons_zero, List.set_cons_succ]
                  refine wpAnyH_take (i := 5) (oi := ⟨some 96, _, _, _, _, _⟩) (v := undef) rfl (by kernel_rfl) (by kernel_rfl) (by kernel_rfl) (fun _ _ _ h => h) (Or.inr ⟨by rfl, rfl⟩) hV21 ?_
                  simp only [Act.put, List.setIfInBounds_toArray, List.set_cons_zero, List.set_cons_succ]
                  refine wpAnyH_take (i := 6) (oi := ⟨some 97, _, _, _, _, _⟩) (v := undef) rfl (by kernel_rfl) (by kernel_rfl) (by kernel_rfl) (fun _ _ _ h => h) (Or.inr ⟨by rfl, rfl⟩) hV21 ?_
                  simp only [Act.put, List.setIfInBounds_toArray, List.set_cons_zero, List.set_cons_succ]
                  refine wpAnyH_take (i := 7) (oi := ⟨some 98, _, _, _, _, _⟩) (v := undef) rfl (by kernel_rfl) (by kernel_rfl) (by kernel_rfl) (fun _ _ _ h => h) (Or.inr ⟨by rfl, rfl⟩) hV21 ?_
                  simp only [Act.put, List.setIfInBounds_toArray, List.set_cons_zero, List.set_cons_succ]
                  refine wpAnyH_take (i := 8) (oi := ⟨some 99, _, _, _, _, _⟩) (v := undef) rfl (by kernel_rfl) (by kernel_rfl) (by kernel_rfl) (fun _ _ _ h => h) (Or.inr ⟨by rfl, rfl⟩) hV21 ?_
                  simp only [Act.put, List.setIfInBounds_toArray, List.set_cons_zero, List.set_cons_succ]
                  refine wpAnyH_take (i := 9) (oi := ⟨some 100, _, _, _, _, _⟩) (v := ?_) rfl (by kernel_rfl) (by kernel_rfl) (by kernel_rfl) (fun _ _ _ h => h) (Or.inl ⟨by rfl, ?_⟩) hV21 ?_
                  rotate_left 1
                  · (intro w hSw; clear hSw; go_simp; try with_reducible rfl)
                  simp only [Act.put, List.setIfInBounds_toArray, List.set_cons_zero, List.set_cons_succ]
                  refine wpAnyH_take (i := 10) (oi := ⟨some 12, _, _, _, _, _⟩) (v := ?_) rfl (by kernel_rfl) (by kernel_rfl) (by kernel_rfl) (fun _ _ _ h => h) (Or.inl ⟨by rfl, ?_⟩) hV21 ?_
                  rotate_left 1
                  · (intro w hSw; clear hSw; go_simp; try with_reducible rfl)
                  simp only [Act.put, List.setIfInBounds_toArray, List.set_cons_zero, List.set_cons_succ]
                  refine wpAnyH_done (by kernel_rfl) ?_ _
                  skip
                  clear hV20 hV21 heq
                  have hO21 := (St.op HS21.out.drew (j := 2) rfl).two
                  have HMD2 := hide (fun W (hb : Below w.heap.size w W) => made_any o.a o.n o.c o.l W HFIT.out.len HSMo.out.1 (HFIT.out.src.below hb))
                  have heq := fun W => blks_equal N.B M HGD.out.sz.i HML.out W
                  rw [decide_eq_true HNB.out] at heq
                  have hmk2 : ((N.m : Int) == o.mark) = true := by simp; exact HMV.out.symm
                  go_wp2_with fail
                  refine wp_region_held (S := (fun W => W.cell? ⟨bo, 0, none⟩ = some (.slice o.a o.n o.c) ∧ W.cell? ⟨bo, 1, none⟩ = some (.int .i64 o.mark))) (by kernel_rfl) ?_
                  change wpAnyH _ _ _ _ _ _ _ _ (World.drew _)
                  refine wpAnyH_take (i := 0) (oi := ⟨some 101, _, _, _, _, _⟩) (v := ?_) rfl (by kernel_rfl) (by kernel_rfl) (by kernel_rfl) (fun _ _ _ h => h) (Or.inl ⟨by rfl, ?_⟩) hO21 ?_
                  rotate_left 1
                  · (intro w hSw; obtain ⟨hSw1, hSw2⟩ := hSw; go_simp; try with_reducible rfl)
                  simp only [Act.put, List.setIfInBounds_toArray, List.set_cons_zero, List.set_cons_succ]
                  refine wpAnyH_take (i := 2) (oi := ⟨some 103, _, _, _, _, _⟩) (v := ?_) rfl (by kernel_rfl) (by kernel_rfl) (by kernel_rfl) (fun _ _ _ h => h) (Or.inl ⟨by rfl, ?_⟩) hO21 ?_
                  rotate_left 1
                  · (intro w hSw; obtain ⟨hSw1, hSw2⟩ := hSw; go_simp; try with_reducible rfl)
                  simp only [Act.put, List.setIfInBounds_toArray, List.set_cons_zero, List.set_cons_succ]
                  refine wpAnyH_take (i := 3) (oi := ⟨some 104, _, _, _, _, _⟩) (v := ?_) rfl (by kernel_rfl) (by kernel_rfl) (by kernel_rfl) (fun _ _ _ h => h) (Or.inl ⟨by rfl, ?_⟩) hO21 ?_
                  rotate_left 1
                  · (intro w hSw; obtain ⟨hSw1, hSw2⟩ := hSw; go_simp; try with_reducible rfl)
                  simp only [Act.put, List.setIfInBounds_toArray, List.set_cons_zero, List.set_cons_succ]
                  refine wpAnyH_ready (rs := [1]) (by kernel_rfl) (by simp) ?_
                  refine AllReadyH.cons (o := ⟨some 102, _, _, _, _, _⟩) rfl (fun K hK => ?_) AllReadyH.nil
                  go_simp
                  refine (PS.blocks HS21.out.drew HGD.out.sz).mono ?_
                  rintro e w23 ⟨rfl, hb23⟩
                  have HS23 := hide (HS21.out.drew.below hb23)
                  have hO23 := (St.op HS23.out (j := 2) rfl).two
                  clear hb23 HS21
                  refine hK.out _ _ hO23 (fun hHeld => ?_)
                  clear hK K
                  clear hHeld
                  refine wpAnyH_ready (rs := [4]) (by kernel_rfl) (by simp) ?_
                  refine AllReadyH.cons (o := ⟨some 105, _, _, _, _, _⟩) rfl (fun K hK => ?_) AllReadyH.nil
                  go_simp
                  refine (HMD2.out w23 HS23.out.bel).mono ?_
                  rintro e w24 ⟨rfl, hb24⟩
                  rw [← HMM.out]
                  have HS24 := hide (HS23.out.below hb24)
                  have hO24 := (St.op HS24.out (j := 2) rfl).two
                  clear hb24 HS23 HMD2
                  refine hK.out _ _ hO24 (fun hHeld => ?_)
                  clear hK K
                  clear hHeld
                  refine wpAnyH_take (i := 5) (oi := ⟨some 106, _, _, _, _, _⟩) (v := ?_) rfl (by kernel_rfl) (by kernel_rfl) (by kernel_rfl) (fun _ _ _ h => h) (Or.inl ⟨by rfl, ?_⟩) hO24 ?_
                  rotate_left 1
                  · (intro w hSw; obtain ⟨hSw1, hSw2⟩ := hSw; go_simp; try with_reducible rfl)
                  simp only [Act.put, List.setIfInBounds_toArray, List.set_cons_zero, List.set_cons_succ]
                  refine wpAnyH_take (i := 6) (oi := ⟨some 107, _, _, _, _, _⟩) (v := ?_) rfl (by kernel_rfl) (by kernel_rfl) (by kernel_rfl) (fun _ _ _ h => h) (Or.inl ⟨by rfl, ?_⟩) hO24 ?_
                  rotate_left 1
                  · (intro w hSw; obtain ⟨hSw1, hSw2⟩ := hSw; go_simp; try with_reducible rfl)
                  simp only [Act.put, List.setIfInBounds_toArray, List.set_cons_zero, List.set_cons_succ]
                  refine wpAnyH_take (i := 7) (oi := ⟨some 108, _, _, _, _, _⟩) (v := ?_) rfl (by kernel_rfl) (by kernel_rfl) (by kernel_rfl) (fun _ _ _ h => h) (Or.inl ⟨by rfl, ?_⟩) hO24 ?_
                  rotate_left 1
                  · (intro w hSw; obtain ⟨hSw1, hSw2⟩ := hSw; go_simp; try with_reducible rfl)
                  simp only [Act.put, List.setIfInBounds_toArray, List.set_cons_zero, List.set_cons_succ]
                  refine wpAnyH_take (i := 9) (oi := ⟨some 110, _, _, _, _, _⟩) (v := ?_) rfl (by kernel_rfl) (by kernel_rfl) (by kernel_rfl) (fun _ _ _ h => h) (Or.inl ⟨by rfl, ?_⟩) hO24 ?_
                  rotate_left 1
                  · (intro w hSw; obtain ⟨hSw1, hSw2⟩ := hSw; go_simp; try with_reducible rfl)
                  simp only [Act.put, List.setIfInBounds_toArray, List.set_cons_zero, List.set_cons_succ]
                  refine wpAnyH_take (i := 10) (oi := ⟨some 111, _, _, _, _, _⟩) (v := ?_) rfl (by kernel_rfl) (by kernel_rfl) (by kernel_rfl) (fun _ _ _ h => h) (Or.inl ⟨by rfl, ?_⟩) hO24 ?_
                  rotate_left 1
                  · (intro w hSw; obtain ⟨hSw1, hSw2⟩ := hSw; go_simp; try with_reducible rfl)
                  simp only [Act.put, List.setIfInBounds_toArray, List.set_cons_zero, List.set_cons_succ]
                  refine wpAnyH_ready (rs := [8]) (by kernel_rfl) (by simp) ?_
                  refine AllReadyH.cons (o := ⟨some 109, _, _, _, _, _⟩) rfl (fun K hK => ?_) AllReadyH.nil
                  go_simp
                  refine (PS.mark HS24.out).mono ?_
                  rintro e w25 ⟨rfl, hw25⟩
                  rw [← hw25]
                  clear hw25
                  refine hK.out _ _ hO24 (fun hHeld => ?_)
                  clear hK K
                  clear hHeld
                  refine wpAnyH_take (i := 11) (oi := ⟨some 112, _, _, _, _, _⟩) (v := ?_) rfl (by kernel_rfl) (by kernel_rfl) (by kernel_rfl) (fun _ _ _ h => h) (Or.inl ⟨by rfl, ?_⟩) hO24 ?_
                  rotate_left 1
                  · (intro w hSw; obtain ⟨hSw1, hSw2⟩ := hSw; go_simp; try with_reducible rfl)
                  simp only [Act.put, List.setIfInBounds_toArray, List.set_cons_zero, List.set_cons_succ]
                  refine wpAnyH_take (i := 12) (oi := ⟨some 113, _, _, _, _, _⟩) (v := ?_) rfl (by kernel_rfl) (by kernel_rfl) (by kernel_rfl) (fun _ _ _ h => h) (Or.inl ⟨by rfl, ?_⟩) hO24 ?_
                  rotate_left 1
                  · (intro w hSw; obtain ⟨hSw1, hSw2⟩ := hSw; go_simp; try with_reducible rfl)
                  simp only [Act.put, List.setIfInBounds_toArray, List.set_cons_zero, List.set_cons_succ]
                  refine wpAnyH_take (i := 13) (oi := ⟨some 13, _, _, _, _, _⟩) (v := ?_) rfl (by kernel_rfl) (by kernel_rfl) (by kernel_rfl) (fun _ _ _ h => h) (Or.inl ⟨by rfl, ?_⟩) hO24 ?_
                  rotate_left 1
                  · (intro w hSw; obtain ⟨hSw1, hSw2⟩ := hSw; go_simp; try with_reducible rfl)
                  simp only [Act.put, List.setIfInBounds_toArray, List.set_cons_zero, List.set_cons_succ]
                  refine wpAnyH_done (by kernel_rfl) ?_ _
                  skip
                  clear hO21 hO23 hO24 heq hmk2
                  have hlt : ¬ (N.m : Int) < (i.m : Int) := by have := HMORE.out; omega
                  go_wp2_with fail
                  refine (PS.mark HS24.out).mono ?_
                  rintro e w26 ⟨rfl, rfl⟩
                  go_wp2_with fail
                  refine (PS.idle HS24.out HGD.out.sz).mono ?_
                  rintro e w26 ⟨rfl, rfl⟩
                  have HTR := hide (show Trn0 w q p N (k + 1) w24 from ⟨S1, HGD.out, by have := HTI.out; have := HNT.out; omega, St.left (Us := [opT bo o, blksT vb i.B]) HS24.out⟩)
                  clear HS24 hlt
                  go_wp2
                  go_roundw
                  case rel => exact ⟨k + 1, p, N, HK.out, by go_num, rfl, HTR.out⟩
                  case measure => have := HK.out; simp [intOf]; omega
              · have hc0b : ((o.cut : Int) == 0) = false := by simp; omega
                have HCR := hide (PS.crash hs1 HFIT.out.keep (by simp))
                clear hmid hge hx hg1 hs1 h0
                go_wp2_with fail
                refine HCR.out.mono ?_
                rintro e w19 ⟨rfl, hs19⟩
                have HS19 := hide (show St w (PS q p S1 [] N im0 0 [opT bo o, blksT vb i.B]) w19 from hs19)
                clear hs19 HCR hcc hkp hcw
                have HAG := hide (PS.again HS19.out HT.out HGD.out)
                clear HS19
                go_wp2_with fail
                refine HAG.out.mono ?_
                rintro e w20 ⟨p1, rfl, hs20⟩
                have HST := hide hs20
                clear hs20 HAG
                by_cases hE : N.B = i.B
                · have HE := hide hE
                  clear hE
                  have hV20 := St.var HST.out.drew (j := 3) rfl
                  have heq := fun W => blks_equal N.B i.B HGD.out.sz.i HIB.out W
                  rw [decide_eq_true HE.out] at heq
                  have hmk1 : ((N.m : Int) == (i.m : Int)) = false := by simp; have := HMORE.out; omega
                  go_wp2_with fail
                  refine wp_region_held (S := (fun W => Lies W vb i.B)) (by kernel_rfl) ?_
                  change wpAnyH _ _ _ _ _ _ _ _ (World.drew _)
                  refine wpAnyH_take (i := 0) (oi := ⟨some 91, _, _, _, _, _⟩) (v := ?_) rfl (by kernel_rfl) (by kernel_rfl) (by kernel_rfl) (fun _ _ _ h => h) (Or.inl ⟨by rfl, ?_⟩) hV20 ?_
                  rotate_left 1
                  · (intro w hSw; clear hSw; go_simp; try with_reducible rfl)
                  simp only [Act.put, List.setIfInBounds_toArray, List.set_cons_zero, List.set_cons_succ]
                  refine wpAnyH_take (i := 2) (oi := ⟨some 93, _, _, _, _, _⟩) (v := bval i.B) rfl (by kernel_rfl) (by kernel_rfl) (by kernel_rfl) (fun _ _ _ h => h) (yields_blks (by rfl) (.tmp 8) rfl vb rfl i.B HIB.out (fun w hw => hw)) hV20 ?_
                  simp only [Act.put, List.setIfInBounds_toArray, List.set_cons_zero, List.set_cons_succ]
                  refine wpAnyH_ready (rs := [1]) (by kernel_rfl) (by simp) ?_
                  refine AllReadyH.cons (o := ⟨some 92, _, _, _, _, _⟩) rfl (fun K hK => ?_) AllReadyH.nil
                  go_simp
                  refine (PS.blocks HST.out.drew HGD.out.sz).mono ?_
                  rintro e w21 ⟨rfl, hb21⟩
                  have HS21 := hide (HST.out.drew.below hb21)
                  have hV21 := St.var HS21.out (j := 3) rfl
                  clear hb21 HST
                  refine hK.out _ _ hV21 (fun hHeld => ?_)
                  clear hK K
                  clear hHeld
                  refine wpAnyH_take (i := 3) (oi := ⟨some 94, _, _, _, _, _⟩) (v := ?_) rfl (by kernel_rfl) (by kernel_rfl) (by kernel_rfl) (fun _ _ _ h => h) (Or.inl ⟨by rfl, ?_⟩) hV21 ?_
                  rotate_left 1
                  · (intro w hSw; clear hSw; go_simp; try with_reducible rfl)
                  simp only [Act.put, List.setIfInBounds_toArray, List.set_cons_zero, List.set_cons_succ]
                  refine wpAnyH_take (i := 4) (oi := ⟨some 95, _, _, _, _, _⟩) (v := ?_) rfl (by kernel_rfl) (by kernel_rfl) (by kernel_rfl) (fun _ _ _ h => h) (Or.inl ⟨by rfl, ?_⟩) hV21 ?_
                  rotate_left 1
                  · (intro w hSw; clear hSw; go_simp; try with_reducible rfl)
                  simp only [Act.put, List.setIfInBounds_toArray, List.set_cons_zero, List.set_cons_succ]
                  refine wpAnyH_take (i := 5) (oi := ⟨some 96, _, _, _, _, _⟩) (v := ?_) rfl (by kernel_rfl) (by kernel_rfl) (by kernel_rfl) (fun _ _ _ h => h) (Or.inl ⟨by rfl, ?_⟩) hV21 ?_
                  rotate_left 1
                  · (intro w hSw; clear hSw; go_simp; try with_reducible rfl)
                  simp only [Act.put, List.setIfInBounds_toArray, List.set_cons_zero, List.set_cons_succ]
                  refine wpAnyH_take (i := 7) (oi := ⟨some 98, _, _, _, _, _⟩) (v := ?_) rfl (by kernel_rfl) (by kernel_rfl) (by kernel_rfl) (fun _ _ _ h => h) (Or.inl ⟨by rfl, ?_⟩) hV21 ?_
                  rotate_left 1
                  · (intro w hSw; clear hSw; go_simp; try with_reducible rfl)
                  simp only [Act.put, List.setIfInBounds_toArray, List.set_cons_zero, List.set_cons_succ]
                  refine wpAnyH_ready (rs := [6]) (by kernel_rfl) (by simp) ?_
                  refine AllReadyH.cons (o := ⟨some 97, _, _, _, _, _⟩) rfl (fun K hK => ?_) AllReadyH.nil
                  go_simp
                  refine (PS.mark HS21.out).mono ?_
                  rintro e w22 ⟨rfl, hw22⟩
                  rw [← hw22]
                  clear hw22
                  refine hK.out _ _ hV21 (fun hHeld => ?_)
                  clear hK K
                  clear hHeld
                  refine wpAnyH_take (i := 8) (oi := ⟨some 99, _, _, _, _, _⟩) (v := ?_) rfl (by kernel_rfl) (by kernel_rfl) (by kernel_rfl) (fun _ _ _ h => h) (Or.inl ⟨by rfl, ?_⟩) hV21 ?_
                  rotate_left 1
                  · (intro w hSw; clear hSw; go_simp; try with_reducible rfl)
                  simp only [Act.put, List.setIfInBounds_toArray, List.set_cons_zero, List.set_cons_succ]
                  refine wpAnyH_take (i := 9) (oi := ⟨some 100, _, _, _, _, _⟩) (v := ?_) rfl (by kernel_rfl) (by kernel_rfl) (by kernel_rfl) (fun _ _ _ h => h) (Or.inl ⟨by rfl, ?_⟩) hV21 ?_
                  rotate_left 1
                  · (intro w hSw; clear hSw; go_simp; try with_reducible rfl)
                  simp only [Act.put, List.setIfInBounds_toArray, List.set_cons_zero, List.set_cons_succ]
                  refine wpAnyH_take (i := 10) (oi := ⟨some 12, _, _, _, _, _⟩) (v := ?_) rfl (by kernel_rfl) (by kernel_rfl) (by kernel_rfl) (fun _ _ _ h => h) (Or.inl ⟨by rfl, ?_⟩) hV21 ?_
                  rotate_left 1
                  · (intro w hSw; clear hSw; go_simp; try with_reducible rfl)
                  simp only [Act.put, List.setIfInBounds_toArray, List.set_cons_zero, List.set_cons_succ]
                  refine wpAnyH_done (by kernel_rfl) ?_ _
                  skip
                  clear hV20 hV21 heq hmk1
                  have hO21 := (St.op HS21.out.drew (j := 2) rfl).two
                  have HMD2 := hide (fun W (hb : Below w.heap.size w W) => made_any o.a o.n o.c o.l W HFIT.out.len HSMo.out.1 (HFIT.out.src.below hb))
                  have heq := fun W => blks_equal N.B M HGD.out.sz.i HML.out W
                  rw [decide_eq_true HNB.out] at heq
                  have hmk2 : ((N.m : Int) == o.mark) = true := by simp; exact HMV.out.symm
                  go_wp2_with fail
                  refine wp_region_held (S := (fun W => W.cell? ⟨bo, 0, none⟩ = some (.slice o.a o.n o.c) ∧ W.cell? ⟨bo, 1, none⟩ = some (.int .i64 o.mark))) (by kernel_rfl) ?_
                  change wpAnyH _ _ _ _ _ _ _ _ (World.drew _)
                  refine wpAnyH_take (i := 0) (oi := ⟨some 101, _, _, _, _, _⟩) (v := ?_) rfl (by kernel_rfl) (by kernel_rfl) (by kernel_rfl) (fun _ _ _ h => h) (Or.inl ⟨by rfl, ?_⟩) hO21 ?_
                  rotate_left 1
                  · (intro w hSw; obtain ⟨hSw1, hSw2⟩ := hSw; go_simp; try with_reducible rfl)
                  simp only [Act.put, List.setIfInBounds_toArray, List.set_cons_zero, List.set_cons_succ]
                  refine wpAnyH_take (i := 2) (oi := ⟨some 103, _, _, _, _, _⟩) (v := ?_) rfl (by kernel_rfl) (by kernel_rfl) (by kernel_rfl) (fun _ _ _ h => h) (Or.inl ⟨by rfl, ?_⟩) hO21 ?_
                  rotate_left 1
                  · (intro w hSw; obtain ⟨hSw1, hSw2⟩ := hSw; go_simp; try with_reducible rfl)
                  simp only [Act.put, List.setIfInBounds_toArray, List.set_cons_zero, List.set_cons_succ]
                  refine wpAnyH_take (i := 3) (oi := ⟨some 104, _, _, _, _, _⟩) (v := ?_) rfl (by kernel_rfl) (by kernel_rfl) (by kernel_rfl) (fun _ _ _ h => h) (Or.inl ⟨by rfl, ?_⟩) hO21 ?_
                  rotate_left 1
                  · (intro w hSw; obtain ⟨hSw1, hSw2⟩ := hSw; go_simp; try with_reducible rfl)
                  simp only [Act.put, List.setIfInBounds_toArray, List.set_cons_zero, List.set_cons_succ]
                  refine wpAnyH_ready (rs := [1]) (by kernel_rfl) (by simp) ?_
                  refine AllReadyH.cons (o := ⟨some 102, _, _, _, _, _⟩) rfl (fun K hK => ?_) AllReadyH.nil
                  go_simp
                  refine (PS.blocks HS21.out.drew HGD.out.sz).mono ?_
                  rintro e w23 ⟨rfl, hb23⟩
                  have HS23 := hide (HS21.out.drew.below hb23)
                  have hO23 := (St.op HS23.out (j := 2) rfl).two
                  clear hb23 HS21
                  refine hK.out _ _ hO23 (fun hHeld => ?_)
                  clear hK K
                  clear hHeld
                  refine wpAnyH_ready (rs := [4]) (by kernel_rfl) (by simp) ?_
                  refine AllReadyH.cons (o := ⟨some 105, _, _, _, _, _⟩) rfl (fun K hK => ?_) AllReadyH.nil
                  go_simp
                  refine (HMD2.out w23 HS23.out.bel).mono ?_
                  rintro e w24 ⟨rfl, hb24⟩
                  rw [← HMM.out]
                  have HS24 := hide (HS23.out.below hb24)
                  have hO24 := (St.op HS24.out (j := 2) rfl).two
                  clear hb24 HS23 HMD2
                  refine hK.out _ _ hO24 (fun hHeld => ?_)
                  clear hK K
                  clear hHeld
                  refine wpAnyH_take (i := 5) (oi := ⟨some 106, _, _, _, _, _⟩) (v := ?_) rfl (by kernel_rfl) (by kernel_rfl) (by kernel_rfl) (fun _ _ _ h => h) (Or.inl ⟨by rfl, ?_⟩) hO24 ?_
                  rotate_left 1
                  · (intro w hSw; obtain ⟨hSw1, hSw2⟩ := hSw; go_simp; try with_reducible rfl)
                  simp only [Act.put, List.setIfInBounds_toArray, List.set_cons_zero, List.set_cons_succ]
                  refine wpAnyH_take (i := 6) (oi := ⟨some 107, _, _, _, _, _⟩) (v := ?_) rfl (by kernel_rfl) (by kernel_rfl) (by kernel_rfl) (fun _ _ _ h => h) (Or.inl ⟨by rfl, ?_⟩) hO24 ?_
                  rotate_left 1
                  · (intro w hSw; obtain ⟨hSw1, hSw2⟩ := hSw; go_simp; try with_reducible rfl)
                  simp only [Act.put, List.setIfInBounds_toArray, List.set_cons_zero, List.set_cons_succ]
                  refine wpAnyH_take (i := 7) (oi := ⟨some 108, _, _, _, _, _⟩) (v := ?_) rfl (by kernel_rfl) (by kernel_rfl) (by kernel_rfl) (fun _ _ _ h => h) (Or.inl ⟨by rfl, ?_⟩) hO24 ?_
                  rotate_left 1
                  · (intro w hSw; obtain ⟨hSw1, hSw2⟩ := hSw; go_simp; try with_reducible rfl)
                  simp only [Act.put, List.setIfInBounds_toArray, List.set_cons_zero, List.set_cons_succ]
                  refine wpAnyH_take (i := 9) (oi := ⟨some 110, _, _, _, _, _⟩) (v := ?_) rfl (by kernel_rfl) (by kernel_rfl) (by kernel_rfl) (fun _ _ _ h => h) (Or.inl ⟨by rfl, ?_⟩) hO24 ?_
                  rotate_left 1
                  · (intro w hSw; obtain ⟨hSw1, hSw2⟩ := hSw; go_simp; try with_reducible rfl)
                  simp only [Act.put, List.setIfInBounds_toArray, List.set_cons_zero, List.set_cons_succ]
                  refine wpAnyH_take (i := 10) (oi := ⟨some 111, _, _, _, _, _⟩) (v := ?_) rfl (by kernel_rfl) (by kernel_rfl) (by kernel_rfl) (fun _ _ _ h => h) (Or.inl ⟨by rfl, ?_⟩) hO24 ?_
                  rotate_left 1
                  · (intro w hSw; obtain ⟨hSw1, hSw2⟩ := hSw; go_simp; try with_reducible rfl)
                  simp only [Act.put, List.setIfInBounds_toArray, List.set_cons_zero, List.set_cons_succ]
                  refine wpAnyH_ready (rs := [8]) (by kernel_rfl) (by simp) ?_
                  refine AllReadyH.cons (o := ⟨some 109, _, _, _, _, _⟩) rfl (fun K hK => ?_) AllReadyH.nil
                  go_simp
                  refine (PS.mark HS24.out).mono ?_
                  rintro e w25 ⟨rfl, hw25⟩
                  rw [← hw25]
                  clear hw25
                  refine hK.out _ _ hO24 (fun hHeld => ?_)
                  clear hK K
                  clear hHeld
                  refine wpAnyH_take (i := 11) (oi := ⟨some 112, _, _, _, _, _⟩) (v := ?_) rfl (by kernel_rfl) (by kernel_rfl) (by kernel_rfl) (fun _ _ _ h => h) (Or.inl ⟨by rfl, ?_⟩) hO24 ?_
                  rotate_left 1
                  · (intro w hSw; obtain ⟨hSw1, hSw2⟩ := hSw; go_simp; try with_reducible rfl)
                  simp only [Act.put, List.setIfInBounds_toArray, List.set_cons_zero, List.set_cons_succ]
                  refine wpAnyH_take (i := 12) (oi := ⟨some 113, _, _, _, _, _⟩) (v := ?_) rfl (by kernel_rfl) (by kernel_rfl) (by kernel_rfl) (fun _ _ _ h => h) (Or.inl ⟨by rfl, ?_⟩) hO24 ?_
                  rotate_left 1
                  · (intro w hSw; obtain ⟨hSw1, hSw2⟩ := hSw; go_simp; try with_reducible rfl)
                  simp only [Act.put, List.setIfInBounds_toArray, List.set_cons_zero, List.set_cons_succ]
                  refine wpAnyH_take (i := 13) (oi := ⟨some 13, _, _, _, _, _⟩) (v := ?_) rfl (by kernel_rfl) (by kernel_rfl) (by kernel_rfl) (fun _ _ _ h => h) (Or.inl ⟨by rfl, ?_⟩) hO24 ?_
                  rotate_left 1
                  · (intro w hSw; obtain ⟨hSw1, hSw2⟩ := hSw; go_simp; try with_reducible rfl)
                  simp only [Act.put, List.setIfInBounds_toArray, List.set_cons_zero, List.set_cons_succ]
                  refine wpAnyH_done (by kernel_rfl) ?_ _
                  skip
                  clear hO21 hO23 hO24 heq hmk2
                  have hlt : ¬ (N.m : Int) < (i.m : Int) := by have := HMORE.out; omega
                  go_wp2_with fail
                  refine (PS.mark HS24.out).mono ?_
                  rintro e w26 ⟨rfl, rfl⟩
                  go_wp2_with fail
                  refine (PS.idle HS24.out HGD.out.sz).mono ?_
                  rintro e w26 ⟨rfl, rfl⟩
                  have HTR := hide (show Trn0 w q p1 N (k + 1) w24 from ⟨S1, HGD.out, by have := HTI.out; have := HNT.out; omega, St.left (Us := [opT bo o, blksT vb i.B]) HS24.out⟩)
                  clear HS24 hlt
                  go_wp2
                  go_roundw
                  case rel => exact ⟨k + 1, p1, N, HK.out, by go_num, rfl, HTR.out⟩
                  case measure => have := HK.out; simp [intOf]; omega
                · have HE := hide hE
                  clear hE
                  have hV20 := St.var HST.out.drew (j := 3) rfl
                  have heq := fun W => blks_equal N.B i.B HGD.out.sz.i HIB.out W
                  rw [decide_eq_false HE.out] at heq
                  go_wp2_with fail
                  refine wp_region_held (S := (fun W => Lies W vb i.B)) (by kernel_rfl) ?_
                  change wpAnyH _ _ _ _ _ _ _ _ (World.drew _)
                  refine wpAnyH_take (i := 0) (oi := ⟨some 91, _, _, _, _, _⟩) (v := ?_) rfl (by kernel_rfl) (by kernel_rfl) (by kernel_rfl) (fun _ _ _ h => h) (Or.inl ⟨by rfl, ?_⟩) hV20 ?_
                  rotate_left 1
                  · (intro w hSw; clear hSw; go_simp; try with_reducible rfl)
                  simp only [Act.put, List.setIfInBounds_toArray, List.set_cons_zero, List.set_cons_succ]
                  refine wpAnyH_take (i := 2) (oi := ⟨some 93, _, _, _, _, _⟩) (v := bval i.B) rfl (by kernel_rfl) (by kernel_rfl) (by kernel_rfl) (fun _ _ _ h => h) (yields_blks (by rfl) (.tmp 8) rfl vb rfl i.B HIB.out (fun w hw => hw)) hV20 ?_
                  simp only [Act.put, List.setIfInBounds_toArray, List.set_cons_zero, List.set_cons_succ]
                  refine wpAnyH_ready (rs := [1]) (by kernel_rfl) (by simp) ?_
                  refine AllReadyH.cons (o := ⟨some 92, _, _, _, _, _⟩) rfl (fun K hK => ?_) AllReadyH.nil
                  go_simp
                  refine (PS.blocks HST.out.drew HGD.out.sz).mono ?_
                  rintro e w21 ⟨rfl, hb21⟩
                  have HS21 := hide (HST.out.drew.below hb21)
                  have hV21 := St.var HS21.out (j := 3) rfl
                  clear hb21 HST
                  refine hK.out _ _ hV21 (fun hHeld => ?_)
                  clear hK K
                  clear hHeld
                  refine wpAnyH_take (i := 3) (oi := ⟨some 94, _, _, _, _, _⟩) (v := ?_) rfl (by kernel_rfl) (by kernel_rfl) (by kernel_rfl) (fun _ _ _ h => h) (Or.inl ⟨by rfl, ?_⟩) hV21 ?_
                  rotate_left 1
                  · (intro w hSw; clear hSw; go_simp; try with_reducible rfl)
                  simp only [Act.put, List.setIfInBounds_toArray, List.set_cons_zero, List.set_cons_succ]
                  refine wpAnyH_take (i := 4) (oi := ⟨some 95, _, _, _, _, _⟩) (v := ?_) rfl (by kernel_rfl) (by kernel_rfl) (by kernel_rfl) (fun _ _ _ h => h) (Or.inl ⟨by rfl, ?_⟩) hV21 ?_
                  rotate_left 1
                  · (intro w hSw; clear hSw; go_simp; try with_reducible rfl)
                  simp only [Act.put, List.setIfInBounds_toArray, List.set_cons_zero, List.set_cons_succ]
                  refine wpAnyH_take (i := 5) (oi := ⟨some 96, _, _, _, _, _⟩) (v := undef) rfl (by kernel_rfl) (by kernel_rfl) (by kernel_rfl) (fun _ _ _ h => h) (Or.inr ⟨by rfl, rfl⟩) hV21 ?_
                  simp only [Act.put, List.setIfInBounds_toArray, List.set_cons_zero, List.set_cons_succ]
                  refine wpAnyH_take (i := 6) (oi := ⟨some 97, _, _, _, _, _⟩) (v := undef) rfl (by kernel_rfl) (by kernel_rfl) (by kernel_rfl) (fun _ _ _ h => h) (Or.inr ⟨by rfl, rfl⟩) hV21 ?_
                  simp only [Act.put, List.setIfInBounds_toArray, List.set_cons_zero, List.set_cons_succ]
                  refine wpAnyH_take (i := 7) (oi := ⟨some 98, _, _, _, _, _⟩) (v := undef) rfl (by kernel_rfl) (by kernel_rfl) (by kernel_rfl) (fun _ _ _ h => h) (Or.inr ⟨by rfl, rfl⟩) hV21 ?_
                  simp only [Act.put, List.setIfInBounds_toArray, List.set_cons_zero, List.set_cons_succ]
                  refine wpAnyH_take (i := 8) (oi := ⟨some 99, _, _, _, _, _⟩) (v := undef) rfl (by kernel_rfl) (by kernel_rfl) (by kernel_rfl) (fun _ _ _ h => h) (Or.inr ⟨by rfl, rfl⟩) hV21 ?_
                  simp only [Act.put, List.setIfInBounds_toArray, List.set_cons_zero, List.set_cons_succ]
                  refine wpAnyH_take (i := 9) (oi := ⟨some 100, _, _, _, _, _⟩) (v := ?_) rfl (by kernel_rfl) (by kernel_rfl) (by kernel_rfl) (fun _ _ _ h => h) (Or.inl ⟨by rfl, ?_⟩) hV21 ?_
                  rotate_left 1
                  · (intro w hSw; clear hSw; go_simp; try with_reducible rfl)
                  simp only [Act.put, List.setIfInBounds_toArray, List.set_cons_zero, List.set_cons_succ]
                  refine wpAnyH_take (i := 10) (oi := ⟨some 12, _, _, _, _, _⟩) (v := ?_) rfl (by kernel_rfl) (by kernel_rfl) (by kernel_rfl) (fun _ _ _ h => h) (Or.inl ⟨by rfl, ?_⟩) hV21 ?_
                  rotate_left 1
                  · (intro w hSw; clear hSw; go_simp; try with_reducible rfl)
                  simp only [Act.put, List.setIfInBounds_toArray, List.set_cons_zero, List.set_cons_succ]
                  refine wpAnyH_done (by kernel_rfl) ?_ _
                  skip
                  clear hV20 hV21 heq
                  have hO21 := (St.op HS21.out.drew (j := 2) rfl).two
                  have HMD2 := hide (fun W (hb : Below w.heap.size w W) => made_any o.a o.n o.c o.l W HFIT.out.len HSMo.out.1 (HFIT.out.src.below hb))
                  have heq := fun W => blks_equal N.B M HGD.out.sz.i HML.out W
                  rw [decide_eq_true HNB.out] at heq
                  have hmk2 : ((N.m : Int) == o.mark) = true := by simp; exact HMV.out.symm
                  go_wp2_with fail
                  refine wp_region_held (S := (fun W => W.cell? ⟨bo, 0, none⟩ = some (.slice o.a o.n o.c) ∧ W.cell? ⟨bo, 1, none⟩ = some (.int .i64 o.mark))) (by kernel_rfl) ?_
                  change wpAnyH _ _ _ _ _ _ _ _ (World.drew _)
                  refine wpAnyH_take (i := 0) (oi := ⟨some 101, _, _, _, _, _⟩) (v := ?_) rfl (by kernel_rfl) (by kernel_rfl) (by kernel_rfl) (fun _ _ _ h => h) (Or.inl ⟨by rfl, ?_⟩) hO21 ?_
                  rotate_left 1
                  · (intro w hSw; obtain ⟨hSw1, hSw2⟩ := hSw; go_simp; try with_reducible rfl)
                  simp only [Act.put, List.setIfInBounds_toArray, List.set_cons_zero, List.set_cons_succ]
                  refine wpAnyH_take (i := 2) (oi := ⟨some 103, _, _, _, _, _⟩) (v := ?_) rfl (by kernel_rfl) (by kernel_rfl) (by kernel_rfl) (fun _ _ _ h => h) (Or.inl ⟨by rfl, ?_⟩) hO21 ?_
                  rotate_left 1
                  · (intro w hSw; obtain ⟨hSw1, hSw2⟩ := hSw; go_simp; try with_reducible rfl)
                  simp only [Act.put, List.setIfInBounds_toArray, List.set_cons_zero, List.set_cons_succ]
                  refine wpAnyH_take (i := 3) (oi := ⟨some 104, _, _, _, _, _⟩) (v := ?_) rfl (by kernel_rfl) (by kernel_rfl) (by kernel_rfl) (fun _ _ _ h => h) (Or.inl ⟨by rfl, ?_⟩) hO21 ?_
                  rotate_left 1
                  · (intro w hSw; obtain ⟨hSw1, hSw2⟩ := hSw; go_simp; try with_reducible rfl)
                  simp only [Act.put, List.setIfInBounds_toArray, List.set_cons_zero, List.set_cons_succ]
                  refine wpAnyH_ready (rs := [1]) (by kernel_rfl) (by simp) ?_
                  refine AllReadyH.cons (o := ⟨some 102, _, _, _, _, _⟩) rfl (fun K hK => ?_) AllReadyH.nil
                  go_simp
                  refine (PS.blocks HS21.out.drew HGD.out.sz).mono ?_
                  rintro e w23 ⟨rfl, hb23⟩
                  have HS23 := hide (HS21.out.drew.below hb23)
                  have hO23 := (St.op HS23.out (j := 2) rfl).two
                  clear hb23 HS21
                  refine hK.out _ _ hO23 (fun hHeld => ?_)
                  clear hK K
                  clear hHeld
                  refine wpAnyH_ready (rs := [4]) (by kernel_rfl) (by simp) ?_
                  refine AllReadyH.cons (o := ⟨some 105, _, _, _, _, _⟩) rfl (fun K hK => ?_) AllReadyH.nil
                  go_simp
                  refine (HMD2.out w23 HS23.out.bel).mono ?_
                  rintro e w24 ⟨rfl, hb24⟩
                  rw [← HMM.out]
                  have HS24 := hide (HS23.out.below hb24)
                  have hO24 := (St.op HS24.out (j := 2) rfl).two
                  clear hb24 HS23 HMD2
                  refine hK.out _ _ hO24 (fun hHeld => ?_)
                  clear hK K
                  clear hHeld
                  refine wpAnyH_take (i := 5) (oi := ⟨some 106, _, _, _, _, _⟩) (v := ?_) rfl (by kernel_rfl) (by kernel_rfl) (by kernel_rfl) (fun _ _ _ h => h) (Or.inl ⟨by rfl, ?_⟩) hO24 ?_
                  rotate_left 1
                  · (intro w hSw; obtain ⟨hSw1, hSw2⟩ := hSw; go_simp; try with_reducible rfl)
                  simp only [Act.put, List.setIfInBounds_toArray, List.set_cons_zero, List.set_cons_succ]
                  refine wpAnyH_take (i := 6) (oi := ⟨some 107, _, _, _, _, _⟩) (v := ?_) rfl (by kernel_rfl) (by kernel_rfl) (by kernel_rfl) (fun _ _ _ h => h) (Or.inl ⟨by rfl, ?_⟩) hO24 ?_
                  rotate_left 1
                  · (intro w hSw; obtain ⟨hSw1, hSw2⟩ := hSw; go_simp; try with_reducible rfl)
                  simp only [Act.put, List.setIfInBounds_toArray, List.set_cons_zero, List.set_cons_succ]
                  refine wpAnyH_take (i := 7) (oi := ⟨some 108, _, _, _, _, _⟩) (v := ?_) rfl (by kernel_rfl) (by kernel_rfl) (by kernel_rfl) (fun _ _ _ h => h) (Or.inl ⟨by rfl, ?_⟩) hO24 ?_
                  rotate_left 1
                  · (intro w hSw; obtain ⟨hSw1, hSw2⟩ := hSw; go_simp; try with_reducible rfl)
                  simp only [Act.put, List.setIfInBounds_toArray, List.set_cons_zero, List.set_cons_succ]
                  refine wpAnyH_take (i := 9) (oi := ⟨some 110, _, _, _, _, _⟩) (v := ?_) rfl (by kernel_rfl) (by kernel_rfl) (by kernel_rfl) (fun _ _ _ h => h) (Or.inl ⟨by rfl, ?_⟩) hO24 ?_
                  rotate_left 1
                  · (intro w hSw; obtain ⟨hSw1, hSw2⟩ := hSw; go_simp; try with_reducible rfl)
                  simp only [Act.put, List.setIfInBounds_toArray, List.set_cons_zero, List.set_cons_succ]
                  refine wpAnyH_take (i := 10) (oi := ⟨some 111, _, _, _, _, _⟩) (v := ?_) rfl (by kernel_rfl) (by kernel_rfl) (by kernel_rfl) (fun _ _ _ h => h) (Or.inl ⟨by rfl, ?_⟩) hO24 ?_
                  rotate_left 1
                  · (intro w hSw; obtain ⟨hSw1, hSw2⟩ := hSw; go_simp; try with_reducible rfl)
                  simp only [Act.put, List.setIfInBounds_toArray, List.set_cons_zero, List.set_cons_succ]
                  refine wpAnyH_ready (rs := [8]) (by kernel_rfl) (by simp) ?_
                  refine AllReadyH.cons (o := ⟨some 109, _, _, _, _, _⟩) rfl (fun K hK => ?_) AllReadyH.nil
                  go_simp
                  refine (PS.mark HS24.out).mono ?_
                  rintro e w25 ⟨rfl, hw25⟩
                  rw [← hw25]
                  clear hw25
                  refine hK.out _ _ hO24 (fun hHeld => ?_)
                  clear hK K
                  clear hHeld
                  refine wpAnyH_take (i := 11) (oi := ⟨some 112, _, _, _, _, _⟩) (v := ?_) rfl (by kernel_rfl) (by kernel_rfl) (by kernel_rfl) (fun _ _ _ h => h) (Or.inl ⟨by rfl, ?_⟩) hO24 ?_
                  rotate_left 1
                  · (intro w hSw; obtain ⟨hSw1, hSw2⟩ := hSw; go_simp; try with_reducible rfl)
                  simp only [Act.put, List.setIfInBounds_toArray, List.set_cons_zero, List.set_cons_succ]
                  refine wpAnyH_take (i := 12) (oi := ⟨some 113, _, _, _, _, _⟩) (v := ?_) rfl (by kernel_rfl) (by kernel_rfl) (by kernel_rfl) (fun _ _ _ h => h) (Or.inl ⟨by rfl, ?_⟩) hO24 ?_
                  rotate_left 1
                  · (intro w hSw; obtain ⟨hSw1, hSw2⟩ := hSw; go_simp; try with_reducible rfl)
                  simp only [Act.put, List.setIfInBounds_toArray, List.set_cons_zero, List.set_cons_succ]
                  refine wpAnyH_take (i := 13) (oi := ⟨some 13, _, _, _, _, _⟩) (v := ?_) rfl (by kernel_rfl) (by kernel_rfl) (by kernel_rfl) (fun _ _ _ h => h) (Or.inl ⟨by rfl, ?_⟩) hO24 ?_
                  rotate_left 1
                  · (intro w hSw; obtain ⟨hSw1, hSw2⟩ := hSw; go_simp; try with_reducible rfl)
                  simp only [Act.put, List.setIfInBounds_toArray, List.set_cons_zero, List.set_cons_succ]
                  refine wpAnyH_done (by kernel_rfl) ?_ _
                  skip
                  clear hO21 hO23 hO24 heq hmk2
                  have hlt : ¬ (N.m : Int) < (i.m : Int) := by have := HMORE.out; omega
                  go_wp2_with fail
                  refine (PS.mark HS24.out).mono ?_
                  rintro e w26 ⟨rfl, rfl⟩
                  go_wp2_with fail
                  refine (PS.idle HS24.out HGD.out.sz).mono ?_
                  rintro e w26 ⟨rfl, rfl⟩
                  have HTR := hide (show Trn0 w q p1 N (k + 1) w24 from ⟨S1, HGD.out, by have := HTI.out; have := HNT.out; omega, St.left (Us := [opT bo o, blksT vb i.B]) HS24.out⟩)
                  clear HS24 hlt
                  go_wp2
                  go_roundw
                  case rel => exact ⟨k + 1, p1, N, HK.out, by go_num, rfl, HTR.out⟩
                  case measure => have := HK.out; simp [intOf]; omega
        · have HBN := hide (fun W (hW : St w (PS q p S [] i im0 0 [opT bo o, blksT vb i.B]) W) => PS.begin_no hW HG0.out.sz HML.out HMS.out hbg)
          clear hbg HMS
          go_wp2_with fail
          refine wp_region_held (S := (fun W => W.cell? ⟨bo, 0, none⟩ = some (.slice o.a o.n o.c) ∧ W.cell? ⟨bo, 1, none⟩ = some (.int .i64 o.mark))) (by kernel_rfl) ?_
          change wpAnyH _ _ _ _ _ _ _ _ (World.drew _)
          refine wpAnyH_take (i := 0) (oi := ⟨some 43, _, _, _, _, _⟩) (v := ?_) rfl (by kernel_rfl) (by kernel_rfl) (by kernel_rfl) (fun _ _ _ h => h) (Or.inl ⟨by rfl, ?_⟩) hO10 ?_
          rotate_left 1
          · (intro w hSw; obtain ⟨hSw1, hSw2⟩ := hSw; go_simp; try with_reducible rfl)
          simp only [Act.put, List.setIfInBounds_toArray, List.set_cons_zero, List.set_cons_succ]
          refine wpAnyH_take (i := 1) (oi := ⟨some 44, _, _, _, _, _⟩) (v := ?_) rfl (by kernel_rfl) (by kernel_rfl) (by kernel_rfl) (fun _ _ _ h => h) (Or.inl ⟨by rfl, ?_⟩) hO10 ?_
          rotate_left 1
          · (intro w hSw; obtain ⟨hSw1, hSw2⟩ := hSw; go_simp; try with_reducible rfl)
          simp only [Act.put, List.setIfInBounds_toArray, List.set_cons_zero, List.set_cons_succ]
          refine wpAnyH_take (i := 2) (oi := ⟨some 45, _, _, _, _, _⟩) (v := ?_) rfl (by kernel_rfl) (by kernel_rfl) (by kernel_rfl) (fun _ _ _ h => h) (Or.inl ⟨by rfl, ?_⟩) hO10 ?_
          rotate_left 1
          · (intro w hSw; obtain ⟨hSw1, hSw2⟩ := hSw; go_simp; try with_reducible rfl)
          simp only [Act.put, List.setIfInBounds_toArray, List.set_cons_zero, List.set_cons_succ]
          refine wpAnyH_take (i := 4) (oi := ⟨some 47, _, _, _, _, _⟩) (v := ?_) rfl (by kernel_rfl) (by kernel_rfl) (by kernel_rfl) (fun _ _ _ h => h) (Or.inl ⟨by rfl, ?_⟩) hO10 ?_
          rotate_left 1
          · (intro w hSw; obtain ⟨hSw1, hSw2⟩ := hSw; go_simp; try with_reducible rfl)
          simp only [Act.put, List.setIfInBounds_toArray, List.set_cons_zero, List.set_cons_succ]
          refine wpAnyH_take (i := 5) (oi := ⟨some 48, _, _, _, _, _⟩) (v := ?_) rfl (by kernel_rfl) (by kernel_rfl) (by kernel_rfl) (fun _ _ _ h => h) (Or.inl ⟨by rfl, ?_⟩) hO10 ?_
          rotate_left 1
          · (intro w hSw; obtain ⟨hSw1, hSw2⟩ := hSw; go_simp; try with_reducible rfl)
          simp only [Act.put, List.setIfInBounds_toArray, List.set_cons_zero, List.set_cons_succ]
          refine wpAnyH_ready (rs := [3]) (by kernel_rfl) (by simp) ?_
          refine AllReadyH.cons (o := ⟨some 46, _, _, _, _, _⟩) rfl (fun K hK => ?_) AllReadyH.nil
          go_simp
          refine HMD.out.mono ?_
          rintro e w11 ⟨rfl, hb11⟩
          rw [← HMM.out]
          have HS11 := hide (HS10.out.drew.below hb11)
          have hO11 := (St.op HS11.out (j := 2) rfl).two
          clear hb11 HMD
          refine hK.out _ _ hO11 (fun hHeld => ?_)
          clear hK K
          clear hHeld
          refine wpAnyH_ready (rs := [6]) (by kernel_rfl) (by simp) ?_
          refine AllReadyH.cons (o := ⟨some 49, _, _, _, _, _⟩) rfl (fun K hK => ?_) AllReadyH.nil
          go_simp
          refine (HBN.out w11 HS11.out).mono ?_
          rintro e w12 ⟨pp, rfl, hf12, hb12⟩
          have HS12 := hide (HS11.out.below hb12)
          have hO12 := (St.op HS12.out (j := 2) rfl).two
          clear hf12 hb12 HBN HS11 HS10
          refine hK.out _ _ hO12 (fun hHeld => ?_)
          clear hK K
          clear hHeld
          refine wpAnyH_take (i := 7) (oi := ⟨some 50, _, _, _, _, _⟩) (v := ?_) rfl (by kernel_rfl) (by kernel_rfl) (by kernel_rfl) (fun _ _ _ h => h) (Or.inl ⟨by rfl, ?_⟩) hO12 ?_
          rotate_left 1
          · (intro w hSw; obtain ⟨hSw1, hSw2⟩ := hSw; go_simp; try with_reducible rfl)
          simp only [Act.put, List.setIfInBounds_toArray, List.set_cons_zero, List.set_cons_succ]
          refine wpAnyH_done (by kernel_rfl) ?_ _
          skip
          have HTR := hide (show Trn0 w q p i (k + 1) w12 from ⟨S, HG0.out, by have := HTI.out; omega, St.left (Us := [opT bo o, blksT vb i.B]) HS12.out⟩)
          clear hO10 hO11 hO12 HS12
          go_wp2
          go_roundw
          case rel => exact ⟨k + 1, p, i, HK.out, by go_num, rfl, HTR.out⟩
          case measure => have := HK.out; simp [intOf]; omega
      · obtain rfl : k = n := by omega
        obtain ⟨S, hgd, hti, hst⟩ := htr.out
        have HST := hide hst
        clear htr hgd hti hst hge hk
        go_wp2
        go_ret
        exact ⟨rfl, HST.out.bel⟩

end Go.Proofs.YtnmpckhlpkmojaaDoor.Im
