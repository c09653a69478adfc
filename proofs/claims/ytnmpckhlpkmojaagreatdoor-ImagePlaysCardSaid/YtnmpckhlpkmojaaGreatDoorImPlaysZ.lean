/-
  Proved: isobarlaw14.ImagePlays at every script: whatever is laid, cut off anywhere, and opened again, each answer, the blocks, the marker, and each sector are the document's. Condition: the package variable halves and the library's variable errors.errorType read as the program's own text lays them (the card ties them).
-/
import Derived.Test.YtnmpckhlpkmojaaGreatDoorImS
import Derived.Test.YtnmpckhlpkmojaaGreatDoorImD
import Derived.Test.YtnmpckhlpkmojaaGreatDoorTie
import Derived.Test.YtnmpckhlpkmojaaGreatDoorCards
import Derived.Test.YtnmpckhlpkmojaaGreatDoorImF
import Derived.SevenTiedAt

/-
  An image and the document's, each on its own disk of the same sectors, among other things: one contract for each call of both. Condition: the table of half bytes holds what the program's own text lays.
-/
namespace Go.Proofs.YtnmpckhlpkmojaaGreatDoor.Im
open Go.RowKit
open Pk hiding str str_data str_size str_of run_str head_str str_append
open Sm hiding run_str
open Fa Rc Dk Wn Lk
open Jn (NumN clampN zer zer_no)

/-- What is picked, by its places. -/
inductive Picks (Ts : List Thg) : List Thg → List Nat → Prop where
  | nil : Picks Ts [] []
  | cons {T : Thg} {Us : List Thg} {j : Nat} {js : List Nat} (h : Ts[j]? = some T) (t : Picks Ts Us js) : Picks Ts (T :: Us) (j :: js)
/-- Some of the things, in a given order. -/
theorem St.take {w0 w : World} {Ts Us : List Thg} {js : List Nat} (h : St w0 Ts w) (hn : js.Nodup) (hU : Picks Ts Us js) : St w0 Us w := by
  have hat : ∀ (Us : List Thg) (js : List Nat), Picks Ts Us js → ∀ (i : Nat) (T : Thg), Us[i]? = some T → ∃ j : Nat, js[i]? = some j ∧ Ts[j]? = some T := by
    intro Us js hf
    induction hf with
    | nil => intro i T hi; cases hi
    | cons h1 _ ih =>
      intro i T hi
      cases i with
      | zero => cases hi; exact ⟨_, rfl, h1⟩
      | succ i => exact ih i T hi
  refine St.sub h (fun x => if x ∈ js then js.idxOf x + 1 else 0) fun i T hi => ?_
  obtain ⟨j, hj, hT⟩ := hat Us js hU i T hi
  obtain ⟨hlt, rfl⟩ := List.getElem?_eq_some_iff.1 hj
  refine ⟨js[i], hT, fun x => ?_⟩
  by_cases hx : x ∈ js
  · rw [if_pos hx]
    constructor
    · intro e
      have e' : js.idxOf x = i := by omega
      subst e'
      exact (List.getElem_idxOf (List.idxOf_lt_length_of_mem hx)).symm
    · rintro rfl
      rw [hn.idxOf_getElem]
  · rw [if_neg hx]
    constructor
    · intro e; omega
    · rintro rfl
      exact absurd (List.getElem_mem hlt) hx
/-- Both sides. -/
abbrev PR (q p rq rp : Nat) (S : List Sec) (L : List Wr) (i n : Img) (k : Nat) (A : Option Addr) (c : Nat) (Us : List Thg) : List Thg :=
  dskT q S L :: imgT p q i n k :: rdskT rq S L :: rowV A c i.B :: rimV rp rq i.t i.m (.slice A 32 c) :: Us
section
variable {w0 w : World} {Us Ts : List Thg} {p q rp rq k a b r c : Nat} {A : Option Addr} {i n : Img} {S S' : List Sec} {L L' : List Wr} {x : Value}
theorem PR.ps (h : St w0 (PR q p rq rp S L i n k A c Us) w) : St w0 (PS q p S L i n k (rdskT rq S L :: rowV A c i.B :: rimV rp rq i.t i.m (.slice A 32 c) :: Us)) w := h
theorem PS.step_by (h : St w0 (PS q p S L i n k Us) w) (u : Upd S L i n k) (hk : k < 34) (hd : Does w0 (PS q p S L i n k Us) 0 1 p q k i n S L S' L') :
    Calls Tryz.prog 17 #[.pointer (some ⟨p, 0, none⟩)] w fun e w' => e = .returned (.tuple #[.bool false, .nilIface]) ∧ St w0 (PS q p S' L' i n (k + 1) Us) w' := by
  refine (Step_more h (b := 1) rfl (by omega) u.sz (by have := u.next.turn; omega) (k + 1) hk rfl hd).mono ?_
  rintro e w' ⟨rfl, hs⟩
  exact ⟨rfl, hs⟩
/-- What the document's step does on its disk. -/
def RDoes (w0 : World) (rq rp k : Nat) (i n : Img) (S : List Sec) (L : List Wr) (S' : List Sec) (L' : List Wr) : Prop :=
  ∀ (w : World) (Ts : List Thg) (a b r : Nat) (A : Option Addr) (c : Nat) (x : Value), St w0 Ts w → Ts[a]? = some (rdskT rq S L) → Ts[b]? = some (rimV rp rq i.t i.m x) → Ts[r]? = some (rowV A c n.B) → a ≠ b → a ≠ r →
    Calls Tryz.prog 18 #[.pointer (some ⟨rp, 0, none⟩), .int .i64 (k : Int), .slice A 32 c, .int .i64 (n.m : Int)] w fun e w' => e = .returned (.bool false) ∧ St w0 (Ts.set a (rdskT rq S' L')) w'
/-- A step of both that isn't the last one. -/
theorem both_step (u : Upd S L i n k) (hk : k < 34) (ht : Tab w0) (hti : i.t ≤ 1000) :
    ∃ S' L', Upd S' L' i n (k + 1) ∧ RDoes w0 rq rp k i n S L S' L' ∧ ∀ (Us : List Thg) (w : World), St w0 (PS q p S L i n k Us) w →
      Calls Tryz.prog 17 #[.pointer (some ⟨p, 0, none⟩)] w fun e w' => e = .returned (.tuple #[.bool false, .nilIface]) ∧ St w0 (PS q p S' L' i n (k + 1) Us) w' := by
  have hlo := u.loose
  have htn := u.next.turn
  rcases Nat.lt_or_ge k 32 with h1 | h1
  · obtain ⟨d, hd⟩ : ∃ d, n.B[k]? = some d := ⟨_, List.getElem?_eq_getElem (by have := u.next.blen; omega)⟩
    have hbd : Im.blk n k = d := by
      show n.B.getD k ⟨#[]⟩ = d
      rw [List.getD_eq_getElem?_getD, hd]
      rfl
    have hds := u.next.short d (List.mem_of_getElem? hd)
    refine ⟨S, L ++ [(at2 n.t k, bsec n.t d)], ?_, ?_, fun Us w h => PS.step_by h u hk fun w h => perform_block h (a := 0) (b := 1) rfl rfl (by omega) u.sz (by omega) ht k h1 d hd hds u.len⟩
    · rw [← hbd]
      exact u.block h1
    · intro w Ts a b r A c x h ha hb hr hab har
      rw [htn]
      exact RStep_block h ha hb hr hti u.len (by omega) hab har (n.m : Int) h1 hd hds
  · rcases (show k = 32 ∨ k = 33 by omega) with rfl | rfl
    · refine ⟨all S L, [], u.flush, ?_, fun Us w h => PS.step_by h u hk fun w h => perform_flush h (a := 0) (b := 1) rfl rfl (by omega) u.sz (by omega) ht⟩
      intro w Ts a b r A c x h ha hb hr hab har
      exact RStep_flush h ha hb hr hti u.len (by omega) (n.m : Int)
    · refine ⟨S, _, u.head, ?_, fun Us w h => PS.step_by h u hk fun w h => perform_head h (a := 0) (b := 1) rfl rfl (by omega) u.sz (by omega) ht u.len⟩
      intro w Ts a b r A c x h ha hb hr hab har
      rw [htn]
      exact RStep_head h ha hb hr hti u.len (by omega) hab n.m
theorem Gd.all_nil (S : List Sec) : all S [] = S := rfl
/-- The document's disk is opened, as an image. -/
theorem PR.ropen {Ts : List Thg} {S : List Sec} {i : Img} {a : Nat} (h : St w0 Ts w) (ha : Ts[a]? = some (rdskT rq S [])) (g : Gd S i) :
    Calls Tryz.prog 10 #[.pointer (some ⟨rq, 0, none⟩)] w fun e w' => RGood w0 Ts rq i e w' := by
  have := rOpen_any h ha (by rw [g.len]; omega) (by simp) g.full
  rw [show all S [] = S by rfl, g.opn] at this
  exact this
end

end Go.Proofs.YtnmpckhlpkmojaaGreatDoor.Im

/-
  ImagePlays: whatever is laid, cut off anywhere, and opened again, each answer, the blocks, the marker, and each sector are the document's. Conditions: the table of half bytes, and the library's variable errors.errorType, hold what the program's own text lays.
-/
namespace Go.Proofs.YtnmpckhlpkmojaaGreatDoor.Im
open Go.RowKit
open Pk hiding str str_data str_size str_of run_str head_str str_append
open Sm hiding run_str
open Fa Rc Dk Wn Lk
open Jn (NumN clampN zer zer_no)

/-- An Op in a variable. -/
abbrev opT (b : Nat) (o : Oq) : Thg := blkT b #[.slice o.a o.n o.c, .int .i64 o.mark, .int .u8 (o.cut : Int), .int .u64 (o.keep : Int)] 40
structure OBx (w : World) (b : Nat) (o : Oq) : Prop where
  l : w.cell? ⟨b, 0, none⟩ = some (.slice o.a o.n o.c)
  mark : w.cell? ⟨b, 1, none⟩ = some (.int .i64 o.mark)
  cut : w.cell? ⟨b, 2, none⟩ = some (.int .u8 (o.cut : Int))
  keep : w.cell? ⟨b, 3, none⟩ = some (.int .u64 (o.keep : Int))
theorem St.op {w0 w : World} {Ts : List Thg} {j b : Nat} {o : Oq} (h : St w0 Ts w) (hj : Ts[j]? = some (opT b o)) : OBx w b o := ⟨(St.blk h hj).1 0, (St.blk h hj).1 1, (St.blk h hj).1 2, (St.blk h hj).1 3⟩
theorem wpList_blk_told {P : Program} {ops : Array Oper} {rest : List Oper} {o : Oper} {a : Act} {w : World} {Q : Exit → Act → World → Prop} (hg : o.guard = none) (ty : TypeId) (x y : Operand) (ho : o.op = .store ty x y)
    (b : Nat) (cs : Array Value) (hx : a.eval x = .pointer (some ⟨b, 0, none⟩)) (hy : a.eval y = .agg cs) (old : Array Value) (hb : w.heap[b]? = some (.cells old ty (0, 0)))
    (hi : (P.info? ty).map (·.size) = some cs.size) (hs : old.size = cs.size) (h1 : cs.all (·.oneCell') = true)
    (h : ∀ w', Hid (w' = w.setRow b cs) → wpList P ops Q rest (a.put o.dst undef) w') : wpList P ops Q (o :: rest) a w := by
  refine wpList_plain hg fun K hK => ?_
  have hrun := run_storeVar_row (P := P) w b ty ty old cs hb hi hs h1
  unfold Oper.wp execOp
  simp only [ho, hx, hy, Instr.storeAt, Instr.sureAddr, Sem.run_bind, hrun, Sem.run_pure, Result.andThen_ok]
  exact hK _ _ (h _ rfl)
/-- Blocks in a variable. -/
abbrev blksT (b : Nat) (M : List ByteArray) : Thg := blkT b (strs M).toArray 43
theorem St.var {w0 w : World} {Ts : List Thg} {j b : Nat} {M : List ByteArray} (h : St w0 Ts w) (hj : Ts[j]? = some (blksT b M)) : Lies w b M := by
  obtain ⟨G, hp, _⟩ := St.opened h hj
  exact Blk.row hp
theorem St.blk_row {w0 w : World} {Ts : List Thg} {j b : Nat} {cs cs' : Array Value} {ty : TypeId} (h : St w0 Ts w) (hj : Ts[j]? = some (blkT b cs ty)) : St w0 (Ts.set j (blkT b cs' ty)) (w.setRow b cs') := by
  obtain ⟨G, hp, _, hc⟩ := St.opened h hj
  exact hc _ _ (Blk.row_set hp)
theorem hold2 {w0 w : World} {Ts : List Thg} {j l bo vb : Nat} {o : Oq} {M : List ByteArray} (h : St w0 Ts w) (hj : Ts[j]? = some (blksT vb M)) (hl : Ts[l]? = some (opT bo o)) : Lies w vb M ∧ w.cell? ⟨bo, 1, none⟩ = some (.int .i64 o.mark) := ⟨St.var h hj, (St.op h hl).mark⟩
theorem St.rim23 {w0 w : World} {Ts : List Thg} {b rp q t m : Nat} {x : Value} (h : St w0 Ts w) (hb : Ts[b]? = some (rimV rp q t m x)) : w.cell? ⟨rp, 2, none⟩ = some (.int .i64 (m : Int)) ∧ w.cell? ⟨rp, 3, none⟩ = some x := ⟨(St.rim h hb).2.2.1, (St.rim h hb).2.2.2⟩
/-- Between two rounds. -/
def Rnd (w0 : World) (q rq p rp : Nat) (i : Img) (k : Nat) (w : World) : Prop := ∃ S A c, Gd S i ∧ i.t ≤ k ∧ St w0 (PR q p rq rp S [] i im0 0 A c []) w
/-- x steps of an update are done, of both. -/
def MidR (w0 : World) (q rq p rp : Nat) (i n : Img) (Us : List Thg) (x : Nat) (w : World) : Prop :=
  ∃ S L A c, (x < 35 ∧ Upd S L i n x ∧ St w0 (PR q p rq rp S L i n x A c Us) w) ∨ (x = 35 ∧ Gd S n ∧ L = [] ∧ St w0 (PR q p rq rp S [] n im0 0 A c Us) w)
set_option maxRecDepth 100000 in
set_option maxHeartbeats 16000000 in
theorem Plays_any (A0 : Option Addr) (n c0 : Nat) (l : List Oq) (w : World) (ht : Tab w) (hty : Ety w) (hl : l.length = n) (hf : OFits w l) (hp : Ops w A0 l) :
    Calls Tryz.prog 3 #[.slice A0 n c0] w fun r w' => r = .returned (.bool true) ∧ Below w.heap.size w w' := by
  have HA := hide (awake_any w ht)
  have HT := hide ht
  have HY := hide hty
  have HL := hide hl
  have HF := hide hf
  have HP := hide hp
  clear ht hty hl hf hp
  go_enter Tryz.func3, Tryz.ntmps3
  go_wp2_with fail
  refine HA.out.mono ?_
  rintro e w1 ⟨rfl, hb1⟩
  have HB1 := hide hb1
  have HW := hide (few_any A0 n c0 l w1 HL.out (HP.out.below hb1) (HF.out.below hb1))
  have HA2 := hide (awake_any w1 (HT.out.below HB1.out HT.out.pos))
  clear hb1 HA
  go_wp2_with fail
  refine HW.out.mono ?_
  rintro e w3 ⟨⟨b, rfl, hgood⟩, rfl⟩
  clear HW
  cases b with
  | false =>
    clear hgood
    go_wp2_with fail
    refine HA2.out.mono ?_
    rintro e w3 ⟨rfl, hb3⟩
    have HB3 := hide (HB1.out.trans (hb3.mono HB1.out.size))
    clear hb3 HA2
    go_wp2
    go_ret
    exact ⟨rfl, HB3.out⟩
  | true =>
    obtain ⟨hn, hsm⟩ := hgood rfl
    have HSM := hide hsm
    have HS1 := hide ((St.start w).below HB1.out)
    clear HA2 HB1 hgood hsm
    go_wp2_with fail
    refine (PS.start HS1.out).mono ?_
    rintro e w3 ⟨q, rfl, hs3⟩
    have HN2 := hide (show Calls Tryz.prog 8 #[.int .i64 66] w3 _ from St.rnew (n := 66) hs3 (by omega))
    clear hs3 HS1
    go_wp2_with fail
    refine HN2.out.mono ?_
    rintro e w4 ⟨rq, rfl, hs4⟩
    have HO := hide (PS.open (q := q) (Us := [rdskT rq (List.replicate 66 Dk.zero) []]) hs4 HT.out Gd.fresh)
    clear hs4 HN2
    go_wp2_with fail
    refine HO.out.mono ?_
    rintro e w5 ⟨p0, rfl, hs5⟩
    have HRO := hide (PR.ropen hs5 (a := 2) rfl Gd.fresh)
    clear hs5 HO
    go_wp2_with fail
    refine HRO.out.mono ?_
    rintro e w6 ⟨rp0, g0, cc0, rfl, hs6⟩
    have HR0 := hide (show Rnd w q rq p0 rp0 im0 0 w6 from ⟨_, some ⟨g0, 0, none⟩, cc0, Gd.fresh, Nat.le_refl _, hs6⟩)
    clear hs6 HRO
    go_wp2
    go_loopw [5, 7, 46] (fun pv rv j wr => ∃ (k p rp : Nat) (i : Img), k ≤ n ∧ j = .int .i64 k ∧ pv = .pointer (some ⟨p, 0, none⟩) ∧ rv = .pointer (some ⟨rp, 0, none⟩) ∧ Hid (Rnd w q rq p rp i k wr)) (fun _ _ j _ => n - (intOf j).toNat)
    case atStart => exact ⟨0, p0, rp0, im0, Nat.zero_le _, rfl, rfl, rfl, HR0.out⟩
    case round =>
      clear HR0
      obtain ⟨k, p, rp, i, hk, rfl, rfl, rfl, hrn⟩ := hrel
      rcases Nat.lt_or_ge k n with hlt | hge
      · obtain ⟨S, A, c, hgd, hti, hst⟩ := hrn.out
        have hki : (k : Int) < (n : Int) := by omega
        have HK := hide hlt
        have HTK := hide hti
        have HTI := hide (show i.t ≤ 1000 by omega)
        obtain ⟨o, hok⟩ : ∃ o, l[k]? = some o := ⟨_, List.getElem?_eq_getElem (by rw [HL.out]; exact hlt)⟩
        obtain ⟨ob, oo, hA, hob, hat⟩ := HP.out.at_ hok
        have HFIT := hide (HF.out o (List.mem_of_getElem? hok))
        have HSMo := hide (HSM.out o (List.mem_of_getElem? hok))
        obtain ⟨hc0, hc1, hc2, hc3⟩ := hat.below hob hst.bel
        have HG0 := hide hgd
        have HST0 := hide hst
        rw [hA]
        clear hrn hgd hti hst hat hok hlt hk
        have HS7 := hide (show St w (PR q p rq rp S [] i im0 0 A c [opT wr.heap.size o]) (wr.alloc (.cells #[.slice o.a o.n o.c, .int .i64 o.mark, .int .u8 (o.cut : Int), .int .u64 (o.keep : Int)] 40)) from St.blk_new HST0.out _ _)
        have hO7 := St.op HS7.out (j := 5) rfl
        have hl7 := hO7.l
        have HMD := hide (made_any o.a o.n o.c o.l _ HFIT.out.len HSMo.out.1 (HFIT.out.src.below HS7.out.bel))
        clear hO7
        go_wp2_with fail
        refine HMD.out.mono ?_
        rintro e w8 ⟨rfl, hb8⟩
        have HS8 := hide (HS7.out.below hb8)
        clear hl7 HMD hb8 HST0 hc0 hc1 hc2 hc3
        generalize wr.heap.size = bo at *
        obtain ⟨M, hM⟩ : ∃ M, M = mk o.l := ⟨_, rfl⟩
        rw [← hM]
        have HML := hide (show M.length = 32 by rw [hM]; exact mk_length _)
        have HMS := hide (show ∀ d ∈ M, d.size ≤ 1000 by rw [hM]; exact mk_short fun s hs => by have := HSMo.out.2 s hs; omega)
        clear hM
        go_wp2_with (refine wpList_alloc_told rfl 43 rfl _ blks_zero ?_)
        intro w9 H9
        have HS9 := hide (show St w (PR q p rq rp S [] i im0 0 A c [opT bo o, blksT w8.heap.size emp]) w9 by rw [H9.out]; exact St.blk_new HS8.out _ _)
        have HV9 := hide (St.var HS9.out (j := 6) rfl)
        clear H9 HS8 HS7
        generalize w8.heap.size = vb at *
        go_wp2_with (refine wpList_blk_told rfl 43 (.tmp 11) (.tmp 55) rfl vb (strs M).toArray rfl rfl (strs emp).toArray HV9.out.heap (by rw [blks_size, List.size_toArray, List.length_map, HML.out]) (by rw [List.size_toArray, List.size_toArray, List.length_map, List.length_map, HML.out]; simp) (all_oneCell_toArray (strs_one _)) ?_)
        intro w10 H10
        have HS10 := hide (show St w (PR q p rq rp S [] i im0 0 A c [opT bo o, blksT vb M]) w10 by rw [H10.out]; exact St.blk_row HS9.out (j := 6) rfl)
        clear H10 HS9 HV9
        have hh10 := hold2 HS10.out.drew (j := 6) (l := 5) rfl rfl
        obtain ⟨v, hv⟩ : ∃ v, bgn i M o.mark = v := ⟨_, rfl⟩
        have HV := hide hv
        clear hv
        go_wp2_with fail
        refine wp_region_held (S := (fun W => Lies W vb M ∧ W.cell? ⟨bo, 1, none⟩ = some (.int .i64 o.mark))) (by kernel_rfl) ?_
        change wpAnyH _ _ _ _ _ _ _ _ (World.drew _)
        refine wpAnyH_take (i := 0) (oi := ⟨some 56, _, _, _, _, _⟩) (v := ?_) rfl (by kernel_rfl) (by kernel_rfl) (by kernel_rfl) (fun _ _ _ h => h) (Or.inl ⟨by rfl, ?_⟩) hh10 ?_
        rotate_left 1
        · (intro w hSw; obtain ⟨hSw1, hSw2⟩ := hSw; go_simp; try with_reducible rfl)
        simp only [Act.put, List.setIfInBounds_toArray, List.set_cons_zero, List.set_cons_succ]
        refine wpAnyH_take (i := 1) (oi := ⟨some 57, _, _, _, _, _⟩) (v := bval M) rfl (by kernel_rfl) (by kernel_rfl) (by kernel_rfl) (fun _ _ _ h => h) (yields_blks (by rfl) (.tmp 11) rfl vb rfl M HML.out (fun w hw => hw.1)) hh10 ?_
        simp only [Act.put, List.setIfInBounds_toArray, List.set_cons_zero, List.set_cons_succ]
        refine wpAnyH_take (i := 3) (oi := ⟨some 59, _, _, _, _, _⟩) (v := ?_) rfl (by kernel_rfl) (by kernel_rfl) (by kernel_rfl) (fun _ _ _ h => h) (Or.inl ⟨by rfl, ?_⟩) hh10 ?_
        rotate_left 1
        · (intro w hSw; obtain ⟨hSw1, hSw2⟩ := hSw; go_simp; try with_reducible rfl)
        simp only [Act.put, List.setIfInBounds_toArray, List.set_cons_zero, List.set_cons_succ]
        refine wpAnyH_take (i := 4) (oi := ⟨some 60, _, _, _, _, _⟩) (v := ?_) rfl (by kernel_rfl) (by kernel_rfl) (by kernel_rfl) (fun _ _ _ h => h) (Or.inl ⟨by rfl, ?_⟩) hh10 ?_
        rotate_left 1
        · (intro w hSw; obtain ⟨hSw1, hSw2⟩ := hSw; go_simp; try with_reducible rfl)
        simp only [Act.put, List.setIfInBounds_toArray, List.set_cons_zero, List.set_cons_succ]
        refine wpAnyH_ready (rs := [2]) (by kernel_rfl) (by simp) ?_
        refine AllReadyH.cons (o := ⟨some 58, _, _, _, _, _⟩) rfl (fun K hK => ?_) AllReadyH.nil
        go_simp
        refine (St.flat HS10.out.drew M HML.out).mono ?_
        rintro e w11 ⟨A2, c2, rfl, hs11⟩
        have HS11 := hide (show St w (PR q p rq rp S [] i im0 0 A c [opT bo o, blksT vb M, rowV A2 c2 M]) w11 from hs11)
        have hh11 := hold2 HS11.out (j := 6) (l := 5) rfl rfl
        clear hs11
        refine hK.out _ _ hh11 (fun hHeld => ?_)
        clear hK K
        clear hHeld
        refine wpAnyH_ready (rs := [5]) (by kernel_rfl) (by simp) ?_
        refine AllReadyH.cons (o := ⟨some 61, _, _, _, _, _⟩) rfl (fun K hK => ?_) AllReadyH.nil
        go_simp
        refine (RBegin_any HS11.out (b := 4) (r := 7) rfl rfl HML.out o.mark (i := i) rfl).mono ?_
        rintro e w12 ⟨rfl, hw12⟩
        rw [← hw12, HV.out]
        clear hw12
        refine hK.out _ _ hh11 (fun hHeld => ?_)
        clear hK K
        clear hHeld
        refine wpAnyH_take (i := 6) (oi := ⟨some 12, _, _, _, _, _⟩) (v := ?_) rfl (by kernel_rfl) (by kernel_rfl) (by kernel_rfl) (fun _ _ _ h => h) (Or.inl ⟨by rfl, ?_⟩) hh11 ?_
        rotate_left 1
        · (intro w hSw; obtain ⟨hSw1, hSw2⟩ := hSw; go_simp; try with_reducible rfl)
        simp only [Act.put, List.setIfInBounds_toArray, List.set_cons_zero, List.set_cons_succ]
        refine wpAnyH_done (by kernel_rfl) ?_ _
        skip
        clear hh10 hh11 HS10
        have HS13 := hide (St.left (Ts := PR q p rq rp S [] i im0 0 A c [opT bo o, blksT vb M]) (Us := [rowV A2 c2 M]) HS11.out).drew
        have hh13 := hold2 HS13.out (j := 6) (l := 5) rfl rfl
        clear HS11
        by_cases hbg : v = 0
        · have hbg' : bgn i M o.mark = 0 := by rw [HV.out]; exact hbg
          obtain ⟨mk0, hmk, hnx, _⟩ := PS.begin_ok (PR.ps HS13.out) HG0.out.sz HML.out HMS.out hbg' (by have := HTI.out; omega)
          have HCALL := hide (fun W (hW : St w (PR q p rq rp S [] i im0 0 A c [opT bo o, blksT vb M]) W) => show Calls Tryz.prog 15 #[.pointer (some ⟨p, 0, none⟩), bval M, .int .i64 o.mark] W fun e w' => e = .returned .nilIface ∧ St w (PR q p rq rp S [] i ⟨i.t + 1, mk0, M⟩ 0 A c [opT bo o, blksT vb M]) w' by
            obtain ⟨mk1, hmk1, _, hc⟩ := PS.begin_ok (PR.ps hW) HG0.out.sz HML.out HMS.out hbg' (by have := HTI.out; omega)
            obtain rfl : mk1 = mk0 := by omega
            exact hc)
          have HU := hide (HG0.out.begin hnx)
          have HMV0 := hide hmk
          subst hbg
          clear hbg' hmk hnx HMS
          go_wp2_with fail
          refine wp_region_held (S := (fun W => Lies W vb M ∧ W.cell? ⟨bo, 1, none⟩ = some (.int .i64 o.mark))) (by kernel_rfl) ?_
          change wpAnyH _ _ _ _ _ _ _ _ (World.drew _)
          refine wpAnyH_take (i := 0) (oi := ⟨some 62, _, _, _, _, _⟩) (v := ?_) rfl (by kernel_rfl) (by kernel_rfl) (by kernel_rfl) (fun _ _ _ h => h) (Or.inl ⟨by rfl, ?_⟩) hh13 ?_
          rotate_left 1
          · (intro w hSw; obtain ⟨hSw1, hSw2⟩ := hSw; go_simp; try with_reducible rfl)
          simp only [Act.put, List.setIfInBounds_toArray, List.set_cons_zero, List.set_cons_succ]
          refine wpAnyH_take (i := 1) (oi := ⟨some 63, _, _, _, _, _⟩) (v := bval M) rfl (by kernel_rfl) (by kernel_rfl) (by kernel_rfl) (fun _ _ _ h => h) (yields_blks (by rfl) (.tmp 11) rfl vb rfl M HML.out (fun w hw => hw.1)) hh13 ?_
          simp only [Act.put, List.setIfInBounds_toArray, List.set_cons_zero, List.set_cons_succ]
          refine wpAnyH_take (i := 2) (oi := ⟨some 64, _, _, _, _, _⟩) (v := ?_) rfl (by kernel_rfl) (by kernel_rfl) (by kernel_rfl) (fun _ _ _ h => h) (Or.inl ⟨by rfl, ?_⟩) hh13 ?_
          rotate_left 1
          · (intro w hSw; obtain ⟨hSw1, hSw2⟩ := hSw; go_simp; try with_reducible rfl)
          simp only [Act.put, List.setIfInBounds_toArray, List.set_cons_zero, List.set_cons_succ]
          refine wpAnyH_take (i := 3) (oi := ⟨some 65, _, _, _, _, _⟩) (v := ?_) rfl (by kernel_rfl) (by kernel_rfl) (by kernel_rfl) (fun _ _ _ h => h) (Or.inl ⟨by rfl, ?_⟩) hh13 ?_
          rotate_left 1
          · (intro w hSw; obtain ⟨hSw1, hSw2⟩ := hSw; go_simp; try with_reducible rfl)
          simp only [Act.put, List.setIfInBounds_toArray, List.set_cons_zero, List.set_cons_succ]
          refine wpAnyH_take (i := 5) (oi := ⟨some 67, _, _, _, _, _⟩) (v := ?_) rfl (by kernel_rfl) (by kernel_rfl) (by kernel_rfl) (fun _ _ _ h => h) (Or.inl ⟨by rfl, ?_⟩) hh13 ?_
          rotate_left 1
          · (intro w hSw; obtain ⟨hSw1, hSw2⟩ := hSw; go_simp; try with_reducible rfl)
          simp only [Act.put, List.setIfInBounds_toArray, List.set_cons_zero, List.set_cons_succ]
          refine wpAnyH_take (i := 6) (oi := ⟨some 68, _, _, _, _, _⟩) (v := ?_) rfl (by kernel_rfl) (by kernel_rfl) (by kernel_rfl) (fun _ _ _ h => h) (Or.inl ⟨by rfl, ?_⟩) hh13 ?_
          rotate_left 1
          · (intro w hSw; obtain ⟨hSw1, hSw2⟩ := hSw; go_simp; try with_reducible rfl)
          simp only [Act.put, List.setIfInBounds_toArray, List.set_cons_zero, List.set_cons_succ]
          refine wpAnyH_take (i := 7) (oi := ⟨some 69, _, _, _, _, _⟩) (v := ?_) rfl (by kernel_rfl) (by kernel_rfl) (by kernel_rfl) (fun _ _ _ h => h) (Or.inl ⟨by rfl, ?_⟩) hh13 ?_
          rotate_left 1
          · (intro w hSw; obtain ⟨hSw1, hSw2⟩ := hSw; go_simp; try with_reducible rfl)
          simp only [Act.put, List.setIfInBounds_toArray, List.set_cons_zero, List.set_cons_succ]
          refine wpAnyH_ready (rs := [4]) (by kernel_rfl) (by simp) ?_
          refine AllReadyH.cons (o := ⟨some 66, _, _, _, _, _⟩) rfl (fun K hK => ?_) AllReadyH.nil
          go_simp
          refine (HCALL.out _ HS13.out).mono ?_
          rintro e w14 ⟨rfl, hs14⟩
          have HS14 := hide hs14
          have hh14 := hold2 HS14.out (j := 6) (l := 5) rfl rfl
          clear hs14 HCALL
          refine hK.out _ _ hh14 (fun hHeld => ?_)
          clear hK K
          clear hHeld
          refine wpAnyH_ready (rs := [8]) (by kernel_rfl) (by simp) ?_
          refine AllReadyH.cons (o := ⟨some 70, _, _, _, _, _⟩) rfl (fun K hK => ?_) AllReadyH.nil
          go_simp
          refine (place_none (HY.out.below HS14.out.bel HY.out.lt) o.mark).mono ?_
          rintro e w15 ⟨rfl, hb15⟩
          have HS15 := hide (HS14.out.below hb15)
          have hh15 := hold2 HS15.out (j := 6) (l := 5) rfl rfl
          clear hb15
          refine hK.out _ _ hh15 (fun hHeld => ?_)
          clear hK K
          clear hHeld
          refine wpAnyH_take (i := 9) (oi := ⟨some 71, _, _, _, _, _⟩) (v := ?_) rfl (by kernel_rfl) (by kernel_rfl) (by kernel_rfl) (fun _ _ _ h => h) (Or.inl ⟨by rfl, ?_⟩) hh15 ?_
          rotate_left 1
          · (intro w hSw; obtain ⟨hSw1, hSw2⟩ := hSw; go_simp; try with_reducible rfl)
          simp only [Act.put, List.setIfInBounds_toArray, List.set_cons_zero, List.set_cons_succ]
          refine wpAnyH_take (i := 10) (oi := ⟨some 72, _, _, _, _, _⟩) (v := ?_) rfl (by kernel_rfl) (by kernel_rfl) (by kernel_rfl) (fun _ _ _ h => h) (Or.inl ⟨by rfl, ?_⟩) hh15 ?_
          rotate_left 1
          · (intro w hSw; obtain ⟨hSw1, hSw2⟩ := hSw; go_simp; try with_reducible rfl)
          simp only [Act.put, List.setIfInBounds_toArray, List.set_cons_zero, List.set_cons_succ]
          refine wpAnyH_take (i := 11) (oi := ⟨some 73, _, _, _, _, _⟩) (v := ?_) rfl (by kernel_rfl) (by kernel_rfl) (by kernel_rfl) (fun _ _ _ h => h) (Or.inl ⟨by rfl, ?_⟩) hh15 ?_
          rotate_left 1
          · (intro w hSw; obtain ⟨hSw1, hSw2⟩ := hSw; go_simp; try with_reducible rfl)
          simp only [Act.put, List.setIfInBounds_toArray, List.set_cons_zero, List.set_cons_succ]
          refine wpAnyH_take (i := 13) (oi := ⟨some 75, _, _, _, _, _⟩) (v := ?_) rfl (by kernel_rfl) (by kernel_rfl) (by kernel_rfl) (fun _ _ _ h => h) (Or.inl ⟨by rfl, ?_⟩) hh15 ?_
          rotate_left 1
          · (intro w hSw; obtain ⟨hSw1, hSw2⟩ := hSw; go_simp; try with_reducible rfl)
          simp only [Act.put, List.setIfInBounds_toArray, List.set_cons_zero, List.set_cons_succ]
          refine wpAnyH_take (i := 14) (oi := ⟨some 76, _, _, _, _, _⟩) (v := ?_) rfl (by kernel_rfl) (by kernel_rfl) (by kernel_rfl) (fun _ _ _ h => h) (Or.inl ⟨by rfl, ?_⟩) hh15 ?_
          rotate_left 1
          · (intro w hSw; obtain ⟨hSw1, hSw2⟩ := hSw; go_simp; try with_reducible rfl)
          simp only [Act.put, List.setIfInBounds_toArray, List.set_cons_zero, List.set_cons_succ]
          refine wpAnyH_ready (rs := [12]) (by kernel_rfl) (by simp) ?_
          refine AllReadyH.cons (o := ⟨some 74, _, _, _, _, _⟩) rfl (fun K hK => ?_) AllReadyH.nil
          go_simp
          refine (PS.busy (PR.ps HS15.out) HU.out).mono ?_
          rintro e w16 ⟨rfl, hw16⟩
          rw [← hw16]
          clear hw16
          refine hK.out _ _ hh15 (fun hHeld => ?_)
          clear hK K
          clear hHeld
          refine wpAnyH_take (i := 15) (oi := ⟨some 77, _, _, _, _, _⟩) (v := ?_) rfl (by kernel_rfl) (by kernel_rfl) (by kernel_rfl) (fun _ _ _ h => h) (Or.inl ⟨by rfl, ?_⟩) hh15 ?_
          rotate_left 1
          · (intro w hSw; obtain ⟨hSw1, hSw2⟩ := hSw; go_simp; try with_reducible rfl)
          simp only [Act.put, List.setIfInBounds_toArray, List.set_cons_zero, List.set_cons_succ]
          refine wpAnyH_take (i := 16) (oi := ⟨some 78, _, _, _, _, _⟩) (v := ?_) rfl (by kernel_rfl) (by kernel_rfl) (by kernel_rfl) (fun _ _ _ h => h) (Or.inl ⟨by rfl, ?_⟩) hh15 ?_
          rotate_left 1
          · (intro w hSw; obtain ⟨hSw1, hSw2⟩ := hSw; go_simp; try with_reducible rfl)
          simp only [Act.put, List.setIfInBounds_toArray, List.set_cons_zero, List.set_cons_succ]
          refine wpAnyH_done (by kernel_rfl) ?_ _
          skip
          clear hh13 hh14 hh15 HS13 HS14
          obtain ⟨N, hN⟩ : ∃ N, (⟨i.t + 1, mk0, M⟩ : Img) = N := ⟨_, rfl⟩
          have HNT := hide (show N.t = i.t + 1 by rw [← hN])
          have HNB := hide (show N.B = M by rw [← hN])
          have HMV := hide (show o.mark = (N.m : Int) by rw [HMV0.out, ← hN])
          have HM16 := hide (show MidR w q rq p rp i N [opT bo o, blksT vb M] 0 w15 from ⟨S, [], A, c, Or.inl ⟨by omega, by rw [← hN]; exact HU.out, by rw [← hN]; exact HS15.out⟩⟩)
          clear HS15 HU hN HMV0
          have hcw : IntKind.i64.wrap (o.cut : Int) = (o.cut : Int) := IntWalk.i64_in _ (by have := HFIT.out.cut; omega)
          go_wp2
          go_loopw [13] (fun j wt => ∃ x : Nat, x ≤ 35 ∧ j = .int .i64 x ∧ Hid (MidR w q rq p rp i N [opT bo o, blksT vb M] x wt)) (fun j _ => 35 - (intOf j).toNat)
          case atStart => exact ⟨0, by omega, rfl, HM16.out⟩
          case round =>
            clear HM16
            obtain ⟨x, hx, rfl, hmid⟩ := hrel
            obtain ⟨S1, L1, A1, c1, ⟨hx1, hu, hs⟩ | ⟨rfl, hg1, rfl, hs⟩⟩ := hmid.out
            · have hxi : (x : Int) < 35 := by omega
              have HX := hide hx1
              have HU1 := hide hu
              have HSX := hide hs
              have hcc := (St.op hs (j := 5) rfl).cut
              have hkp := (St.op hs (j := 5) rfl).keep
              clear hmid hx hx1 hu hs
              by_cases hgo : o.cut = 0 ∨ x + 1 < o.cut
              · by_cases hx34 : x < 34
                · obtain ⟨S', L', hu2, hrd, hst⟩ := both_step (w0 := w) (rq := rq) (rp := rp) (p := p) (q := q) HU1.out hx34 HT.out HTI.out
                  have HU2 := hide hu2
                  have HRD := hide hrd
                  have HSTP := hide (hst _ _ (PR.ps HSX.out))
                  have H34 := hide hx34
                  clear hu2 hrd hst hx34 hkp
                  rcases hgo with h0 | h1
                  · rw [h0] at hcc
                    clear h0
                    go_wp2_with fail
                    refine HSTP.out.mono ?_
                    rintro e w21 ⟨rfl, hs21⟩
                    have HS21 := hide (show St w (PS q p S' L' i N (x + 1) [rdskT rq S1 L1, rowV A1 c1 i.B, rimV rp rq i.t i.m (.slice A1 32 c1), opT bo o, blksT vb M]) w21 from hs21)
                    have hh21 := hold2 HS21.out.drew (j := 6) (l := 5) rfl rfl
                    clear hs21 HSTP hcc
                    go_wp2_with fail
                    refine wp_region_held (S := (fun W => Lies W vb M ∧ W.cell? ⟨bo, 1, none⟩ = some (.int .i64 o.mark))) (by kernel_rfl) ?_
                    change wpAnyH _ _ _ _ _ _ _ _ (World.drew _)
                    refine wpAnyH_take (i := 0) (oi := ⟨some 105, _, _, _, _, _⟩) (v := ?_) rfl (by kernel_rfl) (by kernel_rfl) (by kernel_rfl) (fun _ _ _ h => h) (Or.inl ⟨by rfl, ?_⟩) hh21 ?_
                    rotate_left 1
                    · (intro w hSw; obtain ⟨hSw1, hSw2⟩ := hSw; go_simp; try with_reducible rfl)
                    simp only [Act.put, List.setIfInBounds_toArray, List.set_cons_zero, List.set_cons_succ]
                    refine wpAnyH_take (i := 1) (oi := ⟨some 106, _, _, _, _, _⟩) (v := ?_) rfl (by kernel_rfl) (by kernel_rfl) (by kernel_rfl) (fun _ _ _ h => h) (Or.inl ⟨by rfl, ?_⟩) hh21 ?_
                    rotate_left 1
                    · (intro w hSw; obtain ⟨hSw1, hSw2⟩ := hSw; go_simp; try with_reducible rfl)
                    simp only [Act.put, List.setIfInBounds_toArray, List.set_cons_zero, List.set_cons_succ]
                    refine wpAnyH_take (i := 2) (oi := ⟨some 107, _, _, _, _, _⟩) (v := ?_) rfl (by kernel_rfl) (by kernel_rfl) (by kernel_rfl) (fun _ _ _ h => h) (Or.inl ⟨by rfl, ?_⟩) hh21 ?_
                    rotate_left 1
                    · (intro w hSw; obtain ⟨hSw1, hSw2⟩ := hSw; go_simp; try with_reducible rfl)
                    simp only [Act.put, List.setIfInBounds_toArray, List.set_cons_zero, List.set_cons_succ]
                    refine wpAnyH_take (i := 3) (oi := ⟨some 108, _, _, _, _, _⟩) (v := bval M) rfl (by kernel_rfl) (by kernel_rfl) (by kernel_rfl) (fun _ _ _ h => h) (yields_blks (by rfl) (.tmp 11) rfl vb rfl M HML.out (fun w hw => hw.1)) hh21 ?_
                    simp only [Act.put, List.setIfInBounds_toArray, List.set_cons_zero, List.set_cons_succ]
                    refine wpAnyH_take (i := 5) (oi := ⟨some 110, _, _, _, _, _⟩) (v := ?_) rfl (by kernel_rfl) (by kernel_rfl) (by kernel_rfl) (fun _ _ _ h => h) (Or.inl ⟨by rfl, ?_⟩) hh21 ?_
                    rotate_left 1
                    · (intro w hSw; obtain ⟨hSw1, hSw2⟩ := hSw; go_simp; try with_reducible rfl)
                    simp only [Act.put, List.setIfInBounds_toArray, List.set_cons_zero, List.set_cons_succ]
                    refine wpAnyH_take (i := 6) (oi := ⟨some 111, _, _, _, _, _⟩) (v := ?_) rfl (by kernel_rfl) (by kernel_rfl) (by kernel_rfl) (fun _ _ _ h => h) (Or.inl ⟨by rfl, ?_⟩) hh21 ?_
                    rotate_left 1
                    · (intro w hSw; obtain ⟨hSw1, hSw2⟩ := hSw; go_simp; try with_reducible rfl)
                    simp only [Act.put, List.setIfInBounds_toArray, List.set_cons_zero, List.set_cons_succ]
                    refine wpAnyH_ready (rs := [4]) (by kernel_rfl) (by simp) ?_
                    refine AllReadyH.cons (o := ⟨some 109, _, _, _, _, _⟩) rfl (fun K hK => ?_) AllReadyH.nil
                    go_simp
                    refine (St.flat HS21.out.drew M HML.out).mono ?_
                    rintro e w22 ⟨A2, c2, rfl, hs22⟩
                    have HS22 := hide (show St w (PS q p S' L' i N (x + 1) [rdskT rq S1 L1, rowV A1 c1 i.B, rimV rp rq i.t i.m (.slice A1 32 c1), opT bo o, blksT vb M, rowV A2 c2 M]) w22 from hs22)
                    have hh22 := hold2 HS22.out (j := 6) (l := 5) rfl rfl
                    clear hs22
                    refine hK.out _ _ hh22 (fun hHeld => ?_)
                    clear hK K
                    clear hHeld
                    refine wpAnyH_ready (rs := [7]) (by kernel_rfl) (by simp) ?_
                    refine AllReadyH.cons (o := ⟨some 112, _, _, _, _, _⟩) rfl (fun K hK => ?_) AllReadyH.nil
                    go_simp
                    have hcall := HRD.out w22 _ 2 4 7 A2 c2 _ HS22.out rfl rfl (by rw [HNB.out]; rfl) (by decide) (by decide)
                    rw [← HMV.out] at hcall
                    refine hcall.mono ?_
                    rintro e w23 ⟨rfl, hs23⟩
                    have HS23 := hide (show St w (PR q p rq rp S' L' i N (x + 1) A1 c1 [opT bo o, blksT vb M, rowV A2 c2 M]) w23 from hs23)
                    have hh23 := hold2 HS23.out (j := 6) (l := 5) rfl rfl
                    clear hs23
                    clear hcall
                    refine hK.out _ _ hh23 (fun hHeld => ?_)
                    clear hK K
                    clear hHeld
                    refine wpAnyH_take (i := 8) (oi := ⟨some 113, _, _, _, _, _⟩) (v := ?_) rfl (by kernel_rfl) (by kernel_rfl) (by kernel_rfl) (fun _ _ _ h => h) (Or.inl ⟨by rfl, ?_⟩) hh23 ?_
                    rotate_left 1
                    · (intro w hSw; obtain ⟨hSw1, hSw2⟩ := hSw; go_simp; try with_reducible rfl)
                    simp only [Act.put, List.setIfInBounds_toArray, List.set_cons_zero, List.set_cons_succ]
                    refine wpAnyH_take (i := 9) (oi := ⟨some 114, _, _, _, _, _⟩) (v := ?_) rfl (by kernel_rfl) (by kernel_rfl) (by kernel_rfl) (fun _ _ _ h => h) (Or.inl ⟨by rfl, ?_⟩) hh23 ?_
                    rotate_left 1
                    · (intro w hSw; obtain ⟨hSw1, hSw2⟩ := hSw; go_simp; try with_reducible rfl)
                    simp only [Act.put, List.setIfInBounds_toArray, List.set_cons_zero, List.set_cons_succ]
                    refine wpAnyH_take (i := 10) (oi := ⟨some 115, _, _, _, _, _⟩) (v := ?_) rfl (by kernel_rfl) (by kernel_rfl) (by kernel_rfl) (fun _ _ _ h => h) (Or.inl ⟨by rfl, ?_⟩) hh23 ?_
                    rotate_left 1
                    · (intro w hSw; obtain ⟨hSw1, hSw2⟩ := hSw; go_simp; try with_reducible rfl)
                    simp only [Act.put, List.setIfInBounds_toArray, List.set_cons_zero, List.set_cons_succ]
                    refine wpAnyH_take (i := 11) (oi := ⟨some 116, _, _, _, _, _⟩) (v := ?_) rfl (by kernel_rfl) (by kernel_rfl) (by kernel_rfl) (fun _ _ _ h => h) (Or.inl ⟨by rfl, ?_⟩) hh23 ?_
                    rotate_left 1
                    · (intro w hSw; obtain ⟨hSw1, hSw2⟩ := hSw; go_simp; try with_reducible rfl)
                    simp only [Act.put, List.setIfInBounds_toArray, List.set_cons_zero, List.set_cons_succ]
                    refine wpAnyH_take (i := 12) (oi := ⟨some 117, _, _, _, _, _⟩) (v := ?_) rfl (by kernel_rfl) (by kernel_rfl) (by kernel_rfl) (fun _ _ _ h => h) (Or.inl ⟨by rfl, ?_⟩) hh23 ?_
                    rotate_left 1
                    · (intro w hSw; obtain ⟨hSw1, hSw2⟩ := hSw; go_simp; try with_reducible rfl)
                    simp only [Act.put, List.setIfInBounds_toArray, List.set_cons_zero, List.set_cons_succ]
                    refine wpAnyH_take (i := 13) (oi := ⟨some 118, _, _, _, _, _⟩) (v := ?_) rfl (by kernel_rfl) (by kernel_rfl) (by kernel_rfl) (fun _ _ _ h => h) (Or.inl ⟨by rfl, ?_⟩) hh23 ?_
                    rotate_left 1
                    · (intro w hSw; obtain ⟨hSw1, hSw2⟩ := hSw; go_simp; try with_reducible rfl)
                    simp only [Act.put, List.setIfInBounds_toArray, List.set_cons_zero, List.set_cons_succ]
                    refine wpAnyH_take (i := 14) (oi := ⟨some 119, _, _, _, _, _⟩) (v := ?_) rfl (by kernel_rfl) (by kernel_rfl) (by kernel_rfl) (fun _ _ _ h => h) (Or.inl ⟨by rfl, ?_⟩) hh23 ?_
                    rotate_left 1
                    · (intro w hSw; obtain ⟨hSw1, hSw2⟩ := hSw; go_simp; try with_reducible rfl)
                    simp only [Act.put, List.setIfInBounds_toArray, List.set_cons_zero, List.set_cons_succ]
                    refine wpAnyH_take (i := 16) (oi := ⟨some 121, _, _, _, _, _⟩) (v := ?_) rfl (by kernel_rfl) (by kernel_rfl) (by kernel_rfl) (fun _ _ _ h => h) (Or.inl ⟨by rfl, ?_⟩) hh23 ?_
                    rotate_left 1
                    · (intro w hSw; obtain ⟨hSw1, hSw2⟩ := hSw; go_simp; try with_reducible rfl)
                    simp only [Act.put, List.setIfInBounds_toArray, List.set_cons_zero, List.set_cons_succ]
                    refine wpAnyH_ready (rs := [15]) (by kernel_rfl) (by simp) ?_
                    refine AllReadyH.cons (o := ⟨some 120, _, _, _, _, _⟩) rfl (fun K hK => ?_) AllReadyH.nil
                    go_simp
                    refine (PS.busy (PR.ps HS23.out) HU2.out).mono ?_
                    rintro e w24 ⟨rfl, hw24⟩
                    rw [← hw24]
                    clear hw24
                    refine hK.out _ _ hh23 (fun hHeld => ?_)
                    clear hK K
                    clear hHeld
                    refine wpAnyH_take (i := 17) (oi := ⟨some 122, _, _, _, _, _⟩) (v := ?_) rfl (by kernel_rfl) (by kernel_rfl) (by kernel_rfl) (fun _ _ _ h => h) (Or.inl ⟨by rfl, ?_⟩) hh23 ?_
                    rotate_left 1
                    · (intro w hSw; obtain ⟨hSw1, hSw2⟩ := hSw; go_simp; try with_reducible rfl)
                    simp only [Act.put, List.setIfInBounds_toArray, List.set_cons_zero, List.set_cons_succ]
                    refine wpAnyH_take (i := 18) (oi := ⟨some 123, _, _, _, _, _⟩) (v := ?_) rfl (by kernel_rfl) (by kernel_rfl) (by kernel_rfl) (fun _ _ _ h => h) (Or.inl ⟨by rfl, ?_⟩) hh23 ?_
                    rotate_left 1
                    · (intro w hSw; obtain ⟨hSw1, hSw2⟩ := hSw; go_simp; try with_reducible rfl)
                    simp only [Act.put, List.setIfInBounds_toArray, List.set_cons_zero, List.set_cons_succ]
                    refine wpAnyH_done (by kernel_rfl) ?_ _
                    skip
                    have HM24 := hide (show MidR w q rq p rp i N [opT bo o, blksT vb M] (x + 1) w23 from ⟨S', L', A1, c1, Or.inl ⟨by have := H34.out; omega, HU2.out, (St.left (Ts := PR q p rq rp S' L' i N (x + 1) A1 c1 [opT bo o, blksT vb M]) (Us := [rowV A2 c2 M]) HS23.out)⟩⟩)
                    clear hh21 hh22 hh23 HS21 HS22 HS23
                    go_wp2
                    go_roundw
                    case rel => exact ⟨x + 1, by have := HX.out; omega, by go_num, HM24.out⟩
                    case measure => have := HX.out; simp [intOf]; omega
                  · have h1i : (x : Int) + 1 < (o.cut : Int) := by omega
                    have hc0b : ((o.cut : Int) == 0) = false := by simp; omega
                    clear h1
                    go_wp2_with fail
                    refine HSTP.out.mono ?_
                    rintro e w21 ⟨rfl, hs21⟩
                    have HS21 := hide (show St w (PS q p S' L' i N (x + 1) [rdskT rq S1 L1, rowV A1 c1 i.B, rimV rp rq i.t i.m (.slice A1 32 c1), opT bo o, blksT vb M]) w21 from hs21)
                    have hh21 := hold2 HS21.out.drew (j := 6) (l := 5) rfl rfl
                    clear hs21 HSTP hcc
                    go_wp2_with fail
                    refine wp_region_held (S := (fun W => Lies W vb M ∧ W.cell? ⟨bo, 1, none⟩ = some (.int .i64 o.mark))) (by kernel_rfl) ?_
                    change wpAnyH _ _ _ _ _ _ _ _ (World.drew _)
                    refine wpAnyH_take (i := 0) (oi := ⟨some 105, _, _, _, _, _⟩) (v := ?_) rfl (by kernel_rfl) (by kernel_rfl) (by kernel_rfl) (fun _ _ _ h => h) (Or.inl ⟨by rfl, ?_⟩) hh21 ?_
                    rotate_left 1
                    · (intro w hSw; obtain ⟨hSw1, hSw2⟩ := hSw; go_simp; try with_reducible rfl)
                    simp only [Act.put, List.setIfInBounds_toArray, List.set_cons_zero, List.set_cons_succ]
                    refine wpAnyH_take (i := 1) (oi := ⟨some 106, _, _, _, _, _⟩) (v := ?_) rfl (by kernel_rfl) (by kernel_rfl) (by kernel_rfl) (fun _ _ _ h => h) (Or.inl ⟨by rfl, ?_⟩) hh21 ?_
                    rotate_left 1
                    · (intro w hSw; obtain ⟨hSw1, hSw2⟩ := hSw; go_simp; try with_reducible rfl)
                    simp only [Act.put, List.setIfInBounds_toArray, List.set_cons_zero, List.set_cons_succ]
                    refine wpAnyH_take (i := 2) (oi := ⟨some 107, _, _, _, _, _⟩) (v := ?_) rfl (by kernel_rfl) (by kernel_rfl) (by kernel_rfl) (fun _ _ _ h => h) (Or.inl ⟨by rfl, ?_⟩) hh21 ?_
                    rotate_left 1
                    · (intro w hSw; obtain ⟨hSw1, hSw2⟩ := hSw; go_simp; try with_reducible rfl)
                    simp only [Act.put, List.setIfInBounds_toArray, List.set_cons_zero, List.set_cons_succ]
                    refine wpAnyH_take (i := 3) (oi := ⟨some 108, _, _, _, _, _⟩) (v := bval M) rfl (by kernel_rfl) (by kernel_rfl) (by kernel_rfl) (fun _ _ _ h => h) (yields_blks (by rfl) (.tmp 11) rfl vb rfl M HML.out (fun w hw => hw.1)) hh21 ?_
                    simp only [Act.put, List.setIfInBounds_toArray, List.set_cons_zero, List.set_cons_succ]
                    refine wpAnyH_take (i := 5) (oi := ⟨some 110, _, _, _, _, _⟩) (v := ?_) rfl (by kernel_rfl) (by kernel_rfl) (by kernel_rfl) (fun _ _ _ h => h) (Or.inl ⟨by rfl, ?_⟩) hh21 ?_
                    rotate_left 1
                    · (intro w hSw; obtain ⟨hSw1, hSw2⟩ := hSw; go_simp; try with_reducible rfl)
                    simp only [Act.put, List.setIfInBounds_toArray, List.set_cons_zero, List.set_cons_succ]
                    refine wpAnyH_take (i := 6) (oi := ⟨some 111, _, _, _, _, _⟩) (v := ?_) rfl (by kernel_rfl) (by kernel_rfl) (by kernel_rfl) (fun _ _ _ h => h) (Or.inl ⟨by rfl, ?_⟩) hh21 ?_
                    rotate_left 1
                    · (intro w hSw; obtain ⟨hSw1, hSw2⟩ := hSw; go_simp; try with_reducible rfl)
                    simp only [Act.put, List.setIfInBounds_toArray, List.set_cons_zero, List.set_cons_succ]
                    refine wpAnyH_ready (rs := [4]) (by kernel_rfl) (by simp) ?_
                    refine AllReadyH.cons (o := ⟨some 109, _, _, _, _, _⟩) rfl (fun K hK => ?_) AllReadyH.nil
                    go_simp
                    refine (St.flat HS21.out.drew M HML.out).mono ?_
                    rintro e w22 ⟨A2, c2, rfl, hs22⟩
                    have HS22 := hide (show St w (PS q p S' L' i N (x + 1) [rdskT rq S1 L1, rowV A1 c1 i.B, rimV rp rq i.t i.m (.slice A1 32 c1), opT bo o, blksT vb M, rowV A2 c2 M]) w22 from hs22)
                    have hh22 := hold2 HS22.out (j := 6) (l := 5) rfl rfl
                    clear hs22
                    refine hK.out _ _ hh22 (fun hHeld => ?_)
                    clear hK K
                    clear hHeld
                    refine wpAnyH_ready (rs := [7]) (by kernel_rfl) (by simp) ?_
                    refine AllReadyH.cons (o := ⟨some 112, _, _, _, _, _⟩) rfl (fun K hK => ?_) AllReadyH.nil
                    go_simp
                    have hcall := HRD.out w22 _ 2 4 7 A2 c2 _ HS22.out rfl rfl (by rw [HNB.out]; rfl) (by decide) (by decide)
                    rw [← HMV.out] at hcall
                    refine hcall.mono ?_
                    rintro e w23 ⟨rfl, hs23⟩
                    have HS23 := hide (show St w (PR q p rq rp S' L' i N (x + 1) A1 c1 [opT bo o, blksT vb M, rowV A2 c2 M]) w23 from hs23)
                    have hh23 := hold2 HS23.out (j := 6) (l := 5) rfl rfl
                    clear hs23
                    clear hcall
                    refine hK.out _ _ hh23 (fun hHeld => ?_)
                    clear hK K
                    clear hHeld
                    refine wpAnyH_take (i := 8) (oi := ⟨some 113, _, _, _, _, _⟩) (v := ?_) rfl (by kernel_rfl) (by kernel_rfl) (by kernel_rfl) (fun _ _ _ h => h) (Or.inl ⟨by rfl, ?_⟩) hh23 ?_
                    rotate_left 1
                    · (intro w hSw; obtain ⟨hSw1, hSw2⟩ := hSw; go_simp; try with_reducible rfl)
                    simp only [Act.put, List.setIfInBounds_toArray, List.set_cons_zero, List.set_cons_succ]
                    refine wpAnyH_take (i := 9) (oi := ⟨some 114, _, _, _, _, _⟩) (v := ?_) rfl (by kernel_rfl) (by kernel_rfl) (by kernel_rfl) (fun _ _ _ h => h) (Or.inl ⟨by rfl, ?_⟩) hh23 ?_
                    rotate_left 1
                    · (intro w hSw; obtain ⟨hSw1, hSw2⟩ := hSw; go_simp; try with_reducible rfl)
                    simp only [Act.put, List.setIfInBounds_toArray, List.set_cons_zero, List.set_cons_succ]
                    refine wpAnyH_take (i := 10) (oi := ⟨some 115, _, _, _, _, _⟩) (v := ?_) rfl (by kernel_rfl) (by kernel_rfl) (by kernel_rfl) (fun _ _ _ h => h) (Or.inl ⟨by rfl, ?_⟩) hh23 ?_
                    rotate_left 1
                    · (intro w hSw; obtain ⟨hSw1, hSw2⟩ := hSw; go_simp; try with_reducible rfl)
                    simp only [Act.put, List.setIfInBounds_toArray, List.set_cons_zero, List.set_cons_succ]
                    refine wpAnyH_take (i := 11) (oi := ⟨some 116, _, _, _, _, _⟩) (v := ?_) rfl (by kernel_rfl) (by kernel_rfl) (by kernel_rfl) (fun _ _ _ h => h) (Or.inl ⟨by rfl, ?_⟩) hh23 ?_
                    rotate_left 1
                    · (intro w hSw; obtain ⟨hSw1, hSw2⟩ := hSw; go_simp; try with_reducible rfl)
                    simp only [Act.put, List.setIfInBounds_toArray, List.set_cons_zero, List.set_cons_succ]
                    refine wpAnyH_take (i := 12) (oi := ⟨some 117, _, _, _, _, _⟩) (v := ?_) rfl (by kernel_rfl) (by kernel_rfl) (by kernel_rfl) (fun _ _ _ h => h) (Or.inl ⟨by rfl, ?_⟩) hh23 ?_
                    rotate_left 1
                    · (intro w hSw; obtain ⟨hSw1, hSw2⟩ := hSw; go_simp; try with_reducible rfl)
                    simp only [Act.put, List.setIfInBounds_toArray, List.set_cons_zero, List.set_cons_succ]
                    refine wpAnyH_take (i := 13) (oi := ⟨some 118, _, _, _, _, _⟩) (v := ?_) rfl (by kernel_rfl) (by kernel_rfl) (by kernel_rfl) (fun _ _ _ h => h) (Or.inl ⟨by rfl, ?_⟩) hh23 ?_
                    rotate_left 1
                    · (intro w hSw; obtain ⟨hSw1, hSw2⟩ := hSw; go_simp; try with_reducible rfl)
                    simp only [Act.put, List.setIfInBounds_toArray, List.set_cons_zero, List.set_cons_succ]
                    refine wpAnyH_take (i := 14) (oi := ⟨some 119, _, _, _, _, _⟩) (v := ?_) rfl (by kernel_rfl) (by kernel_rfl) (by kernel_rfl) (fun _ _ _ h => h) (Or.inl ⟨by rfl, ?_⟩) hh23 ?_
                    rotate_left 1
                    · (intro w hSw; obtain ⟨hSw1, hSw2⟩ := hSw; go_simp; try with_reducible rfl)
                    simp only [Act.put, List.setIfInBounds_toArray, List.set_cons_zero, List.set_cons_succ]
                    refine wpAnyH_take (i := 16) (oi := ⟨some 121, _, _, _, _, _⟩) (v := ?_) rfl (by kernel_rfl) (by kernel_rfl) (by kernel_rfl) (fun _ _ _ h => h) (Or.inl ⟨by rfl, ?_⟩) hh23 ?_
                    rotate_left 1
                    · (intro w hSw; obtain ⟨hSw1, hSw2⟩ := hSw; go_simp; try with_reducible rfl)
                    simp only [Act.put, List.setIfInBounds_toArray, List.set_cons_zero, List.set_cons_succ]
                    refine wpAnyH_ready (rs := [15]) (by kernel_rfl) (by simp) ?_
                    refine AllReadyH.cons (o := ⟨some 120, _, _, _, _, _⟩) rfl (fun K hK => ?_) AllReadyH.nil
                    go_simp
                    refine (PS.busy (PR.ps HS23.out) HU2.out).mono ?_
                    rintro e w24 ⟨rfl, hw24⟩
                    rw [← hw24]
                    clear hw24
                    refine hK.out _ _ hh23 (fun hHeld => ?_)
                    clear hK K
                    clear hHeld
                    refine wpAnyH_take (i := 17) (oi := ⟨some 122, _, _, _, _, _⟩) (v := ?_) rfl (by kernel_rfl) (by kernel_rfl) (by kernel_rfl) (fun _ _ _ h => h) (Or.inl ⟨by rfl, ?_⟩) hh23 ?_
                    rotate_left 1
                    · (intro w hSw; obtain ⟨hSw1, hSw2⟩ := hSw; go_simp; try with_reducible rfl)
                    simp only [Act.put, List.setIfInBounds_toArray, List.set_cons_zero, List.set_cons_succ]
                    refine wpAnyH_take (i := 18) (oi := ⟨some 123, _, _, _, _, _⟩) (v := ?_) rfl (by kernel_rfl) (by kernel_rfl) (by kernel_rfl) (fun _ _ _ h => h) (Or.inl ⟨by rfl, ?_⟩) hh23 ?_
                    rotate_left 1
                    · (intro w hSw; obtain ⟨hSw1, hSw2⟩ := hSw; go_simp; try with_reducible rfl)
                    simp only [Act.put, List.setIfInBounds_toArray, List.set_cons_zero, List.set_cons_succ]
                    refine wpAnyH_done (by kernel_rfl) ?_ _
                    skip
                    have HM24 := hide (show MidR w q rq p rp i N [opT bo o, blksT vb M] (x + 1) w23 from ⟨S', L', A1, c1, Or.inl ⟨by have := H34.out; omega, HU2.out, (St.left (Ts := PR q p rq rp S' L' i N (x + 1) A1 c1 [opT bo o, blksT vb M]) (Us := [rowV A2 c2 M]) HS23.out)⟩⟩)
                    clear hh21 hh22 hh23 HS21 HS22 HS23
                    go_wp2
                    go_roundw
                    case rel => exact ⟨x + 1, by have := HX.out; omega, by go_num, HM24.out⟩
                    case measure => have := HX.out; simp [intOf]; omega
                · obtain rfl : x = 34 := by have := HX.out; omega
                  have HSTP := hide (PS.last (PR.ps HSX.out) HU1.out HT.out)
                  have HEG := hide HU1.out.end_good
                  clear hx34 hkp hxi
                  rcases hgo with h0 | h1
                  · rw [h0] at hcc
                    clear h0
                    go_wp2_with fail
                    refine HSTP.out.mono ?_
                    rintro e w21 ⟨rfl, hs21⟩
                    have HS21 := hide (show St w (PS q p (all S1 L1) [] N im0 0 [rdskT rq S1 L1, rowV A1 c1 i.B, rimV rp rq i.t i.m (.slice A1 32 c1), opT bo o, blksT vb M]) w21 from hs21)
                    have hh21 := hold2 HS21.out.drew (j := 6) (l := 5) rfl rfl
                    clear hs21 HSTP hcc
                    go_wp2_with fail
                    refine wp_region_held (S := (fun W => Lies W vb M ∧ W.cell? ⟨bo, 1, none⟩ = some (.int .i64 o.mark))) (by kernel_rfl) ?_
                    change wpAnyH _ _ _ _ _ _ _ _ (World.drew _)
                    refine wpAnyH_take (i := 0) (oi := ⟨some 105, _, _, _, _, _⟩) (v := ?_) rfl (by kernel_rfl) (by kernel_rfl) (by kernel_rfl) (fun _ _ _ h => h) (Or.inl ⟨by rfl, ?_⟩) hh21 ?_
                    rotate_left 1
                    · (intro w hSw; obtain ⟨hSw1, hSw2⟩ := hSw; go_simp; try with_reducible rfl)
                    simp only [Act.put, List.setIfInBounds_toArray, List.set_cons_zero, List.set_cons_succ]
                    refine wpAnyH_take (i := 1) (oi := ⟨some 106, _, _, _, _, _⟩) (v := ?_) rfl (by kernel_rfl) (by kernel_rfl) (by kernel_rfl) (fun _ _ _ h => h) (Or.inl ⟨by rfl, ?_⟩) hh21 ?_
                    rotate_left 1
                    · (intro w hSw; obtain ⟨hSw1, hSw2⟩ := hSw; go_simp; try with_reducible rfl)
                    simp only [Act.put, List.setIfInBounds_toArray, List.set_cons_zero, List.set_cons_succ]
                    refine wpAnyH_take (i := 2) (oi := ⟨some 107, _, _, _, _, _⟩) (v := ?_) rfl (by kernel_rfl) (by kernel_rfl) (by kernel_rfl) (fun _ _ _ h => h) (Or.inl ⟨by rfl, ?_⟩) hh21 ?_
                    rotate_left 1
                    · (intro w hSw; obtain ⟨hSw1, hSw2⟩ := hSw; go_simp; try with_reducible rfl)
                    simp only [Act.put, List.setIfInBounds_toArray, List.set_cons_zero, List.set_cons_succ]
                    refine wpAnyH_take (i := 3) (oi := ⟨some 108, _, _, _, _, _⟩) (v := bval M) rfl (by kernel_rfl) (by kernel_rfl) (by kernel_rfl) (fun _ _ _ h => h) (yields_blks (by rfl) (.tmp 11) rfl vb rfl M HML.out (fun w hw => hw.1)) hh21 ?_
                    simp only [Act.put, List.setIfInBounds_toArray, List.set_cons_zero, List.set_cons_succ]
                    refine wpAnyH_take (i := 5) (oi := ⟨some 110, _, _, _, _, _⟩) (v := ?_) rfl (by kernel_rfl) (by kernel_rfl) (by kernel_rfl) (fun _ _ _ h => h) (Or.inl ⟨by rfl, ?_⟩) hh21 ?_
                    rotate_left 1
                    · (intro w hSw; obtain ⟨hSw1, hSw2⟩ := hSw; go_simp; try with_reducible rfl)
                    simp only [Act.put, List.setIfInBounds_toArray, List.set_cons_zero, List.set_cons_succ]
                    refine wpAnyH_take (i := 6) (oi := ⟨some 111, _, _, _, _, _⟩) (v := ?_) rfl (by kernel_rfl) (by kernel_rfl) (by kernel_rfl) (fun _ _ _ h => h) (Or.inl ⟨by rfl, ?_⟩) hh21 ?_
                    rotate_left 1
                    · (intro w hSw; obtain ⟨hSw1, hSw2⟩ := hSw; go_simp; try with_reducible rfl)
                    simp only [Act.put, List.setIfInBounds_toArray, List.set_cons_zero, List.set_cons_succ]
                    refine wpAnyH_ready (rs := [4]) (by kernel_rfl) (by simp) ?_
                    refine AllReadyH.cons (o := ⟨some 109, _, _, _, _, _⟩) rfl (fun K hK => ?_) AllReadyH.nil
                    go_simp
                    refine (St.flat HS21.out.drew M HML.out).mono ?_
                    rintro e w22 ⟨A2, c2, rfl, hs22⟩
                    have HS22 := hide (show St w (PS q p (all S1 L1) [] N im0 0 [rdskT rq S1 L1, rowV A1 c1 i.B, rimV rp rq i.t i.m (.slice A1 32 c1), opT bo o, blksT vb M, rowV A2 c2 M]) w22 from hs22)
                    have hh22 := hold2 HS22.out (j := 6) (l := 5) rfl rfl
                    clear hs22
                    refine hK.out _ _ hh22 (fun hHeld => ?_)
                    clear hK K
                    clear hHeld
                    refine wpAnyH_ready (rs := [7]) (by kernel_rfl) (by simp) ?_
                    refine AllReadyH.cons (o := ⟨some 112, _, _, _, _, _⟩) rfl (fun K hK => ?_) AllReadyH.nil
                    go_simp
                    have hcall := RStep_last HS22.out (a := 2) (b := 4) (r := 7) rfl rfl rfl HTI.out HU1.out.len (by have := HU1.out.loose; omega) (by decide) (by decide) HML.out N.m
                    rw [← HMV.out] at hcall
                    refine hcall.mono ?_
                    rintro e w23 ⟨rfl, A3, c3, hs23⟩
                    rw [← HNT.out] at hs23
                    have HS23 := hide (show St w [dskT q (all S1 L1) [], imgT p q N im0 0, rdskT rq (all S1 L1) [], rowV A1 c1 i.B, rimV rp rq N.t N.m (.slice A3 32 c3), opT bo o, blksT vb M, rowV A2 c2 M, rowV A3 c3 M] w23 from hs23)
                    have hh23 := hold2 HS23.out (j := 6) (l := 5) rfl rfl
                    clear hs23
                    clear hcall
                    refine hK.out _ _ hh23 (fun hHeld => ?_)
                    clear hK K
                    clear hHeld
                    refine wpAnyH_take (i := 8) (oi := ⟨some 113, _, _, _, _, _⟩) (v := ?_) rfl (by kernel_rfl) (by kernel_rfl) (by kernel_rfl) (fun _ _ _ h => h) (Or.inl ⟨by rfl, ?_⟩) hh23 ?_
                    rotate_left 1
                    · (intro w hSw; obtain ⟨hSw1, hSw2⟩ := hSw; go_simp; try with_reducible rfl)
                    simp only [Act.put, List.setIfInBounds_toArray, List.set_cons_zero, List.set_cons_succ]
                    refine wpAnyH_take (i := 9) (oi := ⟨some 114, _, _, _, _, _⟩) (v := ?_) rfl (by kernel_rfl) (by kernel_rfl) (by kernel_rfl) (fun _ _ _ h => h) (Or.inl ⟨by rfl, ?_⟩) hh23 ?_
                    rotate_left 1
                    · (intro w hSw; obtain ⟨hSw1, hSw2⟩ := hSw; go_simp; try with_reducible rfl)
                    simp only [Act.put, List.setIfInBounds_toArray, List.set_cons_zero, List.set_cons_succ]
                    refine wpAnyH_take (i := 10) (oi := ⟨some 115, _, _, _, _, _⟩) (v := ?_) rfl (by kernel_rfl) (by kernel_rfl) (by kernel_rfl) (fun _ _ _ h => h) (Or.inl ⟨by rfl, ?_⟩) hh23 ?_
                    rotate_left 1
                    · (intro w hSw; obtain ⟨hSw1, hSw2⟩ := hSw; go_simp; try with_reducible rfl)
                    simp only [Act.put, List.setIfInBounds_toArray, List.set_cons_zero, List.set_cons_succ]
                    refine wpAnyH_take (i := 11) (oi := ⟨some 116, _, _, _, _, _⟩) (v := ?_) rfl (by kernel_rfl) (by kernel_rfl) (by kernel_rfl) (fun _ _ _ h => h) (Or.inl ⟨by rfl, ?_⟩) hh23 ?_
                    rotate_left 1
                    · (intro w hSw; obtain ⟨hSw1, hSw2⟩ := hSw; go_simp; try with_reducible rfl)
                    simp only [Act.put, List.setIfInBounds_toArray, List.set_cons_zero, List.set_cons_succ]
                    refine wpAnyH_take (i := 12) (oi := ⟨some 117, _, _, _, _, _⟩) (v := ?_) rfl (by kernel_rfl) (by kernel_rfl) (by kernel_rfl) (fun _ _ _ h => h) (Or.inl ⟨by rfl, ?_⟩) hh23 ?_
                    rotate_left 1
                    · (intro w hSw; obtain ⟨hSw1, hSw2⟩ := hSw; go_simp; try with_reducible rfl)
                    simp only [Act.put, List.setIfInBounds_toArray, List.set_cons_zero, List.set_cons_succ]
                    refine wpAnyH_take (i := 13) (oi := ⟨some 118, _, _, _, _, _⟩) (v := ?_) rfl (by kernel_rfl) (by kernel_rfl) (by kernel_rfl) (fun _ _ _ h => h) (Or.inl ⟨by rfl, ?_⟩) hh23 ?_
                    rotate_left 1
                    · (intro w hSw; obtain ⟨hSw1, hSw2⟩ := hSw; go_simp; try with_reducible rfl)
                    simp only [Act.put, List.setIfInBounds_toArray, List.set_cons_zero, List.set_cons_succ]
                    refine wpAnyH_take (i := 14) (oi := ⟨some 119, _, _, _, _, _⟩) (v := ?_) rfl (by kernel_rfl) (by kernel_rfl) (by kernel_rfl) (fun _ _ _ h => h) (Or.inl ⟨by rfl, ?_⟩) hh23 ?_
                    rotate_left 1
                    · (intro w hSw; obtain ⟨hSw1, hSw2⟩ := hSw; go_simp; try with_reducible rfl)
                    simp only [Act.put, List.setIfInBounds_toArray, List.set_cons_zero, List.set_cons_succ]
                    refine wpAnyH_take (i := 16) (oi := ⟨some 121, _, _, _, _, _⟩) (v := ?_) rfl (by kernel_rfl) (by kernel_rfl) (by kernel_rfl) (fun _ _ _ h => h) (Or.inl ⟨by rfl, ?_⟩) hh23 ?_
                    rotate_left 1
                    · (intro w hSw; obtain ⟨hSw1, hSw2⟩ := hSw; go_simp; try with_reducible rfl)
                    simp only [Act.put, List.setIfInBounds_toArray, List.set_cons_zero, List.set_cons_succ]
                    refine wpAnyH_ready (rs := [15]) (by kernel_rfl) (by simp) ?_
                    refine AllReadyH.cons (o := ⟨some 120, _, _, _, _, _⟩) rfl (fun K hK => ?_) AllReadyH.nil
                    go_simp
                    refine (PS.idle (q := q) (S := all S1 L1) (L := []) HS23.out HEG.out.sz).mono ?_
                    rintro e w24 ⟨rfl, hw24⟩
                    rw [← hw24]
                    clear hw24
                    refine hK.out _ _ hh23 (fun hHeld => ?_)
                    clear hK K
                    clear hHeld
                    refine wpAnyH_take (i := 17) (oi := ⟨some 122, _, _, _, _, _⟩) (v := ?_) rfl (by kernel_rfl) (by kernel_rfl) (by kernel_rfl) (fun _ _ _ h => h) (Or.inl ⟨by rfl, ?_⟩) hh23 ?_
                    rotate_left 1
                    · (intro w hSw; obtain ⟨hSw1, hSw2⟩ := hSw; go_simp; try with_reducible rfl)
                    simp only [Act.put, List.setIfInBounds_toArray, List.set_cons_zero, List.set_cons_succ]
                    refine wpAnyH_take (i := 18) (oi := ⟨some 123, _, _, _, _, _⟩) (v := ?_) rfl (by kernel_rfl) (by kernel_rfl) (by kernel_rfl) (fun _ _ _ h => h) (Or.inl ⟨by rfl, ?_⟩) hh23 ?_
                    rotate_left 1
                    · (intro w hSw; obtain ⟨hSw1, hSw2⟩ := hSw; go_simp; try with_reducible rfl)
                    simp only [Act.put, List.setIfInBounds_toArray, List.set_cons_zero, List.set_cons_succ]
                    refine wpAnyH_done (by kernel_rfl) ?_ _
                    skip
                    have HM24 := hide (show MidR w q rq p rp i N [opT bo o, blksT vb M] 35 w23 from ⟨all S1 L1, [], A3, c3, Or.inr ⟨rfl, HEG.out, rfl, St.take (js := [0, 1, 2, 8, 4, 5, 6]) HS23.out (by decide) (.cons rfl (.cons rfl (.cons rfl (.cons (by rw [HNB.out]; rfl) (.cons rfl (.cons rfl (.cons rfl .nil)))))))⟩⟩)
                    clear hh21 hh22 hh23 HS21 HS22 HS23
                    go_wp2
                    go_roundw
                    case rel => exact ⟨35, by omega, by go_num, HM24.out⟩
                    case measure => simp [intOf]
                  · have h1i : (34 : Int) + 1 < (o.cut : Int) := by omega
                    have h1i' : (35 : Int) < (o.cut : Int) := by omega
                    have hc0b : ((o.cut : Int) == 0) = false := by simp; omega
                    clear h1
                    go_wp2_with fail
                    refine HSTP.out.mono ?_
                    rintro e w21 ⟨rfl, hs21⟩
                    have HS21 := hide (show St w (PS q p (all S1 L1) [] N im0 0 [rdskT rq S1 L1, rowV A1 c1 i.B, rimV rp rq i.t i.m (.slice A1 32 c1), opT bo o, blksT vb M]) w21 from hs21)
                    have hh21 := hold2 HS21.out.drew (j := 6) (l := 5) rfl rfl
                    clear hs21 HSTP hcc
                    go_wp2_with fail
                    refine wp_region_held (S := (fun W => Lies W vb M ∧ W.cell? ⟨bo, 1, none⟩ = some (.int .i64 o.mark))) (by kernel_rfl) ?_
                    change wpAnyH _ _ _ _ _ _ _ _ (World.drew _)
                    refine wpAnyH_take (i := 0) (oi := ⟨some 105, _, _, _, _, _⟩) (v := ?_) rfl (by kernel_rfl) (by kernel_rfl) (by kernel_rfl) (fun _ _ _ h => h) (Or.inl ⟨by rfl, ?_⟩) hh21 ?_
                    rotate_left 1
                    · (intro w hSw; obtain ⟨hSw1, hSw2⟩ := hSw; go_simp; try with_reducible rfl)
                    simp only [Act.put, List.setIfInBounds_toArray, List.set_cons_zero, List.set_cons_succ]
                    refine wpAnyH_take (i := 1) (oi := ⟨some 106, _, _, _, _, _⟩) (v := ?_) rfl (by kernel_rfl) (by kernel_rfl) (by kernel_rfl) (fun _ _ _ h => h) (Or.inl ⟨by rfl, ?_⟩) hh21 ?_
                    rotate_left 1
                    · (intro w hSw; obtain ⟨hSw1, hSw2⟩ := hSw; go_simp; try with_reducible rfl)
                    simp only [Act.put, List.setIfInBounds_toArray, List.set_cons_zero, List.set_cons_succ]
                    refine wpAnyH_take (i := 2) (oi := ⟨some 107, _, _, _, _, _⟩) (v := ?_) rfl (by kernel_rfl) (by kernel_rfl) (by kernel_rfl) (fun _ _ _ h => h) (Or.inl ⟨by rfl, ?_⟩) hh21 ?_
                    rotate_left 1
                    · (intro w hSw; obtain ⟨hSw1, hSw2⟩ := hSw; go_simp; try with_reducible rfl)
                    simp only [Act.put, List.setIfInBounds_toArray, List.set_cons_zero, List.set_cons_succ]
                    refine wpAnyH_take (i := 3) (oi := ⟨some 108, _, _, _, _, _⟩) (v := bval M) rfl (by kernel_rfl) (by kernel_rfl) (by kernel_rfl) (fun _ _ _ h => h) (yields_blks (by rfl) (.tmp 11) rfl vb rfl M HML.out (fun w hw => hw.1)) hh21 ?_
                    simp only [Act.put, List.setIfInBounds_toArray, List.set_cons_zero, List.set_cons_succ]
                    refine wpAnyH_take (i := 5) (oi := ⟨some 110, _, _, _, _, _⟩) (v := ?_) rfl (by kernel_rfl) (by kernel_rfl) (by kernel_rfl) (fun _ _ _ h => h) (Or.inl ⟨by rfl, ?_⟩) hh21 ?_
                    rotate_left 1
                    · (intro w hSw; obtain ⟨hSw1, hSw2⟩ := hSw; go_simp; try with_reducible rfl)
                    simp only [Act.put, List.setIfInBounds_toArray, List.set_cons_zero, List.set_cons_succ]
                    refine wpAnyH_take (i := 6) (oi := ⟨some 111, _, _, _, _, _⟩) (v := ?_) rfl (by kernel_rfl) (by kernel_rfl) (by kernel_rfl) (fun _ _ _ h => h) (Or.inl ⟨by rfl, ?_⟩) hh21 ?_
                    rotate_left 1
                    · (intro w hSw; obtain ⟨hSw1, hSw2⟩ := hSw; go_simp; try with_reducible rfl)
                    simp only [Act.put, List.setIfInBounds_toArray, List.set_cons_zero, List.set_cons_succ]
                    refine wpAnyH_ready (rs := [4]) (by kernel_rfl) (by simp) ?_
                    refine AllReadyH.cons (o := ⟨some 109, _, _, _, _, _⟩) rfl (fun K hK => ?_) AllReadyH.nil
                    go_simp
                    refine (St.flat HS21.out.drew M HML.out).mono ?_
                    rintro e w22 ⟨A2, c2, rfl, hs22⟩
                    have HS22 := hide (show St w (PS q p (all S1 L1) [] N im0 0 [rdskT rq S1 L1, rowV A1 c1 i.B, rimV rp rq i.t i.m (.slice A1 32 c1), opT bo o, blksT vb M, rowV A2 c2 M]) w22 from hs22)
                    have hh22 := hold2 HS22.out (j := 6) (l := 5) rfl rfl
                    clear hs22
                    refine hK.out _ _ hh22 (fun hHeld => ?_)
                    clear hK K
                    clear hHeld
                    refine wpAnyH_ready (rs := [7]) (by kernel_rfl) (by simp) ?_
                    refine AllReadyH.cons (o := ⟨some 112, _, _, _, _, _⟩) rfl (fun K hK => ?_) AllReadyH.nil
                    go_simp
                    have hcall := RStep_last HS22.out (a := 2) (b := 4) (r := 7) rfl rfl rfl HTI.out HU1.out.len (by have := HU1.out.loose; omega) (by decide) (by decide) HML.out N.m
                    rw [← HMV.out] at hcall
                    refine hcall.mono ?_
                    rintro e w23 ⟨rfl, A3, c3, hs23⟩
                    rw [← HNT.out] at hs23
                    have HS23 := hide (show St w [dskT q (all S1 L1) [], imgT p q N im0 0, rdskT rq (all S1 L1) [], rowV A1 c1 i.B, rimV rp rq N.t N.m (.slice A3 32 c3), opT bo o, blksT vb M, rowV A2 c2 M, rowV A3 c3 M] w23 from hs23)
                    have hh23 := hold2 HS23.out (j := 6) (l := 5) rfl rfl
                    clear hs23
                    clear hcall
                    refine hK.out _ _ hh23 (fun hHeld => ?_)
                    clear hK K
                    clear hHeld
                    refine wpAnyH_take (i := 8) (oi := ⟨some 113, _, _, _, _, _⟩) (v := ?_) rfl (by kernel_rfl) (by kernel_rfl) (by kernel_rfl) (fun _ _ _ h => h) (Or.inl ⟨by rfl, ?_⟩) hh23 ?_
                    rotate_left 1
                    · (intro w hSw; obtain ⟨hSw1, hSw2⟩ := hSw; go_simp; try with_reducible rfl)
                    simp only [Act.put, List.setIfInBounds_toArray, List.set_cons_zero, List.set_cons_succ]
                    refine wpAnyH_take (i := 9) (oi := ⟨some 114, _, _, _, _, _⟩) (v := ?_) rfl (by kernel_rfl) (by kernel_rfl) (by kernel_rfl) (fun _ _ _ h => h) (Or.inl ⟨by rfl, ?_⟩) hh23 ?_
                    rotate_left 1
                    · (intro w hSw; obtain ⟨hSw1, hSw2⟩ := hSw; go_simp; try with_reducible rfl)
                    simp only [Act.put, List.setIfInBounds_toArray, List.set_cons_zero, List.set_cons_succ]
                    refine wpAnyH_take (i := 10) (oi := ⟨some 115, _, _, _, _, _⟩) (v := ?_) rfl (by kernel_rfl) (by kernel_rfl) (by kernel_rfl) (fun _ _ _ h => h) (Or.inl ⟨by rfl, ?_⟩) hh23 ?_
                    rotate_left 1
                    · (intro w hSw; obtain ⟨hSw1, hSw2⟩ := hSw; go_simp; try with_reducible rfl)
                    simp only [Act.put, List.setIfInBounds_toArray, List.set_cons_zero, List.set_cons_succ]
                    refine wpAnyH_take (i := 11) (oi := ⟨some 116, _, _, _, _, _⟩) (v := ?_) rfl (by kernel_rfl) (by kernel_rfl) (by kernel_rfl) (fun _ _ _ h => h) (Or.inl ⟨by rfl, ?_⟩) hh23 ?_
                    rotate_left 1
                    · (intro w hSw; obtain ⟨hSw1, hSw2⟩ := hSw; go_simp; try with_reducible rfl)
                    simp only [Act.put, List.setIfInBounds_toArray, List.set_cons_zero, List.set_cons_succ]
                    refine wpAnyH_take (i := 12) (oi := ⟨some 117, _, _, _, _, _⟩) (v := ?_) rfl (by kernel_rfl) (by kernel_rfl) (by kernel_rfl) (fun _ _ _ h => h) (Or.inl ⟨by rfl, ?_⟩) hh23 ?_
                    rotate_left 1
                    · (intro w hSw; obtain ⟨hSw1, hSw2⟩ := hSw; go_simp; try with_reducible rfl)
                    simp only [Act.put, List.setIfInBounds_toArray, List.set_cons_zero, List.set_cons_succ]
                    refine wpAnyH_take (i := 13) (oi := ⟨some 118, _, _, _, _, _⟩) (v := ?_) rfl (by kernel_rfl) (by kernel_rfl) (by kernel_rfl) (fun _ _ _ h => h) (Or.inl ⟨by rfl, ?_⟩) hh23 ?_
                    rotate_left 1
                    · (intro w hSw; obtain ⟨hSw1, hSw2⟩ := hSw; go_simp; try with_reducible rfl)
                    simp only [Act.put, List.setIfInBounds_toArray, List.set_cons_zero, List.set_cons_succ]
                    refine wpAnyH_take (i := 14) (oi := ⟨some 119, _, _, _, _, _⟩) (v := ?_) rfl (by kernel_rfl) (by kernel_rfl) (by kernel_rfl) (fun _ _ _ h => h) (Or.inl ⟨by rfl, ?_⟩) hh23 ?_
                    rotate_left 1
                    · (intro w hSw; obtain ⟨hSw1, hSw2⟩ := hSw; go_simp; try with_reducible rfl)
                    simp only [Act.put, List.setIfInBounds_toArray, List.set_cons_zero, List.set_cons_succ]
                    refine wpAnyH_take (i := 16) (oi := ⟨some 121, _, _, _, _, _⟩) (v := ?_) rfl (by kernel_rfl) (by kernel_rfl) (by kernel_rfl) (fun _ _ _ h => h) (Or.inl ⟨by rfl, ?_⟩) hh23 ?_
                    rotate_left 1
                    · (intro w hSw; obtain ⟨hSw1, hSw2⟩ := hSw; go_simp; try with_reducible rfl)
                    simp only [Act.put, List.setIfInBounds_toArray, List.set_cons_zero, List.set_cons_succ]
                    refine wpAnyH_ready (rs := [15]) (by kernel_rfl) (by simp) ?_
                    refine AllReadyH.cons (o := ⟨some 120, _, _, _, _, _⟩) rfl (fun K hK => ?_) AllReadyH.nil
                    go_simp
                    refine (PS.idle (q := q) (S := all S1 L1) (L := []) HS23.out HEG.out.sz).mono ?_
                    rintro e w24 ⟨rfl, hw24⟩
                    rw [← hw24]
                    clear hw24
                    refine hK.out _ _ hh23 (fun hHeld => ?_)
                    clear hK K
                    clear hHeld
                    refine wpAnyH_take (i := 17) (oi := ⟨some 122, _, _, _, _, _⟩) (v := ?_) rfl (by kernel_rfl) (by kernel_rfl) (by kernel_rfl) (fun _ _ _ h => h) (Or.inl ⟨by rfl, ?_⟩) hh23 ?_
                    rotate_left 1
                    · (intro w hSw; obtain ⟨hSw1, hSw2⟩ := hSw; go_simp; try with_reducible rfl)
                    simp only [Act.put, List.setIfInBounds_toArray, List.set_cons_zero, List.set_cons_succ]
                    refine wpAnyH_take (i := 18) (oi := ⟨some 123, _, _, _, _, _⟩) (v := ?_) rfl (by kernel_rfl) (by kernel_rfl) (by kernel_rfl) (fun _ _ _ h => h) (Or.inl ⟨by rfl, ?_⟩) hh23 ?_
                    rotate_left 1
                    · (intro w hSw; obtain ⟨hSw1, hSw2⟩ := hSw; go_simp; try with_reducible rfl)
                    simp only [Act.put, List.setIfInBounds_toArray, List.set_cons_zero, List.set_cons_succ]
                    refine wpAnyH_done (by kernel_rfl) ?_ _
                    skip
                    have HM24 := hide (show MidR w q rq p rp i N [opT bo o, blksT vb M] 35 w23 from ⟨all S1 L1, [], A3, c3, Or.inr ⟨rfl, HEG.out, rfl, St.take (js := [0, 1, 2, 8, 4, 5, 6]) HS23.out (by decide) (.cons rfl (.cons rfl (.cons rfl (.cons (by rw [HNB.out]; rfl) (.cons rfl (.cons rfl (.cons rfl .nil)))))))⟩⟩)
                    clear hh21 hh22 hh23 HS21 HS22 HS23
                    go_wp2
                    go_roundw
                    case rel => exact ⟨35, by omega, by go_num, HM24.out⟩
                    case measure => simp [intOf]
              · have h1i : ¬ (x : Int) + 1 < (o.cut : Int) := by omega
                have hc0b : ((o.cut : Int) == 0) = false := by simp; omega
                have hc0n : ((o.cut : Int) != 0) = true := by simp; omega
                have HLL := hide HU1.out.loose
                have HCG := hide (show ∃ I, Gd (Dk.crash o.keep 0 L1 S1) I ∧ I.t ≤ k + 1 by
                  rcases HU1.out.crash_good o.keep with h1 | h1
                  · exact ⟨i, h1, by have := HTK.out; omega⟩
                  · exact ⟨N, h1, by rw [HNT.out]; have := HTK.out; omega⟩)
                clear hgo
                have HCR := hide (PS.crash (PR.ps HSX.out) HFIT.out.keep (by have := HLL.out; omega))
                go_wp2_with fail
                refine HCR.out.mono ?_
                rintro e w25 ⟨rfl, hs25⟩
                have HS25 := hide hs25
                have hkp2 := (St.op HS25.out (j := 5) rfl).keep
                have HCR2 := hide (St.rcrash HS25.out (a := 2) rfl HFIT.out.keep (by have := HLL.out; omega))
                clear hs25 HCR hcc hkp
                go_wp2_with fail
                refine HCR2.out.mono ?_
                rintro e w26 ⟨rfl, hs26⟩
                obtain ⟨I, hgI, hIt⟩ := HCG.out
                obtain ⟨ST, hST⟩ : ∃ ST, Dk.crash o.keep 0 L1 S1 = ST := ⟨_, rfl⟩
                rw [hST] at hgI
                have HS25x := HS25
                have HS26 := hide (show St w (PR q p rq rp ST [] i N x A1 c1 [opT bo o, blksT vb M]) w26 by rw [← hST]; exact hs26)
                have HGD := hide hgI
                have HIT := hide hIt
                clear hs26 HCR2 HS25 HS25x hgI hIt hST hkp2 HCG
                have HAG := hide (PS.again (PR.ps HS26.out) HT.out HGD.out)
                clear HS26
                go_wp2_with fail
                refine HAG.out.mono ?_
                rintro e w27 ⟨p1, rfl, hs27⟩
                have HS27 := hide hs27
                have HRO := hide (PR.ropen HS27.out (a := 2) rfl HGD.out)
                clear hs27 HAG
                go_wp2_with fail
                refine HRO.out.mono ?_
                rintro e w28 ⟨rp1, g1, cc1, rfl, hs28⟩
                have HST := hide (show St w (PR q p1 rq rp1 ST [] I im0 0 (some ⟨g1, 0, none⟩) cc1 []) w28 from St.take (js := [0, 1, 2, 7, 8]) hs28 (by decide) (.cons rfl (.cons rfl (.cons rfl (.cons rfl (.cons rfl .nil))))))
                clear hs28 HRO HS27
                have hr30 := St.rim23 HST.out.drew (b := 4) rfl
                go_wp2_with fail
                refine wp_region_held (S := (fun W => W.cell? ⟨rp1, 2, none⟩ = some (.int .i64 (I.m : Int)) ∧ W.cell? ⟨rp1, 3, none⟩ = some (.slice (some ⟨g1, 0, none⟩) 32 cc1))) (by kernel_rfl) ?_
                change wpAnyH _ _ _ _ _ _ _ _ (World.drew _)
                refine wpAnyH_take (i := 0) (oi := ⟨some 151, _, _, _, _, _⟩) (v := ?_) rfl (by kernel_rfl) (by kernel_rfl) (by kernel_rfl) (fun _ _ _ h => h) (Or.inl ⟨by rfl, ?_⟩) hr30 ?_
                rotate_left 1
                · (intro w hSw; obtain ⟨hSw1, hSw2⟩ := hSw; go_simp; try with_reducible rfl)
                simp only [Act.put, List.setIfInBounds_toArray, List.set_cons_zero, List.set_cons_succ]
                refine wpAnyH_take (i := 2) (oi := ⟨some 153, _, _, _, _, _⟩) (v := ?_) rfl (by kernel_rfl) (by kernel_rfl) (by kernel_rfl) (fun _ _ _ h => h) (Or.inl ⟨by rfl, ?_⟩) hr30 ?_
                rotate_left 1
                · (intro w hSw; obtain ⟨hSw1, hSw2⟩ := hSw; go_simp; try with_reducible rfl)
                simp only [Act.put, List.setIfInBounds_toArray, List.set_cons_zero, List.set_cons_succ]
                refine wpAnyH_take (i := 3) (oi := ⟨some 154, _, _, _, _, _⟩) (v := ?_) rfl (by kernel_rfl) (by kernel_rfl) (by kernel_rfl) (fun _ _ _ h => h) (Or.inl ⟨by rfl, ?_⟩) hr30 ?_
                rotate_left 1
                · (intro w hSw; obtain ⟨hSw1, hSw2⟩ := hSw; go_simp; try with_reducible rfl)
                simp only [Act.put, List.setIfInBounds_toArray, List.set_cons_zero, List.set_cons_succ]
                refine wpAnyH_take (i := 4) (oi := ⟨some 155, _, _, _, _, _⟩) (v := ?_) rfl (by kernel_rfl) (by kernel_rfl) (by kernel_rfl) (fun _ _ _ h => h) (Or.inl ⟨by rfl, ?_⟩) hr30 ?_
                rotate_left 1
                · (intro w hSw; obtain ⟨hSw1, hSw2⟩ := hSw; go_simp; try with_reducible rfl)
                simp only [Act.put, List.setIfInBounds_toArray, List.set_cons_zero, List.set_cons_succ]
                refine wpAnyH_take (i := 5) (oi := ⟨some 156, _, _, _, _, _⟩) (v := ?_) rfl (by kernel_rfl) (by kernel_rfl) (by kernel_rfl) (fun _ _ _ h => h) (Or.inl ⟨by rfl, ?_⟩) hr30 ?_
                rotate_left 1
                · (intro w hSw; obtain ⟨hSw1, hSw2⟩ := hSw; go_simp; try with_reducible rfl)
                simp only [Act.put, List.setIfInBounds_toArray, List.set_cons_zero, List.set_cons_succ]
                refine wpAnyH_ready (rs := [1]) (by kernel_rfl) (by simp) ?_
                refine AllReadyH.cons (o := ⟨some 152, _, _, _, _, _⟩) rfl (fun K hK => ?_) AllReadyH.nil
                go_simp
                refine (PS.mark (PR.ps HST.out.drew)).mono ?_
                rintro e w31 ⟨rfl, hw31⟩
                rw [← hw31]
                clear hw31
                refine hK.out _ _ hr30 (fun hHeld => ?_)
                clear hK K
                clear hHeld
                refine wpAnyH_take (i := 6) (oi := ⟨some 157, _, _, _, _, _⟩) (v := ?_) rfl (by kernel_rfl) (by kernel_rfl) (by kernel_rfl) (fun _ _ _ h => h) (Or.inl ⟨by rfl, ?_⟩) hr30 ?_
                rotate_left 1
                · (intro w hSw; obtain ⟨hSw1, hSw2⟩ := hSw; go_simp; try with_reducible rfl)
                simp only [Act.put, List.setIfInBounds_toArray, List.set_cons_zero, List.set_cons_succ]
                refine wpAnyH_take (i := 7) (oi := ⟨some 158, _, _, _, _, _⟩) (v := ?_) rfl (by kernel_rfl) (by kernel_rfl) (by kernel_rfl) (fun _ _ _ h => h) (Or.inl ⟨by rfl, ?_⟩) hr30 ?_
                rotate_left 1
                · (intro w hSw; obtain ⟨hSw1, hSw2⟩ := hSw; go_simp; try with_reducible rfl)
                simp only [Act.put, List.setIfInBounds_toArray, List.set_cons_zero, List.set_cons_succ]
                refine wpAnyH_take (i := 8) (oi := ⟨some 159, _, _, _, _, _⟩) (v := ?_) rfl (by kernel_rfl) (by kernel_rfl) (by kernel_rfl) (fun _ _ _ h => h) (Or.inl ⟨by rfl, ?_⟩) hr30 ?_
                rotate_left 1
                · (intro w hSw; obtain ⟨hSw1, hSw2⟩ := hSw; go_simp; try with_reducible rfl)
                simp only [Act.put, List.setIfInBounds_toArray, List.set_cons_zero, List.set_cons_succ]
                refine wpAnyH_take (i := 11) (oi := ⟨some 162, _, _, _, _, _⟩) (v := ?_) rfl (by kernel_rfl) (by kernel_rfl) (by kernel_rfl) (fun _ _ _ h => h) (Or.inl ⟨by rfl, ?_⟩) hr30 ?_
                rotate_left 1
                · (intro w hSw; obtain ⟨hSw1, hSw2⟩ := hSw; go_simp; try with_reducible rfl)
                simp only [Act.put, List.setIfInBounds_toArray, List.set_cons_zero, List.set_cons_succ]
                refine wpAnyH_take (i := 12) (oi := ⟨some 163, _, _, _, _, _⟩) (v := ?_) rfl (by kernel_rfl) (by kernel_rfl) (by kernel_rfl) (fun _ _ _ h => h) (Or.inl ⟨by rfl, ?_⟩) hr30 ?_
                rotate_left 1
                · (intro w hSw; obtain ⟨hSw1, hSw2⟩ := hSw; go_simp; try with_reducible rfl)
                simp only [Act.put, List.setIfInBounds_toArray, List.set_cons_zero, List.set_cons_succ]
                refine wpAnyH_take (i := 13) (oi := ⟨some 164, _, _, _, _, _⟩) (v := ?_) rfl (by kernel_rfl) (by kernel_rfl) (by kernel_rfl) (fun _ _ _ h => h) (Or.inl ⟨by rfl, ?_⟩) hr30 ?_
                rotate_left 1
                · (intro w hSw; obtain ⟨hSw1, hSw2⟩ := hSw; go_simp; try with_reducible rfl)
                simp only [Act.put, List.setIfInBounds_toArray, List.set_cons_zero, List.set_cons_succ]
                refine wpAnyH_take (i := 14) (oi := ⟨some 165, _, _, _, _, _⟩) (v := ?_) rfl (by kernel_rfl) (by kernel_rfl) (by kernel_rfl) (fun _ _ _ h => h) (Or.inl ⟨by rfl, ?_⟩) hr30 ?_
                rotate_left 1
                · (intro w hSw; obtain ⟨hSw1, hSw2⟩ := hSw; go_simp; try with_reducible rfl)
                simp only [Act.put, List.setIfInBounds_toArray, List.set_cons_zero, List.set_cons_succ]
                refine wpAnyH_ready (rs := [9]) (by kernel_rfl) (by simp) ?_
                refine AllReadyH.cons (o := ⟨some 160, _, _, _, _, _⟩) rfl (fun K hK => ?_) AllReadyH.nil
                go_simp
                refine (PS.blocks (PR.ps HST.out.drew) HGD.out.sz).mono ?_
                rintro e w32 ⟨rfl, hb32⟩
                have HS32 := hide (HST.out.drew.below hb32)
                have hr32 := St.rim23 HS32.out (b := 4) rfl
                clear hb32
                refine hK.out _ _ hr32 (fun hHeld => ?_)
                clear hK K
                clear hHeld
                refine wpAnyH_ready (rs := [10]) (by kernel_rfl) (by simp) ?_
                refine AllReadyH.cons (o := ⟨some 161, _, _, _, _, _⟩) rfl (fun K hK => ?_) AllReadyH.nil
                go_simp
                refine (St.flat HS32.out I.B HGD.out.sz.i).mono ?_
                rintro e w33 ⟨A4, c4, rfl, hs33⟩
                have HS33 := hide (show St w (PR q p1 rq rp1 ST [] I im0 0 (some ⟨g1, 0, none⟩) cc1 [rowV A4 c4 I.B]) w33 from hs33)
                have hr33 := St.rim23 HS33.out (b := 4) rfl
                clear hs33
                refine hK.out _ _ hr33 (fun hHeld => ?_)
                clear hK K
                clear hHeld
                refine wpAnyH_ready (rs := [15]) (by kernel_rfl) (by simp) ?_
                refine AllReadyH.cons (o := ⟨some 166, _, _, _, _, _⟩) rfl (fun K hK => ?_) AllReadyH.nil
                go_simp
                refine (St.same HS33.out (i := 5) (j := 3) rfl rfl HGD.out.sz.i).mono ?_
                rintro e w34 ⟨rfl, hs34⟩
                have HS34 := hide hs34
                have hr34 := St.rim23 HS34.out (b := 4) rfl
                clear hs34
                refine hK.out _ _ hr34 (fun hHeld => ?_)
                clear hK K
                clear hHeld
                refine wpAnyH_take (i := 16) (oi := ⟨some 167, _, _, _, _, _⟩) (v := ?_) rfl (by kernel_rfl) (by kernel_rfl) (by kernel_rfl) (fun _ _ _ h => h) (Or.inl ⟨by rfl, ?_⟩) hr34 ?_
                rotate_left 1
                · (intro w hSw; obtain ⟨hSw1, hSw2⟩ := hSw; go_simp; try with_reducible rfl)
                simp only [Act.put, List.setIfInBounds_toArray, List.set_cons_zero, List.set_cons_succ]
                refine wpAnyH_take (i := 17) (oi := ⟨some 168, _, _, _, _, _⟩) (v := ?_) rfl (by kernel_rfl) (by kernel_rfl) (by kernel_rfl) (fun _ _ _ h => h) (Or.inl ⟨by rfl, ?_⟩) hr34 ?_
                rotate_left 1
                · (intro w hSw; obtain ⟨hSw1, hSw2⟩ := hSw; go_simp; try with_reducible rfl)
                simp only [Act.put, List.setIfInBounds_toArray, List.set_cons_zero, List.set_cons_succ]
                refine wpAnyH_take (i := 18) (oi := ⟨some 169, _, _, _, _, _⟩) (v := ?_) rfl (by kernel_rfl) (by kernel_rfl) (by kernel_rfl) (fun _ _ _ h => h) (Or.inl ⟨by rfl, ?_⟩) hr34 ?_
                rotate_left 1
                · (intro w hSw; obtain ⟨hSw1, hSw2⟩ := hSw; go_simp; try with_reducible rfl)
                simp only [Act.put, List.setIfInBounds_toArray, List.set_cons_zero, List.set_cons_succ]
                refine wpAnyH_take (i := 19) (oi := ⟨some 170, _, _, _, _, _⟩) (v := ?_) rfl (by kernel_rfl) (by kernel_rfl) (by kernel_rfl) (fun _ _ _ h => h) (Or.inl ⟨by rfl, ?_⟩) hr34 ?_
                rotate_left 1
                · (intro w hSw; obtain ⟨hSw1, hSw2⟩ := hSw; go_simp; try with_reducible rfl)
                simp only [Act.put, List.setIfInBounds_toArray, List.set_cons_zero, List.set_cons_succ]
                refine wpAnyH_take (i := 20) (oi := ⟨some 171, _, _, _, _, _⟩) (v := ?_) rfl (by kernel_rfl) (by kernel_rfl) (by kernel_rfl) (fun _ _ _ h => h) (Or.inl ⟨by rfl, ?_⟩) hr34 ?_
                rotate_left 1
                · (intro w hSw; obtain ⟨hSw1, hSw2⟩ := hSw; go_simp; try with_reducible rfl)
                simp only [Act.put, List.setIfInBounds_toArray, List.set_cons_zero, List.set_cons_succ]
                refine wpAnyH_ready (rs := [21]) (by kernel_rfl) (by simp) ?_
                refine AllReadyH.cons (o := ⟨some 172, _, _, _, _, _⟩) rfl (fun K hK => ?_) AllReadyH.nil
                go_simp
                refine (alike_any HS34.out (a := 0) (b := 2) rfl rfl (by rw [HGD.out.len]; omega) (by simp) HGD.out.full).mono ?_
                rintro e w35 ⟨rfl, hs35⟩
                have HS35 := hide hs35
                have hr35 := St.rim23 HS35.out (b := 4) rfl
                clear hs35
                refine hK.out _ _ hr35 (fun hHeld => ?_)
                clear hK K
                clear hHeld
                refine wpAnyH_take (i := 22) (oi := ⟨some 173, _, _, _, _, _⟩) (v := ?_) rfl (by kernel_rfl) (by kernel_rfl) (by kernel_rfl) (fun _ _ _ h => h) (Or.inl ⟨by rfl, ?_⟩) hr35 ?_
                rotate_left 1
                · (intro w hSw; obtain ⟨hSw1, hSw2⟩ := hSw; go_simp; try with_reducible rfl)
                simp only [Act.put, List.setIfInBounds_toArray, List.set_cons_zero, List.set_cons_succ]
                refine wpAnyH_take (i := 23) (oi := ⟨some 174, _, _, _, _, _⟩) (v := ?_) rfl (by kernel_rfl) (by kernel_rfl) (by kernel_rfl) (fun _ _ _ h => h) (Or.inl ⟨by rfl, ?_⟩) hr35 ?_
                rotate_left 1
                · (intro w hSw; obtain ⟨hSw1, hSw2⟩ := hSw; go_simp; try with_reducible rfl)
                simp only [Act.put, List.setIfInBounds_toArray, List.set_cons_zero, List.set_cons_succ]
                refine wpAnyH_done (by kernel_rfl) ?_ _
                skip
                have HR := hide (show Rnd w q rq p1 rp1 I (k + 1) w35 from ⟨ST, (some ⟨g1, 0, none⟩), cc1, HGD.out, HIT.out, St.left (Ts := PR q p1 rq rp1 ST [] I im0 0 (some ⟨g1, 0, none⟩) cc1 []) (Us := [rowV A4 c4 I.B]) HS35.out⟩)
                clear hr30 hr32 hr33 hr34 hr35 HST HS32 HS33 HS34 HS35
                go_wp2
                go_roundw
                case rel => exact ⟨k + 1, p1, rp1, I, HK.out, by go_num, rfl, rfl, HR.out⟩
                case measure => have := HK.out; simp [intOf]; omega
            · have HGD := hide hg1
              have HIT := hide (show N.t ≤ k + 1 by rw [HNT.out]; have := HTK.out; omega)
              have hcc := (St.op hs (j := 5) rfl).cut
              have hkp := (St.op hs (j := 5) rfl).keep
              have HSX := hide hs
              clear hmid hx hg1 hs
              by_cases h0 : o.cut = 0
              · have hc0b : ((o.cut : Int) == 0) = true := by simp; omega
                have hc0n : ((o.cut : Int) != 0) = false := by simp; omega
                have HST := hide (St.left (Ts := PR q p rq rp S1 [] N im0 0 A1 c1 []) (Us := [opT bo o, blksT vb M]) HSX.out)
                rw [h0] at hcc
                clear h0 HSX hkp
                have hr30 := St.rim23 HST.out.drew (b := 4) rfl
                go_wp2_with fail
                refine wp_region_held (S := (fun W => W.cell? ⟨rp, 2, none⟩ = some (.int .i64 (N.m : Int)) ∧ W.cell? ⟨rp, 3, none⟩ = some (.slice A1 32 c1))) (by kernel_rfl) ?_
                change wpAnyH _ _ _ _ _ _ _ _ (World.drew _)
                refine wpAnyH_take (i := 0) (oi := ⟨some 151, _, _, _, _, _⟩) (v := ?_) rfl (by kernel_rfl) (by kernel_rfl) (by kernel_rfl) (fun _ _ _ h => h) (Or.inl ⟨by rfl, ?_⟩) hr30 ?_
                rotate_left 1
                · (intro w hSw; obtain ⟨hSw1, hSw2⟩ := hSw; go_simp; try with_reducible rfl)
                simp only [Act.put, List.setIfInBounds_toArray, List.set_cons_zero, List.set_cons_succ]
                refine wpAnyH_take (i := 2) (oi := ⟨some 153, _, _, _, _, _⟩) (v := ?_) rfl (by kernel_rfl) (by kernel_rfl) (by kernel_rfl) (fun _ _ _ h => h) (Or.inl ⟨by rfl, ?_⟩) hr30 ?_
                rotate_left 1
                · (intro w hSw; obtain ⟨hSw1, hSw2⟩ := hSw; go_simp; try with_reducible rfl)
                simp only [Act.put, List.setIfInBounds_toArray, List.set_cons_zero, List.set_cons_succ]
                refine wpAnyH_take (i := 3) (oi := ⟨some 154, _, _, _, _, _⟩) (v := ?_) rfl (by kernel_rfl) (by kernel_rfl) (by kernel_rfl) (fun _ _ _ h => h) (Or.inl ⟨by rfl, ?_⟩) hr30 ?_
                rotate_left 1
                · (intro w hSw; obtain ⟨hSw1, hSw2⟩ := hSw; go_simp; try with_reducible rfl)
                simp only [Act.put, List.setIfInBounds_toArray, List.set_cons_zero, List.set_cons_succ]
                refine wpAnyH_take (i := 4) (oi := ⟨some 155, _, _, _, _, _⟩) (v := ?_) rfl (by kernel_rfl) (by kernel_rfl) (by kernel_rfl) (fun _ _ _ h => h) (Or.inl ⟨by rfl, ?_⟩) hr30 ?_
                rotate_left 1
                · (intro w hSw; obtain ⟨hSw1, hSw2⟩ := hSw; go_simp; try with_reducible rfl)
                simp only [Act.put, List.setIfInBounds_toArray, List.set_cons_zero, List.set_cons_succ]
                refine wpAnyH_take (i := 5) (oi := ⟨some 156, _, _, _, _, _⟩) (v := ?_) rfl (by kernel_rfl) (by kernel_rfl) (by kernel_rfl) (fun _ _ _ h => h) (Or.inl ⟨by rfl, ?_⟩) hr30 ?_
                rotate_left 1
                · (intro w hSw; obtain ⟨hSw1, hSw2⟩ := hSw; go_simp; try with_reducible rfl)
                simp only [Act.put, List.setIfInBounds_toArray, List.set_cons_zero, List.set_cons_succ]
                refine wpAnyH_ready (rs := [1]) (by kernel_rfl) (by simp) ?_
                refine AllReadyH.cons (o := ⟨some 152, _, _, _, _, _⟩) rfl (fun K hK => ?_) AllReadyH.nil
                go_simp
                refine (PS.mark (PR.ps HST.out.drew)).mono ?_
                rintro e w31 ⟨rfl, hw31⟩
                rw [← hw31]
                clear hw31
                refine hK.out _ _ hr30 (fun hHeld => ?_)
                clear hK K
                clear hHeld
                refine wpAnyH_take (i := 6) (oi := ⟨some 157, _, _, _, _, _⟩) (v := ?_) rfl (by kernel_rfl) (by kernel_rfl) (by kernel_rfl) (fun _ _ _ h => h) (Or.inl ⟨by rfl, ?_⟩) hr30 ?_
                rotate_left 1
                · (intro w hSw; obtain ⟨hSw1, hSw2⟩ := hSw; go_simp; try with_reducible rfl)
                simp only [Act.put, List.setIfInBounds_toArray, List.set_cons_zero, List.set_cons_succ]
                refine wpAnyH_take (i := 7) (oi := ⟨some 158, _, _, _, _, _⟩) (v := ?_) rfl (by kernel_rfl) (by kernel_rfl) (by kernel_rfl) (fun _ _ _ h => h) (Or.inl ⟨by rfl, ?_⟩) hr30 ?_
                rotate_left 1
                · (intro w hSw; obtain ⟨hSw1, hSw2⟩ := hSw; go_simp; try with_reducible rfl)
                simp only [Act.put, List.setIfInBounds_toArray, List.set_cons_zero, List.set_cons_succ]
                refine wpAnyH_take (i := 8) (oi := ⟨some 159, _, _, _, _, _⟩) (v := ?_) rfl (by kernel_rfl) (by kernel_rfl) (by kernel_rfl) (fun _ _ _ h => h) (Or.inl ⟨by rfl, ?_⟩) hr30 ?_
                rotate_left 1
                · (intro w hSw; obtain ⟨hSw1, hSw2⟩ := hSw; go_simp; try with_reducible rfl)
                simp only [Act.put, List.setIfInBounds_toArray, List.set_cons_zero, List.set_cons_succ]
                refine wpAnyH_take (i := 11) (oi := ⟨some 162, _, _, _, _, _⟩) (v := ?_) rfl (by kernel_rfl) (by kernel_rfl) (by kernel_rfl) (fun _ _ _ h => h) (Or.inl ⟨by rfl, ?_⟩) hr30 ?_
                rotate_left 1
                · (intro w hSw; obtain ⟨hSw1, hSw2⟩ := hSw; go_simp; try with_reducible rfl)
                simp only [Act.put, List.setIfInBounds_toArray, List.set_cons_zero, List.set_cons_succ]
                refine wpAnyH_take (i := 12) (oi := ⟨some 163, _, _, _, _, _⟩) (v := ?_) rfl (by kernel_rfl) (by kernel_rfl) (by kernel_rfl) (fun _ _ _ h => h) (Or.inl ⟨by rfl, ?_⟩) hr30 ?_
                rotate_left 1
                · (intro w hSw; obtain ⟨hSw1, hSw2⟩ := hSw; go_simp; try with_reducible rfl)
                simp only [Act.put, List.setIfInBounds_toArray, List.set_cons_zero, List.set_cons_succ]
                refine wpAnyH_take (i := 13) (oi := ⟨some 164, _, _, _, _, _⟩) (v := ?_) rfl (by kernel_rfl) (by kernel_rfl) (by kernel_rfl) (fun _ _ _ h => h) (Or.inl ⟨by rfl, ?_⟩) hr30 ?_
                rotate_left 1
                · (intro w hSw; obtain ⟨hSw1, hSw2⟩ := hSw; go_simp; try with_reducible rfl)
                simp only [Act.put, List.setIfInBounds_toArray, List.set_cons_zero, List.set_cons_succ]
                refine wpAnyH_take (i := 14) (oi := ⟨some 165, _, _, _, _, _⟩) (v := ?_) rfl (by kernel_rfl) (by kernel_rfl) (by kernel_rfl) (fun _ _ _ h => h) (Or.inl ⟨by rfl, ?_⟩) hr30 ?_
                rotate_left 1
                · (intro w hSw; obtain ⟨hSw1, hSw2⟩ := hSw; go_simp; try with_reducible rfl)
                simp only [Act.put, List.setIfInBounds_toArray, List.set_cons_zero, List.set_cons_succ]
                refine wpAnyH_ready (rs := [9]) (by kernel_rfl) (by simp) ?_
                refine AllReadyH.cons (o := ⟨some 160, _, _, _, _, _⟩) rfl (fun K hK => ?_) AllReadyH.nil
                go_simp
                refine (PS.blocks (PR.ps HST.out.drew) HGD.out.sz).mono ?_
                rintro e w32 ⟨rfl, hb32⟩
                have HS32 := hide (HST.out.drew.below hb32)
                have hr32 := St.rim23 HS32.out (b := 4) rfl
                clear hb32
                refine hK.out _ _ hr32 (fun hHeld => ?_)
                clear hK K
                clear hHeld
                refine wpAnyH_ready (rs := [10]) (by kernel_rfl) (by simp) ?_
                refine AllReadyH.cons (o := ⟨some 161, _, _, _, _, _⟩) rfl (fun K hK => ?_) AllReadyH.nil
                go_simp
                refine (St.flat HS32.out N.B HGD.out.sz.i).mono ?_
                rintro e w33 ⟨A4, c4, rfl, hs33⟩
                have HS33 := hide (show St w (PR q p rq rp S1 [] N im0 0 A1 c1 [rowV A4 c4 N.B]) w33 from hs33)
                have hr33 := St.rim23 HS33.out (b := 4) rfl
                clear hs33
                refine hK.out _ _ hr33 (fun hHeld => ?_)
                clear hK K
                clear hHeld
                refine wpAnyH_ready (rs := [15]) (by kernel_rfl) (by simp) ?_
                refine AllReadyH.cons (o := ⟨some 166, _, _, _, _, _⟩) rfl (fun K hK => ?_) AllReadyH.nil
                go_simp
                refine (St.same HS33.out (i := 5) (j := 3) rfl rfl HGD.out.sz.i).mono ?_
                rintro e w34 ⟨rfl, hs34⟩
                have HS34 := hide hs34
                have hr34 := St.rim23 HS34.out (b := 4) rfl
                clear hs34
                refine hK.out _ _ hr34 (fun hHeld => ?_)
                clear hK K
                clear hHeld
                refine wpAnyH_take (i := 16) (oi := ⟨some 167, _, _, _, _, _⟩) (v := ?_) rfl (by kernel_rfl) (by kernel_rfl) (by kernel_rfl) (fun _ _ _ h => h) (Or.inl ⟨by rfl, ?_⟩) hr34 ?_
                rotate_left 1
                · (intro w hSw; obtain ⟨hSw1, hSw2⟩ := hSw; go_simp; try with_reducible rfl)
                simp only [Act.put, List.setIfInBounds_toArray, List.set_cons_zero, List.set_cons_succ]
                refine wpAnyH_take (i := 17) (oi := ⟨some 168, _, _, _, _, _⟩) (v := ?_) rfl (by kernel_rfl) (by kernel_rfl) (by kernel_rfl) (fun _ _ _ h => h) (Or.inl ⟨by rfl, ?_⟩) hr34 ?_
                rotate_left 1
                · (intro w hSw; obtain ⟨hSw1, hSw2⟩ := hSw; go_simp; try with_reducible rfl)
                simp only [Act.put, List.setIfInBounds_toArray, List.set_cons_zero, List.set_cons_succ]
                refine wpAnyH_take (i := 18) (oi := ⟨some 169, _, _, _, _, _⟩) (v := ?_) rfl (by kernel_rfl) (by kernel_rfl) (by kernel_rfl) (fun _ _ _ h => h) (Or.inl ⟨by rfl, ?_⟩) hr34 ?_
                rotate_left 1
                · (intro w hSw; obtain ⟨hSw1, hSw2⟩ := hSw; go_simp; try with_reducible rfl)
                simp only [Act.put, List.setIfInBounds_toArray, List.set_cons_zero, List.set_cons_succ]
                refine wpAnyH_take (i := 19) (oi := ⟨some 170, _, _, _, _, _⟩) (v := ?_) rfl (by kernel_rfl) (by kernel_rfl) (by kernel_rfl) (fun _ _ _ h => h) (Or.inl ⟨by rfl, ?_⟩) hr34 ?_
                rotate_left 1
                · (intro w hSw; obtain ⟨hSw1, hSw2⟩ := hSw; go_simp; try with_reducible rfl)
                simp only [Act.put, List.setIfInBounds_toArray, List.set_cons_zero, List.set_cons_succ]
                refine wpAnyH_take (i := 20) (oi := ⟨some 171, _, _, _, _, _⟩) (v := ?_) rfl (by kernel_rfl) (by kernel_rfl) (by kernel_rfl) (fun _ _ _ h => h) (Or.inl ⟨by rfl, ?_⟩) hr34 ?_
                rotate_left 1
                · (intro w hSw; obtain ⟨hSw1, hSw2⟩ := hSw; go_simp; try with_reducible rfl)
                simp only [Act.put, List.setIfInBounds_toArray, List.set_cons_zero, List.set_cons_succ]
                refine wpAnyH_ready (rs := [21]) (by kernel_rfl) (by simp) ?_
                refine AllReadyH.cons (o := ⟨some 172, _, _, _, _, _⟩) rfl (fun K hK => ?_) AllReadyH.nil
                go_simp
                refine (alike_any HS34.out (a := 0) (b := 2) rfl rfl (by rw [HGD.out.len]; omega) (by simp) HGD.out.full).mono ?_
                rintro e w35 ⟨rfl, hs35⟩
                have HS35 := hide hs35
                have hr35 := St.rim23 HS35.out (b := 4) rfl
                clear hs35
                refine hK.out _ _ hr35 (fun hHeld => ?_)
                clear hK K
                clear hHeld
                refine wpAnyH_take (i := 22) (oi := ⟨some 173, _, _, _, _, _⟩) (v := ?_) rfl (by kernel_rfl) (by kernel_rfl) (by kernel_rfl) (fun _ _ _ h => h) (Or.inl ⟨by rfl, ?_⟩) hr35 ?_
                rotate_left 1
                · (intro w hSw; obtain ⟨hSw1, hSw2⟩ := hSw; go_simp; try with_reducible rfl)
                simp only [Act.put, List.setIfInBounds_toArray, List.set_cons_zero, List.set_cons_succ]
                refine wpAnyH_take (i := 23) (oi := ⟨some 174, _, _, _, _, _⟩) (v := ?_) rfl (by kernel_rfl) (by kernel_rfl) (by kernel_rfl) (fun _ _ _ h => h) (Or.inl ⟨by rfl, ?_⟩) hr35 ?_
                rotate_left 1
                · (intro w hSw; obtain ⟨hSw1, hSw2⟩ := hSw; go_simp; try with_reducible rfl)
                simp only [Act.put, List.setIfInBounds_toArray, List.set_cons_zero, List.set_cons_succ]
                refine wpAnyH_done (by kernel_rfl) ?_ _
                skip
                have HR := hide (show Rnd w q rq p rp N (k + 1) w35 from ⟨S1, A1, c1, HGD.out, HIT.out, St.left (Ts := PR q p rq rp S1 [] N im0 0 A1 c1 []) (Us := [rowV A4 c4 N.B]) HS35.out⟩)
                clear hr30 hr32 hr33 hr34 hr35 HST HS32 HS33 HS34 HS35
                go_wp2
                go_roundw
                case rel => exact ⟨k + 1, p, rp, N, HK.out, by go_num, rfl, rfl, HR.out⟩
                case measure => have := HK.out; simp [intOf]; omega
              · have hc0b : ((o.cut : Int) == 0) = false := by simp; omega
                have hc0n : ((o.cut : Int) != 0) = true := by simp; omega
                have HLL := hide (show ([] : List Wr).length ≤ 32 by simp)
                have HCG := hide (show ∃ I, Gd (Dk.crash o.keep 0 [] S1) I ∧ I.t ≤ k + 1 from ⟨N, HGD.out, HIT.out⟩)
                clear h0 HGD HIT
                have HCR := hide (PS.crash (PR.ps HSX.out) HFIT.out.keep (by have := HLL.out; omega))
                go_wp2_with fail
                refine HCR.out.mono ?_
                rintro e w25 ⟨rfl, hs25⟩
                have HS25 := hide hs25
                have hkp2 := (St.op HS25.out (j := 5) rfl).keep
                have HCR2 := hide (St.rcrash HS25.out (a := 2) rfl HFIT.out.keep (by have := HLL.out; omega))
                clear hs25 HCR hcc hkp
                go_wp2_with fail
                refine HCR2.out.mono ?_
                rintro e w26 ⟨rfl, hs26⟩
                obtain ⟨I, hgI, hIt⟩ := HCG.out
                obtain ⟨ST, hST⟩ : ∃ ST, Dk.crash o.keep 0 [] S1 = ST := ⟨_, rfl⟩
                rw [hST] at hgI
                have HS25x := HS25
                have HS26 := hide (show St w (PR q p rq rp ST [] N im0 0 A1 c1 [opT bo o, blksT vb M]) w26 by rw [← hST]; exact hs26)
                have HGD := hide hgI
                have HIT := hide hIt
                clear hs26 HCR2 HS25 HS25x hgI hIt hST hkp2 HCG
                have HAG := hide (PS.again (PR.ps HS26.out) HT.out HGD.out)
                clear HS26
                go_wp2_with fail
                refine HAG.out.mono ?_
                rintro e w27 ⟨p1, rfl, hs27⟩
                have HS27 := hide hs27
                have HRO := hide (PR.ropen HS27.out (a := 2) rfl HGD.out)
                clear hs27 HAG
                go_wp2_with fail
                refine HRO.out.mono ?_
                rintro e w28 ⟨rp1, g1, cc1, rfl, hs28⟩
                have HST := hide (show St w (PR q p1 rq rp1 ST [] I im0 0 (some ⟨g1, 0, none⟩) cc1 []) w28 from St.take (js := [0, 1, 2, 7, 8]) hs28 (by decide) (.cons rfl (.cons rfl (.cons rfl (.cons rfl (.cons rfl .nil))))))
                clear hs28 HRO HS27
                have hr30 := St.rim23 HST.out.drew (b := 4) rfl
                go_wp2_with fail
                refine wp_region_held (S := (fun W => W.cell? ⟨rp1, 2, none⟩ = some (.int .i64 (I.m : Int)) ∧ W.cell? ⟨rp1, 3, none⟩ = some (.slice (some ⟨g1, 0, none⟩) 32 cc1))) (by kernel_rfl) ?_
                change wpAnyH _ _ _ _ _ _ _ _ (World.drew _)
                refine wpAnyH_take (i := 0) (oi := ⟨some 151, _, _, _, _, _⟩) (v := ?_) rfl (by kernel_rfl) (by kernel_rfl) (by kernel_rfl) (fun _ _ _ h => h) (Or.inl ⟨by rfl, ?_⟩) hr30 ?_
                rotate_left 1
                · (intro w hSw; obtain ⟨hSw1, hSw2⟩ := hSw; go_simp; try with_reducible rfl)
                simp only [Act.put, List.setIfInBounds_toArray, List.set_cons_zero, List.set_cons_succ]
                refine wpAnyH_take (i := 2) (oi := ⟨some 153, _, _, _, _, _⟩) (v := ?_) rfl (by kernel_rfl) (by kernel_rfl) (by kernel_rfl) (fun _ _ _ h => h) (Or.inl ⟨by rfl, ?_⟩) hr30 ?_
                rotate_left 1
                · (intro w hSw; obtain ⟨hSw1, hSw2⟩ := hSw; go_simp; try with_reducible rfl)
                simp only [Act.put, List.setIfInBounds_toArray, List.set_cons_zero, List.set_cons_succ]
                refine wpAnyH_take (i := 3) (oi := ⟨some 154, _, _, _, _, _⟩) (v := ?_) rfl (by kernel_rfl) (by kernel_rfl) (by kernel_rfl) (fun _ _ _ h => h) (Or.inl ⟨by rfl, ?_⟩) hr30 ?_
                rotate_left 1
                · (intro w hSw; obtain ⟨hSw1, hSw2⟩ := hSw; go_simp; try with_reducible rfl)
                simp only [Act.put, List.setIfInBounds_toArray, List.set_cons_zero, List.set_cons_succ]
                refine wpAnyH_take (i := 4) (oi := ⟨some 155, _, _, _, _, _⟩) (v := ?_) rfl (by kernel_rfl) (by kernel_rfl) (by kernel_rfl) (fun _ _ _ h => h) (Or.inl ⟨by rfl, ?_⟩) hr30 ?_
                rotate_left 1
                · (intro w hSw; obtain ⟨hSw1, hSw2⟩ := hSw; go_simp; try with_reducible rfl)
                simp only [Act.put, List.setIfInBounds_toArray, List.set_cons_zero, List.set_cons_succ]
                refine wpAnyH_take (i := 5) (oi := ⟨some 156, _, _, _, _, _⟩) (v := ?_) rfl (by kernel_rfl) (by kernel_rfl) (by kernel_rfl) (fun _ _ _ h => h) (Or.inl ⟨by rfl, ?_⟩) hr30 ?_
                rotate_left 1
                · (intro w hSw; obtain ⟨hSw1, hSw2⟩ := hSw; go_simp; try with_reducible rfl)
                simp only [Act.put, List.setIfInBounds_toArray, List.set_cons_zero, List.set_cons_succ]
                refine wpAnyH_ready (rs := [1]) (by kernel_rfl) (by simp) ?_
                refine AllReadyH.cons (o := ⟨some 152, _, _, _, _, _⟩) rfl (fun K hK => ?_) AllReadyH.nil
                go_simp
                refine (PS.mark (PR.ps HST.out.drew)).mono ?_
                rintro e w31 ⟨rfl, hw31⟩
                rw [← hw31]
                clear hw31
                refine hK.out _ _ hr30 (fun hHeld => ?_)
                clear hK K
                clear hHeld
                refine wpAnyH_take (i := 6) (oi := ⟨some 157, _, _, _, _, _⟩) (v := ?_) rfl (by kernel_rfl) (by kernel_rfl) (by kernel_rfl) (fun _ _ _ h => h) (Or.inl ⟨by rfl, ?_⟩) hr30 ?_
                rotate_left 1
                · (intro w hSw; obtain ⟨hSw1, hSw2⟩ := hSw; go_simp; try with_reducible rfl)
                simp only [Act.put, List.setIfInBounds_toArray, List.set_cons_zero, List.set_cons_succ]
                refine wpAnyH_take (i := 7) (oi := ⟨some 158, _, _, _, _, _⟩) (v := ?_) rfl (by kernel_rfl) (by kernel_rfl) (by kernel_rfl) (fun _ _ _ h => h) (Or.inl ⟨by rfl, ?_⟩) hr30 ?_
                rotate_left 1
                · (intro w hSw; obtain ⟨hSw1, hSw2⟩ := hSw; go_simp; try with_reducible rfl)
                simp only [Act.put, List.setIfInBounds_toArray, List.set_cons_zero, List.set_cons_succ]
                refine wpAnyH_take (i := 8) (oi := ⟨some 159, _, _, _, _, _⟩) (v := ?_) rfl (by kernel_rfl) (by kernel_rfl) (by kernel_rfl) (fun _ _ _ h => h) (Or.inl ⟨by rfl, ?_⟩) hr30 ?_
                rotate_left 1
                · (intro w hSw; obtain ⟨hSw1, hSw2⟩ := hSw; go_simp; try with_reducible rfl)
                simp only [Act.put, List.setIfInBounds_toArray, List.set_cons_zero, List.set_cons_succ]
                refine wpAnyH_take (i := 11) (oi := ⟨some 162, _, _, _, _, _⟩) (v := ?_) rfl (by kernel_rfl) (by kernel_rfl) (by kernel_rfl) (fun _ _ _ h => h) (Or.inl ⟨by rfl, ?_⟩) hr30 ?_
                rotate_left 1
                · (intro w hSw; obtain ⟨hSw1, hSw2⟩ := hSw; go_simp; try with_reducible rfl)
                simp only [Act.put, List.setIfInBounds_toArray, List.set_cons_zero, List.set_cons_succ]
                refine wpAnyH_take (i := 12) (oi := ⟨some 163, _, _, _, _, _⟩) (v := ?_) rfl (by kernel_rfl) (by kernel_rfl) (by kernel_rfl) (fun _ _ _ h => h) (Or.inl ⟨by rfl, ?_⟩) hr30 ?_
                rotate_left 1
                · (intro w hSw; obtain ⟨hSw1, hSw2⟩ := hSw; go_simp; try with_reducible rfl)
                simp only [Act.put, List.setIfInBounds_toArray, List.set_cons_zero, List.set_cons_succ]
                refine wpAnyH_take (i := 13) (oi := ⟨some 164, _, _, _, _, _⟩) (v := ?_) rfl (by kernel_rfl) (by kernel_rfl) (by kernel_rfl) (fun _ _ _ h => h) (Or.inl ⟨by rfl, ?_⟩) hr30 ?_
                rotate_left 1
                · (intro w hSw; obtain ⟨hSw1, hSw2⟩ := hSw; go_simp; try with_reducible rfl)
                simp only [Act.put, List.setIfInBounds_toArray, List.set_cons_zero, List.set_cons_succ]
                refine wpAnyH_take (i := 14) (oi := ⟨some 165, _, _, _, _, _⟩) (v := ?_) rfl (by kernel_rfl) (by kernel_rfl) (by kernel_rfl) (fun _ _ _ h => h) (Or.inl ⟨by rfl, ?_⟩) hr30 ?_
                rotate_left 1
                · (intro w hSw; obtain ⟨hSw1, hSw2⟩ := hSw; go_simp; try with_reducible rfl)
                simp only [Act.put, List.setIfInBounds_toArray, List.set_cons_zero, List.set_cons_succ]
                refine wpAnyH_ready (rs := [9]) (by kernel_rfl) (by simp) ?_
                refine AllReadyH.cons (o := ⟨some 160, _, _, _, _, _⟩) rfl (fun K hK => ?_) AllReadyH.nil
                go_simp
                refine (PS.blocks (PR.ps HST.out.drew) HGD.out.sz).mono ?_
                rintro e w32 ⟨rfl, hb32⟩
                have HS32 := hide (HST.out.drew.below hb32)
                have hr32 := St.rim23 HS32.out (b := 4) rfl
                clear hb32
                refine hK.out _ _ hr32 (fun hHeld => ?_)
                clear hK K
                clear hHeld
                refine wpAnyH_ready (rs := [10]) (by kernel_rfl) (by simp) ?_
                refine AllReadyH.cons (o := ⟨some 161, _, _, _, _, _⟩) rfl (fun K hK => ?_) AllReadyH.nil
                go_simp
                refine (St.flat HS32.out I.B HGD.out.sz.i).mono ?_
                rintro e w33 ⟨A4, c4, rfl, hs33⟩
                have HS33 := hide (show St w (PR q p1 rq rp1 ST [] I im0 0 (some ⟨g1, 0, none⟩) cc1 [rowV A4 c4 I.B]) w33 from hs33)
                have hr33 := St.rim23 HS33.out (b := 4) rfl
                clear hs33
                refine hK.out _ _ hr33 (fun hHeld => ?_)
                clear hK K
                clear hHeld
                refine wpAnyH_ready (rs := [15]) (by kernel_rfl) (by simp) ?_
                refine AllReadyH.cons (o := ⟨some 166, _, _, _, _, _⟩) rfl (fun K hK => ?_) AllReadyH.nil
                go_simp
                refine (St.same HS33.out (i := 5) (j := 3) rfl rfl HGD.out.sz.i).mono ?_
                rintro e w34 ⟨rfl, hs34⟩
                have HS34 := hide hs34
                have hr34 := St.rim23 HS34.out (b := 4) rfl
                clear hs34
                refine hK.out _ _ hr34 (fun hHeld => ?_)
                clear hK K
                clear hHeld
                refine wpAnyH_take (i := 16) (oi := ⟨some 167, _, _, _, _, _⟩) (v := ?_) rfl (by kernel_rfl) (by kernel_rfl) (by kernel_rfl) (fun _ _ _ h => h) (Or.inl ⟨by rfl, ?_⟩) hr34 ?_
                rotate_left 1
                · (intro w hSw; obtain ⟨hSw1, hSw2⟩ := hSw; go_simp; try with_reducible rfl)
                simp only [Act.put, List.setIfInBounds_toArray, List.set_cons_zero, List.set_cons_succ]
                refine wpAnyH_take (i := 17) (oi := ⟨some 168, _, _, _, _, _⟩) (v := ?_) rfl (by kernel_rfl) (by kernel_rfl) (by kernel_rfl) (fun _ _ _ h => h) (Or.inl ⟨by rfl, ?_⟩) hr34 ?_
                rotate_left 1
                · (intro w hSw; obtain ⟨hSw1, hSw2⟩ := hSw; go_simp; try with_reducible rfl)
                simp only [Act.put, List.setIfInBounds_toArray, List.set_cons_zero, List.set_cons_succ]
                refine wpAnyH_take (i := 18) (oi := ⟨some 169, _, _, _, _, _⟩) (v := ?_) rfl (by kernel_rfl) (by kernel_rfl) (by kernel_rfl) (fun _ _ _ h => h) (Or.inl ⟨by rfl, ?_⟩) hr34 ?_
                rotate_left 1
                · (intro w hSw; obtain ⟨hSw1, hSw2⟩ := hSw; go_simp; try with_reducible rfl)
                simp only [Act.put, List.setIfInBounds_toArray, List.set_cons_zero, List.set_cons_succ]
                refine wpAnyH_take (i := 19) (oi := ⟨some 170, _, _, _, _, _⟩) (v := ?_) rfl (by kernel_rfl) (by kernel_rfl) (by kernel_rfl) (fun _ _ _ h => h) (Or.inl ⟨by rfl, ?_⟩) hr34 ?_
                rotate_left 1
                · (intro w hSw; obtain ⟨hSw1, hSw2⟩ := hSw; go_simp; try with_reducible rfl)
                simp only [Act.put, List.setIfInBounds_toArray, List.set_cons_zero, List.set_cons_succ]
                refine wpAnyH_take (i := 20) (oi := ⟨some 171, _, _, _, _, _⟩) (v := ?_) rfl (by kernel_rfl) (by kernel_rfl) (by kernel_rfl) (fun _ _ _ h => h) (Or.inl ⟨by rfl, ?_⟩) hr34 ?_
                rotate_left 1
                · (intro w hSw; obtain ⟨hSw1, hSw2⟩ := hSw; go_simp; try with_reducible rfl)
                simp only [Act.put, List.setIfInBounds_toArray, List.set_cons_zero, List.set_cons_succ]
                refine wpAnyH_ready (rs := [21]) (by kernel_rfl) (by simp) ?_
                refine AllReadyH.cons (o := ⟨some 172, _, _, _, _, _⟩) rfl (fun K hK => ?_) AllReadyH.nil
                go_simp
                refine (alike_any HS34.out (a := 0) (b := 2) rfl rfl (by rw [HGD.out.len]; omega) (by simp) HGD.out.full).mono ?_
                rintro e w35 ⟨rfl, hs35⟩
                have HS35 := hide hs35
                have hr35 := St.rim23 HS35.out (b := 4) rfl
                clear hs35
                refine hK.out _ _ hr35 (fun hHeld => ?_)
                clear hK K
                clear hHeld
                refine wpAnyH_take (i := 22) (oi := ⟨some 173, _, _, _, _, _⟩) (v := ?_) rfl (by kernel_rfl) (by kernel_rfl) (by kernel_rfl) (fun _ _ _ h => h) (Or.inl ⟨by rfl, ?_⟩) hr35 ?_
                rotate_left 1
                · (intro w hSw; obtain ⟨hSw1, hSw2⟩ := hSw; go_simp; try with_reducible rfl)
                simp only [Act.put, List.setIfInBounds_toArray, List.set_cons_zero, List.set_cons_succ]
                refine wpAnyH_take (i := 23) (oi := ⟨some 174, _, _, _, _, _⟩) (v := ?_) rfl (by kernel_rfl) (by kernel_rfl) (by kernel_rfl) (fun _ _ _ h => h) (Or.inl ⟨by rfl, ?_⟩) hr35 ?_
                rotate_left 1
                · (intro w hSw; obtain ⟨hSw1, hSw2⟩ := hSw; go_simp; try with_reducible rfl)
                simp only [Act.put, List.setIfInBounds_toArray, List.set_cons_zero, List.set_cons_succ]
                refine wpAnyH_done (by kernel_rfl) ?_ _
                skip
                have HR := hide (show Rnd w q rq p1 rp1 I (k + 1) w35 from ⟨ST, (some ⟨g1, 0, none⟩), cc1, HGD.out, HIT.out, St.left (Ts := PR q p1 rq rp1 ST [] I im0 0 (some ⟨g1, 0, none⟩) cc1 []) (Us := [rowV A4 c4 I.B]) HS35.out⟩)
                clear hr30 hr32 hr33 hr34 hr35 HST HS32 HS33 HS34 HS35
                go_wp2
                go_roundw
                case rel => exact ⟨k + 1, p1, rp1, I, HK.out, by go_num, rfl, rfl, HR.out⟩
                case measure => have := HK.out; simp [intOf]; omega
        · have HVN := hide hbg
          have hvz : (v == 0) = false := by simp; exact hbg
          have HBN := hide (fun W (hW : St w (PR q p rq rp S [] i im0 0 A c [opT bo o, blksT vb M]) W) => PS.begin_no (PR.ps hW) HG0.out.sz HML.out HMS.out (m := o.mark) (by rw [HV.out]; exact hbg))
          clear hbg HMS
          go_wp2_with fail
          refine wp_region_held (S := (fun W => Lies W vb M ∧ W.cell? ⟨bo, 1, none⟩ = some (.int .i64 o.mark))) (by kernel_rfl) ?_
          change wpAnyH _ _ _ _ _ _ _ _ (World.drew _)
          refine wpAnyH_take (i := 0) (oi := ⟨some 62, _, _, _, _, _⟩) (v := ?_) rfl (by kernel_rfl) (by kernel_rfl) (by kernel_rfl) (fun _ _ _ h => h) (Or.inl ⟨by rfl, ?_⟩) hh13 ?_
          rotate_left 1
          · (intro w hSw; obtain ⟨hSw1, hSw2⟩ := hSw; go_simp; try with_reducible rfl)
          simp only [Act.put, List.setIfInBounds_toArray, List.set_cons_zero, List.set_cons_succ]
          refine wpAnyH_take (i := 1) (oi := ⟨some 63, _, _, _, _, _⟩) (v := bval M) rfl (by kernel_rfl) (by kernel_rfl) (by kernel_rfl) (fun _ _ _ h => h) (yields_blks (by rfl) (.tmp 11) rfl vb rfl M HML.out (fun w hw => hw.1)) hh13 ?_
          simp only [Act.put, List.setIfInBounds_toArray, List.set_cons_zero, List.set_cons_succ]
          refine wpAnyH_take (i := 2) (oi := ⟨some 64, _, _, _, _, _⟩) (v := ?_) rfl (by kernel_rfl) (by kernel_rfl) (by kernel_rfl) (fun _ _ _ h => h) (Or.inl ⟨by rfl, ?_⟩) hh13 ?_
          rotate_left 1
          · (intro w hSw; obtain ⟨hSw1, hSw2⟩ := hSw; go_simp; try with_reducible rfl)
          simp only [Act.put, List.setIfInBounds_toArray, List.set_cons_zero, List.set_cons_succ]
          refine wpAnyH_take (i := 3) (oi := ⟨some 65, _, _, _, _, _⟩) (v := ?_) rfl (by kernel_rfl) (by kernel_rfl) (by kernel_rfl) (fun _ _ _ h => h) (Or.inl ⟨by rfl, ?_⟩) hh13 ?_
          rotate_left 1
          · (intro w hSw; obtain ⟨hSw1, hSw2⟩ := hSw; go_simp; try with_reducible rfl)
          simp only [Act.put, List.setIfInBounds_toArray, List.set_cons_zero, List.set_cons_succ]
          refine wpAnyH_take (i := 5) (oi := ⟨some 67, _, _, _, _, _⟩) (v := ?_) rfl (by kernel_rfl) (by kernel_rfl) (by kernel_rfl) (fun _ _ _ h => h) (Or.inl ⟨by rfl, ?_⟩) hh13 ?_
          rotate_left 1
          · (intro w hSw; obtain ⟨hSw1, hSw2⟩ := hSw; go_simp; try with_reducible rfl)
          simp only [Act.put, List.setIfInBounds_toArray, List.set_cons_zero, List.set_cons_succ]
          refine wpAnyH_take (i := 6) (oi := ⟨some 68, _, _, _, _, _⟩) (v := ?_) rfl (by kernel_rfl) (by kernel_rfl) (by kernel_rfl) (fun _ _ _ h => h) (Or.inl ⟨by rfl, ?_⟩) hh13 ?_
          rotate_left 1
          · (intro w hSw; obtain ⟨hSw1, hSw2⟩ := hSw; go_simp; try with_reducible rfl)
          simp only [Act.put, List.setIfInBounds_toArray, List.set_cons_zero, List.set_cons_succ]
          refine wpAnyH_take (i := 7) (oi := ⟨some 69, _, _, _, _, _⟩) (v := ?_) rfl (by kernel_rfl) (by kernel_rfl) (by kernel_rfl) (fun _ _ _ h => h) (Or.inl ⟨by rfl, ?_⟩) hh13 ?_
          rotate_left 1
          · (intro w hSw; obtain ⟨hSw1, hSw2⟩ := hSw; go_simp; try with_reducible rfl)
          simp only [Act.put, List.setIfInBounds_toArray, List.set_cons_zero, List.set_cons_succ]
          refine wpAnyH_ready (rs := [4]) (by kernel_rfl) (by simp) ?_
          refine AllReadyH.cons (o := ⟨some 66, _, _, _, _, _⟩) rfl (fun K hK => ?_) AllReadyH.nil
          go_simp
          refine (HBN.out _ HS13.out).mono ?_
          rintro e w14 ⟨pp, rfl, hf14, hb14⟩
          rw [HV.out] at hf14
          have HF14 := hide hf14
          have HS14 := hide (HS13.out.below hb14)
          have hh14 := hold2 HS14.out (j := 6) (l := 5) rfl rfl
          clear hf14 hb14 HBN
          refine hK.out _ _ hh14 (fun hHeld => ?_)
          clear hK K
          clear hHeld
          refine wpAnyH_ready (rs := [8]) (by kernel_rfl) (by simp) ?_
          refine AllReadyH.cons (o := ⟨some 70, _, _, _, _, _⟩) rfl (fun K hK => ?_) AllReadyH.nil
          go_simp
          refine (place_flt (HY.out.below HS14.out.bel HY.out.lt) HF14.out HVN.out).mono ?_
          rintro e w15 ⟨rfl, hb15⟩
          have HS15 := hide (HS14.out.below hb15)
          have hh15 := hold2 HS15.out (j := 6) (l := 5) rfl rfl
          clear hb15
          refine hK.out _ _ hh15 (fun hHeld => ?_)
          clear hK K
          clear hHeld
          refine wpAnyH_take (i := 9) (oi := ⟨some 71, _, _, _, _, _⟩) (v := ?_) rfl (by kernel_rfl) (by kernel_rfl) (by kernel_rfl) (fun _ _ _ h => h) (Or.inl ⟨by rfl, ?_⟩) hh15 ?_
          rotate_left 1
          · (intro w hSw; obtain ⟨hSw1, hSw2⟩ := hSw; go_simp; try with_reducible rfl)
          simp only [Act.put, List.setIfInBounds_toArray, List.set_cons_zero, List.set_cons_succ]
          refine wpAnyH_take (i := 10) (oi := ⟨some 72, _, _, _, _, _⟩) (v := ?_) rfl (by kernel_rfl) (by kernel_rfl) (by kernel_rfl) (fun _ _ _ h => h) (Or.inl ⟨by rfl, ?_⟩) hh15 ?_
          rotate_left 1
          · (intro w hSw; obtain ⟨hSw1, hSw2⟩ := hSw; go_simp; try with_reducible rfl)
          simp only [Act.put, List.setIfInBounds_toArray, List.set_cons_zero, List.set_cons_succ]
          refine wpAnyH_take (i := 11) (oi := ⟨some 73, _, _, _, _, _⟩) (v := ?_) rfl (by kernel_rfl) (by kernel_rfl) (by kernel_rfl) (fun _ _ _ h => h) (Or.inl ⟨by rfl, ?_⟩) hh15 ?_
          rotate_left 1
          · (intro w hSw; obtain ⟨hSw1, hSw2⟩ := hSw; go_simp; try with_reducible rfl)
          simp only [Act.put, List.setIfInBounds_toArray, List.set_cons_zero, List.set_cons_succ]
          refine wpAnyH_take (i := 13) (oi := ⟨some 75, _, _, _, _, _⟩) (v := ?_) rfl (by kernel_rfl) (by kernel_rfl) (by kernel_rfl) (fun _ _ _ h => h) (Or.inl ⟨by rfl, ?_⟩) hh15 ?_
          rotate_left 1
          · (intro w hSw; obtain ⟨hSw1, hSw2⟩ := hSw; go_simp; try with_reducible rfl)
          simp only [Act.put, List.setIfInBounds_toArray, List.set_cons_zero, List.set_cons_succ]
          refine wpAnyH_take (i := 14) (oi := ⟨some 76, _, _, _, _, _⟩) (v := ?_) rfl (by kernel_rfl) (by kernel_rfl) (by kernel_rfl) (fun _ _ _ h => h) (Or.inl ⟨by rfl, ?_⟩) hh15 ?_
          rotate_left 1
          · (intro w hSw; obtain ⟨hSw1, hSw2⟩ := hSw; go_simp; try with_reducible rfl)
          simp only [Act.put, List.setIfInBounds_toArray, List.set_cons_zero, List.set_cons_succ]
          refine wpAnyH_ready (rs := [12]) (by kernel_rfl) (by simp) ?_
          refine AllReadyH.cons (o := ⟨some 74, _, _, _, _, _⟩) rfl (fun K hK => ?_) AllReadyH.nil
          go_simp
          refine (PS.idle (PR.ps HS15.out) HG0.out.sz).mono ?_
          rintro e w16 ⟨rfl, hw16⟩
          rw [← hw16]
          clear hw16
          refine hK.out _ _ hh15 (fun hHeld => ?_)
          clear hK K
          clear hHeld
          refine wpAnyH_take (i := 15) (oi := ⟨some 77, _, _, _, _, _⟩) (v := ?_) rfl (by kernel_rfl) (by kernel_rfl) (by kernel_rfl) (fun _ _ _ h => h) (Or.inl ⟨by rfl, ?_⟩) hh15 ?_
          rotate_left 1
          · (intro w hSw; obtain ⟨hSw1, hSw2⟩ := hSw; go_simp; try with_reducible rfl)
          simp only [Act.put, List.setIfInBounds_toArray, List.set_cons_zero, List.set_cons_succ]
          refine wpAnyH_take (i := 16) (oi := ⟨some 78, _, _, _, _, _⟩) (v := ?_) rfl (by kernel_rfl) (by kernel_rfl) (by kernel_rfl) (fun _ _ _ h => h) (Or.inl ⟨by rfl, ?_⟩) hh15 ?_
          rotate_left 1
          · (intro w hSw; obtain ⟨hSw1, hSw2⟩ := hSw; go_simp; try with_reducible rfl)
          simp only [Act.put, List.setIfInBounds_toArray, List.set_cons_zero, List.set_cons_succ]
          refine wpAnyH_done (by kernel_rfl) ?_ _
          skip
          have HSX := HS15
          have hcc := (St.op HSX.out (j := 5) rfl).cut
          have hkp := (St.op HSX.out (j := 5) rfl).keep
          have HGD := HG0
          have HIT := hide (show i.t ≤ k + 1 by have := HTK.out; omega)
          generalize w15 = wt at *
          clear hh13 hh14 hh15 HS13 HS14 HS15
          go_wp2
          go_loopw [13] (fun j wy => wy = wt ∧ j = .int .i64 0) (fun _ _ => 0)
          case atStart => exact ⟨rfl, rfl⟩
          case round =>
            obtain ⟨rfl, rfl⟩ := hrel
            by_cases h0 : o.cut = 0
            · have hc0n : ((o.cut : Int) != 0) = false := by simp; omega
              have HST := hide (St.left (Ts := PR q p rq rp S [] i im0 0 A c []) (Us := [opT bo o, blksT vb M]) HSX.out)
              rw [h0] at hcc
              clear h0 HSX hkp
              have hr30 := St.rim23 HST.out.drew (b := 4) rfl
              go_wp2_with fail
              refine wp_region_held (S := (fun W => W.cell? ⟨rp, 2, none⟩ = some (.int .i64 (i.m : Int)) ∧ W.cell? ⟨rp, 3, none⟩ = some (.slice A 32 c))) (by kernel_rfl) ?_
              change wpAnyH _ _ _ _ _ _ _ _ (World.drew _)
              refine wpAnyH_take (i := 0) (oi := ⟨some 151, _, _, _, _, _⟩) (v := ?_) rfl (by kernel_rfl) (by kernel_rfl) (by kernel_rfl) (fun _ _ _ h => h) (Or.inl ⟨by rfl, ?_⟩) hr30 ?_
              rotate_left 1
              · (intro w hSw; obtain ⟨hSw1, hSw2⟩ := hSw; go_simp; try with_reducible rfl)
              simp only [Act.put, List.setIfInBounds_toArray, List.set_cons_zero, List.set_cons_succ]
              refine wpAnyH_take (i := 2) (oi := ⟨some 153, _, _, _, _, _⟩) (v := ?_) rfl (by kernel_rfl) (by kernel_rfl) (by kernel_rfl) (fun _ _ _ h => h) (Or.inl ⟨by rfl, ?_⟩) hr30 ?_
              rotate_left 1
              · (intro w hSw; obtain ⟨hSw1, hSw2⟩ := hSw; go_simp; try with_reducible rfl)
              simp only [Act.put, List.setIfInBounds_toArray, List.set_cons_zero, List.set_cons_succ]
              refine wpAnyH_take (i := 3) (oi := ⟨some 154, _, _, _, _, _⟩) (v := ?_) rfl (by kernel_rfl) (by kernel_rfl) (by kernel_rfl) (fun _ _ _ h => h) (Or.inl ⟨by rfl, ?_⟩) hr30 ?_
              rotate_left 1
              · (intro w hSw; obtain ⟨hSw1, hSw2⟩ := hSw; go_simp; try with_reducible rfl)
              simp only [Act.put, List.setIfInBounds_toArray, List.set_cons_zero, List.set_cons_succ]
              refine wpAnyH_take (i := 4) (oi := ⟨some 155, _, _, _, _, _⟩) (v := ?_) rfl (by kernel_rfl) (by kernel_rfl) (by kernel_rfl) (fun _ _ _ h => h) (Or.inl ⟨by rfl, ?_⟩) hr30 ?_
              rotate_left 1
              · (intro w hSw; obtain ⟨hSw1, hSw2⟩ := hSw; go_simp; try with_reducible rfl)
              simp only [Act.put, List.setIfInBounds_toArray, List.set_cons_zero, List.set_cons_succ]
              refine wpAnyH_take (i := 5) (oi := ⟨some 156, _, _, _, _, _⟩) (v := ?_) rfl (by kernel_rfl) (by kernel_rfl) (by kernel_rfl) (fun _ _ _ h => h) (Or.inl ⟨by rfl, ?_⟩) hr30 ?_
              rotate_left 1
              · (intro w hSw; obtain ⟨hSw1, hSw2⟩ := hSw; go_simp; try with_reducible rfl)
              simp only [Act.put, List.setIfInBounds_toArray, List.set_cons_zero, List.set_cons_succ]
              refine wpAnyH_ready (rs := [1]) (by kernel_rfl) (by simp) ?_
              refine AllReadyH.cons (o := ⟨some 152, _, _, _, _, _⟩) rfl (fun K hK => ?_) AllReadyH.nil
              go_simp
              refine (PS.mark (PR.ps HST.out.drew)).mono ?_
              rintro e w31 ⟨rfl, hw31⟩
              rw [← hw31]
              clear hw31
              refine hK.out _ _ hr30 (fun hHeld => ?_)
              clear hK K
              clear hHeld
              refine wpAnyH_take (i := 6) (oi := ⟨some 157, _, _, _, _, _⟩) (v := ?_) rfl (by kernel_rfl) (by kernel_rfl) (by kernel_rfl) (fun _ _ _ h => h) (Or.inl ⟨by rfl, ?_⟩) hr30 ?_
              rotate_left 1
              · (intro w hSw; obtain ⟨hSw1, hSw2⟩ := hSw; go_simp; try with_reducible rfl)
              simp only [Act.put, List.setIfInBounds_toArray, List.set_cons_zero, List.set_cons_succ]
              refine wpAnyH_take (i := 7) (oi := ⟨some 158, _, _, _, _, _⟩) (v := ?_) rfl (by kernel_rfl) (by kernel_rfl) (by kernel_rfl) (fun _ _ _ h => h) (Or.inl ⟨by rfl, ?_⟩) hr30 ?_
              rotate_left 1
              · (intro w hSw; obtain ⟨hSw1, hSw2⟩ := hSw; go_simp; try with_reducible rfl)
              simp only [Act.put, List.setIfInBounds_toArray, List.set_cons_zero, List.set_cons_succ]
              refine wpAnyH_take (i := 8) (oi := ⟨some 159, _, _, _, _, _⟩) (v := ?_) rfl (by kernel_rfl) (by kernel_rfl) (by kernel_rfl) (fun _ _ _ h => h) (Or.inl ⟨by rfl, ?_⟩) hr30 ?_
              rotate_left 1
              · (intro w hSw; obtain ⟨hSw1, hSw2⟩ := hSw; go_simp; try with_reducible rfl)
              simp only [Act.put, List.setIfInBounds_toArray, List.set_cons_zero, List.set_cons_succ]
              refine wpAnyH_take (i := 11) (oi := ⟨some 162, _, _, _, _, _⟩) (v := ?_) rfl (by kernel_rfl) (by kernel_rfl) (by kernel_rfl) (fun _ _ _ h => h) (Or.inl ⟨by rfl, ?_⟩) hr30 ?_
              rotate_left 1
              · (intro w hSw; obtain ⟨hSw1, hSw2⟩ := hSw; go_simp; try with_reducible rfl)
              simp only [Act.put, List.setIfInBounds_toArray, List.set_cons_zero, List.set_cons_succ]
              refine wpAnyH_take (i := 12) (oi := ⟨some 163, _, _, _, _, _⟩) (v := ?_) rfl (by kernel_rfl) (by kernel_rfl) (by kernel_rfl) (fun _ _ _ h => h) (Or.inl ⟨by rfl, ?_⟩) hr30 ?_
              rotate_left 1
              · (intro w hSw; obtain ⟨hSw1, hSw2⟩ := hSw; go_simp; try with_reducible rfl)
              simp only [Act.put, List.setIfInBounds_toArray, List.set_cons_zero, List.set_cons_succ]
              refine wpAnyH_take (i := 13) (oi := ⟨some 164, _, _, _, _, _⟩) (v := ?_) rfl (by kernel_rfl) (by kernel_rfl) (by kernel_rfl) (fun _ _ _ h => h) (Or.inl ⟨by rfl, ?_⟩) hr30 ?_
              rotate_left 1
              · (intro w hSw; obtain ⟨hSw1, hSw2⟩ := hSw; go_simp; try with_reducible rfl)
              simp only [Act.put, List.setIfInBounds_toArray, List.set_cons_zero, List.set_cons_succ]
              refine wpAnyH_take (i := 14) (oi := ⟨some 165, _, _, _, _, _⟩) (v := ?_) rfl (by kernel_rfl) (by kernel_rfl) (by kernel_rfl) (fun _ _ _ h => h) (Or.inl ⟨by rfl, ?_⟩) hr30 ?_
              rotate_left 1
              · (intro w hSw; obtain ⟨hSw1, hSw2⟩ := hSw; go_simp; try with_reducible rfl)
              simp only [Act.put, List.setIfInBounds_toArray, List.set_cons_zero, List.set_cons_succ]
              refine wpAnyH_ready (rs := [9]) (by kernel_rfl) (by simp) ?_
              refine AllReadyH.cons (o := ⟨some 160, _, _, _, _, _⟩) rfl (fun K hK => ?_) AllReadyH.nil
              go_simp
              refine (PS.blocks (PR.ps HST.out.drew) HGD.out.sz).mono ?_
              rintro e w32 ⟨rfl, hb32⟩
              have HS32 := hide (HST.out.drew.below hb32)
              have hr32 := St.rim23 HS32.out (b := 4) rfl
              clear hb32
              refine hK.out _ _ hr32 (fun hHeld => ?_)
              clear hK K
              clear hHeld
              refine wpAnyH_ready (rs := [10]) (by kernel_rfl) (by simp) ?_
              refine AllReadyH.cons (o := ⟨some 161, _, _, _, _, _⟩) rfl (fun K hK => ?_) AllReadyH.nil
              go_simp
              refine (St.flat HS32.out i.B HGD.out.sz.i).mono ?_
              rintro e w33 ⟨A4, c4, rfl, hs33⟩
              have HS33 := hide (show St w (PR q p rq rp S [] i im0 0 A c [rowV A4 c4 i.B]) w33 from hs33)
              have hr33 := St.rim23 HS33.out (b := 4) rfl
              clear hs33
              refine hK.out _ _ hr33 (fun hHeld => ?_)
              clear hK K
              clear hHeld
              refine wpAnyH_ready (rs := [15]) (by kernel_rfl) (by simp) ?_
              refine AllReadyH.cons (o := ⟨some 166, _, _, _, _, _⟩) rfl (fun K hK => ?_) AllReadyH.nil
              go_simp
              refine (St.same HS33.out (i := 5) (j := 3) rfl rfl HGD.out.sz.i).mono ?_
              rintro e w34 ⟨rfl, hs34⟩
              have HS34 := hide hs34
              have hr34 := St.rim23 HS34.out (b := 4) rfl
              clear hs34
              refine hK.out _ _ hr34 (fun hHeld => ?_)
              clear hK K
              clear hHeld
              refine wpAnyH_take (i := 16) (oi := ⟨some 167, _, _, _, _, _⟩) (v := ?_) rfl (by kernel_rfl) (by kernel_rfl) (by kernel_rfl) (fun _ _ _ h => h) (Or.inl ⟨by rfl, ?_⟩) hr34 ?_
              rotate_left 1
              · (intro w hSw; obtain ⟨hSw1, hSw2⟩ := hSw; go_simp; try with_reducible rfl)
              simp only [Act.put, List.setIfInBounds_toArray, List.set_cons_zero, List.set_cons_succ]
              refine wpAnyH_take (i := 17) (oi := ⟨some 168, _, _, _, _, _⟩) (v := ?_) rfl (by kernel_rfl) (by kernel_rfl) (by kernel_rfl) (fun _ _ _ h => h) (Or.inl ⟨by rfl, ?_⟩) hr34 ?_
              rotate_left 1
              · (intro w hSw; obtain ⟨hSw1, hSw2⟩ := hSw; go_simp; try with_reducible rfl)
              simp only [Act.put, List.setIfInBounds_toArray, List.set_cons_zero, List.set_cons_succ]
              refine wpAnyH_take (i := 18) (oi := ⟨some 169, _, _, _, _, _⟩) (v := ?_) rfl (by kernel_rfl) (by kernel_rfl) (by kernel_rfl) (fun _ _ _ h => h) (Or.inl ⟨by rfl, ?_⟩) hr34 ?_
              rotate_left 1
              · (intro w hSw; obtain ⟨hSw1, hSw2⟩ := hSw; go_simp; try with_reducible rfl)
              simp only [Act.put, List.setIfInBounds_toArray, List.set_cons_zero, List.set_cons_succ]
              refine wpAnyH_take (i := 19) (oi := ⟨some 170, _, _, _, _, _⟩) (v := ?_) rfl (by kernel_rfl) (by kernel_rfl) (by kernel_rfl) (fun _ _ _ h => h) (Or.inl ⟨by rfl, ?_⟩) hr34 ?_
              rotate_left 1
              · (intro w hSw; obtain ⟨hSw1, hSw2⟩ := hSw; go_simp; try with_reducible rfl)
              simp only [Act.put, List.setIfInBounds_toArray, List.set_cons_zero, List.set_cons_succ]
              refine wpAnyH_take (i := 20) (oi := ⟨some 171, _, _, _, _, _⟩) (v := ?_) rfl (by kernel_rfl) (by kernel_rfl) (by kernel_rfl) (fun _ _ _ h => h) (Or.inl ⟨by rfl, ?_⟩) hr34 ?_
              rotate_left 1
              · (intro w hSw; obtain ⟨hSw1, hSw2⟩ := hSw; go_simp; try with_reducible rfl)
              simp only [Act.put, List.setIfInBounds_toArray, List.set_cons_zero, List.set_cons_succ]
              refine wpAnyH_ready (rs := [21]) (by kernel_rfl) (by simp) ?_
              refine AllReadyH.cons (o := ⟨some 172, _, _, _, _, _⟩) rfl (fun K hK => ?_) AllReadyH.nil
              go_simp
              refine (alike_any HS34.out (a := 0) (b := 2) rfl rfl (by rw [HGD.out.len]; omega) (by simp) HGD.out.full).mono ?_
              rintro e w35 ⟨rfl, hs35⟩
              have HS35 := hide hs35
              have hr35 := St.rim23 HS35.out (b := 4) rfl
              clear hs35
              refine hK.out _ _ hr35 (fun hHeld => ?_)
              clear hK K
              clear hHeld
              refine wpAnyH_take (i := 22) (oi := ⟨some 173, _, _, _, _, _⟩) (v := ?_) rfl (by kernel_rfl) (by kernel_rfl) (by kernel_rfl) (fun _ _ _ h => h) (Or.inl ⟨by rfl, ?_⟩) hr35 ?_
              rotate_left 1
              · (intro w hSw; obtain ⟨hSw1, hSw2⟩ := hSw; go_simp; try with_reducible rfl)
              simp only [Act.put, List.setIfInBounds_toArray, List.set_cons_zero, List.set_cons_succ]
              refine wpAnyH_take (i := 23) (oi := ⟨some 174, _, _, _, _, _⟩) (v := ?_) rfl (by kernel_rfl) (by kernel_rfl) (by kernel_rfl) (fun _ _ _ h => h) (Or.inl ⟨by rfl, ?_⟩) hr35 ?_
              rotate_left 1
              · (intro w hSw; obtain ⟨hSw1, hSw2⟩ := hSw; go_simp; try with_reducible rfl)
              simp only [Act.put, List.setIfInBounds_toArray, List.set_cons_zero, List.set_cons_succ]
              refine wpAnyH_done (by kernel_rfl) ?_ _
              skip
              have HR := hide (show Rnd w q rq p rp i (k + 1) w35 from ⟨S, A, c, HGD.out, HIT.out, St.left (Ts := PR q p rq rp S [] i im0 0 A c []) (Us := [rowV A4 c4 i.B]) HS35.out⟩)
              clear hr30 hr32 hr33 hr34 hr35 HST HS32 HS33 HS34 HS35
              go_wp2
              go_roundw
              case rel => exact ⟨k + 1, p, rp, i, HK.out, by go_num, rfl, rfl, HR.out⟩
              case measure => have := HK.out; simp [intOf]; omega
            · have hc0n : ((o.cut : Int) != 0) = true := by simp; omega
              have HLL := hide (show ([] : List Wr).length ≤ 32 by simp)
              have HCG := hide (show ∃ I, Gd (Dk.crash o.keep 0 [] S) I ∧ I.t ≤ k + 1 from ⟨i, HGD.out, HIT.out⟩)
              clear h0 HGD HIT
              have HCR := hide (PS.crash (PR.ps HSX.out) HFIT.out.keep (by have := HLL.out; omega))
              go_wp2_with fail
              refine HCR.out.mono ?_
              rintro e w25 ⟨rfl, hs25⟩
              have HS25 := hide hs25
              have hkp2 := (St.op HS25.out (j := 5) rfl).keep
              have HCR2 := hide (St.rcrash HS25.out (a := 2) rfl HFIT.out.keep (by have := HLL.out; omega))
              clear hs25 HCR hcc hkp
              go_wp2_with fail
              refine HCR2.out.mono ?_
              rintro e w26 ⟨rfl, hs26⟩
              obtain ⟨I, hgI, hIt⟩ := HCG.out
              obtain ⟨ST, hST⟩ : ∃ ST, Dk.crash o.keep 0 [] S = ST := ⟨_, rfl⟩
              rw [hST] at hgI
              have HS25x := HS25
              have HS26 := hide (show St w (PR q p rq rp ST [] i im0 0 A c [opT bo o, blksT vb M]) w26 by rw [← hST]; exact hs26)
              have HGD := hide hgI
              have HIT := hide hIt
              clear hs26 HCR2 HS25 HS25x hgI hIt hST hkp2 HCG
              have HAG := hide (PS.again (PR.ps HS26.out) HT.out HGD.out)
              clear HS26
              go_wp2_with fail
              refine HAG.out.mono ?_
              rintro e w27 ⟨p1, rfl, hs27⟩
              have HS27 := hide hs27
              have HRO := hide (PR.ropen HS27.out (a := 2) rfl HGD.out)
              clear hs27 HAG
              go_wp2_with fail
              refine HRO.out.mono ?_
              rintro e w28 ⟨rp1, g1, cc1, rfl, hs28⟩
              have HST := hide (show St w (PR q p1 rq rp1 ST [] I im0 0 (some ⟨g1, 0, none⟩) cc1 []) w28 from St.take (js := [0, 1, 2, 7, 8]) hs28 (by decide) (.cons rfl (.cons rfl (.cons rfl (.cons rfl (.cons rfl .nil))))))
              clear hs28 HRO HS27
              have hr30 := St.rim23 HST.out.drew (b := 4) rfl
              go_wp2_with fail
              refine wp_region_held (S := (fun W => W.cell? ⟨rp1, 2, none⟩ = some (.int .i64 (I.m : Int)) ∧ W.cell? ⟨rp1, 3, none⟩ = some (.slice (some ⟨g1, 0, none⟩) 32 cc1))) (by kernel_rfl) ?_
              change wpAnyH _ _ _ _ _ _ _ _ (World.drew _)
              refine wpAnyH_take (i := 0) (oi := ⟨some 151, _, _, _, _, _⟩) (v := ?_) rfl (by kernel_rfl) (by kernel_rfl) (by kernel_rfl) (fun _ _ _ h => h) (Or.inl ⟨by rfl, ?_⟩) hr30 ?_
              rotate_left 1
              · (intro w hSw; obtain ⟨hSw1, hSw2⟩ := hSw; go_simp; try with_reducible rfl)
              simp only [Act.put, List.setIfInBounds_toArray, List.set_cons_zero, List.set_cons_succ]
              refine wpAnyH_take (i := 2) (oi := ⟨some 153, _, _, _, _, _⟩) (v := ?_) rfl (by kernel_rfl) (by kernel_rfl) (by kernel_rfl) (fun _ _ _ h => h) (Or.inl ⟨by rfl, ?_⟩) hr30 ?_
              rotate_left 1
              · (intro w hSw; obtain ⟨hSw1, hSw2⟩ := hSw; go_simp; try with_reducible rfl)
              simp only [Act.put, List.setIfInBounds_toArray, List.set_cons_zero, List.set_cons_succ]
              refine wpAnyH_take (i := 3) (oi := ⟨some 154, _, _, _, _, _⟩) (v := ?_) rfl (by kernel_rfl) (by kernel_rfl) (by kernel_rfl) (fun _ _ _ h => h) (Or.inl ⟨by rfl, ?_⟩) hr30 ?_
              rotate_left 1
              · (intro w hSw; obtain ⟨hSw1, hSw2⟩ := hSw; go_simp; try with_reducible rfl)
              simp only [Act.put, List.setIfInBounds_toArray, List.set_cons_zero, List.set_cons_succ]
              refine wpAnyH_take (i := 4) (oi := ⟨some 155, _, _, _, _, _⟩) (v := ?_) rfl (by kernel_rfl) (by kernel_rfl) (by kernel_rfl) (fun _ _ _ h => h) (Or.inl ⟨by rfl, ?_⟩) hr30 ?_
              rotate_left 1
              · (intro w hSw; obtain ⟨hSw1, hSw2⟩ := hSw; go_simp; try with_reducible rfl)
              simp only [Act.put, List.setIfInBounds_toArray, List.set_cons_zero, List.set_cons_succ]
              refine wpAnyH_take (i := 5) (oi := ⟨some 156, _, _, _, _, _⟩) (v := ?_) rfl (by kernel_rfl) (by kernel_rfl) (by kernel_rfl) (fun _ _ _ h => h) (Or.inl ⟨by rfl, ?_⟩) hr30 ?_
              rotate_left 1
              · (intro w hSw; obtain ⟨hSw1, hSw2⟩ := hSw; go_simp; try with_reducible rfl)
              simp only [Act.put, List.setIfInBounds_toArray, List.set_cons_zero, List.set_cons_succ]
              refine wpAnyH_ready (rs := [1]) (by kernel_rfl) (by simp) ?_
              refine AllReadyH.cons (o := ⟨some 152, _, _, _, _, _⟩) rfl (fun K hK => ?_) AllReadyH.nil
              go_simp
              refine (PS.mark (PR.ps HST.out.drew)).mono ?_
              rintro e w31 ⟨rfl, hw31⟩
              rw [← hw31]
              clear hw31
              refine hK.out _ _ hr30 (fun hHeld => ?_)
              clear hK K
              clear hHeld
              refine wpAnyH_take (i := 6) (oi := ⟨some 157, _, _, _, _, _⟩) (v := ?_) rfl (by kernel_rfl) (by kernel_rfl) (by kernel_rfl) (fun _ _ _ h => h) (Or.inl ⟨by rfl, ?_⟩) hr30 ?_
              rotate_left 1
              · (intro w hSw; obtain ⟨hSw1, hSw2⟩ := hSw; go_simp; try with_reducible rfl)
              simp only [Act.put, List.setIfInBounds_toArray, List.set_cons_zero, List.set_cons_succ]
              refine wpAnyH_take (i := 7) (oi := ⟨some 158, _, _, _, _, _⟩) (v := ?_) rfl (by kernel_rfl) (by kernel_rfl) (by kernel_rfl) (fun _ _ _ h => h) (Or.inl ⟨by rfl, ?_⟩) hr30 ?_
              rotate_left 1
              · (intro w hSw; obtain ⟨hSw1, hSw2⟩ := hSw; go_simp; try with_reducible rfl)
              simp only [Act.put, List.setIfInBounds_toArray, List.set_cons_zero, List.set_cons_succ]
              refine wpAnyH_take (i := 8) (oi := ⟨some 159, _, _, _, _, _⟩) (v := ?_) rfl (by kernel_rfl) (by kernel_rfl) (by kernel_rfl) (fun _ _ _ h => h) (Or.inl ⟨by rfl, ?_⟩) hr30 ?_
              rotate_left 1
              · (intro w hSw; obtain ⟨hSw1, hSw2⟩ := hSw; go_simp; try with_reducible rfl)
              simp only [Act.put, List.setIfInBounds_toArray, List.set_cons_zero, List.set_cons_succ]
              refine wpAnyH_take (i := 11) (oi := ⟨some 162, _, _, _, _, _⟩) (v := ?_) rfl (by kernel_rfl) (by kernel_rfl) (by kernel_rfl) (fun _ _ _ h => h) (Or.inl ⟨by rfl, ?_⟩) hr30 ?_
              rotate_left 1
              · (intro w hSw; obtain ⟨hSw1, hSw2⟩ := hSw; go_simp; try with_reducible rfl)
              simp only [Act.put, List.setIfInBounds_toArray, List.set_cons_zero, List.set_cons_succ]
              refine wpAnyH_take (i := 12) (oi := ⟨some 163, _, _, _, _, _⟩) (v := ?_) rfl (by kernel_rfl) (by kernel_rfl) (by kernel_rfl) (fun _ _ _ h => h) (Or.inl ⟨by rfl, ?_⟩) hr30 ?_
              rotate_left 1
              · (intro w hSw; obtain ⟨hSw1, hSw2⟩ := hSw; go_simp; try with_reducible rfl)
              simp only [Act.put, List.setIfInBounds_toArray, List.set_cons_zero, List.set_cons_succ]
              refine wpAnyH_take (i := 13) (oi := ⟨some 164, _, _, _, _, _⟩) (v := ?_) rfl (by kernel_rfl) (by kernel_rfl) (by kernel_rfl) (fun _ _ _ h => h) (Or.inl ⟨by rfl, ?_⟩) hr30 ?_
              rotate_left 1
              · (intro w hSw; obtain ⟨hSw1, hSw2⟩ := hSw; go_simp; try with_reducible rfl)
              simp only [Act.put, List.setIfInBounds_toArray, List.set_cons_zero, List.set_cons_succ]
              refine wpAnyH_take (i := 14) (oi := ⟨some 165, _, _, _, _, _⟩) (v := ?_) rfl (by kernel_rfl) (by kernel_rfl) (by kernel_rfl) (fun _ _ _ h => h) (Or.inl ⟨by rfl, ?_⟩) hr30 ?_
              rotate_left 1
              · (intro w hSw; obtain ⟨hSw1, hSw2⟩ := hSw; go_simp; try with_reducible rfl)
              simp only [Act.put, List.setIfInBounds_toArray, List.set_cons_zero, List.set_cons_succ]
              refine wpAnyH_ready (rs := [9]) (by kernel_rfl) (by simp) ?_
              refine AllReadyH.cons (o := ⟨some 160, _, _, _, _, _⟩) rfl (fun K hK => ?_) AllReadyH.nil
              go_simp
              refine (PS.blocks (PR.ps HST.out.drew) HGD.out.sz).mono ?_
              rintro e w32 ⟨rfl, hb32⟩
              have HS32 := hide (HST.out.drew.below hb32)
              have hr32 := St.rim23 HS32.out (b := 4) rfl
              clear hb32
              refine hK.out _ _ hr32 (fun hHeld => ?_)
              clear hK K
              clear hHeld
              refine wpAnyH_ready (rs := [10]) (by kernel_rfl) (by simp) ?_
              refine AllReadyH.cons (o := ⟨some 161, _, _, _, _, _⟩) rfl (fun K hK => ?_) AllReadyH.nil
              go_simp
              refine (St.flat HS32.out I.B HGD.out.sz.i).mono ?_
              rintro e w33 ⟨A4, c4, rfl, hs33⟩
              have HS33 := hide (show St w (PR q p1 rq rp1 ST [] I im0 0 (some ⟨g1, 0, none⟩) cc1 [rowV A4 c4 I.B]) w33 from hs33)
              have hr33 := St.rim23 HS33.out (b := 4) rfl
              clear hs33
              refine hK.out _ _ hr33 (fun hHeld => ?_)
              clear hK K
              clear hHeld
              refine wpAnyH_ready (rs := [15]) (by kernel_rfl) (by simp) ?_
              refine AllReadyH.cons (o := ⟨some 166, _, _, _, _, _⟩) rfl (fun K hK => ?_) AllReadyH.nil
              go_simp
              refine (St.same HS33.out (i := 5) (j := 3) rfl rfl HGD.out.sz.i).mono ?_
              rintro e w34 ⟨rfl, hs34⟩
              have HS34 := hide hs34
              have hr34 := St.rim23 HS34.out (b := 4) rfl
              clear hs34
              refine hK.out _ _ hr34 (fun hHeld => ?_)
              clear hK K
              clear hHeld
              refine wpAnyH_take (i := 16) (oi := ⟨some 167, _, _, _, _, _⟩) (v := ?_) rfl (by kernel_rfl) (by kernel_rfl) (by kernel_rfl) (fun _ _ _ h => h) (Or.inl ⟨by rfl, ?_⟩) hr34 ?_
              rotate_left 1
              · (intro w hSw; obtain ⟨hSw1, hSw2⟩ := hSw; go_simp; try with_reducible rfl)
              simp only [Act.put, List.setIfInBounds_toArray, List.set_cons_zero, List.set_cons_succ]
              refine wpAnyH_take (i := 17) (oi := ⟨some 168, _, _, _, _, _⟩) (v := ?_) rfl (by kernel_rfl) (by kernel_rfl) (by kernel_rfl) (fun _ _ _ h => h) (Or.inl ⟨by rfl, ?_⟩) hr34 ?_
              rotate_left 1
              · (intro w hSw; obtain ⟨hSw1, hSw2⟩ := hSw; go_simp; try with_reducible rfl)
              simp only [Act.put, List.setIfInBounds_toArray, List.set_cons_zero, List.set_cons_succ]
              refine wpAnyH_take (i := 18) (oi := ⟨some 169, _, _, _, _, _⟩) (v := ?_) rfl (by kernel_rfl) (by kernel_rfl) (by kernel_rfl) (fun _ _ _ h => h) (Or.inl ⟨by rfl, ?_⟩) hr34 ?_
              rotate_left 1
              · (intro w hSw; obtain ⟨hSw1, hSw2⟩ := hSw; go_simp; try with_reducible rfl)
              simp only [Act.put, List.setIfInBounds_toArray, List.set_cons_zero, List.set_cons_succ]
              refine wpAnyH_take (i := 19) (oi := ⟨some 170, _, _, _, _, _⟩) (v := ?_) rfl (by kernel_rfl) (by kernel_rfl) (by kernel_rfl) (fun _ _ _ h => h) (Or.inl ⟨by rfl, ?_⟩) hr34 ?_
              rotate_left 1
              · (intro w hSw; obtain ⟨hSw1, hSw2⟩ := hSw; go_simp; try with_reducible rfl)
              simp only [Act.put, List.setIfInBounds_toArray, List.set_cons_zero, List.set_cons_succ]
              refine wpAnyH_take (i := 20) (oi := ⟨some 171, _, _, _, _, _⟩) (v := ?_) rfl (by kernel_rfl) (by kernel_rfl) (by kernel_rfl) (fun _ _ _ h => h) (Or.inl ⟨by rfl, ?_⟩) hr34 ?_
              rotate_left 1
              · (intro w hSw; obtain ⟨hSw1, hSw2⟩ := hSw; go_simp; try with_reducible rfl)
              simp only [Act.put, List.setIfInBounds_toArray, List.set_cons_zero, List.set_cons_succ]
              refine wpAnyH_ready (rs := [21]) (by kernel_rfl) (by simp) ?_
              refine AllReadyH.cons (o := ⟨some 172, _, _, _, _, _⟩) rfl (fun K hK => ?_) AllReadyH.nil
              go_simp
              refine (alike_any HS34.out (a := 0) (b := 2) rfl rfl (by rw [HGD.out.len]; omega) (by simp) HGD.out.full).mono ?_
              rintro e w35 ⟨rfl, hs35⟩
              have HS35 := hide hs35
              have hr35 := St.rim23 HS35.out (b := 4) rfl
              clear hs35
              refine hK.out _ _ hr35 (fun hHeld => ?_)
              clear hK K
              clear hHeld
              refine wpAnyH_take (i := 22) (oi := ⟨some 173, _, _, _, _, _⟩) (v := ?_) rfl (by kernel_rfl) (by kernel_rfl) (by kernel_rfl) (fun _ _ _ h => h) (Or.inl ⟨by rfl, ?_⟩) hr35 ?_
              rotate_left 1
              · (intro w hSw; obtain ⟨hSw1, hSw2⟩ := hSw; go_simp; try with_reducible rfl)
              simp only [Act.put, List.setIfInBounds_toArray, List.set_cons_zero, List.set_cons_succ]
              refine wpAnyH_take (i := 23) (oi := ⟨some 174, _, _, _, _, _⟩) (v := ?_) rfl (by kernel_rfl) (by kernel_rfl) (by kernel_rfl) (fun _ _ _ h => h) (Or.inl ⟨by rfl, ?_⟩) hr35 ?_
              rotate_left 1
              · (intro w hSw; obtain ⟨hSw1, hSw2⟩ := hSw; go_simp; try with_reducible rfl)
              simp only [Act.put, List.setIfInBounds_toArray, List.set_cons_zero, List.set_cons_succ]
              refine wpAnyH_done (by kernel_rfl) ?_ _
              skip
              have HR := hide (show Rnd w q rq p1 rp1 I (k + 1) w35 from ⟨ST, (some ⟨g1, 0, none⟩), cc1, HGD.out, HIT.out, St.left (Ts := PR q p1 rq rp1 ST [] I im0 0 (some ⟨g1, 0, none⟩) cc1 []) (Us := [rowV A4 c4 I.B]) HS35.out⟩)
              clear hr30 hr32 hr33 hr34 hr35 HST HS32 HS33 HS34 HS35
              go_wp2
              go_roundw
              case rel => exact ⟨k + 1, p1, rp1, I, HK.out, by go_num, rfl, rfl, HR.out⟩
              case measure => have := HK.out; simp [intOf]; omega
      · obtain rfl : k = n := by omega
        obtain ⟨S, A, c, hgd, hti, hst⟩ := hrn.out
        have HGD := hide hgd
        have HST := hide hst
        clear hrn hgd hti hst hge hk
        go_wp2_with fail
        refine (PS.nostep (PR.ps HST.out) HGD.out.sz).mono ?_
        rintro e w41 ⟨pp, rfl, ⟨hf, _⟩, hb⟩
        have HB41 := hide (HST.out.bel.trans (hb.mono HST.out.bel.size))
        have HPL := hide (place_flt (HY.out.below HB41.out HY.out.lt) hf (by decide))
        clear hf hb HST
        go_wp2_with fail
        refine HPL.out.mono ?_
        rintro e w42 ⟨rfl, hb42⟩
        have HB42 := hide (HB41.out.trans (hb42.mono HB41.out.size))
        clear hb42 HPL HB41
        go_wp2
        go_ret
        exact ⟨rfl, HB42.out⟩

end Go.Proofs.YtnmpckhlpkmojaaGreatDoor.Im

namespace Go.Proofs.YtnmpckhlpkmojaaGreatDoor.imagePlays
open Go.ChangeShapes Go.WideShapes Go.ChangeAt Go.RowKit
open Go.ChangeMaps (open_string shut_string)
open Pk Sm Fa Rc Dk Wn Lk Im

set_option maxRecDepth 100000 in
theorem lifted (os : Os) (started : os.Started) (H : Type) (enc : TypeId × Value → H) :
    ReturnsInHanded {} Tryz.checked os 3 .any (fun w args => (Rows.imagePlaysSpec.pre enc Tryz.prog Tryz.f3 [] false w args ∧ laidMetH Tryz.prog Im.laidB w) ∧ sizedMet enc Tryz.prog Tryz.f3 (OpenSpec.ofChange Rows.imagePlaysSpec) false w args)
      (Rows.imagePlaysSpec.post enc Tryz.prog Tryz.f3 false true false false) := by
  refine returnsInHanded_of_change_and (C := Tryz.checked) (X := fun w _ => laidMetH Tryz.prog Im.laidB w) (fun _ _ _ hh h => h.of_heap hh) Im.own started (by kernel_rfl) Tryz.func3
    (ChangeSpec.witness_shaped (enc := enc) (C := Tryz.checked) (os := os) (X := fun w _ => laidMetH Tryz.prog Im.laidB w) false (World.doorLaid Tryz.prog 21 os) #[.slice none 0 0] 8 rfl (World.shaped_of_RefB (by kernel_rfl) (by kernel_rfl)) (by kernel_rfl) (by kernel_rfl) (by kernel_rfl) (Im.door_metB os _)) ?_
  intro W base args ds gs before hval0 hW _ _ hL _
  have hval : ∀ (j : Nat) t v, Tryz.f3.params[j]? = some t → args[j]? = some v → Value.okWide Tryz.prog W .any base t v := hval0
  have hW' := hW
  obtain ⟨p, q, hA0, hV, rfl, hfz, hnd⟩ := hW
  have hA : DataW.TrodAll enc Tryz.prog W 0 (fun _ => true) true Tryz.f3.params.toList args.toList ds p := hA0
  rw [Tryz.params3] at hA hval
  obtain ⟨v0, vs0, d0, ds0, p0, q0, hargs, rfl, rfl, h0, r0⟩ := trodAll_cons hA
  obtain ⟨rfl, rfl, rfl⟩ := trodAll_nil r0
  obtain rfl : args = #[v0] := by cases args; simp_all
  obtain ⟨rfl, rfl⟩ := trodVars_none hV
  obtain ⟨A0, n0, c0, rfl⟩ := okWide_slice Tryz.underlying22 (hval 0 22 v0 rfl rfl)
  have k0 := h0
  have lt0 : ∀ x ∈ p0, x.block < W.heap.size := by obtain ⟨m, hm⟩ := k0; exact DataW.trod_lt m _ _ _ hm
  obtain ⟨l0, hln0, hft0, hsr0⟩ := open_ops14 h0
  have met := Im.met_of_laidB hL
  clear hA0 hval0
  refine (Plays_any A0 n0 c0 l0 W met.1 met.2 hln0 hft0 hsr0).mono fun e W' ⟨he, bel⟩ => ?_
  subst he
  exact ⟨_, rfl, _, _, _, [], _, [], hW', trodAll_mk1 (shut_bool Tryz.underlying4 _), (trodAll_cons_mk (Below.trod Im.laidOut (by kernel_rfl) (of_decide_eq_true (by kernel_rfl)) k0 bel lt0) trodAll_mk0), rfl, bel.frame _, fun h => by cases h⟩

theorem row : Rows.ImagePlaysSaid :=
  OpenClaim.holds_of_wide 3 Tryz.f3 rfl rfl rfl rfl rfl rfl rfl ⟨rfl, rfl, rfl, rfl, rfl⟩ rfl rfl rfl rfl rfl (by kernel_rfl) Tryz.func3 (by kernel_rfl)
    (of_decide_eq_true (by kernel_rfl)) (by unfold Func.isWrapper; first | (rw [if_pos (by decide +kernel)]; kernel_rfl) | (rw [if_neg (by decide +kernel)]; exact ⟨rfl, rfl⟩))
    (fun os started H enc _ => lifted os started H enc)

theorem proved : Rows.ImagePlaysCardSaid :=
  Claim7.holds_tied_plain_at .later [] [.handle, .data] true Rows.imagePlaysCard.stood.harness true
    row (fun _ h => by cases h) (by kernel_rfl) (fun _ h => by cases h) imagePlays_row_tie rfl ⟨rfl, rfl⟩ (by kernel_rfl) rfl
    (fun f fn hf hfn => by
      obtain rfl : f = 3 := Option.some.inj ((show Tryz.prog.funcNamed "isobar/isobarlaw14.ImagePlays" = some 3 by kernel_rfl).symm.trans hf) |>.symm
      obtain rfl : fn = Tryz.f3 := (Option.some.inj (Tryz.func3.symm.trans hfn)).symm
      exact ⟨by kernel_rfl, fun j t ht => by
        rw [Tryz.params3] at ht
        have hm : t ∈ [22] := by simpa using Array.mem_of_getElem? ht
        have hall : ([22].all fun u => !Tryz.prog.wantsStandIn u) = true := by kernel_rfl
        exact (show Tryz.prog.wantsStandIn t = false by simpa using List.all_eq_true.1 hall t hm)⟩)
    (by kernel_rfl)
#print axioms proved
end Go.Proofs.YtnmpckhlpkmojaaGreatDoor.imagePlays
