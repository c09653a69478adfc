/-
  The contract of the volume's Checkpoint: the journal is flushed, each block whose contents come from a record is brought home, the disk is flushed, and the records up to a number are dropped; or the fault volume, upto, around ErrRange. Condition: the table of half bytes holds what the program's own text lays.
-/
import Derived.Test.YtapiogcoipeinaaDoorJnA
import Derived.Test.YtapiogcoipeinaaDoorRcDecode
import Derived.Test.YtapiogcoipeinaaDoorDkNew
import Derived.Test.YtapiogcoipeinaaDoorJnB
import Derived.Lib.MinMax
import Derived.Laws.StructEq
import Derived.BigQuiet
import Derived.Deep.RegionHeld3

/-
  Home sectors and the contents of a block, in plain words: what a home sector contains, that unlike contents have unlike sectors, and which record a block's contents are of. Plain theorems, no program.
-/
namespace Go.Proofs.YtapiogcoipeinaaDoor.Vo
open Pk Sm Rc Dk Jn

/-- What a home sector contains: the number of the record, and its data. -/
@[ext] structure Hm where
  s : Nat
  d : ByteArray
/-- That of a block that was never written. -/
def hm0 : Hm := ⟨0, ⟨#[]⟩⟩
def mbod (b : Nat) (h : Hm) : List UInt8 := enc (clamp h.s) ++ enc (clamp b) ++ enc h.d.size ++ h.d.data.toList
def msec (b : Nat) (h : Hm) : Sec := seal4 (pad (mbod b h))
structure MOk (h : Hm) : Prop where
  pos : 1 ≤ h.s
  num : NumN h.s
  len : h.d.size ≤ 16
theorem mbod_le {h : Hm} (k : h.d.size ≤ 16) (b : Nat) : (mbod b h).length ≤ 60 := by
  have h1 := enc_le (clamp h.s)
  have h2 := enc_le (clamp b)
  have h3 := enc_le h.d.size
  have h4 := size_eq h.d
  unfold mbod
  simp only [List.length_append]
  omega
theorem msec_length {h : Hm} (k : h.d.size ≤ 16) (b : Nat) : (msec b h).length = 64 := by
  unfold msec
  rw [seal4_length, pad_length _ (mbod_le k b)]
/-- What is read of bytes. -/
def mgot (l : List UInt8) : Hm :=
  ⟨(rnum l 0).1, str (rtext (rnum (rnum l 0).2.1 (rnum l 0).2.2).2.1 (rnum (rnum l 0).2.1 (rnum l 0).2.2).2.2 16).1⟩
theorem mgot_step {l l1 l2 l3 d : List UInt8} {e1 e2 e3 s b : Nat} (h1 : rnum l 0 = (s, l1, e1)) (h2 : rnum l1 e1 = (b, l2, e2)) (h3 : rtext l2 e2 16 = (d, l3, e3)) : mgot l = ⟨s, str d⟩ := by
  unfold mgot
  simp only [h1, h2, h3]
theorem mgot_num (l : List UInt8) : NumN (mgot l).s := rnum_lt _ _
theorem mgot_len (l : List UInt8) : (mgot l).d.size ≤ 16 := by
  have := rtext_le (rnum (rnum l 0).2.1 (rnum l 0).2.2).2.1 (rnum (rnum l 0).2.1 (rnum l 0).2.2).2.2
  have h2 := size_eq (mgot l).d
  have h3 : (mgot l).d.data.toList = (rtext (rnum (rnum l 0).2.1 (rnum l 0).2.2).2.1 (rnum (rnum l 0).2.1 (rnum l 0).2.2).2.2 16).1 := by simp [mgot, str]
  rw [h3] at h2
  omega
theorem mgot_bod {b : Nat} {h : Hm} (k : MOk h) (hb : NumN b) (r : List UInt8) : mgot (mbod b h ++ r) = h := by
  have hs := k.num
  have hd := k.len
  unfold NumN at hs hb
  have e1 : ∀ t, rnum (enc (clamp h.s) ++ t) 0 = (h.s, t, 0) := fun t => by rw [clampN k.num]; exact rnum_enc _ _ (by omega)
  have e2 : ∀ t, rnum (enc (clamp b) ++ t) 0 = (b, t, 0) := fun t => by rw [clampN hb]; exact rnum_enc _ _ (by omega)
  have e3 : rtext (enc h.d.size ++ h.d.data.toList ++ r) 0 16 = (h.d.data.toList, r, 0) := by
    have := rtext_enc h.d.data.toList r 16 (by rw [size_eq]; omega) (by rw [size_eq]; omega)
    rw [size_eq] at this
    exact this
  have e0 : mbod b h ++ r = enc (clamp h.s) ++ (enc (clamp b) ++ (enc h.d.size ++ h.d.data.toList ++ r)) := by simp [mbod]
  rw [e0, mgot_step (e1 _) (e2 _) e3, str_of]
theorem mgot_pad {b : Nat} {h : Hm} (k : MOk h) (hb : NumN b) : mgot (pad (mbod b h)) = h := mgot_bod k hb _
theorem msec_inj {b : Nat} {h h' : Hm} (k : MOk h) (k' : MOk h') (hb : NumN b) (e : msec b h = msec b h') : h = h' := by
  have := seal4_inj e
  rw [← mgot_pad k hb, this, mgot_pad k' hb]

/-- A home sector. -/
def hom (b : Nat) (h : Hm) : Sec := if h.s = 0 then zer else msec b h
def Wf (h : Hm) : Prop := h = hm0 ∨ MOk h
theorem Wf.zero {h : Hm} (k : Wf h) (e : h.s = 0) : h = hm0 := by
  rcases k with rfl | k
  · rfl
  · have := k.pos; omega
theorem Wf.ok {h : Hm} (k : Wf h) (e : h.s ≠ 0) : MOk h := by
  rcases k with rfl | k
  · exact absurd rfl e
  · exact k
theorem Wf.num {h : Hm} (k : Wf h) : NumN h.s := by
  rcases k with rfl | k
  · exact Nat.zero_le _
  · exact k.num
theorem Wf.len {h : Hm} (k : Wf h) : h.d.size ≤ 16 := by
  rcases k with rfl | k
  · exact Nat.zero_le _
  · exact k.len
theorem hom_zero (b : Nat) : hom b hm0 = zer := if_pos rfl
theorem hom_ok {b : Nat} {h : Hm} (k : MOk h) : hom b h = msec b h := if_neg (by have := k.pos; omega)
theorem hom_length {h : Hm} (k : Wf h) (b : Nat) : (hom b h).length = 64 := by
  unfold hom
  split
  · exact List.length_replicate
  · exact msec_length k.len b
open Classical in
/-- What a home sector contains, if it is valid. -/
noncomputable def unm (b : Nat) (s : Sec) : Option Hm := if h : ∃ x, Wf x ∧ s = hom b x then some h.choose else none
theorem unm_spec {b : Nat} {s : Sec} {x : Hm} (h : unm b s = some x) : Wf x ∧ s = hom b x := by
  unfold unm at h
  split at h
  · rename_i hx
    cases h
    exact hx.choose_spec
  · cases h
theorem hom_inj {b : Nat} {x y : Hm} (hx : Wf x) (hy : Wf y) (hb : NumN b) (e : hom b x = hom b y) : x = y := by
  rcases hx with rfl | hx <;> rcases hy with rfl | hy
  · rfl
  · rw [hom_zero, hom_ok hy] at e
    exact absurd e (zer_no _)
  · rw [hom_zero, hom_ok hx] at e
    exact absurd e.symm (zer_no _)
  · rw [hom_ok hx, hom_ok hy] at e
    exact msec_inj hx hy hb e
theorem unm_some {b : Nat} {x : Hm} (h : Wf x) (hb : NumN b) : unm b (hom b x) = some x := by
  have hx : ∃ y, Wf y ∧ hom b x = hom b y := ⟨x, h, rfl⟩
  unfold unm
  rw [dif_pos hx]
  exact congrArg some (hom_inj h hx.choose_spec.1 hb hx.choose_spec.2).symm
theorem unm_none {b : Nat} {s : Sec} (h : ∀ x, Wf x → s ≠ hom b x) : unm b s = none := by
  unfold unm
  rw [dif_neg]
  rintro ⟨x, h1, h2⟩
  exact h x h1 h2

/-! ### The contents of a block -/
def Hits (b : Nat) (now : Hm) (e : Ent) : Prop := e.k = 1 ∧ e.b = (b : Int) ∧ now.s < e.s
instance (b : Nat) (now : Hm) (e : Ent) : Decidable (Hits b now e) := by unfold Hits; exact inferInstance
def upd (b : Nat) (now : Hm) (e : Ent) : Hm := if Hits b now e then ⟨e.s, e.d⟩ else now
def cont (b : Nat) (h : Hm) (E : List Ent) : Hm := E.foldl (upd b) h
theorem cont_snoc (b : Nat) (h : Hm) (E : List Ent) (e : Ent) : cont b h (E ++ [e]) = upd b (cont b h E) e := by simp [cont]
theorem upd_ge (b : Nat) (now : Hm) (e : Ent) : now.s ≤ (upd b now e).s := by
  unfold upd
  by_cases hx : Hits b now e
  · rw [if_pos hx]
    exact Nat.le_of_lt hx.2.2
  · rw [if_neg hx]
    exact Nat.le_refl _
theorem cont_ge (b : Nat) : ∀ (E : List Ent) (h : Hm), h.s ≤ (cont b h E).s
  | [], _ => Nat.le_refl _
  | e :: E, h => Nat.le_trans (upd_ge b h e) (cont_ge b E (upd b h e))
theorem cont_max (b : Nat) : ∀ (E : List Ent) (h : Hm), ∀ e ∈ E, e.k = 1 → e.b = (b : Int) → e.s ≤ (cont b h E).s
  | x :: E, h, e, he, h1, h2 => by
    rcases List.mem_cons.1 he with rfl | he
    · refine Nat.le_trans ?_ (cont_ge b E (upd b h e))
      unfold upd
      by_cases hx : Hits b h e
      · rw [if_pos hx]
        exact Nat.le_refl _
      · rw [if_neg hx]
        have : ¬ h.s < e.s := fun h3 => hx ⟨h1, h2, h3⟩
        omega
    · exact cont_max b E (upd b h x) e he h1 h2
theorem cont_stay (b : Nat) : ∀ (E : List Ent) (h : Hm), (∀ e ∈ E, e.k = 1 → e.b = (b : Int) → e.s ≤ h.s) → cont b h E = h
  | [], _, _ => rfl
  | x :: E, h, hn => by
    have h0 : upd b h x = h := if_neg fun h1 => by
      have := hn x (by simp) h1.1 h1.2.1
      have := h1.2.2
      omega
    show cont b (upd b h x) E = h
    rw [h0]
    exact cont_stay b E h fun e he => hn e (by simp [he])
/-- At home, the contents are the same, whichever of the records are held. -/
theorem cont_home (b : Nat) (h : Hm) (E F : List Ent) (hs : ∀ e ∈ F, e ∈ E) : cont b (cont b h E) F = cont b h E :=
  cont_stay b F _ fun e he h1 h2 => cont_max b E h e (hs e he) h1 h2
theorem cont_same (b : Nat) (h : Hm) (E : List Ent) (hs : (cont b h E).s = h.s) : cont b h E = h :=
  cont_stay b E h fun e he h1 h2 => by rw [← hs]; exact cont_max b E h e he h1 h2
theorem cont_or (b : Nat) : ∀ (E : List Ent) (h : Hm), cont b h E = h ∨ ∃ e ∈ E, e.k = 1 ∧ e.b = (b : Int) ∧ cont b h E = ⟨e.s, e.d⟩
  | [], _ => Or.inl rfl
  | x :: E, h => by
    rcases cont_or b E (upd b h x) with h1 | ⟨e, he, h1, h2, h3⟩
    · by_cases hx : Hits b h x
      · exact Or.inr ⟨x, by simp, hx.1, hx.2.1, h1.trans (if_pos hx)⟩
      · exact Or.inl (h1.trans (if_neg hx))
    · exact Or.inr ⟨e, by simp [he], h1, h2, h3⟩
theorem EOk.home {e : Ent} (h : EOk e) (hk : e.k = 1) : MOk ⟨e.s, e.d⟩ := by
  have h1 := h.1
  unfold Rgt at h1
  exact ⟨by show 1 ≤ e.s; omega, by show e.s ≤ _; omega, by show e.d.size ≤ 16; omega⟩
theorem cont_wf {b : Nat} {h : Hm} {E : List Ent} (k : Wf h) (hE : ∀ e ∈ E, EOk e) : Wf (cont b h E) := by
  rcases cont_or b E h with h1 | ⟨e, he, h1, _, h3⟩
  · rw [h1]; exact k
  · rw [h3]; exact Or.inr (EOk.home (hE e he) h1)
theorem cont_lt {b : Nat} {h : Hm} {E : List Ent} {N : Nat} (k : h.s < N) (hE : ∀ e ∈ E, e.s < N) : (cont b h E).s < N := by
  rcases cont_or b E h with h1 | ⟨e, he, _, _, h3⟩
  · rw [h1]; exact k
  · rw [h3]; exact hE e he
/-- A marker changes no block. -/
theorem cont_mark (b : Nat) (h : Hm) (E : List Ent) {e : Ent} (he : e.k ≠ 1) : cont b h (E ++ [e]) = cont b h E := by
  rw [cont_snoc]
  exact if_neg fun h1 => he h1.1
theorem cont_other (b : Nat) (h : Hm) (E : List Ent) {e : Ent} (he : e.b ≠ (b : Int)) : cont b h (E ++ [e]) = cont b h E := by
  rw [cont_snoc]
  exact if_neg fun h1 => he h1.2.1
/-- A write is the block's contents at once. -/
theorem cont_write (b : Nat) (h : Hm) (E : List Ent) {e : Ent} (h1 : e.k = 1) (h2 : e.b = (b : Int)) (h3 : (cont b h E).s < e.s) : cont b h (E ++ [e]) = ⟨e.s, e.d⟩ := by
  rw [cont_snoc]
  exact if_pos ⟨h1, h2, h3⟩
theorem Seqs.ok {q : Nat} {E : List Ent} (h : Seqs q E) : ∀ e ∈ E, EOk e ∧ q ≤ e.s ∧ e.s < q + E.length := fun e he => by
  obtain ⟨i, hi⟩ := List.getElem?_of_mem he
  have h1 := h.get hi
  have h2 := (List.getElem?_eq_some_iff.1 hi).1
  exact ⟨h1.1, by omega, by omega⟩

end Go.Proofs.YtapiogcoipeinaaDoor.Vo

/-
  The contracts of the volume's home sectors: encode gives the home sector; read reads a number, another one and a text; blank tells whether a sector is fresh. Nothing that was there is changed. Condition: the table of half bytes holds what the program's own text lays.
-/
namespace Go.Proofs.YtapiogcoipeinaaDoor.Vo
open Go.RowKit
open Pk Sm Fa Rc Dk Jn

/-- A home by value. -/
abbrev mcs (s : Nat) (d : ByteArray) : Array Value := #[.int .i64 (s : Int), .string d]
abbrev hm2 (h : Hm) : Value := .agg (mcs h.s h.d)
/-- A boxed home. -/
def Mx (w : World) (G s : Nat) (d : ByteArray) : Prop := w.heap[G]? = some (.cells (mcs s d) 59 (0, 0))
section
variable {w w' : World} {G R e s : Nat} {d : ByteArray} {L : List UInt8}
theorem Mx.new (w : World) (s : Nat) (d : ByteArray) : Mx (w.alloc (.cells (mcs s d) 59)) w.heap.size s d := heap_alloc_new w _
theorem mx_below (w : World) (s : Nat) (d : ByteArray) : Below w.heap.size w (w.alloc (.cells (mcs s d) 59)) := (Below.refl _ _).alloc (Nat.le_refl _) _
theorem Mx.lt (h : Mx w G s d) : G < w.heap.size := (Array.getElem?_eq_some_iff.1 h).1
theorem Mx.below (h : Mx w G s d) (hb : Below w.heap.size w w') : Mx w' G s d := (hb.block G h.lt).trans h
theorem Mx.drew (h : Mx w G s d) : Mx w.drew G s d := h
theorem Mx.c0 (h : Mx w G s d) : w.cell? ⟨G, 0, none⟩ = some (.int .i64 (s : Int)) := by simp [World.cell?, show w.heap[G]? = _ from h]
theorem Mx.c1 (h : Mx w G s d) : w.cell? ⟨G, 1, none⟩ = some (.string d) := by simp [World.cell?, show w.heap[G]? = _ from h]
theorem Mx.free (h : Mx w G s d) (i : Nat) : w.frozen? ⟨G, i, none⟩ = false := blk_free h i
theorem Mx.only (h : Mx w G s d) (hg : w.grownBy w' (some R)) (hne : G ≠ R) : Mx w' G s d := by
  obtain ⟨_, _, _, _, hk⟩ := hg
  exact (hk G h.lt (by simp; exact hne)).trans h
theorem Mx.set0 (h : Mx w G s d) (x : Nat) : Mx (w.setCell ⟨G, 0, none⟩ (.int .i64 (x : Int))) G x d := heap_setCell_same w G 0 _ _ (.int .i64 (x : Int)) h
theorem Mx.set1 (h : Mx w G s d) (x : ByteArray) : Mx (w.setCell ⟨G, 1, none⟩ (.string x)) G s x := heap_setCell_same w G 1 _ _ (.string x) h
abbrev put2 (w : World) (G s : Nat) (d : ByteArray) : World := (w.setCell ⟨G, 0, none⟩ (.int .i64 (s : Int))).setCell ⟨G, 1, none⟩ (.string d)
theorem Mx.put (h : Mx w G s d) (s' : Nat) (d' : ByteArray) : Mx (put2 w G s' d') G s' d' := (h.set0 s').set1 d'
theorem below_put2 {w0 w : World} {B G : Nat} (h : Below B w0 w) (hG : B ≤ G) (s : Nat) (d : ByteArray) : Below B w0 (put2 w G s d) :=
  (h.setCell (p := ⟨G, 0, none⟩) hG _).setCell (p := ⟨G, 1, none⟩) hG _
/-- A reader is kept while a home's own fields are set. -/
theorem rd_keep {i : Nat} (hr : Rd w R L e) (h : Mx w G s d) (hne : G ≠ R) (v : Value) : Rd (w.setCell ⟨G, i, none⟩ v) R L e := by
  obtain ⟨A, c, h1, h2, h3, h4⟩ := hr
  refine ⟨A, c, (heap_setCell_other _ ⟨G, i, none⟩ R _ (fun e => hne e.symm)).trans h1, h2, h3, fun hn => ?_⟩
  obtain ⟨p, o, rfl, hp, hc⟩ := h4 hn
  refine ⟨p, o, rfl, hp, fun j u hu => ?_⟩
  have hcj := hc j u hu
  have hpG : p ≠ G := by
    rintro rfl
    simp only [World.cell?, show w.heap[p]? = _ from h] at hcj
    match hoj : o + j, hcj with
    | 0, hcj => simp [cel] at hcj
    | 1, hcj => simp [cel] at hcj
    | q + 2, hcj => simp at hcj
  rw [← hcj]
  have := heap_setCell_other w ⟨G, i, none⟩ p v hpG
  simp only [World.cell?, this]
end
theorem home_size : (Tryd.prog.info? 59).map (·.size) = some 2 := by kernel_rfl
theorem enc_two (s b : Int) : ([] ++ enc (clamp s) ++ enc (clamp b)).length ≤ 18 := by
  have h1 := enc_le (clamp s)
  have h2 := enc_le (clamp b)
  simp only [List.length_append, List.length_nil]
  omega

set_option maxRecDepth 100000 in
set_option maxHeartbeats 1000000 in
theorem encode_any (h : Hm) (b : Nat) (w : World) (ht : Tab w) (hd : h.d.size ≤ 16) :
    Calls Tryd.prog 43 #[hm2 h, .int .i64 (b : Int)] w fun e w' => ∃ p o c, e = .returned (.slice (some ⟨p, o, none⟩) 64 c) ∧ 64 ≤ c ∧ c ≤ 9223372036854775807 ∧
      Byt w' w'.heap.size (some ⟨p, o, none⟩) (msec b h) ∧ Below w.heap.size w w' := by
  have hL4 := mbod_le hd b
  obtain ⟨s, d⟩ := h
  have hbx := Mx.new w s d
  have HB := hide (mx_below w s d)
  have hL3 := enc_two s b
  simp only [List.length_append] at hL3
  have HL := hide hL3
  have HL4 := hide hL4
  have Ht := hide ht
  have Hd := hide hd
  have hpos := ht.pos
  clear hL3 hL4 ht hd
  go_enter Tryd.func43, Tryd.ntmps43
  go_wp2_with fail
  generalize w.alloc _ = w0 at *
  have hc0 := hbx.c0
  go_wp2_with fail
  have HN := hide (Number_any none [] 0 (s : Int) w0 Byt.nil (by simp))
  refine HN.out.mono ?_
  rintro e w1 ⟨v1, rfl, ho1, hb1⟩
  have hbx1 := hbx.below hb1
  have HB1 := hide (HB.out.trans (hb1.mono HB.out.size))
  clear hbx HN hb1 HB hc0
  go_wp2_with fail
  refine (Number_own v1 _ _ (b : Int) w1 ho1 (by have := HL.out; simp only [List.length_append]; omega)).mono ?_
  rintro e w2 ⟨v2, rfl, ho2, hb2⟩
  have hbx2 := hbx1.below hb2
  have hc2 := hbx2.c1
  have HB2 := hide (HB1.out.trans (hb2.mono HB1.out.size))
  clear hbx1 hb2 ho1 HB1
  go_wp2_with fail
  refine (Text_own v2 _ _ d w2 ho2 (by have := HL.out; have := Hd.out; simp only [List.length_append]; omega)).mono ?_
  rintro e w4 ⟨v4, rfl, ho4, hb4⟩
  have HB4 := hide (HB2.out.trans (hb4.mono HB2.out.size))
  have he : ([] ++ enc (clamp (s : Int)) ++ enc (clamp (b : Int)) ++ enc d.size ++ d.data.toList) = mbod b ⟨s, d⟩ := by simp [mbod]
  rw [he] at ho4
  obtain ⟨A, c, rfl, hk1, hk2, hby⟩ := ho4.form
  have HS := hide (Sector_told A _ _ c w4 rfl (by have := HL4.out; omega) hby (Ht.out.below HB4.out hpos))
  clear hbx2 hc2 hb4 ho2 ho4 HB2 he hk1 hk2 hby
  go_wp2_with fail
  refine HS.out.mono ?_
  rintro r w5 ⟨p, o, c', rfl, hc1, hc2, _, hby5, hb5⟩
  have HB5 := hide (HB4.out.trans (hb5.mono HB4.out.size))
  have HY := hide hby5
  clear HS hby5 hb5
  go_wp2
  go_ret
  exact ⟨p, o, c', rfl, hc1, hc2, HY.out, HB5.out⟩

set_option maxRecDepth 100000 in
set_option maxHeartbeats 1000000 in
theorem read_any (A : Option Addr) (L : List UInt8) (n c : Nat) (w : World) (hn : L.length = n) (hb : Byt w w.heap.size A L) (hl : n ≤ c) (hc : c ≤ maxLen) (h : Hm) (hh : mgot L = h) :
    Calls Tryd.prog 58 #[.slice A n c] w fun e w' => e = .returned (hm2 h) ∧ Below w.heap.size w w' := by
  obtain ⟨s, L1, e1, h1⟩ : ∃ g l1 e1, rnum L 0 = (g, l1, e1) := ⟨_, _, _, rfl⟩
  obtain ⟨b, L2, e2, h2⟩ : ∃ s l2 e2, rnum L1 e1 = (s, l2, e2) := ⟨_, _, _, rfl⟩
  obtain ⟨d, L3, e3, h3⟩ : ∃ k l3 e3, rtext L2 e2 16 = (k, l3, e3) := ⟨_, _, _, rfl⟩
  obtain rfl : (⟨s, str d⟩ : Hm) = h := by rw [← hh]; exact (mgot_step h1 h2 h3).symm
  clear hh
  have hbx := Mx.new w 0 ⟨#[]⟩
  have hb0 := mx_below w 0 ⟨#[]⟩
  have H1 := hide h1
  have H2 := hide h2
  have H3 := hide h3
  clear h1 h2 h3
  have hby0 := (hb.below hb0).more hb0.size
  have HB0 := hide hb0
  have Hn := hide hn
  clear hb0 hn
  go_enter Tryd.func58, Tryd.ntmps58
  go_wp2_with fail
  generalize w.alloc _ = w0 at *
  have hG0 := hbx.lt
  refine (Read_told A L n c w0 Hn.out hby0 hl hc).mono ?_
  rintro r w1 ⟨rfl, hr1, hb1⟩
  obtain ⟨R, hR⟩ : ∃ R, R = w0.heap.size := ⟨_, rfl⟩
  rw [← hR] at hr1 hb1 hG0
  have hRR := hide hR
  have hne : w.heap.size ≠ R := by omega
  have hbx1 : Mx w1 w.heap.size 0 ⟨#[]⟩ := hbx.below (by rw [← hR]; exact hb1)
  have HB1 := hide (HB0.out.trans (hb1.mono (by rw [hR]; exact HB0.out.size)))
  have hRlt : w.heap.size ≤ R := by omega
  rw [← hR]
  clear hbx hb1 HB0 hby0 hb Hn hR hRR
  go_wp2_with fail
  refine (Number_at' R 0 L w1 hr1 s L1 e1 H1.out).mono ?_
  rintro r w2 ⟨rfl, hr2, hg2⟩
  have hbx2 := hbx1.only hg2 hne
  have HB2 := hide (HB1.out.trans (below_of_only hg2 hRlt hr1.lt))
  have hc0 := hbx2.c0
  have hf0 := hbx2.free 0
  have hr2' := rd_keep (i := 0) hr2 hbx2 hne (.int .i64 (s : Int))
  have hbx2' := hbx2.set0 s
  have HB2' := hide (HB2.out.setCell (p := ⟨w.heap.size, 0, none⟩) (Nat.le_refl _) (.int .i64 (s : Int)))
  clear hbx1 hg2 hr1 HB1 hr2 HB2 hbx2
  go_wp2_with fail
  generalize w2.setCell _ _ = w2' at *
  refine (Number_at' R e1 L1 w2' hr2' b L2 e2 H2.out).mono ?_
  rintro r w3 ⟨rfl, hr3, hg3⟩
  have hbx3 := hbx2'.only hg3 hne
  have HB3 := hide (HB2'.out.trans (below_of_only hg3 hRlt hr2'.lt))
  clear hbx2' hg3 hr2' HB2' hc0 hf0
  go_wp2_with fail
  refine (Text_at' R e2 16 L2 w3 hr3 d L3 e3 H3.out).mono ?_
  rintro r w5 ⟨rfl, hr5, hg5⟩
  have hbx5 := hbx3.only hg5 hne
  have HB5 := hide (HB3.out.trans (below_of_only hg5 hRlt hr3.lt))
  have hz0 := hbx5.c0
  have hz1 := hbx5.c1
  have hy0 := hbx5.free 0
  have hy1 := hbx5.free 1
  have HX := hide ((hbx5.set1 (str d)).put s (str d))
  have HY := hide (below_put2 (HB5.out.setCell (p := ⟨w.heap.size, 1, none⟩) (Nat.le_refl _) (.string (str d))) (Nat.le_refl _) s (str d))
  clear hbx3 hg5 hr3 HB3 hr5 HB5 hbx5
  go_wp2
  refine bodyPost_ret (v := .agg (mcs s (str d))) (results_cell_row rfl _ _ w.heap.size 59 _ (0, 0) _ rfl (show _ from HX.out) Tryd.underlying59 rfl home_size) rfl ?_
  exact ⟨rfl, HY.out⟩

theorem zero_bytes : (madeCells #[.int .u8 0] 64).toList = cels zer := by kernel_rfl
set_option maxRecDepth 100000 in
set_option maxHeartbeats 1000000 in
theorem blank_any (A : Option Addr) (L : List UInt8) (n c : Nat) (w : World) (hn : L.length = n) (hb : Byt w w.heap.size A L) (v : Bool) (hv : ((str L).toList == (str zer).toList) = v) :
    Calls Tryd.prog 56 #[.slice A n c] w fun e w' => e = .returned (.bool v) ∧ Below w.heap.size w w' := by
  obtain ⟨i0, hi0, hz0, hz1, hz2⟩ := info_parts u8_info
  have Hz := hide hz1
  have Hz2 := hide hz2
  have Hn := hide hn
  have Hb := hide hb
  have Hv := hide hv
  clear hz1 hz2 hn hb hv
  go_enter Tryd.func56, Tryd.ntmps56
  go_wp2_with (with_reducible refine wpList_make_told rfl 83 _ _ rfl 5 i0 _ Tryd.underlying83 hi0 hz0 .i64 .i64 64 64 rfl rfl (by omega) (by rw [Hz2.out]; decide) (by omega) 1 Hz.out ?_)
  intro w1 Hw1
  have HB1 : Hid (Below w.heap.size w w1) := by rw [Hw1.out]; exact (Below.refl _ _).alloc (Nat.le_refl _) _
  have hg1 : w1.heap[w.heap.size]? = some (.cells (cels zer).toArray 5 (0, 0)) := by
    rw [Hw1.out]
    refine (heap_alloc_new w _).trans ?_
    rw [← zero_bytes, Array.toArray_toList]
  have HQ := hide (Equal_any A (some ⟨w.heap.size, 0, none⟩) n c 64 64 _ _ L zer w1 Hn.out (by rfl) (Hb.out.below HB1.out) (Sm.byt_row hg1) v Hv.out)
  clear hg1 Hw1
  go_wp2_with fail
  refine HQ.out.mono ?_
  rintro r w' ⟨rfl, rfl⟩
  clear HQ
  go_wp2
  go_ret
  exact ⟨rfl, HB1.out⟩

end Go.Proofs.YtapiogcoipeinaaDoor.Vo

/-
  A volume in memory: its struct beside its journal and its disk, among other things that are held on to; what stays of it when other calls are done. Plain theorems, and the disk's own calls beside a journal.
-/
namespace Go.Proofs.YtapiogcoipeinaaDoor.Vo
open Go.RowKit
open Pk Sm Fa Rc Dk Jn

/-- The cells of a volume: its disk, its ring, its journal, what its home sectors contain. -/
abbrev vcs (q n p : Nat) (H : Nat → Hm) : Array Value := #[.pointer (some ⟨q, 0, none⟩), .int .i64 (n : Int), .pointer (some ⟨p, 0, none⟩),
  .int .i64 ((H 0).s : Int), .string (H 0).d, .int .i64 ((H 1).s : Int), .string (H 1).d, .int .i64 ((H 2).s : Int), .string (H 2).d, .int .i64 ((H 3).s : Int), .string (H 3).d,
  .int .i64 ((H 4).s : Int), .string (H 4).d, .int .i64 ((H 5).s : Int), .string (H 5).d, .int .i64 ((H 6).s : Int), .string (H 6).d, .int .i64 ((H 7).s : Int), .string (H 7).d]
def VB (w : World) (v q n p : Nat) (H : Nat → Hm) : Prop := w.heap[v]? = some (.cells (vcs q n p H) 62 (0, 0))
/-- One of the homes is x. -/
def upH (H : Nat → Hm) (b : Nat) (x : Hm) : Nat → Hm := fun i => if i = b then x else H i
theorem upH_same (H : Nat → Hm) (b : Nat) (x : Hm) : upH H b x b = x := if_pos rfl
theorem upH_ne (H : Nat → Hm) {b i : Nat} (x : Hm) (h : i ≠ b) : upH H b x i = H i := if_neg h
theorem below8 {b : Nat} (h : b < 8) : b = 0 ∨ b = 1 ∨ b = 2 ∨ b = 3 ∨ b = 4 ∨ b = 5 ∨ b = 6 ∨ b = 7 := by omega

section
variable {w w' : World} {v q n p b : Nat} {H : Nat → Hm} {x : Hm}
theorem VB.lt (h : VB w v q n p H) : v < w.heap.size := (Array.getElem?_eq_some_iff.1 h).1
theorem VB.below (h : VB w v q n p H) (hb : Below w.heap.size w w') : VB w' v q n p H := (hb.block v h.lt).trans h
theorem VB.free (h : VB w v q n p H) (i : Nat) : w.frozen? ⟨v, i, none⟩ = false := blk_free h i
theorem VB.disk (h : VB w v q n p H) : w.cell? ⟨v, 0, none⟩ = some (.pointer (some ⟨q, 0, none⟩)) := by simp [World.cell?, show w.heap[v]? = _ from h]
theorem VB.ring (h : VB w v q n p H) : w.cell? ⟨v, 1, none⟩ = some (.int .i64 (n : Int)) := by simp [World.cell?, show w.heap[v]? = _ from h]
theorem VB.jour (h : VB w v q n p H) : w.cell? ⟨v, 2, none⟩ = some (.pointer (some ⟨p, 0, none⟩)) := by simp [World.cell?, show w.heap[v]? = _ from h]
theorem VB.seq (h : VB w v q n p H) (hb : b < 8) : w.cell? ⟨v, 3 + b * 2, none⟩ = some (.int .i64 ((H b).s : Int)) := by
  rcases below8 hb with rfl | rfl | rfl | rfl | rfl | rfl | rfl | rfl <;> simp [World.cell?, show w.heap[v]? = _ from h]
theorem VB.dat (h : VB w v q n p H) (hb : b < 8) : w.cell? ⟨v, 3 + b * 2 + 1, none⟩ = some (.string (H b).d) := by
  rcases below8 hb with rfl | rfl | rfl | rfl | rfl | rfl | rfl | rfl <;> simp [World.cell?, show w.heap[v]? = _ from h]
theorem vcs_set (hb : b < 8) : ((vcs q n p H).setIfInBounds (3 + b * 2) (.int .i64 (x.s : Int))).setIfInBounds (3 + b * 2 + 1) (.string x.d) = vcs q n p (upH H b x) := by
  rcases below8 hb with rfl | rfl | rfl | rfl | rfl | rfl | rfl | rfl <;> rfl
theorem vcs_row (hb : b < 8) : ((vcs q n p H).toList.take (3 + b * 2) ++ ((mcs x.s x.d).toList ++ (vcs q n p H).toList.drop (3 + b * 2 + 2))).toArray = vcs q n p (upH H b x) := by
  rcases below8 hb with rfl | rfl | rfl | rfl | rfl | rfl | rfl | rfl <;> rfl
/-- A home is stored. -/
abbrev putH (w : World) (v b : Nat) (x : Hm) : World := (w.setCell ⟨v, 3 + b * 2, none⟩ (.int .i64 (x.s : Int))).setCell ⟨v, 3 + b * 2 + 1, none⟩ (.string x.d)
theorem VB.put (h : VB w v q n p H) (hb : b < 8) (x : Hm) : VB (putH w v b x) v q n p (upH H b x) := by
  have h1 := heap_setCell_same w v (3 + b * 2) _ _ (.int .i64 (x.s : Int)) h
  have h2 := heap_setCell_same _ v (3 + b * 2 + 1) _ _ (.string x.d) h1
  rw [vcs_set hb] at h2
  exact h2
theorem kept_put (w : World) (v b : Nat) (x : Hm) : Kept (· = v) w (putH w v b x) := Kept.set (K := fun k => k = v) (Kept.set (K := fun k => k = v) (Kept.refl (fun k => k = v) w) rfl _ _) rfl _ _
theorem VB.put' (h : VB w v q n p H) (hb : b < 8) (x : Hm) : VB (w.setRow v ((vcs q n p H).toList.take (3 + b * 2) ++ ((mcs x.s x.d).toList ++ (vcs q n p H).toList.drop (3 + b * 2 + 2))).toArray) v q n p (upH H b x) := by
  rw [vcs_row hb]
  exact setRow_heap w v _ _ _ _ h
end

/-! ### Beside a journal -/
section
variable {w0 w w' : World} {R : Nat → Prop} {p q n v : Nat} {S S' : List Sec} {L L' : List Wr} {h h' : Hd} {E E' : List Ent}
/-- A block that is held on to is changed. -/
theorem JW.kept (j : JW w0 R p q n S L h E w) (hk : Kept (· = v) w w') (hv : R v) (h0 : w0.heap.size ≤ v) : JW w0 R p q n S L h E w' := by
  obtain ⟨G, h1, h2, h3, h4⟩ := j
  exact ⟨G, h1.kept hk (fun k hG e => (h4 v hv).2 (e ▸ hG)), h2, h3.trans (hk.below (fun k e => e ▸ h0) h3.size), fun k hR => ⟨Nat.lt_of_lt_of_le (h4 k hR).1 hk.size, (h4 k hR).2⟩⟩
theorem JW.full (j : JW w0 R p q n S L h E w) : Full (all S L) ∧ (all S L).length = S.length := by
  obtain ⟨G, ⟨D, J, X, k1, _⟩, _⟩ := j
  exact ⟨k1.full.all k1.fits, all_length _ _⟩
theorem JW.read (j : JW w0 R p q n S L h E w) {i : Nat} (hi : i < S.length) (hL : L.length ≤ 1000000) :
    Calls Tryd.prog 38 #[.pointer (some ⟨q, 0, none⟩), .int .i64 i] w fun e w' => ∃ g, e = .returned (.tuple #[.slice (some ⟨g, 0, none⟩) 64 64, .nilIface]) ∧ w.heap.size ≤ g ∧
      Byt w' w'.heap.size (some ⟨g, 0, none⟩) ((all S L).getD i []) ∧ Below w.heap.size w w' := by
  obtain ⟨G, ⟨D, J, X, k1, _⟩, _⟩ := j
  obtain ⟨s, hs⟩ : ∃ s, (all S L)[i]? = some s := ⟨_, List.getElem?_eq_getElem (by rw [all_length]; exact hi)⟩
  refine (Read_any w D q i S L s k1 hs hi hL).mono ?_
  rintro e w' ⟨g, rfl, hg, hc, hb⟩
  rw [getD_of hs]
  exact ⟨g, rfl, hg, Dk.byt_row hc.out, hb⟩
theorem JW.len (j : JW w0 R p q n S L h E w) : Calls Tryd.prog 19 #[.pointer (some ⟨q, 0, none⟩)] w fun e w' => e = .returned (.int .i64 S.length) ∧ w = w' := by
  obtain ⟨G, ⟨D, J, X, k1, _⟩, _⟩ := j
  exact Len_any k1
theorem JW.write (j : JW w0 R p q n S L h E w) {i c : Nat} {A : Option Addr} {s : Sec} (hi : i < S.length) (hb : Byt w w.heap.size A s) (hs : s.length = 64) (hL : L.length ≤ 900000) :
    Calls Tryd.prog 42 #[.pointer (some ⟨q, 0, none⟩), .int .i64 i, .slice A 64 c] w fun e w' => e = .returned .nilIface ∧ JW w0 R p q n S (L ++ [(i, s)]) h E w' ∧ RK R w w' := by
  obtain ⟨G, ⟨D, J, X, k1, k2, k3, k4⟩, h2, h3, h4⟩ := j
  refine (Write_any w D q i c A S L s k1 hi hb hs hL).mono ?_
  rintro e w' ⟨rfl, hp⟩
  exact ⟨rfl, JW.of h2 h3 h4 (Jr.disk k2 k3 k4 hp)⟩
theorem JW.dflush (j : JW w0 R p q n S L h E w) (hL : L.length ≤ 1000000) :
    Calls Tryd.prog 28 #[.pointer (some ⟨q, 0, none⟩)] w fun e w' => e = .returned (.tuple #[]) ∧ JW w0 R p q n (all S L) [] h E w' ∧ RK R w w' := by
  obtain ⟨G, ⟨D, J, X, k1, k2, k3, k4⟩, h2, h3, h4⟩ := j
  refine (Dk.Flush_any w D q S L k1 hL).mono ?_
  rintro e w' ⟨rfl, hp⟩
  exact ⟨rfl, JW.of h2 h3 h4 (Jr.disk k2 k3 k4 hp)⟩
end

/-! ### A volume -/
/-- The volume v on the disk q, with the journal p: the sectors S, the loose writes L, the journal's head h and records E, what the home sectors contain H. R is what else is held on to. -/
structure VW (w0 : World) (R : Nat → Prop) (v p q n : Nat) (S : List Sec) (L : List Wr) (h : Hd) (E : List Ent) (H : Nat → Hm) (w : World) : Prop where
  jw : JW w0 (fun k => R k ∨ k = v) p q n S L h E w
  box : VB w v q n p H
  ge : w0.heap.size ≤ v
  no : ¬ R v
theorem RK.left {R : Nat → Prop} {v : Nat} {w w' : World} (hk : RK (fun k => R k ∨ k = v) w w') : RK R w w' := fun k hR => hk k (Or.inl hR)
theorem RK.trans {R : Nat → Prop} {w w' w'' : World} (a : RK R w w') (b : RK R w' w'') : RK R w w'' := fun k hR => (b k hR).trans (a k hR)
section
variable {w0 w w' : World} {R : Nat → Prop} {p q n v : Nat} {S S' : List Sec} {L L' : List Wr} {h h' : Hd} {E E' : List Ent} {H H' : Nat → Hm}
theorem VW.after (j : VW w0 R v p q n S L h E H w) (hj : JW w0 (fun k => R k ∨ k = v) p q n S' L' h' E' w') (hk : RK (fun k => R k ∨ k = v) w w') : VW w0 R v p q n S' L' h' E' H w' ∧ RK R w w' :=
  ⟨⟨hj, (hk v (Or.inr rfl)).trans j.box, j.ge, j.no⟩, RK.left hk⟩
theorem VW.below (j : VW w0 R v p q n S L h E H w) (hb : Below w.heap.size w w') : VW w0 R v p q n S L h E H w' ∧ RK R w w' :=
  j.after (j.jw.below hb).1 (j.jw.below hb).2
theorem VW.bel (j : VW w0 R v p q n S L h E H w) : Below w0.heap.size w0 w := j.jw.bel
theorem VW.tab (j : VW w0 R v p q n S L h E H w) (ht : Tab w0) : Tab w := j.jw.tab ht
theorem VW.hold {R' : Nat → Prop} (j : VW w0 R v p q n S L h E H w) (hb : Below w.heap.size w w') (hR : ∀ k, R' k → w.heap.size ≤ k ∧ k < w'.heap.size) : VW w0 (fun k => R k ∨ R' k) v p q n S L h E H w' := by
  have hj := j.jw.hold hb hR
  refine ⟨hj.mono fun k hk => ?_, (j.below hb).1.box, j.ge, fun h1 => ?_⟩
  · rcases hk with (h1 | h1) | h1
    · exact Or.inl (Or.inl h1)
    · exact Or.inr h1
    · exact Or.inl (Or.inr h1)
  · rcases h1 with h1 | h1
    · exact j.no h1
    · have := (hR v h1).1
      have := j.box.lt
      omega
theorem VW.mono {R' : Nat → Prop} (j : VW w0 R v p q n S L h E H w) (hR : ∀ k, R' k → R k) : VW w0 R' v p q n S L h E H w :=
  ⟨j.jw.mono fun k hk => hk.imp (hR k) id, j.box, j.ge, fun h1 => j.no (hR v h1)⟩
/-- The struct itself is stored in. -/
theorem VW.stored (j : VW w0 R v p q n S L h E H w) (hk : Kept (· = v) w w') (hb : VB w' v q n p H') : VW w0 R v p q n S L h E H' w' ∧ RK R w w' :=
  ⟨⟨JW.kept j.jw hk (Or.inr rfl) j.ge, hb, j.ge, j.no⟩, fun k hR => hk.block k (j.jw.choose_spec.2.2.2 k (Or.inl hR)).1 fun e => j.no (e ▸ hR)⟩
theorem VW.drew (j : VW w0 R v p q n S L h E H w) : VW w0 R v p q n S L h E H w.drew := (j.below (Below.refl _ _).drew).1
theorem VW.write (j : VW w0 R v p q n S L h E H w) {i c : Nat} {A : Option Addr} {s : Sec} (hi : i < S.length) (hb : Byt w w.heap.size A s) (hs : s.length = 64) (hL : L.length ≤ 900000) :
    Calls Tryd.prog 42 #[.pointer (some ⟨q, 0, none⟩), .int .i64 i, .slice A 64 c] w fun e w' => e = .returned .nilIface ∧ VW w0 R v p q n S (L ++ [(i, s)]) h E H w' ∧ RK R w w' := by
  refine (JW.write j.jw hi hb hs hL).mono ?_
  rintro e w' ⟨rfl, hj, hk⟩
  exact ⟨rfl, j.after hj hk⟩
/-- A new volume beside a journal. -/
theorem VW.fresh (j : JW w0 R p q n S L h E w) : VW w0 R w.heap.size p q n S L h E H (w.alloc (.cells (vcs q n p H) 62)) ∧ RK R w (w.alloc (.cells (vcs q n p H) 62)) := by
  have hb : Below w.heap.size w (w.alloc (.cells (vcs q n p H) 62)) := (Below.refl _ _).alloc (Nat.le_refl _) _
  refine ⟨⟨(j.hold (R' := fun k => k = w.heap.size) hb fun k e => ?_), heap_alloc_new w _, j.bel.size, fun hR => ?_⟩, (j.below hb).2⟩
  · subst e
    exact ⟨Nat.le_refl _, (Array.getElem?_eq_some_iff.1 (heap_alloc_new w _)).1⟩
  · have := (j.choose_spec.2.2.2 _ hR).1
    omega
end

end Go.Proofs.YtapiogcoipeinaaDoor.Vo

/-
  The faults of a volume: what failed and absent make, around a number or around a journal's fault. Nothing below is changed.
-/
namespace Go.Proofs.YtapiogcoipeinaaDoor.Vo
open Go.RowKit
open Pk Sm Fa Rc Dk Jn

/-- "volume" -/
abbrev vnam : ByteArray := ⟨#[118, 111, 108, 117, 109, 101]⟩
/-- The fault volume, at, around what lies below it. -/
def VFlt (w : World) (v : Value) (s e : Int) : Prop := ∃ p fs, v = .iface 96 (.pointer (some ⟨p, 0, none⟩)) ∧ Chain w ((p, vnam, s) :: fs) v (.iface 54 (.int .i64 e)) ∧ fs.length ≤ 2
theorem VFlt.below {w w' : World} {v : Value} {s e : Int} (h : VFlt w v s e) {B : Nat} (hB : w.heap.size ≤ B) (hb : Below B w w') : VFlt w' v s e := by
  obtain ⟨p, fs, rfl, hc, hl⟩ := h
  exact ⟨p, fs, rfl, hc.below hB hb, hl⟩
theorem VFlt.form {w : World} {v : Value} {s e : Int} (h : VFlt w v s e) : ∃ p, v = .iface 96 (.pointer (some ⟨p, 0, none⟩)) := by
  obtain ⟨p, fs, rfl, _⟩ := h
  exact ⟨p, rfl⟩
/-- An error of the volume's: its pointer, and the fault. -/
def VErr (w : World) (p : Nat) (s e : Int) : Prop := VFlt w (.iface 96 (.pointer (some ⟨p, 0, none⟩))) s e
theorem failed_num (s e : Int) (w : World) (he : e ≠ 0) :
    Calls Tryd.prog 20 #[.int .i64 s, .iface 54 (.int .i64 e)] w fun r w' => ∃ p, r = .returned (.iface 96 (.pointer (some ⟨p, 0, none⟩))) ∧ VErr w' p s e ∧ Below w.heap.size w w' := by
  have HW := hide (Wrap_real vnam s (.iface 54 (.int .i64 e)) w (Real.num he))
  go_enter Tryd.func20, Tryd.ntmps20
  go_wp2_with fail
  refine HW.out.mono ?_
  rintro r w' ⟨rfl, rfl⟩
  go_wp2
  go_ret
  exact ⟨_, rfl, ⟨_, [], rfl, Chain.wrap (fs := []) (w := w) (e := .iface 54 (.int .i64 e)) rfl vnam s, by simp⟩, (Below.refl _ _).alloc (Nat.le_refl _) _⟩
theorem failed_flt (s s2 e : Int) (p : Nat) (w : World) (hf : JFlt w (.iface 96 (.pointer (some ⟨p, 0, none⟩))) s2 e) :
    Calls Tryd.prog 20 #[.int .i64 s, .iface 96 (.pointer (some ⟨p, 0, none⟩))] w fun r w' => ∃ p, r = .returned (.iface 96 (.pointer (some ⟨p, 0, none⟩))) ∧ VErr w' p s e ∧ Below w.heap.size w w' := by
  have HW := hide (Wrap_real vnam s (.iface 96 (.pointer (some ⟨p, 0, none⟩))) w (Real.flt _))
  have HF := hide hf
  clear hf
  go_enter Tryd.func20, Tryd.ntmps20
  go_wp2_with fail
  refine HW.out.mono ?_
  rintro r w' ⟨rfl, rfl⟩
  go_wp2
  go_ret
  obtain ⟨p', fs, _, hc, hl⟩ := HF.out
  exact ⟨_, rfl, ⟨_, _, rfl, Chain.wrap hc vnam s, by simp; omega⟩, (Below.refl _ _).alloc (Nat.le_refl _) _⟩
theorem failed_nil (s : Int) (w : World) :
    Calls Tryd.prog 20 #[.int .i64 s, .nilIface] w fun r w' => r = .returned .nilIface ∧ w = w' := by
  have HW := hide (Wrap_nil vnam s w)
  go_enter Tryd.func20, Tryd.ntmps20
  go_wp2_with fail
  refine HW.out.mono ?_
  rintro r w' ⟨rfl, rfl⟩
  go_wp2
  go_ret
  exact ⟨rfl, rfl⟩
theorem absent_any (w : World) : Calls Tryd.prog 23 #[] w fun r w' => ∃ p, r = .returned (.iface 96 (.pointer (some ⟨p, 0, none⟩))) ∧ VErr w' p 0 11 ∧ Below w.heap.size w w' := by
  have HW := hide (failed_num 0 11 w (by decide))
  go_enter Tryd.func23, Tryd.ntmps23
  go_wp2_with fail
  refine HW.out.mono ?_
  rintro r w' ⟨p, rfl, hf, hb⟩
  have HF := hide hf
  have HB := hide hb
  clear hf hb HW
  go_wp2
  go_ret
  exact ⟨p, rfl, HF.out, HB.out⟩

end Go.Proofs.YtapiogcoipeinaaDoor.Vo

/-
  The contracts of the volume's small functions: Sectors, has, sector, Next, Records and Flush; upTo. Nothing below is changed, but by Flush what the journal's changes.
-/
namespace Go.Proofs.YtapiogcoipeinaaDoor.Vo
open Go.RowKit
open Pk Sm Fa Rc Dk Jn

theorem Sectors_any (n : Int) (h1 : -1000000 ≤ n) (h2 : n ≤ 1000000) (w : World) : Calls Tryd.prog 8 #[.int .i64 n] w fun e w' => e = .returned (.int .i64 (10 + n)) ∧ w = w' := by
  go_enter Tryd.func8, Tryd.ntmps8
  go_wp2
  go_ret
  exact ⟨by go_num, rfl⟩
theorem has_yes (b : Int) (h1 : 0 ≤ b) (h2 : b < 8) (w : World) : Calls Tryd.prog 24 #[.int .i64 b] w fun e w' => e = .returned (.bool true) ∧ w = w' := by
  go_enter Tryd.func24, Tryd.ntmps24
  go_wp2
  go_ret
  exact ⟨by go_num, rfl⟩
theorem has_no (b : Int) (hn : ¬ (0 ≤ b ∧ b < 8)) (w : World) : Calls Tryd.prog 24 #[.int .i64 b] w fun e w' => e = .returned (.bool false) ∧ w = w' := by
  by_cases h1 : 0 ≤ b
  · have h2 : ¬ b < 8 := fun h => hn ⟨h1, h⟩
    clear hn
    go_enter Tryd.func24, Tryd.ntmps24
    go_wp2
    go_ret
    exact ⟨by go_num, rfl⟩
  · clear hn
    go_enter Tryd.func24, Tryd.ntmps24
    go_wp2
    go_ret
    exact ⟨by go_num, rfl⟩

section
variable {w0 w : World} {R : Nat → Prop} {v p q n : Nat} {S : List Sec} {L : List Wr} {h : Hd} {E : List Ent} {H : Nat → Hm}
theorem sector_any (hv : VB w v q n p H) (b : Nat) (hn : n ≤ 1000) (hb : b < 8) : Calls Tryd.prog 39 #[.pointer (some ⟨v, 0, none⟩), .int .i64 (b : Int)] w fun e w' => e = .returned (.int .i64 ((2 + n + b : Nat) : Int)) ∧ w = w' := by
  have c1 := hv.ring
  clear hv
  go_enter Tryd.func39, Tryd.ntmps39
  go_wp2
  go_ret
  exact ⟨by go_num, rfl⟩
theorem VW.next (j : VW w0 R v p q n S L h E H w) (hf : h.f ≤ 2000000000000000000) (he : E.length ≤ 1000) :
    Calls Tryd.prog 17 #[.pointer (some ⟨v, 0, none⟩)] w fun e w' => e = .returned (.int .i64 ((h.f + E.length : Nat) : Int)) ∧ Below w.heap.size w w' := by
  have c2 := j.box.jour
  have HN := hide (j.jw.next hf he)
  obtain ⟨z, hz⟩ : ∃ z, h.f + E.length = z := ⟨_, rfl⟩
  rw [hz] at HN ⊢
  clear j hf he hz
  go_enter Tryd.func17, Tryd.ntmps17
  go_wp2_with fail
  refine HN.out.mono ?_
  rintro e w' ⟨rfl, hb⟩
  have HB := hide hb
  clear hb HN
  go_wp2
  go_ret
  exact ⟨rfl, HB.out⟩
theorem VW.flush (j : VW w0 R v p q n S L h E H w) (hL : L.length ≤ 1000000) :
    Calls Tryd.prog 13 #[.pointer (some ⟨v, 0, none⟩)] w fun e w' => e = .returned (.tuple #[]) ∧ VW w0 R v p q n (all S L) [] h E H w' ∧ RK R w w' := by
  have c2 := j.box.jour
  have HN := hide (j.jw.flush hL)
  have HJ := hide j
  clear j hL
  go_enter Tryd.func13, Tryd.ntmps13
  go_wp2_with fail
  refine HN.out.mono ?_
  rintro e w' ⟨rfl, hj, hk⟩
  have HB := hide (HJ.out.after hj hk)
  clear hj hk HN HJ
  go_wp2
  first
  | exact bodyPost_ret (results_none rfl _ _ _) rfl ⟨rfl, HB.out⟩
  | (go_end0; exact ⟨rfl, HB.out⟩)
set_option maxHeartbeats 1000000 in
theorem upTo_any (j : VW w0 R v p q n S L h E H w) (hf : h.f ≤ 2000000000000000000) (he : E.length ≤ 1000) (s : Int) (h0 : 0 ≤ s) (hs : s < 2000000000000000000) (k : Nat) (hk : (k : Int) = max (s + 1 - (h.f : Int)) 0) :
    Calls Tryd.prog 30 #[.pointer (some ⟨v, 0, none⟩), .int .i64 s] w fun e w' => e = .returned (.int .i64 (k : Int)) ∧ Below w.heap.size w w' := by
  have c2 := j.box.jour
  have HR := hide (j.jw.records he)
  have HJ := hide j
  obtain ⟨m, hm⟩ : ∃ m, E.length = m := ⟨_, rfl⟩
  obtain ⟨f, hff⟩ : ∃ f, h.f = f := ⟨_, rfl⟩
  have Hm := hide hm
  have Hf := hide hff
  have He := hide he
  rw [hm] at he
  rw [hff] at hf hk
  clear j hm hff
  go_enter Tryd.func30, Tryd.ntmps30
  go_wp2_with fail
  refine HR.out.mono ?_
  rintro e w1 ⟨rv, rfl, hr, hb⟩
  obtain ⟨A, c, rfl, _⟩ := row_form hr
  have HB1 := hide hb
  have HN := hide ((HJ.out.below hb).1.next (by rw [Hf.out]; exact hf) He.out)
  rw [Hm.out, Hf.out] at HN
  rw [Hm.out]
  clear hr hb HR c2 HJ
  go_wp2_with fail
  refine HN.out.mono ?_
  rintro e w2 ⟨rfl, hb2⟩
  have HB2 := hide (HB1.out.trans (hb2.mono HB1.out.size))
  clear hb2 HB1 HN
  have hfm : ((f + m : Nat) : Int) - (m : Int) = (f : Int) := by omega
  go_wp2
  go_ret
  exact ⟨by rw [hk]; go_num, HB2.out⟩
end

end Go.Proofs.YtapiogcoipeinaaDoor.Vo

/-
  The contract of the volume's contents: the last write of a block that is newer than what is at home, or that. Nothing that was there is changed.
-/
namespace Go.Proofs.YtapiogcoipeinaaDoor.Vo
open Go.RowKit
open Pk Sm Fa Rc Dk Jn

theorem five {w : World} {g o : Nat} {e : Ent} (h : w.rangeAt g o (rcel e)) : w.cell? ⟨g, o, none⟩ = some (.int .i64 (e.s : Int)) ∧ w.cell? ⟨g, o + 1, none⟩ = some (.int .i64 e.k) ∧ w.cell? ⟨g, o + 2, none⟩ = some (.int .i64 e.b) ∧ w.cell? ⟨g, o + 3, none⟩ = some (.string e.d) ∧ w.cell? ⟨g, o + 4, none⟩ = some (.int .i64 e.m) := by
  refine ⟨?_, ?_, ?_, ?_, ?_⟩
  · have := h 0 _ rfl; simpa using this
  · exact h 1 _ rfl
  · exact h 2 _ rfl
  · exact h 3 _ rfl
  · exact h 4 _ rfl
/-- A record in a box. -/
abbrev rbx (w : World) (s : Nat) (k b : Int) (d : ByteArray) (m : Int) : World := w.alloc (.cells #[.int .i64 (s : Int), .int .i64 k, .int .i64 b, .string d, .int .i64 m] 67)
theorem rbx_below (w : World) (s : Nat) (k b : Int) (d : ByteArray) (m : Int) : Below w.heap.size w (rbx w s k b d m) := (Below.refl _ _).alloc (Nat.le_refl _) _

set_option maxRecDepth 100000 in
set_option maxHeartbeats 4000000 in
theorem contents_any {w0 w : World} {R : Nat → Prop} {v p q n : Nat} {S : List Sec} {L : List Wr} {h : Hd} {E : List Ent} {H : Nat → Hm} (j : VW w0 R v p q n S L h E H w) (b : Nat) (hb : b < 8) (hE : E.length ≤ 1000) :
    Calls Tryd.prog 32 #[.pointer (some ⟨v, 0, none⟩), .int .i64 (b : Int)] w fun e w' => e = .returned (hm2 (cont b (H b) E)) ∧ Below w.heap.size w w' := by
  have hb1 := mx_below w 0 ⟨#[]⟩
  have hx1 := Mx.new w 0 ⟨#[]⟩
  have HJ1 := hide (j.below hb1).1
  have HB1 := hide hb1
  obtain ⟨⟨s, d⟩, hH⟩ : ∃ x, H b = x := ⟨_, rfl⟩
  rw [hH]
  have hbi : (b : Int) < 8 := by omega
  have HE := hide hE
  clear j hb1 hE
  have d0 := HJ1.out.box.seq hb
  have d1 := HJ1.out.box.dat hb
  rw [hH] at d0 d1
  simp only at d0 d1
  have c2 := HJ1.out.box.jour
  have hvl := HJ1.out.box.lt
  generalize hw1 : w.alloc _ = w1 at *
  have hb2 := mx_below w1 s d
  have hx2 := Mx.new w1 s d
  have HJ2 := hide (HJ1.out.below hb2).1
  have HB2 := hide (HB1.out.trans (hb2.mono HB1.out.size))
  have hx12 := hx1.below hb2
  have hlt1 := hx1.lt
  have c2' := HJ2.out.box.jour
  rw [show mcs 0 ⟨#[]⟩ = #[.int .i64 0, .string ⟨#[]⟩] from rfl] at hw1
  clear hx1 hb2 HB1
  go_enter Tryd.func32, Tryd.ntmps32
  go_wp2_with fail
  generalize hw2 : w1.alloc _ = w2 at *
  have hsz : w1.heap.size < w2.heap.size := hx2.lt
  refine (HJ2.out.jw.records HE.out).mono ?_
  rintro e w3 ⟨rv, rfl, hr, hb3⟩
  obtain ⟨A, c, rfl, hc1, hc2, hrr⟩ := row_form hr
  have HOwn := hide (World.ownsRow.lt hr)
  have HRr := hide hrr
  have hx3 := hx2.below hb3
  have hx13 := hx12.below hb3
  have HB3 := hide (HB2.out.trans (hb3.mono HB2.out.size))
  have hs3 := hb3.size
  obtain ⟨m, hm⟩ : ∃ m, E.length = m := ⟨_, rfl⟩
  have Hm := hide hm
  rw [hm] at hc1 ⊢
  have hm2 : m ≤ 1000 := by have := HE.out; omega
  clear hr hrr hb3 hx2 hx12 HB2 HJ1 HJ2 d0 d1 c2 c2' hm hw2 hw1
  go_wp2
  go_loopw [20] (fun jx wr => ∃ (k cs : Nat) (cd : ByteArray), k ≤ m ∧ jx = .int .i64 k ∧ Hid (cont b ⟨s, d⟩ (E.take k) = ⟨cs, cd⟩) ∧ Mx wr w1.heap.size cs cd ∧ Hid (Kept (· = w1.heap.size) w3 wr)) (fun jx _ => m - (intOf jx).toNat)
  case atStart => exact ⟨0, s, d, Nat.zero_le _, rfl, rfl, hx3, Kept.refl _ _⟩
  case round =>
    obtain ⟨k, cs, cd, hk, rfl, hcon, hmx, hkp⟩ := hrel
    have hsk := hkp.out.size
    have hxr : Mx wr w.heap.size 0 ⟨#[]⟩ := (hkp.out.block _ hx13.lt (by omega)).trans hx13
    rcases Nat.lt_or_ge k m with hlt | hge
    · have Hlt := hide hlt
      have hki : (k : Int) < (m : Int) := by omega
      obtain ⟨x, hx⟩ : ∃ x, E[k]? = some x := ⟨_, List.getElem?_eq_getElem (by rw [Hm.out]; exact hlt)⟩
      have HT := hide (show cont b ⟨s, d⟩ (E.take (k + 1)) = upd b ⟨cs, cd⟩ x by rw [List.take_add_one, hx, ← hcon.out]; exact cont_snoc _ _ _ _)
      obtain ⟨g, rfl, hgo, hgl, hrg⟩ := HRr.out (by rw [Hm.out]; omega)
      have hge := (HOwn.out g hgo).1
      have hpc := range_piece hrg (rcel_len E) hx
      obtain ⟨e0, e1, e2, e3, e4⟩ := five (w := wr) (g := g) (o := k * 5) (e := x) (fun i u hu => by
        have := hpc i u hu
        rw [← this]
        simp only [World.cell?, hkp.out.block g hgl (by omega)])
      obtain ⟨xg, xs, xk, xb, xd, xm⟩ := x
      simp only at e0 e1 e2 e3 e4
      have hglr : g < wr.heap.size := by omega
      have z0 := hmx.c0
      have z1 := hmx.c1
      have y0 := hmx.free 0
      have y1 := hmx.free 1
      have hN := hmx.lt
      have hbr := rbx_below wr xs xk xb xd xm
      have HMX2 := hide ((hmx.put xs xd).below (rbx_below (put2 wr w1.heap.size xs xd) xs xk xb xd xm))
      have HKP2 := hide ((Kept.set (Kept.set hkp.out rfl 0 (.int .i64 (xs : Int))) rfl 1 (.string xd)).trans (Grew.refl _ _) (Kept.of_below (rbx_below (put2 wr w1.heap.size xs xd) xs xk xb xd xm)))
      have HMX := hide (hmx.below hbr)
      have HKP := hide (hkp.out.trans (Grew.refl _ _) (Kept.of_below hbr))
      clear hx hrg hpc hkp hlt hgo hbr hmx hxr
      by_cases h1 : xk = 1
      · subst h1
        by_cases h2 : xb = (b : Int)
        · subst h2
          by_cases h3 : cs < xs
          · have h3i : (cs : Int) < (xs : Int) := by omega
            have HU := hide (HT.out.trans (if_pos ⟨rfl, rfl, h3⟩))
            clear h3 HT
            go_wp2
            go_roundw
            case rel => exact ⟨k + 1, xs, xd, Hlt.out, by go_num, HU.out, HMX2.out, HKP2.out⟩
            case measure => have := Hlt.out; simp [intOf]; omega
          · have h3i : ¬ ((cs : Int) < (xs : Int)) := by omega
            have HU := hide (HT.out.trans (if_neg fun h => h3 h.2.2))
            clear h3 HT
            go_wp2
            go_roundw
            case rel => exact ⟨k + 1, cs, cd, Hlt.out, by go_num, HU.out, HMX.out, HKP.out⟩
            case measure => have := Hlt.out; simp [intOf]; omega
        · have h2e : (xb == (b : Int)) = false := by simp [h2]
          have HU := hide (HT.out.trans (if_neg fun h => h2 h.2.1))
          clear HT
          go_wp2
          go_roundw
          case rel => exact ⟨k + 1, cs, cd, Hlt.out, by go_num, HU.out, HMX.out, HKP.out⟩
          case measure => have := Hlt.out; simp [intOf]; omega
      · have h1e : (xk == 1) = false := by simp [h1]
        have HU := hide (HT.out.trans (if_neg fun h => h1 h.1))
        clear HT
        go_wp2
        go_roundw
        case rel => exact ⟨k + 1, cs, cd, Hlt.out, by go_num, HU.out, HMX.out, HKP.out⟩
        case measure => have := Hlt.out; simp [intOf]; omega
    · obtain rfl : k = m := by omega
      have hc := hcon.out
      rw [List.take_of_length_le (by rw [Hm.out]; exact Nat.le_refl _)] at hc
      have HC := hide hc
      have z0 := hmx.c0
      have z1 := hmx.c1
      have x0 := hxr.c0
      have x1 := hxr.c1
      have y0 := hxr.free 0
      have y1 := hxr.free 1
      have HX := hide (hxr.put cs cd)
      have hbw : Below w.heap.size w wr := HB3.out.trans (hkp.out.below (fun i e => by subst e; omega) HB3.out.size)
      have HY := hide (below_put2 hbw (Nat.le_refl _) cs cd)
      clear hcon hmx hkp hge hc hxr hbw hx13 hx3
      go_wp2
      refine bodyPost_ret (v := .agg (mcs cs cd)) (results_cell_row rfl _ _ w.heap.size 59 _ (0, 0) _ rfl (show _ from HX.out) Tryd.underlying59 rfl home_size) rfl ?_
      exact ⟨by rw [HC.out], HY.out⟩

end Go.Proofs.YtapiogcoipeinaaDoor.Vo

/-
  Two homes held one against the other, and the data of one. Plain theorems, for every world.
-/
namespace Go.Proofs.YtapiogcoipeinaaDoor.Vo
open Go.RowKit
open Pk Sm Fa Rc

theorem home_fields : (Tryd.prog.fieldsOf 59).toList.map (fun f => (f.name, f.type, f.offset)) = [("seq", 3, 0), ("data", 9, 1)] := by kernel_rfl
theorem home_struct : Tryd.prog.underlying 59 = some (.struct (Tryd.prog.fieldsOf 59)) := by kernel_rfl
theorem home_held : Tryd.prog.stoodInHeld 59 = false := by kernel_rfl
theorem home_guard : Tryd.prog.eqGuardType Tryd.prog.depth 59 = false := by kernel_rfl
theorem two {α : Type} (l : List α) (h : l.length = 2) : ∃ a b, l = [a, b] := by
  match l, h with
  | [a, b], _ => exact ⟨a, b, rfl⟩
theorem bytes_ext {d d' : ByteArray} (h : d.toList = d'.toList) : d = d' := by
  rw [ByteArray.toList_eq, ByteArray.toList_eq] at h
  rw [← str_of d, ← str_of d', h]
/-- Whether two homes are the same. -/
def same2 (s : Int) (d : ByteArray) (s' : Int) (d' : ByteArray) : Bool := decide (s = s' ∧ d = d')

set_option maxRecDepth 100000 in
theorem home_equal (s : Int) (d : ByteArray) (s' : Int) (d' : ByteArray) (W : World) :
    (Op.equalIn 10000 59 (.agg #[.int .i64 s, .string d]) (.agg #[.int .i64 s', .string d'])).run Tryd.prog W = .ok (same2 s d s' d') W := by
  rw [run_equalIn_agg W 9999 59 _ _ home_struct home_held]
  obtain ⟨f0, f1, hf, h0, h1⟩ : ∃ f0 f1 : Field, (Tryd.prog.fieldsOf 59).toList = [f0, f1] ∧ (f0.name, f0.type, f0.offset) = ("seq", 3, 0) ∧ (f1.name, f1.type, f1.offset) = ("data", 9, 1) := by
    have h := home_fields
    obtain ⟨f0, f1, hf⟩ := two _ (show (Tryd.prog.fieldsOf 59).toList.length = 2 by simpa using congrArg List.length h)
    rw [hf] at h
    simp only [List.map_cons, List.map_nil, List.cons.injEq, and_true] at h
    exact ⟨f0, f1, hf, h⟩
  rw [hf]
  simp only [Prod.mk.injEq] at h0 h1
  obtain ⟨a0, b0, c0⟩ := h0
  obtain ⟨a1, b1, c1⟩ := h1
  simp only [Op.eqFields, a0, b0, c0, a1, b1, c1]
  go_simp
  unfold same2
  by_cases h1 : s = s'
  · by_cases h4 : d = d'
    · simp [h1, h4]
    · have h4' : d.toList ≠ d'.toList := fun e => h4 (bytes_ext e)
      simp [h1, h4, h4']
  · simp [h1]
theorem home_eql (s : Int) (d : ByteArray) (s' : Int) (d' : ByteArray) (v : Bool) (hv : same2 s d s' d' = v) (W : World) :
    (binOp .eql 59 (.agg #[.int .i64 s, .string d]) (.agg #[.int .i64 s', .string d'])).run Tryd.prog W = .ok (.bool v) W := by
  rw [run_eql_struct, home_equal, hv]
  rfl
theorem home_eqg (o : BinOp) (x y : Operand) (s : Int) (d : ByteArray) (s' : Int) (d' : ByteArray) (W : World) :
    (eqGuard o 59 x y (.agg #[.int .i64 s, .string d]) (.agg #[.int .i64 s', .string d'])).run Tryd.prog W = .ok () W := run_eqGuard_agg W o 59 x y _ _ home_guard
set_option maxRecDepth 100000 in
theorem home_data (s : Int) (d : ByteArray) (W : World) : (Instr.field 59 (.agg #[.int .i64 s, .string d]) 1).run Tryd.prog W = .ok (.string d) W := by
  have h := Tryd.underlying59
  unfold Instr.field
  go_simp
  rfl

end Go.Proofs.YtapiogcoipeinaaDoor.Vo

/-
  The contracts of the volume's put, Write, Mark and Read: a record is appended and its number told; or the volume's fault around the journal's, around ErrRange, or around ErrArg. Condition: the table of half bytes holds what the program's own text lays.
-/
namespace Go.Proofs.YtapiogcoipeinaaDoor.Vo
open Go.RowKit
open Pk Sm Fa Rc Dk Jn

section
variable {w0 w : World} {R : Nat → Prop} {v p q n : Nat} {S : List Sec} {L : List Wr} {h : Hd} {E : List Ent} {H : Nat → Hm}
set_option maxRecDepth 100000 in
theorem put_good (j : VW w0 R v p q n S L h E H w) (ht : Tab w0) (hf : h.f ≤ 2000000000000000000) (hn : n ≤ 512) (he : E.length < n) (a s k b : Int) (d : ByteArray) (m : Int) (hok : EOk ⟨h.g, h.f + E.length, k, b, d, m⟩) (h2n : 2 + n ≤ S.length) (hL : L.length ≤ 900000) :
    Calls Tryd.prog 25 #[.pointer (some ⟨v, 0, none⟩), .int .i64 a, rec5 s k b d m] w fun e w' => e = .returned (.tuple #[.int .i64 ((h.f + E.length : Nat) : Int), .nilIface]) ∧
      VW w0 R v p q n S (L ++ [(2 + (h.f + E.length) % n, esec ⟨h.g, h.f + E.length, k, b, d, m⟩)]) h (E ++ [⟨h.g, h.f + E.length, k, b, d, m⟩]) H w' ∧ RK R w w' := by
  have hbx := Bx.new w s k b d m
  have hb0 := box_below w s k b d m
  have c2 := (j.below hb0).1.box.jour
  have hj0 := j.below hb0.drew
  have HA := hide (hj0.1.jw.append (s := s) ht hf hn he hok h2n hL)
  have HJ := hide hj0
  have hc0 := hbx.c0
  have hc1 := hbx.c1
  have hc2 := hbx.c2
  have hc3 := hbx.c3
  have hc4 := hbx.c4
  obtain ⟨z, hz⟩ : ∃ z, h.f + E.length = z := ⟨_, rfl⟩
  rw [hz] at HA ⊢
  clear j hf hn he hok h2n hL ht hz hj0 hbx hb0
  go_enter Tryd.func25, Tryd.ntmps25
  go_wp2_with fail
  generalize w.alloc _ = wb at *
  go_region_with (go_at_call 41; refine HA.out.mono ?_; rintro e w1 ⟨rfl, hj, hk⟩; have HV := hide (HJ.out.1.after hj hk); clear hj hk)
  all_goals
    have HV2 := hide (show VW w0 R v p q n S _ h _ H _ ∧ RK R w _ from ⟨HV.out.1, RK.trans HJ.out.2 HV.out.2⟩)
    clear HA HJ HV c2 hc0 hc1 hc2 hc3 hc4
    go_wp2_with fail
    refine (failed_nil a _).mono ?_
    rintro r w2 ⟨rfl, rfl⟩
    go_wp2
    go_ret2
    exact ⟨rfl, HV2.out⟩
set_option maxRecDepth 100000 in
theorem put_bad (j : VW w0 R v p q n S L h E H w) (hf : h.f ≤ 2000000000000000000) (hn : n ≤ 512) (he : E.length ≤ n) (a s k b : Int) (d : ByteArray) (m : Int) (hd : d.size ≤ 9223372036854775807) (hno : E.length = n ∨ ¬ EOk ⟨h.g, h.f + E.length, k, b, d, m⟩) :
    Calls Tryd.prog 25 #[.pointer (some ⟨v, 0, none⟩), .int .i64 a, rec5 s k b d m] w fun e w' => ∃ pp, e = .returned (.tuple #[.int .i64 0, .iface 96 (.pointer (some ⟨pp, 0, none⟩))]) ∧
      VErr w' pp a (if E.length = n then 6 else 1) ∧ Below w.heap.size w w' := by
  have hbx := Bx.new w s k b d m
  have hb0 := box_below w s k b d m
  have c2 := (j.below hb0).1.box.jour
  have hj0 := j.below hb0.drew
  have HA := hide (hj0.1.jw.refused (s := s) hf hn he hd hno)
  have HB0 := hide hb0.drew
  have hc0 := hbx.c0
  have hc1 := hbx.c1
  have hc2 := hbx.c2
  have hc3 := hbx.c3
  have hc4 := hbx.c4
  obtain ⟨y, hy⟩ : ∃ y : Int, (if E.length = n then (6 : Int) else 1) = y := ⟨_, rfl⟩
  rw [hy] at HA ⊢
  clear j hf hn he hd hno hy hj0 hbx hb0
  go_enter Tryd.func25, Tryd.ntmps25
  go_wp2_with fail
  generalize w.alloc _ = wb at *
  go_region_with (go_at_call 41; refine HA.out.mono ?_; rintro e w1 ⟨pp, rfl, hfl, hb⟩; have HF := hide (failed_flt a _ y pp w1 hfl); have HB := hide (HB0.out.trans (hb.mono HB0.out.size)); clear hfl hb)
  all_goals
    clear HA c2 hc0 hc1 hc2 hc3 hc4 HB0
    go_wp2_with fail
    refine HF.out.mono ?_
    rintro r w2 ⟨p2, rfl, hf2, hb2⟩
    have HB2 := hide (HB.out.trans (hb2.mono HB.out.size))
    have HE := hide hf2
    clear hf2 hb2 HF
    go_wp2
    go_ret2
    exact ⟨_, rfl, HE.out, HB2.out⟩
/-! ### Write, Mark, Read -/
set_option maxRecDepth 100000 in
theorem Write_good (j : VW w0 R v p q n S L h E H w) (ht : Tab w0) (hf : h.f ≤ 2000000000000000000) (hn : n ≤ 512) (he : E.length < n) (b : Int) (d : ByteArray) (h0 : 0 ≤ b) (h8 : b < 8) (hd : d.size ≤ 16) (hok : EOk ⟨h.g, h.f + E.length, 1, b, d, 0⟩) (h2n : 2 + n ≤ S.length) (hL : L.length ≤ 900000) :
    Calls Tryd.prog 11 #[.pointer (some ⟨v, 0, none⟩), .int .i64 b, .string d] w fun e w' => e = .returned (.tuple #[.int .i64 ((h.f + E.length : Nat) : Int), .nilIface]) ∧
      VW w0 R v p q n S (L ++ [(2 + (h.f + E.length) % n, esec ⟨h.g, h.f + E.length, 1, b, d, 0⟩)]) h (E ++ [⟨h.g, h.f + E.length, 1, b, d, 0⟩]) H w' ∧ RK R w w' := by
  have HA := hide (put_good j ht hf hn he b 0 1 b d 0 hok h2n hL)
  obtain ⟨z, hz⟩ : ∃ z, h.f + E.length = z := ⟨_, rfl⟩
  rw [hz] at HA ⊢
  have hdi : ¬ ((16 : Int) < (d.size : Int)) := by omega
  have HS := hide (has_yes b h0 h8)
  clear j hf hn he hok h2n hL ht hz hd h0 h8
  go_enter Tryd.func11, Tryd.ntmps11
  go_wp2_with fail
  refine (HS.out _).mono ?_
  rintro e w1 ⟨rfl, rfl⟩
  go_wp2_with fail
  refine HA.out.mono ?_
  rintro e w1 ⟨rfl, hj⟩
  have HV := hide hj
  clear hj HA HS
  go_wp2
  go_ret2
  exact ⟨rfl, HV.out⟩
set_option maxRecDepth 100000 in
theorem Write_full (j : VW w0 R v p q n S L h E H w) (hf : h.f ≤ 2000000000000000000) (hn : n ≤ 512) (he : E.length ≤ n) (b : Int) (d : ByteArray) (h0 : 0 ≤ b) (h8 : b < 8) (hd : d.size ≤ 16) (hno : E.length = n ∨ ¬ EOk ⟨h.g, h.f + E.length, 1, b, d, 0⟩) :
    Calls Tryd.prog 11 #[.pointer (some ⟨v, 0, none⟩), .int .i64 b, .string d] w fun e w' => ∃ pp, e = .returned (.tuple #[.int .i64 0, .iface 96 (.pointer (some ⟨pp, 0, none⟩))]) ∧
      VErr w' pp b (if E.length = n then 6 else 1) ∧ Below w.heap.size w w' := by
  have HA := hide (put_bad j hf hn he b 0 1 b d 0 (by omega) hno)
  obtain ⟨y, hy⟩ : ∃ y : Int, (if E.length = n then (6 : Int) else 1) = y := ⟨_, rfl⟩
  rw [hy] at HA ⊢
  have hdi : ¬ ((16 : Int) < (d.size : Int)) := by omega
  have HS := hide (has_yes b h0 h8)
  clear j hf hn he hno hy hd h0 h8
  go_enter Tryd.func11, Tryd.ntmps11
  go_wp2_with fail
  refine (HS.out _).mono ?_
  rintro e w1 ⟨rfl, rfl⟩
  go_wp2_with fail
  refine HA.out.mono ?_
  rintro e w1 ⟨pp, rfl, hj⟩
  have HV := hide hj
  clear hj HA HS
  go_wp2
  go_ret2
  exact ⟨_, rfl, HV.out⟩
end
section
variable {w : World} {v : Nat}
set_option maxRecDepth 100000 in
theorem Write_range (b : Int) (d : ByteArray) (hn : ¬ (0 ≤ b ∧ b < 8)) :
    Calls Tryd.prog 11 #[.pointer (some ⟨v, 0, none⟩), .int .i64 b, .string d] w fun e w' => ∃ pp, e = .returned (.tuple #[.int .i64 0, .iface 96 (.pointer (some ⟨pp, 0, none⟩))]) ∧
      VErr w' pp b 5 ∧ Below w.heap.size w w' := by
  have HS := hide (has_no b hn)
  have HF := hide (failed_num b 5 w (by decide))
  clear hn
  go_enter Tryd.func11, Tryd.ntmps11
  go_wp2_with fail
  refine (HS.out _).mono ?_
  rintro e w1 ⟨rfl, rfl⟩
  go_wp2_with fail
  refine HF.out.mono ?_
  rintro e w1 ⟨pp, rfl, hj⟩
  have HV := hide hj
  clear hj HF HS
  go_wp2
  go_ret2
  exact ⟨_, rfl, HV.out⟩
set_option maxRecDepth 100000 in
theorem Write_long (b : Int) (d : ByteArray) (h0 : 0 ≤ b) (h8 : b < 8) (hd : ¬ d.size ≤ 16) :
    Calls Tryd.prog 11 #[.pointer (some ⟨v, 0, none⟩), .int .i64 b, .string d] w fun e w' => ∃ pp, e = .returned (.tuple #[.int .i64 0, .iface 96 (.pointer (some ⟨pp, 0, none⟩))]) ∧
      VErr w' pp b 1 ∧ Below w.heap.size w w' := by
  have HS := hide (has_yes b h0 h8)
  have HF := hide (failed_num b 1 w (by decide))
  have hdi : (16 : Int) < (d.size : Int) := by omega
  clear h0 h8 hd
  go_enter Tryd.func11, Tryd.ntmps11
  go_wp2_with fail
  refine (HS.out _).mono ?_
  rintro e w1 ⟨rfl, rfl⟩
  go_wp2_with fail
  refine HF.out.mono ?_
  rintro e w1 ⟨pp, rfl, hj⟩
  have HV := hide hj
  clear hj HF HS
  go_wp2
  go_ret2
  exact ⟨_, rfl, HV.out⟩
set_option maxRecDepth 100000 in
theorem Read_range (b : Int) (hn : ¬ (0 ≤ b ∧ b < 8)) :
    Calls Tryd.prog 18 #[.pointer (some ⟨v, 0, none⟩), .int .i64 b] w fun e w' => ∃ pp, e = .returned (.tuple #[.string ⟨#[]⟩, .iface 96 (.pointer (some ⟨pp, 0, none⟩))]) ∧
      VErr w' pp b 5 ∧ Below w.heap.size w w' := by
  have HS := hide (has_no b hn)
  have HF := hide (failed_num b 5 w (by decide))
  clear hn
  go_enter Tryd.func18, Tryd.ntmps18
  go_wp2_with fail
  refine (HS.out _).mono ?_
  rintro e w1 ⟨rfl, rfl⟩
  go_wp2_with fail
  refine HF.out.mono ?_
  rintro e w1 ⟨pp, rfl, hj⟩
  have HV := hide hj
  clear hj HF HS
  go_wp2
  go_ret2
  exact ⟨_, rfl, HV.out⟩
end
section
variable {w0 w : World} {R : Nat → Prop} {v p q n : Nat} {S : List Sec} {L : List Wr} {h : Hd} {E : List Ent} {H : Nat → Hm}
set_option maxRecDepth 100000 in
theorem Read_good (j : VW w0 R v p q n S L h E H w) (b : Nat) (hb : b < 8) (hE : E.length ≤ 1000) :
    Calls Tryd.prog 18 #[.pointer (some ⟨v, 0, none⟩), .int .i64 (b : Int)] w fun e w' => e = .returned (.tuple #[.string (cont b (H b) E).d, .nilIface]) ∧ Below w.heap.size w w' := by
  have HS := hide (has_yes (b : Int) (by omega) (by omega))
  have HC := hide (contents_any j b hb hE)
  obtain ⟨⟨cs, cd⟩, hx⟩ : ∃ x, cont b (H b) E = x := ⟨_, rfl⟩
  rw [hx] at HC ⊢
  clear j hb hE hx
  go_enter Tryd.func18, Tryd.ntmps18
  go_wp2_with fail
  refine (HS.out _).mono ?_
  rintro e w1 ⟨rfl, rfl⟩
  go_wp2_with fail
  refine HC.out.mono ?_
  rintro e w1 ⟨he, hb⟩
  obtain rfl : e = .returned (.agg #[.int .i64 (cs : Int), .string cd]) := he
  have HB := hide hb
  have hfd := home_data (cs : Int) cd w1
  clear hb HC HS
  go_wp2
  go_ret2
  exact ⟨rfl, HB.out⟩
set_option maxRecDepth 100000 in
theorem Mark_good (j : VW w0 R v p q n S L h E H w) (ht : Tab w0) (hf : h.f ≤ 2000000000000000000) (hn : n ≤ 512) (he : E.length < n) (m : Int) (hok : EOk ⟨h.g, h.f + E.length, 2, 0, ⟨#[]⟩, m⟩) (h2n : 2 + n ≤ S.length) (hL : L.length ≤ 900000) :
    Calls Tryd.prog 12 #[.pointer (some ⟨v, 0, none⟩), .int .i64 m] w fun e w' => e = .returned (.tuple #[.int .i64 ((h.f + E.length : Nat) : Int), .nilIface]) ∧
      VW w0 R v p q n S (L ++ [(2 + (h.f + E.length) % n, esec ⟨h.g, h.f + E.length, 2, 0, ⟨#[]⟩, m⟩)]) h (E ++ [⟨h.g, h.f + E.length, 2, 0, ⟨#[]⟩, m⟩]) H w' ∧ RK R w w' := by
  have HA := hide (put_good j ht hf hn he m 0 2 0 ⟨#[]⟩ m hok h2n hL)
  obtain ⟨z, hz⟩ : ∃ z, h.f + E.length = z := ⟨_, rfl⟩
  rw [hz] at HA ⊢
  clear j hf hn he hok h2n hL ht hz
  go_enter Tryd.func12, Tryd.ntmps12
  go_wp2_with fail
  refine HA.out.mono ?_
  rintro e w1 ⟨rfl, hj⟩
  have HV := hide hj
  clear hj HA
  go_wp2
  go_ret2
  exact ⟨rfl, HV.out⟩
set_option maxRecDepth 100000 in
theorem Mark_bad (j : VW w0 R v p q n S L h E H w) (hf : h.f ≤ 2000000000000000000) (hn : n ≤ 512) (he : E.length ≤ n) (m : Int) (hno : E.length = n ∨ ¬ EOk ⟨h.g, h.f + E.length, 2, 0, ⟨#[]⟩, m⟩) :
    Calls Tryd.prog 12 #[.pointer (some ⟨v, 0, none⟩), .int .i64 m] w fun e w' => ∃ pp, e = .returned (.tuple #[.int .i64 0, .iface 96 (.pointer (some ⟨pp, 0, none⟩))]) ∧
      VErr w' pp m (if E.length = n then 6 else 1) ∧ Below w.heap.size w w' := by
  have HA := hide (put_bad j hf hn he m 0 2 0 ⟨#[]⟩ m (by decide) hno)
  obtain ⟨y, hy⟩ : ∃ y : Int, (if E.length = n then (6 : Int) else 1) = y := ⟨_, rfl⟩
  rw [hy] at HA ⊢
  clear j hf hn he hno hy
  go_enter Tryd.func12, Tryd.ntmps12
  go_wp2_with fail
  refine HA.out.mono ?_
  rintro e w1 ⟨pp, rfl, hj⟩
  have HV := hide hj
  clear hj HA
  go_wp2
  go_ret2
  exact ⟨_, rfl, HV.out⟩
end

end Go.Proofs.YtapiogcoipeinaaDoor.Vo

/-
  What is always so of a volume's sectors between calls: the journal's words, and that each home sector contains what the volume says, of a record that is durable; what a checkpoint writes. Plain theorems, no program.
-/
namespace Go.Proofs.YtapiogcoipeinaaDoor.Vo
open Pk Sm Rc Dk Jn

/-- The journal's words speak of its own sectors alone. -/
theorem Jg.same {S S' : List Sec} {n : Nat} {h : Hd} {E : List Ent} {D B : Nat} (j : Jg S n h E D B) (hl : 2 + n ≤ S'.length) (hs : ∀ i, i < 2 + n → S'.getD i [] = S.getD i []) : Jg S' n h E D B := by
  have hm : ∀ c, 2 + c % n < 2 + n := fun c => by have := Nat.mod_lt c (show 0 < n from j.ring); omega
  refine ⟨j.ring, hl, ⟨j.head.1, by rw [hs _ (by have := Nat.mod_lt h.t (show 0 < 2 by decide); have := j.ring; omega)]; exact j.head.2⟩, ?_, j.few, j.seqs, j.up, j.le, ?_, ?_, ?_⟩
  · rw [hs _ (by have := j.ring; omega)]; exact j.other
  · intro i e hi he
    rw [hs _ (hm _)]
    exact j.dur i e hi he
  · intro i h1 h2 h3 e he hq
    rw [hs _ (hm _)] at he
    exact j.gap i h1 h2 h3 e he hq
  · intro c hc e he hq
    rw [hs _ (by omega)] at he
    exact j.ghost c hc e he hq

/-- The home sectors, beside the journal's. -/
structure Vg (S : List Sec) (n : Nat) (h : Hd) (E : List Ent) (D B : Nat) (H : Nat → Hm) : Prop where
  jg : Jg S n h E D B
  size : 2 + n + 8 ≤ S.length
  home : ∀ b, b < 8 → S.getD (2 + n + b) [] = hom b (H b)
  wf : ∀ b, b < 8 → Wf (H b)
  old : ∀ b, b < 8 → (H b).s < h.f + D
/-- What a block contains. -/
def blk (H : Nat → Hm) (E : List Ent) (b : Nat) : ByteArray := (cont b (H b) E).d
/-- What is at home when the first k blocks were brought there. -/
def hms (H : Nat → Hm) (E : List Ent) (k : Nat) : Nat → Hm := fun i => if i < k then cont i (H i) E else H i
/-- What is written for that. -/
def bw (n : Nat) (H : Nat → Hm) (E : List Ent) (b : Nat) : List Wr := if (cont b (H b) E).s = (H b).s then [] else [(2 + n + b, hom b (cont b (H b) E))]
def bws (n : Nat) (H : Nat → Hm) (E : List Ent) : Nat → List Wr
  | 0 => []
  | k + 1 => bws n H E k ++ bw n H E k
theorem bw_same {n : Nat} {H : Nat → Hm} {E : List Ent} {b : Nat} (h : (cont b (H b) E).s = (H b).s) : bw n H E b = [] := if_pos h
theorem bw_ne {n : Nat} {H : Nat → Hm} {E : List Ent} {b : Nat} (h : (cont b (H b) E).s ≠ (H b).s) : bw n H E b = [(2 + n + b, hom b (cont b (H b) E))] := if_neg h
theorem bw_len (n : Nat) (H : Nat → Hm) (E : List Ent) (b : Nat) : (bw n H E b).length ≤ 1 := by
  by_cases h : (cont b (H b) E).s = (H b).s
  · rw [bw_same h]; exact Nat.zero_le _
  · rw [bw_ne h]; exact Nat.le_refl _
theorem bws_len (n : Nat) (H : Nat → Hm) (E : List Ent) : ∀ k, (bws n H E k).length ≤ k
  | 0 => Nat.le_refl _
  | k + 1 => by
    have := bws_len n H E k
    have := bw_len n H E k
    show (bws n H E k ++ bw n H E k).length ≤ _
    rw [List.length_append]
    omega
theorem bws_mem {n : Nat} {H : Nat → Hm} {E : List Ent} {x : Wr} : ∀ {k : Nat}, x ∈ bws n H E k → ∃ b, b < k ∧ x.1 = 2 + n + b
  | 0, h => by cases h
  | k + 1, h => by
    rcases List.mem_append.1 h with h | h
    · obtain ⟨b, hb, e⟩ := bws_mem h
      exact ⟨b, by omega, e⟩
    · by_cases hc : (cont k (H k) E).s = (H k).s
      · rw [bw_same hc] at h; cases h
      · rw [bw_ne hc] at h
        rcases List.mem_singleton.1 h with rfl
        exact ⟨k, by omega, rfl⟩
theorem hms_zero (H : Nat → Hm) (E : List Ent) : hms H E 0 = H := funext fun _ => if_neg (Nat.not_lt_zero _)
theorem hms_at (H : Nat → Hm) (E : List Ent) (k : Nat) : hms H E k k = H k := if_neg (Nat.lt_irrefl _)
theorem hms_in (H : Nat → Hm) (E : List Ent) {k b : Nat} (h : b < k) : hms H E k b = cont b (H b) E := if_pos h
theorem hms_succ (H : Nat → Hm) (E : List Ent) (k : Nat) : hms H E (k + 1) = fun i => if i = k then cont k (H k) E else hms H E k i := by
  funext i
  unfold hms
  rcases Nat.lt_trichotomy i k with h | h | h
  · rw [if_pos (by omega), if_neg (by omega), if_pos h]
  · subst h
    rw [if_pos (by omega), if_pos rfl]
  · rw [if_neg (by omega), if_neg (by omega), if_neg (by omega)]
theorem hms_same (H : Nat → Hm) (E : List Ent) (k : Nat) (h : (cont k (H k) E).s = (H k).s) : hms H E (k + 1) = hms H E k := by
  rw [hms_succ]
  funext i
  by_cases hi : i = k
  · subst hi
    rw [if_pos rfl, hms_at]
    exact cont_same _ _ _ h
  · rw [if_neg hi]

section
variable {S : List Sec} {n : Nat} {h : Hd} {E : List Ent} {D B : Nat} {H : Nat → Hm}
theorem Vg.fit (j : Vg S n h E D B H) {b : Nat} (hb : b < 8) : Wf (cont b (H b) E) := cont_wf (j.wf b hb) fun e he => (Seqs.ok j.jg.seqs e he).1
theorem Vg.lt (j : Vg S n h E D B H) {b : Nat} (hb : b < 8) : (cont b (H b) E).s < h.f + E.length :=
  cont_lt (Nat.lt_of_lt_of_le (j.old b hb) (by have := j.jg.le; omega)) fun e he => (Seqs.ok j.jg.seqs e he).2.2
theorem Vg.append (j : Vg S n h E D B H) (hB : B ≤ h.g) (hl : E.length < n) {y : Ent} (hy : EOk y) (hs : y.s = h.f + E.length) (hg : y.g = h.g) : Vg S n h (E ++ [y]) D B H :=
  ⟨j.jg.append hB hl hy hs hg, j.size, j.home, j.wf, j.old⟩
/-- What a crash does to other sectors. -/
theorem crash_home (K : Nat) {F : List Ent} {b : Nat} (hn : 1 ≤ n) (S : List Sec) : (crash K 0 (wrs n F) S).getD (2 + n + b) [] = S.getD (2 + n + b) [] := by
  refine getD_same (crash_other K fun x hx => ?_)
  simp only [wrs, List.mem_map] at hx
  obtain ⟨e, _, rfl⟩ := hx
  simp only [wr]
  have := Nat.mod_lt e.s (show 0 < n from hn)
  omega
theorem Vg.crash (j : Vg S n h E D B H) (K : Nat) (hB : B ≤ h.g + 1) : ∃ i, D ≤ i ∧ i ≤ E.length ∧ Vg (crash K 0 (wrs n (E.drop D)) S) n h (E.take i) i (h.g + 1) H := by
  obtain ⟨i, h1, h2, h3, _⟩ := j.jg.crash K hB
  exact ⟨i, h1, h2, h3, by rw [crash_length]; exact j.size, fun b hb => by rw [crash_home K j.jg.ring]; exact j.home b hb, j.wf, fun b hb => by have := j.old b hb; omega⟩
theorem Vg.flush (j : Vg S n h E D B H) (hB : B ≤ h.g + 1) : Vg (all S (wrs n (E.drop D))) n h E E.length B H :=
  ⟨j.jg.flush hB, by rw [all_length]; exact j.size, fun b hb => by rw [← all_crash _ 0, crash_home _ j.jg.ring]; exact j.home b hb, j.wf, fun b hb => by have := j.old b hb; have := j.jg.le; omega⟩
/-- One block is brought home. -/
theorem bw_all (n b : Nat) (H : Nat → Hm) (E : List Ent) {S : List Sec} (hl : 2 + n + b < S.length) (hh : S.getD (2 + n + b) [] = hom b (H b)) :
    (all S (bw n H E b)).getD (2 + n + b) [] = hom b (cont b (H b) E) ∧ ∀ i, i ≠ 2 + n + b → (all S (bw n H E b)).getD i [] = S.getD i [] := by
  by_cases hc : (cont b (H b) E).s = (H b).s
  · rw [bw_same hc, cont_same _ _ _ hc]
    exact ⟨hh, fun _ _ => rfl⟩
  · rw [bw_ne hc]
    exact ⟨Jn.getD_set_same hl, fun i hi => Jn.getD_set_ne (Ne.symm hi)⟩
theorem bws_all (n : Nat) (H : Nat → Hm) (E : List Ent) {S : List Sec} (hl : 2 + n + 8 ≤ S.length) (hh : ∀ b, b < 8 → S.getD (2 + n + b) [] = hom b (H b)) :
    ∀ k, k ≤ 8 → (∀ b, b < 8 → (all S (bws n H E k)).getD (2 + n + b) [] = hom b (hms H E k b)) ∧ ∀ i, i < 2 + n → (all S (bws n H E k)).getD i [] = S.getD i []
  | 0, _ => ⟨fun b hb => by rw [hms_zero]; exact hh b hb, fun _ _ => rfl⟩
  | k + 1, hk => by
    obtain ⟨h1, h2⟩ := bws_all n H E hl hh k (by omega)
    have h3 := h1 k (by omega)
    rw [hms_at] at h3
    obtain ⟨g1, g2⟩ := bw_all n k H E (by rw [all_length]; omega) h3
    have e : all S (bws n H E (k + 1)) = all (all S (bws n H E k)) (bw n H E k) := all_append _ _ _
    refine ⟨fun b hb => ?_, fun i hi => ?_⟩
    · rw [e, hms_succ]
      by_cases hbk : b = k
      · subst hbk
        show _ = hom b (if b = b then cont b (H b) E else hms H E b b)
        rw [if_pos rfl]
        exact g1
      · show _ = hom b (if b = k then cont k (H k) E else hms H E k b)
        rw [if_neg hbk, g2 _ (by omega)]
        exact h1 b hb
    · rw [e, g2 i (by omega)]
      exact h2 i hi
/-- All blocks are brought home. -/
theorem Vg.homes (j : Vg S n h E E.length B H) : Vg (all S (bws n H E 8)) n h E E.length B (hms H E 8) := by
  obtain ⟨h1, h2⟩ := bws_all n H E j.size j.home 8 (Nat.le_refl _)
  refine ⟨Jg.same j.jg (by rw [all_length]; exact j.jg.size) h2, by rw [all_length]; exact j.size, h1, fun b hb => ?_, fun b hb => ?_⟩
  · rw [hms_in _ _ hb]; exact j.fit hb
  · rw [hms_in _ _ hb]; exact j.lt hb
/-- The journal's head is saved. -/
theorem Vg.save (j : Vg S n h E E.length B H) {h' : Hd} {k : Nat} (ht : h'.t = h.t + 1) (hok : HOk (h'.t % 2) h') (hk : k ≤ E.length) (hf : h'.f = h.f + k) (hl : h'.l = lst h.l (E.take k)) (hg : h.g ≤ h'.g) (hB : B ≤ h'.g) :
    Vg (S.set ((h.t + 1) % 2) (hsec h')) n h' (E.drop k) (E.length - k) h'.g H :=
  ⟨j.jg.save ht hok hk hf hl hg hB, by rw [List.length_set]; exact j.size, fun b hb => by rw [Jn.getD_set_ne (by have := Nat.mod_lt (h.t + 1) (show 0 < 2 by decide); omega)]; exact j.home b hb, j.wf, fun b hb => by have := j.old b hb; rw [hf]; omega⟩
/-- The first volume on a fresh disk. -/
theorem Vg.fresh {N : Nat} (hn : 1 ≤ n) (hN : 2 + n + 8 ≤ N) : Vg ((List.replicate N zer).set 1 (hsec ⟨1, 1, 1, 0⟩)) n ⟨1, 1, 1, 0⟩ [] 0 1 (fun _ => hm0) :=
  ⟨Jg.fresh hn (by omega), by simpa using hN, fun b hb => by rw [Jn.getD_set_ne (by omega), hom_zero]; exact getD_of (List.getElem?_replicate_of_lt (by omega)), fun _ _ => Or.inl rfl, fun _ _ => Nat.zero_lt_one⟩
/-- What the home sectors tell. -/
theorem Vg.told (j : Vg S n h E D B H) {b : Nat} (hb : b < 8) : unm b (S.getD (2 + n + b) []) = some (H b) := by
  rw [j.home b hb]
  exact unm_some (j.wf b hb) (by show b ≤ _; omega)

/-! ### What the blocks contain -/
theorem blk_mark {e : Ent} (he : e.k ≠ 1) (b : Nat) : blk H (E ++ [e]) b = blk H E b := congrArg Hm.d (cont_mark b (H b) E he)
theorem blk_other {e : Ent} {b : Nat} (he : e.b ≠ (b : Int)) : blk H (E ++ [e]) b = blk H E b := congrArg Hm.d (cont_other b (H b) E he)
theorem Vg.blk_write (j : Vg S n h E D B H) {e : Ent} {b : Nat} (hb : b < 8) (h1 : e.k = 1) (h2 : e.b = (b : Int)) (h3 : e.s = h.f + E.length) : blk H (E ++ [e]) b = e.d :=
  congrArg Hm.d (cont_write b (H b) E h1 h2 (by rw [h3]; exact j.lt hb))
/-- At home the contents are the same, whatever is dropped. -/
theorem blk_home {b : Nat} (hb : b < 8) (k : Nat) : blk (hms H E 8) (E.drop k) b = blk H E b := by
  unfold blk
  rw [hms_in H E hb, cont_home b (H b) E (E.drop k) fun e he => List.mem_of_mem_drop he]
end

end Go.Proofs.YtapiogcoipeinaaDoor.Vo

/-
  The contracts of the volume's bringHome: a block whose contents are at home stays as it is; another one's are written to its home sector, and told. Condition: the table of half bytes holds what the program's own text lays.
-/
namespace Go.Proofs.YtapiogcoipeinaaDoor.Vo
open Go.RowKit
open Pk Sm Fa Rc Dk Jn

section
variable {w0 w : World} {R : Nat → Prop} {v p q n : Nat} {S : List Sec} {L : List Wr} {h : Hd} {E : List Ent} {H : Nat → Hm}
set_option maxRecDepth 100000 in
set_option maxHeartbeats 1000000 in
theorem bringHome_same (j : VW w0 R v p q n S L h E H w) (b : Nat) (hb : b < 8) (hE : E.length ≤ 1000) (hc : (cont b (H b) E).s = (H b).s) :
    Calls Tryd.prog 27 #[.pointer (some ⟨v, 0, none⟩), .int .i64 (b : Int)] w fun e w' => e = .returned (.tuple #[]) ∧ Below w.heap.size w w' := by
  have HC := hide (contents_any j b hb hE)
  obtain ⟨⟨cs, cd⟩, hx⟩ : ∃ x, cont b (H b) E = x := ⟨_, rfl⟩
  obtain ⟨⟨os, od⟩, hH⟩ : ∃ x, H b = x := ⟨_, rfl⟩
  have hbi : (b : Int) < 8 := by omega
  have hsame := cont_same b (H b) E hc
  rw [hx, hH] at hsame
  obtain ⟨rfl, rfl⟩ : cs = os ∧ cd = od := by cases hsame; exact ⟨rfl, rfl⟩
  have HJ := hide j
  have HE := hide hE
  clear j hE hc hsame
  go_enter Tryd.func27, Tryd.ntmps27
  go_wp2_with fail
  refine HC.out.mono ?_
  rintro e w1 ⟨he, hb1⟩
  rw [hx] at he
  obtain rfl : e = .returned (.agg #[.int .i64 (cs : Int), .string cd]) := he
  have HJ1 := hide (HJ.out.below hb1).1
  have HJK := hide (HJ.out.below hb1).2
  have d0 := HJ1.out.box.seq hb
  have d1 := HJ1.out.box.dat hb
  rw [hH] at d0 d1
  simp only at d0 d1
  have hvl := HJ1.out.box.lt
  have hbm := mx_below w1 cs cd
  have hxm := Mx.new w1 cs cd
  have d0' := (HJ1.out.below hbm).1.box.seq hb
  have d1' := (HJ1.out.below hbm).1.box.dat hb
  rw [hH] at d0' d1'
  simp only at d0' d1'
  have HJ2 := hide (HJ1.out.below hbm).1
  have HJ2K := hide (RK.trans HJK.out (HJ1.out.below hbm).2)
  have HB2 := hide (hb1.trans (hbm.mono hb1.size))
  have z0 := hxm.c0
  have z1 := hxm.c1
  have hG1 := hxm.lt
  clear hb1 hbm HJ HC
  go_wp2_with fail
  generalize hwm : w1.alloc _ = wm at *
  have heq := fun W => home_eql (cs : Int) cd (cs : Int) cd true (by exact decide_eq_true ⟨rfl, rfl⟩) W
  have heg := fun (o : BinOp) (x y : Operand) W => home_eqg o x y (cs : Int) cd (cs : Int) cd W
  go_quiet (fail)
  clear heq heg
  go_wp2
  first
  | exact bodyPost_ret (results_none rfl _ _ _) rfl ⟨rfl, below_drewN HB2.out nq⟩
  | (go_end0; exact ⟨rfl, below_drewN HB2.out nq⟩)
set_option maxRecDepth 100000 in
set_option maxHeartbeats 2000000 in
theorem bringHome_ne (j : VW w0 R v p q n S L h E H w) (ht : Tab w0) (b : Nat) (hb : b < 8) (hE : E.length ≤ 1000) (hne : (cont b (H b) E).s ≠ (H b).s) (hd : (cont b (H b) E).d.size ≤ 16) (hn : n ≤ 512) (hS : 2 + n + 8 ≤ S.length) (hL : L.length ≤ 900000) :
    Calls Tryd.prog 27 #[.pointer (some ⟨v, 0, none⟩), .int .i64 (b : Int)] w fun e w' => e = .returned (.tuple #[]) ∧
      VW w0 R v p q n S (L ++ [(2 + n + b, msec b (cont b (H b) E))]) h E (upH H b (cont b (H b) E)) w' ∧ RK R w w' := by
  have HC := hide (contents_any j b hb hE)
  obtain ⟨⟨cs, cd⟩, hx⟩ : ∃ x, cont b (H b) E = x := ⟨_, rfl⟩
  obtain ⟨⟨os, od⟩, hH⟩ : ∃ x, H b = x := ⟨_, rfl⟩
  have hbi : (b : Int) < 8 := by omega
  rw [hx] at hne hd ⊢
  rw [hH] at hne
  have hne' : cs ≠ os := hne
  have hv : same2 (cs : Int) cd (os : Int) od = false := decide_eq_false fun e => hne' (by have := e.1; omega)
  have HD := hide (show cd.size ≤ 16 from hd)
  have HT := hide ht
  have HL := hide hL
  have HS := hide (show 2 + n + b < S.length by omega)
  have HSEC : Hid (∀ W, VB W v q n p H → Calls Tryd.prog 39 #[.pointer (some ⟨v, 0, none⟩), .int .i64 (b : Int)] W fun e w' => e = .returned (.int .i64 ((2 + n + b : Nat) : Int)) ∧ W = w') := hide fun W hv => sector_any hv b (by omega) hb
  obtain ⟨z, hz⟩ : ∃ z, 2 + n + b = z := ⟨_, rfl⟩
  rw [hz] at HSEC HS ⊢
  have HJ := hide j
  have HE := hide hE
  clear j hE hne hne' hd hL hS hn ht hz
  go_enter Tryd.func27, Tryd.ntmps27
  go_wp2_with fail
  refine HC.out.mono ?_
  rintro e w1 ⟨he, hb1⟩
  rw [hx] at he
  obtain rfl : e = .returned (.agg #[.int .i64 (cs : Int), .string cd]) := he
  have HJ1 := hide (HJ.out.below hb1).1
  have HJK := hide (HJ.out.below hb1).2
  have d0 := HJ1.out.box.seq hb
  have d1 := HJ1.out.box.dat hb
  rw [hH] at d0 d1
  simp only at d0 d1
  have hvl := HJ1.out.box.lt
  have hbm := mx_below w1 cs cd
  have hxm := Mx.new w1 cs cd
  have d0' := (HJ1.out.below hbm).1.box.seq hb
  have d1' := (HJ1.out.below hbm).1.box.dat hb
  rw [hH] at d0' d1'
  simp only at d0' d1'
  have HJ2 := hide (HJ1.out.hold (R' := fun k => k = w1.heap.size) hbm fun k e => by subst e; exact ⟨Nat.le_refl _, hxm.lt⟩)
  have HJ2K := hide (RK.trans HJK.out (HJ1.out.below hbm).2)
  have HB2 := hide (hb1.trans (hbm.mono hb1.size))
  have z0 := hxm.c0
  have z1 := hxm.c1
  have hG1 := hxm.lt
  clear hb1 hbm HJ HC
  go_wp2_with fail
  generalize hwm : w1.alloc _ = wm at *
  have heq := fun W => home_eql (cs : Int) cd (os : Int) od false (by exact hv) W
  have heg := fun (o : BinOp) (x y : Operand) W => home_eqg o x y (cs : Int) cd (os : Int) od W
  go_quiet (fail)
  clear heq heg
  go_wp2
  have HJd := hide (HJ2.out.below (below_drewN (Below.refl _ _) nq)).1
  have HJdK := hide (RK.trans HJ2K.out ((HJ2.out.below (below_drewN (Below.refl _ _) nq)).2.mono fun k h => Or.inl h))
  obtain ⟨G1, hG⟩ : ∃ g, w1.heap.size = g := ⟨_, rfl⟩
  have HMd := hide (hxm.below (below_drewN (Below.refl _ _) nq))
  rw [hG] at HJd HMd ⊢
  clear d0 d1 d0' d1' hxm HJ2 HJ2K HB2 z0 z1 hwm hG1 HJ1 HJK
  generalize wm.drewN nq = wd at *
  refine wp_region_held (S := (fun W => W.cell? ⟨v, 0, none⟩ = some (.pointer (some ⟨q, 0, none⟩)) ∧ W.cell? ⟨G1, 0, none⟩ = some (.int .i64 (cs : Int)) ∧ W.cell? ⟨G1, 1, none⟩ = some (.string cd))) (by kernel_rfl) ?_
  change wpAnyH _ _ _ _ _ _ _ _ (World.drew _)
  refine wpAnyH_take (i := 0) (oi := ⟨some 16, _, _, _, _, _⟩) (v := ?_) rfl (by kernel_rfl) (by kernel_rfl) (by kernel_rfl) (fun _ _ _ h => h) (Or.inl ⟨by rfl, ?_⟩) (And.intro HJd.out.drew.box.disk (And.intro HMd.out.drew.c0 HMd.out.drew.c1)) ?_
  rotate_left 1
  · (intro w hSw; obtain ⟨hSw1, hSw2, hSw3⟩ := hSw; go_simp; try with_reducible rfl)
  simp only [Act.put, List.setIfInBounds_toArray, List.set_cons_zero, List.set_cons_succ]
  refine wpAnyH_take (i := 1) (oi := ⟨some 17, _, _, _, _, _⟩) (v := ?_) rfl (by kernel_rfl) (by kernel_rfl) (by kernel_rfl) (fun _ _ _ h => h) (Or.inl ⟨by rfl, ?_⟩) (And.intro HJd.out.drew.box.disk (And.intro HMd.out.drew.c0 HMd.out.drew.c1)) ?_
  rotate_left 1
  · (intro w hSw; obtain ⟨hSw1, hSw2, hSw3⟩ := hSw; go_simp; try with_reducible rfl)
  simp only [Act.put, List.setIfInBounds_toArray, List.set_cons_zero, List.set_cons_succ]
  refine wpAnyH_take (i := 2) (oi := ⟨some 18, _, _, _, _, _⟩) (v := ?_) rfl (by kernel_rfl) (by kernel_rfl) (by kernel_rfl) (fun _ _ _ h => h) (Or.inl ⟨by rfl, ?_⟩) (And.intro HJd.out.drew.box.disk (And.intro HMd.out.drew.c0 HMd.out.drew.c1)) ?_
  rotate_left 1
  · (intro w hSw; obtain ⟨hSw1, hSw2, hSw3⟩ := hSw; go_simp; try with_reducible rfl)
  simp only [Act.put, List.setIfInBounds_toArray, List.set_cons_zero, List.set_cons_succ]
  refine wpAnyH_take (i := 3) (oi := ⟨some 19, _, _, _, _, _⟩) (v := ?_) rfl (by kernel_rfl) (by kernel_rfl) (by kernel_rfl) (fun _ _ _ h => h) (Or.inl ⟨by rfl, ?_⟩) (And.intro HJd.out.drew.box.disk (And.intro HMd.out.drew.c0 HMd.out.drew.c1)) ?_
  rotate_left 1
  · (intro w hSw; obtain ⟨hSw1, hSw2, hSw3⟩ := hSw; go_simp; try with_reducible rfl)
  simp only [Act.put, List.setIfInBounds_toArray, List.set_cons_zero, List.set_cons_succ]
  refine wpAnyH_take (i := 4) (oi := ⟨some 20, _, _, _, _, _⟩) (v := ?_) rfl (by kernel_rfl) (by kernel_rfl) (by kernel_rfl) (fun _ _ _ h => h) (Or.inl ⟨by rfl, ?_⟩) (And.intro HJd.out.drew.box.disk (And.intro HMd.out.drew.c0 HMd.out.drew.c1)) ?_
  rotate_left 1
  · (intro w hSw; obtain ⟨hSw1, hSw2, hSw3⟩ := hSw; go_simp; try with_reducible rfl)
  simp only [Act.put, List.setIfInBounds_toArray, List.set_cons_zero, List.set_cons_succ]
  refine wpAnyH_take (i := 5) (oi := ⟨some 21, _, _, _, _, _⟩) (v := ?_) rfl (by kernel_rfl) (by kernel_rfl) (by kernel_rfl) (fun _ _ _ h => h) (Or.inl ⟨by rfl, ?_⟩) (And.intro HJd.out.drew.box.disk (And.intro HMd.out.drew.c0 HMd.out.drew.c1)) ?_
  rotate_left 1
  · (intro w hSw; obtain ⟨hSw1, hSw2, hSw3⟩ := hSw; go_simp; try with_reducible rfl)
  simp only [Act.put, List.setIfInBounds_toArray, List.set_cons_zero, List.set_cons_succ]
  refine wpAnyH_take (i := 7) (oi := ⟨some 23, _, _, _, _, _⟩) (v := ?_) rfl (by kernel_rfl) (by kernel_rfl) (by kernel_rfl) (fun _ _ _ h => h) (Or.inl ⟨by rfl, ?_⟩) (And.intro HJd.out.drew.box.disk (And.intro HMd.out.drew.c0 HMd.out.drew.c1)) ?_
  rotate_left 1
  · (intro w hSw; obtain ⟨hSw1, hSw2, hSw3⟩ := hSw; go_simp; try with_reducible rfl)
  simp only [Act.put, List.setIfInBounds_toArray, List.set_cons_zero, List.set_cons_succ]
  refine wpAnyH_take (i := 8) (oi := ⟨some 24, _, _, _, _, _⟩) (v := ?_) rfl (by kernel_rfl) (by kernel_rfl) (by kernel_rfl) (fun _ _ _ h => h) (Or.inl ⟨by rfl, ?_⟩) (And.intro HJd.out.drew.box.disk (And.intro HMd.out.drew.c0 HMd.out.drew.c1)) ?_
  rotate_left 1
  · (intro w hSw; obtain ⟨hSw1, hSw2, hSw3⟩ := hSw; go_simp; try with_reducible rfl)
  simp only [Act.put, List.setIfInBounds_toArray, List.set_cons_zero, List.set_cons_succ]
  refine wpAnyH_ready (rs := [6]) (by kernel_rfl) (by simp) ?_
  refine AllReadyH.cons (o := ⟨some 22, _, _, _, _, _⟩) rfl (fun K hK => ?_) AllReadyH.nil
  go_simp
  refine (HSEC.out wd.drew HJd.out.drew.box).mono ?_
  rintro r w2 ⟨rfl, rfl⟩
  refine hK.out _ _ (And.intro HJd.out.drew.box.disk (And.intro HMd.out.drew.c0 HMd.out.drew.c1)) (fun hHeld => ?_)
  clear hK K
  clear hHeld
  refine wpAnyH_ready (rs := [9]) (by kernel_rfl) (by simp) ?_
  refine AllReadyH.cons (o := ⟨some 25, _, _, _, _, _⟩) rfl (fun K hK => ?_) AllReadyH.nil
  go_simp
  refine (encode_any ⟨cs, cd⟩ b wd.drew (HJd.out.drew.tab HT.out) HD.out).mono ?_
  rintro r w3 ⟨pb, ob, cb, rfl, _, _, hby3, hb3⟩
  have hbd : Below wd.heap.size wd w3 := drew_below hb3
  have HJ3 := hide (HJd.out.below hbd).1
  have HJ3K := hide (RK.trans HJdK.out ((HJd.out.below hbd).2.mono fun k h => Or.inl h))
  have HM3 := hide (HMd.out.below hbd)
  have HY3 := hide hby3
  have hS3 := And.intro HJ3.out.box.disk (And.intro HM3.out.c0 HM3.out.c1)
  clear hb3 hbd hby3
  refine hK.out _ _ hS3 (fun hHeld => ?_)
  clear hK K
  clear hHeld
  refine wpAnyH_ready (rs := [10]) (by kernel_rfl) (by simp) ?_
  refine AllReadyH.cons (o := ⟨some 26, _, _, _, _, _⟩) rfl (fun K hK => ?_) AllReadyH.nil
  go_simp
  refine (HJ3.out.write (i := z) HS.out HY3.out (msec_length HD.out b) HL.out).mono ?_
  rintro r w4 ⟨rfl, hj4, hk4⟩
  have HJ4 := hide hj4
  have HJ4K := hide (RK.trans HJ3K.out (hk4.mono fun k h => Or.inl h))
  have HM4 := hide (show Mx w4 G1 cs cd from (hk4 G1 (Or.inr rfl)).trans HM3.out)
  have hS4 := And.intro HJ4.out.box.disk (And.intro HM4.out.c0 HM4.out.c1)
  clear hj4 hk4 HJ3 HJ3K HM3 HY3
  refine hK.out _ _ hS4 (fun hHeld => ?_)
  clear hK K
  clear hHeld
  refine wpAnyH_done (by kernel_rfl) ?_ _
  have z0 := HM4.out.c0
  have z1 := HM4.out.c1
  have v0 := HJ4.out.box.seq hb
  have v1 := HJ4.out.box.dat hb
  have u0 := HJ4.out.box.free (3 + b * 2)
  have u1 := HJ4.out.box.free (3 + b * 2 + 1)
  clear hS4
  go_wp2
  go_region
  have hP := HJ4.out.stored (kept_put w4 v b ⟨cs, cd⟩) (HJ4.out.box.put hb ⟨cs, cd⟩)
  have HP := hide (show VW w0 R v p q n S (L ++ [(z, msec b ⟨cs, cd⟩)]) h E (upH H b ⟨cs, cd⟩) (putH w4 v b ⟨cs, cd⟩).drew ∧ RK R w (putH w4 v b ⟨cs, cd⟩).drew from ⟨(hP.1.drew).mono fun k h => Or.inl h, RK.trans HJ4K.out (hP.2.mono fun k h => Or.inl h)⟩)
  clear hP HJ4 HJ4K HM4 z0 z1 v0 v1 u0 u1
  go_wp2
  first
  | exact bodyPost_ret (results_none rfl _ _ _) rfl ⟨rfl, HP.out⟩
  | (go_end0; exact ⟨rfl, HP.out⟩)
end

end Go.Proofs.YtapiogcoipeinaaDoor.Vo

namespace Go.Proofs.YtapiogcoipeinaaDoor.Vo
open Go.RowKit
open Pk Sm Fa Rc Dk Jn

/-- The head behind a Trim of k records, and the sectors. -/
def trh (h : Hd) (E : List Ent) (k : Nat) : Hd := if k = 0 then h else ⟨h.t + 1, h.f + k, h.g, lst h.l (E.take k)⟩
def trs (S : List Sec) (h : Hd) (E : List Ent) (k : Nat) : List Sec := if k = 0 then S else S.set ((h.t + 1) % 2) (hsec ⟨h.t + 1, h.f + k, h.g, lst h.l (E.take k)⟩)
section
variable {w0 w : World} {R : Nat → Prop} {v p q n : Nat} {S : List Sec} {L : List Wr} {h : Hd} {E : List Ent} {H : Nat → Hm}
theorem JW.trimAny (j : JW w0 R p q n S [] h E w) (ht : Tab w0) (k : Nat) (hkm : k ≤ E.length) (hE : E.length ≤ 1000) (htb : h.t ≤ 1000000000000000000) (hfb : h.f ≤ 1000000000000000000) (h2S : 2 ≤ S.length) :
    Calls Tryd.prog 29 #[.pointer (some ⟨p, 0, none⟩), .int .i64 (k : Int)] w fun r w' => r = .returned .nilIface ∧
      JW w0 R p q n (trs S h E k) [] (trh h E k) (E.drop k) w' ∧ RK R w w' := by
  by_cases h0 : k = 0
  · subst h0
    obtain ⟨G, h1, h2, h3, h4⟩ := j
    refine (Trim_zero w G p q S [] n h E h1).mono ?_
    rintro r w' ⟨rfl, rfl⟩
    exact ⟨rfl, ⟨G, h1, h2, h3, h4⟩, fun _ _ => rfl⟩
  · refine (j.trim ht k (by omega) hkm hE htb hfb h2S (by simp)).mono ?_
    rintro r w' ⟨rfl, hj, hk⟩
    refine ⟨rfl, ?_, hk⟩
    unfold trs trh
    rw [if_neg h0, if_neg h0]
    exact hj
/-- One block of all. -/
theorem bringHome_any {k : Nat} (j : VW w0 R v p q n S (L ++ bws n H E k) h E (hms H E k) w) (ht : Tab w0) (hk : k < 8) (hE : E.length ≤ 1000) (hd : (cont k (H k) E).d.size ≤ 16) (hn : n ≤ 512) (hS : 2 + n + 8 ≤ S.length) (hL : L.length ≤ 800000) :
    Calls Tryd.prog 27 #[.pointer (some ⟨v, 0, none⟩), .int .i64 (k : Int)] w fun e w' => e = .returned (.tuple #[]) ∧
      VW w0 R v p q n S (L ++ bws n H E (k + 1)) h E (hms H E (k + 1)) w' ∧ RK R w w' := by
  have hc := hms_at H E k
  by_cases h : (cont k (H k) E).s = (H k).s
  · refine (bringHome_same j k hk hE (by rw [hc]; exact h)).mono ?_
    rintro e w' ⟨rfl, hb⟩
    refine ⟨rfl, ?_, (j.below hb).2⟩
    have e1 : bws n H E (k + 1) = bws n H E k := by
      show bws n H E k ++ bw n H E k = _
      rw [bw_same h, List.append_nil]
    rw [e1, hms_same H E k h]
    exact (j.below hb).1
  · have hlen := bws_len n H E k
    refine (bringHome_ne j ht k hk hE (by rw [hc]; exact h) (by rw [hc]; exact hd) hn hS (by rw [List.length_append]; omega)).mono ?_
    rintro e w' ⟨rfl, hj, hr⟩
    refine ⟨rfl, ?_, hr⟩
    rw [hc] at hj
    have hz : (cont k (H k) E).s ≠ 0 := by have := cont_ge k E (H k); omega
    have e1 : bws n H E (k + 1) = bws n H E k ++ [(2 + n + k, msec k (cont k (H k) E))] := by
      show bws n H E k ++ bw n H E k = _
      rw [bw_ne h, hom, if_neg hz]
    rw [e1, ← List.append_assoc, hms_succ]
    exact hj
set_option maxRecDepth 100000 in
set_option maxHeartbeats 1000000 in
theorem Checkpoint_range (j : VW w0 R v p q n S L h E H w) (hf : h.f ≤ 2000000000000000000) (he : E.length ≤ 1000) (u : Int) (hu : u < 0 ∨ ((h.f + E.length : Nat) : Int) ≤ u) :
    Calls Tryd.prog 14 #[.pointer (some ⟨v, 0, none⟩), .int .i64 u] w fun e w' => ∃ pp, e = .returned (.iface 96 (.pointer (some ⟨pp, 0, none⟩))) ∧ VErr w' pp u 5 ∧ Below w.heap.size w w' := by
  have HN := hide (j.next hf he)
  obtain ⟨z, hz⟩ : ∃ z, h.f + E.length = z := ⟨_, rfl⟩
  rw [hz] at HN hu
  clear j hf he hz
  by_cases h0 : u < 0
  · have HF := hide (failed_num u 5 w (by decide))
    clear hu HN
    go_enter Tryd.func14, Tryd.ntmps14
    go_wp2_with fail
    refine HF.out.mono ?_
    rintro e w1 ⟨pp, rfl, hj, hb⟩
    have HV := hide hj
    have HB := hide hb
    clear hj hb HF
    go_wp2
    go_ret
    exact ⟨_, rfl, HV.out, HB.out⟩
  · have h1 : (z : Int) ≤ u := by omega
    clear hu
    go_enter Tryd.func14, Tryd.ntmps14
    go_wp2_with fail
    refine HN.out.mono ?_
    rintro e w1 ⟨rfl, hb⟩
    have HB1 := hide hb
    clear hb HN
    go_wp2_with fail
    refine (failed_num u 5 w1 (by decide)).mono ?_
    rintro e w2 ⟨pp, rfl, hj, hb⟩
    have HV := hide hj
    have HB := hide (HB1.out.trans (hb.mono HB1.out.size))
    clear hj hb HB1
    go_wp2
    go_ret
    exact ⟨_, rfl, HV.out, HB.out⟩
set_option maxRecDepth 100000 in
set_option maxHeartbeats 4000000 in
theorem Checkpoint_good (j : VW w0 R v p q n S L h E H w) (ht : Tab w0) (htb : h.t ≤ 1000000000000000000) (hf : h.f ≤ 1000000000000000000) (he : E.length ≤ 1000) (hd : ∀ b, b < 8 → (cont b (H b) E).d.size ≤ 16) (hn : n ≤ 512) (hS : 2 + n + 8 ≤ S.length) (hL : L.length ≤ 800000)
    (u : Int) (h0 : 0 ≤ u) (hu : u < ((h.f + E.length : Nat) : Int)) (k : Nat) (hk : (k : Int) = max (u + 1 - (h.f : Int)) 0) :
    Calls Tryd.prog 14 #[.pointer (some ⟨v, 0, none⟩), .int .i64 u] w fun e w' => e = .returned .nilIface ∧
      VW w0 R v p q n (trs (all (all S L) (bws n H E 8)) h E k) [] (trh h E k) (E.drop k) (hms H E 8) w' ∧ RK R w w' := by
  have HN := hide (j.next (by omega) he)
  have HT := hide ht
  have HTB := hide htb
  have HFB := hide hf
  have HE := hide he
  have HD := hide hd
  have Hn := hide hn
  have HKM := hide (show k ≤ E.length by omega)
  have HKE := hide hk
  have hub : u < 1000000000000001000 := by omega
  have HUB := hide hub
  have HSB := hide (show 2 + n + 8 ≤ (all S L).length by rw [all_length]; exact hS)
  have HSZ := hide (show 2 ≤ (all (all S L) (bws n H E 8)).length by rw [all_length, all_length]; omega)
  have HL := hide (show L.length ≤ 1000000 by omega)
  have HJ := hide j
  have hlt : ¬ (u < 0) := by omega
  obtain ⟨z, hz⟩ : ∃ z, h.f + E.length = z := ⟨_, rfl⟩
  rw [hz] at HN hu
  have hge : ¬ ((z : Int) ≤ u) := by omega
  obtain ⟨S1, hS1⟩ : ∃ S1, all S L = S1 := ⟨_, rfl⟩
  rw [hS1] at HSB HSZ ⊢
  have HS1 := hide hS1
  clear j ht htb hf he hd hn hS hL hk hz hub hu hS1
  go_enter Tryd.func14, Tryd.ntmps14
  go_wp2_with fail
  refine HN.out.mono ?_
  rintro e w1 ⟨rfl, hb⟩
  have HJ1 := hide (HJ.out.below hb).1
  have HK1 := hide (HJ.out.below hb).2
  have c2 := HJ1.out.box.jour
  clear hb HN HJ
  go_wp2_with fail
  refine (HJ1.out.jw.flush HL.out).mono ?_
  rintro e w2 ⟨rfl, hj, hr⟩
  have HJ2 := hide (HJ1.out.after hj hr).1
  have HK2 := hide (RK.trans HK1.out (HJ1.out.after hj hr).2)
  clear hj hr HJ1 HK1 c2
  rw [HS1.out] at HJ2
  clear HS1
  go_wp2
  go_loopw [25] (fun jx wr => ∃ (i : Nat), i ≤ 8 ∧ jx = .int .i64 i ∧ Hid (VW w0 R v p q n S1 (bws n H E i) h E (hms H E i) wr) ∧ Hid (RK R w wr)) (fun jx _ => 8 - (intOf jx).toNat)
  case atStart => exact ⟨0, by omega, rfl, hide (by rw [hms_zero]; exact HJ2.out), HK2⟩
  case round =>
    obtain ⟨i, hi, rfl, hj, hr⟩ := hrel
    rcases Nat.lt_or_ge i 8 with hlt8 | hge8
    · have hii : (i : Int) < 8 := by omega
      go_wp2_with fail
      refine (bringHome_any (L := []) hj.out HT.out hlt8 HE.out (HD.out i hlt8) Hn.out HSB.out (by simp)).mono ?_
      rintro e w3 ⟨rfl, hj3, hr3⟩
      have HJ3 := hide hj3
      have HK3 := hide (RK.trans hr.out hr3)
      clear hj3 hr3
      go_wp2
      go_roundw
      case rel => exact ⟨i + 1, by omega, by go_num, HJ3, HK3⟩
      case measure => simp [intOf]; omega
    · obtain rfl : i = 8 := by omega
      clear hge8
      have c0 := hj.out.box.disk
      go_wp2_with fail
      refine (JW.dflush hj.out.jw (by have := bws_len n H E 8; omega)).mono ?_
      rintro e w4 ⟨rfl, hj4, hr4⟩
      have HJ4 := hide (hj.out.after hj4 hr4).1
      have HK4 := hide (RK.trans hr.out (hj.out.after hj4 hr4).2)
      clear hj4 hr4 hj hr c0
      have HU := hide (upTo_any HJ4.out.drew (by have := HFB.out; omega) HE.out u h0 (by have := HUB.out; omega) k HKE.out)
      have c2d := HJ4.out.drew.box.jour
      have c2 := HJ4.out.box.jour
      go_wp2
      refine wp_region_held (S := (fun W => W.cell? ⟨v, 2, none⟩ = some (.pointer (some ⟨p, 0, none⟩)))) (by kernel_rfl) ?_
      change wpAnyH _ _ _ _ _ _ _ _ (World.drew _)
      refine wpAnyH_take (i := 0) (oi := ⟨some 37, _, _, _, _, _⟩) (v := ?_) rfl (by kernel_rfl) (by kernel_rfl) (by kernel_rfl) (fun _ _ _ h => h) (Or.inl ⟨by rfl, ?_⟩) c2d ?_
      rotate_left 1
      · (intro w hSw; obtain hSw1 := hSw; go_simp; try with_reducible rfl)
      simp only [Act.put, List.setIfInBounds_toArray, List.set_cons_zero, List.set_cons_succ]
      refine wpAnyH_take (i := 1) (oi := ⟨some 38, _, _, _, _, _⟩) (v := ?_) rfl (by kernel_rfl) (by kernel_rfl) (by kernel_rfl) (fun _ _ _ h => h) (Or.inl ⟨by rfl, ?_⟩) c2d ?_
      rotate_left 1
      · (intro w hSw; obtain hSw1 := hSw; go_simp; try with_reducible rfl)
      simp only [Act.put, List.setIfInBounds_toArray, List.set_cons_zero, List.set_cons_succ]
      refine wpAnyH_take (i := 2) (oi := ⟨some 39, _, _, _, _, _⟩) (v := ?_) rfl (by kernel_rfl) (by kernel_rfl) (by kernel_rfl) (fun _ _ _ h => h) (Or.inl ⟨by rfl, ?_⟩) c2d ?_
      rotate_left 1
      · (intro w hSw; obtain hSw1 := hSw; go_simp; try with_reducible rfl)
      simp only [Act.put, List.setIfInBounds_toArray, List.set_cons_zero, List.set_cons_succ]
      refine wpAnyH_take (i := 3) (oi := ⟨some 40, _, _, _, _, _⟩) (v := ?_) rfl (by kernel_rfl) (by kernel_rfl) (by kernel_rfl) (fun _ _ _ h => h) (Or.inl ⟨by rfl, ?_⟩) c2d ?_
      rotate_left 1
      · (intro w hSw; obtain hSw1 := hSw; go_simp; try with_reducible rfl)
      simp only [Act.put, List.setIfInBounds_toArray, List.set_cons_zero, List.set_cons_succ]
      refine wpAnyH_take (i := 4) (oi := ⟨some 41, _, _, _, _, _⟩) (v := ?_) rfl (by kernel_rfl) (by kernel_rfl) (by kernel_rfl) (fun _ _ _ h => h) (Or.inl ⟨by rfl, ?_⟩) c2d ?_
      rotate_left 1
      · (intro w hSw; obtain hSw1 := hSw; go_simp; try with_reducible rfl)
      simp only [Act.put, List.setIfInBounds_toArray, List.set_cons_zero, List.set_cons_succ]
      refine wpAnyH_take (i := 5) (oi := ⟨some 42, _, _, _, _, _⟩) (v := ?_) rfl (by kernel_rfl) (by kernel_rfl) (by kernel_rfl) (fun _ _ _ h => h) (Or.inl ⟨by rfl, ?_⟩) c2d ?_
      rotate_left 1
      · (intro w hSw; obtain hSw1 := hSw; go_simp; try with_reducible rfl)
      simp only [Act.put, List.setIfInBounds_toArray, List.set_cons_zero, List.set_cons_succ]
      refine wpAnyH_take (i := 6) (oi := ⟨some 43, _, _, _, _, _⟩) (v := ?_) rfl (by kernel_rfl) (by kernel_rfl) (by kernel_rfl) (fun _ _ _ h => h) (Or.inl ⟨by rfl, ?_⟩) c2d ?_
      rotate_left 1
      · (intro w hSw; obtain hSw1 := hSw; go_simp; try with_reducible rfl)
      simp only [Act.put, List.setIfInBounds_toArray, List.set_cons_zero, List.set_cons_succ]
      refine wpAnyH_ready (rs := [7]) (by kernel_rfl) (by simp) ?_
      refine AllReadyH.cons (o := ⟨some 44, _, _, _, _, _⟩) rfl (fun K hK => ?_) AllReadyH.nil
      go_simp
      refine (HU.out).mono ?_
      rintro r w5 ⟨rfl, hb5⟩
      have hb5d := drew_below hb5
      have HJ5 := hide (HJ4.out.below hb5d).1
      have HK5 := hide (RK.trans HK4.out (HJ4.out.below hb5d).2)
      have hS5 := HJ5.out.box.jour
      clear hb5 hb5d
      refine hK.out _ _ hS5 (fun hHeld => ?_)
      clear hK K
      clear hHeld
      refine wpAnyH_ready (rs := [8]) (by kernel_rfl) (by simp) ?_
      refine AllReadyH.cons (o := ⟨some 45, _, _, _, _, _⟩) rfl (fun K hK => ?_) AllReadyH.nil
      go_simp
      refine (JW.trimAny HJ5.out.jw HT.out k HKM.out HE.out HTB.out HFB.out HSZ.out).mono ?_
      rintro r w6 ⟨rfl, hj6, hk6⟩
      have HJ6 := hide (HJ5.out.after hj6 hk6).1
      have HK6 := hide (RK.trans HK5.out (HJ5.out.after hj6 hk6).2)
      have hS6 := HJ6.out.box.jour
      clear hj6 hk6 HJ5 HK5
      refine hK.out _ _ hS6 (fun hHeld => ?_)
      clear hK K
      clear hHeld
      refine wpAnyH_ready (rs := [9]) (by kernel_rfl) (by simp) ?_
      refine AllReadyH.cons (o := ⟨some 46, _, _, _, _, _⟩) rfl (fun K hK => ?_) AllReadyH.nil
      go_simp
      refine (failed_nil u w6).mono ?_
      rintro r w7 ⟨rfl, rfl⟩
      refine hK.out _ _ hS6 (fun hHeld => ?_)
      clear hK K
      clear hHeld
      refine wpAnyH_take (i := 10) (oi := ⟨some 4, _, _, _, _, _⟩) (v := ?_) rfl (by kernel_rfl) (by kernel_rfl) (by kernel_rfl) (fun _ _ _ h => h) (Or.inl ⟨by rfl, ?_⟩) hS6 ?_
      rotate_left 1
      · (intro w hSw; obtain hSw1 := hSw; go_simp; try with_reducible rfl)
      simp only [Act.put, List.setIfInBounds_toArray, List.set_cons_zero, List.set_cons_succ]
      refine wpAnyH_done (by kernel_rfl) ?_ _
      clear hS6 HU
      go_wp2
      go_ret
      exact ⟨rfl, HJ6.out, HK6.out⟩
end

end Go.Proofs.YtapiogcoipeinaaDoor.Vo
