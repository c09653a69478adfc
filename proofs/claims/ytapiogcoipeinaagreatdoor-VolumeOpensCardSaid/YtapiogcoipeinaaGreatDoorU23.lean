/-
  The statements' own awake. Condition: the table of half bytes holds what the program's own text lays.
-/
import Derived.Test.YtapiogcoipeinaaGreatDoorU22
import Derived.Test.YtapiogcoipeinaaGreatDoorU13
namespace Go.Proofs.YtapiogcoipeinaaGreatDoor.Vo
open Go.RowKit
open Pk Sm Fa Rc Dk Jn
structure Lim (n : Nat) (h : Hd) (E : List Ent) (T : Nat) : Prop where
 t : h.t ≤ T
 g : h.g ≤ T
 f : h.f + E.length ≤ T + 1
 T : T ≤ 1000
 n1 : 1 ≤ n
 n200 : n ≤ 200
theorem Lim.more {n T T' : Nat} {h : Hd} {E : List Ent} (l : Lim n h E T) (hT : T ≤ T') (hT' : T' ≤ 1000) : Lim n h E T' := ⟨Nat.le_trans l.t hT, Nat.le_trans l.g hT, by have := l.f; omega, hT', l.n1, l.n200⟩
theorem headok {t f g l : Nat} (ht : t ≤ 1001) (hf : f ≤ 2000) (hg : g ≤ 1001) (h1 : 1 ≤ f) (hl : l ≤ g) : HOk (t % 2) ⟨t, f, g, l⟩ :=
 ⟨by show t ≤ _; omega, by show f ≤ _; omega, by show g ≤ _; omega, by show l ≤ _; omega, h1, hl, rfl⟩
theorem all_one (S : List Sec) (i : Nat) (s : Sec) : all S ([] ++ [(i, s)]) = S.set i s := rfl
def VS (w0 : World) (R : Nat → Prop) (v p q n : Nat) (h : Hd) (E : List Ent) (H : Nat → Hm) (D T : Nat) (w : World) : Prop := ∃ S, VW w0 R v p q n S (wrs n (E.drop D)) h E H w ∧ Vg S n h E D h.g H ∧ Lim n h E T
def VC (w0 : World) (R : Nat → Prop) (v p q n : Nat) (h : Hd) (E : List Ent) (H : Nat → Hm) (i T : Nat) (w : World) : Prop := ∃ S, VW w0 R v p q n S [] h E H w ∧ Vg S n h (E.take i) i (h.g + 1) H ∧ i ≤ E.length ∧ Lim n h E T
section
variable {w0 w w' : World} {R : Nat → Prop} {v p q n : Nat} {h : Hd} {E : List Ent} {H : Nat → Hm} {D T i : Nat}
theorem VS.lim (j : VS w0 R v p q n h E H D T w) : Lim n h E T := by
 obtain ⟨S, _, _, h3⟩ := j
 exact h3
theorem VS.few (j : VS w0 R v p q n h E H D T w) : E.length ≤ n ∧ D ≤ E.length ∧ Seqs h.f E := by
 obtain ⟨S, _, h2, _⟩ := j
 exact ⟨h2.jg.few, h2.jg.le, h2.jg.seqs⟩
theorem VS.pos (j : VS w0 R v p q n h E H D T w) : 1 ≤ h.f := by
 obtain ⟨S, _, h2, _⟩ := j
 exact h2.jg.head.1.pos
theorem VS.below (j : VS w0 R v p q n h E H D T w) (hb : Below w.heap.size w w') : VS w0 R v p q n h E H D T w' ∧ RK R w w' := by
 obtain ⟨S, h1, h2, h3⟩ := j
 exact ⟨⟨S, (h1.below hb).1, h2, h3⟩, (h1.below hb).2⟩
theorem VS.bel (j : VS w0 R v p q n h E H D T w) : Below w0.heap.size w0 w := by
 obtain ⟨S, h1, _⟩ := j
 exact h1.bel
theorem VS.hold {R' : Nat → Prop} (j : VS w0 R v p q n h E H D T w) (hb : Below w.heap.size w w') (hR : ∀ k, R' k → w.heap.size ≤ k ∧ k < w'.heap.size) : VS w0 (fun k => R k ∨ R' k) v p q n h E H D T w' := by
 obtain ⟨S, h1, h2, h3⟩ := j
 exact ⟨S, h1.hold hb hR, h2, h3⟩
theorem VS.mono {R' : Nat → Prop} (j : VS w0 R v p q n h E H D T w) (hR : ∀ k, R' k → R k) : VS w0 R' v p q n h E H D T w := by
 obtain ⟨S, h1, h2, h3⟩ := j
 exact ⟨S, h1.mono hR, h2, h3⟩
theorem VS.more {T' : Nat} (j : VS w0 R v p q n h E H D T w) (hT : T ≤ T') (hT' : T' ≤ 1000) : VS w0 R v p q n h E H D T' w := by
 obtain ⟨S, h1, h2, h3⟩ := j
 exact ⟨S, h1, h2, h3.more hT hT'⟩
theorem VS.tab (j : VS w0 R v p q n h E H D T w) (ht : Tab w0) : Tab w := ht.below j.bel ht.pos
theorem VS.short (j : VS w0 R v p q n h E H D T w) : (wrs n (E.drop D)).length ≤ 200 := by
 have := j.few.1
 have := j.lim.n200
 rw [wrs_length, List.length_drop]
 omega
theorem VS.next (j : VS w0 R v p q n h E H D T w) : Calls Tryz.prog 28 #[.pointer (some ⟨v, 0, none⟩)] w fun e w' => e = .returned (.int .i64 ((h.f + E.length : Nat) : Int)) ∧ Below w.heap.size w w' := by
 have l := j.lim
 have f := j.few
 obtain ⟨S, h1, _⟩ := j
 exact h1.next (by have := l.f; have := l.T; omega) (by have := l.n200; omega)
theorem VS.read (j : VS w0 R v p q n h E H D T w) {b : Nat} (hb : b < 8) :
 Calls Tryz.prog 18 #[.pointer (some ⟨v, 0, none⟩), .int .i64 (b : Int)] w fun e w' => e = .returned (.tuple #[.string (blk H E b), .nilIface]) ∧ Below w.heap.size w w' := by
 have l := j.lim
 have f := j.few
 obtain ⟨S, h1, _⟩ := j
 exact Read_good h1 b hb (by have := l.n200; omega)
theorem VS.of_append {S : List Sec} (h2 : Vg S n h E D h.g H) (l : Lim n h E T) (hT : T + 1 ≤ 1000) (he : E.length < n) {y : Ent} (hok : EOk y) (hs : y.s = h.f + E.length) (hg : y.g = h.g)
 (hv : VW w0 R v p q n S (wrs n (E.drop D) ++ [(2 + (h.f + E.length) % n, esec y)]) h (E ++ [y]) H w') : VS w0 R v p q n h (E ++ [y]) H D (T + 1) w' := by
 refine ⟨S, ?_, h2.append (Nat.le_refl _) he hok hs hg, ⟨by have := l.t; omega, by have := l.g; omega, by have := l.f; simp; omega, hT, l.n1, l.n200⟩⟩
 rw [List.drop_append_of_le_length h2.jg.le]
 simpa [wrs, wr, hs] using hv
theorem VS.eok (j : VS w0 R v p q n h E H D T w) {k b : Int} {d : ByteArray} {m : Int} : EOk ⟨h.g, h.f + E.length, k, b, d, m⟩ ↔ (k = 1 ∧ 0 ≤ b ∧ b ≤ 7 ∧ d.size ≤ 16 ∧ m = 0) ∨ (k = 2 ∧ b = 0 ∧ d.size = 0 ∧ 1 ≤ m ∧ m ≤ 1152921504606846975) := by
 have l := j.lim
 obtain ⟨S, _, h2, _⟩ := j
 have h1 := h2.jg.head.1.pos
 unfold EOk Rgt Num
 constructor
 ·intro h; exact h.1.2
 ·intro h'; exact ⟨⟨⟨by show (1 : Int) ≤ ((h.f + E.length : Nat) : Int); omega, by show ((h.f + E.length : Nat) : Int) ≤ _; have := l.f; have := l.T; omega⟩, h'⟩, by show (0 : Int) ≤ (h.g : Int); omega, by show (h.g : Int) ≤ _; have := l.g; have := l.T; omega⟩
theorem VS.write (j : VS w0 R v p q n h E H D T w) (ht : Tab w0) (hT : T + 1 ≤ 1000) (he : E.length < n) {b : Int} (h0 : 0 ≤ b) (h8 : b < 8) {d : ByteArray} (hd : d.size ≤ 16) :
 Calls Tryz.prog 13 #[.pointer (some ⟨v, 0, none⟩), .int .i64 b, .string d] w fun e w' => e = .returned (.tuple #[.int .i64 ((h.f + E.length : Nat) : Int), .nilIface]) ∧
  VS w0 R v p q n h (E ++ [⟨h.g, h.f + E.length, 1, b, d, 0⟩]) H D (T + 1) w' ∧ RK R w w' := by
 have l := j.lim
 have f := j.few
 have hs := j.short
 have hok : EOk ⟨h.g, h.f + E.length, 1, b, d, 0⟩ := j.eok.2 (Or.inl ⟨rfl, h0, by omega, hd, rfl⟩)
 obtain ⟨S, h1, h2, h3⟩ := j
 refine (Write_good h1 ht (by have := l.f; have := l.T; omega) (by have := l.n200; omega) he b d h0 h8 hd hok h2.jg.size (by omega)).mono ?_
 rintro e w' ⟨rfl, hj, hk⟩
 exact ⟨rfl, VS.of_append h2 h3 hT he hok rfl rfl hj, hk⟩
theorem VS.flush (j : VS w0 R v p q n h E H D T w) :
 Calls Tryz.prog 20 #[.pointer (some ⟨v, 0, none⟩)] w fun e w' => e = .returned (.tuple #[]) ∧ VS w0 R v p q n h E H E.length T w' ∧ RK R w w' := by
 have hs := j.short
 obtain ⟨S, h1, h2, h3⟩ := j
 refine (h1.flush (by omega)).mono ?_
 rintro e w' ⟨rfl, hj, hk⟩
 refine ⟨rfl, ⟨all S (wrs n (E.drop D)), ?_, h2.flush (by omega), h3⟩, hk⟩
 rw [List.drop_length]
 exact hj
theorem VS.crash (j : VS w0 R v p q n h E H D T w) (K : Nat) (hK : K < 18446744073709551616) :
 Calls Tryz.prog 24 #[.pointer (some ⟨q, 0, none⟩), .int .u64 K] w fun e w' => e = .returned (.tuple #[]) ∧ ∃ i, D ≤ i ∧ i ≤ E.length ∧ VC w0 R v p q n h E H i T w' ∧ RK R w w' := by
 have hs := j.short
 obtain ⟨S, h1, h2, h3⟩ := j
 refine (h1.jw.crash K hK (by omega)).mono ?_
 rintro e w' ⟨rfl, hj, hk⟩
 obtain ⟨i, hi1, hi2, hi3⟩ := h2.crash K (Nat.le_succ _)
 exact ⟨rfl, i, hi1, hi2, ⟨_, (h1.after hj hk).1, hi3, hi2, h3⟩, (h1.after hj hk).2⟩
theorem VC.open (j : VC w0 R v p q n h E H i T w) (ht : Tab w0) (hT : T + 1 ≤ 1000) :
 Calls Tryz.prog 11 #[.pointer (some ⟨q, 0, none⟩), .int .i64 (n : Int)] w fun e w' => ∃ v' p', e = .returned (.tuple #[.pointer (some ⟨v', 0, none⟩), .nilIface]) ∧ VS w0 R v' p' q n ⟨h.t + 1, h.f, h.g + 1, h.l⟩ (E.take i) H i (T + 1) w' ∧ RK R w w' := by
 obtain ⟨S, h1, h2, hi, l⟩ := j
 have hlen : (E.take i).length = i := by rw [List.length_take]; omega
 have h2' : Vg S n h (E.take i) (E.take i).length (h.g + 1) H := by rw [hlen]; exact h2
 have hjw : JW w0 R p q n S [] h E w := h1.jw.mono fun k hk => Or.inl hk
 have hf := l.f
 have hTT := l.T
 have htt := l.t
 have hgg := l.g
 have hl : Jn.load (all S []) n h.g n h.f h.l = E.take i := h2'.jg.load
 have hsv := h2'.save (h' := ⟨h.t + 1, h.f, h.g + 1, h.l⟩) (k := 0) rfl (headok (t := h.t + 1) (f := h.f) (g := h.g + 1) (l := h.l) (by omega) (by omega) (by omega) h2.jg.head.1.pos (by have := h2.jg.head.1.low; omega)) (Nat.zero_le _) rfl rfl (Nat.le_succ _) (Nat.le_refl _)
 rw [List.drop_zero, Nat.sub_zero, hlen] at hsv
 have hopen := hjw.open ht l.n1 (by have := l.n200; omega) h2.jg.size (h' := h) h2.jg.cur (by simp)
 rw [hl, all_one] at hopen
 refine (Open_any (H := H) (JW.len hjw) hopen ht l.n1 (by have := l.n200; omega) (by have := h2.size; omega) hsv.size (fun b hb x hx => ?_)).mono ?_
 ·rw [hsv.told hb] at hx
  cases hx
  rfl
 rintro e w' ⟨ha, _⟩
 obtain ⟨v', p', rfl, hv, hk⟩ := ha fun b hb => hsv.told hb
 refine ⟨v', p', rfl, ⟨_, ?_, hsv, ⟨by show h.t + 1 ≤ _; omega, by show h.g + 1 ≤ _; omega, by show h.f + (E.take i).length ≤ _; rw [hlen]; omega, hT, l.n1, l.n200⟩⟩, hk⟩
 rw [show (E.take i).drop i = [] from List.drop_eq_nil_of_le (by omega)]
 exact hv
theorem VS.start {N : Nat} {D : Nat → Prop} (hd : Dsk w D q (List.replicate N zero) []) (ht : Tab w0) (h2 : ∀ k, D k → w0.heap.size ≤ k) (h3 : Below w0.heap.size w0 w) (h4 : ∀ k, R k → k < w.heap.size ∧ ¬ D k) (h1n : 1 ≤ n) (h200 : n ≤ 200) (h2n : 10 + n ≤ N) :
 Calls Tryz.prog 11 #[.pointer (some ⟨q, 0, none⟩), .int .i64 (n : Int)] w fun e w' => ∃ v p, e = .returned (.tuple #[.pointer (some ⟨v, 0, none⟩), .nilIface]) ∧ VS w0 R v p q n ⟨1, 1, 1, 0⟩ [] (fun _ => hm0) 0 1 w' ∧ RK R w w' := by
 have hsv : Vg ((List.replicate N zer).set 1 (hsec ⟨1, 1, 1, 0⟩)) n ⟨1, 1, 1, 0⟩ [] 0 1 (fun _ => hm0) := Vg.fresh h1n (by omega)
 refine (Open_any (H := fun _ => hm0) (Len_any hd) (JW.start hd ht h2 h3 h4 h1n (by omega) (by omega)) ht h1n (by omega) (by simpa using h2n) hsv.size (fun b hb x hx => ?_)).mono ?_
 ·rw [hsv.told hb] at hx
  cases hx
  rfl
 rintro e w' ⟨ha, _⟩
 obtain ⟨v', p', rfl, hv, hk⟩ := ha fun b hb => hsv.told hb
 exact ⟨v', p', rfl, ⟨_, hv, hsv, ⟨Nat.le_refl _, Nat.le_refl _, by decide, by decide, h1n, h200⟩⟩, hk⟩
end
end Go.Proofs.YtapiogcoipeinaaGreatDoor.Vo
namespace Go.Proofs.YtapiogcoipeinaaGreatDoor.Vo
open Go.RowKit
open Pk Sm Fa Rc Dk Jn
theorem First_flt {w : World} {v : Value} {r k : Int} (hty : Ety w) (h : VFlt w v r k) :
 Calls Tryz.prog 46 #[v, .string vnam] w fun e w' => e = .returned (.tuple #[.int .i64 r, .bool true]) ∧ Below w.heap.size w w' := by
 obtain ⟨p, fs, rfl, hc, hl⟩ := h
 have hF := First_any _ _ _ vnam _ w rfl hty hc (by first | exact Or.inr ⟨k, rfl⟩ | exact Or.inr (Or.inl ⟨k, rfl⟩)) (by simp; omega)
 have hf : Fa.fnd (pls ((p, vnam, r) :: fs)) vnam = (r, true) := fnd_yes (by simp)
 rw [hf] at hF
 exact hF
theorem First_none {w : World} (hty : Ety w) : Calls Tryz.prog 46 #[.nilIface, .string vnam] w fun e w' => e = .returned (.tuple #[.int .i64 0, .bool false]) ∧ Below w.heap.size w w' :=
 First_any [] _ _ vnam _ w rfl hty rfl (Or.inl rfl) (by simp)
theorem Code_flt {w : World} {v : Value} {r k : Int} (hty : Ety w) (h : VFlt w v r k) :
 Calls Tryz.prog 47 #[v] w fun e w' => e = .returned (.int .i64 k) ∧ Below w.heap.size w w' := by
 obtain ⟨p, fs, rfl, hc, hl⟩ := h
 exact Code_any _ _ _ k w hty hc (by first | exact Or.inr rfl | exact Or.inr (Or.inl rfl)) (by simp; omega)
theorem Code_none {w : World} (hty : Ety w) : Calls Tryz.prog 47 #[.nilIface] w fun e w' => e = .returned (.int .i64 0) ∧ Below w.heap.size w w' :=
 Code_any [] _ _ 0 w hty rfl (Or.inl ⟨rfl, rfl⟩) (by simp)
end Go.Proofs.YtapiogcoipeinaaGreatDoor.Vo
namespace Go.Proofs.YtapiogcoipeinaaGreatDoor.Vo
open Go.RowKit
open Pk Sm Fa Rc Dk Jn
set_option maxRecDepth 100000 in
theorem place_flt {w : World} {p : Nat} {s e : Int} (hty : Ety w) (h : VErr w p s e) (he : e ≠ 0) :
 Calls Tryz.prog 15 #[.iface 145 (.pointer (some ⟨p, 0, none⟩)), .int .i64 s, .int .i64 e] w fun r w' => r = .returned (.bool true) ∧ Below w.heap.size w w' := by
 have HF := hide (First_flt hty h)
 have HY := hide hty
 have HP := hide hty.lt
 have HV := hide h
 have he3 : (e != 0) = true := by simp [he]
 clear hty h he
 go_enter Tryz.func15, Tryz.ntmps15
 go_wp2_with fail
 refine HF.out.mono ?_
 rintro r w1 ⟨rfl, hb1⟩
 have HC := hide (Code_flt (HY.out.below hb1 HP.out) (VFlt.below HV.out (Nat.le_refl _) hb1))
 have HB1 := hide hb1
 clear hb1 HF
 go_wp2_with fail
 refine HC.out.mono ?_
 rintro r w2 ⟨rfl, hb2⟩
 have HB2 := hide (HB1.out.trans (hb2.mono HB1.out.size))
 clear hb2 HC
 go_wp2
 go_ret
 exact ⟨rfl, HB2.out⟩
set_option maxRecDepth 100000 in
theorem place_none {w : World} (hty : Ety w) (s : Int) :
 Calls Tryz.prog 15 #[.nilIface, .int .i64 s, .int .i64 0] w fun r w' => r = .returned (.bool true) ∧ Below w.heap.size w w' := by
 have HF := hide (First_none hty)
 have HY := hide hty
 have HP := hide hty.lt
 clear hty
 go_enter Tryz.func15, Tryz.ntmps15
 go_wp2_with fail
 refine HF.out.mono ?_
 rintro r w1 ⟨rfl, hb1⟩
 have HC := hide (Code_none (HY.out.below hb1 HP.out))
 have HB1 := hide hb1
 clear hb1 HF
 go_wp2_with fail
 refine HC.out.mono ?_
 rintro r w2 ⟨rfl, hb2⟩
 have HB2 := hide (HB1.out.trans (hb2.mono HB1.out.size))
 clear hb2 HC
 go_wp2
 go_ret
 exact ⟨rfl, HB2.out⟩
end Go.Proofs.YtapiogcoipeinaaGreatDoor.Vo
namespace Go.Proofs.YtapiogcoipeinaaGreatDoor.Vo
open Go.RowKit
open Pk Sm Fa Rc Dk Jn
set_option maxRecDepth 100000 in
set_option maxHeartbeats 2000000 in
theorem jOpen_sum (w : World) (D : Nat → Prop) (q : Nat) (S : List Sec) (L : List Wr) (hd : Dsk w D q S L) (n : Nat) (h1n : 1 ≤ n) (h512 : n ≤ 512) (h2n : 2 + n ≤ S.length) (hcur : cur (all S L) = none) (hL : L.length ≤ 800000) (ht : Tab w) :
 Calls Tryz.prog 38 #[.pointer (some ⟨q, 0, none⟩), .int .i64 (n : Int)] w fun e w' => ∃ pp, e = .returned (.tuple #[.pointer none, .iface 145 (.pointer (some ⟨pp, 0, none⟩))]) ∧ JFlt w' (.iface 145 (.pointer (some ⟨pp, 0, none⟩))) (n : Int) 4 ∧ Below w.heap.size w w' := by
 have HLn := hide (Len_any hd)
 obtain ⟨m, hm⟩ : ∃ m, S.length = m := ⟨_, rfl⟩
 rw [hm] at HLn h2n
 have h512i : ¬ ((512 : Int) < (n : Int)) := by omega
 have h1i : ¬ ((n : Int) < 1) := by omega
 have h2i : ¬ ((m : Int) < 2 + (n : Int)) := by omega
 have h3i : (2 : Int) + (n : Int) ≤ (m : Int) := by omega
 have HC := hide (current_any w D q S L hd (by omega) (by omega) ht)
 have Hcur := hide hcur
 clear hd hm h1n h512 h2n hcur hL ht
 go_enter Tryz.func38, Tryz.ntmps38
 go_wp2_with fail
 refine HLn.out.mono ?_
 rintro r w' ⟨rfl, rfl⟩
 clear HLn
 go_wp2_with fail
 refine HC.out.mono ?_
 rintro e w2 ⟨hnow, hb2⟩
 unfold NowIs at hnow
 rw [Hcur.out] at hnow
 obtain ⟨h, hnow'⟩ : ∃ h, e = .returned (.tuple #[hd4 h, .bool false]) := hnow
 subst hnow'
 obtain ⟨t, f, g, l⟩ := h
 have hz := hx_below w2 t f g l
 have HB2 := hide (hb2.trans (hz.mono hb2.size))
 have HF := hide (fun W => Jn.failed_num (n : Int) 4 W (by decide))
 clear hb2 HC hz
 go_wp2_with fail
 refine (HF.out _).mono ?_
 rintro r w4 ⟨pp, rfl, hfl, hb4⟩
 have H1 := hide hfl
 have H2 := hide (HB2.out.trans (hb4.mono HB2.out.size))
 clear hfl hb4
 go_wp2
 go_ret2
 exact ⟨pp, rfl, H1.out, H2.out⟩
section
variable {w : World} {q : Nat}
def VBad (s e : Int) (w : World) (r : Ending) (w' : World) : Prop :=
 ∃ pp, r = .returned (.tuple #[.pointer none, .iface 145 (.pointer (some ⟨pp, 0, none⟩))]) ∧ VErr w' pp s e ∧ Below w.heap.size w w'
set_option maxRecDepth 100000 in
set_option maxHeartbeats 2000000 in
theorem Open_arg {m : Nat} (ring : Int) (hl : Calls Tryz.prog 31 #[.pointer (some ⟨q, 0, none⟩)] w fun e w' => e = .returned (.int .i64 m) ∧ w = w') (hbad : ring < 1 ∨ 512 < ring ∨ (m : Int) < 10 + ring) :
 Calls Tryz.prog 11 #[.pointer (some ⟨q, 0, none⟩), .int .i64 ring] w (VBad ring 1 w) := by
 have HF := hide (failed_num ring 1 w (by decide))
 have HLn := hide hl
 clear hl
 by_cases h1 : ring < 1
 ·clear hbad HLn
  go_enter Tryz.func11, Tryz.ntmps11
  go_wp2_with fail
  refine HF.out.mono ?_
  rintro r w4 ⟨pp, rfl, hfl, hb4⟩
  have H1 := hide hfl
  have H2 := hide hb4
  clear hfl hb4
  go_wp2
  go_ret2
  exact ⟨pp, rfl, H1.out, H2.out⟩
 by_cases h2 : 512 < ring
 ·clear hbad HLn
  go_enter Tryz.func11, Tryz.ntmps11
  go_wp2_with fail
  refine HF.out.mono ?_
  rintro r w4 ⟨pp, rfl, hfl, hb4⟩
  have H1 := hide hfl
  have H2 := hide hb4
  clear hfl hb4
  go_wp2
  go_ret2
  exact ⟨pp, rfl, H1.out, H2.out⟩
 have h3 : (m : Int) < 10 + ring := by omega
 have HSC := hide (Sectors_any ring (by omega) (by omega) w)
 clear hbad
 go_enter Tryz.func11, Tryz.ntmps11
 go_wp2_with fail
 refine HLn.out.mono ?_
 rintro e w' ⟨rfl, rfl⟩
 clear HLn
 go_wp2_with fail
 refine HSC.out.mono ?_
 rintro e w' ⟨rfl, rfl⟩
 clear HSC
 go_wp2_with fail
 refine HF.out.mono ?_
 rintro r w4 ⟨pp, rfl, hfl, hb4⟩
 have H1 := hide hfl
 have H2 := hide hb4
 clear hfl hb4
 go_wp2
 go_ret2
 exact ⟨pp, rfl, H1.out, H2.out⟩
set_option maxRecDepth 100000 in
set_option maxHeartbeats 2000000 in
theorem Open_sum {m n : Nat} (hl : Calls Tryz.prog 31 #[.pointer (some ⟨q, 0, none⟩)] w fun e w' => e = .returned (.int .i64 m) ∧ w = w')
 (ho : Calls Tryz.prog 38 #[.pointer (some ⟨q, 0, none⟩), .int .i64 (n : Int)] w fun e w' => ∃ pp, e = .returned (.tuple #[.pointer none, .iface 145 (.pointer (some ⟨pp, 0, none⟩))]) ∧ JFlt w' (.iface 145 (.pointer (some ⟨pp, 0, none⟩))) (n : Int) 4 ∧ Below w.heap.size w w')
 (h1n : 1 ≤ n) (h512 : n ≤ 512) (hm : 10 + n ≤ m) :
 Calls Tryz.prog 11 #[.pointer (some ⟨q, 0, none⟩), .int .i64 (n : Int)] w (VBad (n : Int) 4 w) := by
 have HLn := hide hl
 have HO := hide ho
 have HSC := hide (Sectors_any (n : Int) (by omega) (by omega) w)
 have g1 : ¬ ((n : Int) < 1) := by omega
 have g2 : ¬ ((512 : Int) < (n : Int)) := by omega
 have g3 : ¬ ((m : Int) < 10 + (n : Int)) := by omega
 clear hl ho h1n h512 hm
 go_enter Tryz.func11, Tryz.ntmps11
 go_wp2_with fail
 refine HLn.out.mono ?_
 rintro e w' ⟨rfl, rfl⟩
 clear HLn
 go_wp2_with fail
 refine HSC.out.mono ?_
 rintro e w' ⟨rfl, rfl⟩
 clear HSC
 go_wp2_with fail
 refine HO.out.mono ?_
 rintro e w1 ⟨pp, rfl, hf, hb⟩
 have HF := hide (failed_flt (n : Int) (n : Int) 4 pp w1 hf)
 have HB := hide hb
 clear hf hb HO
 go_wp2_with fail
 refine HF.out.mono ?_
 rintro r w4 ⟨pp2, rfl, hfl, hb4⟩
 have H1 := hide hfl
 have H2 := hide (HB.out.trans (hb4.mono HB.out.size))
 clear hfl hb4 HF
 go_wp2
 go_ret2
 exact ⟨pp2, rfl, H1.out, H2.out⟩
end
theorem failed_new (s e : Int) (w : World) (he : e ≠ 0) :
 Calls Tryz.prog 37 #[.int .i64 s, .iface 83 (.int .i64 e)] w fun r w' => r = .returned (.iface 145 (.pointer (some ⟨w.heap.size, 0, none⟩))) ∧
  w'.heap[w.heap.size]? = some (.cells #[.string vnam, .int .i64 s, .iface 83 (.int .i64 e)] 147 (0, 0)) ∧ Below w.heap.size w w' := by
 have HW := hide (Wrap_real vnam s (.iface 83 (.int .i64 e)) w (Real.num he))
 go_enter Tryz.func37, Tryz.ntmps37
 go_wp2_with fail
 refine HW.out.mono ?_
 rintro r w' ⟨rfl, rfl⟩
 go_wp2
 go_ret
 exact ⟨rfl, heap_alloc_new w _, (Below.refl _ _).alloc (Nat.le_refl _) _⟩
section
variable {w0 w : World} {R : Nat → Prop} {q n : Nat} {S : List Sec} {h : Hd} {E : List Ent}
def VTold (w0 : World) (R : Nat → Prop) (n : Int) (w : World) (r : Ending) (w' : World) : Prop :=
 ∃ pp, r = .returned (.tuple #[.pointer none, .iface 145 (.pointer (some ⟨pp, 0, none⟩))]) ∧ ¬ R pp ∧ w'.heap[pp]? = some (.cells #[.string vnam, .int .i64 n, .iface 83 (.int .i64 4)] 147 (0, 0)) ∧ Below w0.heap.size w0 w' ∧ RK R w w'
set_option maxRecDepth 100000 in
set_option maxHeartbeats 2000000 in
theorem Open_told {m : Nat} (hl : Calls Tryz.prog 31 #[.pointer (some ⟨q, 0, none⟩)] w fun e w' => e = .returned (.int .i64 m) ∧ w = w')
 (ho : Calls Tryz.prog 38 #[.pointer (some ⟨q, 0, none⟩), .int .i64 (n : Int)] w (JO w0 R q n S h E w)) (ht : Tab w0) (h1n : 1 ≤ n) (h512 : n ≤ 512) (hm : 10 + n ≤ m) (hS : 2 + n + 8 ≤ S.length)
 (hno : ∃ b, b < 8 ∧ unm b (S.getD (2 + n + b) []) = none) :
 Calls Tryz.prog 11 #[.pointer (some ⟨q, 0, none⟩), .int .i64 (n : Int)] w (VTold w0 R (n : Int) w) := by
 have HLn := hide hl
 have HO := hide ho
 have HT := hide ht
 have HS := hide hS
 have HX := hide hno
 have HN := hide h512
 have HSC := hide (Sectors_any (n : Int) (by omega) (by omega) w)
 have g1 : ¬ ((n : Int) < 1) := by omega
 have g2 : ¬ ((512 : Int) < (n : Int)) := by omega
 have g3 : ¬ ((m : Int) < 10 + (n : Int)) := by omega
 clear hl ho ht h1n h512 hm hS hno
 go_enter Tryz.func11, Tryz.ntmps11
 go_wp2_with fail
 refine HLn.out.mono ?_
 rintro e w' ⟨rfl, rfl⟩
 clear HLn
 go_wp2_with fail
 refine HSC.out.mono ?_
 rintro e w' ⟨rfl, rfl⟩
 clear HSC
 go_wp2_with fail
 refine HO.out.mono ?_
 rintro e w1 ⟨p, rfl, hj, hk⟩
 have HJ1 := hide hj
 have HK1 := hide hk
 clear hj hk HO
 go_wp2_with (first | refine wpList_built rfl 91 _ rfl _ (built_vol q n p) ?_ | (refine wpList_box_tld rfl 91 _ rfl _ rfl ?_; intro w2 Hw2) | fail)
 have hfr : VW w0 R w1.heap.size p q n S [] h E (fun _ => hm0) w2 ∧ RK R w1 w2 := by rw [Hw2.out]; exact VW.fresh HJ1.out
 have HV2 := hide hfr.1
 have HK2 := hide (RK.trans HK1.out hfr.2)
 clear hfr Hw2
 generalize w1.heap.size = v at *
 have HLD := hide (load_any (H := fun b => (unm b (S.getD (2 + n + b) [])).getD hm0) HV2.out HT.out HN.out HS.out (by simp) (fun b _ x hx => by
  have hx' : unm b (S.getD (2 + n + b) []) = some x := hx
  show (unm b (S.getD (2 + n + b) [])).getD hm0 = x
  rw [hx']; rfl))
 refine HLD.out.mono ?_
 rintro e w3 ⟨_, hb⟩
 obtain ⟨rfl, ⟨H', hv3⟩, hk3⟩ := hb HX.out
 have HB3 := hide hv3.bel
 have HK3 := hide (RK.trans HK2.out hk3)
 have HV3 := hide hv3
 have HR3 : Hid (¬ R w3.heap.size) := hide (fun hR => by
  obtain ⟨G, _, _, _, h4⟩ := hv3.jw
  have := (h4 _ (Or.inl hR)).1
  omega)
 clear hb hv3 hk3 HLD HV2 HK2
 go_wp2_with fail
 refine (failed_new (n : Int) 4 w3 (by decide)).mono ?_
 rintro e w4 ⟨rfl, hf4, hb4⟩
 have HF := hide hf4
 have HB4 := hide (HB3.out.trans (hb4.mono HB3.out.size))
 have HK4 := hide (RK.trans HK3.out (HV3.out.below hb4).2)
 clear hf4 hb4
 go_wp2
 go_ret2
 exact ⟨_, rfl, HR3.out, HF.out, HB4.out, HK4.out⟩
end
end Go.Proofs.YtapiogcoipeinaaGreatDoor.Vo
namespace Go.Proofs.YtapiogcoipeinaaGreatDoor.Vo
open Go.RowKit
open Pk Sm Fa Rc Dk Jn
theorem blk_one (b : Nat) (s : Nat) (d : ByteArray) (m : Int) (g : Nat) (hs : 0 < s) : blk (fun _ => hm0) [⟨g, s, 1, (b : Int), d, m⟩] b = d :=
 congrArg Hm.d (show (if Hits b hm0 ⟨g, s, 1, (b : Int), d, m⟩ then (⟨s, d⟩ : Hm) else hm0) = ⟨s, d⟩ from if_pos ⟨rfl, rfl, hs⟩)
set_option maxRecDepth 100000 in
set_option maxHeartbeats 2000000 in
theorem awake_any (w : World) (ht : Tab w) : Calls Tryz.prog 6 #[] w fun r w' => r = .returned (.bool true) ∧ Below w.heap.size w w' := by
 have HT := hide ht
 have HN := hide (New_any 14 14 w (by decide))
 have HS := hide (fun W => Sectors_any 4 (by omega) (by omega) W)
 clear ht
 go_enter Tryz.func6, Tryz.ntmps6
 go_wp2_with fail
 refine (HS.out _).mono ?_
 rintro e w1 ⟨rfl, rfl⟩
 go_wp2_with fail
 refine HN.out.mono ?_
 rintro e w1 ⟨q, D, rfl, hd, hD, hb1⟩
 have HO := hide (VS.start (R := fun _ => False) (n := 4) hd HT.out hD hb1 (fun k hk => hk.elim) (by omega) (by omega) (by omega))
 clear hd hD hb1 HN
 go_wp2_with fail
 refine HO.out.mono ?_
 rintro e w2 ⟨v, p, rfl, hj, _⟩
 have HJ2 := hide hj
 clear hj HO
 go_wp2_with fail
 refine (HS.out _).mono ?_
 rintro e w1 ⟨rfl, rfl⟩
 have HA := hide (HJ2.out.write HT.out (by decide) (by decide) (b := 3) (by decide) (by decide) (d := ⟨#[97]⟩) (by decide))
 go_wp2_with fail
 refine HA.out.mono ?_
 rintro e w3 ⟨rfl, hj, _⟩
 have HJ3 := hide hj
 clear hj HA HJ2
 have HR := hide (HJ3.out.read (b := 3) (by decide))
 rw [show blk (fun _ => hm0) ([] ++ [(⟨(⟨1, 1, 1, 0⟩ : Hd).g, (⟨1, 1, 1, 0⟩ : Hd).f + ([] : List Ent).length, 1, 3, ⟨#[97]⟩, 0⟩ : Ent)]) 3 = ⟨#[97]⟩ from blk_one 3 1 ⟨#[97]⟩ 0 1 (by decide)] at HR
 go_wp2_with fail
 refine HR.out.mono ?_
 rintro e w4 ⟨rfl, hb4⟩
 have HB := hide (HJ3.out.below hb4).1.bel
 clear hb4 HJ3 HR
 go_wp2
 go_ret
 exact ⟨rfl, HB.out⟩
end Go.Proofs.YtapiogcoipeinaaGreatDoor.Vo
