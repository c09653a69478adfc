/-
  Records in plain words: which are valid, the bytes of one, its sector; what is read of bytes, and that a record's own bytes are read as it, so that unlike ones have unlike sectors. Plain theorems, no program.
-/
import Derived.Test.YtnmpckhlpkmojaaGreatDoorPkLaw
import Derived.Test.YtnmpckhlpkmojaaGreatDoorSmJoin
import Derived.Test.YtnmpckhlpkmojaaGreatDoorRcRgt
namespace Go.Proofs.YtnmpckhlpkmojaaGreatDoor.Rc
open Pk Sm

/-- The bytes that its sector begins with. -/
def bod (g s k b : Int) (d : ByteArray) (m : Int) : List UInt8 :=
  enc (clamp g) ++ enc (clamp s) ++ enc (clamp k) ++ (if k = 2 then enc (clamp m) else enc (clamp b) ++ enc d.size ++ d.data.toList)
/-- The sector. -/
def sec (g s k b : Int) (d : ByteArray) (m : Int) : List UInt8 := seal4 (pad (bod g s k b d m))

theorem clamp_num {n : Int} (h : Num n) : clamp n = n.toNat := by unfold Num at h; unfold clamp; omega
theorem enc_one (n : Nat) (h : n < 128) : (enc n).length = 1 := by
  unfold enc
  rw [encF_lt 8 n h]
  rfl

theorem bod_le {g s k b : Int} {d : ByteArray} {m : Int} (h : Rgt s k b d.size m) : (bod g s k b d m).length ≤ 60 := by
  have h1 := enc_le (clamp g)
  have h2 := enc_le (clamp s)
  have h4 := enc_le (clamp m)
  have h5 := enc_le (clamp b)
  have h6 := enc_le d.size
  have h7 := size_eq d
  unfold bod
  rcases h with ⟨_, ⟨rfl, _, _, hd, _⟩ | ⟨rfl, _⟩⟩
  · have h3 : (enc (clamp 1)).length = 1 := enc_one _ (by decide)
    rw [if_neg (by decide)]
    simp only [List.length_append]
    omega
  · have h3 : (enc (clamp 2)).length = 1 := enc_one _ (by decide)
    rw [if_pos rfl]
    simp only [List.length_append]
    omega

theorem sec_length {g s k b : Int} {d : ByteArray} {m : Int} (h : Rgt s k b d.size m) : (sec g s k b d m).length = 64 := by
  unfold sec
  rw [seal4_length, pad_length _ (bod_le h)]

/-- What is read of bytes: the generation, and the five fields. -/
def got (l : List UInt8) : Nat × Nat × Nat × Nat × List UInt8 × Nat :=
  if (rnum (rnum (rnum l 0).2.1 (rnum l 0).2.2).2.1 (rnum (rnum l 0).2.1 (rnum l 0).2.2).2.2).1 = 2 then
    ((rnum l 0).1, (rnum (rnum l 0).2.1 (rnum l 0).2.2).1, (rnum (rnum (rnum l 0).2.1 (rnum l 0).2.2).2.1 (rnum (rnum l 0).2.1 (rnum l 0).2.2).2.2).1, 0, [],
      (rnum (rnum (rnum (rnum l 0).2.1 (rnum l 0).2.2).2.1 (rnum (rnum l 0).2.1 (rnum l 0).2.2).2.2).2.1 (rnum (rnum (rnum l 0).2.1 (rnum l 0).2.2).2.1 (rnum (rnum l 0).2.1 (rnum l 0).2.2).2.2).2.2).1)
  else
    ((rnum l 0).1, (rnum (rnum l 0).2.1 (rnum l 0).2.2).1, (rnum (rnum (rnum l 0).2.1 (rnum l 0).2.2).2.1 (rnum (rnum l 0).2.1 (rnum l 0).2.2).2.2).1,
      (rnum (rnum (rnum (rnum l 0).2.1 (rnum l 0).2.2).2.1 (rnum (rnum l 0).2.1 (rnum l 0).2.2).2.2).2.1 (rnum (rnum (rnum l 0).2.1 (rnum l 0).2.2).2.1 (rnum (rnum l 0).2.1 (rnum l 0).2.2).2.2).2.2).1,
      (rtext (rnum (rnum (rnum (rnum l 0).2.1 (rnum l 0).2.2).2.1 (rnum (rnum l 0).2.1 (rnum l 0).2.2).2.2).2.1 (rnum (rnum (rnum l 0).2.1 (rnum l 0).2.2).2.1 (rnum (rnum l 0).2.1 (rnum l 0).2.2).2.2).2.2).2.1
        (rnum (rnum (rnum (rnum l 0).2.1 (rnum l 0).2.2).2.1 (rnum (rnum l 0).2.1 (rnum l 0).2.2).2.2).2.1 (rnum (rnum (rnum l 0).2.1 (rnum l 0).2.2).2.1 (rnum (rnum l 0).2.1 (rnum l 0).2.2).2.2).2.2).2.2 16).1, 0)

/-- The same, read step by step. -/
theorem got_mark {l l1 l2 l3 l4 : List UInt8} {e1 e2 e3 e4 g s k m : Nat} (h1 : rnum l 0 = (g, l1, e1)) (h2 : rnum l1 e1 = (s, l2, e2)) (h3 : rnum l2 e2 = (k, l3, e3)) (h4 : rnum l3 e3 = (m, l4, e4)) (hk : k = 2) :
    got l = (g, s, k, 0, [], m) := by
  unfold got
  simp only [h1, h2, h3, h4]
  rw [if_pos hk]
theorem got_write {l l1 l2 l3 l4 l5 d : List UInt8} {e1 e2 e3 e4 e5 g s k b : Nat} (h1 : rnum l 0 = (g, l1, e1)) (h2 : rnum l1 e1 = (s, l2, e2)) (h3 : rnum l2 e2 = (k, l3, e3)) (h4 : rnum l3 e3 = (b, l4, e4)) (h5 : rtext l4 e4 16 = (d, l5, e5)) (hk : k ≠ 2) :
    got l = (g, s, k, b, d, 0) := by
  unfold got
  simp only [h1, h2, h3, h4, h5]
  rw [if_neg hk]

theorem rnum_lt (l : List UInt8) (e : Nat) : (rnum l e).1 ≤ 1152921504606846975 := by
  unfold rnum
  split
  · exact Nat.zero_le _
  · split
    · rcases dec_cases l with ⟨n, s, hd, hn, _⟩ | hd | hd
      · rw [hd]; show n ≤ _; omega
      · rw [hd]; exact Nat.zero_le _
      · rw [hd]; exact Nat.zero_le _
    · exact Nat.zero_le _
theorem rnum_shorter (l : List UInt8) (e : Nat) : (rnum l e).2.1.length ≤ l.length := by
  unfold rnum
  split
  · exact Nat.le_refl _
  · split
    · rw [List.length_drop]; omega
    · simp
theorem rtext_le (l : List UInt8) (e : Nat) : (rtext l e 16).1.length ≤ 16 := by
  unfold rtext
  split
  · simp
  · split
    · simp
    · split
      · simp
      · rw [List.length_take]; omega

theorem got_gen (l : List UInt8) : (got l).1 ≤ 1152921504606846975 := by
  unfold got
  split <;> exact rnum_lt _ _
theorem got_data (l : List UInt8) : (got l).2.2.2.2.1.length ≤ 16 := by
  unfold got
  split
  · simp
  · exact rtext_le _ _

theorem toNat_lt {n : Int} (h : Num n) : n.toNat < 1152921504606846976 := by unfold Num at h; omega
theorem Rgt.num {s k b : Int} {n : Nat} {m : Int} (h : Rgt s k b n m) : Num s ∧ Num k ∧ Num b ∧ Num m := by
  unfold Rgt at h; unfold Num; omega

/-- A record's own bytes, and any behind them, are read as it. -/
theorem got_bod {g s k b : Int} {d : ByteArray} {m : Int} (h : Rgt s k b d.size m) (hg : Num g) (r : List UInt8) :
    got (bod g s k b d m ++ r) = (g.toNat, s.toNat, k.toNat, b.toNat, d.data.toList, m.toNat) := by
  obtain ⟨hs, hk, hb, hm⟩ := h.num
  have e1 : ∀ t, rnum (enc (clamp g) ++ t) 0 = (g.toNat, t, 0) := fun t => by rw [clamp_num hg]; exact rnum_enc _ _ (toNat_lt hg)
  have e2 : ∀ t, rnum (enc (clamp s) ++ t) 0 = (s.toNat, t, 0) := fun t => by rw [clamp_num hs]; exact rnum_enc _ _ (toNat_lt hs)
  have e3 : ∀ t, rnum (enc (clamp k) ++ t) 0 = (k.toNat, t, 0) := fun t => by rw [clamp_num hk]; exact rnum_enc _ _ (toNat_lt hk)
  unfold bod
  rcases h.2 with ⟨rfl, _, _, hd, rfl⟩ | ⟨rfl, rfl, hd, _, _⟩
  · have e4 : ∀ t, rnum (enc (clamp b) ++ t) 0 = (b.toNat, t, 0) := fun t => by rw [clamp_num hb]; exact rnum_enc _ _ (toNat_lt hb)
    have e5 : rtext (enc d.size ++ d.data.toList ++ r) 0 16 = (d.data.toList, r, 0) := by
      have := rtext_enc d.data.toList r 16 (by rw [size_eq]; omega) (by rw [size_eq]; omega)
      rw [size_eq] at this
      exact this
    rw [if_neg (by decide)]
    have e0 : enc (clamp g) ++ enc (clamp s) ++ enc (clamp 1) ++ (enc (clamp b) ++ enc d.size ++ d.data.toList) ++ r = enc (clamp g) ++ (enc (clamp s) ++ (enc (clamp 1) ++ (enc (clamp b) ++ (enc d.size ++ d.data.toList ++ r)))) := by simp
    rw [e0]
    exact got_write (e1 _) (e2 _) (e3 _) (e4 _) e5 (by decide)
  · have e4 : ∀ t, rnum (enc (clamp m) ++ t) 0 = (m.toNat, t, 0) := fun t => by rw [clamp_num hm]; exact rnum_enc _ _ (toNat_lt hm)
    rw [if_pos rfl]
    have e0 : enc (clamp g) ++ enc (clamp s) ++ enc (clamp 2) ++ enc (clamp m) ++ r = enc (clamp g) ++ (enc (clamp s) ++ (enc (clamp 2) ++ (enc (clamp m) ++ r))) := by simp
    have ed : d.data.toList = [] := List.eq_nil_of_length_eq_zero (by rw [size_eq]; exact hd)
    rw [e0, ed]
    exact got_mark (e1 _) (e2 _) (e3 _) (e4 _) (by decide)

theorem got_pad {g s k b : Int} {d : ByteArray} {m : Int} (h : Rgt s k b d.size m) (hg : Num g) :
    got (pad (bod g s k b d m)) = (g.toNat, s.toNat, k.toNat, b.toNat, d.data.toList, m.toNat) := got_bod h hg _

theorem seal4_inj {l m : List UInt8} (h : seal4 l = seal4 m) : l = m := by
  have hl : l.length = m.length := by
    have := congrArg List.length h
    rw [seal4_length, seal4_length] at this
    omega
  rw [← seal4_take l, ← seal4_take m, h, hl]

/-- Unlike records, or of unlike generations, have unlike sectors. -/
theorem sec_inj {g s k b g' s' k' b' : Int} {d d' : ByteArray} {m m' : Int} (h : Rgt s k b d.size m) (hg : Num g) (h' : Rgt s' k' b' d'.size m') (hg' : Num g') (he : sec g s k b d m = sec g' s' k' b' d' m') :
    g = g' ∧ s = s' ∧ k = k' ∧ b = b' ∧ d = d' ∧ m = m' := by
  have e := seal4_inj he
  have e2 := got_pad h hg
  rw [e, got_pad h' hg'] at e2
  obtain ⟨hs, hk, hb, hm⟩ := h.num
  obtain ⟨hs', hk', hb', hm'⟩ := h'.num
  simp only [Prod.mk.injEq] at e2
  obtain ⟨a1, a2, a3, a4, a5, a6⟩ := e2
  unfold Num at *
  have hd : d = d' := by
    rw [← str_of d, ← str_of d', a5]
  exact ⟨by omega, by omega, by omega, by omega, hd, by omega⟩

end Go.Proofs.YtnmpckhlpkmojaaGreatDoor.Rc
