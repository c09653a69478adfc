/-
  A Fault's Error, fault.Path and fault.First at a wrapped error: its text, its places, the number of the outermost place of a name. Nothing below is changed. Conditions: at most 1000 faults, whose names have at most 200 bytes and whose numbers' digits can be told; those of fault.unwrapped.
-/
import Derived.Test.YtknnalcnoccleaaDoorFaError
namespace Go.Proofs.YtknnalcnoccleaaDoor.Fa
open Go.RowKit
open Pk Sm

/-- The faults' names are short, and their digits can be told. -/
def Nice (w : World) (fs : List Flt) : Prop := ∀ f ∈ fs, f.2.1.size ≤ 200 ∧ Dig w f.2.2
theorem Nice.below {w w' : World} {fs : List Flt} (h : Nice w fs) (hb : Below w.heap.size w w') : Nice w' fs := fun f hf => ⟨(h f hf).1, (h f hf).2.below hb⟩

theorem Chain.at_ {w : World} : ∀ {fs : List Flt} {e i : Value} {k p : Nat} {op : ByteArray} {n : Int}, Chain w fs e i → fs[k]? = some (p, op, n) → ∃ e', w.heap[p]? = some (.cells #[.string op, .int .i64 n, e'] 46 (0, 0))
  | [], _, _, _, _, _, _, _, h => by simp at h
  | (p, op, n) :: r, _, _, 0, _, _, _, ⟨_, e', hp, _⟩, h => by
    simp at h
    obtain ⟨rfl, rfl, rfl⟩ := h
    exact ⟨e', hp⟩
  | (p, op, n) :: r, _, _, k + 1, _, _, _, ⟨_, e', hp, hr⟩, h => hr.at_ (by simpa using h)

/-- The faults' part of the text. -/
def pth : List Flt → List UInt8
  | [] => []
  | f :: r => plc f.2.1 f.2.2 ++ [58, 32] ++ pth r
theorem pth_append (a b : List Flt) : pth (a ++ b) = pth a ++ pth b := by
  induction a with
  | nil => rfl
  | cons f r ih => simp [pth, ih]
theorem pth_snoc (fs : List Flt) (k : Nat) (f : Flt) (h : fs[k]? = some f) : pth (fs.take (k + 1)) = pth (fs.take k) ++ plc f.2.1 f.2.2 ++ [58, 32] := by
  rw [take_snoc fs k f h, pth_append]
  simp [pth]
theorem pth_le {w : World} {fs : List Flt} (h : Nice w fs) : (pth fs).length ≤ 224 * fs.length := by
  induction fs with
  | nil => simp [pth]
  | cons f r ih =>
    have h1 := ih (fun g hg => h g (List.mem_cons_of_mem _ hg))
    have h2 := plc_le (h f (List.mem_cons_self ..)).2 (h f (List.mem_cons_self ..)).1
    simp only [pth, List.length_append, List.length_cons, List.length_nil]
    omega

theorem Nice.take {w : World} {fs : List Flt} (h : Nice w fs) (k : Nat) : Nice w (fs.take k) := fun f hf => h f (List.mem_of_mem_take hf)

theorem builder_below {w w' : World} {T e : TypeId} {B b : Nat} {bs : List Value} (h : Lib.IsBuilder T e B b bs w) (hb : Below w.heap.size w w') : Lib.IsBuilder T e B b bs w' := by
  have key : ∀ {p : Value}, Lib.BuilderAt T e B b p bs w → Lib.BuilderAt T e B b p bs w' := fun h => by
    obtain ⟨hB, v, hv, hown, hne⟩ := h
    exact ⟨hB, v, (hb.block b (heap_lt hv)).trans hv, own_below hown hb, hne⟩
  exact h.imp key key

set_option maxHeartbeats 2000000 in
theorem Error_any (fs : List Flt) (p : Nat) (i : Value) (l : List UInt8) (n : Nat) (w : World) (hn : fs.length = n) (hty : Ety w) (hch : Chain w fs (.iface 41 (.pointer (some ⟨p, 0, none⟩))) i) (hi : Txt w i l) (hnice : Nice w fs) (hlen : n ≤ 1000) (hl : l.length ≤ 100000) :
    Calls Tryd.prog 25 #[.pointer (some ⟨p, 0, none⟩)] w fun r w' => r = .returned (.string (str (pth fs ++ l))) ∧ Below w.heap.size w w' := by
  have HU := hide (unwrapped_any fs _ i n w hn hty hch hi.inner (by omega))
  have Hch := hide hch
  have Hi := hide hi
  have Hn := hide hn
  have Hnice := hide hnice
  have Hl := hide hl
  clear hn hch hi hty hnice hl
  go_enter Tryd.func25, Tryd.ntmps25
  go_wp2_with fail
  refine HU.out.mono ?_
  rintro r w1 ⟨A, c, rfl, hc1, hc2, hv1, hb1⟩
  have HV := hide hv1
  have HB1 := hide hb1
  have HN := hide (Lib.fresh_isBuilder 83 5 w1)
  have HB0 := hide ((Below.refl w1.heap.size w1).alloc (Nat.le_refl _) (.cells #[.pointer none, .slice none 0 0] 83))
  clear HU hv1 hb1
  go_wp2_with fail
  go_loopw [19] (fun j wr => ∃ k : Nat, k ≤ n ∧ j = .int .i64 k ∧ Hid (Lib.IsBuilder 83 5 w1.heap.size w1.heap.size (Lib.byteCells (pth (fs.take k))) wr) ∧ Hid (Below w1.heap.size w1 wr)) (fun j _ => n - (intOf j).toNat)
  case atStart => exact ⟨0, Nat.zero_le _, rfl, HN.out, HB0.out⟩
  case round =>
    obtain ⟨k, hk, rfl, hB, hbel⟩ := hrel
    have hBw := hbel.out.size
    rcases Nat.lt_or_ge k n with hlt | hge
    · obtain ⟨⟨q, op, m⟩, hf⟩ : ∃ f, fs[k]? = some f := ⟨_, List.getElem?_eq_getElem (by rw [Hn.out]; exact hlt)⟩
      obtain ⟨e', hp⟩ := Hch.out.at_ hf
      have hbw := HB1.out.trans (hbel.out.mono HB1.out.size)
      have hmem : (q, op, m) ∈ fs := List.mem_of_getElem? hf
      have hni := Hnice.out _ hmem
      have hpl := plc_le hni.2 hni.1
      have hP := place_any q op m e' wr ((hbw.block q (heap_lt hp)).trans hp) (hni.2.below hbw) hni.1
      have hpt := pth_le (Hnice.out.take k)
      have hpt2 : (pth (fs.take k)).length ≤ 224 * 1000 := by
        have : (fs.take k).length ≤ 1000 := by rw [List.length_take, Hn.out]; omega
        omega
      obtain ⟨b, o, rfl, hb, hcell⟩ := HV.out (by
        intro h0
        have := ptrs_length fs
        rw [h0, Hn.out] at this
        simp at this
        omega)
      have hck := (hbel.out.cell (p := ⟨b, o + k, none⟩) hb).trans (hcell k _ (ptrs_get hf))
      have HP := hide hP
      have HF := hide hf
      have Hpl := hide hpl
      have Hpt := hide hpt2
      clear hf hp hbw hmem hni hpl hP hpt hpt2 hcell
      go_wp2_with fail
      refine HP.out.mono ?_
      rintro r w2 ⟨rfl, hb2⟩
      have hB2 := builder_below hB.out hb2
      have HB2 := hide (hbel.out.trans (hb2.mono hBw))
      have HW := hide (WriteString_any w1.heap.size w1.heap.size _ (str (plc op m)) w2 hB2 (by rw [str_size]; have := Hpl.out; have := Hpt.out; omega) HB2.out.size)
      clear HP hb2 hB2 hB hbel
      go_wp2_with fail
      refine HW.out.mono ?_
      rintro r w3 ⟨rfl, hB3, hb3⟩
      have HB3 := hide (HB2.out.trans hb3)
      have HW2 := hide (WriteString_any w1.heap.size w1.heap.size _ ⟨#[58, 32]⟩ w3 hB3 (by rw [List.length_append]; have := Hpl.out; have := Hpt.out; have : (str (plc op m)).data.toList.length = (plc op m).length := rfl; have : (⟨#[58, 32]⟩ : ByteArray).size = 2 := rfl; omega) HB3.out.size)
      clear HW hB3 hb3
      go_wp2_with fail
      refine HW2.out.mono ?_
      rintro r w4 ⟨rfl, hB4, hb4⟩
      have HB4 := hide (HB3.out.trans hb4)
      have HR := hide (show Lib.IsBuilder 83 5 w1.heap.size w1.heap.size (Lib.byteCells (pth (fs.take (k + 1)))) w4 by rw [pth_snoc fs k _ HF.out]; exact hB4)
      clear HW2 hB4 hb4
      go_wp2
      go_roundw
      case rel => exact ⟨k + 1, by omega, by go_num, HR.out, HB4.out⟩
      case measure => simp [intOf]; omega
    · obtain rfl : k = n := by omega
      have hBn := hB.out
      rw [List.take_of_length_le (by rw [Hn.out]; exact Nat.le_refl _)] at hBn
      have hbw := HB1.out.trans (hbel.out.mono HB1.out.size)
      have HT := hide (text_any i l wr (Hi.out.below hbw))
      have hpt := pth_le Hnice.out
      rw [Hn.out] at hpt
      have Hpt := hide (show (pth fs).length ≤ 224000 by omega)
      have HBn := hide hBn
      clear hBn hB hbw hpt
      go_wp2_with fail
      refine HT.out.mono ?_
      rintro r w2 ⟨rfl, hb2⟩
      have hB2 := builder_below HBn.out hb2
      have HB2 := hide (hbel.out.trans (hb2.mono hBw))
      have HW := hide (WriteString_any w1.heap.size w1.heap.size _ (str l) w2 hB2 (by rw [str_size]; have := Hl.out; have := Hpt.out; omega) HB2.out.size)
      clear HT hb2 hB2 HBn hbel
      go_wp2_with fail
      refine HW.out.mono ?_
      rintro r w3 ⟨rfl, hB3, hb3⟩
      have HB3 := hide (HB2.out.trans hb3)
      have HS := hide (Tryd.Builder_String_any w1.heap.size w1.heap.size _ w3 hB3 HB3.out.size)
      clear HW hB3 hb3
      go_wp2_with fail
      refine HS.out.mono ?_
      rintro r w4 ⟨rfl, hb4⟩
      have HB4 := hide (HB1.out.trans ((HB3.out.trans hb4).mono HB1.out.size))
      clear HS hb4
      go_wp2
      go_ret
      exact ⟨rfl, HB4.out⟩

end Go.Proofs.YtknnalcnoccleaaDoor.Fa
