/-
  fault.Path and fault.First at a wrapped error: its places as texts, the number of the outermost place of a name. Nothing below is changed. Conditions: at most 1000 faults, whose names have at most 200 bytes and whose numbers' digits can be told; those of fault.unwrapped.
-/
import Derived.Test.YtmbhnhfnimijcaaDoorFaPlace
import Derived.Test.YtmbhnhfnimijcaaDoorFaWrapB
namespace Go.Proofs.YtmbhnhfnimijcaaDoor.Fa
open Go.RowKit
open Pk Sm

abbrev Pl := ByteArray × Int
/-- Names that are short, numbers whose digits can be told. -/
def Nice (w : World) (fs : List Flt) : Prop := ∀ f ∈ fs, f.2.1.size ≤ 200 ∧ Dig w f.2.2
theorem Chain.at_ {w : World} : ∀ {fs : List Flt} {e i : Value} {k p : Nat} {op : ByteArray} {n : Int}, Chain w fs e i → fs[k]? = some (p, op, n) → ∃ e', w.heap[p]? = some (.cells #[.string op, .int .i64 n, e'] 74 (0, 0))
  | [], _, _, _, _, _, _, _, h => by simp at h
  | (p, op, n) :: r, _, _, 0, _, _, _, ⟨_, e', hp, _⟩, h => by
    simp at h
    obtain ⟨rfl, rfl, rfl⟩ := h
    exact ⟨e', hp⟩
  | (p, op, n) :: r, _, _, k + 1, _, _, _, ⟨_, e', hp, hr⟩, h => hr.at_ (by simpa using h)

/-- The number of the first place of a name. -/
def fnd : List Pl → ByteArray → Int × Bool
  | [], _ => (0, false)
  | q :: r, op => if (q.1.toList == op.toList) = true then (q.2, true) else fnd r op
theorem fnd_yes {q : Pl} {r : List Pl} {op : ByteArray} (h : (q.1.toList == op.toList) = true) : fnd (q :: r) op = (q.2, true) := if_pos h
theorem fnd_no {q : Pl} {r : List Pl} {op : ByteArray} (h : (q.1.toList == op.toList) = false) : fnd (q :: r) op = fnd r op := if_neg (by rw [h]; exact Bool.false_ne_true)

def pls (fs : List Flt) : List Pl := fs.map (·.2)
theorem pls_drop {fs : List Flt} {k p : Nat} {op : ByteArray} {n : Int} (h : fs[k]? = some (p, op, n)) : pls (fs.drop k) = (op, n) :: pls (fs.drop (k + 1)) := by
  obtain ⟨hk, he⟩ := List.getElem?_eq_some_iff.1 h
  rw [List.drop_eq_getElem_cons hk, he]
  rfl

set_option maxHeartbeats 1000000 in
theorem First_any (fs : List Flt) (e i : Value) (op : ByteArray) (n : Nat) (w : World) (hn : fs.length = n) (hty : Ety w) (hch : Chain w fs e i) (hi : Inner i) (hlen : n ≤ 1000) :
    Calls Tryd.prog 23 #[e, .string op] w fun r w' => r = .returned (.tuple #[.int .i64 (fnd (pls fs) op).1, .bool (fnd (pls fs) op).2]) ∧ Below w.heap.size w w' := by
  have HU := hide (unwrapped_any fs e i n w hn hty hch hi (by omega))
  have Hch := hide hch
  have Hn := hide hn
  obtain ⟨G, hG⟩ : ∃ G, G = fnd (pls fs) op := ⟨_, rfl⟩
  have HG := hide hG
  rw [← hG]
  clear hn hch hi hty hG
  go_enter Tryd.func23, Tryd.ntmps23
  go_wp2_with fail
  refine HU.out.mono ?_
  rintro r w1 ⟨A, c, rfl, hc1, hc2, hv1, hb1⟩
  have HV := hide hv1
  have HB1 := hide hb1
  clear HU hv1 hb1
  go_wp2_with fail
  go_loop [17] (fun j => ∃ k : Nat, k ≤ n ∧ j = .int .i64 k ∧ Hid (G = fnd (pls (fs.drop k)) op)) (fun j => n - (intOf j).toNat)
  case atStart => exact ⟨0, Nat.zero_le _, rfl, HG.out⟩
  case round =>
    obtain ⟨k, hk, rfl, hg⟩ := hrel
    rcases Nat.lt_or_ge k n with hlt | hge
    · obtain ⟨⟨q, o', m⟩, hf⟩ : ∃ f, fs[k]? = some f := ⟨_, List.getElem?_eq_getElem (by rw [Hn.out]; exact hlt)⟩
      obtain ⟨e', hp⟩ := Hch.out.at_ hf
      have hp1 := (HB1.out.block q (heap_lt hp)).trans hp
      have hc0 : w1.cell? ⟨q, 0, none⟩ = some (.string o') := by simp [World.cell?, hp1]
      have hcn : w1.cell? ⟨q, 1, none⟩ = some (.int .i64 m) := by simp [World.cell?, hp1]
      obtain ⟨b, o, rfl, hb, hcell⟩ := HV.out (by
        intro h0
        have := ptrs_length fs
        rw [h0, Hn.out] at this
        simp at this
        omega)
      have hck := hcell k _ (ptrs_get hf)
      have hg' := hg.out
      rw [pls_drop hf] at hg'
      have Hg := hide hg'
      clear hf hp hp1 hcell hg hg'
      cases hb' : (o'.toList == op.toList) with
      | true =>
        have hG := Hg.out.trans (fnd_yes hb')
        have HGG := hide hG
        clear hG
        go_wp2
        go_ret2
        exact ⟨by rw [HGG.out]; rfl, HB1.out⟩
      | false =>
        have HGG := hide (Hg.out.trans (fnd_no hb'))
        go_wp2
        go_round
        case rel => exact ⟨k + 1, by omega, by go_num, HGG.out⟩
        case measure => simp [intOf]; omega
    · have hg' := hg.out
      rw [List.drop_eq_nil_of_le (by rw [Hn.out]; omega)] at hg'
      have HGG := hide hg'
      clear hg hg'
      go_wp2
      go_ret2
      exact ⟨by rw [HGG.out]; rfl, HB1.out⟩

/-- The places' texts. -/
def plcs (l : List Pl) : List Value := l.map fun q => .string (str (plc q.1 q.2))
theorem plcs_length (l : List Pl) : (plcs l).length = l.length := by simp [plcs]
theorem plcs_get {l : List Pl} {k : Nat} {q : Pl} (h : l[k]? = some q) : (plcs l)[k]? = some (.string (str (plc q.1 q.2))) := by simp [plcs, h]
theorem pls_get {fs : List Flt} {k : Nat} {f : Flt} (h : fs[k]? = some f) : (pls fs)[k]? = some f.2 := by simp [pls, h]
theorem pls_length (fs : List Flt) : (pls fs).length = fs.length := by simp [pls]

theorem str_info : (Tryd.prog.info? 9).map (fun i => (i.zero, i.size, i.bytes)) = some (some (.string ⟨#[]⟩), 1, 16) := by kernel_rfl

end Go.Proofs.YtmbhnhfnimijcaaDoor.Fa
