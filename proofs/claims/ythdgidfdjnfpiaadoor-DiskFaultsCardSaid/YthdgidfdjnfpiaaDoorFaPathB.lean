/-
  fault.Path and fault.First at a wrapped error: its places as texts, the number of the outermost place of a name. Nothing below is changed. Conditions: at most 1000 faults, whose names have at most 200 bytes and whose numbers' digits can be told; those of fault.unwrapped.
-/
import Derived.Test.YthdgidfdjnfpiaaDoorFaPlace
import Derived.Test.YthdgidfdjnfpiaaDoorFaWrapB
namespace Go.Proofs.YthdgidfdjnfpiaaDoor.Fa
open Go.RowKit
open Pk Sm

abbrev Pl := ByteArray × Int
/-- Names that are short, numbers whose digits can be told. -/
def Nice (w : World) (fs : List Flt) : Prop := ∀ f ∈ fs, f.2.1.size ≤ 200 ∧ Dig w f.2.2
theorem Chain.at_ {w : World} : ∀ {fs : List Flt} {e i : Value} {k p : Nat} {op : ByteArray} {n : Int}, Chain w fs e i → fs[k]? = some (p, op, n) → ∃ e', w.heap[p]? = some (.cells #[.string op, .int .i64 n, e'] 79 (0, 0))
  | [], _, _, _, _, _, _, _, h => by simp at h
  | (p, op, n) :: r, _, _, 0, _, _, _, ⟨_, e', hp, _⟩, h => by
    simp at h
    obtain ⟨rfl, rfl, rfl⟩ := h
    exact ⟨e', hp⟩
  | (p, op, n) :: r, _, _, k + 1, _, _, _, ⟨_, e', hp, hr⟩, h => hr.at_ (by simpa using h)

/-- The number of the first place of a name. -/
def fnd : List Pl → ByteArray → Int × Bool
  | [], _ => (0, false)
  | q :: r, op => if (q.1.toList == op.toList) = true then (q.2, true) else fnd r op
theorem fnd_yes {q : Pl} {r : List Pl} {op : ByteArray} (h : (q.1.toList == op.toList) = true) : fnd (q :: r) op = (q.2, true) := if_pos h
theorem fnd_no {q : Pl} {r : List Pl} {op : ByteArray} (h : (q.1.toList == op.toList) = false) : fnd (q :: r) op = fnd r op := if_neg (by rw [h]; exact Bool.false_ne_true)

def pls (fs : List Flt) : List Pl := fs.map (·.2)
theorem pls_drop {fs : List Flt} {k p : Nat} {op : ByteArray} {n : Int} (h : fs[k]? = some (p, op, n)) : pls (fs.drop k) = (op, n) :: pls (fs.drop (k + 1)) := by
  obtain ⟨hk, he⟩ := List.getElem?_eq_some_iff.1 h
  rw [List.drop_eq_getElem_cons hk, he]
  rfl

set_option maxHeartbeats 1000000 in
theorem First_any (fs : List Flt) (e i : Value) (op : ByteArray) (n : Nat) (w : World) (hn : fs.length = n) (hty : Ety w) (hch : Chain w fs e i) (hi : Inner i) (hlen : n ≤ 1000) :
    Calls Tryd.prog 24 #[e, .string op] w fun r w' => r = .returned (.tuple #[.int .i64 (fnd (pls fs) op).1, .bool (fnd (pls fs) op).2]) ∧ Below w.heap.size w w' := by
  have HU := hide (unwrapped_any fs e i n w hn hty hch hi (by omega))
  have Hch := hide hch
  have Hn := hide hn
  obtain ⟨G, hG⟩ : ∃ G, G = fnd (pls fs) op := ⟨_, rfl⟩
  have HG := hide hG
  rw [← hG]
  clear hn hch hi hty hG
  go_enter Tryd.func24, Tryd.ntmps24
  go_wp2_with fail
  refine HU.out.mono ?_
  rintro r w1 ⟨A, c, rfl, hc1, hc2, hv1, hb1⟩
  have HV := hide hv1
  have HB1 := hide hb1
  clear HU hv1 hb1
  go_wp2_with fail
  go_loop [17] (fun j => ∃ k : Nat, k ≤ n ∧ j = .int .i64 k ∧ Hid (G = fnd (pls (fs.drop k)) op)) (fun j => n - (intOf j).toNat)
  case atStart => exact ⟨0, Nat.zero_le _, rfl, HG.out⟩
  case round =>
    obtain ⟨k, hk, rfl, hg⟩ := hrel
    rcases Nat.lt_or_ge k n with hlt | hge
    · obtain ⟨⟨q, o', m⟩, hf⟩ : ∃ f, fs[k]? = some f := ⟨_, List.getElem?_eq_getElem (by rw [Hn.out]; exact hlt)⟩
      obtain ⟨e', hp⟩ := Hch.out.at_ hf
      have hp1 := (HB1.out.block q (heap_lt hp)).trans hp
      have hc0 : w1.cell? ⟨q, 0, none⟩ = some (.string o') := by simp [World.cell?, hp1]
      have hcn : w1.cell? ⟨q, 1, none⟩ = some (.int .i64 m) := by simp [World.cell?, hp1]
      obtain ⟨b, o, rfl, hb, hcell⟩ := HV.out (by
        intro h0
        have := ptrs_length fs
        rw [h0, Hn.out] at this
        simp at this
        omega)
      have hck := hcell k _ (ptrs_get hf)
      have hg' := hg.out
      rw [pls_drop hf] at hg'
      have Hg := hide hg'
      clear hf hp hp1 hcell hg hg'
      cases hb' : (o'.toList == op.toList) with
      | true =>
        have hG := Hg.out.trans (fnd_yes hb')
        have HGG := hide hG
        clear hG
        go_wp2
        go_ret2
        exact ⟨by rw [HGG.out]; rfl, HB1.out⟩
      | false =>
        have HGG := hide (Hg.out.trans (fnd_no hb'))
        go_wp2
        go_round
        case rel => exact ⟨k + 1, by omega, by go_num, HGG.out⟩
        case measure => simp [intOf]; omega
    · have hg' := hg.out
      rw [List.drop_eq_nil_of_le (by rw [Hn.out]; omega)] at hg'
      have HGG := hide hg'
      clear hg hg'
      go_wp2
      go_ret2
      exact ⟨by rw [HGG.out]; rfl, HB1.out⟩

/-- The places' texts. -/
def plcs (l : List Pl) : List Value := l.map fun q => .string (str (plc q.1 q.2))
theorem plcs_length (l : List Pl) : (plcs l).length = l.length := by simp [plcs]
theorem plcs_get {l : List Pl} {k : Nat} {q : Pl} (h : l[k]? = some q) : (plcs l)[k]? = some (.string (str (plc q.1 q.2))) := by simp [plcs, h]
theorem pls_get {fs : List Flt} {k : Nat} {f : Flt} (h : fs[k]? = some f) : (pls fs)[k]? = some f.2 := by simp [pls, h]
theorem pls_length (fs : List Flt) : (pls fs).length = fs.length := by simp [pls]

theorem str_info : (Tryd.prog.info? 9).map (fun i => (i.zero, i.size, i.bytes)) = some (some (.string ⟨#[]⟩), 1, 16) := by kernel_rfl

set_option maxHeartbeats 2000000 in
theorem Path_any (fs : List Flt) (e i : Value) (n : Nat) (w : World) (hn : fs.length = n) (hty : Ety w) (hch : Chain w fs e i) (hi : Inner i) (hnice : Nice w fs) (hlen : n ≤ 1000) :
    Calls Tryd.prog 25 #[e] w fun r w' => ∃ A c, r = .returned (.slice A n c) ∧ n ≤ c ∧ c ≤ maxLen ∧ Vec w' w'.heap.size A (plcs (pls fs)) ∧ Below w.heap.size w w' := by
  obtain ⟨i0, hi0, hz0, hz1, hz2⟩ := info_parts str_info
  have HU := hide (unwrapped_any fs e i n w hn hty hch hi (by omega))
  have Hch := hide hch
  have Hn := hide hn
  have Hnice := hide hnice
  clear hn hch hi hty hnice
  go_enter Tryd.func25, Tryd.ntmps25
  go_wp2_with fail
  refine HU.out.mono ?_
  rintro r w1 ⟨A, c, rfl, hc1, hc2, hv1, hb1⟩
  have HV := hide hv1
  have HB1 := hide hb1
  clear HU hv1 hb1
  go_wp2_with fail
  go_loopw [5, 15] (fun v j wr => ∃ k : Nat, k ≤ n ∧ j = .int .i64 k ∧ Hid (wr.ownsRow w1.heap.size 9 1 v k ((plcs (pls fs)).take k)) ∧ Hid (Below w1.heap.size w1 wr)) (fun _ j _ => n - (intOf j).toNat)
  case atStart => exact ⟨0, Nat.zero_le _, rfl, ⟨rfl, Or.inl ⟨rfl, rfl⟩⟩, Below.refl _ _⟩
  case round =>
    obtain ⟨k, hk, rfl, how, hbel⟩ := hrel
    rcases Nat.lt_or_ge k n with hlt | hge
    · obtain ⟨⟨q, op, m⟩, hf⟩ : ∃ f, fs[k]? = some f := ⟨_, List.getElem?_eq_getElem (by rw [Hn.out]; exact hlt)⟩
      obtain ⟨e', hp⟩ := Hch.out.at_ hf
      have hbw := HB1.out.trans (hbel.out.mono HB1.out.size)
      have hmem : (q, op, m) ∈ fs := List.mem_of_getElem? hf
      have hni := Hnice.out _ hmem
      have HP := hide (place_any q op m e' wr ((hbw.block q (heap_lt hp)).trans hp) (hni.2.below hbw) hni.1)
      obtain ⟨b, o, rfl, hb, hcell⟩ := HV.out (by
        intro h0
        have := ptrs_length fs
        rw [h0, Hn.out] at this
        simp at this
        omega)
      have hck := (hbel.out.cell (p := ⟨b, o + k, none⟩) hb).trans (hcell k _ (ptrs_get hf))
      have HF := hide hf
      clear hf hp hbw hmem hni hcell hb
      go_wp2_with fail
      refine HP.out.mono ?_
      rintro r w2 ⟨rfl, hb2⟩
      have hown := own_below how.out hb2
      have HB2 := hide (hbel.out.trans (hb2.mono hbel.out.size))
      have hsz := HB2.out.size
      clear HP how hbel hb2 hck
      go_wp2_with (at_builtin; refine wpList_append_own _ rfl (.tmp 19) (.tmp 22) 45 rfl w1.heap.size 9 i0 (.string ⟨#[]⟩) 1 16 Tryd.underlying45 hi0 hz0 hz1 hz2 rfl (by decide) _ _ _ rfl (World.ownsRow.alloc hown _) ⟨w2.heap.size, 0, none⟩ 1 1 [.string (str (plc op m))] rfl rfl (cell_new1 _ _ _) ?c2 ?c3 ?c4 ?c5 ?_)
      case c2 => intro u hu; simp at hu; subst hu; rfl
      case c3 => unfold maxLen; omega
      case c4 => omega
      case c5 => simp; omega
      intro v' w3 hown' hgrow _
      have HO := hide (show w3.ownsRow w1.heap.size 9 1 v' (k + 1) ((plcs (pls fs)).take (k + 1)) by rw [take_snoc _ k _ (plcs_get (pls_get HF.out))]; exact hown')
      have HB3 := hide ((HB2.out.alloc hsz _).grown hgrow (by simp; omega) (fun k hk => (World.ownsRow.lt hown k hk).1))
      clear hown hown' hgrow hsz
      go_wp2
      go_roundw
      case rel => exact ⟨k + 1, by omega, by go_num, HO.out, HB3.out⟩
      case measure => simp [intOf]; omega
    · obtain rfl : k = n := by omega
      have hown := how.out
      rw [List.take_of_length_le (by rw [plcs_length, pls_length, Hn.out]; exact Nat.le_refl _)] at hown
      obtain ⟨A', c', rfl, h1, h2, h3⟩ := vec_own hown
      have HV' := hide h3
      have HB2 := hide (HB1.out.trans (hbel.out.mono HB1.out.size))
      clear how hbel hown h3
      go_wp2
      go_ret
      exact ⟨A', c', rfl, h1, h2, HV'.out, HB2.out⟩

end Go.Proofs.YthdgidfdjnfpiaaDoor.Fa
