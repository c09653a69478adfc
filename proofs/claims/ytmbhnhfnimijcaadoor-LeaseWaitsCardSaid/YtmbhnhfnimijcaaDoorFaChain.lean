/-
  A wrapped error in memory: its faults, the outermost first, and what lies innermost; a slice of values that reads as a list; fault.unwrapped returns just these. Nothing below is changed. Conditions: at most 60000 faults; what lies innermost is nil, or an api.Errno; the library's variable errors.errorType holds its own type's handle.
-/
import Derived.Test.YtmbhnhfnimijcaaDoorFaIs1
namespace Go.Proofs.YtmbhnhfnimijcaaDoor.Fa
open Go.RowKit
open Pk

/-- A fault's block, its name, its number. -/
abbrev Flt := Nat × ByteArray × Int

/-- e is the faults fs, the outermost first, around i. -/
def Chain (w : World) : List Flt → Value → Value → Prop
  | [], e, i => e = i
  | (p, op, n) :: r, e, i => e = .iface 72 (.pointer (some ⟨p, 0, none⟩)) ∧ ∃ e', w.heap[p]? = some (.cells #[.string op, .int .i64 n, e'] 74 (0, 0)) ∧ Chain w r e' i

theorem Chain.below {w w' : World} {B : Nat} (hB : w.heap.size ≤ B) (hb : Below B w w') : ∀ {fs : List Flt} {e i : Value}, Chain w fs e i → Chain w' fs e i
  | [], _, _, h => h
  | (p, _, _) :: _, _, _, ⟨he, e', hp, hr⟩ => ⟨he, e', (hb.block p (Nat.lt_of_lt_of_le (heap_lt hp) hB)).trans hp, hr.below hB hb⟩

/-- What may lie innermost. -/
def Inner (i : Value) : Prop := i = .nilIface ∨ ∃ k : Int, i = .iface 59 (.int .i64 k)

theorem asFault_inner (i : Value) (hi : Inner i) (w : World) (hty : Ety w) :
    Calls Tryd.prog 35 #[i] w fun r w' => r = .returned (.pointer none) ∧ Below w.heap.size w w' := by
  rcases hi with rfl | ⟨k, rfl⟩
  · exact asFault_nil w
  · exact asFault_N _ w hty

def ptrs (fs : List Flt) : List Value := fs.map fun f => .pointer (some ⟨f.1, 0, none⟩)
theorem ptrs_length (fs : List Flt) : (ptrs fs).length = fs.length := by simp [ptrs]
theorem ptrs_get {fs : List Flt} {k : Nat} {f : Flt} (h : fs[k]? = some f) : (ptrs fs)[k]? = some (.pointer (some ⟨f.1, 0, none⟩)) := by simp [ptrs, h]

/-- A slice's address leads to the values xs, one behind the other, below block B. -/
def Vec (w : World) (B : Nat) (A : Option Addr) (xs : List Value) : Prop :=
  xs ≠ [] → ∃ b o, A = some ⟨b, o, none⟩ ∧ b < B ∧ ∀ j u, xs[j]? = some u → w.cell? ⟨b, o + j, none⟩ = some u
section
variable {w w' : World} {B B' : Nat} {A : Option Addr} {xs : List Value}
theorem Vec.nil : Vec w B A [] := fun h => absurd rfl h
theorem Vec.below (h : Vec w B A xs) (hb : Below B w w') : Vec w' B A xs := fun hn => by
  obtain ⟨b, o, e, hlt, hc⟩ := h hn
  exact ⟨b, o, e, hlt, fun j u hu => (hb.cell (p := ⟨b, o + j, none⟩) hlt).trans (hc j u hu)⟩
theorem Vec.more (h : Vec w B A xs) (hB : B ≤ B') : Vec w B' A xs := fun hn => by
  obtain ⟨b, o, e, hlt, hc⟩ := h hn
  exact ⟨b, o, e, by omega, hc⟩
theorem Vec.keep (h : Vec w w.heap.size A xs) (hb : Below w.heap.size w w') : Vec w' w'.heap.size A xs := (h.below hb).more hb.size
end

/-- A row of the call's own as a slice that reads as a list. -/
theorem vec_own {w : World} {base : Nat} {e : TypeId} {v : Value} {n : Nat} {xs : List Value} (h : w.ownsRow base e 1 v n xs) :
    ∃ A c, v = .slice A n c ∧ n ≤ c ∧ c ≤ maxLen ∧ Vec w w.heap.size A xs := by
  have hl : xs.length = n := by have := h.1; omega
  rcases h.2 with ⟨rfl, h0⟩ | ⟨g, cap, cur, rfl, hb, hg, hn, hm, hs, htk⟩
  · exact ⟨none, 0, by rw [h0], by omega, by unfold maxLen; omega, fun hne => absurd (List.eq_nil_of_length_eq_zero (by omega)) hne⟩
  · refine ⟨_, cap, rfl, hn, hm, fun _ => ⟨g, 0, rfl, (Array.getElem?_eq_some_iff.1 hg).1, fun j u hu => ?_⟩⟩
    have hj : j < n := by rw [← hl]; exact (List.getElem?_eq_some_iff.1 hu).1
    rw [Nat.zero_add, World.ownsRow.cellAt h j (by omega)]
    exact hu

theorem own_below {w w' : World} {B e size n : Nat} {v : Value} {xs : List Value} (h : w.ownsRow B e size v n xs) (hb : Below w.heap.size w w') : w'.ownsRow B e size v n xs := by
  refine ⟨h.1, ?_⟩
  rcases h.2 with h0 | ⟨g, cap, cur, hv, hB, hg, hr⟩
  · exact Or.inl h0
  · exact Or.inr ⟨g, cap, cur, hv, hB, (hb.block g (heap_lt hg)).trans hg, hr⟩

theorem cell_new1 (w : World) (x : Value) (t : TypeId) : ∀ j u, [x][j]? = some u → (w.alloc (.cells #[x] t)).cell? ((⟨w.heap.size, 0, none⟩ : Addr).add j) = some u := by
  intro j u hj
  match j, hj with
  | 0, hj => simp at hj; subst hj; simp [Addr.add]

theorem pf_info : (Tryd.prog.info? 72).map (fun i => (i.zero, i.size, i.bytes)) = some (some (.pointer none), 1, 8) := by kernel_rfl

theorem take_snoc {α : Type} (l : List α) (k : Nat) (x : α) (h : l[k]? = some x) : l.take (k + 1) = l.take k ++ [x] := by
  rw [List.take_add_one, h]
  rfl

theorem asFault_ptr (p : Nat) (w : World) (hty : Ety w) :
    Calls Tryd.prog 35 #[.iface 72 (.pointer (some ⟨p, 0, none⟩))] w fun r w' => r = .returned (.pointer (some ⟨p, 0, none⟩)) ∧ Below w.heap.size w w' := asFault_hit ⟨p, 0, none⟩ w hty

set_option maxHeartbeats 2000000 in
theorem unwrapped_any (fs : List Flt) (e i : Value) (n : Nat) (w : World) (hn : fs.length = n) (hty : Ety w) (hch : Chain w fs e i) (hi : Inner i) (hlen : n ≤ 60000) :
    Calls Tryd.prog 30 #[e] w fun r w' => ∃ A c, r = .returned (.tuple #[.slice A n c, i]) ∧ n ≤ c ∧ c ≤ maxLen ∧ Vec w' w'.heap.size A (ptrs fs) ∧ Below w.heap.size w w' := by
  obtain ⟨i0, hi0, hz0, hz1, hz2⟩ := info_parts pf_info
  have Hn := hide hn
  have Hch := hide hch
  have Hi := hide hi
  have Hty := hide hty
  have Hlen := hide hlen
  clear hn hch hi hty hlen
  go_enter Tryd.func30, Tryd.ntmps30
  go_wp2_with fail
  go_loopw [0, 2, 5] (fun ev v j wr => ∃ k : Nat, k ≤ n ∧ j = .int .i64 k ∧ Hid (Chain w (fs.drop k) ev i) ∧ Hid (wr.ownsRow w.heap.size 72 1 v k ((ptrs fs).take k)) ∧ Hid (Below w.heap.size w wr)) (fun _ _ j _ => n + 1 - (intOf j).toNat)
  case atStart => exact ⟨0, Nat.zero_le _, rfl, Hch.out, ⟨rfl, Or.inl ⟨rfl, rfl⟩⟩, Below.refl _ _⟩
  case round =>
    obtain ⟨k, hk, rfl, hc, how, hbel⟩ := hrel
    have hty1 := Hty.out.below hbel.out Hty.out.lt
    have hlim : (k : Int) < 65537 := by have := Hlen.out; omega
    rcases Nat.lt_or_ge k n with hlt | hge
    · obtain ⟨⟨p, op, m⟩, hf⟩ : ∃ f, fs[k]? = some f := ⟨_, List.getElem?_eq_getElem (by rw [Hn.out]; exact hlt)⟩
      have hc' := hc.out
      rw [List.drop_eq_getElem_cons (by rw [Hn.out]; exact hlt)] at hc'
      have hfe := (List.getElem?_eq_some_iff.1 hf).2
      rw [hfe] at hc'
      obtain ⟨rfl, e', hp, hr⟩ := hc'
      have HA := hide (asFault_ptr p wr hty1)
      have HP := hide hp
      have HR := hide hr
      have HF := hide hf
      clear hc hp hr hf hfe hty1
      go_wp2_with fail
      refine HA.out.mono ?_
      rintro r w2 ⟨rfl, hb2⟩
      have hown := own_below how.out hb2
      have HB2 := hide (hbel.out.trans (hb2.mono hbel.out.size))
      have hsz := HB2.out.size
      clear HA how hbel hb2
      go_wp2_with (at_builtin; refine wpList_append_own _ rfl (.tmp 13) (.tmp 15) 69 rfl w.heap.size 72 i0 (.pointer none) 1 8 Tryd.underlying69 hi0 hz0 hz1 hz2 rfl (by decide) _ _ _ rfl (World.ownsRow.alloc hown _) ⟨w2.heap.size, 0, none⟩ 1 1 [.pointer (some ⟨p, 0, none⟩)] rfl rfl (cell_new1 _ _ _) ?c2 ?c3 ?c4 ?c5 ?_)
      case c2 => intro u hu; simp at hu; subst hu; rfl
      case c3 => have := Hlen.out; unfold maxLen; omega
      case c4 => have := Hlen.out; omega
      case c5 => simp; omega
      intro v' w3 hown' hgrow _
      have HO := hide (show w3.ownsRow w.heap.size 72 1 v' (k + 1) ((ptrs fs).take (k + 1)) by rw [take_snoc _ k _ (ptrs_get HF.out)]; exact hown')
      have HB3 := hide ((HB2.out.alloc hsz _).grown hgrow (by simp; omega) (fun k hk => (World.ownsRow.lt hown k hk).1))
      have HU := hide (Unwrap_any p op m e' w3 ((HB3.out.block p (heap_lt HP.out)).trans HP.out))
      clear hown hown' hgrow hsz
      go_wp2_with fail
      refine HU.out.mono ?_
      rintro r w4 ⟨rfl, rfl⟩
      go_wp2
      go_roundw
      case rel => exact ⟨k + 1, by omega, by go_num, HR.out, HO.out, HB3.out⟩
      case measure => simp [intOf]; omega
    · obtain rfl : k = n := by omega
      have hc' := hc.out
      rw [List.drop_eq_nil_of_le (by rw [Hn.out]; exact Nat.le_refl _)] at hc'
      obtain rfl : _ = i := hc'
      have HA := hide (asFault_inner _ Hi.out wr hty1)
      clear hc hty1
      go_wp2_with fail
      refine HA.out.mono ?_
      rintro r w2 ⟨rfl, hb2⟩
      have hown := own_below how.out hb2
      rw [List.take_of_length_le (by rw [ptrs_length, Hn.out]; exact Nat.le_refl _)] at hown
      obtain ⟨A, c, rfl, h1, h2, h3⟩ := vec_own hown
      have HV := hide h3
      have HB2 := hide (hbel.out.trans (hb2.mono hbel.out.size))
      clear HA how hbel hb2 hown h3
      go_wp2
      go_ret2
      exact ⟨A, c, rfl, h1, h2, HV.out, HB2.out⟩

end Go.Proofs.YtmbhnhfnimijcaaDoor.Fa
