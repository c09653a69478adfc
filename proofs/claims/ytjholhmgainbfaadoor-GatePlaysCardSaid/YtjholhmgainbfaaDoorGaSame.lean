/-
  The statements' list and the reference's Same: a slice of calls as the document's, and that it is alike. Nothing that was there is changed.
-/
import Derived.BigQuiet
import Derived.Laws.StructEq
import Derived.Test.YtjholhmgainbfaaDoorSmStr
import Derived.Test.YtjholhmgainbfaaDoorGaRef
namespace Go.Proofs.YtjholhmgainbfaaDoor.Ga
open Go.RowKit
open Pk Sm Dk

theorem Rowq.rw {w : World} {base : Nat} {v : Value} {L : List Cl} (h : Rowq w base v L) : ∃ A c, v = .slice A L.length c ∧ L.length ≤ c ∧ c ≤ maxLen ∧ Rw w (fun _ => False) A L := by
  obtain ⟨A, c, rfl, h1, h2, h3⟩ := h.form
  refine ⟨A, c, rfl, h1, h2, fun hL => ?_⟩
  obtain ⟨b, rfl, _, hlt, hc⟩ := h3 (by cases L; exact absurd rfl hL; simp)
  exact ⟨b, rfl, hlt, fun h => h, fun j x hx => hc j x hx⟩
theorem Rw.get {w : World} {N : Nat → Prop} {A : Option Addr} {L : List Cl} (h : Rw w N A L) {k : Nat} {x : Cl} (hx : L[k]? = some x) : ∃ b, A = some ⟨b, 0, none⟩ ∧ b < w.heap.size ∧ CAt w b (k * 3) x := by
  obtain ⟨b, e, hl, _, hc⟩ := h (by rintro rfl; simp at hx)
  exact ⟨b, e, hl, hc k x hx⟩

set_option maxRecDepth 100000 in
set_option maxHeartbeats 2000000 in
theorem list_any (A : Option Addr) (n c : Nat) (L : List Cl) (w : World) (hn : L.length = n) (hlim : n ≤ 1000) (hr : Rw w (fun _ => False) A L) :
    Calls Tryd.prog 14 #[.slice A n c] w fun e w' => ∃ v, e = .returned v ∧ Rowr w' w.heap.size v L ∧ Below w.heap.size w w' := by
  obtain ⟨i0, hi0, hz0, hz1, hz2⟩ := info_parts ref_info
  have Hz1 := hide hz1
  have Hz2 := hide hz2
  have Hn := hide hn
  have Hr := hide hr
  have Hlim := hide hlim
  have hlimi : (n : Int) ≤ 1000 := by omega
  have HO0 : Hid (w.ownsRow w.heap.size 36 3 (.slice none 0 0) 0 (ccels (L.take 0))) := World.ownsRow_nil _ _ _ _
  clear hn hr hz1 hz2 hlim
  go_enter Tryd.func14, Tryd.ntmps14
  go_wp2_with fail
  go_loopw [3, 7] (fun v j wr => ∃ k : Nat, k ≤ n ∧ j = .int .i64 k ∧ Hid (wr.ownsRow w.heap.size 36 3 v k (ccels (L.take k))) ∧ Hid (Below w.heap.size w wr)) (fun _ j _ => n - (intOf j).toNat)
  case atStart => exact ⟨0, Nat.zero_le _, rfl, HO0.out, Below.refl _ _⟩
  case round =>
    clear HO0
    obtain ⟨k, hk, rfl, how, hb⟩ := hrel
    rcases Nat.lt_or_ge k n with hlt | hge
    · have Hlt := hide hlt
      have hki : (k : Int) < (n : Int) := by omega
      obtain ⟨x, hx⟩ : ∃ x, L[k]? = some x := ⟨_, List.getElem?_eq_getElem (by rw [Hn.out]; exact hlt)⟩
      obtain ⟨g, rfl, hgl, hat⟩ := (Hr.out.below hb.out).get hx
      obtain ⟨d0, d1, d2⟩ := hat
      have HT : Hid (L.take (k + 1) = L.take k ++ [x]) := by rw [List.take_add_one, hx]; rfl
      obtain ⟨xi, xb, xd⟩ := x
      obtain ⟨VA, vc, rfl, hv1, hv2, hv3⟩ := row_form how.out
      have hb4 : Below wr.heap.size wr (wr.alloc (.cells #[.int .i64 xi, .int .i64 xb, .string xd] 36)) := (Below.refl _ _).alloc (Nat.le_refl _) _
      have HB5 := hide (hb.out.trans (hb4.mono hb.out.size))
      have HO5 := hide (World.ownsRow.alloc how.out (.cells #[.int .i64 xi, .int .i64 xb, .string xd] 36))
      have HN : Hid (∀ j u, (ccel ⟨xi, xb, xd⟩)[j]? = some u → (wr.alloc (.cells #[.int .i64 xi, .int .i64 xb, .string xd] 36)).cell? ((⟨wr.heap.size, 0, none⟩ : Addr).add j) = some u) := fun j u hu => by
        rw [Addr.add_mid, Nat.zero_add, cell_of_row _ _ j _ _ _ (heap_alloc_new _ _)]
        exact List.getElem?_toArray.trans hu
      have Hbase := hide (show w.heap.size ≤ _ from HB5.out.size)
      have Hm1 := hide (show k + 1 ≤ maxLen by have := Hlim.out; unfold maxLen; omega)
      have Hm2 := hide (show (k + 1) * 32 ≤ 140737488355328 by have := Hlim.out; omega)
      clear hx how hb hb4 hv1 hv2 hv3 hlt hgl
      go_wp2_with (at_builtin; go_must (refine wpList_append_lies _ rfl (.tmp 10) (.tmp 15) 28 rfl w.heap.size 36 i0 _ 3 32 Tryd.underlying28 hi0 hz0 Hz1.out Hz2.out rfl (by decide) (.slice VA k vc) k (ccels (L.take k)) rfl HO5.out ⟨wr.heap.size, 0, none⟩ 1 1 (ccel ⟨xi, xb, xd⟩) rfl rfl HN.out (ccel_one _) (by decide) Hm1.out Hm2.out Hbase.out _ rfl ?_))
      intro g2 cap w6 hown6 hgr6 hor6 hlt6
      have HB6 := hide (HB5.out.grown hgr6 HB5.out.size (fun q hq => (World.ownsRow.lt HO5.out q hq).1))
      have HO6 := hide hown6
      clear hown6 hgr6 hor6 hlt6 HB5 HO5 HN Hbase
      go_wp2
      go_roundw
      case rel => exact ⟨k + 1, Hlt.out, by go_num, by rw [HT.out, ccels_append]; exact HO6.out, HB6.out⟩
      case measure => have := Hlt.out; simp [intOf]; omega
    · obtain rfl : k = n := by omega
      have ho := how.out
      rw [List.take_of_length_le (by rw [Hn.out]; exact Nat.le_refl _)] at ho
      have HO := hide (show Rowr wr w.heap.size _ L by unfold Rowr; rw [Hn.out]; exact ho)
      have HB := hide hb.out
      clear how hb ho hge hk
      go_wp2
      go_ret
      exact ⟨_, rfl, HO.out, HB.out⟩

/-! ### Same -/
theorem call_fields : (Tryd.prog.fieldsOf 36).toList.map (fun f => (f.name, f.type, f.offset)) = [("Id", 3, 0), ("Block", 3, 1), ("Data", 9, 2)] := by kernel_rfl
theorem call_struct : Tryd.prog.underlying 36 = some (.struct (Tryd.prog.fieldsOf 36)) := by kernel_rfl
theorem call_held : Tryd.prog.stoodInHeld 36 = false := by kernel_rfl
theorem call_guard : Tryd.prog.eqGuardType Tryd.prog.depth 36 = false := by kernel_rfl
set_option maxRecDepth 100000 in
theorem call_equal (i b : Int) (d : ByteArray) (W : World) : (Op.equalIn 10000 36 (.agg #[.int .i64 i, .int .i64 b, .string d]) (.agg #[.int .i64 i, .int .i64 b, .string d])).run Tryd.prog W = .ok true W := by
  rw [run_equalIn_agg W 9999 36 _ _ call_struct call_held]
  obtain ⟨f0, f1, f2, hf, h0, h1, h2⟩ : ∃ f0 f1 f2 : Field, (Tryd.prog.fieldsOf 36).toList = [f0, f1, f2] ∧ (f0.name, f0.type, f0.offset) = ("Id", 3, 0) ∧ (f1.name, f1.type, f1.offset) = ("Block", 3, 1) ∧ (f2.name, f2.type, f2.offset) = ("Data", 9, 2) := by
    have h := call_fields
    match hl : (Tryd.prog.fieldsOf 36).toList, (show (Tryd.prog.fieldsOf 36).toList.length = 3 by simpa using congrArg List.length h) with
    | [f0, f1, f2], _ =>
      rw [hl] at h
      simp only [List.map_cons, List.map_nil, List.cons.injEq, and_true] at h
      exact ⟨f0, f1, f2, rfl, h⟩
  rw [hf]
  simp only [Prod.mk.injEq] at h0 h1 h2
  obtain ⟨a0, b0, c0⟩ := h0
  obtain ⟨a1, b1, c1⟩ := h1
  obtain ⟨a2, b2, c2⟩ := h2
  simp only [Op.eqFields, a0, b0, c0, a1, b1, c1, a2, b2, c2]
  go_simp
  try simp
theorem call_neq (i b : Int) (d : ByteArray) (W : World) : (binOp .neq 36 (.agg #[.int .i64 i, .int .i64 b, .string d]) (.agg #[.int .i64 i, .int .i64 b, .string d])).run Tryd.prog W = .ok (.bool false) W := by
  rw [run_neq_struct, call_equal]
  rfl
theorem call_eqg (o : BinOp) (x y : Operand) (i b : Int) (d : ByteArray) (W : World) : (eqGuard o 36 x y (.agg #[.int .i64 i, .int .i64 b, .string d]) (.agg #[.int .i64 i, .int .i64 b, .string d])).run Tryd.prog W = .ok () W := run_eqGuard_agg W o 36 x y _ _ call_guard

set_option maxRecDepth 100000 in
set_option maxHeartbeats 2000000 in
theorem Same_any (w : World) (L : List Cl) (n : Nat) (A1 A2 : Option Addr) (c1 c2 : Nat) (hn : L.length = n) (hlim : n ≤ 1000) (h1 : Rw w (fun _ => False) A1 L) (h2 : Rw w (fun _ => False) A2 L) :
    Calls Tryd.prog 13 #[.slice A1 n c1, .slice A2 n c2] w fun e w' => e = .returned (.bool true) ∧ Below w.heap.size w w' := by
  have Hn := hide hn
  have H1 := hide h1
  have H2 := hide h2
  have hlimi : (n : Int) ≤ 1000 := by omega
  clear hn h1 h2
  go_enter Tryd.func13, Tryd.ntmps13
  go_wp2
  go_loopw [13] (fun j wr => ∃ k : Nat, k ≤ n ∧ j = .int .i64 k ∧ Hid (Below w.heap.size w wr)) (fun j _ => n - (intOf j).toNat)
  case atStart => exact ⟨0, Nat.zero_le _, rfl, Below.refl _ _⟩
  case round =>
    obtain ⟨k, hk, rfl, hb⟩ := hrel
    rcases Nat.lt_or_ge k n with hlt | hge
    · have Hlt := hide hlt
      have hki : (k : Int) < (n : Int) := by omega
      obtain ⟨x, hx⟩ : ∃ x, L[k]? = some x := ⟨_, List.getElem?_eq_getElem (by rw [Hn.out]; exact hlt)⟩
      obtain ⟨g1, rfl, _, a0, a1, a2⟩ := (H1.out.below hb.out).get hx
      obtain ⟨g2, rfl, _, b0, b1, b2⟩ := (H2.out.below hb.out).get hx
      obtain ⟨xi, xb, xd⟩ := x
      have hq := call_neq xi xb xd
      have hg := fun W => call_eqg .neq (.tmp 19) (.tmp 23) xi xb xd W
      clear hx hlt
      go_wp2
      go_quiet (fail)
      go_wp2
      go_roundw
      case rel => exact ⟨k + 1, Hlt.out, by go_num, hb.out.trans ⟨rfl, rfl, rfl, Nat.le_refl _, fun _ _ => rfl⟩⟩
      case measure => have := Hlt.out; simp [intOf]; omega
    · obtain rfl : k = n := by omega
      clear hge hk
      go_wp2
      go_ret
      exact ⟨rfl, hb.out⟩

end Go.Proofs.YtjholhmgainbfaaDoor.Ga
