/-
  Proved: for every slice of numbers and every slice of texts the call PackBack(numbers, texts) returns true and changes no argument: what is laid is read as it was, one behind the other, and nothing is left. No condition beyond the row's own.
-/
import Derived.Deep.LoopGhost
import Derived.Deep.RegionHeld3
import Derived.Test.YtpajpapimdnjjaaPkRows
namespace Go.Proofs.Ytpajpapimdnjjaa.packBack
open Go.ChangeShapes Go.WideShapes Go.ChangeAt Go.RowKit
open Pk

/-- So much is laid: the value, and where its bytes lie. -/
def Has (L : List UInt8) (B : Nat) (w : World) (v : Value) (wr : World) : Prop :=
  ∃ A n c, v = .slice A n c ∧ Hid (L.length = n) ∧ n ≤ c ∧ c ≤ maxLen ∧ Byt wr wr.heap.size A L ∧ Below B w wr

theorem get_some {α : Type} (xs : List α) (k n : Nat) (hn : xs.length = n) (hk : k < n) : ∃ x, xs[k]? = some x := ⟨xs[k]'(by omega), List.getElem?_eq_getElem _⟩

set_option maxHeartbeats 2000000 in
set_option maxRecDepth 100000 in
theorem walk (a0 : Option Addr) (xs : List Int) (len0 cap0 : Nat) (a1 : Option Addr) (ss : List ByteArray) (len1 cap1 : Nat) (w : World)
    (Hx : Hid (xs.length = len0)) (Hs : Hid (ss.length = len1)) (hm0 : len0 ≤ 9223372036854775807) (hm1 : len1 ≤ 9223372036854775807) (hsz : Hid (∀ s ∈ ss, s.size ≤ maxLen)) (hrx : Rw (Value.int .i64) w w.heap.size a0 xs) (hrs : Rw Value.string w w.heap.size a1 ss) :
    Calls Try.prog 5 #[.slice a0 len0 cap0, .slice a1 len1 cap1] w fun e w' => e = .returned (.bool true) ∧ Below w.heap.size w w' := by
  by_cases hg1 : 100 < len0
  · go_enter Try.func5, Try.ntmps5
    go_wp2_with fail
    refine (awake_any w).mono ?_
    rintro r w1 ⟨rfl, hb1⟩
    go_wp2_with fail
    refine (awake_any w1).mono ?_
    rintro r w2 ⟨rfl, hb2⟩
    go_wp2
    go_ret
    exact ⟨rfl, hb1.trans (hb2.mono hb1.size)⟩
  by_cases hg2 : 100 < len1
  · go_enter Try.func5, Try.ntmps5
    go_wp2_with fail
    refine (awake_any w).mono ?_
    rintro r w1 ⟨rfl, hb1⟩
    go_wp2_with fail
    refine (awake_any w1).mono ?_
    rintro r w2 ⟨rfl, hb2⟩
    go_wp2
    go_ret
    exact ⟨rfl, hb1.trans (hb2.mono hb1.size)⟩
  go_enter Try.func5, Try.ntmps5
  go_wp2_with fail
  refine (awake_any w).mono ?_
  rintro r w1 ⟨rfl, hb1⟩
  go_wp2_with fail
  go_loopw [5, 26] (fun v i wr => ∃ k : Nat, k ≤ len0 ∧ i = .int .i64 k ∧ Hid ((encNums (xs.take k)).length ≤ 9 * k) ∧ Has (encNums (xs.take k)) w.heap.size w v wr) (fun _ i _ => len0 - (intOf i).toNat)
  case atStart => exact ⟨0, Nat.zero_le _, rfl, by simp [Hid, encNums], none, 0, 0, rfl, rfl, Nat.le_refl _, by unfold maxLen; omega, Byt.nil, hb1⟩
  case round =>
    obtain ⟨k, hk, rfl, hlen, A, n, c, rfl, hn, hlc, hcm, hbyt, hbel⟩ := hrel
    by_cases hlt : k < len0
    · obtain ⟨z, hz⟩ := get_some xs k len0 Hx.out hlt
      obtain ⟨b, o, rfl, _, hcell⟩ := (hrx.below hbel) (by rintro rfl; simp at hz)
      have hck := hcell k z hz
      have hl9 := hlen.out
      have hN := Number_at A _ n c z wr hn.out hbyt (by have := hn.out; omega)
      rw [← encNums_snoc xs k z hz] at hN
      have hl10 : (encNums (xs.take (k + 1))).length ≤ 9 * (k + 1) := by
        rw [encNums_snoc xs k z hz, List.length_append]
        have := enc_le (clamp z)
        omega
      have HN := hide hN
      have Hl := hide hl10
      clear hN hl10 hl9 hlen hz hcell hbyt
      go_wp2_with fail
      refine HN.out.mono ?_
      rintro r w2 ⟨v, rfl, hown, hb2⟩
      have hsz0 := hbel.size
      have R : Has (encNums (xs.take (k + 1))) w.heap.size w v w2 := by
        obtain ⟨A', c', e1, e2, e3, e4⟩ := hown.form
        exact ⟨A', _, c', e1, rfl, e2, e3, e4, hbel.trans (hb2.mono hsz0)⟩
      clear hown hb2
      go_wp2
      go_roundw
      case rel => exact ⟨k + 1, by omega, by go_num, Hl.out, R⟩
      case measure => simp [intOf]; omega
    · have e1 : xs.take k = xs := List.take_of_length_le (by rw [Hx.out]; omega)
      have hl9 := hlen.out
      have hn9 := hn.out
      rw [e1] at hbyt hl9 hn9
      obtain ⟨L1, hL1⟩ : ∃ L, L = encNums xs := ⟨_, rfl⟩
      rw [← hL1] at hbyt hl9 hn9
      have HL1 := hide hL1
      have hl900 : L1.length ≤ 900 := by omega
      have Hn9 := hide hn9
      clear hL1 hl9 hlen e1 hn hn9
      go_wp2_with fail
      go_loopw [5, 38] (fun v i wr => ∃ k : Nat, k ≤ len1 ∧ i = .int .i64 k ∧ Hid ((L1 ++ encTexts (ss.take k)).length ≤ 900 + 209 * k) ∧ Hid (∀ s ∈ ss.take k, s.size ≤ 200) ∧ Has (L1 ++ encTexts (ss.take k)) w.heap.size w v wr) (fun _ i _ => len1 - (intOf i).toNat)
      case atStart => exact ⟨0, Nat.zero_le _, rfl, by simp [Hid, encTexts]; omega, by simp [Hid], A, n, c, rfl, by simpa [Hid, encTexts] using Hn9.out, hlc, hcm, by simpa [encTexts] using hbyt, hbel⟩
      case round =>
        clear hbyt hlc hcm hbel Hn9
        obtain ⟨j, hj, rfl, hlen, hall, A2, n2, c2, rfl, hn2, hlc2, hcm2, hbyt2, hbel2⟩ := hrel
        by_cases hlt : j < len1
        · obtain ⟨s, hs⟩ := get_some ss j len1 Hs.out hlt
          obtain ⟨b, o, rfl, _, hcell⟩ := (hrs.below hbel2) (by rintro rfl; simp at hs)
          have hck := hcell j s hs
          have hss : s.size ≤ 9223372036854775807 := hsz.out s (List.mem_of_getElem? hs)
          by_cases hbig : 200 < s.size
          · clear hcell
            go_wp2
            go_ret
            exact ⟨rfl, hbel2⟩
          · have hl9 := hlen.out
            have hT := Text_at A2 _ n2 c2 s wr hn2.out hbyt2 (by have := hn2.out; omega)
            have e2 : L1 ++ encTexts (ss.take j) ++ enc s.size ++ s.data.toList = L1 ++ encTexts (ss.take (j + 1)) := by
              rw [encTexts_snoc ss j s hs]; simp [List.append_assoc]
            rw [e2] at hT
            have hl10 : (L1 ++ encTexts (ss.take (j + 1))).length ≤ 900 + 209 * (j + 1) := by
              have hd : s.data.toList.length = s.size := Array.length_toList
              have := enc_le s.size
              rw [← e2, List.length_append, List.length_append]
              omega
            have hall2 : ∀ x ∈ ss.take (j + 1), x.size ≤ 200 := by
              intro x hx
              obtain ⟨hjl, es⟩ := List.getElem?_eq_some_iff.1 hs
              rw [List.take_succ_eq_append_getElem hjl, es] at hx
              rcases List.mem_append.1 hx with h1 | h1
              · exact hall.out x h1
              · simp at h1; subst h1; omega
            have HT := hide hT
            have Hl := hide hl10
            have Ha := hide hall2
            clear hT hl10 hl9 hlen hs hcell hbyt2 hall2 e2
            go_wp2_with fail
            refine HT.out.mono ?_
            rintro r w2 ⟨v, rfl, hown, hb2⟩
            have hsz0 := hbel2.size
            have R : Has (L1 ++ encTexts (ss.take (j + 1))) w.heap.size w v w2 := by
              obtain ⟨A', c', f1, f2, f3, f4⟩ := hown.form
              exact ⟨A', _, c', f1, rfl, f2, f3, f4, hbel2.trans (hb2.mono hsz0)⟩
            clear hown hb2
            go_wp2
            go_roundw
            case rel => exact ⟨j + 1, by omega, by go_num, Hl.out, Ha.out, R⟩
            case measure => simp [intOf]; omega
        · have e1 : ss.take j = ss := List.take_of_length_le (by rw [Hs.out]; omega)
          have hn3 := hn2.out
          rw [e1] at hbyt2 hall hn3
          obtain ⟨T, hT⟩ : ∃ T, T = encTexts ss := ⟨_, rfl⟩
          rw [← hT] at hbyt2 hn3
          have HT := hide hT
          have Hn3 := hide hn3
          clear hlen e1 hT hn2 hn3
          go_wp2_with fail
          refine (Read_at A2 (L1 ++ T) n2 c2 wr Hn3.out hbyt2 hlc2 hcm2).mono ?_
          rintro r w3 ⟨rfl, hr3, hb3⟩
          have hsz2 : w.heap.size ≤ wr.heap.size := hbel2.size
          have hb13 := hbel2.trans (hb3.mono hsz2)
          clear hbyt2 hb3 hlc2 hcm2 hbel2 Hn3
          generalize wr.heap.size = g at *
          go_wp2_with fail
          have Hr3 : Hid (Rd w3 g (encNums (xs.drop 0) ++ T) 0) := by rw [List.drop_zero, ← HL1.out]; exact hr3
          clear hr3
          go_loopw [58] (fun i wr => ∃ k : Nat, k ≤ len0 ∧ i = .int .i64 k ∧ Hid (Rd wr g (encNums (xs.drop k) ++ T) 0) ∧ Below w.heap.size w wr) (fun i _ => len0 - (intOf i).toNat)
          case atStart => exact ⟨0, Nat.zero_le _, rfl, Hr3, hb13⟩
          case round =>
            clear Hr3 hb13
            rename_i wr0
            obtain ⟨i, hi, rfl, Hr, hbel⟩ := hrel
            by_cases hlt0 : i < len0
            · obtain ⟨z, hz⟩ := get_some xs i len0 Hx.out hlt0
              obtain ⟨b, o, rfl, hbb, hcell⟩ := (hrx.below hbel) (by rintro rfl; simp at hz)
              have hck := hcell i z hz
              have hr := Hr.out
              rw [encNums_cons xs i z hz, List.append_assoc] at hr
              have hN := Number_rd g 0 _ wr.drew hr
              rw [rnum_enc _ _ (clamp_lt z)] at hN
              have HN := hide hN
              have hltg := hr.lt
              have ez := clamp_eq z
              clear hN hr Hr hcell hz
              go_wp2_with fail
              go_region_held3 (fun w' => w'.cell? ⟨b, o + i, none⟩ = some (.int .i64 z)) (first | exact hck | assumption)
                (first | (go_at_call 16; refine HN.out.mono ?_; rintro r w5 ⟨rfl, hr5, hg5⟩; have hb5 := below_of_only hg5 hsz2 hltg; have hck5 := (hb5.cell (p := ⟨b, o + i, none⟩) hbb).trans hck))
              all_goals
                go_wp2
                go_roundw
                case rel => exact ⟨i + 1, by omega, by go_num, hr5, hbel.drew.trans hb5⟩
                case measure => simp [intOf]; omega
            · have e1 : xs.drop i = [] := List.drop_eq_nil_of_le (by rw [Hx.out]; omega)
              have hr := Hr.out
              rw [e1, HT.out] at hr
              have Hr4 : Hid (Rd wr g (encTexts (ss.drop 0)) 0) := hr
              clear hr e1 Hr
              go_wp2_with fail
              go_loopw [73] (fun i wr => ∃ k : Nat, k ≤ len1 ∧ i = .int .i64 k ∧ Hid (Rd wr g (encTexts (ss.drop k)) 0) ∧ Below w.heap.size w wr) (fun i _ => len1 - (intOf i).toNat)
              case atStart => exact ⟨0, Nat.zero_le _, rfl, Hr4, hbel⟩
              case round =>
                clear Hr4 hbel
                rename_i wr1
                obtain ⟨m, hm, rfl, Hr, hbel⟩ := hrel
                by_cases hlt1 : m < len1
                · obtain ⟨s, hs⟩ := get_some ss m len1 Hs.out hlt1
                  obtain ⟨b, o, rfl, hbb, hcell⟩ := (hrs.below hbel) (by rintro rfl; simp at hs)
                  have hck := hcell m s hs
                  have hr := Hr.out
                  have hd : s.data.toList.length = s.size := Array.length_toList
                  have hs200 : s.size ≤ 200 := hall.out s (List.mem_of_getElem? hs)
                  rw [encTexts_cons ss m s hs] at hr
                  have hN := Text_rd g (s.size : Int) _ 0 wr.drew hr
                  rw [← hd, rtext_enc _ _ _ (Int.le_refl _) (by omega), hd] at hN
                  have es : (⟨s.data.toList.toArray⟩ : ByteArray) = s := rfl
                  rw [es] at hN
                  have HN := hide hN
                  have hltg := hr.lt
                  clear hN hr Hr hcell hs hd es
                  go_wp2_with fail
                  go_region_held3 (fun w' => w'.cell? ⟨b, o + m, none⟩ = some (.string s)) (first | exact hck | assumption)
                    (first | (go_at_call 18; refine HN.out.mono ?_; rintro r w5 ⟨rfl, hr5, hg5⟩; have hb5 := below_of_only hg5 hsz2 hltg; have hck5 := (hb5.cell (p := ⟨b, o + m, none⟩) hbb).trans hck))
                  all_goals
                    go_wp2
                    go_roundw
                    case rel => exact ⟨m + 1, by omega, by go_num, hr5, hbel.drew.trans hb5⟩
                    case measure => simp [intOf]; omega
                · have e1 : ss.drop m = [] := List.drop_eq_nil_of_le (by rw [Hs.out]; omega)
                  have hr := Hr.out
                  rw [e1] at hr
                  have hr' : Rd wr g [] 0 := hr
                  have hE := End_rd g 0 [] wr hr'
                  rw [show rend [] 0 = 0 from rfl] at hE
                  have HE := hide hE
                  clear hr e1 Hr hE
                  go_wp2_with fail
                  refine HE.out.mono ?_
                  rintro r w' ⟨rfl, rfl⟩
                  go_wp2_with fail
                  refine (Left_any g 0 [] wr hr').mono ?_
                  rintro r w' ⟨rfl, rfl⟩
                  go_wp2
                  go_ret
                  exact ⟨rfl, hbel⟩

theorem own : ownKnob Try.prog.godebug = none := by kernel_rfl
theorem laidOut : laidOutB Try.prog = true := by kernel_rfl

set_option maxRecDepth 100000 in
theorem lifted (os : Os) (started : os.Started) (H : Type) (enc : TypeId × Value → H) :
    ReturnsInHanded {} Try.checked os 5 .any (Rows.packBackSpec.pre6 enc Try.prog Try.f5 Rows.packBackRow.domain false) (Rows.packBackSpec.post enc Try.prog Try.f5 false true false false) := by
  refine returnsInHanded_of_change (C := Try.checked) own started (by kernel_rfl) Try.func5
    (ChangeSpec.witness6 (enc := enc) (C := Try.checked) false ⟨#[], #[.slice none 0 0, .slice none 0 0], []⟩ 8 (by kernel_rfl) (by kernel_rfl) (by kernel_rfl) (by kernel_rfl)) ?_
  intro W base args ds gs before hval0 hW hcnd _
  have hval : ∀ (j : Nat) t v, Try.f5.params[j]? = some t → args[j]? = some v → Value.okWide Try.prog W .any base t v := hval0
  have hW' := hW
  obtain ⟨p, q, hA0, hV, rfl, hfz, hnd⟩ := hW
  have hA : DataW.TrodAll enc Try.prog W 0 (fun _ => true) true Try.f5.params.toList args.toList ds p := hA0
  rw [Try.params5] at hA hval
  obtain ⟨v0, vs0, d0, ds0, p0, q0, hargs, rfl, rfl, h0, r0⟩ := trodAll_cons hA
  obtain ⟨v1, vs1, d1, ds1, p1, q1, rfl, rfl, rfl, h1, r1⟩ := trodAll_cons r0
  obtain ⟨rfl, rfl, rfl⟩ := trodAll_nil r1
  obtain rfl : args = #[v0, v1] := by cases args; simp_all
  obtain ⟨rfl, rfl⟩ := trodVars_none hV
  obtain ⟨a0, len0, cap0, rfl⟩ := okWide_slice Try.underlying41 (hval 0 41 v0 rfl rfl)
  obtain ⟨a1, len1, cap1, rfl⟩ := okWide_slice Try.underlying42 (hval 1 42 v1 rfl rfl)
  have k0 := h0
  have k1 := h1
  have lt0 : ∀ x ∈ p0, x.block < W.heap.size := by obtain ⟨m, hm⟩ := k0; exact DataW.trod_lt m _ _ _ hm
  have lt1 : ∀ x ∈ p1, x.block < W.heap.size := by obtain ⟨m, hm⟩ := k1; exact DataW.trod_lt m _ _ _ hm
  obtain ⟨hl0, xs, hx, hrx⟩ := open_nums h0
  obtain ⟨hl1, ss, hs, hsz, hrs⟩ := open_texts h1
  clear hA0 hval0
  refine (walk a0 xs len0 cap0 a1 ss len1 cap1 W hx hs hl0 hl1 hsz hrx hrs).mono fun e W' ⟨he, bel⟩ => ?_
  subst he
  exact ⟨_, rfl, _, _, _, [], _, [], hW', trodAll_mk1 (shut_bool Try.underlying4 _), (trodAll_cons_mk (Below.trod laidOut (by kernel_rfl) (of_decide_eq_true (by kernel_rfl)) k0 bel lt0) (trodAll_cons_mk (Below.trod laidOut (by kernel_rfl) (of_decide_eq_true (by kernel_rfl)) k1 bel lt1) trodAll_mk0)), rfl, bel.frame _, fun h => by cases h⟩

theorem proved : Rows.PackBackSaid :=
  OpenClaim.holds_of_wide 5 Try.f5 rfl rfl rfl rfl rfl rfl rfl ⟨rfl, rfl, rfl, rfl, rfl⟩ rfl rfl rfl rfl rfl (by kernel_rfl) Try.func5 (by kernel_rfl)
    (of_decide_eq_true (by kernel_rfl)) (by unfold Func.isWrapper; first | (rw [if_pos (by decide +kernel)]; kernel_rfl) | (rw [if_neg (by decide +kernel)]; exact ⟨rfl, rfl⟩))
    (fun os started H enc _ => lifted os started H enc)
#print axioms proved
end Go.Proofs.Ytpajpapimdnjjaa.packBack
