/-
  The statements' first call, awake: it returns true, and changes nothing that was there.
-/
import Derived.Test.YtpajpapimdnjjaaPkText
namespace Go.Proofs.Ytpajpapimdnjjaa.Pk
open Go.RowKit

theorem enc300 : enc 300 = [172, 2] := by decide
theorem clamp300 : clamp 300 = 300 := by decide

theorem rnum_enc (n : Nat) (r : List UInt8) (h : n < 1152921504606846976) : rnum (enc n ++ r) 0 = (n, r, 0) := by
  rw [rnum_ok _ _ _ (dec_enc n r h), List.drop_left]

theorem Byt.at_ {w : World} {B b o : Nat} {l : List UInt8} (h : Byt w B (some ⟨b, o, none⟩) l) (j : Nat) (u : UInt8) (hu : l[j]? = some u) : w.cell? ⟨b, o + j, none⟩ = some (cel u) := by
  have hne : l ≠ [] := by rintro rfl; simp at hu
  obtain ⟨b', o', e, _, hc⟩ := h hne
  simp only [Option.some.injEq, Addr.mk.injEq, and_true] at e
  obtain ⟨rfl, rfl⟩ := e
  exact hc j u hu

set_option maxHeartbeats 1000000 in
theorem awake_any (w : World) : Calls Try.prog 10 #[] w fun r w' => r = .returned (.bool true) ∧ Below w.heap.size w w' := by
  have hN := Number_any none [] 0 300 w Byt.nil (by simp)
  rw [clamp300, List.nil_append, enc300] at hN
  have HN := hide hN
  clear hN
  go_enter Try.func10, Try.ntmps10
  go_wp2_with fail
  refine HN.out.mono ?_
  rintro r w1 ⟨v, rfl, hown, hb1⟩
  obtain ⟨A, c, rfl, hlc, hcm, hbyt⟩ := hown.form
  obtain ⟨b, o, rfl, hbb, _⟩ := hbyt (by simp)
  go_wp2_with fail
  refine (Read_any _ [172, 2] c w1 hbyt hlc hcm).mono ?_
  rintro r w2 ⟨rfl, hr2, hb2⟩
  have hc0 : w2.cell? ⟨b, o, none⟩ = some (.int .u8 172) := (hb2.cell (p := ⟨b, o, none⟩) hbb).trans (hbyt.at_ 0 172 rfl)
  have hc1 : w2.cell? ⟨b, o + 1, none⟩ = some (.int .u8 2) := (hb2.cell (p := ⟨b, o + 1, none⟩) hbb).trans (hbyt.at_ 1 2 rfl)
  have hl2 := Left_any w1.heap.size 0 [172, 2] w2 hr2
  have hn2 := Number_rd w1.heap.size 0 [172, 2] w2 hr2
  have e2 := rnum_enc 300 [] (by decide)
  rw [List.append_nil, enc300] at e2
  rw [e2] at hn2
  have HL := hide hl2
  have HR := hide hn2
  have Hb := hide (hb1.trans (hb2.mono hb1.size))
  have hlt := hr2.lt
  have hsz := hb1.size
  clear hl2 hn2 e2 hbyt hown hr2 HN
  go_wp2_with fail
  refine HL.out.mono ?_
  rintro r w' ⟨rfl, rfl⟩
  go_wp2_with fail
  refine HR.out.mono ?_
  rintro r w3 ⟨rfl, hr3, hg3⟩
  have Hb3 := hide (Hb.out.trans (below_of_only hg3 hsz hlt))
  clear hr3 hg3
  go_wp2
  go_ret
  exact ⟨rfl, Hb3.out⟩

end Go.Proofs.Ytpajpapimdnjjaa.Pk
