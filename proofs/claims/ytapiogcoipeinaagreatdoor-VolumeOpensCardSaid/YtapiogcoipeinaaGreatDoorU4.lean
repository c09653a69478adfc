/-
  What the statements on pack share: what is laid for a number and for a text, told by a name for its bytes; bytes appended to bytes; a reader of bytes. Contracts, each for every world.
-/
import Derived.Lib.MinMax
import Derived.Test.YtapiogcoipeinaaGreatDoorU3
namespace Go.Proofs.YtapiogcoipeinaaGreatDoor.Pk
open Go.RowKit
theorem clamp_eq (n : Int) : max 0 (min n 1152921504606846975) = (clamp n : Int) := by unfold clamp; omega
theorem own_below {w w' : World} {base : Nat} {v : Value} {l : List UInt8} (hown : Own w base v l) (hg : w.grownBy w' v.ownBlock) (hbase : base ≤ w.heap.size) : Below base w w' :=
 (Below.refl _ _).grown hg hbase (fun k hk => (World.ownsRow.lt hown k hk).1)
theorem rtext_enc (s r : List UInt8) (most : Int) (hm : (s.length : Int) ≤ most) (hs : s.length < 1152921504606846976) : rtext (enc s.length ++ s ++ r) 0 most = (s, r, 0) := by
 have hr := rnum_enc s.length (s ++ r) hs
 unfold rtext
 rw [List.append_assoc, hr]
 have h2 : ¬ most < (s.length : Int) := by omega
 simp [h2]
end Go.Proofs.YtapiogcoipeinaaGreatDoor.Pk
