/- The document's answers of layer 6 (gap): Put (written by gen_ref06p.py). -/
import Derived.Test.YtoggeiaofpdboaaGapMath
import Derived.Test.YtoggeiaofpdboaaIntKit
import Derived.Test.YtoggeiaofpdboaaOctE
import Derived.Test.YtoggeiaofpdboaaKnPush
namespace Go.Proofs.Ytoggeiaofpdboaa.Gap
open Go Go.RowKit Go.Lib Oct Num

/-- Bytes as a text. -/
def bs (l : List UInt8) : ByteArray := ⟨l.toArray⟩
theorem bs_app (a b : List UInt8) : bs a ++ bs b = bs (a ++ b) := by apply ByteArray.ext; simp [bs]
theorem bs_size (l : List UInt8) : (bs l).size = l.length := rfl
theorem putF_len (v : Int) (l : List Int) (hl : l.length < 2 ^ 63) (hb : ∀ k, (turnOf (l.getD 0 0 - v)).toNat < 2 ^ 63 ∧ (l.getD (k + 1) 0 - l.getD k 0 - 1).toNat < 2 ^ 63) : ∀ k, (putF v l k).length ≤ 9 + 9 * k
  | 0 => by rw [putF]; exact short_len9 _ hl
  | 1 => by
    rw [putF, List.length_append]
    have h1 := short_len9 _ hl
    have h2 := short_len9 _ (hb 0).1
    omega
  | k + 2 => by
    rw [putF, List.length_append]
    have h1 := putF_len v l hl hb (k + 1)
    have h2 := short_len9 _ (hb k).2
    omega
theorem turn_nat (x : Int) (h0 : -100000 ≤ x) (h1 : x ≤ 100000) : ∃ t : Nat, turnOf x = (t : Int) ∧ t ≤ 200001 := by
  unfold turnOf
  rw [if_pos (by omega)]
  split
  · exact ⟨(-2 * x - 1).toNat, by omega, by omega⟩
  · exact ⟨(2 * x).toNat, by omega, by omega⟩

end Go.Proofs.Ytoggeiaofpdboaa.Gap
