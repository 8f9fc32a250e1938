/- Contracts of layer 1 (octet): numbers in n bytes. -/
import Derived.Test.YthjdlilafamaoaaDoorOctE
import Derived.Test.YthjdlilafamaoaaDoorOctFMath
import Derived.Deep.OwnRows
namespace Go.Proofs.YthjdlilafamaoaaDoor.Oct
open Go.RowKit Go.Lib

def fixB (n : Int) : Bool := decide (1 ≤ n ∧ n ≤ 7)
theorem fixB_true {n : Int} (h0 : 1 ≤ n) (h1 : n ≤ 7) : fixB n = true := decide_eq_true ⟨h0, h1⟩
theorem fixB_false {n : Int} (h : n < 1 ∨ 7 < n) : fixB n = false := decide_eq_false (by omega)

set_option maxHeartbeats 400000 in
theorem isFixed_any (n : Int) (w : World) :
    Calls Tryd.prog 21 #[.int .i64 n] w fun e w' => e = .returned (.bool (fixB n)) ∧ w = w' := by
  by_cases h0 : 1 ≤ n
  · by_cases h1 : n ≤ 7
    · go_enter Tryd.func21, Tryd.ntmps21
      go_wp2
      go_ret
      exact ⟨retB (fixB_true h0 h1).symm, rfl⟩
    · go_enter Tryd.func21, Tryd.ntmps21
      go_wp2
      go_ret
      exact ⟨retB (fixB_false (by omega)).symm, rfl⟩
  · go_enter Tryd.func21, Tryd.ntmps21
    go_wp2
    go_ret
    exact ⟨retB (fixB_false (by omega)).symm, rfl⟩

/-- 256 to the n. -/
def pw (n : Nat) : Nat := 256 ^ n
/-- Is a number one in n bytes? -/
def fitB (n : Nat) (x : Int) : Bool := decide (0 ≤ x ∧ x < (pw n : Int))

set_option maxRecDepth 100000 in
set_option maxHeartbeats 1000000 in
theorem refFixed_any (n x : Nat) (w : World) (hn : n ≤ 7) (hx : (x : Int) ≤ 9223372036854775807) :
    Calls Tryd.prog 13 #[.int .i64 (n : Int), .int .i64 (x : Int)] w fun e w' => e = .returned (.string ⟨(fixedB n x).toArray⟩) ∧ Below w.heap.size w w' := by
  go_enter Tryd.func13, Tryd.ntmps13
  go_wp2
  go_loopw [1, 5, 6] (fun y s i wr => ∃ (k q : Nat) (l : List UInt8), k ≤ n ∧ i = .int .i64 k ∧ y = .int .i64 q ∧ s = .string ⟨l.toArray⟩ ∧ (q : Int) ≤ 9223372036854775807 ∧ l.length ≤ 7 ∧ Hid (q = x / 256 ^ k ∧ l = fixedB k x) ∧ Below w.heap.size w wr) (fun _ _ i _ => n - (intOf i).toNat)
  case atStart => exact ⟨0, x, [], by omega, rfl, rfl, rfl, hx, by simp, Lib.hid ⟨by simp, rfl⟩, Below.refl _ _⟩
  case round =>
    obtain ⟨k, q, l, hk, rfl, rfl, rfl, hq, hl, HQ, hb⟩ := hrel
    by_cases hlt : k < n
    · have hby : IntKind.u8.wrap ((q : Int) % 256) = (q : Int) % 256 := IntWalk.u8_in _ (by omega)
      have hcv := one_string (wr.alloc (.cells #[.int .u8 ((q : Int) % 256)] 5)) (q % 256) (by omega) 34 5 9 Tryd.underlying34 Tryd.underlying5 Tryd.underlying9 1 wr.heap.size (by simp)
      have hadd : ∀ W : World, (Op.stringOp .add ⟨l.toArray⟩ ⟨#[UInt8.ofNat (q % 256)]⟩).run Tryd.prog W = .ok (.string ⟨(l ++ [UInt8.ofNat (q % 256)]).toArray⟩) W :=
        fun W => run_string_add_lists W l [UInt8.ofNat (q % 256)] (by omega) (by simp)
      go_wp2
      go_roundw
      case rel => exact ⟨k + 1, q / 256, l ++ [UInt8.ofNat (q % 256)], by omega, by go_num, by go_num, rfl, by omega, by (have := HQ.out.2; rw [this]; simp [fixedB_len]; omega), Lib.hid ⟨by rw [HQ.out.1, Nat.pow_succ, Nat.div_div_eq_div_mul], by rw [fixedB_succ, ← HQ.out.2, HQ.out.1]; rfl⟩, hb.alloc (by have := hb.size; omega) _⟩
      case measure => simp [intOf]; omega
    · have HE := Lib.hid (show k = n by omega)
      go_wp2
      go_ret
      exact ⟨by rw [HQ.out.2, HE.out]; rfl, hb⟩

end Go.Proofs.YthjdlilafamaoaaDoor.Oct
