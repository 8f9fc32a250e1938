/- Contracts of layer 1 (octet): numbers in n bytes. -/
import Derived.Test.YtahngmddhpnjgaaDoorOctE
import Derived.Test.YtahngmddhpnjgaaDoorOctFMath
import Derived.Deep.OwnRows
namespace Go.Proofs.YtahngmddhpnjgaaDoor.Oct
open Go.RowKit Go.Lib

def fixB (n : Int) : Bool := decide (1 ≤ n ∧ n ≤ 7)
theorem fixB_true {n : Int} (h0 : 1 ≤ n) (h1 : n ≤ 7) : fixB n = true := decide_eq_true ⟨h0, h1⟩
theorem fixB_false {n : Int} (h : n < 1 ∨ 7 < n) : fixB n = false := decide_eq_false (by omega)

set_option maxHeartbeats 400000 in
theorem isFixed_any (n : Int) (w : World) :
    Calls Tryd.prog 23 #[.int .i64 n] w fun e w' => e = .returned (.bool (fixB n)) ∧ w = w' := by
  by_cases h0 : 1 ≤ n
  · by_cases h1 : n ≤ 7
    · go_enter Tryd.func23, Tryd.ntmps23
      go_wp2
      go_ret
      exact ⟨retB (fixB_true h0 h1).symm, rfl⟩
    · go_enter Tryd.func23, Tryd.ntmps23
      go_wp2
      go_ret
      exact ⟨retB (fixB_false (by omega)).symm, rfl⟩
  · go_enter Tryd.func23, Tryd.ntmps23
    go_wp2
    go_ret
    exact ⟨retB (fixB_false (by omega)).symm, rfl⟩

/-- 256 to the n. -/
def pw (n : Nat) : Nat := 256 ^ n
/-- Is a number one in n bytes? -/
def fitB (n : Nat) (x : Int) : Bool := decide (0 ≤ x ∧ x < (pw n : Int))

set_option maxRecDepth 100000 in
set_option maxHeartbeats 1000000 in
theorem power_any (n : Nat) (w : World) (hn : n ≤ 7) :
    Calls Tryd.prog 25 #[.int .i64 (n : Int)] w fun e w' => e = .returned (.int .i64 (pw n : Int)) ∧ w = w' := by
  go_enter Tryd.func25, Tryd.ntmps25
  go_wp2
  go_loop [3, 4] (fun p i => ∃ k P : Nat, k ≤ n ∧ i = .int .i64 k ∧ p = .int .i64 P ∧ Hid (P = 256 ^ k)) (fun _ i => n - (intOf i).toNat)
  case atStart => exact ⟨0, 1, by omega, rfl, rfl, Lib.hid rfl⟩
  case round =>
    obtain ⟨k, P, hk, rfl, rfl, HP⟩ := hrel
    by_cases hlt : k < n
    · have hb : (P : Int) * 256 ≤ 72057594037927936 := by
        have := pow256_le (k + 1) (by omega)
        rw [Nat.pow_succ] at this
        rw [HP.out]; omega
      go_wp2
      go_round
      case rel => exact ⟨k + 1, P * 256, by omega, by go_num, by go_num, Lib.hid (by rw [HP.out, Nat.pow_succ])⟩
      case measure => simp [intOf]; omega
    · have HE := Lib.hid (show k = n by omega)
      go_wp2
      go_ret
      exact ⟨retI (by rw [HP.out, HE.out]; rfl), rfl⟩

set_option maxRecDepth 100000 in
set_option maxHeartbeats 1000000 in
theorem fits_any (n : Nat) (x : Int) (w : World) (hn : n ≤ 7) :
    Calls Tryd.prog 10 #[.int .i64 (n : Int), .int .i64 x] w fun e w' => e = .returned (.bool (fitB n x)) ∧ w = w' := by
  by_cases h0 : 0 ≤ x
  · obtain ⟨P, hP⟩ : ∃ P : Nat, P = pw n := ⟨_, rfl⟩
    have HP := Lib.hid hP
    clear hP
    by_cases hlt : x < (P : Int)
    · have HF := Lib.hid (show fitB n x = true from decide_eq_true ⟨h0, by rw [← HP.out]; exact hlt⟩)
      go_enter Tryd.func10, Tryd.ntmps10
      go_wp2_with (go_at_call 25; refine (power_any n _ hn).mono ?_; rintro e w' ⟨rfl, rfl⟩; rw [← HP.out])
      go_ret
      exact ⟨retB HF.out.symm, rfl⟩
    · have HF := Lib.hid (show fitB n x = false from decide_eq_false (by rw [← HP.out]; omega))
      have hd : decide (x < (P : Int)) = false := decide_eq_false hlt
      go_enter Tryd.func10, Tryd.ntmps10
      go_wp2_with (go_at_call 25; refine (power_any n _ hn).mono ?_; rintro e w' ⟨rfl, rfl⟩; rw [← HP.out])
      go_ret
      exact ⟨retB HF.out.symm, rfl⟩
  · have HF := Lib.hid (show fitB n x = false from decide_eq_false (by omega))
    go_enter Tryd.func10, Tryd.ntmps10
    go_wp2
    go_ret
    exact ⟨retB HF.out.symm, rfl⟩

set_option maxRecDepth 100000 in
set_option maxHeartbeats 1000000 in
theorem refFixed_any (n x : Nat) (w : World) (hn : n ≤ 7) (hx : (x : Int) ≤ 9223372036854775807) :
    Calls Tryd.prog 12 #[.int .i64 (n : Int), .int .i64 (x : Int)] w fun e w' => e = .returned (.string ⟨(fixedB n x).toArray⟩) ∧ Below w.heap.size w w' := by
  go_enter Tryd.func12, Tryd.ntmps12
  go_wp2
  go_loopw [1, 5, 6] (fun y s i wr => ∃ (k q : Nat) (l : List UInt8), k ≤ n ∧ i = .int .i64 k ∧ y = .int .i64 q ∧ s = .string ⟨l.toArray⟩ ∧ (q : Int) ≤ 9223372036854775807 ∧ l.length ≤ 7 ∧ Hid (q = x / 256 ^ k ∧ l = fixedB k x) ∧ Below w.heap.size w wr) (fun _ _ i _ => n - (intOf i).toNat)
  case atStart => exact ⟨0, x, [], by omega, rfl, rfl, rfl, hx, by simp, Lib.hid ⟨by simp, rfl⟩, Below.refl _ _⟩
  case round =>
    obtain ⟨k, q, l, hk, rfl, rfl, rfl, hq, hl, HQ, hb⟩ := hrel
    by_cases hlt : k < n
    · have hby : IntKind.u8.wrap ((q : Int) % 256) = (q : Int) % 256 := IntWalk.u8_in _ (by omega)
      have hcv := one_string (wr.alloc (.cells #[.int .u8 ((q : Int) % 256)] 5)) (q % 256) (by omega) 48 5 9 Tryd.underlying48 Tryd.underlying5 Tryd.underlying9 1 wr.heap.size (by simp)
      have hadd : ∀ W : World, (Op.stringOp .add ⟨l.toArray⟩ ⟨#[UInt8.ofNat (q % 256)]⟩).run Tryd.prog W = .ok (.string ⟨(l ++ [UInt8.ofNat (q % 256)]).toArray⟩) W :=
        fun W => run_string_add_lists W l [UInt8.ofNat (q % 256)] (by omega) (by simp)
      go_wp2
      go_roundw
      case rel => exact ⟨k + 1, q / 256, l ++ [UInt8.ofNat (q % 256)], by omega, by go_num, by go_num, rfl, by omega, by (have := HQ.out.2; rw [this]; simp [fixedB_len]; omega), Lib.hid ⟨by rw [HQ.out.1, Nat.pow_succ, Nat.div_div_eq_div_mul], by rw [fixedB_succ, ← HQ.out.2, HQ.out.1]; rfl⟩, hb.alloc (by have := hb.size; omega) _⟩
      case measure => simp [intOf]; omega
    · have HE := Lib.hid (show k = n by omega)
      go_wp2
      go_ret
      exact ⟨by rw [HQ.out.2, HE.out]; rfl, hb⟩

end Go.Proofs.YtahngmddhpnjgaaDoor.Oct
