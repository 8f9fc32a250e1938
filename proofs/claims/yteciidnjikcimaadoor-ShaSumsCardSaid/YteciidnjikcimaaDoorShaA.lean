/- Contracts of layer 2 (sha): words turned. -/
import Derived.Test.YteciidnjikcimaaDoorChecked
import Derived.Test.YteciidnjikcimaaDoorShaMath
import Derived.WalkKit
import Derived.WalkSpells
import Derived.WalkLawsBesides
import Derived.Lib.Hide
import Derived.IntWalk
import Derived.Laws.BitsAllLaws
import Derived.Laws.ShiftsVarLaws
namespace Go.Proofs.YteciidnjikcimaaDoor.Sha
open Go.RowKit

theorem retI {k : IntKind} {a b : Int} (h : a = b) : Ending.returned (.int k a) = .returned (.int k b) := by rw [h]

theorem neg_and31 (s c : Nat) (h : c + s = 32) (h0 : 0 < s) (hc : 0 < c) : bits .and .u64 (IntKind.u64.wrap (-(s : Int))) 31 = (c : Int) := by
  have e : IntKind.u64.wrap (-(s : Int)) = ((18446744073709551616 - s : Nat) : Int) := by simp [IntKind.wrap, IntKind.bits, IntKind.signed]; omega
  rw [e]
  have := u64_and_nat (18446744073709551616 - s) 31 (by omega) (by omega)
  rw [show ((31 : Nat) : Int) = 31 by rfl] at this
  rw [this, show (31 : Nat) = 2 ^ 5 - 1 by rfl, Nat.and_two_pow_sub_one_eq_mod]
  omega

theorem rot_or (x s c : Nat) (h : c + s = 32) (hx : x < 4294967296) : (x * 2 ^ c % 4294967296) ||| (x / 2 ^ s) = rotr x s := by
  have e : (4294967296 : Nat) = 2 ^ s * 2 ^ c := by rw [← Nat.pow_add, Nat.add_comm s c, h]
  have h1 : x / 2 ^ s < 2 ^ c := by
    rw [Nat.div_lt_iff_lt_mul (Nat.two_pow_pos _), Nat.mul_comm, ← e]; exact hx
  rw [e, Nat.mul_mod_mul_right, Nat.mul_comm (x % 2 ^ s), ← Nat.two_pow_add_eq_or_of_lt h1]
  unfold rotr
  rw [show 32 - s = c by omega, Nat.mul_comm (2 ^ c)]
  omega
theorem rotr_lt (x s : Nat) (h : s ≤ 32) (hx : x < 4294967296) : rotr x s < 4294967296 := by
  rw [← rot_or x s (32 - s) (by omega) hx]
  have h2 : x / 2 ^ s < 2 ^ 32 := Nat.lt_of_le_of_lt (Nat.div_le_self _ _) hx
  exact Nat.or_lt_two_pow (n := 32) (Nat.mod_lt _ (by omega)) h2
theorem rot_bits (x s c : Nat) (h : c + s = 32) (hx : x < 4294967296) : bits .or .u32 ((x : Int) * 2 ^ c % 4294967296) ((x : Int) / 2 ^ (32 - c)) = ((rotr x s : Nat) : Int) := by
  have e1 : (x : Int) * 2 ^ c % 4294967296 = ((x * 2 ^ c % 4294967296 : Nat) : Int) := by rw [Int.natCast_emod, Int.natCast_mul, Int.natCast_pow]; rfl
  have e2 : (x : Int) / 2 ^ (32 - c) = ((x / 2 ^ s : Nat) : Int) := by rw [show 32 - c = s by omega, Int.natCast_ediv, Int.natCast_pow]; rfl
  have h2 : x / 2 ^ s < 4294967296 := Nat.lt_of_le_of_lt (Nat.div_le_self _ _) hx
  rw [e1, e2, u32_or_nat _ _ (Nat.mod_lt _ (by omega)) h2, rot_or x s c h hx]

set_option maxHeartbeats 400000 in
theorem rotl_any (x s c : Nat) (w : World) (hx : x < 4294967296) (h : c + s = 32) (h0 : 0 < s) (hc : 0 < c) :
    Calls Tryd.prog 34 #[.int .u32 (x : Int), .int .i64 (-(s : Int))] w fun e w' => e = .returned (.int .u32 (rotr x s)) ∧ w = w' := by
  have hb := neg_and31 s c h h0 hc
  have H := Lib.hid h
  have hc2 : c < 32 := by omega
  clear h
  go_enter Tryd.func34, Tryd.ntmps34
  go_wp2
  go_ret
  exact ⟨retI (rot_bits x s c H.out hx), rfl⟩

set_option maxHeartbeats 400000 in
theorem right_any (x s : Nat) (w : World) (hx : x < 4294967296) (h0 : 0 < s) (h1 : s < 32) :
    Calls Tryd.prog 33 #[.int .u32 (x : Int), .int .i64 (s : Int)] w fun e w' => e = .returned (.int .u32 (rotr x s)) ∧ w = w' := by
  go_enter Tryd.func33, Tryd.ntmps33
  go_wp2_with (go_at_call 34; refine (rotl_any x s (32 - s) _ hx (by omega) h0 (by omega)).mono ?_; rintro e w' ⟨rfl, rfl⟩)
  go_ret
  exact ⟨rfl, rfl⟩
theorem right_int (x : Nat) (i : Int) (w : World) (hx : x < 4294967296) (h0 : 0 < i) (h1 : i < 32) :
    Calls Tryd.prog 33 #[.int .u32 (x : Int), .int .i64 i] w fun e w' => e = .returned (.int .u32 (rotr x i.toNat)) ∧ w = w' := by
  obtain ⟨s, rfl⟩ := Int.eq_ofNat_of_zero_le (show 0 ≤ i by omega)
  rw [Int.toNat_natCast]
  exact right_any x s w hx (by omega) (by omega)

end Go.Proofs.YteciidnjikcimaaDoor.Sha
