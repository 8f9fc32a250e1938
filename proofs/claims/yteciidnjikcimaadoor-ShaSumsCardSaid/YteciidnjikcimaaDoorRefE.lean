/- Contracts of the document's own answer of layer 2: words turned, words moved. -/
import Derived.Test.YteciidnjikcimaaDoorRefD
namespace Go.Proofs.YteciidnjikcimaaDoor.Sha
open Go.RowKit Go.Lib

theorem i64_xor_nat (a b : Nat) (ha : a < 4294967296) (hb : b < 4294967296) : bits .xor .i64 (a : Int) (b : Int) = ((a ^^^ b : Nat) : Int) := by
  have hx : a ^^^ b < 2 ^ 32 := Nat.xor_lt_two_pow (by omega) (by omega)
  show IntKind.i64.wrap ((BitVec.ofInt 64 (a : Int) ^^^ BitVec.ofInt 64 (b : Int)).toNat : Int) = _
  rw [BitVec.toNat_xor, ofInt_u64 a (by omega), ofInt_u64 b (by omega), IntKind.wrap_i64]
  omega
theorem i64_and_nat (a b : Nat) (ha : a < 4294967296) (hb : b < 4294967296) : bits .and .i64 (a : Int) (b : Int) = ((a &&& b : Nat) : Int) := by
  have hx : a &&& b < 2 ^ 32 := Nat.and_lt_two_pow _ (by omega)
  show IntKind.i64.wrap ((BitVec.ofInt 64 (a : Int) &&& BitVec.ofInt 64 (b : Int)).toNat : Int) = _
  rw [BitVec.toNat_and, ofInt_u64 a (by omega), ofInt_u64 b (by omega), IntKind.wrap_i64]
  omega
theorem rotr_parts (x n : Nat) (hn : n ≤ 32) (hx : x < 4294967296) : rotr x n = x / 2 ^ n + x % 2 ^ n * (4294967296 / 2 ^ n) := by
  unfold rotr
  have : 4294967296 / 2 ^ n = 2 ^ (32 - n) := by
    rw [show (4294967296 : Nat) = 2 ^ n * 2 ^ (32 - n) by rw [← Nat.pow_add, show n + (32 - n) = 32 by omega], Nat.mul_div_cancel_left _ (Nat.two_pow_pos _)]
  rw [this]

set_option maxRecDepth 100000 in
set_option maxHeartbeats 400000 in
theorem turn_any (x n : Nat) (w : World) (hx : x < 4294967296) (hn : n ≤ 31) :
    Calls Tryd.prog 25 #[.int .i64 (x : Int), .int .i64 (n : Int)] w fun e w' => e = .returned (.int .i64 ((rotr x n : Nat) : Int)) ∧ ∃ q, w' = w.drewN q := by
  go_enter Tryd.func25, Tryd.ntmps25
  go_wp2
  go_loop [5, 6] (fun p i => ∃ k P : Nat, k ≤ n ∧ i = .int .i64 k ∧ p = .int .i64 P ∧ P ≤ 4294967296 ∧ Hid (P = 2 ^ k)) (fun _ i => n - (intOf i).toNat)
  case atStart => exact ⟨0, 1, by omega, rfl, rfl, by omega, Lib.hid rfl⟩
  case round =>
    obtain ⟨k, P, hk, rfl, rfl, hP, HP⟩ := hrel
    by_cases hlt : k < n
    · have HB : Hid (2 * P ≤ 4294967296) := Lib.hid (by
        rw [HP.out, ← Nat.pow_succ']
        have : 2 ^ (k + 1) ≤ 2 ^ 32 := Nat.pow_le_pow_right (by omega) (by omega)
        simpa using this)
      go_wp2
      go_round
      case rel => exact ⟨k + 1, 2 * P, by omega, by go_num, by go_num, HB.out, Lib.hid (by rw [HP.out, Nat.pow_succ'])⟩
      case measure => simp [intOf]; omega
    · have hkn : k = n := by omega
      subst hkn
      have hP0 : 0 < P := by rw [HP.out]; exact Nat.two_pow_pos _
      obtain ⟨a, ha⟩ : ∃ a, x / P = a := ⟨_, rfl⟩
      obtain ⟨b, hb⟩ : ∃ b, x % P = b := ⟨_, rfl⟩
      obtain ⟨c, hc⟩ : ∃ c, 4294967296 / P = c := ⟨_, rfl⟩
      obtain ⟨m, hm⟩ : ∃ m, b * c = m := ⟨_, rfl⟩
      have HRot : Hid (rotr x k = a + m) := Lib.hid (by rw [rotr_parts x k (by omega) hx, ← HP.out, ha, hb, hc, hm])
      have hrl : a + m < 4294967296 := by rw [← HRot.out]; exact rotr_lt x k (by omega) hx
      have ai : (x : Int) / (P : Int) = (a : Int) := by rw [← Int.natCast_ediv, ha]
      have bi : (x : Int) % (P : Int) = (b : Int) := by rw [← Int.natCast_emod, hb]
      have ci : (4294967296 : Int) / (P : Int) = (c : Int) := by rw [← hc, Int.natCast_ediv]; rfl
      have at_ : (x : Int).tdiv (P : Int) = (a : Int) := by rw [Int.tdiv_eq_ediv_of_nonneg (by omega)]; exact ai
      have bt_ : (x : Int).tmod (P : Int) = (b : Int) := by rw [Int.tmod_eq_emod_of_nonneg (by omega)]; exact bi
      have ct_ : (4294967296 : Int).tdiv (P : Int) = (c : Int) := by rw [Int.tdiv_eq_ediv_of_nonneg (by omega)]; exact ci
      have mi : (b : Int) * (c : Int) = (m : Int) := by rw [← hm, Int.natCast_mul]
      have hPz : ¬ (P : Int) = 0 := by omega
      have hPb : ((P : Int) == 0) = false := beq_eq_false_iff_ne.2 hPz
      have hcb : c ≤ 4294967296 := by rw [← hc]; exact Nat.div_le_self _ _
      have w1 : IntKind.i64.wrap (a : Int) = (a : Int) := IntWalk.i64_in _ (by omega)
      have hbx : b ≤ x := by rw [← hb]; exact Nat.mod_le _ _
      have w2 : IntKind.i64.wrap (b : Int) = (b : Int) := IntWalk.i64_in _ (by omega)
      have w3 : IntKind.i64.wrap (c : Int) = (c : Int) := IntWalk.i64_in _ (by omega)
      have w4 : IntKind.i64.wrap (m : Int) = (m : Int) := IntWalk.i64_in _ (by omega)
      have w5 : IntKind.i64.wrap ((a : Int) + (m : Int)) = (a : Int) + (m : Int) := IntWalk.i64_in _ (by omega)
      clear ha hb hc hm
      go_wp2
      go_quiet (fail)
      go_wp2
      go_ret
      exact ⟨retI (by rw [HRot.out, Int.natCast_add]), nq, rfl⟩
theorem turn_int (x : Nat) (i : Int) (w : World) (hx : x < 4294967296) (h0 : 0 ≤ i) (h1 : i < 32) :
    Calls Tryd.prog 25 #[.int .i64 (x : Int), .int .i64 i] w fun e w' => e = .returned (.int .i64 ((rotr x i.toNat : Nat) : Int)) ∧ ∃ q, w' = w.drewN q := by
  obtain ⟨s, rfl⟩ := Int.eq_ofNat_of_zero_le h0
  rw [Int.toNat_natCast]
  exact turn_any x s w hx (by omega)

set_option maxRecDepth 100000 in
set_option maxHeartbeats 400000 in
theorem half_any (x n y : Nat) (w : World) (hx : x < 4294967296) (hn : n ≤ 31) (hy : x / 2 ^ n = y) :
    Calls Tryd.prog 26 #[.int .i64 (x : Int), .int .i64 (n : Int)] w fun e w' => e = .returned (.int .i64 (y : Int)) ∧ w = w' := by
  have HY := Lib.hid hy
  clear hy
  go_enter Tryd.func26, Tryd.ntmps26
  go_wp2
  go_loop [0, 5] (fun y i => ∃ k q : Nat, k ≤ n ∧ i = .int .i64 k ∧ y = .int .i64 q ∧ q < 4294967296 ∧ Hid (q = x / 2 ^ k)) (fun _ i => n - (intOf i).toNat)
  case atStart => exact ⟨0, x, by omega, rfl, rfl, hx, Lib.hid (by simp)⟩
  case round =>
    obtain ⟨k, q, hk, rfl, rfl, hq, HQ⟩ := hrel
    by_cases hlt : k < n
    · go_wp2
      go_round
      case rel => exact ⟨k + 1, q / 2, by omega, by go_num, by go_num, by omega, Lib.hid (by rw [HQ.out, Nat.pow_succ, Nat.div_div_eq_div_mul])⟩
      case measure => simp [intOf]; omega
    · have hkn : k = n := by omega
      subst hkn
      go_wp2
      go_ret
      exact ⟨retI (by rw [HQ.out, HY.out]), rfl⟩
theorem half3 (x y : Nat) (w : World) (hx : x < 4294967296) (hy : x / 8 = y) :
    Calls Tryd.prog 26 #[.int .i64 (x : Int), .int .i64 3] w fun e w' => e = .returned (.int .i64 (y : Int)) ∧ w = w' := by
  exact half_any x 3 y w hx (by omega) hy
theorem half10 (x y : Nat) (w : World) (hx : x < 4294967296) (hy : x / 1024 = y) :
    Calls Tryd.prog 26 #[.int .i64 (x : Int), .int .i64 10] w fun e w' => e = .returned (.int .i64 (y : Int)) ∧ w = w' := by
  exact half_any x 10 y w hx (by omega) hy

end Go.Proofs.YteciidnjikcimaaDoor.Sha
