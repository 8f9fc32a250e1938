/- Contracts of layer 3 (frame): the register, the sum. -/
import Derived.Test.YthjdlilafamaoaaOctH
import Derived.Test.YthjdlilafamaoaaFrameMath
import Derived.IntWalk
import Derived.Laws.BitsAllLaws
import Derived.StillTailTactics
import Derived.Deep.RegionHeld3
namespace Go.Proofs.Ythjdlilafamaoaa.Frame
open Go.RowKit Go.Lib

theorem low_bit (r : Nat) (h : r < 4294967296) : bits .and .u32 (r : Int) 1 = ((r % 2 : Nat) : Int) := by
  have := u32_and_nat r 1 h (by omega)
  rw [show ((1 : Nat) : Int) = 1 by rfl] at this
  rw [this, show (1 : Nat) = 2 ^ 1 - 1 by rfl, Nat.and_two_pow_sub_one_eq_mod]
theorem sh1_bits (r : Nat) (h : r < 4294967296) : bits .xor .u32 ((r : Int) / 2) (((r % 2 : Nat) : Int) * 2197175160) = ((sh1 r : Nat) : Int) := by
  have e1 : (r : Int) / 2 = ((r / 2 : Nat) : Int) := by omega
  have e2 : ((r % 2 : Nat) : Int) * 2197175160 = ((r % 2 * 2197175160 : Nat) : Int) := by omega
  rw [e1, e2, u32_xor_nat _ _ (by omega) (by omega)]; rfl

set_option maxRecDepth 100000 in
set_option maxHeartbeats 1000000 in
theorem shifted_any (r : Nat) (w : World) (hr : r < 4294967296) :
    Calls Try.prog 13 #[.int .u32 (r : Int)] w fun e w' => e = .returned (.int .u32 (sh8 r : Nat)) ∧ w = w' := by
  go_enter Try.func13, Try.ntmps13
  go_wp2
  go_loop [0, 4] (fun x i => ∃ k y : Nat, k ≤ 8 ∧ i = .int .i64 k ∧ x = .int .u32 y ∧ y < 4294967296 ∧ Hid (y = shk k r)) (fun _ i => 8 - (RowKit.intOf i).toNat)
  case atStart => exact ⟨0, r, by omega, rfl, rfl, hr, Lib.hid rfl⟩
  case round =>
    obtain ⟨k, y, hk, rfl, rfl, hy, HY⟩ := hrel
    by_cases hlt : k < 8
    · have hlow := low_bit y hy
      have HS := Lib.hid (sh1_bits y hy)
      have HL := Lib.hid (sh1_lt hy)
      obtain ⟨o, ho⟩ : ∃ o, y % 2 = o := ⟨_, rfl⟩
      have ho1 : o ≤ 1 := by omega
      rw [ho] at hlow HS
      clear ho
      go_wp2
      go_round
      case rel => exact ⟨k + 1, sh1 y, by omega, by go_num, by rw [← HS.out], HL.out, Lib.hid (by rw [HY.out]; rfl)⟩
      case measure => simp [RowKit.intOf]; omega
    · have HE := Lib.hid (show k = 8 by omega)
      go_wp2
      go_ret
      exact ⟨Oct.retI (by rw [HY.out, HE.out]; rfl), rfl⟩


theorem shifted_still (r : Nat) (x : Int) (w : World) (hx : x = (r : Int)) (hr : r < 4294967296) :
    Calls Try.prog 13 #[.int .u32 x] w fun e w' => e = .returned (.int .u32 (sh8 r : Nat)) ∧ w' = w := by
  subst hx; exact (shifted_any r w hr).mono fun _ _ ⟨h1, h2⟩ => ⟨h1, h2.symm⟩
theorem reg_take (s : ByteArray) (r k : Nat) (h : k < s.size) : reg r (s.data.toList.take (k + 1)) = sh8 (reg r (s.data.toList.take k) ^^^ s[k].toNat) := by
  rw [List.take_succ_eq_append_getElem (by simpa using h), reg_append]; rfl

set_option maxRecDepth 100000 in
set_option maxHeartbeats 1000000 in
theorem take_any (s : ByteArray) (g r : Nat) (w : World) (hs : s.size ≤ maxLen) (hr : r < 4294967296) (hv : w.heap[g]? = some (.cells #[.int .u32 (r : Int)] 41 (0, 0))) :
    Calls Try.prog 12 #[.string s, .pointer (some ⟨g, 0, none⟩)] w fun e w' => e = .returned (.tuple #[]) ∧ w'.heap[g]? = some (.cells #[.int .u32 ((reg r s.data.toList : Nat) : Int)] 41 (0, 0)) ∧ Below g w w' := by
  unfold maxLen at hs
  have HV := Lib.hid hv
  clear hv
  go_enter Try.func12, Try.ntmps12
  go_wp2
  go_loopw [6] (fun i wr => ∃ k y : Nat, k ≤ s.size ∧ i = .int .i64 k ∧ Hid (y = reg r (s.data.toList.take k)) ∧ Hid (wr.heap[g]? = some (.cells #[.int .u32 (y : Int)] 41 (0, 0))) ∧ Hid (Below g w wr)) (fun i _ => s.size - (RowKit.intOf i).toNat)
  case atStart => exact ⟨0, r, by omega, rfl, Lib.hid rfl, HV, Lib.hid (Below.refl _ _)⟩
  case round =>
    obtain ⟨k, y, hk, rfl, HY, HR, HB⟩ := hrel
    by_cases hlt : k < s.size
    · have hc := cell_of_one HR.out
      have hf := free_of_one HR.out
      have hy : y < 4294967296 := by rw [HY.out]; exact reg_lt _ hr
      have hb := s[k].toNat_lt
      have hx := u32_xor_nat y s[k].toNat hy (byte_lt _)
      have HX := Lib.hid (xor_lt hy (byte_lt s[k]))
      have hwr : IntKind.u32.wrap ((s[k].toNat : Nat) : Int) = ((s[k].toNat : Nat) : Int) := IntWalk.u32_in _ (by omega)
      go_wp2
      refine wp_region_still_tail 7 (by kernel_rfl) (by kernel_rfl) ?_
      simp only [List.take_succ_cons, List.take_zero, List.drop_succ_cons, List.drop_zero]
      repeat still_step
      still_call (shifted_still (y ^^^ s[k].toNat) _ _ rfl HX.out)
      refine wpStill_nil ?_
      change wpList _ _ _ _ _ wr.drew
      go_wp2
      go_roundw
      case rel => exact ⟨k + 1, sh8 (y ^^^ s[k].toNat), by omega, by go_num, Lib.hid (by rw [HY.out, reg_take s r k hlt]), Lib.hid (one_setCell (w := wr.drew) HR.out), Lib.hid ((HB.out.drew).setCell (Nat.le_refl _) _)⟩
      case measure => simp [RowKit.intOf]; omega
    · have HE := Lib.hid (show k = s.size by omega)
      go_wp2
      go_end0
      exact ⟨rfl, by have := HR.out; rw [HY.out, HE.out, List.take_of_length_le (show s.data.toList.length ≤ s.size from Nat.le_refl _)] at this; exact this, HB.out⟩


/-- Texts, one behind the other: the first k. -/
def cat (ss : Nat → ByteArray) : Nat → List UInt8
  | 0 => []
  | k + 1 => cat ss k ++ (ss k).data.toList
theorem not_bits (x : Nat) (hx : x < 4294967296) : bits .xor .u32 (if IntKind.u32.signed = true then -1 else IntKind.u32.max) (x : Int) = ((4294967295 - x : Nat) : Int) := by
  rw [show (if IntKind.u32.signed = true then (-1 : Int) else IntKind.u32.max) = ((4294967295 : Nat) : Int) by rfl, u32_xor_nat _ _ (by omega) hx, not_xor x hx]

set_option maxRecDepth 100000 in
set_option maxHeartbeats 1000000 in
theorem sum_any (A : Option Addr) (n c : Nat) (ss : Nat → ByteArray) (w : World) (hn : (n : Int) ≤ 9223372036854775807) (hA : Oct.SArg w A n (fun k => .string (ss k))) (hss : ∀ k, k < n → (ss k).size ≤ maxLen) :
    Calls Try.prog 8 #[.slice A n c] w fun e w' => e = .returned (.int .i64 ((crc (cat ss n) : Nat) : Int)) ∧ Below w.heap.size w w' := by
  have hmf : ∀ (fn : Fn) (first cap : Array Value) (w : World), (Instr.makeFunc fn first cap).run Try.prog w = .ok (.func fn first cap) w := fun _ _ _ _ => rfl
  have HA := Lib.hid hA
  have HS := Lib.hid hss
  clear hA hss
  go_enter Try.func8, Try.ntmps8
  go_wp2
  go_loopw [10] (fun i wr => ∃ k y : Nat, k ≤ n ∧ i = .int .i64 k ∧ Hid (y = reg 4294967295 (cat ss k)) ∧ Hid (wr.heap[w.heap.size]? = some (.cells #[.int .u32 (y : Int)] 41 (0, 0))) ∧ Hid (Below w.heap.size w wr)) (fun i _ => n - (RowKit.intOf i).toNat)
  case atStart => exact ⟨0, 4294967295, by omega, rfl, Lib.hid rfl, Lib.hid (heap_alloc_new _ _), Lib.hid ((Below.refl _ _).alloc (Nat.le_refl _) _)⟩
  case round =>
    obtain ⟨k, y, hk, rfl, HY, HR, HB⟩ := hrel
    have HYL := Lib.hid (show y < 4294967296 by rw [HY.out]; exact reg_lt _ (by omega))
    by_cases hlt : k < n
    · obtain ⟨b, o, rfl, hbl, hc0⟩ := HA.out k hlt
      have hc : wr.cell? ⟨b, o + k, none⟩ = some (.string (ss k)) := (HB.out.cell (p := ⟨b, o + k, none⟩) hbl).trans hc0
      clear hc0
      go_wp2_with (go_at_call 12; refine (take_any _ w.heap.size y _ (HS.out k hlt) HYL.out HR.out).mono ?_; rintro e w1 ⟨rfl, hv1, hb1⟩; refine Hid.out ?_)
      refine Lib.hid ?_
      have HR1 := Lib.hid hv1
      have HB1 := Lib.hid (HB.out.trans hb1)
      clear hv1 hb1
      go_wp2
      go_roundw
      case rel => exact ⟨k + 1, reg y (ss k).data.toList, by omega, by go_num, Lib.hid (by rw [HY.out, cat, reg_append]), HR1, HB1⟩
      case measure => simp [RowKit.intOf]; omega
    · have HE := Lib.hid (show k = n by omega)
      have hc := cell_of_one HR.out
      have hy := HYL.out
      have hnb := not_bits y hy
      go_wp2
      go_ret
      exact ⟨Oct.retI (by rw [HY.out, HE.out]; rfl), HB.out⟩

end Go.Proofs.Ythjdlilafamaoaa.Frame
