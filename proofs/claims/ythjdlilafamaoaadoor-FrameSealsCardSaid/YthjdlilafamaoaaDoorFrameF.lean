/- Contracts of the document's own answer for layer 3 (frame): Sum, Seal. -/
import Derived.Test.YthjdlilafamaoaaDoorFrameE
namespace Go.Proofs.YthjdlilafamaoaaDoor.Frame
open Go.RowKit Go.Lib

theorem i64_xor_nat (a b : Nat) (ha : a < 4294967296) (hb : b < 4294967296) : bits .xor .i64 (a : Int) (b : Int) = ((a ^^^ b : Nat) : Int) := by
  have h := xor_lt ha hb
  show IntKind.i64.wrap ((BitVec.ofInt 64 (a : Int) ^^^ BitVec.ofInt 64 (b : Int)).toNat : Int) = _
  rw [BitVec.toNat_xor, ofInt_u64 a (by omega), ofInt_u64 b (by omega), IntKind.wrap_i64]
  omega
theorem sh1_odd (y : Nat) (h : y % 2 = 1) : sh1 y = (y / 2) ^^^ 2197175160 := by unfold sh1; rw [h, Nat.one_mul]
theorem sh1_even (y : Nat) (h : y % 2 = 0) : sh1 y = y / 2 := by unfold sh1; rw [h, Nat.zero_mul, Nat.xor_zero]

set_option maxRecDepth 100000 in
set_option maxHeartbeats 1000000 in
theorem refSum_any (s : ByteArray) (w : World) (hs : s.size ≤ maxLen) :
    Calls Tryd.prog 14 #[.string s] w fun e w' => e = .returned (.int .i64 ((crc s.data.toList : Nat) : Int)) ∧ w = w' := by
  unfold maxLen at hs
  go_enter Tryd.func14, Tryd.ntmps14
  go_wp2
  go_loop [3, 4, 5] (fun x i b => ∃ k y : Nat, k ≤ s.size ∧ i = .int .i64 k ∧ x = .int .i64 y ∧ y < 4294967296 ∧ Hid (y = reg 4294967295 (s.data.toList.take k))) (fun _ i _ => s.size - (RowKit.intOf i).toNat)
  case atStart => exact ⟨0, 4294967295, by omega, rfl, rfl, by omega, Lib.hid rfl⟩
  case round =>
    obtain ⟨k, y, hk, rfl, rfl, hy, HY⟩ := hrel
    by_cases hlt : k < s.size
    · have hb := s[k].toNat_lt
      have hwb : wrap64 ((s[k].toNat : Nat) : Int) = ((s[k].toNat : Nat) : Int) := IntWalk.wrap64_in _ (by omega)
      have hx := i64_xor_nat y s[k].toNat hy (byte_lt _)
      obtain ⟨z, hz⟩ : ∃ z, y ^^^ s[k].toNat = z := ⟨_, rfl⟩
      have hzl : z < 4294967296 := by rw [← hz]; exact xor_lt hy (byte_lt _)
      have HZ := Lib.hid hz
      rw [hz] at hx
      clear hz
      go_wp2
      clear hx
      go_loop [3, 5] (fun x i => ∃ j u : Nat, j ≤ 8 ∧ i = .int .i64 j ∧ x = .int .i64 u ∧ u < 4294967296 ∧ Hid (u = shk j z)) (fun _ i => 8 - (RowKit.intOf i).toNat)
      case atStart => exact ⟨0, z, by omega, rfl, rfl, hzl, Lib.hid rfl⟩
      case round =>
        obtain ⟨j, u, hj, rfl, rfl, hu, HU⟩ := hrel
        by_cases hj8 : j < 8
        · have HL := Lib.hid (sh1_lt hu)
          rcases Nat.mod_two_eq_zero_or_one u with h2 | h2
          · have HS := Lib.hid (sh1_even u h2)
            have hd : ((u : Int) % 2 == 1) = false := beq_eq_false_iff_ne.2 (by omega)
            clear h2
            go_wp2
            go_round
            case rel => exact ⟨j + 1, sh1 u, by omega, by go_num, by rw [HS.out]; go_num, HL.out, Lib.hid (by rw [HU.out]; rfl)⟩
            case measure => simp [RowKit.intOf]; omega
          · have HS := Lib.hid (sh1_odd u h2)
            have hd : ((u : Int) % 2 == 1) = true := beq_iff_eq.2 (by omega)
            have hxx := i64_xor_nat (u / 2) 2197175160 (by omega) (by omega)
            rw [show ((u / 2 : Nat) : Int) = (u : Int) / 2 by omega, show ((2197175160 : Nat) : Int) = 2197175160 by rfl] at hxx
            clear h2
            go_wp2
            go_round
            case rel => exact ⟨j + 1, sh1 u, by omega, by go_num, by rw [HS.out], HL.out, Lib.hid (by rw [HU.out]; rfl)⟩
            case measure => simp [RowKit.intOf]; omega
        · have HE := Lib.hid (show j = 8 by omega)
          go_wp2
          go_round
          case rel => exact ⟨k + 1, u, by omega, by go_num, rfl, hu, Lib.hid (by rw [HU.out, HE.out, ← HZ.out, HY.out, reg_take s _ k hlt]; rfl)⟩
          case measure => simp [RowKit.intOf]; omega
    · have HE := Lib.hid (show k = s.size by omega)
      go_wp2
      go_ret
      exact ⟨Oct.retI (by rw [HY.out, HE.out, List.take_of_length_le (show s.data.toList.length ≤ s.size from Nat.le_refl _)]; unfold crc; have := reg_lt s.data.toList (r := 4294967295) (by omega); omega), rfl⟩

theorem refFixed_sbl2 (x : Nat) (w : World) (hx : x ≤ 60000) :
    Calls Tryd.prog 13 #[.int .i64 2, .int .i64 (x : Int)] w fun e w' => e = .returned (.string (sbl (Oct.fixedB 2 x))) ∧ Below w.heap.size w w' := Oct.refFixed_any 2 x w (by omega) (by omega)
theorem refFixed_sbl4 (x : Nat) (w : World) (hx : x < 4294967296) :
    Calls Tryd.prog 13 #[.int .i64 4, .int .i64 (x : Int)] w fun e w' => e = .returned (.string (sbl (Oct.fixedB 4 x))) ∧ Below w.heap.size w w' := Oct.refFixed_any 4 x w (by omega) (by omega)

set_option maxRecDepth 100000 in
set_option maxHeartbeats 1000000 in
theorem refSeal_any (s : ByteArray) (w : World) (hs : s.size ≤ 60000) :
    Calls Tryd.prog 6 #[.string s] w fun e w' => e = .returned (.string (frameS s)) ∧ Below w.heap.size w w' := by
  have z2 : (sbl (Oct.fixedB 2 s.size)).size ≤ 2 := by rw [sbl_size, Oct.fixedB_len]; omega
  go_enter Tryd.func6, Tryd.ntmps6
  go_wp2_with (go_at_call 13; refine (refFixed_sbl2 _ _ hs).mono ?_; rintro e w1 ⟨rfl, hb1⟩; refine Hid.out ?_)
  refine Lib.hid ?_
  have HB1 := Lib.hid hb1
  clear hb1
  obtain ⟨T, hT⟩ : ∃ T, sbl (Oct.fixedB 2 s.size) ++ s = T := ⟨_, rfl⟩
  have hTs : T.size ≤ 60002 := by rw [← hT, sbl_app_s, sbl_size, List.length_append, Oct.fixedB_len]; have e1 : s.data.toList.length = s.size := rfl; omega
  obtain ⟨x, hx⟩ : ∃ x, crc T.data.toList = x := ⟨_, rfl⟩
  have hxl : x < 4294967296 := by rw [← hx]; exact crc_lt _
  have z4 : (sbl (Oct.fixedB 4 x)).size ≤ 4 := by rw [sbl_size, Oct.fixedB_len]; omega
  have HX := Lib.hid hx
  clear hx
  go_wp2_with (go_at_call 14; refine (refSum_any T _ (by unfold maxLen; omega)).mono ?_; rintro e w2 ⟨rfl, rfl⟩; refine Hid.out ?_)
  rw [HX.out]
  refine Lib.hid ?_
  go_wp2_with (go_at_call 13; refine (refFixed_sbl4 x _ hxl).mono ?_; rintro e w3 ⟨rfl, hb3⟩; refine Hid.out ?_)
  refine Lib.hid ?_
  have HB3 := Lib.hid (HB1.out.trans (hb3.mono HB1.out.size))
  have HT := Lib.hid hT
  clear hb3 hT
  go_wp2
  go_ret
  refine ⟨?_, HB3.out⟩
  rw [sbl_app_s, ← HX.out, ← HT.out, sbl_app_s, sbl_data]
  rfl
end Go.Proofs.YthjdlilafamaoaaDoor.Frame
