/- Contract of layer 1 (octet): Short. -/
import Derived.Test.YtoggeiaofpdboaaOctB
import Derived.IntWalk
import Derived.Laws.BitsAllLaws
namespace Go.Proofs.Ytoggeiaofpdboaa.Oct
open Go.RowKit Go.Lib

/-- The error that is told of what is read: at the place, or at the end. -/
def rdErr (n : Nat) (p : Int) (c : Nat) : Value := if c = 0 then .nilIface else if c = 3 then faultV n 3 else faultV p c
/-- All that Short answers, of a place that is one. -/
def shortAns (s : ByteArray) (p : Int) : Value :=
  .tuple #[.int .i64 ((rd (s.data.toList.drop p.toNat)).1 : Int), .int .i64 (p + ((rd (s.data.toList.drop p.toNat)).2.1 : Int)), rdErr s.size p (rd (s.data.toList.drop p.toNat)).2.2]

set_option maxRecDepth 100000 in
set_option maxHeartbeats 1000000 in
theorem short_arg (s : ByteArray) (p : Int) (w : World) (hs : s.size ≤ maxLen) (h : p < 0 ∨ s.size < p) :
    Calls Try.prog 18 #[.string s, .int .i64 p] w fun e w' => e = .returned (.tuple #[.int .i64 0, .int .i64 p, faultV p 1]) ∧ w = w' := by
  have hp := placeB_false h
  clear h
  go_enter Try.func18, Try.ntmps18
  go_wp2_with (first | (go_at_call 23; refine (isPlace_any _ _ _ hs).mono ?_; rintro e w' ⟨rfl, rfl⟩) | (go_at_call 24; refine (fault_any _ _ _).mono ?_; rintro e w' ⟨rfl, rfl⟩))
  go_ret3
  exact ⟨rfl, rfl⟩

theorem i64_or_nat (a b : Nat) (ha : a < 9223372036854775808) (hb : b < 9223372036854775808) : bits .or .i64 (a : Int) (b : Int) = ((a ||| b : Nat) : Int) := by
  have hx : a ||| b < 2 ^ 63 := Nat.or_lt_two_pow (by omega) (by omega)
  show IntKind.i64.wrap ((BitVec.ofInt 64 (a : Int) ||| BitVec.ofInt 64 (b : Int)).toNat : Int) = _
  rw [BitVec.toNat_or, ofInt_u64 a (by omega), ofInt_u64 b (by omega), IntKind.wrap_i64]
  omega
theorem pow128 (k : Nat) : 128 ^ k = 2 ^ (7 * k) := by rw [Nat.pow_mul]
theorem pow_le_56 (k : Nat) (h : k ≤ 8) : 2 ^ (7 * k) ≤ 2 ^ 56 := Nat.pow_le_pow_right (by omega) (by omega)
/-- What the loop of Short adds in a round. -/
theorem or_round (a k : Nat) (b : UInt8) (hk : k < 8) (ha : a < 128 ^ k) :
    bits .or .i64 (a : Int) (wrap64 ((b.toNat : Int) % 128 * 2 ^ (7 * k))) = ((a + 128 ^ k * (b.toNat % 128) : Nat) : Int) := by
  have hb := b.toNat_lt
  have hp := pow_le_56 (k + 1) (by omega)
  have hp0 := pow_le_56 k (by omega)
  have he : 2 ^ (7 * (k + 1)) = 2 ^ (7 * k) * 128 := by rw [show 7 * (k + 1) = 7 * k + 7 by omega, Nat.pow_add]
  rw [pow128] at ha ⊢
  generalize hP : 2 ^ (7 * k) = P at *
  have hm : P * (b.toNat % 128) < P * 128 := Nat.mul_lt_mul_of_pos_left (by omega) (by rw [← hP]; exact Nat.pow_pos (by omega))
  have e1 : (b.toNat : Int) % 128 = ((b.toNat % 128 : Nat) : Int) := by omega
  have e2 : ((b.toNat % 128 : Nat) : Int) * (2 : Int) ^ (7 * k) = ((P * (b.toNat % 128) : Nat) : Int) := by
    rw [Nat.mul_comm P, Int.natCast_mul, ← hP, Int.natCast_pow]; rfl
  rw [e1, e2, IntWalk.wrap64_in _ (by omega), i64_or_nat _ _ (by omega) (by omega), Nat.or_comm, ← hP, ← Nat.two_pow_add_eq_or_of_lt (by omega), Nat.add_comm]
theorem or_zero (a : Nat) (ha : a < 128 ^ 8) : bits .or .i64 (a : Int) 0 = (a : Int) := by
  have h8 : (128 : Nat) ^ 8 = 2 ^ 56 := by decide
  have := i64_or_nat a 0 (by omega) (by omega)
  simpa using this
theorem byte_zero (b : UInt8) (h : b.toNat = 0) : b = 0 := by rw [← ofNat_toNat' b, h]; rfl
theorem byte_pos (b : UInt8) (h : ¬ b.toNat = 0) : ¬ b = 0 := by rintro rfl; simp at h
theorem pow_step (a k c : Nat) (ha : a < 128 ^ k) (hc : c < 128) : a + 128 ^ k * c < 128 ^ (k + 1) := by
  rw [Nat.pow_succ]
  have : 128 ^ k * c ≤ 128 ^ k * 127 := Nat.mul_le_mul_left _ (by omega)
  omega
/-- What Short answers, by what is read. -/
theorem ans_of {s : ByteArray} {q : Nat} {l : List UInt8} {x n c : Nat} (hl : s.data.toList.drop q = l) (h : rd l = (x, n, c)) :
    shortAns s (q : Int) = .tuple #[.int .i64 (x : Int), .int .i64 ((q : Int) + (n : Int)), rdErr s.size q c] := by
  unfold shortAns; rw [Int.toNat_natCast, hl, h]

theorem fin_err3 {s : ByteArray} {q : Nat} {l : List UInt8} (hl : s.data.toList.drop q = l) (h : rd l = (0, 0, 3)) :
    Ending.returned (.tuple #[.int .i64 0, .int .i64 (q : Int), faultV s.size 3]) = .returned (shortAns s (q : Int)) := by rw [ans_of hl h]; simp [rdErr]
theorem fin_err4 {s : ByteArray} {q : Nat} {l : List UInt8} (hl : s.data.toList.drop q = l) (h : rd l = (0, 0, 4)) :
    Ending.returned (.tuple #[.int .i64 0, .int .i64 (q : Int), faultV q 4]) = .returned (shortAns s (q : Int)) := by rw [ans_of hl h]; simp [rdErr]
theorem fin_ok {s : ByteArray} {q : Nat} {l : List UInt8} {x n : Nat} {X N : Int} (hl : s.data.toList.drop q = l) (h : rd l = (x, n, 0)) (hX : X = (x : Int)) (hN : N = (q : Int) + (n : Int)) :
    Ending.returned (.tuple #[.int .i64 X, .int .i64 N, .nilIface]) = .returned (shortAns s (q : Int)) := by rw [ans_of hl h, hX, hN]; simp [rdErr]
theorem rd_zero {s : ByteArray} {q k a : Nat} {l : List UInt8} (hk : ¬ 0 < k) (h : q + k < s.size) (hz : s[q + k].toNat = 0) (hb : a < 128 ^ k) (hm : 8 - k = (7 - k) + 1)
    (hr : rd l = comb a k (rdF (8 - k) (decide (0 < k)) (l.drop k))) (hd : l.drop k = s[q + k] :: l.drop (k + 1)) : rd l = (0, k + 1, 0) := by
  have hb0 := byte_zero _ hz
  rw [hr, hm, hd, comb_last _ _ _ _ _ _ (by simp [hk]) (by rw [hb0]; decide), hb0]
  have h0 : k = 0 := by omega
  subst h0
  have ha : a = 0 := by simpa using hb
  subst ha
  rfl
theorem or_start (a k : Nat) (hk : ¬ 0 < k) (hb : a < 128 ^ k) : bits .or .i64 (a : Int) 0 = ((0 : Nat) : Int) := by
  have h0 : k = 0 := by omega
  subst h0
  have ha : a = 0 := by simpa using hb
  subst ha
  exact or_zero 0 (by decide)
theorem or_end (a k : Nat) (b : UInt8) (hk : k < 8) (ha : a < 128 ^ k) (hlo : (b.toNat : Int) < 128) :
    bits .or .i64 (a : Int) (wrap64 ((b.toNat : Int) % 128 * 2 ^ (7 * k))) = ((a + 128 ^ k * b.toNat : Nat) : Int) := by
  rw [or_round a k b hk ha, Nat.mod_eq_of_lt (by omega)]

theorem drop_cons (s : ByteArray) (p k : Nat) (h : p + k < s.size) : (s.data.toList.drop p).drop k = s[p + k] :: (s.data.toList.drop p).drop (k + 1) := by
  rw [List.drop_drop, List.drop_drop, List.drop_eq_getElem_cons (by simpa using h)]; rfl

set_option maxRecDepth 100000 in
set_option maxHeartbeats 2000000 in
theorem short_any (s : ByteArray) (p : Int) (w : World) (hs : s.size ≤ maxLen) (h0 : 0 ≤ p) (h1 : p ≤ s.size) :
    Calls Try.prog 18 #[.string s, .int .i64 p] w fun e w' => e = .returned (shortAns s p) ∧ w = w' := by
  have hp := placeB_true h0 h1
  obtain ⟨q, rfl⟩ := Int.eq_ofNat_of_zero_le h0
  have hs2 := hs
  unfold maxLen at hs2
  obtain ⟨l, hl⟩ : ∃ l, s.data.toList.drop q = l := ⟨_, rfl⟩
  have HL := Lib.hid hl
  clear hl
  go_enter Try.func18, Try.ntmps18
  go_wp2_with (first | (go_at_call 23; refine (isPlace_any _ _ _ hs).mono ?_; rintro e w' ⟨rfl, rfl⟩))
  go_loop [7, 17] (fun x i => ∃ k a : Nat, k ≤ 8 ∧ i = .int .i64 k ∧ x = .int .i64 a ∧ Hid (a < 128 ^ k) ∧ q + k ≤ s.size ∧ Hid (rd l = comb a k (rdF (8 - k) (decide (0 < k)) (l.drop k)))) (fun _ i => 8 - (intOf i).toNat)
  case atStart => exact ⟨0, 0, by omega, rfl, rfl, Lib.hid (by simp), by omega, Lib.hid (rd_start l)⟩
  case round =>
    obtain ⟨k, a, hk, rfl, rfl, HB, hq, HR⟩ := hrel
    by_cases hk8 : k < 8
    · by_cases hend : q + k = s.size
      · have HF := Lib.hid (show rd l = (0, 0, 3) by
          rw [HR.out, show 8 - k = (7 - k) + 1 by omega, ← HL.out, List.drop_drop, List.drop_of_length_le (by simp; omega)]; exact comb_end _ _ _ _)
        have hendb : ((q : Int) + (k : Int) == (s.size : Int)) = true := beq_iff_eq.2 (by omega)
        go_wp2_with (go_at_call 24; refine (fault_any _ _ _).mono ?_; rintro e w' ⟨rfl, rfl⟩)
        go_ret3
        exact ⟨fin_err3 HL.out HF.out, rfl⟩
      · have hlt : q + k < s.size := by omega
        have hendb : ((q : Int) + (k : Int) == (s.size : Int)) = false := beq_eq_false_iff_ne.2 (by omega)
        have HD := Lib.hid (show l.drop k = s[q + k] :: l.drop (k + 1) by rw [← HL.out]; exact drop_cons s q k hlt)
        have HM := Lib.hid (show 8 - k = (7 - k) + 1 by omega)
        have hb255 : s[q + k].toNat < 256 := s[q + k].toNat_lt
        have hwb : wrap64 ((s[q + k].toNat : Nat) : Int) = ((s[q + k].toNat : Nat) : Int) := IntWalk.wrap64_in _ (by omega)
        go_wp2_with (go_at_call 24; refine (fault_any _ _ _).mono ?_; rintro e w' ⟨rfl, rfl⟩)
        · have hz : s[q + k].toNat = 0 := by assumption
          have hk0 : 0 < k := by assumption
          go_ret3
          exact ⟨fin_err4 HL.out (show rd l = (0, 0, 4) by rw [HR.out, HM.out, HD.out, decide_eq_true hk0]; exact comb_null _ _ _ _ _ (byte_zero _ hz)), rfl⟩
        · have hz : s[q + k].toNat = 0 := by assumption
          have hk0 : ¬ 0 < k := by assumption
          go_ret3
          exact ⟨fin_ok HL.out (rd_zero hk0 hlt hz HB.out HM.out HR.out HD.out) (or_start a k hk0 HB.out) (by omega), rfl⟩
        · have hz : ¬ s[q + k].toNat = 0 := by assumption
          have hlo : ((s[q + k].toNat : Nat) : Int) < 128 := by assumption
          go_ret3
          exact ⟨fin_ok HL.out (show rd l = (a + 128 ^ k * s[q + k].toNat, k + 1, 0) by
            rw [HR.out, HM.out, HD.out]; exact comb_last _ _ _ _ _ _ (fun h => byte_pos _ hz h.1) (by omega)) (or_end a k _ hk8 HB.out hlo) (by omega), rfl⟩
        · have hz : ¬ s[q + k].toNat = 0 := by assumption
          have hhi : 128 ≤ ((s[q + k].toNat : Nat) : Int) := by assumption
          go_round
          case rel => exact ⟨k + 1, a + 128 ^ k * (s[q + k].toNat % 128), by omega, by go_num, by rw [or_round a k s[q + k] hk8 HB.out], Lib.hid (pow_step _ _ _ HB.out (by omega)), by omega,
            Lib.hid (by rw [HR.out, HM.out, HD.out, comb_step _ _ _ _ _ _ (fun h => byte_pos _ hz h.1) (by omega), show 8 - (k + 1) = 7 - k by omega]; simp)⟩
          case measure => simp [intOf]; omega
    · have HF := Lib.hid (show rd l = (0, 0, 4) by
        rw [HR.out, show 8 - k = 0 by omega]; exact comb_out _ _ _ _)
      go_wp2_with (go_at_call 24; refine (fault_any _ _ _).mono ?_; rintro e w' ⟨rfl, rfl⟩)
      go_ret3
      exact ⟨fin_err4 HL.out HF.out, rfl⟩

end Go.Proofs.Ytoggeiaofpdboaa.Oct
