/- Contracts of layer 1 (octet): PutFixed, Fixed. -/
import Derived.Test.YthjdlilafamaoaaOctF
namespace Go.Proofs.Ythjdlilafamaoaa.Oct
open Go.RowKit Go.Lib

set_option maxRecDepth 100000 in
set_option maxHeartbeats 1000000 in
theorem putFixed_arg (n x : Int) (w : World) (h : n < 1 ∨ 7 < n) :
    Calls Try.prog 10 #[.int .i64 n, .int .i64 x] w fun e w' => e = .returned (.tuple #[.string ⟨#[]⟩, errnoV 1]) ∧ w = w' := by
  have hf := fixB_false h
  clear h
  go_enter Try.func10, Try.ntmps10
  go_wp2_with (go_at_call 15; refine (isFixed_any _ _).mono ?_; rintro e w1 ⟨rfl, rfl⟩)
  go_ret2
  exact ⟨rfl, rfl⟩

theorem wrap_pow (n : Nat) (h : n ≤ 7) : wrap64 (2 ^ (8 * n)) = (pw n : Int) := by
  have e : (2 : Int) ^ (8 * n) = ((2 ^ (8 * n) : Nat) : Int) := by rw [Int.natCast_pow]; rfl
  have := pow256_le n h
  rw [e, ← pow256]
  show wrap64 (pw n : Int) = _
  unfold pw
  generalize 256 ^ n = P at *
  exact IntWalk.wrap64_in _ (by omega)
theorem byte_shr (x k : Nat) : (x : Int) / 2 ^ (8 * k) % 256 = ((fb x k).toNat : Int) := by
  rw [fb_toNat, pow256]
  have e : (2 : Int) ^ (8 * k) = ((2 ^ (8 * k) : Nat) : Int) := by rw [Int.natCast_pow]; rfl
  rw [e]
  generalize 2 ^ (8 * k) = P
  omega
theorem add_zero0 (g j : Nat) : (⟨g, 0, none⟩ : Addr).add j = ⟨g, j, none⟩ := by
  by_cases h : j = 0
  · subst h; simp [Addr.add]
  · simp [Addr.add, h]
theorem fixedB_get (n x j : Nat) (h : j < (fixedB n x).length) : (fixedB n x)[j] = fb x j := by simp [fixedB]
theorem row_next {wr : World} {g t n x k : Nat} (hk : k < n) (h : wr.rowIs g t n (fun j => if j < k then .int .u8 ((fb x j).toNat : Int) else .int .u8 0)) :
    (wr.setCell ⟨g, k, none⟩ (.int .u8 ((x : Int) / 2 ^ (8 * k) % 256))).rowIs g t n (fun j => if j < k + 1 then .int .u8 ((fb x j).toNat : Int) else .int .u8 0) := by
  refine (h.set k _).congr fun i _ => ?_
  by_cases hi : i = k
  · subst hi; rw [if_pos rfl, if_pos (by omega), byte_shr]
  · rw [if_neg hi]
    by_cases hlt : i < k
    · rw [if_pos hlt, if_pos (by omega)]
    · rw [if_neg hlt, if_neg (by omega)]

set_option maxRecDepth 100000 in
set_option maxHeartbeats 1000000 in
theorem putFixed_range (n : Nat) (x : Int) (w : World) (h0 : 1 ≤ n) (h1 : n ≤ 7) (hx : x < 0 ∨ (pw n : Int) ≤ x) :
    Calls Try.prog 10 #[.int .i64 (n : Int), .int .i64 x] w fun e w' => e = .returned (.tuple #[.string ⟨#[]⟩, errnoV 2]) ∧ w = w' := by
  have hf := fixB_true (n := n) (by omega) (by omega)
  have hw := wrap_pow n h1
  by_cases hn : x < 0
  · clear hx
    go_enter Try.func10, Try.ntmps10
    go_wp2_with (go_at_call 15; refine (isFixed_any _ _).mono ?_; rintro e w1 ⟨rfl, rfl⟩)
    go_ret2
    exact ⟨rfl, rfl⟩
  · have hge : (pw n : Int) ≤ x := by omega
    clear hx
    go_enter Try.func10, Try.ntmps10
    go_wp2_with (go_at_call 15; refine (isFixed_any _ _).mono ?_; rintro e w1 ⟨rfl, rfl⟩)
    go_ret2
    exact ⟨rfl, rfl⟩

set_option maxRecDepth 100000 in
set_option maxHeartbeats 1000000 in
theorem putFixed_ok (n x : Nat) (w : World) (h0 : 1 ≤ n) (h1 : n ≤ 7) (hx : x < pw n) :
    Calls Try.prog 10 #[.int .i64 (n : Int), .int .i64 (x : Int)] w fun e w' => e = .returned (.tuple #[.string ⟨(fixedB n x).toArray⟩, .nilIface]) ∧ Below w.heap.size w w' := by
  have hf := fixB_true (n := n) (by omega) (by omega)
  have hw := wrap_pow n h1
  have hlt : (x : Int) < (pw n : Int) := by omega
  have HX := Lib.hid hx
  clear hx
  have hmk := run_make_row' (P := Try.prog) 34 5 (.int .u8 0) 1 Try.underlying34 infoByte rfl .i64 .i64 n (by omega) (by omega)
  go_enter Try.func10, Try.ntmps10
  go_wp2_with (go_at_call 15; refine (isFixed_any _ _).mono ?_; rintro e w1 ⟨rfl, rfl⟩)
  clear hmk
  go_loopw [25] (fun i wr => ∃ k : Nat, k ≤ n ∧ i = .int .i64 k ∧ Hid (wr.rowIs w.heap.size 5 n (fun j => if j < k then .int .u8 ((fb x j).toNat : Int) else .int .u8 0)) ∧ Below w.heap.size w wr) (fun i _ => n - (intOf i).toNat)
  case atStart => exact ⟨0, by omega, rfl, Lib.hid ((World.rowIs_made _ _ _ _).congr (fun i _ => by simp)), (Below.refl _ _).alloc (Nat.le_refl _) _⟩
  case round =>
    obtain ⟨k, hk, rfl, HR, hb⟩ := hrel
    by_cases hlt2 : k < n
    · have hc := HR.out.cell hlt2
      have hfz := HR.out.frozen k
      go_wp2
      go_roundw
      case rel => exact ⟨k + 1, by omega, by go_num, Lib.hid (row_next hlt2 HR.out), hb.setCell (Nat.le_refl _) _⟩
      case measure => simp [intOf]; omega
    · have HE := Lib.hid (show k = n by omega)
      have hcv := run_convert_bytes_back (P := Try.prog) wr 34 9 5 ⟨w.heap.size, 0, none⟩ n (fixedB n x) Try.underlying34 Try.underlying5 Try.underlying9 (fun j hj => by
        rw [fixedB_get]
        have hj' : j < n := by rw [fixedB_len] at hj; exact hj
        have := HR.out.cell hj'
        rw [if_pos (by rw [HE.out]; exact hj')] at this
        rw [add_zero0]; exact this)
      rw [fixedB_len] at hcv
      go_wp2
      go_ret2
      exact ⟨rfl, hb⟩

theorem or_fixed (a k : Nat) (b : UInt8) (hk : k < 7) (ha : a < 256 ^ k) :
    bits .or .i64 (a : Int) (wrap64 ((b.toNat : Int) * 2 ^ (8 * k))) = ((a + 256 ^ k * b.toNat : Nat) : Int) := by
  have hb := b.toNat_lt
  have hp := pow256_le (k + 1) (by omega)
  rw [Nat.pow_succ] at hp
  rw [pow256] at ha hp ⊢
  generalize hP : 2 ^ (8 * k) = P at *
  have hP0 : 0 < P := by rw [← hP]; exact Nat.pow_pos (by omega)
  have hm : P * b.toNat < P * 256 := Nat.mul_lt_mul_of_pos_left (by omega) hP0
  have e2 : (b.toNat : Int) * (2 : Int) ^ (8 * k) = ((P * b.toNat : Nat) : Int) := by
    rw [Nat.mul_comm P, Int.natCast_mul, ← hP, Int.natCast_pow]; rfl
  rw [e2, IntWalk.wrap64_in _ (by omega), i64_or_nat _ _ (by omega) (by omega), Nat.or_comm, ← hP, ← Nat.two_pow_add_eq_or_of_lt (by omega), Nat.add_comm]
theorem fixed_next {s : ByteArray} {q k n : Nat} {l : List UInt8} (hl : s.data.toList.drop q = l) (hk : k < n) (hn : n ≤ 7) (h : q + k < s.size) :
    bits .or .i64 (vB (l.take k) : Int) (wrap64 ((s[q + k].toNat : Int) * 2 ^ (8 * k))) = (vB (l.take (k + 1)) : Int) := by
  have hl2 : k < l.length := by rw [← hl]; simp; omega
  have e : l[k] = s[q + k] := by subst hl; simp; rfl
  rw [or_fixed _ k _ (by omega) (vB_take_lt l k), vB_take_succ l k hl2, e]

set_option maxRecDepth 100000 in
set_option maxHeartbeats 1000000 in
theorem fixed_ok (s : ByteArray) (q n : Nat) (w : World) (hs : s.size ≤ maxLen) (h0 : 1 ≤ n) (h1 : n ≤ 7) (hq : q + n ≤ s.size) :
    Calls Try.prog 16 #[.string s, .int .i64 (q : Int), .int .i64 (n : Int)] w fun e w' => e = .returned (.tuple #[.int .i64 (vB ((s.data.toList.drop q).take n) : Int), .int .i64 ((q : Int) + (n : Int)), .nilIface]) ∧ w = w' := by
  have hf := fixB_true (n := n) (by omega) (by omega)
  have hp := placeB_true (n := s.size) (a := (q : Int)) (by omega) (by omega)
  have hs2 := hs
  unfold maxLen at hs2
  obtain ⟨l, hl⟩ : ∃ l, s.data.toList.drop q = l := ⟨_, rfl⟩
  have HL := Lib.hid hl
  clear hl
  go_enter Try.func16, Try.ntmps16
  go_wp2_with (first | (go_at_call 15; refine (isFixed_any _ _).mono ?_; rintro e w1 ⟨rfl, rfl⟩) | (go_at_call 18; refine (isPlace_any _ _ _ hs).mono ?_; rintro e w1 ⟨rfl, rfl⟩))
  go_loop [9, 34] (fun x i => ∃ k a : Nat, k ≤ n ∧ i = .int .i64 k ∧ x = .int .i64 a ∧ Hid (a = vB (l.take k))) (fun _ i => n - (intOf i).toNat)
  case atStart => exact ⟨0, 0, by omega, rfl, rfl, Lib.hid rfl⟩
  case round =>
    obtain ⟨k, a, hk, rfl, rfl, HV⟩ := hrel
    by_cases hlt : k < n
    · have hlt2 : q + k < s.size := by omega
      have hb255 : s[q + k].toNat < 256 := s[q + k].toNat_lt
      have hwb : wrap64 ((s[q + k].toNat : Nat) : Int) = ((s[q + k].toNat : Nat) : Int) := IntWalk.wrap64_in _ (by omega)
      have HN := Lib.hid (fixed_next HL.out hlt h1 hlt2)
      go_wp2
      go_round
      case rel => exact ⟨k + 1, vB (l.take (k + 1)), by omega, by go_num, by rw [← HN.out, HV.out], Lib.hid rfl⟩
      case measure => simp [intOf]; omega
    · have HE := Lib.hid (show k = n by omega)
      go_wp2
      go_ret3
      exact ⟨by rw [HL.out, HV.out, HE.out]; rfl, rfl⟩

end Go.Proofs.Ythjdlilafamaoaa.Oct
