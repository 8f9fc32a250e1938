/- Contracts of layer 3 (frame): Next. -/
import Derived.Test.YthjdlilafamaoaaFrameB
import Derived.WideShapes
namespace Go.Proofs.Ythjdlilafamaoaa.Frame
open Go.RowKit Go.Lib

set_option maxHeartbeats 400000 in
theorem fault_any (p c : Int) (w : World) :
    Calls Try.prog 14 #[.int .i64 p, .int .i64 c] w fun e w' => e = .returned (Oct.faultV p c) ∧ w = w' := by
  go_enter Try.func14, Try.ntmps14
  go_wp2
  go_ret
  exact ⟨rfl, rfl⟩

/-- How long the text of a frame is, as bytes tell. -/
def nxN (l : List UInt8) : Nat := Oct.vB ((l.drop 4).take 2)
/-- The sum that bytes tell. -/
def nxX (l : List UInt8) : Nat := Oct.vB (l.take 4)
/-- The sum of what stands behind. -/
def nxS (l : List UInt8) : Nat := crc ((l.drop 4).take (2 + nxN l))

theorem fixed_get4 (s : ByteArray) (q x : Nat) (w : World) (hs : s.size ≤ maxLen) (hq : q + 4 ≤ s.size) (hx : x = nxX (s.data.toList.drop q)) :
    Calls Try.prog 16 #[.string s, .int .i64 (q : Int), .int .i64 4] w fun e w' => e = .returned (.tuple #[.int .i64 (x : Int), .int .i64 ((q : Int) + 4), .nilIface]) ∧ w = w' := by
  subst hx; exact (Oct.fixed_ok s q 4 w hs (by omega) (by omega) hq)
theorem fixed_get2 (s : ByteArray) (q n : Nat) (w : World) (hs : s.size ≤ maxLen) (hq : q + 6 ≤ s.size) (hn : n = nxN (s.data.toList.drop q)) :
    Calls Try.prog 16 #[.string s, .int .i64 ((q : Int) + 4), .int .i64 2] w fun e w' => e = .returned (.tuple #[.int .i64 (n : Int), .int .i64 ((q : Int) + 6), .nilIface]) ∧ w = w' := by
  subst hn
  unfold nxN
  rw [List.drop_drop]
  have h := Oct.fixed_ok s (q + 4) 2 w hs (by omega) (by omega) hq
  rw [show (((q + 4 : Nat) : Int)) = (q : Int) + 4 by omega, show ((q : Int) + 4 + ((2 : Nat) : Int)) = (q : Int) + 6 by omega] at h
  exact h

set_option maxRecDepth 100000 in
set_option maxHeartbeats 1000000 in
theorem next_few (s : ByteArray) (q : Nat) (w : World) (hs : s.size ≤ maxLen) (hq : q ≤ s.size) (h : s.size < q + 6) :
    Calls Try.prog 11 #[.string s, .int .i64 (q : Int)] w fun e w' => e = .returned (.tuple #[.string ⟨#[]⟩, .int .i64 (q : Int), Oct.faultV q 3]) ∧ w = w' := by
  unfold maxLen at hs
  go_enter Try.func11, Try.ntmps11
  go_wp2_with (go_at_call 14; refine (fault_any _ _ _).mono ?_; rintro e w1 ⟨rfl, rfl⟩)
  go_ret3
  exact ⟨rfl, rfl⟩

set_option maxRecDepth 100000 in
set_option maxHeartbeats 1000000 in
theorem next_long (s : ByteArray) (q n x : Nat) (w : World) (hs : s.size ≤ maxLen) (hq : q + 6 ≤ s.size) (hx : x = nxX (s.data.toList.drop q)) (hn : n = nxN (s.data.toList.drop q)) (h : 60000 < n) (hn2 : n ≤ 65535) :
    Calls Try.prog 11 #[.string s, .int .i64 (q : Int)] w fun e w' => e = .returned (.tuple #[.string ⟨#[]⟩, .int .i64 (q : Int), Oct.faultV q 6]) ∧ w = w' := by
  have HM := Lib.hid hs
  unfold maxLen at hs
  have HX := Lib.hid hx
  have HN := Lib.hid hn
  clear hx hn
  go_enter Try.func11, Try.ntmps11
  go_wp2_with (first | (go_at_call 14; refine (fault_any _ _ _).mono ?_; rintro e w1 ⟨rfl, rfl⟩) | (go_at_call 16; (with_reducible refine (fixed_get4 s q x _ HM.out (by omega) HX.out).mono ?_); rintro e w1 ⟨rfl, rfl⟩) | (go_at_call 16; (with_reducible refine (fixed_get2 s q n _ HM.out (by omega) HN.out).mono ?_); rintro e w1 ⟨rfl, rfl⟩))
  go_ret3
  exact ⟨rfl, rfl⟩

set_option maxRecDepth 100000 in
set_option maxHeartbeats 1000000 in
theorem next_cut (s : ByteArray) (q n x : Nat) (w : World) (hs : s.size ≤ maxLen) (hq : q + 6 ≤ s.size) (hx : x = nxX (s.data.toList.drop q)) (hn : n = nxN (s.data.toList.drop q)) (h : n ≤ 60000) (hc : s.size < q + 6 + n) :
    Calls Try.prog 11 #[.string s, .int .i64 (q : Int)] w fun e w' => e = .returned (.tuple #[.string ⟨#[]⟩, .int .i64 (q : Int), Oct.faultV q 3]) ∧ w = w' := by
  have HM := Lib.hid hs
  unfold maxLen at hs
  have HX := Lib.hid hx
  have HN := Lib.hid hn
  clear hx hn
  go_enter Try.func11, Try.ntmps11
  go_wp2_with (first | (go_at_call 14; refine (fault_any _ _ _).mono ?_; rintro e w1 ⟨rfl, rfl⟩) | (go_at_call 16; (with_reducible refine (fixed_get4 s q x _ HM.out (by omega) HX.out).mono ?_); rintro e w1 ⟨rfl, rfl⟩) | (go_at_call 16; (with_reducible refine (fixed_get2 s q n _ HM.out (by omega) HN.out).mono ?_); rintro e w1 ⟨rfl, rfl⟩))
  go_ret3
  exact ⟨rfl, rfl⟩

theorem sum_told (s : ByteArray) (y : Nat) (w : World) (c : Nat) (hs : s.size ≤ maxLen) (hy : y = crc s.data.toList) :
    Calls Try.prog 8 #[.slice (some ⟨w.heap.size, 0, none⟩) 1 c] (w.alloc (.cells #[.string s] 9)) fun e w' => e = .returned (.int .i64 (y : Int)) ∧ Below w.heap.size w w' := by
  subst hy; exact sum_one s w c hs

set_option maxRecDepth 100000 in
set_option maxHeartbeats 1000000 in
theorem next_ok (s : ByteArray) (q n x : Nat) (w : World) (hs : s.size ≤ 281474976710656) (hq : q + 6 + n ≤ s.size) (hx : x = nxX (s.data.toList.drop q)) (hn : n = nxN (s.data.toList.drop q)) (h : n ≤ 60000) (hS : x = crc (s.extract (q + 4) (q + 6 + n)).data.toList) :
    Calls Try.prog 11 #[.string s, .int .i64 (q : Int)] w fun e w' => e = .returned (.tuple #[.string (s.extract (q + 6) (q + 6 + n)), .int .i64 ((q : Int) + 6 + (n : Int)), .nilIface]) ∧ Below w.heap.size w w' := by
  have HM := Lib.hid (show s.size ≤ maxLen by unfold maxLen; omega)
  have HX := Lib.hid hx
  have HN := Lib.hid hn
  have HS := Lib.hid hS
  clear hx hn hS
  have hz : (s.extract (q + 4) (q + 6 + n)).size ≤ maxLen := by unfold maxLen; simp [ByteArray.size_extract]; omega
  have HZ := Lib.hid hz
  have hz2 : (s.extract (q + 6) (q + 6 + n)).size ≤ 281474976710656 := by simp [ByteArray.size_extract]; omega
  have HZ2 := Lib.hid hz2
  clear hz hz2
  go_enter Try.func11, Try.ntmps11
  go_wp2_with (first | (go_at_call 16; (with_reducible refine (fixed_get4 s q x _ HM.out (by omega) HX.out).mono ?_); rintro e w1 ⟨rfl, rfl⟩) | (go_at_call 16; (with_reducible refine (fixed_get2 s q n _ HM.out (by omega) HN.out).mono ?_); rintro e w1 ⟨rfl, rfl⟩) | (go_at_call 8; refine (sum_told (s.extract (q + 4) (q + 6 + n)) x w _ HZ.out HS.out).mono ?_; rintro e w1 ⟨rfl, hb1⟩; refine Hid.out ?_))
  refine Lib.hid ?_
  have HB := Lib.hid hb1
  clear hb1
  go_wp2_with (go_at_call 17; refine (Oct.clone_any _ _ HZ2.out).mono ?_; rintro e w2 ⟨rfl, hb2⟩)
  go_ret3
  exact ⟨rfl, HB.out.trans (by (have := HB.out.size); rename_i hb2; exact hb2.mono this)⟩

set_option maxRecDepth 100000 in
set_option maxHeartbeats 1000000 in
theorem next_sum (s : ByteArray) (q n x y : Nat) (w : World) (hs : s.size ≤ 281474976710656) (hq : q + 6 + n ≤ s.size) (hx : x = nxX (s.data.toList.drop q)) (hn : n = nxN (s.data.toList.drop q)) (h : n ≤ 60000) (hS : y = crc (s.extract (q + 4) (q + 6 + n)).data.toList) (hne : y ≠ x) :
    Calls Try.prog 11 #[.string s, .int .i64 (q : Int)] w fun e w' => e = .returned (.tuple #[.string ⟨#[]⟩, .int .i64 (q : Int), Oct.faultV q 5]) ∧ Below w.heap.size w w' := by
  have HM := Lib.hid (show s.size ≤ maxLen by unfold maxLen; omega)
  have HX := Lib.hid hx
  have HN := Lib.hid hn
  have HS := Lib.hid hS
  clear hx hn hS
  have hz : (s.extract (q + 4) (q + 6 + n)).size ≤ maxLen := by unfold maxLen; simp [ByteArray.size_extract]; omega
  have HZ := Lib.hid hz
  have hz2 : (s.extract (q + 6) (q + 6 + n)).size ≤ 281474976710656 := by simp [ByteArray.size_extract]; omega
  have HZ2 := Lib.hid hz2
  clear hz hz2
  have hd : ((y : Int) == (x : Int)) = false := beq_eq_false_iff_ne.2 (by omega)
  have hd2 : ((y : Int) != (x : Int)) = true := by simp [bne, hd]
  clear hne
  go_enter Try.func11, Try.ntmps11
  go_wp2_with (first | (go_at_call 16; (with_reducible refine (fixed_get4 s q x _ HM.out (by omega) HX.out).mono ?_); rintro e w1 ⟨rfl, rfl⟩) | (go_at_call 16; (with_reducible refine (fixed_get2 s q n _ HM.out (by omega) HN.out).mono ?_); rintro e w1 ⟨rfl, rfl⟩) | (go_at_call 8; refine (sum_told (s.extract (q + 4) (q + 6 + n)) y w _ HZ.out HS.out).mono ?_; rintro e w1 ⟨rfl, hb1⟩; refine Hid.out ?_))
  refine Lib.hid ?_
  have HB := Lib.hid hb1
  clear hb1
  go_wp2_with (go_at_call 14; refine (fault_any _ _ _).mono ?_; rintro e w2 ⟨rfl, rfl⟩)
  go_ret3
  exact ⟨rfl, HB.out⟩
end Go.Proofs.Ythjdlilafamaoaa.Frame
