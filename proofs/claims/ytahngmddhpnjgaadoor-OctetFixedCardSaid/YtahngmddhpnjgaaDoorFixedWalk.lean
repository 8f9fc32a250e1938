/- The walk of the law OctetFixed. -/
import Derived.Test.YtahngmddhpnjgaaDoorOctG
import Derived.Test.YtahngmddhpnjgaaDoorShortWalk
namespace Go.Proofs.YtahngmddhpnjgaaDoor.Oct
open Go.RowKit Go.Lib

/-- A number's n bytes, as a text. -/
def fx (n x : Nat) : ByteArray := ⟨(fixedB n x).toArray⟩
theorem fx_size (n x : Nat) : (fx n x).size = n := by simp [fx, ByteArray.size, fixedB_len]
theorem putFixed_fx (n x : Nat) (w : World) (h0 : 1 ≤ n) (h1 : n ≤ 7) (hx : x < pw n) :
    Calls Tryd.prog 7 #[.int .i64 (n : Int), .int .i64 (x : Int)] w fun e w' => e = .returned (.tuple #[.string (fx n x), .nilIface]) ∧ Below w.heap.size w w' := putFixed_ok n x w h0 h1 hx
theorem refFixed_fx (n x : Nat) (w : World) (hn : n ≤ 7) (hx : (x : Int) ≤ 9223372036854775807) :
    Calls Tryd.prog 12 #[.int .i64 (n : Int), .int .i64 (x : Int)] w fun e w' => e = .returned (.string (fx n x)) ∧ Below w.heap.size w w' := refFixed_any n x w hn hx
theorem catF_data (a : ByteArray) (n x : Nat) (t : Array UInt8) : (a ++ fx n x ++ ⟨t⟩).data.toList = a.data.toList ++ fixedB n x ++ t.toList := by simp [fx]
theorem catF_size (a : ByteArray) (n x : Nat) (t : Array UInt8) : (a ++ fx n x ++ ⟨t⟩).size = a.size + n + t.size := by
  have := fx_size n x
  simp [ByteArray.size_append, this]; rfl
theorem fixed_fx (a : ByteArray) (n x : Nat) (t : Array UInt8) (w : World) (ha : a.size ≤ 300) (h0 : 1 ≤ n) (h1 : n ≤ 7) (hx : x < pw n) (ht : t.size ≤ 10) :
    Calls Tryd.prog 11 #[.string (a ++ fx n x ++ ⟨t⟩), .int .i64 (a.size : Int), .int .i64 (n : Int)] w fun e w' => e = .returned (.tuple #[.int .i64 (x : Int), .int .i64 ((a.size : Int) + (n : Int)), .nilIface]) ∧ w = w' := by
  have hz := catF_size a n x t
  have e : vB (((a ++ fx n x ++ ⟨t⟩).data.toList.drop a.size).take n) = x := by
    rw [catF_data, size_eq, List.append_assoc, List.drop_left, List.take_left' (by rw [fixedB_len]), vB_fixedB]
    exact Nat.mod_eq_of_lt hx
  have := fixed_ok (a ++ fx n x ++ ⟨t⟩) a.size n w (by unfold maxLen; omega) h0 h1 (by omega)
  rw [e] at this
  exact this

set_option maxRecDepth 100000 in
set_option maxHeartbeats 2000000 in
/-- A text that is too long for the law. -/
theorem fixed_w1 (n x : Int) (a : ByteArray) (w : World) (hg : Err.ErrTab w) (ha : a.size ≤ maxLen) (h : 300 < a.size) :
    Calls Tryd.prog 3 #[.int .i64 n, .int .i64 x, .string a] w fun e w' => e = .returned (.bool true) ∧ Below w.heap.size w w' := by
  have HG := Lib.hid hg
  clear hg
  unfold maxLen at ha
  go_enter Tryd.func3, Tryd.ntmps3
  go_wp2_with (go_at_call 6; refine (awake_any _).mono ?_; rintro e w1 ⟨rfl, hb1⟩; refine Hid.out ?_)
  refine Lib.hid ?_
  have B1 := Lib.hid (hb1)
  clear hb1
  go_wp2
  go_ret
  exact ⟨rfl, B1.out⟩

set_option maxRecDepth 100000 in
set_option maxHeartbeats 2000000 in
/-- No number of bytes that may be. -/
theorem fixed_w2 (n x : Int) (a : ByteArray) (w : World) (hg : Err.ErrTab w) (ha : a.size ≤ 300) (h : n < 1) :
    Calls Tryd.prog 3 #[.int .i64 n, .int .i64 x, .string a] w fun e w' => e = .returned (.bool true) ∧ Below w.heap.size w w' := by
  have HG := Lib.hid hg
  clear hg
  have HH := Lib.hid (show n < 1 ∨ 7 < n by omega)
  go_enter Tryd.func3, Tryd.ntmps3
  go_wp2_with (go_at_call 6; refine (awake_any _).mono ?_; rintro e w1 ⟨rfl, hb1⟩; refine Hid.out ?_)
  refine Lib.hid ?_
  have B1 := Lib.hid (hb1)
  clear hb1
  go_wp2_with (go_at_call 7; refine (putFixed_arg _ _ _ HH.out).mono ?_; rintro e wz ⟨rfl, rfl⟩; refine Hid.out ?_)
  refine Lib.hid ?_
  go_wp2_with (go_at_call 8; refine (code_E 1 _ (HG.out.on B1.out)).mono ?_; rintro e w2 ⟨rfl, hb2⟩; refine Hid.out ?_)
  refine Lib.hid ?_
  have B2 := Lib.hid (B1.out.trans (hb2.mono B1.out.size))
  clear hb2
  go_wp2_with (go_at_call 9; refine (place_E 1 _ (HG.out.on B2.out)).mono ?_; rintro e w3 ⟨rfl, hb3⟩; refine Hid.out ?_)
  refine Lib.hid ?_
  have B3 := Lib.hid (B2.out.trans (hb3.mono B2.out.size))
  clear hb3
  go_wp2
  go_ret
  exact ⟨rfl, B3.out⟩

set_option maxRecDepth 100000 in
set_option maxHeartbeats 2000000 in
/-- No number of bytes that may be. -/
theorem fixed_w2b (n x : Int) (a : ByteArray) (w : World) (hg : Err.ErrTab w) (ha : a.size ≤ 300) (h : 7 < n) :
    Calls Tryd.prog 3 #[.int .i64 n, .int .i64 x, .string a] w fun e w' => e = .returned (.bool true) ∧ Below w.heap.size w w' := by
  have HG := Lib.hid hg
  clear hg
  have HH := Lib.hid (show n < 1 ∨ 7 < n by omega)
  go_enter Tryd.func3, Tryd.ntmps3
  go_wp2_with (go_at_call 6; refine (awake_any _).mono ?_; rintro e w1 ⟨rfl, hb1⟩; refine Hid.out ?_)
  refine Lib.hid ?_
  have B1 := Lib.hid (hb1)
  clear hb1
  go_wp2_with (go_at_call 7; refine (putFixed_arg _ _ _ HH.out).mono ?_; rintro e wz ⟨rfl, rfl⟩; refine Hid.out ?_)
  refine Lib.hid ?_
  go_wp2_with (go_at_call 8; refine (code_E 1 _ (HG.out.on B1.out)).mono ?_; rintro e w2 ⟨rfl, hb2⟩; refine Hid.out ?_)
  refine Lib.hid ?_
  have B2 := Lib.hid (B1.out.trans (hb2.mono B1.out.size))
  clear hb2
  go_wp2_with (go_at_call 9; refine (place_E 1 _ (HG.out.on B2.out)).mono ?_; rintro e w3 ⟨rfl, hb3⟩; refine Hid.out ?_)
  refine Lib.hid ?_
  have B3 := Lib.hid (B2.out.trans (hb3.mono B2.out.size))
  clear hb3
  go_wp2
  go_ret
  exact ⟨rfl, B3.out⟩

set_option maxRecDepth 100000 in
set_option maxHeartbeats 2000000 in
/-- A number outside what there is. -/
theorem fixed_w3 (n : Nat) (x : Int) (a : ByteArray) (w : World) (hg : Err.ErrTab w) (ha : a.size ≤ 300) (h0 : 1 ≤ n) (h1 : n ≤ 7) (h : x < 0 ∨ (pw n : Int) ≤ x) :
    Calls Tryd.prog 3 #[.int .i64 (n : Int), .int .i64 x, .string a] w fun e w' => e = .returned (.bool true) ∧ Below w.heap.size w w' := by
  have HG := Lib.hid hg
  clear hg
  have HH := Lib.hid h
  have hf : fitB n x = false := decide_eq_false (by omega)
  clear h
  go_enter Tryd.func3, Tryd.ntmps3
  go_wp2_with (go_at_call 6; refine (awake_any _).mono ?_; rintro e w1 ⟨rfl, hb1⟩; refine Hid.out ?_)
  refine Lib.hid ?_
  have B1 := Lib.hid (hb1)
  clear hb1
  go_wp2_with (go_at_call 7; refine (putFixed_range _ _ _ h0 h1 HH.out).mono ?_; rintro e wz ⟨rfl, rfl⟩; refine Hid.out ?_)
  refine Lib.hid ?_
  go_wp2_with (go_at_call 10; refine (fits_any _ _ _ h1).mono ?_; rintro e wz ⟨rfl, rfl⟩; refine Hid.out ?_)
  refine Lib.hid ?_
  go_wp2_with (go_at_call 8; refine (code_E 2 _ (HG.out.on B1.out)).mono ?_; rintro e w2 ⟨rfl, hb2⟩; refine Hid.out ?_)
  refine Lib.hid ?_
  have B2 := Lib.hid (B1.out.trans (hb2.mono B1.out.size))
  clear hb2
  go_wp2_with (go_at_call 9; refine (place_E 2 _ (HG.out.on B2.out)).mono ?_; rintro e w3 ⟨rfl, hb3⟩; refine Hid.out ?_)
  refine Lib.hid ?_
  have B3 := Lib.hid (B2.out.trans (hb3.mono B2.out.size))
  clear hb3
  go_wp2
  go_ret
  exact ⟨rfl, B3.out⟩

set_option maxRecDepth 100000 in
set_option maxHeartbeats 2000000 in
/-- Written, and read. -/
theorem fixed_w4 (n x : Nat) (a : ByteArray) (w : World) (hg : Err.ErrTab w) (ha : a.size ≤ 300) (h0 : 1 ≤ n) (h1 : n ≤ 7) (h : x < pw n) :
    Calls Tryd.prog 3 #[.int .i64 (n : Int), .int .i64 (x : Int), .string a] w fun e w' => e = .returned (.bool true) ∧ Below w.heap.size w w' := by
  have HG := Lib.hid hg
  clear hg
  have HH := Lib.hid h
  have hf : fitB n x = true := decide_eq_true ⟨by omega, by omega⟩
  have HB := Lib.hid (show (x : Int) ≤ 9223372036854775807 by have := pow256_le n h1; unfold pw at h; omega)
  have hz := fx_size n x
  clear h
  go_enter Tryd.func3, Tryd.ntmps3
  go_wp2_with (go_at_call 6; refine (awake_any _).mono ?_; rintro e w1 ⟨rfl, hb1⟩; refine Hid.out ?_)
  refine Lib.hid ?_
  have B1 := Lib.hid (hb1)
  clear hb1
  go_wp2_with (go_at_call 7; refine (putFixed_fx _ _ _ h0 h1 HH.out).mono ?_; rintro e w2 ⟨rfl, hb2⟩; refine Hid.out ?_)
  refine Lib.hid ?_
  have B2 := Lib.hid (B1.out.trans (hb2.mono B1.out.size))
  clear hb2
  go_wp2_with (go_at_call 10; refine (fits_any _ _ _ h1).mono ?_; rintro e wz ⟨rfl, rfl⟩; refine Hid.out ?_)
  refine Lib.hid ?_
  go_wp2_with (go_at_call 11; refine (fixed_fx _ _ _ _ _ ha h0 h1 HH.out (by simp)).mono ?_; rintro e wz ⟨rfl, rfl⟩; refine Hid.out ?_)
  refine Lib.hid ?_
  go_wp2_with (go_at_call 12; refine (refFixed_fx _ _ _ h1 HB.out).mono ?_; rintro e w3 ⟨rfl, hb3⟩; refine Hid.out ?_)
  refine Lib.hid ?_
  have B3 := Lib.hid (B2.out.trans (hb3.mono B2.out.size))
  clear hb3
  go_wp2
  go_ret
  exact ⟨rfl, B3.out⟩

theorem fixed_walk (n x : Int) (a : ByteArray) (w : World) (ha : a.size ≤ maxLen) (hg : Err.ErrTab w) :
    Calls Tryd.prog 3 #[.int .i64 n, .int .i64 x, .string a] w fun e w' => e = .returned (.bool true) ∧ Below w.heap.size w w' := by
  by_cases h : 300 < a.size
  · exact fixed_w1 n x a w hg ha h
  · have h' : a.size ≤ 300 := by omega
    by_cases h2 : n < 1 ∨ 7 < n
    · rcases h2 with h2 | h2
      · exact fixed_w2 n x a w hg h' h2
      · exact fixed_w2b n x a w hg h' h2
    · obtain ⟨m, rfl⟩ := Int.eq_ofNat_of_zero_le (show 0 ≤ n by omega)
      by_cases h3 : x < 0 ∨ (pw m : Int) ≤ x
      · exact fixed_w3 m x a w hg h' (by omega) (by omega) h3
      · obtain ⟨y, rfl⟩ := Int.eq_ofNat_of_zero_le (show 0 ≤ x by omega)
        exact fixed_w4 m y a w hg h' (by omega) (by omega) (by omega)

end Go.Proofs.YtahngmddhpnjgaaDoor.Oct
