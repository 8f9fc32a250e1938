/- The walk of the law OctetShort. -/
import Derived.Test.YtahngmddhpnjgaaDoorOctE
import Derived.Test.YtahngmddhpnjgaaDoorErrCode
import Derived.Lib.SmallJoins
namespace Go.Proofs.YtahngmddhpnjgaaDoor.Oct
open Go.RowKit Go.Lib

/-- A short number's bytes, as a text. -/
def sb (n : Nat) : ByteArray := ⟨(short n).toArray⟩
theorem sb_size (n : Nat) : (sb n).size = (short n).length := by simp [sb, ByteArray.size]
theorem sb_data (n : Nat) : (sb n).data.toList = short n := by simp [sb]
theorem code_E (c : Int) (w : World) (hg : Err.ErrTab w) : Calls Tryd.prog 8 #[errnoV c] w fun e w' => e = .returned (.int .i64 c) ∧ Below w.heap.size w w' := Err.code_E c w hg
theorem code_F (p c : Int) (w : World) (hg : Err.ErrTab w) : Calls Tryd.prog 8 #[faultV p c] w fun e w' => e = .returned (.int .i64 c) ∧ Below w.heap.size w w' := Err.code_F p c w hg
theorem place_E (c : Int) (w : World) (hg : Err.ErrTab w) : Calls Tryd.prog 9 #[errnoV c] w fun e w' => e = .returned (.int .i64 (-1)) ∧ Below w.heap.size w w' := Err.place_E c w hg
theorem place_F (p c : Int) (w : World) (hg : Err.ErrTab w) : Calls Tryd.prog 9 #[faultV p c] w fun e w' => e = .returned (.int .i64 p) ∧ Below w.heap.size w w' := Err.place_F p c w hg

theorem putShort_sb (x : Int) (n : Nat) (w : World) (hx : x = (n : Int)) (h1 : x ≤ 72057594037927935) :
    Calls Tryd.prog 13 #[.int .i64 x] w fun e w' => e = .returned (.tuple #[.string (sb n), .nilIface]) ∧ Below w.heap.size w w' := by
  subst hx; exact putShort_ok n w (by omega) h1
theorem putTurned_sb (x : Int) (m : Nat) (w : World) (h0 : -36028797018963968 ≤ x) (h1 : x < 36028797018963968) (hm : turnOf x = (m : Int)) :
    Calls Tryd.prog 14 #[.int .i64 x] w fun e w' => e = .returned (.tuple #[.string (sb m), .nilIface]) ∧ Below w.heap.size w w' := by
  have := putTurned_ok x w h0 h1; rw [hm, Int.toNat_natCast] at this; exact this
theorem refShort_sb (x : Int) (n : Nat) (w : World) (hx : x = (n : Int)) (h1 : x ≤ 9223372036854775807) :
    Calls Tryd.prog 16 #[.int .i64 x] w fun e w' => e = .returned (.string (sb n)) ∧ Below w.heap.size w w' := by
  subst hx; exact refShort_any n w h1
theorem short_here (s : ByteArray) (p x : Int) (A t : List UInt8) (n : Nat) (w : World) (hx : x = (n : Int)) (hn : x ≤ 72057594037927935) (hs : s.data.toList = A ++ short n ++ t) (hp : p = (A.length : Int)) (hz : s.size ≤ maxLen) :
    Calls Tryd.prog 15 #[.string s, .int .i64 p] w fun e w' => e = .returned (.tuple #[.int .i64 x, .int .i64 (p + ((sb n).size : Int)), .nilIface]) ∧ w = w' := by
  subst hx
  obtain ⟨e1, e2, e3⟩ := sh_at (s := s) (p := p) (t := t) (n := n) (by omega) hs hp
  have hl : s.size = A.length + (short n).length + t.length := by rw [size_eq, hs]; simp [Nat.add_assoc]
  have := short_parts s p w hz (by omega) (by omega)
  rw [e1, e2, e3, ← sb_size] at this
  exact this
theorem turned_here (s : ByteArray) (p x : Int) (A t : List UInt8) (n : Nat) (w : World) (h0 : -36028797018963968 ≤ x) (h1 : x < 36028797018963968) (hm : turnOf x = (n : Int)) (hs : s.data.toList = A ++ short n ++ t) (hp : p = (A.length : Int)) (hz : s.size ≤ maxLen) :
    Calls Tryd.prog 18 #[.string s, .int .i64 p] w fun e w' => e = .returned (.tuple #[.int .i64 x, .int .i64 (p + ((sb n).size : Int)), .nilIface]) ∧ w = w' := by
  have hr := turn_range x h0 h1
  obtain ⟨e1, e2, e3⟩ := sh_at (s := s) (p := p) (t := t) (n := n) (by omega) hs hp
  have hl : s.size = A.length + (short n).length + t.length := by rw [size_eq, hs]; simp [Nat.add_assoc]
  have := turned_parts s p w hz (by omega) (by omega)
  rw [e1, e2, e3, ← sb_size, ← hm, back_turn x h0 h1] at this
  exact this

set_option maxRecDepth 100000 in
set_option maxHeartbeats 2000000 in
theorem short_w1 (x : Int) (a : ByteArray) (w : World) (ha : a.size ≤ maxLen) (h : 300 < a.size) :
    Calls Tryd.prog 4 #[.int .i64 x, .string a] w fun e w' => e = .returned (.bool true) ∧ Below w.heap.size w w' := by
  unfold maxLen at ha
  go_enter Tryd.func4, Tryd.ntmps4
  go_wp2_with (go_at_call 6; refine (awake_any _).mono ?_; rintro e w1 ⟨rfl, hb1⟩)
  go_ret
  exact ⟨rfl, hb1⟩

theorem cat_data (a : ByteArray) (n : Nat) (c : UInt8) : (a ++ sb n ++ ⟨#[c]⟩).data.toList = a.data.toList ++ short n ++ [c] := by simp [sb]
theorem cat_size (a : ByteArray) (n : Nat) (c : UInt8) (h : a.size ≤ 300) (hn : (sb n).size ≤ 8) : (a ++ sb n ++ ⟨#[c]⟩).size ≤ maxLen := by
  have : (a ++ sb n ++ ⟨#[c]⟩).size = a.size + (sb n).size + 1 := by simp [ByteArray.size_append]; rfl
  unfold maxLen; omega

set_option maxRecDepth 100000 in
set_option maxHeartbeats 2000000 in
/-- Neither is a short number, nor a turned one. -/
theorem short_w2 (x : Int) (a : ByteArray) (w : World) (hg : Err.ErrTab w) (ha : a.size ≤ 300) (h1 : x < -36028797018963968) :
    Calls Tryd.prog 4 #[.int .i64 x, .string a] w fun e w' => e = .returned (.bool true) ∧ Below w.heap.size w w' := by
  have HG := Lib.hid hg
  clear hg
  have HM := Lib.hid (show turnOf x = 0 by unfold turnOf; rw [if_neg (by omega)])
  go_enter Tryd.func4, Tryd.ntmps4
  go_wp2_with (go_at_call 6; refine (awake_any _).mono ?_; rintro e w1 ⟨rfl, hb1⟩; refine Hid.out ?_)
  refine Lib.hid ?_
  have B1 := Lib.hid hb1
  clear hb1
  go_wp2_with (go_at_call 13; refine (putShort_bad _ _ (by omega)).mono ?_; rintro e wz ⟨rfl, rfl⟩; refine Hid.out ?_)
  refine Lib.hid ?_
  go_wp2_with (go_at_call 14; refine (putTurned_bad _ _ (by omega)).mono ?_; rintro e wz ⟨rfl, rfl⟩; refine Hid.out ?_)
  refine Lib.hid ?_
  go_wp2_with (go_at_call 8; refine (code_E 2 _ (HG.out.on B1.out)).mono ?_; rintro e w2 ⟨rfl, hb2⟩; refine Hid.out ?_)
  refine Lib.hid ?_
  have B2 := Lib.hid (B1.out.trans (hb2.mono B1.out.size))
  clear hb2
  go_wp2_with (go_at_call 8; refine (code_E 2 _ (HG.out.on B2.out)).mono ?_; rintro e w3 ⟨rfl, hb3⟩; refine Hid.out ?_)
  refine Lib.hid ?_
  have B3 := Lib.hid (B2.out.trans (hb3.mono B2.out.size))
  clear hb3
  go_wp2_with (go_at_call 17; refine (turn_any _ _).mono ?_; rintro e wz ⟨rfl, rfl⟩; rw [HM.out]; refine Hid.out ?_)
  refine Lib.hid ?_
  go_wp2
  go_ret
  exact ⟨rfl, B3.out⟩

set_option maxRecDepth 100000 in
set_option maxHeartbeats 2000000 in
/-- A turned one alone. -/
theorem short_w3 (x : Int) (a : ByteArray) (w : World) (hg : Err.ErrTab w) (ha : a.size ≤ 300) (h0 : -36028797018963968 ≤ x) (hneg : x < 0) (h1 : x < 36028797018963968) :
    Calls Tryd.prog 4 #[.int .i64 x, .string a] w fun e w' => e = .returned (.bool true) ∧ Below w.heap.size w w' := by
  have HG := Lib.hid hg
  clear hg
  have hr := turn_range x (by omega) h1
  obtain ⟨m, hm⟩ := Int.eq_ofNat_of_zero_le hr.1
  have hsm : (sb m).size ≤ 8 := by rw [sb_size]; exact short_len8 m (by omega)
  have HR := Lib.hid (show (m : Int) ≤ 9223372036854775807 by omega)
  have HK := Lib.hid (show backOf (m : Int) = x by rw [← hm]; exact back_turn x (by omega) h1)
  have HM := Lib.hid hm
  clear hm hr
  go_enter Tryd.func4, Tryd.ntmps4
  go_wp2_with (go_at_call 6; refine (awake_any _).mono ?_; rintro e w1 ⟨rfl, hb1⟩; refine Hid.out ?_)
  refine Lib.hid ?_
  have B1 := Lib.hid hb1
  clear hb1
  go_wp2_with (go_at_call 13; refine (putShort_bad _ _ (by omega)).mono ?_; rintro e wz ⟨rfl, rfl⟩; refine Hid.out ?_)
  refine Lib.hid ?_
  go_wp2_with (go_at_call 14; refine (putTurned_sb _ m _ (by omega) (by omega) HM.out).mono ?_; rintro e w2 ⟨rfl, hb2⟩; refine Hid.out ?_)
  refine Lib.hid ?_
  have B2 := Lib.hid (B1.out.trans (hb2.mono B1.out.size))
  clear hb2
  go_wp2_with (go_at_call 8; refine (code_E 2 _ (HG.out.on B2.out)).mono ?_; rintro e w3 ⟨rfl, hb3⟩; refine Hid.out ?_)
  refine Lib.hid ?_
  have B3 := Lib.hid (B2.out.trans (hb3.mono B2.out.size))
  clear hb3
  go_wp2_with (go_at_call 18; refine (turned_here _ _ x a.data.toList [120] m _ (by omega) (by omega) HM.out (cat_data _ _ _) (by rw [size_eq]) (cat_size _ _ _ ha hsm)).mono ?_; rintro e wz ⟨rfl, rfl⟩; refine Hid.out ?_)
  refine Lib.hid ?_
  go_wp2_with (go_at_call 19; refine (refTurn_any _ _ (by omega) (by omega)).mono ?_; rintro e wz ⟨rfl, rfl⟩; rw [HM.out]; refine Hid.out ?_)
  refine Lib.hid ?_
  go_wp2_with (go_at_call 16; refine (refShort_sb _ m _ rfl HR.out).mono ?_; rintro e w4 ⟨rfl, hb4⟩; refine Hid.out ?_)
  refine Lib.hid ?_
  have B4 := Lib.hid (B3.out.trans (hb4.mono B3.out.size))
  clear hb4
  go_wp2_with (go_at_call 17; refine (turn_any _ _).mono ?_; rintro e wz ⟨rfl, rfl⟩; rw [HM.out]; refine Hid.out ?_)
  refine Lib.hid ?_
  go_wp2_with (go_at_call 19; refine (refTurn_any _ _ (by omega) (by omega)).mono ?_; rintro e wz ⟨rfl, rfl⟩; rw [HM.out]; refine Hid.out ?_)
  refine Lib.hid ?_
  go_wp2_with (go_at_call 17; refine (turn_any _ _).mono ?_; rintro e wz ⟨rfl, rfl⟩; rw [HM.out]; refine Hid.out ?_)
  refine Lib.hid ?_
  go_wp2_with (go_at_call 20; refine (back_any _ _ HR.out).mono ?_; rintro e wz ⟨rfl, rfl⟩; rw [HK.out]; refine Hid.out ?_)
  refine Lib.hid ?_
  go_wp2
  go_ret
  exact ⟨rfl, B4.out⟩

set_option maxRecDepth 100000 in
set_option maxHeartbeats 2000000 in
/-- Both are written and read. -/
theorem short_w4 (x : Int) (a : ByteArray) (w : World) (hg : Err.ErrTab w) (ha : a.size ≤ 300) (h0 : 0 ≤ x) (h1 : x < 36028797018963968) :
    Calls Tryd.prog 4 #[.int .i64 x, .string a] w fun e w' => e = .returned (.bool true) ∧ Below w.heap.size w w' := by
  have HG := Lib.hid hg
  clear hg
  obtain ⟨n, hn⟩ := Int.eq_ofNat_of_zero_le h0
  have hsn : (sb n).size ≤ 8 := by rw [sb_size]; exact short_len8 n (by omega)
  have HN := Lib.hid hn
  clear hn
  have hr := turn_range x (by omega) h1
  obtain ⟨m, hm⟩ := Int.eq_ofNat_of_zero_le hr.1
  have hsm : (sb m).size ≤ 8 := by rw [sb_size]; exact short_len8 m (by omega)
  have HR := Lib.hid (show (m : Int) ≤ 9223372036854775807 by omega)
  have HK := Lib.hid (show backOf (m : Int) = x by rw [← hm]; exact back_turn x (by omega) h1)
  have HM := Lib.hid hm
  clear hm hr
  go_enter Tryd.func4, Tryd.ntmps4
  go_wp2_with (go_at_call 6; refine (awake_any _).mono ?_; rintro e w1 ⟨rfl, hb1⟩; refine Hid.out ?_)
  refine Lib.hid ?_
  have B1 := Lib.hid hb1
  clear hb1
  go_wp2_with (go_at_call 13; refine (putShort_sb _ n _ HN.out (by omega)).mono ?_; rintro e w2 ⟨rfl, hb2⟩; refine Hid.out ?_)
  refine Lib.hid ?_
  have B2 := Lib.hid (B1.out.trans (hb2.mono B1.out.size))
  clear hb2
  go_wp2_with (go_at_call 14; refine (putTurned_sb _ m _ (by omega) (by omega) HM.out).mono ?_; rintro e w3 ⟨rfl, hb3⟩; refine Hid.out ?_)
  refine Lib.hid ?_
  have B3 := Lib.hid (B2.out.trans (hb3.mono B2.out.size))
  clear hb3
  go_wp2_with (go_at_call 15; refine (short_here _ _ x a.data.toList [120] n _ HN.out (by omega) (cat_data _ _ _) (by rw [size_eq]) (cat_size _ _ _ ha hsn)).mono ?_; rintro e wz ⟨rfl, rfl⟩; refine Hid.out ?_)
  refine Lib.hid ?_
  go_wp2_with (go_at_call 16; refine (refShort_sb _ n _ HN.out (by omega)).mono ?_; rintro e w4 ⟨rfl, hb4⟩; refine Hid.out ?_)
  refine Lib.hid ?_
  have B4 := Lib.hid (B3.out.trans (hb4.mono B3.out.size))
  clear hb4
  go_wp2_with (go_at_call 18; refine (turned_here _ _ x a.data.toList [120] m _ (by omega) (by omega) HM.out (cat_data _ _ _) (by rw [size_eq]) (cat_size _ _ _ ha hsm)).mono ?_; rintro e wz ⟨rfl, rfl⟩; refine Hid.out ?_)
  refine Lib.hid ?_
  go_wp2_with (go_at_call 19; refine (refTurn_any _ _ (by omega) (by omega)).mono ?_; rintro e wz ⟨rfl, rfl⟩; rw [HM.out]; refine Hid.out ?_)
  refine Lib.hid ?_
  go_wp2_with (go_at_call 16; refine (refShort_sb _ m _ rfl HR.out).mono ?_; rintro e w5 ⟨rfl, hb5⟩; refine Hid.out ?_)
  refine Lib.hid ?_
  have B5 := Lib.hid (B4.out.trans (hb5.mono B4.out.size))
  clear hb5
  go_wp2_with (go_at_call 17; refine (turn_any _ _).mono ?_; rintro e wz ⟨rfl, rfl⟩; rw [HM.out]; refine Hid.out ?_)
  refine Lib.hid ?_
  go_wp2_with (go_at_call 19; refine (refTurn_any _ _ (by omega) (by omega)).mono ?_; rintro e wz ⟨rfl, rfl⟩; rw [HM.out]; refine Hid.out ?_)
  refine Lib.hid ?_
  go_wp2_with (go_at_call 17; refine (turn_any _ _).mono ?_; rintro e wz ⟨rfl, rfl⟩; rw [HM.out]; refine Hid.out ?_)
  refine Lib.hid ?_
  go_wp2_with (go_at_call 20; refine (back_any _ _ HR.out).mono ?_; rintro e wz ⟨rfl, rfl⟩; rw [HK.out]; refine Hid.out ?_)
  refine Lib.hid ?_
  go_wp2
  go_ret
  exact ⟨rfl, B5.out⟩

set_option maxRecDepth 100000 in
set_option maxHeartbeats 2000000 in
/-- A short one alone. -/
theorem short_w5 (x : Int) (a : ByteArray) (w : World) (hg : Err.ErrTab w) (ha : a.size ≤ 300) (h0 : 0 ≤ x) (h1 : 36028797018963968 ≤ x) (h2 : x ≤ 72057594037927935) :
    Calls Tryd.prog 4 #[.int .i64 x, .string a] w fun e w' => e = .returned (.bool true) ∧ Below w.heap.size w w' := by
  have HG := Lib.hid hg
  clear hg
  obtain ⟨n, hn⟩ := Int.eq_ofNat_of_zero_le h0
  have hsn : (sb n).size ≤ 8 := by rw [sb_size]; exact short_len8 n (by omega)
  have HN := Lib.hid hn
  clear hn
  have HM := Lib.hid (show turnOf x = 0 by unfold turnOf; rw [if_neg (by omega)])
  go_enter Tryd.func4, Tryd.ntmps4
  go_wp2_with (go_at_call 6; refine (awake_any _).mono ?_; rintro e w1 ⟨rfl, hb1⟩; refine Hid.out ?_)
  refine Lib.hid ?_
  have B1 := Lib.hid hb1
  clear hb1
  go_wp2_with (go_at_call 13; refine (putShort_sb _ n _ HN.out (by omega)).mono ?_; rintro e w2 ⟨rfl, hb2⟩; refine Hid.out ?_)
  refine Lib.hid ?_
  have B2 := Lib.hid (B1.out.trans (hb2.mono B1.out.size))
  clear hb2
  go_wp2_with (go_at_call 14; refine (putTurned_bad _ _ (by omega)).mono ?_; rintro e wz ⟨rfl, rfl⟩; refine Hid.out ?_)
  refine Lib.hid ?_
  go_wp2_with (go_at_call 15; refine (short_here _ _ x a.data.toList [120] n _ HN.out (by omega) (cat_data _ _ _) (by rw [size_eq]) (cat_size _ _ _ ha hsn)).mono ?_; rintro e wz ⟨rfl, rfl⟩; refine Hid.out ?_)
  refine Lib.hid ?_
  go_wp2_with (go_at_call 16; refine (refShort_sb _ n _ HN.out (by omega)).mono ?_; rintro e w3 ⟨rfl, hb3⟩; refine Hid.out ?_)
  refine Lib.hid ?_
  have B3 := Lib.hid (B2.out.trans (hb3.mono B2.out.size))
  clear hb3
  go_wp2_with (go_at_call 8; refine (code_E 2 _ (HG.out.on B3.out)).mono ?_; rintro e w4 ⟨rfl, hb4⟩; refine Hid.out ?_)
  refine Lib.hid ?_
  have B4 := Lib.hid (B3.out.trans (hb4.mono B3.out.size))
  clear hb4
  go_wp2_with (go_at_call 17; refine (turn_any _ _).mono ?_; rintro e wz ⟨rfl, rfl⟩; rw [HM.out]; refine Hid.out ?_)
  refine Lib.hid ?_
  go_wp2
  go_ret
  exact ⟨rfl, B4.out⟩

set_option maxRecDepth 100000 in
set_option maxHeartbeats 2000000 in
/-- Too great for either. -/
theorem short_w6 (x : Int) (a : ByteArray) (w : World) (hg : Err.ErrTab w) (ha : a.size ≤ 300) (h1 : 72057594037927935 < x) :
    Calls Tryd.prog 4 #[.int .i64 x, .string a] w fun e w' => e = .returned (.bool true) ∧ Below w.heap.size w w' := by
  have HG := Lib.hid hg
  clear hg
  have HM := Lib.hid (show turnOf x = 0 by unfold turnOf; rw [if_neg (by omega)])
  go_enter Tryd.func4, Tryd.ntmps4
  go_wp2_with (go_at_call 6; refine (awake_any _).mono ?_; rintro e w1 ⟨rfl, hb1⟩; refine Hid.out ?_)
  refine Lib.hid ?_
  have B1 := Lib.hid hb1
  clear hb1
  go_wp2_with (go_at_call 13; refine (putShort_bad _ _ (by omega)).mono ?_; rintro e wz ⟨rfl, rfl⟩; refine Hid.out ?_)
  refine Lib.hid ?_
  go_wp2_with (go_at_call 14; refine (putTurned_bad _ _ (by omega)).mono ?_; rintro e wz ⟨rfl, rfl⟩; refine Hid.out ?_)
  refine Lib.hid ?_
  go_wp2_with (go_at_call 8; refine (code_E 2 _ (HG.out.on B1.out)).mono ?_; rintro e w2 ⟨rfl, hb2⟩; refine Hid.out ?_)
  refine Lib.hid ?_
  have B2 := Lib.hid (B1.out.trans (hb2.mono B1.out.size))
  clear hb2
  go_wp2_with (go_at_call 8; refine (code_E 2 _ (HG.out.on B2.out)).mono ?_; rintro e w3 ⟨rfl, hb3⟩; refine Hid.out ?_)
  refine Lib.hid ?_
  have B3 := Lib.hid (B2.out.trans (hb3.mono B2.out.size))
  clear hb3
  go_wp2_with (go_at_call 17; refine (turn_any _ _).mono ?_; rintro e wz ⟨rfl, rfl⟩; rw [HM.out]; refine Hid.out ?_)
  refine Lib.hid ?_
  go_wp2
  go_ret
  exact ⟨rfl, B3.out⟩

theorem short_walk (x : Int) (a : ByteArray) (w : World) (ha : a.size ≤ maxLen) (hg : Err.ErrTab w) :
    Calls Tryd.prog 4 #[.int .i64 x, .string a] w fun e w' => e = .returned (.bool true) ∧ Below w.heap.size w w' := by
  by_cases h : 300 < a.size
  · exact short_w1 x a w ha h
  · have h' : a.size ≤ 300 := by omega
    by_cases h2 : x < -36028797018963968
    · exact short_w2 x a w hg h' h2
    · by_cases h3 : x < 0
      · exact short_w3 x a w hg h' (by omega) h3 (by omega)
      · by_cases h4 : x < 36028797018963968
        · exact short_w4 x a w hg h' (by omega) h4
        · by_cases h5 : x ≤ 72057594037927935
          · exact short_w5 x a w hg h' (by omega) (by omega) h5
          · exact short_w6 x a w hg h' (by omega)

end Go.Proofs.YtahngmddhpnjgaaDoor.Oct
