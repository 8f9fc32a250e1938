/- Contracts of layer 1 (octet): Text. -/
import Derived.Test.YtahngmddhpnjgaaDoorOctH
import Derived.WideShapes
namespace Go.Proofs.YtahngmddhpnjgaaDoor.Oct
open Go.RowKit Go.Lib

theorem short_told (s : ByteArray) (p : Int) (w : World) (x b : Int) (e : Value) (hs : s.size ≤ maxLen) (h0 : 0 ≤ p) (h1 : p ≤ s.size) (hx : shX s p = x) (hb : shN s p = b) (he : shE s p = e) :
    Calls Tryd.prog 15 #[.string s, .int .i64 p] w fun r w' => r = .returned (.tuple #[.int .i64 x, .int .i64 b, e]) ∧ w = w' := by
  subst hx hb he; exact short_parts s p w hs h0 h1

set_option maxRecDepth 100000 in
set_option maxHeartbeats 1000000 in
theorem text_ok (s : ByteArray) (p most : Int) (w : World) (x b : Nat) (hs : s.size ≤ 281474976710656) (h0 : 0 ≤ p) (h1 : p ≤ s.size) (hx : shX s p = (x : Int)) (hb : shN s p = (b : Int)) (he : shE s p = .nilIface) (hm : (x : Int) ≤ most) (hl : b + x ≤ s.size) :
    Calls Tryd.prog 22 #[.string s, .int .i64 p, .int .i64 most] w fun e w' => e = .returned (.tuple #[.string (s.extract b (b + x)), .int .i64 ((b : Int) + (x : Int)), .nilIface]) ∧ Below w.heap.size w w' := by
  have HS := Lib.hid (show s.size ≤ maxLen by unfold maxLen; omega)
  have HX := Lib.hid hx
  have HB := Lib.hid hb
  have HE := Lib.hid he
  have HZ := Lib.hid hs
  have hs2 : (s.size : Int) ≤ 281474976710656 := by omega
  have hz : (s.extract b (b + x)).size ≤ 281474976710656 := by simp [ByteArray.size_extract]; omega
  have HZ2 := Lib.hid hz
  clear hx hb he hs hz
  go_enter Tryd.func22, Tryd.ntmps22
  go_wp2_with (first | (go_at_call 15; refine (short_told _ _ _ _ _ _ HS.out h0 h1 HX.out HB.out HE.out).mono ?_; rintro e w' ⟨rfl, rfl⟩) | (go_at_call 30; refine (clone_any _ _ HZ2.out).mono ?_; rintro e w' ⟨rfl, hbw⟩))
  go_ret3
  exact ⟨rfl, by assumption⟩

set_option maxRecDepth 100000 in
set_option maxHeartbeats 1000000 in
/-- There are too few bytes behind the length. -/
theorem text_few (s : ByteArray) (p most : Int) (w : World) (x b : Nat) (hs : s.size ≤ maxLen) (h0 : 0 ≤ p) (h1 : p ≤ s.size) (hx : shX s p = (x : Int)) (hb : shN s p = (b : Int)) (he : shE s p = .nilIface) (hm : (x : Int) ≤ most) (hbl : b ≤ s.size) (hl : s.size < b + x) :
    Calls Tryd.prog 22 #[.string s, .int .i64 p, .int .i64 most] w fun e w' => e = .returned (.tuple #[.string ⟨#[]⟩, .int .i64 p, faultV s.size 3]) ∧ w = w' := by
  have HS := Lib.hid hs
  have HX := Lib.hid hx
  have HB := Lib.hid hb
  have HE := Lib.hid he
  unfold maxLen at hs
  clear hx hb he
  go_enter Tryd.func22, Tryd.ntmps22
  go_wp2_with (first | (go_at_call 15; refine (short_told _ _ _ _ _ _ HS.out h0 h1 HX.out HB.out HE.out).mono ?_; rintro e w' ⟨rfl, rfl⟩) | (go_at_call 27; refine (fault_any _ _ _).mono ?_; rintro e w' ⟨rfl, rfl⟩))
  go_ret3
  exact ⟨rfl, rfl⟩

set_option maxRecDepth 100000 in
set_option maxHeartbeats 1000000 in
/-- It is longer than it may be. -/
theorem text_long (s : ByteArray) (p most : Int) (w : World) (x b : Nat) (hs : s.size ≤ maxLen) (h0 : 0 ≤ p) (h1 : p ≤ s.size) (hx : shX s p = (x : Int)) (hb : shN s p = (b : Int)) (he : shE s p = .nilIface) (hm : most < (x : Int)) :
    Calls Tryd.prog 22 #[.string s, .int .i64 p, .int .i64 most] w fun e w' => e = .returned (.tuple #[.string ⟨#[]⟩, .int .i64 p, faultV p 6]) ∧ w = w' := by
  have HS := Lib.hid hs
  have HX := Lib.hid hx
  have HB := Lib.hid hb
  have HE := Lib.hid he
  clear hx hb he hs
  go_enter Tryd.func22, Tryd.ntmps22
  go_wp2_with (first | (go_at_call 15; refine (short_told _ _ _ _ _ _ HS.out h0 h1 HX.out HB.out HE.out).mono ?_; rintro e w' ⟨rfl, rfl⟩) | (go_at_call 27; refine (fault_any _ _ _).mono ?_; rintro e w' ⟨rfl, rfl⟩))
  go_ret3
  exact ⟨rfl, rfl⟩

set_option maxRecDepth 100000 in
set_option maxHeartbeats 1000000 in
/-- Its length isn't one. -/
theorem text_err (s : ByteArray) (p most q c : Int) (w : World) (hs : s.size ≤ maxLen) (h0 : 0 ≤ p) (h1 : p ≤ s.size) (he : shE s p = faultV q c) :
    Calls Tryd.prog 22 #[.string s, .int .i64 p, .int .i64 most] w fun e w' => e = .returned (.tuple #[.string ⟨#[]⟩, .int .i64 p, faultV q c]) ∧ w = w' := by
  have HS := Lib.hid hs
  have HE := Lib.hid he
  clear he hs
  unfold faultV at HE
  go_enter Tryd.func22, Tryd.ntmps22
  go_wp2_with (first | (go_at_call 15; refine (short_told _ _ _ _ _ _ HS.out h0 h1 rfl rfl HE.out).mono ?_; rintro e w' ⟨rfl, rfl⟩))
  go_ret3
  exact ⟨rfl, rfl⟩

/-- A text that stands there is read. -/
theorem text_here (s : ByteArray) (p most : Int) (t : ByteArray) (A r : List UInt8) (w : World) (hs : s.data.toList = A ++ (short t.size ++ t.data.toList) ++ r) (hp : p = (A.length : Int)) (hz : s.size ≤ 281474976710656) (hm : (t.size : Int) ≤ most) (h56 : t.size < 72057594037927936) :
    Calls Tryd.prog 22 #[.string s, .int .i64 p, .int .i64 most] w fun e w' => e = .returned (.tuple #[.string t, .int .i64 (p + ((short t.size ++ t.data.toList).length : Nat)), .nilIface]) ∧ Below w.heap.size w w' := by
  have hs' : s.data.toList = A ++ short t.size ++ (t.data.toList ++ r) := by rw [hs]; simp
  obtain ⟨e1, e2, e3⟩ := sh_at (s := s) (p := p) (n := t.size) (by omega) hs' hp
  have hl : s.size = A.length + (short t.size).length + t.size + r.length := by rw [size_eq, hs]; simp [Nat.add_assoc]
  have e2' : shN s p = ((A.length + (short t.size).length : Nat) : Int) := by rw [e2, hp]; simp
  have hx : s.extract (A.length + (short t.size).length) (A.length + (short t.size).length + t.size) = t := by
    apply WideShapes.bytes_inj
    rw [extract_data, hs, show A.length + (short t.size).length + t.size - (A.length + (short t.size).length) = t.size by omega, ← List.length_append]
    rw [show A ++ (short t.size ++ t.data.toList) ++ r = (A ++ short t.size) ++ (t.data.toList ++ r) by simp, List.drop_left]
    exact List.take_left' (by rw [size_eq])
  have := text_ok s p most w t.size (A.length + (short t.size).length) hz (by omega) (by omega) e1 e2' e3 hm (by omega)
  rw [hx] at this
  refine this.mono fun e w' ⟨he, hb⟩ => ⟨?_, hb⟩
  rw [he, hp]
  congr 3
  simp
  have : t.data.size = t.size := rfl
  omega
/-- A text of which the last byte lacks is told to be too short, at the end. -/
theorem text_cut (s : ByteArray) (p most : Int) (t : ByteArray) (A : List UInt8) (w : World) (hs : s.data.toList = A ++ (short t.size ++ t.data.toList).dropLast) (hp : p = (A.length : Int)) (hz : s.size ≤ maxLen) (hm : (t.size : Int) ≤ most) (h56 : t.size < 72057594037927936) :
    Calls Tryd.prog 22 #[.string s, .int .i64 p, .int .i64 most] w fun e w' => e = .returned (.tuple #[.string ⟨#[]⟩, .int .i64 p, faultV s.size 3]) ∧ w = w' := by
  by_cases h0 : t.size = 0
  · have ht : t.data.toList = [] := List.eq_nil_of_length_eq_zero (by rw [← size_eq]; exact h0)
    rw [h0, ht, short_lt 0 (by omega)] at hs
    simp at hs
    have hl : s.size = A.length := by rw [size_eq, hs]
    have he : shE s p = faultV s.size 3 := by
      unfold shE
      rw [hs, hp, Int.toNat_natCast, List.drop_length]
      rfl
    exact text_err s p most s.size 3 w hz (by omega) (by omega) he
  · have hne : t.data.toList ≠ [] := fun e => h0 (by rw [size_eq, e]; rfl)
    have hs' : s.data.toList = A ++ short t.size ++ t.data.toList.dropLast := by rw [hs, List.dropLast_append_of_ne_nil hne]; simp
    obtain ⟨e1, e2, e3⟩ := sh_at (s := s) (p := p) (n := t.size) (by omega) hs' hp
    have hl : s.size = A.length + (short t.size).length + (t.size - 1) := by rw [size_eq, hs']; simp [Nat.add_assoc]
    have e2' : shN s p = ((A.length + (short t.size).length : Nat) : Int) := by rw [e2, hp]; simp
    exact text_few s p most w t.size (A.length + (short t.size).length) hz (by omega) (by omega) e1 e2' e3 hm (by omega) (by omega)
end Go.Proofs.YtahngmddhpnjgaaDoor.Oct
