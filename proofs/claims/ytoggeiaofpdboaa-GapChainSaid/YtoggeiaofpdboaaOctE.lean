/- Contracts of layer 1 (octet): turned numbers; the document's own answers for short and turned ones. -/
import Derived.Test.YtoggeiaofpdboaaOctD
import Derived.Deep.RegionWith
namespace Go.Proofs.Ytoggeiaofpdboaa.Oct
open Go.RowKit Go.Lib

theorem one_string (w : World) (n : Nat) (h : n < 256) (T E S : TypeId) (hT : Try.prog.underlying T = some (.slice E)) (hE : Try.prog.underlying E = some (.int .u8)) (hS : Try.prog.underlying S = some .string) (c : Nat) (b : Nat)
    (hb : w.cell? ⟨b, 0, none⟩ = some (.int .u8 (n : Int))) :
    (convert T S (.slice (some ⟨b, 0, none⟩) 1 c)).run Try.prog w = .ok (.string ⟨#[UInt8.ofNat n]⟩) w :=
  run_convert_bytes_back (P := Try.prog) w T S E ⟨b, 0, none⟩ c [UInt8.ofNat n] hT hE hS (fun j hj => by
    match j, hj with
    | 0, _ => rw [List.getElem_cons_zero, toNat_ofNat n h]; simpa [Addr.add] using hb)

/-- The byte of a short number that isn't its last one. -/
def hiByte (n : Nat) : UInt8 := UInt8.ofNat (n % 128 + 128)

/-- What a number is turned from. -/
def backOf (x : Int) : Int := if x < 0 then 0 else if x % 2 = 1 then -(x / 2) - 1 else x / 2
theorem back_turn (x : Int) (h0 : -36028797018963968 ≤ x) (h1 : x < 36028797018963968) : backOf (turnOf x) = x := by
  have e : turnOf x = if x < 0 then -2 * x - 1 else 2 * x := by unfold turnOf; rw [if_pos ⟨h0, h1⟩]
  rw [e]
  unfold backOf
  split <;> (repeat' split) <;> omega
theorem turn_range (x : Int) (h0 : -36028797018963968 ≤ x) (h1 : x < 36028797018963968) : 0 ≤ turnOf x ∧ turnOf x ≤ 72057594037927935 := by
  unfold turnOf; rw [if_pos ⟨h0, h1⟩]; split <;> omega

set_option maxRecDepth 100000 in
set_option maxHeartbeats 1000000 in
theorem back_any (x : Int) (w : World) (hx : x ≤ 9223372036854775807) :
    Calls Try.prog 25 #[.int .i64 x] w fun e w' => e = .returned (.int .i64 (backOf x)) ∧ w = w' := by
  by_cases h : x < 0
  · have HT := Lib.hid (show backOf x = 0 by unfold backOf; rw [if_pos h])
    go_enter Try.func25, Try.ntmps25
    go_wp2
    go_ret
    exact ⟨by rw [HT.out]; rfl, rfl⟩
  · by_cases h2 : x % 2 = 1
    · have HT := Lib.hid (show backOf x = -(x / 2) - 1 by unfold backOf; rw [if_neg h, if_pos h2])
      have hb : (x % 2 == 1) = true := beq_iff_eq.2 h2
      have H2 := Lib.hid h2
      clear h2
      go_enter Try.func25, Try.ntmps25
      go_wp2
      go_ret
      exact ⟨by rw [HT.out]; rfl, rfl⟩
    · have HT := Lib.hid (show backOf x = x / 2 by unfold backOf; rw [if_neg h, if_neg h2])
      have hb : (x % 2 == 1) = false := beq_eq_false_iff_ne.2 h2
      clear h2
      go_enter Try.func25, Try.ntmps25
      go_wp2
      go_ret
      exact ⟨by rw [HT.out]; rfl, rfl⟩

set_option maxRecDepth 100000 in
set_option maxHeartbeats 1000000 in
theorem putTurned_ok (x : Int) (w : World) (h0 : -36028797018963968 ≤ x) (h1 : x < 36028797018963968) :
    Calls Try.prog 22 #[.int .i64 x] w fun e w' => e = .returned (.tuple #[.string ⟨(short (turnOf x).toNat).toArray⟩, .nilIface]) ∧ Below w.heap.size w w' := by
  have ht := turnB_true h0 h1
  obtain ⟨r0, r1⟩ := turn_range x h0 h1
  go_enter Try.func22, Try.ntmps22
  go_wp2_with (first | (go_at_call 26; refine (turns_any _ _).mono ?_; rintro e w1 ⟨rfl, rfl⟩) | (go_at_call 27; refine (turn_any _ _).mono ?_; rintro e w1 ⟨rfl, rfl⟩) | (go_at_call 16; refine (putShort_ok _ _ r0 r1).mono ?_; rintro e w1 ⟨rfl, hb1⟩))
  go_ret2
  exact ⟨rfl, by assumption⟩

set_option maxRecDepth 100000 in
set_option maxHeartbeats 1000000 in
theorem putTurned_bad (x : Int) (w : World) (h : x < -36028797018963968 ∨ 36028797018963968 ≤ x) :
    Calls Try.prog 22 #[.int .i64 x] w fun e w' => e = .returned (.tuple #[.string ⟨#[]⟩, errnoV 2]) ∧ w = w' := by
  have ht := turnB_false h
  clear h
  go_enter Try.func22, Try.ntmps22
  go_wp2_with (first | (go_at_call 26; refine (turns_any _ _).mono ?_; rintro e w1 ⟨rfl, rfl⟩))
  go_ret2
  exact ⟨rfl, rfl⟩

/-- The parts of what Short answers. -/
def shX (s : ByteArray) (p : Int) : Int := ((rd (s.data.toList.drop p.toNat)).1 : Int)
def shN (s : ByteArray) (p : Int) : Int := p + ((rd (s.data.toList.drop p.toNat)).2.1 : Int)
def shE (s : ByteArray) (p : Int) : Value := rdErr s.size p (rd (s.data.toList.drop p.toNat)).2.2
theorem short_parts (s : ByteArray) (p : Int) (w : World) (hs : s.size ≤ maxLen) (h0 : 0 ≤ p) (h1 : p ≤ s.size) :
    Calls Try.prog 18 #[.string s, .int .i64 p] w fun e w' => e = .returned (.tuple #[.int .i64 (shX s p), .int .i64 (shN s p), shE s p]) ∧ w = w' := short_any s p w hs h0 h1
theorem shX_range (s : ByteArray) (p : Int) : 0 ≤ shX s p ∧ shX s p ≤ 72057594037927935 := by
  unfold shX
  by_cases h : (rd (s.data.toList.drop p.toNat)).2.2 = 0
  · have := (short_of_rd _ h).2.1; omega
  · have := rdF_err 8 false _ h
    have : rd (s.data.toList.drop p.toNat) = (0, 0, (rd (s.data.toList.drop p.toNat)).2.2) := this
    rw [this]; exact ⟨Int.le_refl _, by simp⟩

set_option maxRecDepth 100000 in
set_option maxHeartbeats 1000000 in
theorem turned_parts (s : ByteArray) (p : Int) (w : World) (hs : s.size ≤ maxLen) (h0 : 0 ≤ p) (h1 : p ≤ s.size) :
    Calls Try.prog 20 #[.string s, .int .i64 p] w fun e w' => e = .returned (.tuple #[.int .i64 (backOf (shX s p)), .int .i64 (shN s p), shE s p]) ∧ w = w' := by
  obtain ⟨r0, r1⟩ := shX_range s p
  have r2 : shX s p ≤ 9223372036854775807 := by omega
  go_enter Try.func20, Try.ntmps20
  go_wp2_with (first | (go_at_call 18; refine (short_parts _ _ _ hs h0 h1).mono ?_; rintro e w1 ⟨rfl, rfl⟩) | (go_at_call 25; refine (back_any _ _ r2).mono ?_; rintro e w1 ⟨rfl, rfl⟩))
  go_ret3
  exact ⟨rfl, rfl⟩

/-- What is written is read, wherever it stands. -/
theorem sh_at {s : ByteArray} {A t : List UInt8} {n : Nat} {p : Int} (hn : n < 2 ^ 56) (hs : s.data.toList = A ++ short n ++ t) (hp : p = (A.length : Int)) :
    shX s p = (n : Int) ∧ shN s p = p + ((short n).length : Int) ∧ shE s p = .nilIface := by
  have e : rd (s.data.toList.drop p.toNat) = (n, (short n).length, 0) := by
    rw [hs, hp, Int.toNat_natCast, List.append_assoc, List.drop_left]; exact rd_short n t hn
  unfold shX shN shE
  rw [e]
  exact ⟨rfl, rfl, rfl⟩

end Go.Proofs.Ytoggeiaofpdboaa.Oct
