/- Contracts of layer 1 (octet): turned numbers; the document's own answers for short and turned ones. -/
import Derived.Test.YthjdlilafamaoaaOctD
import Derived.Deep.RegionWith
namespace Go.Proofs.Ythjdlilafamaoaa.Oct
open Go.RowKit Go.Lib

theorem one_string (w : World) (n : Nat) (h : n < 256) (T E S : TypeId) (hT : Try.prog.underlying T = some (.slice E)) (hE : Try.prog.underlying E = some (.int .u8)) (hS : Try.prog.underlying S = some .string) (c : Nat) (b : Nat)
    (hb : w.cell? ⟨b, 0, none⟩ = some (.int .u8 (n : Int))) :
    (convert T S (.slice (some ⟨b, 0, none⟩) 1 c)).run Try.prog w = .ok (.string ⟨#[UInt8.ofNat n]⟩) w :=
  run_convert_bytes_back (P := Try.prog) w T S E ⟨b, 0, none⟩ c [UInt8.ofNat n] hT hE hS (fun j hj => by
    match j, hj with
    | 0, _ => rw [List.getElem_cons_zero, toNat_ofNat n h]; simpa [Addr.add] using hb)

/-- The byte of a short number that isn't its last one. -/
def hiByte (n : Nat) : UInt8 := UInt8.ofNat (n % 128 + 128)

/-- What a number is turned from. -/
def backOf (x : Int) : Int := if x < 0 then 0 else if x % 2 = 1 then -(x / 2) - 1 else x / 2
theorem back_turn (x : Int) (h0 : -36028797018963968 ≤ x) (h1 : x < 36028797018963968) : backOf (turnOf x) = x := by
  have e : turnOf x = if x < 0 then -2 * x - 1 else 2 * x := by unfold turnOf; rw [if_pos ⟨h0, h1⟩]
  rw [e]
  unfold backOf
  split <;> (repeat' split) <;> omega
theorem turn_range (x : Int) (h0 : -36028797018963968 ≤ x) (h1 : x < 36028797018963968) : 0 ≤ turnOf x ∧ turnOf x ≤ 72057594037927935 := by
  unfold turnOf; rw [if_pos ⟨h0, h1⟩]; split <;> omega

/-- The parts of what Short answers. -/
def shX (s : ByteArray) (p : Int) : Int := ((rd (s.data.toList.drop p.toNat)).1 : Int)
def shN (s : ByteArray) (p : Int) : Int := p + ((rd (s.data.toList.drop p.toNat)).2.1 : Int)
def shE (s : ByteArray) (p : Int) : Value := rdErr s.size p (rd (s.data.toList.drop p.toNat)).2.2
theorem shX_range (s : ByteArray) (p : Int) : 0 ≤ shX s p ∧ shX s p ≤ 72057594037927935 := by
  unfold shX
  by_cases h : (rd (s.data.toList.drop p.toNat)).2.2 = 0
  · have := (short_of_rd _ h).2.1; omega
  · have := rdF_err 8 false _ h
    have : rd (s.data.toList.drop p.toNat) = (0, 0, (rd (s.data.toList.drop p.toNat)).2.2) := this
    rw [this]; exact ⟨Int.le_refl _, by simp⟩

/-- What is written is read, wherever it stands. -/
theorem sh_at {s : ByteArray} {A t : List UInt8} {n : Nat} {p : Int} (hn : n < 2 ^ 56) (hs : s.data.toList = A ++ short n ++ t) (hp : p = (A.length : Int)) :
    shX s p = (n : Int) ∧ shN s p = p + ((short n).length : Int) ∧ shE s p = .nilIface := by
  have e : rd (s.data.toList.drop p.toNat) = (n, (short n).length, 0) := by
    rw [hs, hp, Int.toNat_natCast, List.append_assoc, List.drop_left]; exact rd_short n t hn
  unfold shX shN shE
  rw [e]
  exact ⟨rfl, rfl, rfl⟩

end Go.Proofs.Ythjdlilafamaoaa.Oct
