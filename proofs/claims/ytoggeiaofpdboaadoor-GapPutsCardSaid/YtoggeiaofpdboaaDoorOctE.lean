/- Contracts of layer 1 (octet): turned numbers; the document's own answers for short and turned ones. -/
import Derived.Test.YtoggeiaofpdboaaDoorOctD
import Derived.Deep.RegionWith
namespace Go.Proofs.YtoggeiaofpdboaaDoor.Oct
open Go.RowKit Go.Lib

theorem one_string (w : World) (n : Nat) (h : n < 256) (T E S : TypeId) (hT : Tryd.prog.underlying T = some (.slice E)) (hE : Tryd.prog.underlying E = some (.int .u8)) (hS : Tryd.prog.underlying S = some .string) (c : Nat) (b : Nat)
    (hb : w.cell? ⟨b, 0, none⟩ = some (.int .u8 (n : Int))) :
    (convert T S (.slice (some ⟨b, 0, none⟩) 1 c)).run Tryd.prog w = .ok (.string ⟨#[UInt8.ofNat n]⟩) w :=
  run_convert_bytes_back (P := Tryd.prog) w T S E ⟨b, 0, none⟩ c [UInt8.ofNat n] hT hE hS (fun j hj => by
    match j, hj with
    | 0, _ => rw [List.getElem_cons_zero, toNat_ofNat n h]; simpa [Addr.add] using hb)

/-- The byte of a short number that isn't its last one. -/
def hiByte (n : Nat) : UInt8 := UInt8.ofNat (n % 128 + 128)

set_option maxRecDepth 100000 in
set_option maxHeartbeats 1000000 in
theorem refShort_any : ∀ (n : Nat) (w : World), (n : Int) ≤ 9223372036854775807 →
    Calls Tryd.prog 29 #[.int .i64 (n : Int)] w fun e w' => e = .returned (.string ⟨(short n).toArray⟩) ∧ Below w.heap.size w w' := by
  intro n
  induction n using Nat.strongRecOn with
  | _ n ih =>
    intro w hn
    by_cases hlt : n < 128
    · have hby : IntKind.u8.wrap (n : Int) = (n : Int) := by simp [IntKind.wrap, IntKind.bits, IntKind.signed]; omega
      have hcv := one_string (w.alloc (.cells #[.int .u8 (n : Int)] 5)) n (by omega) 52 5 9 Tryd.underlying52 Tryd.underlying5 Tryd.underlying9 1 w.heap.size (by simp)
      have HS := Lib.hid (short_lt n hlt)
      clear ih
      go_enter Tryd.func29, Tryd.ntmps29
      go_wp2
      go_ret
      exact ⟨by rw [HS.out]; rfl, (Below.refl _ _).alloc (Nat.le_refl _) _⟩
    · have IH := Lib.hid (ih (n / 128) (by omega))
      clear ih
      have HS := Lib.hid (show short n = [hiByte n] ++ short (n / 128) from short_ge n (by omega) (by omega))
      have e0 : (n : Int).tmod 128 = (n : Int) % 128 := Int.tmod_eq_emod_of_nonneg (by omega)
      have e1 : IntKind.i64.wrap ((n : Int) % 128 + 128) = (n : Int) % 128 + 128 := IntWalk.i64_in _ (by omega)
      have e2 : IntKind.u8.wrap ((n : Int) % 128 + 128) = (n : Int) % 128 + 128 := IntWalk.u8_in _ (by omega)
      have e3 : IntKind.i64.wrap ((n : Int) / 128) = (n : Int) / 128 := IntWalk.i64_in _ (by omega)
      have hcv : ∀ (W : World) (b : Nat), W.cell? ⟨b, 0, none⟩ = some (.int .u8 ((n : Int) % 128 + 128)) → (convert 52 9 (.slice (some ⟨b, 0, none⟩) 1 1)).run Tryd.prog W = .ok (.string ⟨[hiByte n].toArray⟩) W :=
        fun W b hW => one_string W (n % 128 + 128) (by omega) 52 5 9 Tryd.underlying52 Tryd.underlying5 Tryd.underlying9 1 b (by rw [hW]; rfl)
      have hl9 := short_len9 (n / 128) (by omega)
      have hadd : ∀ W : World, (Op.stringOp .add ⟨[hiByte n].toArray⟩ ⟨(short (n / 128)).toArray⟩).run Tryd.prog W = .ok (.string ⟨([hiByte n] ++ short (n / 128)).toArray⟩) W :=
        fun W => run_string_add_lists W _ _ (by simp) (by omega)
      go_enter Tryd.func29, Tryd.ntmps29
      go_wp2_with fail
      go_region_with (go_at_call 29; refine (IH.out _ (by omega)).mono ?_; rintro e w' ⟨rfl, hb⟩; have hcell := fun h => hb.cell (p := ⟨w.heap.size, 0, none⟩) h)
      all_goals
        go_wp2
        go_ret
        refine ⟨?_, ?_⟩
        · rw [HS.out]; rfl
        · first
          | exact ((((Below.refl _ _).alloc (Nat.le_refl _) _).drew).trans (hb.mono (by simp)))
          | exact (((Below.refl _ _).drew.trans hb).alloc hb.size _)

set_option maxRecDepth 100000 in
set_option maxHeartbeats 1000000 in
theorem refTurn_any (x : Int) (w : World) (h0 : -36028797018963968 ≤ x) (h1 : x < 36028797018963968) :
    Calls Tryd.prog 30 #[.int .i64 x] w fun e w' => e = .returned (.int .i64 (turnOf x)) ∧ w = w' := by
  by_cases h2 : x < 0
  · have HT := Lib.hid (show turnOf x = 0 - 2 * x - 1 by unfold turnOf; rw [if_pos ⟨h0, h1⟩, if_pos h2]; omega)
    go_enter Tryd.func30, Tryd.ntmps30
    go_wp2
    go_ret
    exact ⟨retI (by rw [HT.out]; omega), rfl⟩
  · have HT := Lib.hid (show turnOf x = 2 * x by unfold turnOf; rw [if_pos ⟨h0, h1⟩, if_neg h2])
    go_enter Tryd.func30, Tryd.ntmps30
    go_wp2
    go_ret
    exact ⟨by rw [HT.out]; rfl, rfl⟩

/-- What a number is turned from. -/
def backOf (x : Int) : Int := if x < 0 then 0 else if x % 2 = 1 then -(x / 2) - 1 else x / 2
theorem back_turn (x : Int) (h0 : -36028797018963968 ≤ x) (h1 : x < 36028797018963968) : backOf (turnOf x) = x := by
  have e : turnOf x = if x < 0 then -2 * x - 1 else 2 * x := by unfold turnOf; rw [if_pos ⟨h0, h1⟩]
  rw [e]
  unfold backOf
  split <;> (repeat' split) <;> omega
theorem turn_range (x : Int) (h0 : -36028797018963968 ≤ x) (h1 : x < 36028797018963968) : 0 ≤ turnOf x ∧ turnOf x ≤ 72057594037927935 := by
  unfold turnOf; rw [if_pos ⟨h0, h1⟩]; split <;> omega

set_option maxRecDepth 100000 in
set_option maxHeartbeats 1000000 in
theorem back_any (x : Int) (w : World) (hx : x ≤ 9223372036854775807) :
    Calls Tryd.prog 48 #[.int .i64 x] w fun e w' => e = .returned (.int .i64 (backOf x)) ∧ w = w' := by
  by_cases h : x < 0
  · have HT := Lib.hid (show backOf x = 0 by unfold backOf; rw [if_pos h])
    go_enter Tryd.func48, Tryd.ntmps48
    go_wp2
    go_ret
    exact ⟨by rw [HT.out]; rfl, rfl⟩
  · by_cases h2 : x % 2 = 1
    · have HT := Lib.hid (show backOf x = -(x / 2) - 1 by unfold backOf; rw [if_neg h, if_pos h2])
      have hb : (x % 2 == 1) = true := beq_iff_eq.2 h2
      have H2 := Lib.hid h2
      clear h2
      go_enter Tryd.func48, Tryd.ntmps48
      go_wp2
      go_ret
      exact ⟨by rw [HT.out]; rfl, rfl⟩
    · have HT := Lib.hid (show backOf x = x / 2 by unfold backOf; rw [if_neg h, if_neg h2])
      have hb : (x % 2 == 1) = false := beq_eq_false_iff_ne.2 h2
      clear h2
      go_enter Tryd.func48, Tryd.ntmps48
      go_wp2
      go_ret
      exact ⟨by rw [HT.out]; rfl, rfl⟩

set_option maxRecDepth 100000 in
set_option maxHeartbeats 1000000 in
theorem putTurned_ok (x : Int) (w : World) (h0 : -36028797018963968 ≤ x) (h1 : x < 36028797018963968) :
    Calls Tryd.prog 35 #[.int .i64 x] w fun e w' => e = .returned (.tuple #[.string ⟨(short (turnOf x).toNat).toArray⟩, .nilIface]) ∧ Below w.heap.size w w' := by
  have ht := turnB_true h0 h1
  obtain ⟨r0, r1⟩ := turn_range x h0 h1
  go_enter Tryd.func35, Tryd.ntmps35
  go_wp2_with (first | (go_at_call 43; refine (turns_any _ _).mono ?_; rintro e w1 ⟨rfl, rfl⟩) | (go_at_call 44; refine (turn_any _ _).mono ?_; rintro e w1 ⟨rfl, rfl⟩) | (go_at_call 21; refine (putShort_ok _ _ r0 r1).mono ?_; rintro e w1 ⟨rfl, hb1⟩))
  go_ret2
  exact ⟨rfl, by assumption⟩

set_option maxRecDepth 100000 in
set_option maxHeartbeats 1000000 in
theorem putTurned_bad (x : Int) (w : World) (h : x < -36028797018963968 ∨ 36028797018963968 ≤ x) :
    Calls Tryd.prog 35 #[.int .i64 x] w fun e w' => e = .returned (.tuple #[.string ⟨#[]⟩, errnoV 2]) ∧ w = w' := by
  have ht := turnB_false h
  clear h
  go_enter Tryd.func35, Tryd.ntmps35
  go_wp2_with (first | (go_at_call 43; refine (turns_any _ _).mono ?_; rintro e w1 ⟨rfl, rfl⟩))
  go_ret2
  exact ⟨rfl, rfl⟩

/-- The parts of what Short answers. -/
def shX (s : ByteArray) (p : Int) : Int := ((rd (s.data.toList.drop p.toNat)).1 : Int)
def shN (s : ByteArray) (p : Int) : Int := p + ((rd (s.data.toList.drop p.toNat)).2.1 : Int)
def shE (s : ByteArray) (p : Int) : Value := rdErr s.size p (rd (s.data.toList.drop p.toNat)).2.2
theorem short_parts (s : ByteArray) (p : Int) (w : World) (hs : s.size ≤ maxLen) (h0 : 0 ≤ p) (h1 : p ≤ s.size) :
    Calls Tryd.prog 28 #[.string s, .int .i64 p] w fun e w' => e = .returned (.tuple #[.int .i64 (shX s p), .int .i64 (shN s p), shE s p]) ∧ w = w' := short_any s p w hs h0 h1
theorem shX_range (s : ByteArray) (p : Int) : 0 ≤ shX s p ∧ shX s p ≤ 72057594037927935 := by
  unfold shX
  by_cases h : (rd (s.data.toList.drop p.toNat)).2.2 = 0
  · have := (short_of_rd _ h).2.1; omega
  · have := rdF_err 8 false _ h
    have : rd (s.data.toList.drop p.toNat) = (0, 0, (rd (s.data.toList.drop p.toNat)).2.2) := this
    rw [this]; exact ⟨Int.le_refl _, by simp⟩

set_option maxRecDepth 100000 in
set_option maxHeartbeats 1000000 in
theorem turned_parts (s : ByteArray) (p : Int) (w : World) (hs : s.size ≤ maxLen) (h0 : 0 ≤ p) (h1 : p ≤ s.size) :
    Calls Tryd.prog 40 #[.string s, .int .i64 p] w fun e w' => e = .returned (.tuple #[.int .i64 (backOf (shX s p)), .int .i64 (shN s p), shE s p]) ∧ w = w' := by
  obtain ⟨r0, r1⟩ := shX_range s p
  have r2 : shX s p ≤ 9223372036854775807 := by omega
  go_enter Tryd.func40, Tryd.ntmps40
  go_wp2_with (first | (go_at_call 28; refine (short_parts _ _ _ hs h0 h1).mono ?_; rintro e w1 ⟨rfl, rfl⟩) | (go_at_call 48; refine (back_any _ _ r2).mono ?_; rintro e w1 ⟨rfl, rfl⟩))
  go_ret3
  exact ⟨rfl, rfl⟩

/-- What is written is read, wherever it stands. -/
theorem sh_at {s : ByteArray} {A t : List UInt8} {n : Nat} {p : Int} (hn : n < 2 ^ 56) (hs : s.data.toList = A ++ short n ++ t) (hp : p = (A.length : Int)) :
    shX s p = (n : Int) ∧ shN s p = p + ((short n).length : Int) ∧ shE s p = .nilIface := by
  have e : rd (s.data.toList.drop p.toNat) = (n, (short n).length, 0) := by
    rw [hs, hp, Int.toNat_natCast, List.append_assoc, List.drop_left]; exact rd_short n t hn
  unfold shX shN shE
  rw [e]
  exact ⟨rfl, rfl, rfl⟩

end Go.Proofs.YtoggeiaofpdboaaDoor.Oct
