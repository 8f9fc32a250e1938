/- Contracts of layer 3 (frame): Seal. -/
import Derived.Test.YthjdlilafamaoaaFrameA
namespace Go.Proofs.Ythjdlilafamaoaa.Frame
open Go.RowKit Go.Lib

/-- Bytes as a text. -/
def sbl (l : List UInt8) : ByteArray := ⟨l.toArray⟩
theorem sbl_data (l : List UInt8) : (sbl l).data.toList = l := rfl
theorem sbl_size (l : List UInt8) : (sbl l).size = l.length := rfl
theorem size_eq (s : ByteArray) : s.size = s.data.toList.length := rfl
theorem ba_eq {s t : ByteArray} (h : s.data.toList = t.data.toList) : s = t := by
  cases s; cases t; simp at h; subst h; rfl
theorem sbl_of (s : ByteArray) : sbl s.data.toList = s := ba_eq rfl
theorem sbl_app (a b : List UInt8) : sbl a ++ sbl b = sbl (a ++ b) := ba_eq (by simp [sbl])
theorem data_app (a b : ByteArray) : (a ++ b).data.toList = a.data.toList ++ b.data.toList := by simp
theorem sbl_app_s (a : List UInt8) (s : ByteArray) : sbl a ++ s = sbl (a ++ s.data.toList) := by
  conv => lhs; rw [← sbl_of s]
  rw [sbl_app]

theorem sarg_one (w : World) (s : ByteArray) (t : TypeId) : Oct.SArg (w.alloc (.cells #[.string s] t)) (some ⟨w.heap.size, 0, none⟩) 1 (fun _ => .string s) := fun k hk => by
  have : k = 0 := by omega
  subst this
  exact ⟨_, 0, rfl, by simp, by rw [World.cell?_alloc_at _ _ _ _ rfl]; rfl⟩
theorem sum_one (s : ByteArray) (w : World) (c : Nat) (hs : s.size ≤ maxLen) :
    Calls Try.prog 8 #[.slice (some ⟨w.heap.size, 0, none⟩) 1 c] (w.alloc (.cells #[.string s] 9)) fun e w' => e = .returned (.int .i64 ((crc s.data.toList : Nat) : Int)) ∧ Below w.heap.size w w' :=
  (sum_any _ 1 c (fun _ => s) _ (by omega) (sarg_one w s _) (fun _ _ => hs)).mono fun _ _ ⟨he, hb⟩ => ⟨by rw [he]; simp [cat], ((Below.refl _ _).alloc (Nat.le_refl _) _).trans (hb.mono (by simp))⟩
theorem sarg_two (w : World) (s u : ByteArray) (t : TypeId) : Oct.SArg (w.alloc (.cells #[.string s, .string u] t)) (some ⟨w.heap.size, 0, none⟩) 2 (fun k => .string (if k = 0 then s else u)) := fun k hk => by
  rcases (show k = 0 ∨ k = 1 by omega) with rfl | rfl
  · exact ⟨_, 0, rfl, by simp, by rw [World.cell?_alloc_at _ _ _ _ rfl]; rfl⟩
  · exact ⟨_, 0, rfl, by simp, by rw [World.cell?_alloc_at _ _ _ _ rfl]; rfl⟩
theorem sum_two (s u : ByteArray) (w : World) (c : Nat) (hs : s.size ≤ maxLen) (hu : u.size ≤ maxLen) :
    Calls Try.prog 8 #[.slice (some ⟨w.heap.size, 0, none⟩) 2 c] (w.alloc (.cells #[.string s, .string u] 9)) fun e w' => e = .returned (.int .i64 ((crc (s.data.toList ++ u.data.toList) : Nat) : Int)) ∧ Below w.heap.size w w' :=
  (sum_any _ 2 c (fun k => if k = 0 then s else u) _ (by omega) (sarg_two w s u _) (fun k _ => by split <;> assumption)).mono fun _ _ ⟨he, hb⟩ => ⟨by rw [he]; simp [cat], ((Below.refl _ _).alloc (Nat.le_refl _) _).trans (hb.mono (by simp))⟩

theorem putFixed_sbl (n x : Nat) (w : World) (h0 : 1 ≤ n) (h1 : n ≤ 7) (hx : x < Oct.pw n) :
    Calls Try.prog 10 #[.int .i64 (n : Int), .int .i64 (x : Int)] w fun e w' => e = .returned (.tuple #[.string (sbl (Oct.fixedB n x)), .nilIface]) ∧ Below w.heap.size w w' := Oct.putFixed_ok n x w h0 h1 hx
theorem pw2 : Oct.pw 2 = 65536 := by decide
theorem pw4 : Oct.pw 4 = 4294967296 := by decide
def frameS (s : ByteArray) : ByteArray := sbl (frameB s.data.toList)
theorem frameS_size (s : ByteArray) : (frameS s).size = s.size + 6 := frameB_len _
theorem fixed_put2 (x : Nat) (w : World) (hx : x ≤ 60000) :
    Calls Try.prog 10 #[.int .i64 2, .int .i64 (x : Int)] w fun e w' => e = .returned (.tuple #[.string (sbl (Oct.fixedB 2 x)), .nilIface]) ∧ Below w.heap.size w w' := putFixed_sbl 2 x w (by omega) (by omega) (by rw [pw2]; omega)
theorem fixed_put4 (x : Nat) (w : World) (hx : x < 4294967296) :
    Calls Try.prog 10 #[.int .i64 4, .int .i64 (x : Int)] w fun e w' => e = .returned (.tuple #[.string (sbl (Oct.fixedB 4 x)), .nilIface]) ∧ Below w.heap.size w w' := putFixed_sbl 4 x w (by omega) (by omega) (by rw [pw4]; omega)

set_option maxRecDepth 100000 in
set_option maxHeartbeats 1000000 in
theorem seal_ok (s : ByteArray) (w : World) (hs : s.size ≤ 60000) :
    Calls Try.prog 6 #[.string s] w fun e w' => e = .returned (.tuple #[.string (frameS s), .nilIface]) ∧ Below w.heap.size w w' := by
  have z2 : (sbl (Oct.fixedB 2 s.size)).size ≤ 2 := by rw [sbl_size, Oct.fixedB_len]; omega
  go_enter Try.func6, Try.ntmps6
  go_wp2_with (go_at_call 10; refine (fixed_put2 _ _ hs).mono ?_; rintro e w1 ⟨rfl, hb1⟩; refine Hid.out ?_)
  refine Lib.hid ?_
  have HB1 := Lib.hid hb1
  clear hb1
  go_wp2_with (go_at_call 8; refine (sum_two _ _ w1 2 (by unfold maxLen; omega) (by unfold maxLen; omega)).mono ?_; rintro e w2 ⟨rfl, hb2⟩; refine Hid.out ?_)
  refine Lib.hid ?_
  have HB2 := Lib.hid (HB1.out.trans (hb2.mono HB1.out.size))
  clear hb2
  obtain ⟨x, hx⟩ : ∃ x, crc ((sbl (Oct.fixedB 2 s.size)).data.toList ++ s.data.toList) = x := ⟨_, rfl⟩
  have hxl : x < 4294967296 := by rw [← hx]; exact crc_lt _
  have HX := Lib.hid hx
  rw [hx]
  clear hx
  have z4 : (sbl (Oct.fixedB 4 x)).size ≤ 4 := by rw [sbl_size, Oct.fixedB_len]; omega
  go_wp2_with (go_at_call 10; refine (fixed_put4 _ _ hxl).mono ?_; rintro e w3 ⟨rfl, hb3⟩; refine Hid.out ?_)
  refine Lib.hid ?_
  have HB3 := Lib.hid (HB2.out.trans (hb3.mono HB2.out.size))
  clear hb3
  have z6 : (sbl (Oct.fixedB 4 x) ++ sbl (Oct.fixedB 2 s.size)).size ≤ 6 := by rw [sbl_app, sbl_size, List.length_append, Oct.fixedB_len, Oct.fixedB_len]; omega
  go_wp2
  go_ret2
  refine ⟨?_, HB3.out⟩
  rw [sbl_app, sbl_app_s, ← HX.out, List.append_assoc]
  rfl

set_option maxRecDepth 100000 in
set_option maxHeartbeats 1000000 in
theorem seal_long (s : ByteArray) (w : World) (hs : s.size ≤ maxLen) (h : 60000 < s.size) :
    Calls Try.prog 6 #[.string s] w fun e w' => e = .returned (.tuple #[.string ⟨#[]⟩, Oct.errnoV 6]) ∧ w = w' := by
  unfold maxLen at hs
  go_enter Try.func6, Try.ntmps6
  go_wp2
  go_ret2
  exact ⟨rfl, rfl⟩
end Go.Proofs.Ythjdlilafamaoaa.Frame
