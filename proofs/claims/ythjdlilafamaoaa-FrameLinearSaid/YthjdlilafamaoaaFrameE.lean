/- Contracts of layer 3 (frame): Open of a frame; the document's example. -/
import Derived.Test.YthjdlilafamaoaaFrameD
namespace Go.Proofs.Ythjdlilafamaoaa.Frame
open Go.RowKit Go.Lib

theorem next_zero (s t : ByteArray) (r : List UInt8) (w : World) (hs : s.size ≤ 281474976710656) (ht : t.size ≤ 60000) (h : s.data.toList = frameB t.data.toList ++ r) :
    Calls Try.prog 11 #[.string s, .int .i64 0] w fun e w' => e = .returned (.tuple #[.string t, .int .i64 ((6 + t.size : Nat) : Int), .nilIface]) ∧ Below w.heap.size w w' := by
  have := next_here s t 0 r w hs ht (by simpa using h)
  rw [Nat.zero_add] at this
  exact this

set_option maxRecDepth 100000 in
set_option maxHeartbeats 1000000 in
theorem open_ok (s t : ByteArray) (w : World) (ht : t.size ≤ 60000) (h : s.data.toList = frameB t.data.toList) :
    Calls Try.prog 9 #[.string s] w fun e w' => e = .returned (.tuple #[.string t, .nilIface]) ∧ Below w.heap.size w w' := by
  have HH := Lib.hid (show s.data.toList = frameB t.data.toList ++ [] by rw [h, List.append_nil])
  have HZ := Lib.hid (show s.size = t.size + 6 by have := congrArg List.length h; rw [frameB_len] at this; exact this)
  have HZ2 := Lib.hid (show s.size ≤ 281474976710656 by have := HZ.out; omega)
  have hlt : ¬ (6 + (t.size : Int) < (s.size : Int)) := by have := HZ.out; omega
  have hz : (s.size : Int) ≤ 70000 := by have := HZ.out; omega
  have hd : decide (6 + (t.size : Int) < (s.size : Int)) = false := decide_eq_false hlt
  have hd2 : decide (6 + t.size < s.size) = false := decide_eq_false (by omega)
  clear h
  go_enter Try.func9, Try.ntmps9
  go_wp2_with (go_at_call 11; refine (next_zero s t [] _ HZ2.out ht HH.out).mono ?_; rintro e w1 ⟨rfl, hb1⟩)
  go_ret2
  exact ⟨rfl, by assumption⟩

def oneX : ByteArray := ⟨#[120]⟩
def digits9 : ByteArray := ⟨#[49, 50, 51, 52, 53, 54, 55, 56, 57]⟩
theorem crc9 : crc digits9.data.toList = 3808858755 := by decide +kernel
theorem seal_x (w : World) : Calls Try.prog 6 #[.string ⟨#[120]⟩] w fun e w' => e = .returned (.tuple #[.string (frameS oneX), .nilIface]) ∧ Below w.heap.size w w' := seal_ok oneX w (by decide)
theorem open_x (w : World) : Calls Try.prog 9 #[.string (frameS oneX)] w fun e w' => e = .returned (.tuple #[.string ⟨#[120]⟩, .nilIface]) ∧ Below w.heap.size w w' := open_ok (frameS oneX) oneX w (by decide) rfl
theorem sum_9 (w : World) (c : Nat) : Calls Try.prog 8 #[.slice (some ⟨w.heap.size, 0, none⟩) 1 c] (w.alloc (.cells #[.string ⟨#[49, 50, 51, 52, 53, 54, 55, 56, 57]⟩] 9)) fun e w' => e = .returned (.int .i64 3808858755) ∧ Below w.heap.size w w' :=
  sum_told digits9 3808858755 w c (by decide) crc9.symm

set_option maxRecDepth 100000 in
set_option maxHeartbeats 1000000 in
theorem awake_any (w : World) :
    Calls Try.prog 5 #[] w fun e w' => e = .returned (.bool true) ∧ Below w.heap.size w w' := by
  go_enter Try.func5, Try.ntmps5
  go_wp2_with (go_at_call 6; refine (seal_x _).mono ?_; rintro e w1 ⟨rfl, hb1⟩; refine Hid.out ?_)
  refine Lib.hid ?_
  have HB1 := Lib.hid hb1
  clear hb1
  go_wp2_with (go_at_call 9; refine (open_x _).mono ?_; rintro e w2 ⟨rfl, hb2⟩; refine Hid.out ?_)
  refine Lib.hid ?_
  have HB2 := Lib.hid (HB1.out.trans (hb2.mono HB1.out.size))
  clear hb2
  go_wp2_with (go_at_call 8; refine (sum_9 w2 _).mono ?_; rintro e w3 ⟨rfl, hb3⟩; refine Hid.out ?_)
  refine Lib.hid ?_
  have HB3 := Lib.hid (HB2.out.trans (hb3.mono HB2.out.size))
  clear hb3
  go_wp2
  go_ret
  exact ⟨rfl, HB3.out⟩
end Go.Proofs.Ythjdlilafamaoaa.Frame
