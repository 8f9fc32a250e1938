/- The walk of the law OctetOnce: bytes that are read as a short number are just those that are written for it. -/
import Derived.Test.YtahngmddhpnjgaaOctD
import Derived.Lib.Strings
namespace Go.Proofs.Ytahngmddhpnjgaa.Oct
open Go.RowKit Go.Lib

/-- What stands behind a reading of a short number at the beginning: an error, with nothing read. -/
theorem once_err (s : ByteArray) (h : (rd s.data.toList).2.2 ≠ 0) : shortAns s 0 = .tuple #[.int .i64 0, .int .i64 0, rdErr s.size 0 (rd s.data.toList).2.2] := by
  unfold shortAns
  have e := rdF_err 8 false s.data.toList h
  have e' : rd s.data.toList = (0, 0, (rd s.data.toList).2.2) := e
  simp only [Int.toNat_zero, List.drop_zero]
  rw [e']; rfl
theorem once_ok (s : ByteArray) (h : (rd s.data.toList).2.2 = 0) : shortAns s 0 = .tuple #[.int .i64 ((rd s.data.toList).1 : Int), .int .i64 ((rd s.data.toList).2.1 : Int), .nilIface] := by
  unfold shortAns
  simp only [Int.toNat_zero, List.drop_zero, h, rdErr, if_true]
  simp
theorem rd_code (l : List UInt8) : (rd l).2.2 = 0 ∨ (rd l).2.2 = 3 ∨ (rd l).2.2 = 4 := by
  have : ∀ (m : Nat) (nf : Bool) (l : List UInt8), (rdF m nf l).2.2 = 0 ∨ (rdF m nf l).2.2 = 3 ∨ (rdF m nf l).2.2 = 4 := by
    intro m
    induction m with
    | zero => intro nf l; simp [rdF]
    | succ m ih =>
      intro nf l
      match l with
      | [] => simp [rdF]
      | b :: r =>
        have := ih true r
        rw [rdF]
        split
        · simp
        · split
          · simp
          · split <;> simp_all
  exact this 8 false l
theorem extract_take (s : ByteArray) (k : Nat) : (s.extract 0 k).data.toList = s.data.toList.take k := by simp [ByteArray.extract, ByteArray.copySlice]

set_option maxRecDepth 100000 in
set_option maxHeartbeats 1000000 in
theorem once_walk (s : ByteArray) (hs : s.size ≤ maxLen) (w : World) :
    Calls Try.prog 3 #[.string s] w fun e w' => e = .returned (.bool true) ∧ Below w.heap.size w w' := by
  have hs2 := hs
  unfold maxLen at hs2
  by_cases h300 : 300 < s.size
  · go_enter Try.func3, Try.ntmps3
    go_wp2_with (go_at_call 4; refine (awake_any _).mono ?_; rintro e w1 ⟨rfl, hb1⟩)
    go_ret
    exact ⟨rfl, hb1⟩
  · by_cases hc : (rd s.data.toList).2.2 = 0
    · obtain ⟨q1, q2, q3, q4, q5⟩ := short_of_rd s.data.toList hc
      have HA := Lib.hid (once_ok s hc)
      obtain ⟨x, hx⟩ : ∃ x, (rd s.data.toList).1 = x := ⟨_, rfl⟩
      obtain ⟨n, hn⟩ : ∃ n, (rd s.data.toList).2.1 = n := ⟨_, rfl⟩
      rw [hx, hn] at q1
      rw [hx] at q2
      rw [hn] at q3 q4 q5
      have HA' := Lib.hid (show shortAns s 0 = .tuple #[.int .i64 (x : Int), .int .i64 (n : Int), .nilIface] by rw [HA.out, hx, hn])
      have q3' : n ≤ s.size := by simpa using q3
      have Q1 := Lib.hid q1
      have hx56 : (x : Int) ≤ 72057594037927935 := by omega
      clear q1 q2 q3 HA hx hn hc
      go_enter Try.func3, Try.ntmps3
      go_wp2_with (go_at_call 4; refine (awake_any _).mono ?_; rintro e w1 ⟨rfl, hb1⟩; refine Hid.out ?_)
      refine Lib.hid ?_
      go_wp2_with (go_at_call 5; refine (short_any _ _ _ hs (by omega) (by omega)).mono ?_; rintro e w2 ⟨rfl, rfl⟩; rw [HA'.out]; refine Hid.out ?_)
      refine Lib.hid ?_
      go_wp2_with (go_at_call 6; refine (putShort_ok _ _ (by omega) (by omega)).mono ?_; rintro e w2 ⟨rfl, hb2⟩; rw [Int.toNat_natCast, Q1.out]; refine Hid.out ?_)
      refine Lib.hid ?_
      have he : (List.take n s.data.toList == (s.extract 0 n).toList) = true := by
        rw [beq_iff_eq, ← extract_take]; exact (toList_data _).symm
      go_wp2
      go_ret
      exact ⟨rfl, hb1.trans (hb2.mono hb1.size)⟩
    · have HA := Lib.hid (once_err s hc)
      obtain ⟨c, hcc⟩ : ∃ c, (rd s.data.toList).2.2 = c := ⟨_, rfl⟩
      rw [hcc] at HA hc
      have hcode := rd_code s.data.toList
      rw [hcc] at hcode
      have HV : Hid (∃ p, rdErr s.size 0 c = faultV p c) := Lib.hid (by
        rcases hcode with h | h | h
        · exact absurd h hc
        · subst h; exact ⟨_, rfl⟩
        · subst h; exact ⟨_, rfl⟩)
      obtain ⟨p, hp⟩ := HV.out
      unfold faultV at hp
      rw [hp] at HA
      clear hp HV hcode hcc hc
      go_enter Try.func3, Try.ntmps3
      go_wp2_with (go_at_call 4; refine (awake_any _).mono ?_; rintro e w1 ⟨rfl, hb1⟩; refine Hid.out ?_)
      refine Lib.hid ?_
      go_wp2_with (go_at_call 5; refine (short_any _ _ _ hs (by omega) (by omega)).mono ?_; rintro e w2 ⟨rfl, rfl⟩; rw [HA.out]; refine Hid.out ?_)
      refine Lib.hid ?_
      go_wp2
      go_ret
      exact ⟨rfl, hb1⟩

end Go.Proofs.Ytahngmddhpnjgaa.Oct
