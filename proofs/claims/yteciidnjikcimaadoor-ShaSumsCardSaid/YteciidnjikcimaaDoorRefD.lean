/- Contracts of layer 2: one of the words; the document's own digits. The walk of the law ShaWords. -/
import Derived.Test.YteciidnjikcimaaDoorRefC
namespace Go.Proofs.YteciidnjikcimaaDoor.Sha
open Go.RowKit Go.Lib

set_option maxRecDepth 100000 in
set_option maxHeartbeats 400000 in
theorem k_in (i : Nat) (w : World) (hT : Tabs w) (h : i < 64) :
    Calls Tryd.prog 15 #[.int .i64 (i : Int)] w fun e w' => e = .returned (.int .i64 ((wd kk i : Nat) : Int)) ∧ w = w' := by
  have hc : w.cell? ⟨1, i, none⟩ = some (.int .u32 ((wd kk i : Nat) : Int)) := hT.k i h
  have hb : wd kk i < 4294967296 := by
    have : ∀ i, i < 64 → wd kk i < 4294967296 := by decide
    exact this i h
  obtain ⟨x, hx⟩ : ∃ x, wd kk i = x := ⟨_, rfl⟩
  rw [hx] at hc hb ⊢
  clear hx hT
  go_enter Tryd.func15, Tryd.ntmps15
  go_wp2
  go_ret
  exact ⟨rfl, rfl⟩
set_option maxRecDepth 100000 in
set_option maxHeartbeats 400000 in
theorem k_out (i : Int) (w : World) (h : i < 0 ∨ 64 ≤ i) :
    Calls Tryd.prog 15 #[.int .i64 i] w fun e w' => e = .returned (.int .i64 0) ∧ w = w' := by
  by_cases h0 : i < 0
  · clear h
    go_enter Tryd.func15, Tryd.ntmps15
    go_wp2
    go_ret
    exact ⟨rfl, rfl⟩
  · have h1 : 64 ≤ i := by omega
    clear h
    go_enter Tryd.func15, Tryd.ntmps15
    go_wp2
    go_ret
    exact ⟨rfl, rfl⟩

theorem run_letter (v : World) (i : Nat) (x y : Int) (hx : x = (i : Int)) (hy : y = (i : Int) + 1) (hi : i < 16) : (Instr.sliceAt 9 (.string ⟨#[48, 49, 50, 51, 52, 53, 54, 55, 56, 57, 97, 98, 99, 100, 101, 102]⟩) (some (.int .i64 x)) (some (.int .i64 y)) none).run Tryd.prog v = .ok (.string (sbl [digits.getD i 0])) v := by
  subst hx hy
  have h : ∀ i, i < 16 → ((⟨#[48, 49, 50, 51, 52, 53, 54, 55, 56, 57, 97, 98, 99, 100, 101, 102]⟩ : ByteArray)).extract i (i + 1) = sbl [digits.getD i 0] := by decide
  have hsz : (⟨#[48, 49, 50, 51, 52, 53, 54, 55, 56, 57, 97, 98, 99, 100, 101, 102]⟩ : ByteArray).size = 16 := rfl
  rw [← h i hi]
  simp [Instr.sliceAt, run_underlying Tryd.underlying9, Instr.slice, Instr.sliceBounds, Instr.sliceBound, asIntOf, hsz, show (i : Int) + 1 ≤ 16 by omega, show 0 ≤ (i : Int) + 1 by omega, show ((i : Int) + 1).toNat = i + 1 by omega, show (i : Int) ≤ (i : Int) + 1 by omega]

set_option maxRecDepth 100000 in
set_option maxHeartbeats 400000 in
theorem refHex_any (s : ByteArray) (w : World) (hs : s.size ≤ 300) :
    Calls Tryd.prog 17 #[.string s] w fun e w' => e = .returned (.string (sbl (hexB s.data.toList s.size))) ∧ Below w.heap.size w w' := by
  go_enter Tryd.func17, Tryd.ntmps17
  go_wp2
  go_loopw [4, 5] (fun t i wr => ∃ k : Nat, k ≤ s.size ∧ i = .int .i64 k ∧ t = .string (sbl (hexB s.data.toList k)) ∧ Hid (Below w.heap.size w wr)) (fun _ i _ => s.size - (intOf i).toNat)
  case atStart => exact ⟨0, by omega, rfl, rfl, Lib.hid (Below.refl _ _)⟩
  case round =>
    obtain ⟨k, hk, rfl, rfl, HB⟩ := hrel
    have hsl : (sbl (hexB s.data.toList k)).size ≤ 600 := by rw [sbl_size, hexB_len]; omega
    by_cases hlt : k < s.size
    · have hb255 : s[k].toNat < 256 := s[k].toNat_lt
      have hbt : bt s.data.toList k = s[k].toNat := by
        unfold bt
        rw [List.getD_eq_getElem?_getD, List.getElem?_eq_getElem (by simpa using hlt)]; rfl
      have hwb : wrap64 ((s[k].toNat : Nat) : Int) = ((s[k].toNat : Nat) : Int) := IntWalk.wrap64_in _ (by omega)
      have hwb2 : IntKind.i64.wrap ((s[k].toNat : Nat) : Int) = ((s[k].toNat : Nat) : Int) := IntWalk.i64_in _ (by omega)
      obtain ⟨y1, hy1⟩ : ∃ y : Nat, s[k].toNat / 16 = y := ⟨_, rfl⟩
      obtain ⟨y2, hy2⟩ : ∃ y : Nat, s[k].toNat % 16 = y := ⟨_, rfl⟩
      have hy1i : (s[k].toNat : Int) / 16 = (y1 : Int) := by omega
      have hy2i : (s[k].toNat : Int) % 16 = (y2 : Int) := by omega
      have hy1t : (s[k].toNat : Int).tdiv 16 = (y1 : Int) := by rw [Int.tdiv_eq_ediv_of_nonneg (by omega)]; exact hy1i
      have hy2t : (s[k].toNat : Int).tmod 16 = (y2 : Int) := by rw [Int.tmod_eq_emod_of_nonneg (by omega)]; exact hy2i
      have hw1 : IntKind.i64.wrap (y1 : Int) = (y1 : Int) := IntWalk.i64_in _ (by omega)
      have hw2 : IntKind.i64.wrap (y2 : Int) = (y2 : Int) := IntWalk.i64_in _ (by omega)
      have hki : (k : Int) < (s.size : Int) := by omega
      have hks : s[(k : Int).toNat]? = some s[k] := by rw [Int.toNat_natCast]; exact getElem?_pos s k hlt
      go_wp2
      go_quiet (fail)
      clear hwb hwb2 hy1i hy2i hy1t hy2t hw1 hw2
      have HB2 := Lib.hid (below_draws HB.out nq)
      obtain ⟨v2, hv2⟩ : ∃ v, wr.drewN nq = v := ⟨_, rfl⟩
      rw [hv2] at HB2 ⊢
      obtain ⟨d1, hd1⟩ : ∃ d : UInt8, digits.getD y1 0 = d := ⟨_, rfl⟩
      obtain ⟨d2, hd2⟩ : ∃ d : UInt8, digits.getD y2 0 = d := ⟨_, rfl⟩
      have r1 := fun v : World => run_letter v y1 (y1 : Int) ((y1 : Int) + 1) rfl rfl (by omega)
      have r2 := fun v : World => run_letter v y2 (y2 : Int) ((y2 : Int) + 1) rfl rfl (by omega)
      rw [hd1] at r1
      rw [hd2] at r2
      have HN := Lib.hid (show hexB s.data.toList (k + 1) = hexB s.data.toList k ++ [d1, d2] by rw [hexB, hbt, hy1, hy2, hd1, hd2])
      have hq1 : y1 < 16 := by omega
      have hq2 : y2 < 16 := by omega
      clear hv2 HB hy1 hy2 hd1 hd2 hbt
      have w1 : IntKind.i64.wrap ((y1 : Int) + 1) = (y1 : Int) + 1 := IntWalk.i64_in _ (by omega)
      have w2 : IntKind.i64.wrap ((y2 : Int) + 1) = (y2 : Int) + 1 := IntWalk.i64_in _ (by omega)
      have e1 : (sbl [d1]).size = 1 := rfl
      have e2 : (sbl [d2]).size = 1 := rfl
      go_wp2
      go_quiet (fail)
      go_wp2
      go_roundw
      case rel =>
        refine ⟨k + 1, by omega, by go_num, ?_, Lib.hid (below_draws HB2.out _)⟩
        rw [sbl_app, sbl_app, sbl_list, sbl_list, HN.out, List.append_assoc]; rfl
      case measure => simp [intOf]; omega
    · have HE := Lib.hid (show k = s.size by omega)
      go_wp2
      go_ret
      exact ⟨by rw [HE.out]; rfl, HB.out⟩

theorem hex_sbl (s : ByteArray) (w : World) (hs : s.size ≤ 300) :
    Calls Tryd.prog 16 #[.string s] w fun e w' => e = .returned (.string (sbl (hexB s.data.toList s.size))) ∧ Below w.heap.size w w' := hex_any s w (by omega)

set_option maxRecDepth 100000 in
set_option maxHeartbeats 1000000 in
theorem words_in (i : Nat) (s : ByteArray) (w : World) (hT : Tabs w) (hi : i < 64) (hs : s.size ≤ 300) :
    Calls Tryd.prog 5 #[.int .i64 (i : Int), .string s] w fun e w' => e = .returned (.bool true) ∧ Below w.heap.size w w' := by
  have HT := Lib.hid hT
  have h2 := hT.size
  clear hT
  go_enter Tryd.func5, Tryd.ntmps5
  go_wp2_with (go_at_call 7; refine (awake_any _ HT.out).mono ?_; rintro e w1 ⟨rfl, hb1⟩; refine Hid.out ?_)
  refine Lib.hid ?_
  have HB1 := Lib.hid hb1
  clear hb1
  go_wp2_with (go_at_call 14; refine (refK_any _).mono ?_; rintro e w2 ⟨A, c, rfl, hN, hb2, _⟩; refine Hid.out ?_)
  refine Lib.hid ?_
  have HB2 := Lib.hid (HB1.out.trans (hb2.mono HB1.out.size))
  obtain ⟨b, o, rfl, hbl, hc⟩ := hN i (by simpa [kk] using hi)
  have hkl : kk.length = 64 := rfl
  rw [hkl]
  obtain ⟨z, hz⟩ : ∃ z, wd kk i = z := ⟨_, rfl⟩
  simp only [hz] at hc
  have HZ := Lib.hid hz
  have HT2 := Lib.hid (HT.out.below HB2.out h2)
  have hki := k_in i w2 HT2.out hi
  rw [hz] at hki
  have HK := Lib.hid hki
  clear hb2 hN hkl hz hki
  go_wp2_with (go_at_call 15; refine HK.out.mono ?_; rintro e w' ⟨rfl, rfl⟩; refine Hid.out ?_)
  refine Lib.hid ?_
  go_wp2_with (go_at_call 16; refine (hex_sbl s _ hs).mono ?_; rintro e w3 ⟨rfl, hb3⟩; refine Hid.out ?_)
  refine Lib.hid ?_
  have HB3 := Lib.hid (HB2.out.trans (hb3.mono HB2.out.size))
  clear hb3
  go_wp2_with (go_at_call 17; refine (refHex_any s _ hs).mono ?_; rintro e w4 ⟨rfl, hb4⟩; refine Hid.out ?_)
  refine Lib.hid ?_
  have HB4 := Lib.hid (HB3.out.trans (hb4.mono HB3.out.size))
  clear hb4
  go_wp2
  go_ret
  exact ⟨rfl, HB4.out⟩

set_option maxRecDepth 100000 in
set_option maxHeartbeats 1000000 in
theorem words_out (i : Int) (s : ByteArray) (w : World) (hT : Tabs w) (hi : i < 0 ∨ 64 ≤ i) (hs : s.size ≤ 300) :
    Calls Tryd.prog 5 #[.int .i64 i, .string s] w fun e w' => e = .returned (.bool true) ∧ Below w.heap.size w w' := by
  have HT := Lib.hid hT
  have HI := Lib.hid hi
  clear hT
  rcases hi with hi | hi
  all_goals
    go_enter Tryd.func5, Tryd.ntmps5
    go_wp2_with (go_at_call 7; refine (awake_any _ HT.out).mono ?_; rintro e w1 ⟨rfl, hb1⟩; refine Hid.out ?_)
    refine Lib.hid ?_
    have HB1 := Lib.hid hb1
    clear hb1
    go_wp2_with (go_at_call 15; refine (k_out i _ HI.out).mono ?_; rintro e w' ⟨rfl, rfl⟩; refine Hid.out ?_)
    refine Lib.hid ?_
    go_wp2_with (go_at_call 16; refine (hex_sbl s _ hs).mono ?_; rintro e w3 ⟨rfl, hb3⟩; refine Hid.out ?_)
    refine Lib.hid ?_
    have HB3 := Lib.hid (HB1.out.trans (hb3.mono HB1.out.size))
    clear hb3
    go_wp2_with (go_at_call 17; refine (refHex_any s _ hs).mono ?_; rintro e w4 ⟨rfl, hb4⟩; refine Hid.out ?_)
    refine Lib.hid ?_
    have HB4 := Lib.hid (HB3.out.trans (hb4.mono HB3.out.size))
    clear hb4
    go_wp2
    go_ret
    exact ⟨rfl, HB4.out⟩

set_option maxRecDepth 100000 in
set_option maxHeartbeats 1000000 in
theorem words_e (i : Int) (s : ByteArray) (w : World) (hT : Tabs w) (hs : 300 < s.size) (_m : s.size ≤ maxLen) :
    Calls Tryd.prog 5 #[.int .i64 i, .string s] w fun e w' => e = .returned (.bool true) ∧ Below w.heap.size w w' := by
  unfold maxLen at _m
  have HT := Lib.hid hT
  clear hT
  go_enter Tryd.func5, Tryd.ntmps5
  go_wp2_with (go_at_call 7; refine (awake_any _ HT.out).mono ?_; rintro e w1 ⟨rfl, hb1⟩)
  go_ret
  exact ⟨rfl, hb1⟩
theorem words_walk (i : Int) (s : ByteArray) (w : World) (hT : Tabs w) (m : s.size ≤ maxLen) :
    Calls Tryd.prog 5 #[.int .i64 i, .string s] w fun e w' => e = .returned (.bool true) ∧ Below w.heap.size w w' := by
  by_cases hs : 300 < s.size
  · exact words_e i s w hT hs m
  · by_cases hi : i < 0 ∨ 64 ≤ i
    · exact words_out i s w hT hi (by omega)
    · obtain ⟨n, rfl⟩ := Int.eq_ofNat_of_zero_le (show 0 ≤ i by omega)
      exact words_in n s w hT (by omega) (by omega)

end Go.Proofs.YteciidnjikcimaaDoor.Sha
