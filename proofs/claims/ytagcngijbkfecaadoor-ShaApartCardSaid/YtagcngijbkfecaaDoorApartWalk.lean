/- The walk of the law ShaApart. -/
import Derived.Test.YtagcngijbkfecaaDoorGoesWalk
namespace Go.Proofs.YtagcngijbkfecaaDoor.Sha
open Go.RowKit Go.Lib

theorem cat_two (s : ByteArray) : cat (fun _ => s) 2 = s.data.toList ++ s.data.toList := by simp [cat]
theorem sbl_app2 (l : List UInt8) (s : ByteArray) : sbl l ++ (s ++ s) = sbl (l ++ (s.data.toList ++ s.data.toList)) := by
  rw [sbl_app, ByteArray.data_append, Array.toList_append]
/-- A text is written twice to a state. -/
theorem write_two (b : Nat) (t : TypeId) (l : List UInt8) (s : ByteArray) (w : World) (hb : 2 ≤ b) (hT : Tabs w) (hst : StW w b t l) (hsz : (l.length : Int) + 2 * (s.size : Int) ≤ 70368744177664) :
    Calls Tryd.prog 10 #[.pointer (some ⟨b, 0, none⟩), .slice (some ⟨w.heap.size, 0, none⟩) 2 2] (w.alloc (.cells #[.string s, .string s] 9)) fun e w' => e = .returned (.tuple #[]) ∧ StW w' b t (l ++ (s.data.toList ++ s.data.toList)) ∧ Only b w w' := by
  have hb0 := (Below.refl w.heap.size w).alloc (Nat.le_refl _) (.cells #[.string s, .string s] 9)
  have hlt := hst.lt
  have h := write_any b t l (some ⟨w.heap.size, 0, none⟩) 2 2 (fun _ => s) (w.alloc (.cells #[.string s, .string s] 9)) hb (hT.below hb0 hT.size) (hst.below hb0 hst.lt) (by
    intro k hk
    refine ⟨w.heap.size, 0, rfl, by simp, by omega, ?_⟩
    rw [cell_of_row _ _ _ _ _ _ (heap_alloc_new w _)]
    obtain rfl | rfl : k = 0 ∨ k = 1 := by omega
    · rfl
    · rfl) (by rw [cat_two]; rw [List.length_append]; have e : s.data.toList.length = s.size := rfl; omega) (by omega)
  rw [cat_two] at h
  exact h.mono fun e w' ⟨he, h1, h2⟩ => ⟨he, h1, (Only.of_below hb0).trans h2⟩

set_option maxRecDepth 100000 in
set_option maxHeartbeats 4000000 in
theorem apart_main (A0 A1 : Option Addr) (n0 n1 c0 c1 : Nat) (ss : Nat → ByteArray) (B : Nat → Bool) (w : World) (hT : Tabs w) (hn : n0 ≤ 20) (m1 : n1 ≤ maxLen) (r0 : VIn w A0 n0 (fun k => .string (ss k))) (r1 : VIn w A1 n1 (fun k => .bool (B k))) (hs : ∀ k, k < n0 → (ss k).size ≤ 140737488351232) :
    Calls Tryd.prog 6 #[.slice A0 n0 c0, .slice A1 n1 c1] w fun e w' => e = .returned (.bool true) ∧ Below w.heap.size w w' := by
  have HT := Lib.hid hT
  have h2 := hT.size
  have R0 := Lib.hid r0
  have R1 := Lib.hid r1
  have HS := Lib.hid hs
  unfold maxLen at m1
  have hn1 : (n1 : Int) ≤ 9223372036854775807 := by omega
  clear hT r0 r1 hs m1
  go_enter Tryd.func6, Tryd.ntmps6
  go_wp2_with (go_at_call 7; refine (awake_any _ HT.out).mono ?_; rintro e w1 ⟨rfl, hb1⟩; refine Hid.out ?_)
  refine Lib.hid ?_
  have HB1 := Lib.hid hb1
  have hs1 : w.heap.size ≤ w1.heap.size := hb1.size
  clear hb1
  go_wp2_with (go_at_call 9; refine (new_st _).mono ?_; rintro e w2 ⟨rfl, hst2, hb2⟩; refine Hid.out ?_)
  refine Lib.hid ?_
  have HB2 := Lib.hid (HB1.out.trans (hb2.mono hs1))
  have HS2 := Lib.hid hst2
  obtain ⟨ga, hga0⟩ : ∃ g, w1.heap.size = g := ⟨_, rfl⟩
  rw [hga0] at HS2 hs1 ⊢
  have hga : 2 ≤ ga := by omega
  clear hb2 hst2 hga0 HB1
  go_wp2_with (go_at_call 9; refine (new_st _).mono ?_; rintro e w3 ⟨rfl, hst3, hb3⟩; refine Hid.out ?_)
  refine Lib.hid ?_
  have hab0 : ga < w2.heap.size := HS2.out.lt
  have HB3 := Lib.hid (HB2.out.trans (hb3.mono HB2.out.size))
  have HSa := Lib.hid (HS2.out.below hb3 hab0)
  have HSb := Lib.hid hst3
  obtain ⟨gb, hgb0⟩ : ∃ g, w2.heap.size = g := ⟨_, rfl⟩
  rw [hgb0] at HSb hab0 ⊢
  have hgb : 2 ≤ gb := by omega
  clear hb3 hst3 hgb0 HB2 HS2
  go_wp2
  go_loopw [7, 8, 20] (fun x y i wr => ∃ (k : Nat) (X Y : List UInt8), k ≤ n0 ∧ i = .int .i64 k ∧ x = .string (sbl X) ∧ y = .string (sbl Y) ∧ Hid (X.length ≤ 400 * k) ∧ Hid (Y.length ≤ 200 * k) ∧ Hid (StW wr ga 44 X) ∧ Hid (StW wr gb 44 Y) ∧ Hid (Below w.heap.size w wr)) (fun _ _ i _ => n0 - (intOf i).toNat)
  case atStart => exact ⟨0, [], [], by omega, rfl, rfl, rfl, Lib.hid (by simp), Lib.hid (by simp), HSa, HSb, HB3⟩
  case round =>
    clear HB3 HSa HSb
    obtain ⟨k, X, Y, hk, rfl, rfl, rfl, HX, HY, HWa0, HWb0, HB⟩ := hrel
    by_cases hlt : k < n0
    · obtain ⟨b0, o0, rfl, hbl0, hc0⟩ := R0.out k hlt
      have hc : wr.cell? ⟨b0, o0 + k, none⟩ = some (.string (ss k)) := (HB.out.cell (p := ⟨b0, o0 + k, none⟩) hbl0).trans hc0
      have hsk := HS.out k hlt
      have HT1 := Lib.hid (HT.out.below HB.out h2)
      clear hc0
      by_cases hlong : 200 < (ss k).size
      · go_wp2
        go_ret
        exact ⟨rfl, HB.out⟩
      · by_cases hk1 : k < n1
        · obtain ⟨b1, o1, rfl, hbl1, hc1⟩ := R1.out k hk1
          have hcb : wr.cell? ⟨b1, o1 + k, none⟩ = some (.bool (B k)) := (HB.out.cell (p := ⟨b1, o1 + k, none⟩) hbl1).trans hc1
          clear hc1
          have hk1i : (k : Int) < (n1 : Int) := by omega
          by_cases hB : B k = true
          · rw [hB] at hcb
            have HA := Lib.hid (sbl_app2 X (ss k))
            go_wp2_with (go_at_call 10; refine (write_two ga 44 X (ss k) wr hga HT1.out HWa0.out (by have := HX.out; omega)).mono ?_; rintro e w5 ⟨rfl, hst5, ho5⟩; refine Hid.out ?_)
            refine Lib.hid ?_
            obtain ⟨X2, hX2⟩ : ∃ l, X ++ ((ss k).data.toList ++ (ss k).data.toList) = l := ⟨_, rfl⟩
            rw [hX2] at hst5 HA
            have hxx : sbl X ++ (ss k ++ ss k) = sbl X2 := HA.out
            have HWa : Hid (StW w5 ga 44 X2) := Lib.hid hst5
            have HWb : Hid (StW w5 gb 44 Y) := Lib.hid (HWb0.out.only ho5 (by omega))
            have HB5 := Lib.hid (HB.out.trans (ho5.below (by omega) HB.out.size))
            have HX2 : Hid (X2.length ≤ 400 * (k + 1)) := Lib.hid (by rw [← hX2, List.length_append, List.length_append]; have := HX.out; have e : (ss k).data.toList.length = (ss k).size := rfl; omega)
            have HY2 : Hid (Y.length ≤ 200 * (k + 1)) := Lib.hid (by have := HY.out; omega)
            obtain ⟨Y2, hY2⟩ : ∃ l, Y = l := ⟨_, rfl⟩
            rw [hY2] at HWb HY2 ⊢
            have HXB := Lib.hid (show (sbl X).size ≤ 8000 by rw [sbl_size]; have := HX.out; omega)
            have hXB := HXB.out
            clear hst5 ho5 hX2 HA hY2 HWa0 HWb0
            go_wp2_with (go_at_call 12; refine Hid.out ?_)
            refine Lib.hid ?_
            clear hxx
            have HTa := Lib.hid (HT.out.below HB5.out h2)
            have ha5 : ga < w5.heap.size := HWa.out.lt
            have hb5 : gb < w5.heap.size := HWb.out.lt
            have hX35 : (X2.length : Int) ≤ 35184372088832 := by have := HX2.out; omega
            have hY35 : (Y2.length : Int) ≤ 35184372088832 := by have := HY2.out; omega
            have hsx : (sbl X2).size = X2.length := rfl
            have hsy : (sbl Y2).size = Y2.length := rfl
            go_wp2_with (go_at_call 12; refine (sum_stB ga 44 X2 w5 HTa.out HWa.out hX35).mono ?_; rintro e w6 ⟨rfl, hb6⟩; refine Hid.out ?_)
            refine Lib.hid ?_
            have HWa6 := Lib.hid (HWa.out.below hb6 ha5)
            have HWb6 := Lib.hid (HWb.out.below hb6 hb5)
            have HB6 := Lib.hid (HB5.out.trans (hb6.mono HB5.out.size))
            have HT6 := Lib.hid (HT.out.below HB6.out h2)
            have ha6 : ga < w6.heap.size := HWa6.out.lt
            have hb6' : gb < w6.heap.size := HWb6.out.lt
            clear hb6 HWa HWb
            go_wp2_with (go_at_call 11; refine (sum_oneB X2 w6 HT6.out hX35).mono ?_; rintro e w7 ⟨rfl, hb7⟩; refine Hid.out ?_)
            refine Lib.hid ?_
            have HWa7 := Lib.hid (HWa6.out.below hb7 ha6)
            have HWb7 := Lib.hid (HWb6.out.below hb7 hb6')
            have HB7 := Lib.hid (HB6.out.trans (hb7.mono HB6.out.size))
            have HT7 := Lib.hid (HT.out.below HB7.out h2)
            have ha7 : ga < w7.heap.size := HWa7.out.lt
            have hb7' : gb < w7.heap.size := HWb7.out.lt
            clear hb7 HWa6 HWb6
            go_wp2_with (go_at_call 12; refine (sum_stB gb 44 Y2 w7 HT7.out HWb7.out hY35).mono ?_; rintro e w8 ⟨rfl, hb8⟩; refine Hid.out ?_)
            refine Lib.hid ?_
            have HWa8 := Lib.hid (HWa7.out.below hb8 ha7)
            have HWb8 := Lib.hid (HWb7.out.below hb8 hb7')
            have HB8 := Lib.hid (HB7.out.trans (hb8.mono HB7.out.size))
            have HT8 := Lib.hid (HT.out.below HB8.out h2)
            have ha8 : ga < w8.heap.size := HWa8.out.lt
            have hb8' : gb < w8.heap.size := HWb8.out.lt
            clear hb8 HWa7 HWb7
            go_wp2_with (go_at_call 11; refine (sum_oneB Y2 w8 HT8.out hY35).mono ?_; rintro e w9 ⟨rfl, hb9⟩; refine Hid.out ?_)
            refine Lib.hid ?_
            have HWa9 := Lib.hid (HWa8.out.below hb9 ha8)
            have HWb9 := Lib.hid (HWb8.out.below hb9 hb8')
            have HB9 := Lib.hid (HB8.out.trans (hb9.mono HB8.out.size))
            clear hb9 HWa8 HWb8
            go_wp2_with (go_at_call 13; refine (len_st ga 44 X2 _ HWa9.out).mono ?_; rintro e w' ⟨rfl, rfl⟩; refine Hid.out ?_)
            refine Lib.hid ?_
            go_wp2_with (go_at_call 13; refine (len_st gb 44 Y2 _ HWb9.out).mono ?_; rintro e w' ⟨rfl, rfl⟩)
            go_roundw
            case rel => exact ⟨k + 1, X2, Y2, by omega, by go_num, rfl, rfl, Lib.hid (by have := HX2.out; omega), Lib.hid (by have := HY2.out; omega), HWa9, HWb9, HB9⟩
            case measure => simp [intOf]; omega
          · have hB2 : B k = false := by simpa using hB
            rw [hB2] at hcb
            clear hB hB2
            have HA := Lib.hid (sbl_app Y (ss k))
            go_wp2_with (go_at_call 10; refine (write_one gb 44 Y (ss k) wr hgb HT1.out HWb0.out (by have := HY.out; omega)).mono ?_; rintro e w5 ⟨rfl, hst5, ho5⟩; refine Hid.out ?_)
            refine Lib.hid ?_
            obtain ⟨Y2, hY2⟩ : ∃ l, Y ++ (ss k).data.toList = l := ⟨_, rfl⟩
            rw [hY2] at hst5 HA
            have hyy : sbl Y ++ ss k = sbl Y2 := HA.out
            have HWb : Hid (StW w5 gb 44 Y2) := Lib.hid hst5
            have HWa : Hid (StW w5 ga 44 X) := Lib.hid (HWa0.out.only ho5 (by omega))
            have HB5 := Lib.hid (HB.out.trans (ho5.below (by omega) HB.out.size))
            have HY2 : Hid (Y2.length ≤ 200 * (k + 1)) := Lib.hid (by rw [← hY2, List.length_append]; have := HY.out; have e : (ss k).data.toList.length = (ss k).size := rfl; omega)
            have HX2 : Hid (X.length ≤ 400 * (k + 1)) := Lib.hid (by have := HX.out; omega)
            obtain ⟨X2, hX2⟩ : ∃ l, X = l := ⟨_, rfl⟩
            rw [hX2] at HWa HX2 ⊢
            have HYB := Lib.hid (show (sbl Y).size ≤ 4000 by rw [sbl_size]; have := HY.out; omega)
            have hYB := HYB.out
            clear hst5 ho5 hY2 HA hX2 HWa0 HWb0
            go_wp2_with (go_at_call 12; refine Hid.out ?_)
            refine Lib.hid ?_
            clear hyy
            have HTa := Lib.hid (HT.out.below HB5.out h2)
            have ha5 : ga < w5.heap.size := HWa.out.lt
            have hb5 : gb < w5.heap.size := HWb.out.lt
            have hX35 : (X2.length : Int) ≤ 35184372088832 := by have := HX2.out; omega
            have hY35 : (Y2.length : Int) ≤ 35184372088832 := by have := HY2.out; omega
            have hsx : (sbl X2).size = X2.length := rfl
            have hsy : (sbl Y2).size = Y2.length := rfl
            go_wp2_with (go_at_call 12; refine (sum_stB ga 44 X2 w5 HTa.out HWa.out hX35).mono ?_; rintro e w6 ⟨rfl, hb6⟩; refine Hid.out ?_)
            refine Lib.hid ?_
            have HWa6 := Lib.hid (HWa.out.below hb6 ha5)
            have HWb6 := Lib.hid (HWb.out.below hb6 hb5)
            have HB6 := Lib.hid (HB5.out.trans (hb6.mono HB5.out.size))
            have HT6 := Lib.hid (HT.out.below HB6.out h2)
            have ha6 : ga < w6.heap.size := HWa6.out.lt
            have hb6' : gb < w6.heap.size := HWb6.out.lt
            clear hb6 HWa HWb
            go_wp2_with (go_at_call 11; refine (sum_oneB X2 w6 HT6.out hX35).mono ?_; rintro e w7 ⟨rfl, hb7⟩; refine Hid.out ?_)
            refine Lib.hid ?_
            have HWa7 := Lib.hid (HWa6.out.below hb7 ha6)
            have HWb7 := Lib.hid (HWb6.out.below hb7 hb6')
            have HB7 := Lib.hid (HB6.out.trans (hb7.mono HB6.out.size))
            have HT7 := Lib.hid (HT.out.below HB7.out h2)
            have ha7 : ga < w7.heap.size := HWa7.out.lt
            have hb7' : gb < w7.heap.size := HWb7.out.lt
            clear hb7 HWa6 HWb6
            go_wp2_with (go_at_call 12; refine (sum_stB gb 44 Y2 w7 HT7.out HWb7.out hY35).mono ?_; rintro e w8 ⟨rfl, hb8⟩; refine Hid.out ?_)
            refine Lib.hid ?_
            have HWa8 := Lib.hid (HWa7.out.below hb8 ha7)
            have HWb8 := Lib.hid (HWb7.out.below hb8 hb7')
            have HB8 := Lib.hid (HB7.out.trans (hb8.mono HB7.out.size))
            have HT8 := Lib.hid (HT.out.below HB8.out h2)
            have ha8 : ga < w8.heap.size := HWa8.out.lt
            have hb8' : gb < w8.heap.size := HWb8.out.lt
            clear hb8 HWa7 HWb7
            go_wp2_with (go_at_call 11; refine (sum_oneB Y2 w8 HT8.out hY35).mono ?_; rintro e w9 ⟨rfl, hb9⟩; refine Hid.out ?_)
            refine Lib.hid ?_
            have HWa9 := Lib.hid (HWa8.out.below hb9 ha8)
            have HWb9 := Lib.hid (HWb8.out.below hb9 hb8')
            have HB9 := Lib.hid (HB8.out.trans (hb9.mono HB8.out.size))
            clear hb9 HWa8 HWb8
            go_wp2_with (go_at_call 13; refine (len_st ga 44 X2 _ HWa9.out).mono ?_; rintro e w' ⟨rfl, rfl⟩; refine Hid.out ?_)
            refine Lib.hid ?_
            go_wp2_with (go_at_call 13; refine (len_st gb 44 Y2 _ HWb9.out).mono ?_; rintro e w' ⟨rfl, rfl⟩)
            go_roundw
            case rel => exact ⟨k + 1, X2, Y2, by omega, by go_num, rfl, rfl, Lib.hid (by have := HX2.out; omega), Lib.hid (by have := HY2.out; omega), HWa9, HWb9, HB9⟩
            case measure => simp [intOf]; omega
        · have hk1i : decide ((k : Int) < (n1 : Int)) = false := decide_eq_false (by omega)
          have hk1n : decide (k < n1) = false := decide_eq_false hk1
          have HA := Lib.hid (sbl_app Y (ss k))
          go_wp2_with (go_at_call 10; refine (write_one gb 44 Y (ss k) wr hgb HT1.out HWb0.out (by have := HY.out; omega)).mono ?_; rintro e w5 ⟨rfl, hst5, ho5⟩; refine Hid.out ?_)
          refine Lib.hid ?_
          obtain ⟨Y2, hY2⟩ : ∃ l, Y ++ (ss k).data.toList = l := ⟨_, rfl⟩
          rw [hY2] at hst5 HA
          have hyy : sbl Y ++ ss k = sbl Y2 := HA.out
          have HWb : Hid (StW w5 gb 44 Y2) := Lib.hid hst5
          have HWa : Hid (StW w5 ga 44 X) := Lib.hid (HWa0.out.only ho5 (by omega))
          have HB5 := Lib.hid (HB.out.trans (ho5.below (by omega) HB.out.size))
          have HY2 : Hid (Y2.length ≤ 200 * (k + 1)) := Lib.hid (by rw [← hY2, List.length_append]; have := HY.out; have e : (ss k).data.toList.length = (ss k).size := rfl; omega)
          have HX2 : Hid (X.length ≤ 400 * (k + 1)) := Lib.hid (by have := HX.out; omega)
          obtain ⟨X2, hX2⟩ : ∃ l, X = l := ⟨_, rfl⟩
          rw [hX2] at HWa HX2 ⊢
          have HYB := Lib.hid (show (sbl Y).size ≤ 4000 by rw [sbl_size]; have := HY.out; omega)
          have hYB := HYB.out
          clear hst5 ho5 hY2 HA hX2 HWa0 HWb0
          go_wp2_with (go_at_call 12; refine Hid.out ?_)
          refine Lib.hid ?_
          clear hyy
          have HTa := Lib.hid (HT.out.below HB5.out h2)
          have ha5 : ga < w5.heap.size := HWa.out.lt
          have hb5 : gb < w5.heap.size := HWb.out.lt
          have hX35 : (X2.length : Int) ≤ 35184372088832 := by have := HX2.out; omega
          have hY35 : (Y2.length : Int) ≤ 35184372088832 := by have := HY2.out; omega
          have hsx : (sbl X2).size = X2.length := rfl
          have hsy : (sbl Y2).size = Y2.length := rfl
          go_wp2_with (go_at_call 12; refine (sum_stB ga 44 X2 w5 HTa.out HWa.out hX35).mono ?_; rintro e w6 ⟨rfl, hb6⟩; refine Hid.out ?_)
          refine Lib.hid ?_
          have HWa6 := Lib.hid (HWa.out.below hb6 ha5)
          have HWb6 := Lib.hid (HWb.out.below hb6 hb5)
          have HB6 := Lib.hid (HB5.out.trans (hb6.mono HB5.out.size))
          have HT6 := Lib.hid (HT.out.below HB6.out h2)
          have ha6 : ga < w6.heap.size := HWa6.out.lt
          have hb6' : gb < w6.heap.size := HWb6.out.lt
          clear hb6 HWa HWb
          go_wp2_with (go_at_call 11; refine (sum_oneB X2 w6 HT6.out hX35).mono ?_; rintro e w7 ⟨rfl, hb7⟩; refine Hid.out ?_)
          refine Lib.hid ?_
          have HWa7 := Lib.hid (HWa6.out.below hb7 ha6)
          have HWb7 := Lib.hid (HWb6.out.below hb7 hb6')
          have HB7 := Lib.hid (HB6.out.trans (hb7.mono HB6.out.size))
          have HT7 := Lib.hid (HT.out.below HB7.out h2)
          have ha7 : ga < w7.heap.size := HWa7.out.lt
          have hb7' : gb < w7.heap.size := HWb7.out.lt
          clear hb7 HWa6 HWb6
          go_wp2_with (go_at_call 12; refine (sum_stB gb 44 Y2 w7 HT7.out HWb7.out hY35).mono ?_; rintro e w8 ⟨rfl, hb8⟩; refine Hid.out ?_)
          refine Lib.hid ?_
          have HWa8 := Lib.hid (HWa7.out.below hb8 ha7)
          have HWb8 := Lib.hid (HWb7.out.below hb8 hb7')
          have HB8 := Lib.hid (HB7.out.trans (hb8.mono HB7.out.size))
          have HT8 := Lib.hid (HT.out.below HB8.out h2)
          have ha8 : ga < w8.heap.size := HWa8.out.lt
          have hb8' : gb < w8.heap.size := HWb8.out.lt
          clear hb8 HWa7 HWb7
          go_wp2_with (go_at_call 11; refine (sum_oneB Y2 w8 HT8.out hY35).mono ?_; rintro e w9 ⟨rfl, hb9⟩; refine Hid.out ?_)
          refine Lib.hid ?_
          have HWa9 := Lib.hid (HWa8.out.below hb9 ha8)
          have HWb9 := Lib.hid (HWb8.out.below hb9 hb8')
          have HB9 := Lib.hid (HB8.out.trans (hb9.mono HB8.out.size))
          clear hb9 HWa8 HWb8
          go_wp2_with (go_at_call 13; refine (len_st ga 44 X2 _ HWa9.out).mono ?_; rintro e w' ⟨rfl, rfl⟩; refine Hid.out ?_)
          refine Lib.hid ?_
          go_wp2_with (go_at_call 13; refine (len_st gb 44 Y2 _ HWb9.out).mono ?_; rintro e w' ⟨rfl, rfl⟩)
          go_roundw
          case rel => exact ⟨k + 1, X2, Y2, by omega, by go_num, rfl, rfl, Lib.hid (by have := HX2.out; omega), Lib.hid (by have := HY2.out; omega), HWa9, HWb9, HB9⟩
          case measure => simp [intOf]; omega
    · go_wp2
      go_ret
      exact ⟨rfl, HB.out⟩

set_option maxRecDepth 100000 in
set_option maxHeartbeats 1000000 in
theorem apart_e (A0 A1 : Option Addr) (n0 n1 c0 c1 : Nat) (w : World) (hT : Tabs w) (hn : 20 < n0) (_m : n0 ≤ maxLen) :
    Calls Tryd.prog 6 #[.slice A0 n0 c0, .slice A1 n1 c1] w fun e w' => e = .returned (.bool true) ∧ Below w.heap.size w w' := by
  unfold maxLen at _m
  have HT := Lib.hid hT
  clear hT
  go_enter Tryd.func6, Tryd.ntmps6
  go_wp2_with (go_at_call 7; refine (awake_any _ HT.out).mono ?_; rintro e w1 ⟨rfl, hb1⟩)
  go_ret
  exact ⟨rfl, hb1⟩
theorem apart_walk (A0 A1 : Option Addr) (n0 n1 c0 c1 : Nat) (ss : Nat → ByteArray) (B : Nat → Bool) (w : World) (hT : Tabs w) (m0 : n0 ≤ maxLen) (m1 : n1 ≤ maxLen) (r0 : VIn w A0 n0 (fun k => .string (ss k))) (r1 : VIn w A1 n1 (fun k => .bool (B k))) (hs : ∀ k, k < n0 → (ss k).size ≤ 140737488351232) :
    Calls Tryd.prog 6 #[.slice A0 n0 c0, .slice A1 n1 c1] w fun e w' => e = .returned (.bool true) ∧ Below w.heap.size w w' := by
  by_cases hn : 20 < n0
  · exact apart_e A0 A1 n0 n1 c0 c1 w hT hn m0
  · exact apart_main A0 A1 n0 n1 c0 c1 ss B w hT (by omega) m1 r0 r1 hs

end Go.Proofs.YtagcngijbkfecaaDoor.Sha
