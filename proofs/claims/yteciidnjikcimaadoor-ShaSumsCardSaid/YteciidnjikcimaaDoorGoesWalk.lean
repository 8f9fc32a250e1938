/- The walk of the law ShaGoes. -/
import Derived.Test.YteciidnjikcimaaDoorShaH
namespace Go.Proofs.YteciidnjikcimaaDoor.Sha
open Go.RowKit Go.Lib

/-- A slice of one-cell elements that came in, nil let in: element k is f k. -/
def VIn (w : World) (A : Option Addr) (n : Nat) (f : Nat → Value) : Prop := ∀ k, k < n → ∃ b o, A = some ⟨b, o, none⟩ ∧ b < w.heap.size ∧ w.cell? ⟨b, o + k, none⟩ = some (f k)
/-- Bytes as a text. -/
def sbl (l : List UInt8) : ByteArray := ⟨l.toArray⟩
theorem sbl_size (l : List UInt8) : (sbl l).size = l.length := rfl
theorem sbl_list (l : List UInt8) : (sbl l).data.toList = l := rfl
theorem sbl_app (l : List UInt8) (s : ByteArray) : sbl l ++ s = sbl (l ++ s.data.toList) := by
  apply ByteArray.ext
  rw [ByteArray.data_append]
  apply Array.ext'
  rw [Array.toList_append]; rfl
theorem sum_stB (b : Nat) (t : TypeId) (l : List UInt8) (w : World) (hT : Tabs w) (hst : StW w b t l) (hl : (l.length : Int) ≤ 35184372088832) :
    Calls Tryd.prog 12 #[.pointer (some ⟨b, 0, none⟩)] w fun e w' => e = .returned (.string (digB l)) ∧ Below w.heap.size w w' := sum_st b t l w hT hst hl
theorem sum_oneB (l : List UInt8) (w : World) (hT : Tabs w) (hs : (l.length : Int) ≤ 35184372088832) :
    Calls Tryd.prog 11 #[.slice (some ⟨w.heap.size, 0, none⟩) 1 1] (w.alloc (.cells #[.string (sbl l)] 9)) fun e w' => e = .returned (.string (digB l)) ∧ Below w.heap.size w w' := sum_one (sbl l) w hT hs
/-- A text is written to a state. -/
theorem write_one (b : Nat) (t : TypeId) (l : List UInt8) (s : ByteArray) (w : World) (hb : 2 ≤ b) (hT : Tabs w) (hst : StW w b t l) (hsz : (l.length : Int) + (s.size : Int) ≤ 70368744177664) :
    Calls Tryd.prog 10 #[.pointer (some ⟨b, 0, none⟩), .slice (some ⟨w.heap.size, 0, none⟩) 1 1] (w.alloc (.cells #[.string s] 9)) fun e w' => e = .returned (.tuple #[]) ∧ StW w' b t (l ++ s.data.toList) ∧ Only b w w' := by
  have hb0 := (Below.refl w.heap.size w).alloc (Nat.le_refl _) (.cells #[.string s] 9)
  have h := write_any b t l (some ⟨w.heap.size, 0, none⟩) 1 1 (fun _ => s) (w.alloc (.cells #[.string s] 9)) hb (hT.below hb0 hT.size) (hst.below hb0 hst.lt) (sarg_one w b s _ hst.lt) (by rw [cat_one]; show ((l.length + s.size : Nat) : Int) ≤ _; omega) (by omega)
  rw [cat_one] at h
  exact h.mono fun e w' ⟨he, h1, h2⟩ => ⟨he, h1, (Only.of_below hb0).trans h2⟩

set_option maxRecDepth 100000 in
set_option maxHeartbeats 1000000 in
theorem goes_main (A : Option Addr) (n c : Nat) (ss : Nat → ByteArray) (w : World) (hT : Tabs w) (hn : n ≤ 30) (r : VIn w A n (fun k => .string (ss k))) (hs : ∀ k, k < n → (ss k).size ≤ 140737488351232) :
    Calls Tryd.prog 4 #[.slice A n c] w fun e w' => e = .returned (.bool true) ∧ Below w.heap.size w w' := by
  have HT := Lib.hid hT
  have h2 := hT.size
  have R := Lib.hid r
  have HS := Lib.hid hs
  clear hT r hs
  go_enter Tryd.func4, Tryd.ntmps4
  go_wp2_with (go_at_call 7; refine (awake_any _ HT.out).mono ?_; rintro e w1 ⟨rfl, hb1⟩; refine Hid.out ?_)
  refine Lib.hid ?_
  have HB1 := Lib.hid hb1
  have hs1 : w.heap.size ≤ w1.heap.size := hb1.size
  clear hb1
  go_wp2_with (go_at_call 9; refine (new_st _).mono ?_; rintro e w2 ⟨rfl, hst2, hb2⟩; refine Hid.out ?_)
  refine Lib.hid ?_
  have HB2 := Lib.hid (HB1.out.trans (hb2.mono hs1))
  have HS2 := Lib.hid hst2
  obtain ⟨g, hg⟩ : ∃ g, w1.heap.size = g := ⟨_, rfl⟩
  rw [hg] at HS2 hs1 ⊢
  have hg2 : 2 ≤ g := by omega
  clear hb2 hst2 hg HB1
  go_wp2
  go_loopw [4, 16] (fun x i wr => ∃ k : Nat, k ≤ n ∧ i = .int .i64 k ∧ x = .string (sbl (cat ss k)) ∧ Hid ((cat ss k).length ≤ 3000) ∧ Hid (StW wr g 44 (cat ss k)) ∧ Hid (Below w.heap.size w wr)) (fun _ i _ => n - (intOf i).toNat)
  case atStart => exact ⟨0, by omega, rfl, rfl, Lib.hid (by simp [cat]), HS2, HB2⟩
  case round =>
    clear HB2 HS2
    obtain ⟨k, hk, rfl, rfl, HL, HW, HB⟩ := hrel
    by_cases hlt : k < n
    · obtain ⟨b, o, rfl, hbl, hc0⟩ := R.out k hlt
      have hc : wr.cell? ⟨b, o + k, none⟩ = some (.string (ss k)) := (HB.out.cell (p := ⟨b, o + k, none⟩) hbl).trans hc0
      have hsk := HS.out k hlt
      have hsl : (sbl (cat ss k)).size ≤ 3000 := HL.out
      clear hc0
      by_cases hlong : 3000 < (sbl (cat ss k)).size + (ss k).size
      · go_wp2
        go_ret
        exact ⟨rfl, HB.out⟩
      · have HA := Lib.hid (sbl_app (cat ss k) (ss k))
        have HL2 : Hid ((cat ss (k + 1)).length ≤ 3000) := Lib.hid (by
          rw [cat, List.length_append]
          have e1 : (sbl (cat ss k)).size = (cat ss k).length := rfl
          have e2 : (ss k).data.toList.length = (ss k).size := rfl
          omega)
        have HT1 := Lib.hid (HT.out.below HB.out h2)
        have hgl : g < wr.heap.size := HW.out.lt
        go_wp2_with (go_at_call 10; refine (write_one g 44 (cat ss k) (ss k) wr hg2 HT1.out HW.out (by have := HL.out; omega)).mono ?_; rintro e w3 ⟨rfl, hst3, ho3⟩; refine Hid.out ?_)
        refine Lib.hid ?_
        rw [HA.out]
        have HW3 : Hid (StW w3 g 44 (cat ss (k + 1))) := Lib.hid hst3
        have HB3 := Lib.hid (HB.out.trans (ho3.below hs1 HB.out.size))
        have HT3 := Lib.hid (HT.out.below HB3.out h2)
        have hsz3 : g < w3.heap.size := hst3.lt
        have ec : cat ss k ++ (ss k).data.toList = cat ss (k + 1) := rfl
        rw [ec]
        clear hst3 ho3 ec HA hlong hc
        obtain ⟨l, hl⟩ : ∃ l, cat ss (k + 1) = l := ⟨_, rfl⟩
        rw [hl] at HW3 HL2 ⊢
        have HE := Lib.hid hl
        clear hl
        have hl35 : (l.length : Int) ≤ 35184372088832 := by have := HL2.out; omega
        have hd32 : (digB l).size = 32 := digB_size l
        have hsb : (sbl l).size = l.length := rfl
        go_wp2_with (go_at_call 12; refine (sum_stB g 44 l w3 HT3.out HW3.out hl35).mono ?_; rintro e w4 ⟨rfl, hb4⟩; refine Hid.out ?_)
        refine Lib.hid ?_
        have HW4 := Lib.hid (HW3.out.below hb4 hsz3)
        have HB4 := Lib.hid (HB3.out.trans (hb4.mono HB3.out.size))
        have HT4 := Lib.hid (HT.out.below HB4.out h2)
        have hsz4 : g < w4.heap.size := HW4.out.lt
        clear hb4
        go_wp2_with (go_at_call 11; refine (sum_oneB l w4 HT4.out hl35).mono ?_; rintro e w5 ⟨rfl, hb5⟩; refine Hid.out ?_)
        refine Lib.hid ?_
        have HW5 := Lib.hid (HW4.out.below hb5 hsz4)
        have HB5 := Lib.hid (HB4.out.trans (hb5.mono HB4.out.size))
        have HT5 := Lib.hid (HT.out.below HB5.out h2)
        have hsz5 : g < w5.heap.size := HW5.out.lt
        clear hb5
        go_wp2_with (go_at_call 12; refine (sum_stB g 44 l w5 HT5.out HW5.out hl35).mono ?_; rintro e w6 ⟨rfl, hb6⟩; refine Hid.out ?_)
        refine Lib.hid ?_
        have HW6 := Lib.hid (HW5.out.below hb6 hsz5)
        have HB6 := Lib.hid (HB5.out.trans (hb6.mono HB5.out.size))
        clear hb6
        go_wp2_with (go_at_call 13; refine (len_st g 44 l _ HW6.out).mono ?_; rintro e w' ⟨rfl, rfl⟩)
        go_roundw
        case rel => exact ⟨k + 1, by omega, by go_num, by rw [HE.out], by rw [HE.out]; exact HL2, by rw [HE.out]; exact HW6, HB6⟩
        case measure => simp [intOf]; omega
    · go_wp2
      go_ret
      exact ⟨rfl, HB.out⟩

set_option maxRecDepth 100000 in
set_option maxHeartbeats 1000000 in
theorem goes_e (A : Option Addr) (n c : Nat) (w : World) (hT : Tabs w) (hn : 30 < n) (_m : n ≤ maxLen) :
    Calls Tryd.prog 4 #[.slice A n c] w fun e w' => e = .returned (.bool true) ∧ Below w.heap.size w w' := by
  unfold maxLen at _m
  have HT := Lib.hid hT
  clear hT
  go_enter Tryd.func4, Tryd.ntmps4
  go_wp2_with (go_at_call 7; refine (awake_any _ HT.out).mono ?_; rintro e w1 ⟨rfl, hb1⟩)
  go_ret
  exact ⟨rfl, hb1⟩
theorem goes_walk (A : Option Addr) (n c : Nat) (ss : Nat → ByteArray) (w : World) (hT : Tabs w) (m : n ≤ maxLen) (r : VIn w A n (fun k => .string (ss k))) (hs : ∀ k, k < n → (ss k).size ≤ 140737488351232) :
    Calls Tryd.prog 4 #[.slice A n c] w fun e w' => e = .returned (.bool true) ∧ Below w.heap.size w w' := by
  by_cases hn : 30 < n
  · exact goes_e A n c w hT hn m
  · exact goes_main A n c ss w hT (by omega) r hs

end Go.Proofs.YteciidnjikcimaaDoor.Sha
