/- The walk of the law ShaSums, by what the document's own digest answers. -/
import Derived.Test.YteciidnjikcimaaDoorGoesWalk
namespace Go.Proofs.YteciidnjikcimaaDoor.Sha
open Go.RowKit Go.Lib

/-- What the document's own digest answers. -/
def DigestOk : Prop := ∀ (t : ByteArray) (w : World), t.size ≤ 400 → Calls Tryd.prog 8 #[.string t] w fun e w' => e = .returned (.string (digB t.data.toList)) ∧ Below w.heap.size w w'

set_option maxRecDepth 100000 in
set_option maxHeartbeats 400000 in
theorem write_nil (A : Option Addr) (n c : Nat) (w : World) :
    Calls Tryd.prog 10 #[.pointer none, .slice A n c] w fun e w' => e = .returned (.tuple #[]) ∧ w = w' := by
  go_enter Tryd.func10, Tryd.ntmps10
  go_wp2
  first | (go_end0; exact ⟨rfl, rfl⟩) | exact bodyPost_ret (v := .tuple #[]) (by simp [results, Tryd.results10]) rfl ⟨rfl, rfl⟩
set_option maxRecDepth 100000 in
set_option maxHeartbeats 400000 in
theorem sum_nil (w : World) :
    Calls Tryd.prog 12 #[.pointer none] w fun e w' => e = .returned (.string ⟨#[]⟩) ∧ w = w' := by
  go_enter Tryd.func12, Tryd.ntmps12
  go_wp2
  go_ret
  exact ⟨rfl, rfl⟩
set_option maxRecDepth 100000 in
set_option maxHeartbeats 400000 in
theorem len_nil (w : World) :
    Calls Tryd.prog 13 #[.pointer none] w fun e w' => e = .returned (.int .i64 0) ∧ w = w' := by
  go_enter Tryd.func13, Tryd.ntmps13
  go_wp2
  go_ret
  exact ⟨rfl, rfl⟩

set_option maxRecDepth 100000 in
set_option maxHeartbeats 1000000 in
theorem sums_main (hD : DigestOk) (A : Option Addr) (n c : Nat) (ss : Nat → ByteArray) (w : World) (hT : Tabs w) (hn : n ≤ 20) (r : VIn w A n (fun k => .string (ss k))) (hs : ∀ k, k < n → (ss k).size ≤ 140737488351232) :
    Calls Tryd.prog 3 #[.slice A n c] w fun e w' => e = .returned (.bool true) ∧ Below w.heap.size w w' := by
  have HD := Lib.hid hD
  have HT := Lib.hid hT
  have h2 := hT.size
  have R := Lib.hid r
  have HS := Lib.hid hs
  clear hT r hs hD
  go_enter Tryd.func3, Tryd.ntmps3
  go_wp2_with (go_at_call 7; refine (awake_any _ HT.out).mono ?_; rintro e w1 ⟨rfl, hb1⟩; refine Hid.out ?_)
  refine Lib.hid ?_
  have HB1 := Lib.hid hb1
  clear hb1
  go_wp2
  go_loopw [3, 18] (fun x i wr => ∃ k : Nat, k ≤ n ∧ i = .int .i64 k ∧ x = .string (sbl (cat ss k)) ∧ Hid ((cat ss k).length ≤ 400) ∧ Hid (Below w.heap.size w wr)) (fun _ i _ => n - (intOf i).toNat)
  case atStart => exact ⟨0, by omega, rfl, rfl, Lib.hid (by simp [cat]), HB1⟩
  case round =>
    clear HB1
    obtain ⟨k, hk, rfl, rfl, HL, HB⟩ := hrel
    by_cases hlt : k < n
    · obtain ⟨b, o, rfl, hbl, hc0⟩ := R.out k hlt
      have hc : wr.cell? ⟨b, o + k, none⟩ = some (.string (ss k)) := (HB.out.cell (p := ⟨b, o + k, none⟩) hbl).trans hc0
      have hsk := HS.out k hlt
      have hsl : (sbl (cat ss k)).size ≤ 400 := HL.out
      clear hc0
      by_cases hlong : 400 < (sbl (cat ss k)).size + (ss k).size
      · go_wp2
        go_ret
        exact ⟨rfl, HB.out⟩
      · have HA := Lib.hid (sbl_app (cat ss k) (ss k))
        have HL2 : Hid ((cat ss (k + 1)).length ≤ 400) := Lib.hid (by
          rw [cat, List.length_append]
          have e1 : (sbl (cat ss k)).size = (cat ss k).length := rfl
          have e2 : (ss k).data.toList.length = (ss k).size := rfl
          omega)
        go_wp2
        go_roundw
        case rel => exact ⟨k + 1, by omega, by go_num, by rw [HA.out]; rfl, HL2, HB⟩
        case measure => simp [intOf]; omega
    · obtain rfl : n = k := by omega
      have hl4 : (sbl (cat ss n)).size ≤ 400 := HL.out
      obtain ⟨l, hl⟩ : ∃ l, cat ss n = l := ⟨_, rfl⟩
      rw [hl] at HL hl4 ⊢
      have HE := Lib.hid hl
      clear hl
      go_wp2_with (go_at_call 8; refine (HD.out (sbl l) _ hl4).mono ?_; rintro e w2 ⟨rfl, hb2⟩; refine Hid.out ?_)
      refine Lib.hid ?_
      rw [sbl_list]
      have HB2 := Lib.hid (HB.out.trans (hb2.mono HB.out.size))
      have hs2 : w.heap.size ≤ w2.heap.size := HB2.out.size
      clear hb2 HB
      go_wp2_with (go_at_call 9; refine (new_st _).mono ?_; rintro e w3 ⟨rfl, hst3, hb3⟩; refine Hid.out ?_)
      refine Lib.hid ?_
      have HB3 := Lib.hid (HB2.out.trans (hb3.mono hs2))
      have HS3 := Lib.hid hst3
      obtain ⟨g, hg⟩ : ∃ g, w2.heap.size = g := ⟨_, rfl⟩
      rw [hg] at HS3 hs2 ⊢
      have hg2 : 2 ≤ g := by omega
      clear hb3 hst3 hg HB2
      go_wp2
      go_loopw [34] (fun i wr => ∃ k : Nat, k ≤ n ∧ i = .int .i64 k ∧ Hid (StW wr g 44 (cat ss k)) ∧ Hid (Below w.heap.size w wr)) (fun i _ => n - (intOf i).toNat)
      case atStart => exact ⟨0, by omega, rfl, HS3, HB3⟩
      case round =>
        clear HB3 HS3
        obtain ⟨k, hk, rfl, HW, HB⟩ := hrel
        by_cases hlt2 : k < n
        · obtain ⟨b, o, rfl, hbl, hc0⟩ := R.out k hlt2
          have hc : wr.cell? ⟨b, o + k, none⟩ = some (.string (ss k)) := (HB.out.cell (p := ⟨b, o + k, none⟩) hbl).trans hc0
          have HZ : Hid ((((cat ss k).length : Nat) : Int) + ((ss k).size : Int) ≤ 70368744177664) := Lib.hid (by
            have h1 := cat_le ss (k + 1) n (by omega)
            have h2 := HL.out
            rw [cat, List.length_append, HE.out] at h1
            have e : (ss k).data.toList.length = (ss k).size := rfl
            omega)
          have HT1 := Lib.hid (HT.out.below HB.out h2)
          clear hc0
          go_wp2_with (go_at_call 10; refine (write_one g 44 (cat ss k) (ss k) wr hg2 HT1.out HW.out HZ.out).mono ?_; rintro e w4 ⟨rfl, hst4, ho4⟩; refine Hid.out ?_)
          refine Lib.hid ?_
          have HW4 : Hid (StW w4 g 44 (cat ss (k + 1))) := Lib.hid hst4
          have HB4 := Lib.hid (HB.out.trans (ho4.below hs2 HB.out.size))
          clear hst4 ho4
          go_wp2
          go_roundw
          case rel => exact ⟨k + 1, by omega, by go_num, HW4, HB4⟩
          case measure => simp [intOf]; omega
        · obtain rfl : n = k := by omega
          rw [HE.out] at HW
          have HT1 := Lib.hid (HT.out.below HB.out h2)
          have hgl : g < wr.heap.size := HW.out.lt
          have hl35 : (l.length : Int) ≤ 35184372088832 := by have := HL.out; omega
          have hsb : (sbl l).size = l.length := rfl
          have HA1 : Hid (SArg wr wr.heap.size A n ss) := Lib.hid (fun q hq => by
            obtain ⟨b, o, e, hb, hcq⟩ := R.out q hq
            have := HB.out.size
            exact ⟨b, o, e, by omega, by omega, (HB.out.cell (p := ⟨b, o + q, none⟩) hb).trans hcq⟩)
          have HSm : Hid (Calls Tryd.prog 11 #[.slice A n c] wr fun e w' => e = .returned (.string (digB l)) ∧ Below wr.heap.size wr w') := Lib.hid (by
            have h := sum_any A n c ss wr HT1.out HA1.out (by omega) (by rw [HE.out]; exact hl35)
            rw [HE.out] at h; exact h)
          go_wp2_with (go_at_call 10; refine (write_nil _ _ _ _).mono ?_; rintro e w' ⟨rfl, rfl⟩; refine Hid.out ?_)
          refine Lib.hid ?_
          go_wp2_with (go_at_call 11; refine HSm.out.mono ?_; rintro e w5 ⟨rfl, hb5⟩; refine Hid.out ?_)
          refine Lib.hid ?_
          have HW5 := Lib.hid (HW.out.below hb5 hgl)
          have HB5 := Lib.hid (HB.out.trans (hb5.mono HB.out.size))
          have HT5 := Lib.hid (HT.out.below HB5.out h2)
          have hsz5 : g < w5.heap.size := HW5.out.lt
          clear hb5
          go_wp2_with (go_at_call 11; refine (sum_oneB l w5 HT5.out hl35).mono ?_; rintro e w6 ⟨rfl, hb6⟩; refine Hid.out ?_)
          refine Lib.hid ?_
          have HW6 := Lib.hid (HW5.out.below hb6 hsz5)
          have HB6 := Lib.hid (HB5.out.trans (hb6.mono HB5.out.size))
          have HT6 := Lib.hid (HT.out.below HB6.out h2)
          have hsz6 : g < w6.heap.size := HW6.out.lt
          clear hb6
          go_wp2_with (go_at_call 12; refine (sum_stB g 44 l w6 HT6.out HW6.out hl35).mono ?_; rintro e w7 ⟨rfl, hb7⟩; refine Hid.out ?_)
          refine Lib.hid ?_
          have HW7 := Lib.hid (HW6.out.below hb7 hsz6)
          have HB7 := Lib.hid (HB6.out.trans (hb7.mono HB6.out.size))
          clear hb7
          go_wp2_with (go_at_call 13; refine (len_st g 44 l _ HW7.out).mono ?_; rintro e w' ⟨rfl, rfl⟩; refine Hid.out ?_)
          refine Lib.hid ?_
          go_wp2_with (go_at_call 12; refine (sum_nil _).mono ?_; rintro e w' ⟨rfl, rfl⟩; refine Hid.out ?_)
          refine Lib.hid ?_
          go_wp2_with (go_at_call 13; refine (len_nil _).mono ?_; rintro e w' ⟨rfl, rfl⟩)
          go_ret
          exact ⟨rfl, HB7.out⟩

set_option maxRecDepth 100000 in
set_option maxHeartbeats 1000000 in
theorem sums_e (A : Option Addr) (n c : Nat) (w : World) (hT : Tabs w) (hn : 20 < n) (_m : n ≤ maxLen) :
    Calls Tryd.prog 3 #[.slice A n c] w fun e w' => e = .returned (.bool true) ∧ Below w.heap.size w w' := by
  unfold maxLen at _m
  have HT := Lib.hid hT
  clear hT
  go_enter Tryd.func3, Tryd.ntmps3
  go_wp2_with (go_at_call 7; refine (awake_any _ HT.out).mono ?_; rintro e w1 ⟨rfl, hb1⟩)
  go_ret
  exact ⟨rfl, hb1⟩
theorem sums_walk (hD : DigestOk) (A : Option Addr) (n c : Nat) (ss : Nat → ByteArray) (w : World) (hT : Tabs w) (m : n ≤ maxLen) (r : VIn w A n (fun k => .string (ss k))) (hs : ∀ k, k < n → (ss k).size ≤ 140737488351232) :
    Calls Tryd.prog 3 #[.slice A n c] w fun e w' => e = .returned (.bool true) ∧ Below w.heap.size w w' := by
  by_cases hn : 20 < n
  · exact sums_e A n c w hT hn m
  · exact sums_main hD A n c ss w hT (by omega) r hs

end Go.Proofs.YteciidnjikcimaaDoor.Sha
