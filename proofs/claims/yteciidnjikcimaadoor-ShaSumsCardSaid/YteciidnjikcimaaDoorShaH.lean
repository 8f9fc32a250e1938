/- Contracts of layer 2 (sha): bytes as digits; the document's example. -/
import Derived.Test.YteciidnjikcimaaDoorShaG
import Derived.Deep.RegionHeld3
import Derived.Deep.AppendLies
import Derived.Deep.DrawnRows
namespace Go.Proofs.YteciidnjikcimaaDoor.Sha
open Go.RowKit Go.Lib
attribute [local go_sem ↓] Go.wp_at_zero Go.wp_at_succ

def digS : ByteArray := ⟨#[48, 49, 50, 51, 52, 53, 54, 55, 56, 57, 97, 98, 99, 100, 101, 102]⟩
theorem run_digit (v : World) (i : Nat) (x : Int) (hx : x = (i : Int)) (hi : i < 16) : (Instr.index 9 (.string ⟨#[48, 49, 50, 51, 52, 53, 54, 55, 56, 57, 97, 98, 99, 100, 101, 102]⟩) (.int .u8 x)).run Tryd.prog v = .ok (.int .u8 ((digits.getD i 0).toNat : Int)) v := by
  subst hx
  have h : ∀ i, i < 16 → ((⟨#[48, 49, 50, 51, 52, 53, 54, 55, 56, 57, 97, 98, 99, 100, 101, 102]⟩ : ByteArray))[i]? = some (digits.getD i 0) := by decide
  simp only [Instr.index, asIntOf, Sem.run_bind, Sem.run_pure, Result.andThen_ok, run_underlying Tryd.underlying9, Int.natCast_nonneg, if_true, Int.toNat_natCast, h i hi]

theorem hexB_len (l : List UInt8) (k : Nat) : (hexB l k).length = 2 * k := by
  induction k with
  | zero => rfl
  | succ k ih => simp [hexB, ih]; omega

set_option maxRecDepth 100000 in
set_option maxHeartbeats 400000 in
theorem hex_any (s : ByteArray) (w : World) (hs : (s.size : Int) ≤ 35184372088832) :
    Calls Tryd.prog 16 #[.string s] w fun e w' => e = .returned (.string ⟨(hexB s.data.toList s.size).toArray⟩) ∧ Below w.heap.size w w' := by
  obtain ⟨i0, hi, hz0, hz1, hz2⟩ := info_parts info8
  obtain ⟨w0, hmk, hown0, hgr0⟩ := run_make_own (P := Tryd.prog) w w.heap.size 50 5 i0 (.int .u8 0) 1 Tryd.underlying50 hi hz0 hz1 .i64 .i64 (2 * s.size) (by rw [hz2]; omega) (by unfold maxLen; omega) (Nat.le_refl _)
  rw [Int.natCast_mul, show ((2 : Nat) : Int) = 2 by rfl] at hmk
  have HO := Lib.hid hown0
  have HB0 := Lib.hid ((Below.refl w.heap.size w).grown hgr0 (Nat.le_refl _) (fun k hk => by cases hk))
  clear hown0 hgr0
  go_enter Tryd.func16, Tryd.ntmps16
  go_wp2
  go_loopw [3, 11] (fun v i wr => ∃ (k : Nat) (l : List UInt8), k ≤ s.size ∧ i = .int .i64 k ∧ Hid (l = hexB s.data.toList k) ∧ Hid (wr.ownsRow w.heap.size 5 1 v l.length (byteCells l)) ∧ Hid (Below w.heap.size w wr)) (fun _ i _ => s.size - (intOf i).toNat)
  case atStart => exact ⟨0, [], by omega, rfl, Lib.hid rfl, HO, HB0⟩
  case round =>
    clear HO hmk HB0
    obtain ⟨k, l, hk, rfl, HL, HO, HB⟩ := hrel
    have hlen : (l.length : Int) ≤ 70368744177664 := by rw [HL.out, hexB_len]; omega
    by_cases hlt : k < s.size
    · have hb255 : s[k].toNat < 256 := s[k].toNat_lt
      have hbt : bt s.data.toList k = s[k].toNat := by
        unfold bt
        rw [List.getD_eq_getElem?_getD, List.getElem?_eq_getElem (by simpa using hlt)]; rfl
      obtain ⟨y1, hy1⟩ : ∃ y : Nat, s[k].toNat / 16 = y := ⟨_, rfl⟩
      obtain ⟨y2, hy2⟩ : ∃ y : Nat, s[k].toNat % 16 = y := ⟨_, rfl⟩
      have hy1i : (s[k].toNat : Int) / 16 = (y1 : Int) := by omega
      have hy2i : (s[k].toNat : Int) % 16 = (y2 : Int) := by omega
      have hy2b : bits .and .u8 (s[k].toNat : Int) 15 = (y2 : Int) := by
        have h := u8_and_nat s[k].toNat 15 hb255 (by omega)
        rw [show ((15 : Nat) : Int) = 15 by rfl] at h
        rw [h, show (15 : Nat) = 2 ^ 4 - 1 by rfl, Nat.and_two_pow_sub_one_eq_mod, ← hy2]
      obtain ⟨d1, hd1⟩ : ∃ d : UInt8, digits.getD y1 0 = d := ⟨_, rfl⟩
      obtain ⟨d2, hd2⟩ : ∃ d : UInt8, digits.getD y2 0 = d := ⟨_, rfl⟩
      have r1 := fun v : World => run_digit v y1 (y1 : Int) rfl (by omega)
      have r2 := fun v : World => run_digit v y2 (y2 : Int) rfl (by omega)
      rw [hd1] at r1
      rw [hd2] at r2
      have HN := Lib.hid (show hexB s.data.toList (k + 1) = hexB s.data.toList k ++ [d1, d2] by rw [hexB, hbt, hy1, hy2, hd1, hd2])
      clear hy1 hy2 hd1 hd2 hbt
      have hs1 := HB.out.size
      have HLen := Lib.hid hlen
      go_wp2
      go_region_held3 (fun _ => True) (trivial) ((refine step_append_lies _ (by rfl) _ _ _ (by rfl) w.heap.size 5 i0 (.int .u8 0) 1 1 Tryd.underlying50 hi hz0 hz1 hz2 rfl (by decide) _ l.length (byteCells l) (by rfl) ((HO.out.alloc _).drew) ⟨wr.heap.size, 0, none⟩ 2 2 [.int .u8 (d1.toNat : Int), .int .u8 (d2.toNat : Int)] (by rfl) (by rfl) (World.news_of_block (cs := #[.int .u8 (d1.toNat : Int), .int .u8 (d2.toNat : Int)]) (t := 5) (fr := (0, 0)) (heap_alloc_new wr _)) (by simp [Value.oneCell']) (by omega) (by unfold maxLen; omega) (by omega) (by simp; omega) (wr.heap.size + 1) (by simp) ?_; intro g cap w1 hown1 hgrow hat hltg))
      all_goals
        have HB2 := Lib.hid (((HB.out.alloc hs1 _).drew).grown hgrow (by simp; omega) (fun k hk => (HO.out.lt k hk).1))
        have HO2 : Hid (w1.ownsRow w.heap.size 5 1 (.slice (some ⟨g, 0, none⟩) (l.length + 2) cap) (l ++ [d1, d2]).length (byteCells (l ++ [d1, d2]))) := Lib.hid (by
          have e1 : (l ++ [d1, d2]).length = l.length + 2 := by simp
          have e2 : byteCells (l ++ [d1, d2]) = byteCells l ++ [.int .u8 (d1.toNat : Int), .int .u8 (d2.toNat : Int)] := by simp [byteCells]
          rw [e1, e2]; exact hown1)
        clear hown1 hgrow hat hltg r1 r2 hy1i hy2i hy2b
        go_wp2
        go_roundw
        case rel => exact ⟨k + 1, l ++ [d1, d2], by omega, by go_num, Lib.hid (by rw [HN.out, HL.out]), HO2, HB2⟩
        case measure => simp [intOf]; omega
    · have HK := Lib.hid (show k = s.size by omega)
      have hcv := conv_own HO.out
      go_wp2
      go_ret
      exact ⟨by rw [HL.out, HK.out]; rfl, HB.out⟩

theorem dig_len (l : List UInt8) : (dig l).length = 32 := by unfold dig; rw [outB_len]
theorem ba_size (l : List UInt8) : (⟨l.toArray⟩ : ByteArray).size = l.length := rfl
theorem ba_list (l : List UInt8) : (⟨l.toArray⟩ : ByteArray).data.toList = l := rfl

/-- A text's digest, as bytes. -/
def digB (l : List UInt8) : ByteArray := ⟨(dig l).toArray⟩
theorem digB_size (l : List UInt8) : (digB l).size = 32 := dig_len l
/-- Sum of one text that lies in a slice of its own. -/
theorem sum_one (s : ByteArray) (w : World) (hT : Tabs w) (hs : (s.size : Int) ≤ 35184372088832) :
    Calls Tryd.prog 11 #[.slice (some ⟨w.heap.size, 0, none⟩) 1 1] (w.alloc (.cells #[.string s] 9)) fun e w' => e = .returned (.string (digB s.data.toList)) ∧ Below w.heap.size w w' := by
  have hb0 := (Below.refl w.heap.size w).alloc (Nat.le_refl _) (.cells #[.string s] 9)
  have h := sum_any (some ⟨w.heap.size, 0, none⟩) 1 1 (fun _ => s) (w.alloc (.cells #[.string s] 9)) (hT.below hb0 hT.size) (by
    intro k hk
    obtain rfl : k = 0 := by omega
    exact ⟨w.heap.size, 0, rfl, by simp, by simp, by rw [cell_of_row _ _ _ _ _ _ (heap_alloc_new w _)]; rfl⟩) (by omega) (by rw [cat_one]; exact hs)
  rw [cat_one] at h
  exact h.mono fun e w' ⟨he, hb⟩ => ⟨he, hb0.trans (hb.mono (by simp))⟩

set_option maxRecDepth 100000 in
set_option maxHeartbeats 400000 in
theorem awake_any (w : World) (hT : Tabs w) :
    Calls Tryd.prog 7 #[] w fun e w' => e = .returned (.bool true) ∧ Below w.heap.size w w' := by
  have HT := Lib.hid hT
  have hDs : ((digB abc).size : Int) ≤ 35184372088832 := by rw [digB_size]; decide
  have HD : Hid (hexB (digB abc).data.toList (digB abc).size = abcHex) := Lib.hid (by rw [digB_size]; exact abc_hex)
  clear hT
  go_enter Tryd.func7, Tryd.ntmps7
  go_wp2_with (go_at_call 11; refine (sum_one ⟨#[97, 98, 99]⟩ w HT.out (by decide)).mono ?_; rintro e w1 ⟨rfl, hb1⟩; refine Hid.out ?_)
  refine Lib.hid ?_
  have e1 : digB (⟨#[97, 98, 99]⟩ : ByteArray).data.toList = digB abc := rfl
  rw [e1]
  have HB1 := Lib.hid hb1
  clear hb1 e1
  go_wp2_with (go_at_call 16; refine (hex_any (digB abc) _ hDs).mono ?_; rintro e w2 ⟨rfl, hb2⟩; refine Hid.out ?_)
  refine Lib.hid ?_
  rw [HD.out]
  have HB2 := Lib.hid (HB1.out.trans (hb2.mono HB1.out.size))
  clear hb2
  go_wp2
  go_ret
  exact ⟨rfl, HB2.out⟩

end Go.Proofs.YteciidnjikcimaaDoor.Sha
