/- The walk of the law OctetRows. -/
import Derived.Test.YtahngmddhpnjgaaDoorRowsMath
namespace Go.Proofs.YtahngmddhpnjgaaDoor.Oct
open Go.RowKit Go.Lib

set_option maxRecDepth 100000 in
set_option maxHeartbeats 4000000 in
theorem rows_main (A0 A1 A2 : Option Addr) (n0 n1 n2 c0 c1 c2 : Nat) (z y : Nat → Int) (ss : Nat → ByteArray) (w : World) (hg : Err.ErrTab w) (h0 : n0 ≤ 30) (h1 : n1 ≤ 30) (h2 : n2 ≤ 30)
    (r0 : SArg w A0 n0 (fun k => .int .u32 (z k))) (r1 : SArg w A1 n1 (fun k => .int .i32 (y k))) (r2 : SArg w A2 n2 (fun k => .string (ss k)))
    (b0 : ∀ k, k < n0 → 0 ≤ z k ∧ z k ≤ 4294967295) (b1 : ∀ k, k < n1 → -2147483648 ≤ y k ∧ y k ≤ 2147483647) (b2 : ∀ k, k < n2 → (ss k).size ≤ maxLen) :
    Calls Tryd.prog 5 #[.slice A0 n0 c0, .slice A1 n1 c1, .slice A2 n2 c2] w fun e w' => e = .returned (.bool true) ∧ Below w.heap.size w w' := by
  have HG := Lib.hid hg
  have R0 := Lib.hid r0
  have R1 := Lib.hid r1
  have R2 := Lib.hid r2
  have D0 := Lib.hid b0
  have D1 := Lib.hid b1
  have D2 := Lib.hid b2
  clear hg r0 r1 r2 b0 b1 b2
  obtain ⟨f0, hf0⟩ : ∃ f : Nat → Nat, f = fun k => (z k).toNat := ⟨_, rfl⟩
  obtain ⟨f1, hf1⟩ : ∃ f : Nat → Nat, f = fun k => (turnOf (y k)).toNat := ⟨_, rfl⟩
  have F0 := Lib.hid (show ∀ k, k < n0 → z k = (f0 k : Int) ∧ f0 k < 2 ^ 56 by intro k hk; have := D0.out k hk; subst hf0; simp only; omega)
  have F1 := Lib.hid (show ∀ k, k < n1 → turnOf (y k) = (f1 k : Int) ∧ f1 k < 2 ^ 56 by
    intro k hk; have := D1.out k hk; have ht := turn_range (y k) (by omega) (by omega); subst hf1; simp only; omega)
  clear hf0 hf1
  have N0 := Lib.hid (nb_len f0 n0 (fun i hi => (F0.out i hi).2))
  have N1 := Lib.hid (nb_len f1 n1 (fun i hi => (F1.out i hi).2))
  go_enter Tryd.func5, Tryd.ntmps5
  go_wp2_with (go_at_call 6; refine (awake_any _).mono ?_; rintro e w1 ⟨rfl, hb1⟩; refine Hid.out ?_)
  refine Lib.hid ?_
  have B1 := Lib.hid hb1
  clear hb1
  go_wp2
  -- the numbers are written
  go_loopw [7, 55] (fun s i wr => ∃ k : Nat, k ≤ n0 ∧ i = .int .i64 k ∧ s = .string (sbl (nb f0 k)) ∧ Hid (Below w.heap.size w wr)) (fun _ i _ => n0 - (RowKit.intOf i).toNat)
  case atStart => exact ⟨0, by omega, rfl, rfl, B1⟩
  case round =>
    obtain ⟨k, hk, rfl, rfl, HB⟩ := hrel
    clear B1
    have hlk : (sbl (nb f0 k)).size ≤ 240 := by rw [sbl_size]; have := N0.out k hk; omega
    by_cases hlt : k < n0
    · obtain ⟨b, o, rfl, hbl, hc0⟩ := R0.out k hlt
      have hc : wr.cell? ⟨b, o + k, none⟩ = some (.int .u32 (z k)) := (HB.out.cell (p := ⟨b, o + k, none⟩) hbl).trans hc0
      clear hc0
      obtain ⟨x, hx⟩ : ∃ x, z k = x := ⟨_, rfl⟩
      have hxb := D0.out k hlt
      have hxf := F0.out k hlt
      rw [hx] at hc hxb hxf
      have HF := Lib.hid hxf
      clear hx hxf
      obtain ⟨hx0, hx1⟩ := hxb
      have hsn : (sb (f0 k)).size ≤ 8 := by rw [sb_size]; exact short_len8 _ HF.out.2
      go_wp2_with (go_at_call 13; refine (putShort_sb _ (f0 k) _ HF.out.1 (by omega)).mono ?_; rintro e w2 ⟨rfl, hb2⟩; refine Hid.out ?_)
      refine Lib.hid ?_
      have HB2 := Lib.hid (HB.out.trans (hb2.mono HB.out.size))
      clear hb2
      go_wp2
      go_roundw
      case rel => exact ⟨k + 1, by omega, by go_num, by rw [sbl_sb]; rfl, HB2⟩
      case measure => simp [RowKit.intOf]; omega
    · have HE := Lib.hid (show k = n0 by omega)
      have HL0 := Lib.hid (show (nb f0 n0).length ≤ 240 by have := N0.out n0 (Nat.le_refl _); omega)
      go_wp2
      -- the turned ones are written
      go_loopw [7, 73] (fun s i wr => ∃ k : Nat, k ≤ n1 ∧ i = .int .i64 k ∧ s = .string (sbl (nb f0 n0 ++ nb f1 k)) ∧ Hid (Below w.heap.size w wr)) (fun _ i _ => n1 - (RowKit.intOf i).toNat)
      case atStart => exact ⟨0, by omega, rfl, by rw [HE.out]; simp [nb], HB⟩
      case round =>
        clear HB HE hlk hlt hk
        obtain ⟨k, hk, rfl, rfl, HB⟩ := hrel
        have hlk : (sbl (nb f0 n0 ++ nb f1 k)).size ≤ 480 := by rw [sbl_size, List.length_append]; have := N1.out k hk; have := HL0.out; omega
        by_cases hlt : k < n1
        · obtain ⟨b, o, rfl, hbl, hc0⟩ := R1.out k hlt
          have hc : wr.cell? ⟨b, o + k, none⟩ = some (.int .i32 (y k)) := (HB.out.cell (p := ⟨b, o + k, none⟩) hbl).trans hc0
          clear hc0
          obtain ⟨x, hx⟩ : ∃ x, y k = x := ⟨_, rfl⟩
          have hxb := D1.out k hlt
          have hxf := F1.out k hlt
          rw [hx] at hc hxb hxf
          have HF := Lib.hid hxf
          clear hx hxf
          obtain ⟨hx0, hx1⟩ := hxb
          have hsn : (sb (f1 k)).size ≤ 8 := by rw [sb_size]; exact short_len8 _ HF.out.2
          go_wp2_with (go_at_call 14; refine (putTurned_sb _ (f1 k) _ (by omega) (by omega) HF.out.1).mono ?_; rintro e w2 ⟨rfl, hb2⟩; refine Hid.out ?_)
          refine Lib.hid ?_
          have HB2 := Lib.hid (HB.out.trans (hb2.mono HB.out.size))
          clear hb2
          go_wp2
          go_roundw
          case rel => exact ⟨k + 1, by omega, by go_num, by rw [sbl_sb, List.append_assoc]; rfl, HB2⟩
          case measure => simp [RowKit.intOf]; omega
        · have HE := Lib.hid (show k = n1 by omega)
          have HL1 := Lib.hid (show (nb f1 n1).length ≤ 240 by have := N1.out n1 (Nat.le_refl _); omega)
          go_wp2
          -- no text is too long
          go_loopw [91] (fun i wr => ∃ k : Nat, k ≤ n2 ∧ i = .int .i64 k ∧ Hid (∀ j, j < k → (ss j).size ≤ 300) ∧ Hid (Below w.heap.size w wr)) (fun i _ => n2 - (RowKit.intOf i).toNat)
          case atStart => exact ⟨0, by omega, rfl, Lib.hid (fun _ h => by omega), HB⟩
          case round =>
            clear HB hlk hlt hk
            obtain ⟨q, hq, rfl, HQ, HB⟩ := hrel
            by_cases hlt : q < n2
            · obtain ⟨b, o, rfl, hbl, hc0⟩ := R2.out q hlt
              have hc : wr.cell? ⟨b, o + q, none⟩ = some (.string (ss q)) := (HB.out.cell (p := ⟨b, o + q, none⟩) hbl).trans hc0
              have hsz := D2.out q hlt
              unfold maxLen at hsz
              clear hc0
              by_cases h300 : 300 < (ss q).size
              · go_wp2
                go_ret
                exact ⟨rfl, HB.out⟩
              · go_wp2
                go_roundw
                case rel => exact ⟨q + 1, by omega, by go_num, Lib.hid (fun j hj => by
                  by_cases e : j = q
                  · subst e; omega
                  · exact HQ.out j (by omega)), HB⟩
                case measure => simp [RowKit.intOf]; omega
            · have HE2 := Lib.hid (show q = n2 by omega)
              have HQ2 := Lib.hid (show ∀ j, j < n2 → (ss j).size ≤ 300 by rw [← HE2.out]; exact HQ.out)
              have HT := Lib.hid (tx_len ss n2 HQ2.out)
              have HT2 := Lib.hid (show (tx ss n2).length ≤ 9240 by have := HT.out n2 (Nat.le_refl _); omega)
              clear HQ HE2
              have hzt : (sbl (tx ss n2)).size ≤ 9240 := by rw [sbl_size]; exact HT2.out
              have hza : (sbl (nb f0 n0 ++ nb f1 k)).size ≤ 480 := by rw [HE.out, sbl_size, List.length_append]; have := HL0.out; have := HL1.out; omega
              go_wp2_with (go_at_call 21; refine (putText_sbl _ _ _ ss _ (by omega) (R2.out.below HB.out) (by have := HT2.out; omega)).mono ?_; rintro e w2 ⟨rfl, hb2⟩; refine Hid.out ?_)
              refine Lib.hid ?_
              have HB2 := Lib.hid (HB.out.trans (hb2.mono HB.out.size))
              clear hb2 HB
              go_wp2
              obtain ⟨S, hS⟩ : ∃ S, sbl (nb f0 n0 ++ nb f1 k) ++ sbl (tx ss n2) = S := ⟨_, rfl⟩
              rw [hS]
              have HS := Lib.hid (show S.data.toList = nb f0 n0 ++ nb f1 n1 ++ tx ss n2 by rw [← hS, HE.out, sbl_sbl, sbl_data])
              clear hS hza hzt HE
              have HSz := Lib.hid (show S.size = (nb f0 n0).length + (nb f1 n1).length + (tx ss n2).length by rw [size_eq, HS.out]; simp [Nat.add_assoc])
              have hSs : S.size ≤ 9720 := by have := HSz.out; have := HL0.out; have := HL1.out; have := HT2.out; omega
              have HSm := Lib.hid (show S.size ≤ maxLen by unfold maxLen; omega)
              -- the numbers are read
              go_loop [18, 105] (fun a i => ∃ (k : Nat) (p : Int), k ≤ n0 ∧ i = .int .i64 k ∧ a = .int .i64 p ∧ Hid (p = ((nb f0 k).length : Int))) (fun _ i => n0 - (RowKit.intOf i).toNat)
              case atStart => exact ⟨0, 0, by omega, rfl, rfl, Lib.hid rfl⟩
              case round =>
                clear hlt hq
                obtain ⟨k, p, hk, rfl, rfl, HP⟩ := hrel
                by_cases hlt : k < n0
                · obtain ⟨b, o, rfl, hbl, hc0⟩ := (R0.out.below HB2.out) k hlt
                  have hc : w2.cell? ⟨b, o + k, none⟩ = some (.int .u32 (z k)) := hc0
                  clear hc0
                  obtain ⟨x, hx⟩ : ∃ x, z k = x := ⟨_, rfl⟩
                  have hxb := D0.out k hlt
                  have hxf := F0.out k hlt
                  rw [hx] at hc hxb hxf
                  have HF := Lib.hid hxf
                  clear hx hxf
                  obtain ⟨hx0, hx1⟩ := hxb
                  have HSp : Hid (∃ t, S.data.toList = nb f0 k ++ short (f0 k) ++ t) := Lib.hid (by
                    obtain ⟨t, ht⟩ := nb_split f0 k n0 hlt
                    exact ⟨t ++ nb f1 n1 ++ tx ss n2, by rw [HS.out, ht]; simp⟩)
                  obtain ⟨t, ht⟩ := HSp.out
                  have HTt := Lib.hid ht
                  clear ht HSp
                  go_wp2_with (go_at_call 15; refine (short_here _ _ x (nb f0 k) t (f0 k) _ HF.out.1 (by omega) HTt.out HP.out HSm.out).mono ?_; rintro e w3 ⟨rfl, rfl⟩; refine Hid.out ?_)
                  refine Lib.hid ?_
                  go_wp2
                  go_round
                  case rel => exact ⟨k + 1, p + ((sb (f0 k)).size : Int), by omega, by go_num, rfl, Lib.hid (by rw [HP.out, sb_size, nb, List.length_append]; omega)⟩
                  case measure => simp [RowKit.intOf]; omega
                · have HE0 := Lib.hid (show p = ((nb f0 n0).length : Int) by rw [HP.out, show k = n0 by omega])
                  go_wp2
                  -- the turned ones are read
                  go_loop [18, 128] (fun a i => ∃ (k : Nat) (p : Int), k ≤ n1 ∧ i = .int .i64 k ∧ a = .int .i64 p ∧ Hid (p = ((nb f0 n0 ++ nb f1 k).length : Int))) (fun _ i => n1 - (RowKit.intOf i).toNat)
                  case atStart => exact ⟨0, p, by omega, rfl, rfl, Lib.hid (by rw [HE0.out]; simp [nb])⟩
                  case round =>
                    clear HE0 HP hlt hk
                    obtain ⟨k, p, hk, rfl, rfl, HP⟩ := hrel
                    by_cases hlt : k < n1
                    · obtain ⟨b, o, rfl, hbl, hc0⟩ := (R1.out.below HB2.out) k hlt
                      have hc : w2.cell? ⟨b, o + k, none⟩ = some (.int .i32 (y k)) := hc0
                      clear hc0
                      obtain ⟨x, hx⟩ : ∃ x, y k = x := ⟨_, rfl⟩
                      have hxb := D1.out k hlt
                      have hxf := F1.out k hlt
                      rw [hx] at hc hxb hxf
                      have HF := Lib.hid hxf
                      clear hx hxf
                      obtain ⟨hx0, hx1⟩ := hxb
                      have HSp : Hid (∃ t, S.data.toList = (nb f0 n0 ++ nb f1 k) ++ short (f1 k) ++ t) := Lib.hid (by
                        obtain ⟨t, ht⟩ := nb_split f1 k n1 hlt
                        exact ⟨t ++ tx ss n2, by rw [HS.out, ht]; simp⟩)
                      obtain ⟨t, ht⟩ := HSp.out
                      have HTt := Lib.hid ht
                      clear ht HSp
                      go_wp2_with (go_at_call 18; refine (turned_here _ _ x (nb f0 n0 ++ nb f1 k) t (f1 k) _ (by omega) (by omega) HF.out.1 HTt.out HP.out HSm.out).mono ?_; rintro e w3 ⟨rfl, rfl⟩; refine Hid.out ?_)
                      refine Lib.hid ?_
                      go_wp2
                      go_round
                      case rel => exact ⟨k + 1, p + ((sb (f1 k)).size : Int), by omega, by go_num, rfl, Lib.hid (by rw [HP.out, sb_size, nb, List.length_append, List.length_append, List.length_append]; omega)⟩
                      case measure => simp [RowKit.intOf]; omega
                    · have HE1 := Lib.hid (show p = ((nb f0 n0 ++ nb f1 n1).length : Int) by rw [HP.out, show k = n1 by omega])
                      go_wp2
                      -- the texts are read
                      go_loopw [18, 151] (fun a i wr => ∃ (k : Nat) (p : Int), k ≤ n2 ∧ i = .int .i64 k ∧ a = .int .i64 p ∧ Hid (p = ((nb f0 n0 ++ nb f1 n1 ++ tx ss k).length : Int)) ∧ Hid (Below w.heap.size w wr)) (fun _ i _ => n2 - (RowKit.intOf i).toNat)
                      case atStart => exact ⟨0, p, by omega, rfl, rfl, Lib.hid (by rw [HE1.out]; simp [tx]), HB2⟩
                      case round =>
                        clear HE1 HP hlt hk HB2
                        obtain ⟨k, p, hk, rfl, rfl, HP, HB⟩ := hrel
                        by_cases hlt : k < n2
                        · obtain ⟨b, o, rfl, hbl, hc0⟩ := (R2.out.below HB.out) k hlt
                          have hc : wr.cell? ⟨b, o + k, none⟩ = some (.string (ss k)) := hc0
                          clear hc0
                          obtain ⟨T, hT⟩ : ∃ T, ss k = T := ⟨_, rfl⟩
                          have hTs := HQ2.out k hlt
                          have HSp : Hid (∃ t, S.data.toList = (nb f0 n0 ++ nb f1 n1 ++ tx ss k) ++ (short (ss k).size ++ (ss k).data.toList) ++ t ∧ (k = n2 - 1 → t = [])) := Lib.hid (by
                            by_cases e : k = n2 - 1
                            · refine ⟨[], ?_, fun _ => rfl⟩
                              rw [HS.out, show n2 = k + 1 by omega, tx]; simp
                            · obtain ⟨t, ht⟩ := tx_split ss k n2 hlt
                              exact ⟨t, by rw [HS.out, ht]; simp, fun h => absurd h e⟩)
                          have HNx := Lib.hid (show ((nb f0 n0 ++ nb f1 n1 ++ tx ss (k + 1)).length : Int) = ((nb f0 n0 ++ nb f1 n1 ++ tx ss k).length : Int) + ((short (ss k).size ++ (ss k).data.toList).length : Nat) by rw [tx, ← List.append_assoc]; simp only [List.length_append]; omega)
                          obtain ⟨t, ht, hte⟩ := HSp.out
                          rw [hT] at hc hTs ht HNx
                          have HTt := Lib.hid ht
                          have HTe := Lib.hid hte
                          clear ht HSp hte hT
                          have HT56 := Lib.hid (show T.size < 72057594037927936 by omega)
                          by_cases hl : k = n2 - 1
                          · have hlast : ((k : Int) == (n2 : Int) - 1) = true := beq_iff_eq.2 (by omega)
                            have HTc := Lib.hid (show (S.extract 0 (S.size - 1)).data.toList = (nb f0 n0 ++ nb f1 n1 ++ tx ss k) ++ (short T.size ++ T.data.toList).dropLast by
                              have hne : short T.size ++ T.data.toList ≠ [] := fun e => by have h1 := (List.append_eq_nil_iff.1 e).1; have := short_pos T.size; rw [h1] at this; simp at this
                              have hz : S.size - 1 = S.data.toList.length - 1 := by rw [size_eq]
                              rw [extract_data, List.drop_zero, Nat.sub_zero, hz, ← List.dropLast_eq_take, HTt.out, HTe.out hl, List.append_nil, List.dropLast_append_of_ne_nil hne])
                            have hS1 : 1 ≤ S.size := by
                              have := congrArg List.length HTt.out
                              have := short_pos T.size
                              rw [size_eq]; simp at *; omega
                            have HZc := Lib.hid (show (S.extract 0 (S.size - 1)).size ≤ maxLen by unfold maxLen; simp [ByteArray.size_extract]; omega)
                            clear hl
                            go_wp2_with (go_at_call 22; refine (text_cut _ _ _ T (nb f0 n0 ++ nb f1 n1 ++ tx ss k) _ HTc.out HP.out HZc.out (by omega) HT56.out).mono ?_; rintro e w3 ⟨rfl, rfl⟩; refine Hid.out ?_)
                            refine Lib.hid ?_
                            go_wp2_with (go_at_call 8; refine (code_F _ 3 _ (HG.out.on HB.out)).mono ?_; rintro e w3 ⟨rfl, hb3⟩; refine Hid.out ?_)
                            refine Lib.hid ?_
                            have HB3 := Lib.hid (HB.out.trans (hb3.mono HB.out.size))
                            clear hb3 HB
                            go_wp2_with (go_at_call 9; refine (place_F _ 3 _ (HG.out.on HB3.out)).mono ?_; rintro e w4 ⟨rfl, hb4⟩; refine Hid.out ?_)
                            refine Lib.hid ?_
                            have HB4 := Lib.hid (HB3.out.trans (hb4.mono HB3.out.size))
                            clear hb4 HB3
                            go_wp2_with (go_at_call 22; refine (text_here _ _ _ T (nb f0 n0 ++ nb f1 n1 ++ tx ss k) t _ HTt.out HP.out (by omega) (by omega) HT56.out).mono ?_; rintro e w5 ⟨rfl, hb5⟩; refine Hid.out ?_)
                            refine Lib.hid ?_
                            have HB5 := Lib.hid (HB4.out.trans (hb5.mono HB4.out.size))
                            clear hb5
                            go_wp2
                            go_roundw
                            case rel => exact ⟨k + 1, _, by omega, by go_num, rfl, Lib.hid (by rw [HNx.out, HP.out, sht]; omega), HB5⟩
                            case measure => simp [RowKit.intOf]; omega
                          · have hlast : ((k : Int) == (n2 : Int) - 1) = false := beq_eq_false_iff_ne.2 (by omega)
                            clear hl
                            go_wp2_with (go_at_call 22; refine (text_here _ _ _ T (nb f0 n0 ++ nb f1 n1 ++ tx ss k) t _ HTt.out HP.out (by omega) (by omega) HT56.out).mono ?_; rintro e w3 ⟨rfl, hb3⟩; refine Hid.out ?_)
                            refine Lib.hid ?_
                            have HB3 := Lib.hid (HB.out.trans (hb3.mono HB.out.size))
                            clear hb3
                            go_wp2
                            go_roundw
                            case rel => exact ⟨k + 1, _, by omega, by go_num, rfl, Lib.hid (by rw [HNx.out, HP.out, sht]; omega), HB3⟩
                            case measure => simp [RowKit.intOf]; omega
                        · have HEnd : Hid ((p == (S.size : Int)) = true) := Lib.hid (beq_iff_eq.2 (by
                            rw [HP.out, HSz.out, show k = n2 by omega]; simp [Nat.add_assoc]))
                          have hend := HEnd.out
                          go_wp2
                          go_ret
                          exact ⟨rfl, HB.out⟩

set_option maxRecDepth 100000 in
set_option maxHeartbeats 1000000 in
theorem rows_e1 (A0 A1 A2 : Option Addr) (n0 n1 n2 c0 c1 c2 : Nat) (w : World) (h0 : 30 < n0) (_m0 : n0 ≤ maxLen) (_m1 : n1 ≤ maxLen) (_m2 : n2 ≤ maxLen) :
    Calls Tryd.prog 5 #[.slice A0 n0 c0, .slice A1 n1 c1, .slice A2 n2 c2] w fun e w' => e = .returned (.bool true) ∧ Below w.heap.size w w' := by
  unfold maxLen at _m0 _m1 _m2
  go_enter Tryd.func5, Tryd.ntmps5
  go_wp2_with (go_at_call 6; refine (awake_any _).mono ?_; rintro e w1 ⟨rfl, hb1⟩)
  go_ret
  exact ⟨rfl, hb1⟩

set_option maxRecDepth 100000 in
set_option maxHeartbeats 1000000 in
theorem rows_e2 (A0 A1 A2 : Option Addr) (n0 n1 n2 c0 c1 c2 : Nat) (w : World) (h0 : n0 ≤ 30) (h1 : 30 < n1) (_m0 : n0 ≤ maxLen) (_m1 : n1 ≤ maxLen) (_m2 : n2 ≤ maxLen) :
    Calls Tryd.prog 5 #[.slice A0 n0 c0, .slice A1 n1 c1, .slice A2 n2 c2] w fun e w' => e = .returned (.bool true) ∧ Below w.heap.size w w' := by
  unfold maxLen at _m0 _m1 _m2
  go_enter Tryd.func5, Tryd.ntmps5
  go_wp2_with (go_at_call 6; refine (awake_any _).mono ?_; rintro e w1 ⟨rfl, hb1⟩)
  go_ret
  exact ⟨rfl, hb1⟩

set_option maxRecDepth 100000 in
set_option maxHeartbeats 1000000 in
theorem rows_e3 (A0 A1 A2 : Option Addr) (n0 n1 n2 c0 c1 c2 : Nat) (w : World) (h0 : n0 ≤ 30) (h1 : n1 ≤ 30) (h2 : 30 < n2) (_m0 : n0 ≤ maxLen) (_m1 : n1 ≤ maxLen) (_m2 : n2 ≤ maxLen) :
    Calls Tryd.prog 5 #[.slice A0 n0 c0, .slice A1 n1 c1, .slice A2 n2 c2] w fun e w' => e = .returned (.bool true) ∧ Below w.heap.size w w' := by
  unfold maxLen at _m0 _m1 _m2
  go_enter Tryd.func5, Tryd.ntmps5
  go_wp2_with (go_at_call 6; refine (awake_any _).mono ?_; rintro e w1 ⟨rfl, hb1⟩)
  go_ret
  exact ⟨rfl, hb1⟩

theorem rows_walk (A0 A1 A2 : Option Addr) (n0 n1 n2 c0 c1 c2 : Nat) (z y : Nat → Int) (ss : Nat → ByteArray) (w : World) (hg : Err.ErrTab w) (m0 : n0 ≤ maxLen) (m1 : n1 ≤ maxLen) (m2 : n2 ≤ maxLen)
    (r0 : SArg w A0 n0 (fun k => .int .u32 (z k))) (r1 : SArg w A1 n1 (fun k => .int .i32 (y k))) (r2 : SArg w A2 n2 (fun k => .string (ss k)))
    (b0 : ∀ k, k < n0 → 0 ≤ z k ∧ z k ≤ 4294967295) (b1 : ∀ k, k < n1 → -2147483648 ≤ y k ∧ y k ≤ 2147483647) (b2 : ∀ k, k < n2 → (ss k).size ≤ maxLen) :
    Calls Tryd.prog 5 #[.slice A0 n0 c0, .slice A1 n1 c1, .slice A2 n2 c2] w fun e w' => e = .returned (.bool true) ∧ Below w.heap.size w w' := by
  by_cases h0 : 30 < n0
  · exact rows_e1 A0 A1 A2 n0 n1 n2 c0 c1 c2 w h0 m0 m1 m2
  · by_cases h1 : 30 < n1
    · exact rows_e2 A0 A1 A2 n0 n1 n2 c0 c1 c2 w (by omega) h1 m0 m1 m2
    · by_cases h2 : 30 < n2
      · exact rows_e3 A0 A1 A2 n0 n1 n2 c0 c1 c2 w (by omega) (by omega) h2 m0 m1 m2
      · exact rows_main A0 A1 A2 n0 n1 n2 c0 c1 c2 z y ss w hg (by omega) (by omega) (by omega) r0 r1 r2 b0 b1 b2
end Go.Proofs.YtahngmddhpnjgaaDoor.Oct
