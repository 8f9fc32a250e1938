/- Contracts of layer 2 (sha): what is laid out behind a text, the digest of a state. -/
import Derived.Test.YteciidnjikcimaaDoorShaE
import Derived.Laws.MakeOwn
import Derived.Laws.IdiomStrings
import Derived.Lib.UnsafeStr
import Derived.Lib.AppendStr
import Derived.Lib.BufferRead
namespace Go.Proofs.YteciidnjikcimaaDoor.Sha
open Go.RowKit Go.Lib

theorem bc_snoc (l : List UInt8) (b : UInt8) : byteCells (l ++ [b]) = byteCells l ++ [Value.int .u8 b.toNat] := by simp [byteCells]
theorem byteOf_nat (n : Nat) : (byteOf n).toNat = n % 256 := by
  unfold byteOf
  rw [UInt8.toNat_ofNat']; omega
theorem made_list (v : Value) (n : Nat) : (madeCells #[v] n).toList = List.replicate n v := by
  apply List.ext_getElem
  · simp [madeCells]
  · intro i h1 h2
    simp [madeCells, Nat.mod_one]
theorem conv_own {w : World} {base : Nat} {v : Value} {l : List UInt8} (h : w.ownsRow base 5 1 v l.length (byteCells l)) :
    (convert 50 9 v).run Tryd.prog w = .ok (.string ⟨l.toArray⟩) w := by
  rcases h.2 with ⟨rfl, h0⟩ | ⟨g, cap, cur, rfl, -, -, -, -, -, -⟩
  · have hl : l = [] := List.eq_nil_of_length_eq_zero h0
    subst hl
    exact run_convert_nil_bytes w _ _ 5 0 Tryd.underlying50 Tryd.underlying5 Tryd.underlying9
  · exact run_convert_bytes_back (P := Tryd.prog) w _ _ 5 ⟨g, 0, none⟩ cap l Tryd.underlying50 Tryd.underlying5 Tryd.underlying9 (fun j hj => h.cells (g := g) rfl j _ (by simp [byteCells, hj]))
theorem cells_new (w : World) (l : List Value) (t : TypeId) : ∀ j u, l[j]? = some u → (w.alloc (.cells l.toArray t)).cell? ((⟨w.heap.size, 0, none⟩ : Addr).add j) = some u := by
  intro j u h
  have hadd : (⟨w.heap.size, 0, none⟩ : Addr).add j = ⟨w.heap.size, j, none⟩ := by unfold Addr.add; split <;> simp_all
  rw [hadd, cell_of_row _ _ _ _ _ _ (heap_alloc_new w _)]
  simpa using h
def endA (z : Nat) : List UInt8 := 128 :: List.replicate z 0
theorem be8_len (x k : Nat) : (be8 x k).length = k := by
  induction k with
  | zero => rfl
  | succ k ih => simp [be8, ih]
theorem ending_len (n : Nat) : (ending n).length = 1 + (119 - n % 64) % 64 + 8 := by simp [ending, be8_len]; omega

set_option maxRecDepth 100000 in
set_option maxHeartbeats 400000 in
theorem ending_any (n : Nat) (w : World) (hn : (n : Int) ≤ 70368744177664) :
    Calls Tryd.prog 21 #[.int .i64 (n : Int)] w fun e w' => e = .returned (.string ⟨(ending n).toArray⟩) ∧ Below w.heap.size w w' := by
  obtain ⟨i0, hi, hz0, hz1, hz2⟩ := info_parts info8
  obtain ⟨z, hz⟩ : ∃ z, (119 - n % 64) % 64 = z := ⟨_, rfl⟩
  have hz64 : z < 64 := by omega
  have HZ := Lib.hid hz
  have hzi : (119 - (n : Int) % 64) % 64 = (z : Int) := by omega
  have hzi2 : (119 - (n : Int)) % 64 = (z : Int) := by omega
  have hmk : (Instr.makeSlice 50 (.int .i64 (1 + (z : Int))) (.int .i64 (1 + (z : Int) + 8))).run Tryd.prog w = .ok (.slice (some ⟨w.heap.size, 0, none⟩) (1 + z) (1 + z + 8)) (w.alloc (.cells (madeCells #[.int .u8 0] (1 + z + 8)) 5)) := by
    have h := run_make (P := Tryd.prog) w 50 5 i0 (.int .u8 0) Tryd.underlying50 hi hz0 .i64 .i64 (1 + (z : Int)) (1 + (z : Int) + 8) (by omega) (by omega) (by rw [hz2]; omega) (by omega)
    rw [hz1, show (1 + (z : Int)).toNat = 1 + z by omega, show (1 + (z : Int) + 8).toNat = 1 + z + 8 by omega, Nat.mul_one] at h
    exact h
  have hm0 : (madeCells #[.int .u8 0] (1 + z + 8))[0]? = some (.int .u8 0) := by
    have h := made_list (.int .u8 0) (1 + z + 8)
    rw [← Array.getElem?_toList, h]; simp
  have HO : Hid ((w.alloc (.cells ((madeCells #[.int .u8 0] (1 + z + 8)).setIfInBounds 0 (.int .u8 128)) 5)).ownsRow w.heap.size 5 1 (.slice (some ⟨w.heap.size, 0, none⟩) (1 + z) (1 + z + 8)) (endA z).length (byteCells (endA z))) := Lib.hid (by
    have el : (endA z).length = 1 + z := by simp [endA]; omega
    rw [el]
    refine ⟨by simp [byteCells, endA]; omega, .inr ⟨w.heap.size, 1 + z + 8, _, rfl, Nat.le_refl _, heap_alloc_new _ _, by omega, by unfold maxLen; omega, by simp [size_madeCells], ?_⟩⟩
    rw [Array.toList_setIfInBounds, made_list, show 1 + z + 8 = (z + 8) + 1 by omega, List.replicate_succ, List.set_cons_zero, Nat.mul_one, show 1 + z = z + 1 by omega, List.take_succ_cons, List.take_replicate]
    simp [byteCells, endA])
  obtain ⟨x, hx⟩ : ∃ x, n * 8 = x := ⟨_, rfl⟩
  have hxi : (n : Int) * 8 = (x : Int) := by omega
  have HX := Lib.hid hx
  have hxb : (x : Int) ≤ 562949953421312 := by omega
  clear hz hx
  go_enter Tryd.func21, Tryd.ntmps21
  go_wp2
  clear hzi hzi2 hxi
  generalize (119 - (n : Int) % 64) % 64 = q0
  go_loopw [4, 6] (fun v i wr => ∃ (k : Nat) (s : Int) (l : List UInt8), k ≤ 8 ∧ i = .int .i64 s ∧ Hid (s = 56 - 8 * (k : Int)) ∧ Hid (l = endA z ++ be8 x k) ∧ Hid (wr.ownsRow w.heap.size 5 1 v l.length (byteCells l)) ∧ Hid (Below w.heap.size w wr)) (fun _ i _ => (intOf i + 8).toNat)
  case atStart => exact ⟨0, 56, endA z, by omega, rfl, Lib.hid rfl, Lib.hid (by simp [be8]), HO, Lib.hid ((Below.refl _ _).alloc (Nat.le_refl _) _)⟩
  case round =>
    clear HO hm0 hmk
    obtain ⟨k, s, l, hk, rfl, HS, HL, HO, HB⟩ := hrel
    have hlen : l.length ≤ 72 := by rw [HL.out]; simp [endA, be8_len]; omega
    by_cases hlt : k < 8
    · obtain ⟨sh, rfl⟩ := Int.eq_ofNat_of_zero_le (show 0 ≤ s by have := HS.out; omega)
      have hsh : sh ≤ 56 := by have := HS.out; omega
      obtain ⟨y, hy⟩ : ∃ y : Nat, x / 2 ^ sh % 256 = y := ⟨_, rfl⟩
      have hyi : (x : Int) / 2 ^ sh % 256 = (y : Int) := by rw [← hy, Int.natCast_emod, Int.natCast_ediv, Int.natCast_pow]; rfl
      have HY := Lib.hid (show (byteOf (x / 2 ^ (56 - 8 * k))).toNat = y by rw [byteOf_nat, ← hy, show 56 - 8 * k = sh by have := HS.out; omega])
      clear hy
      have hs1 := HB.out.size
      go_wp2_with (at_builtin; refine wpList_append_own _ rfl _ _ 50 rfl w.heap.size 5 i0 (.int .u8 0) 1 1 Tryd.underlying50 hi hz0 hz1 hz2 rfl (by decide) _ _ _ rfl (HO.out.alloc _) ⟨wr.heap.size, 0, none⟩ 1 1 [Value.int .u8 (y : Int)] rfl rfl ?c1 ?c2 ?c3 ?c4 ?c5 ?_)
      case c1 => exact cell_one_new _ _ _
      case c2 => intro u hu; simp at hu; subst hu; rfl
      case c3 => unfold maxLen; omega
      case c4 => omega
      case c5 => simp; omega
      intro v' w1 hown' hgrow _
      have HB2 := Lib.hid ((HB.out.alloc hs1 _).grown hgrow (by simp; omega) (fun k hk => (HO.out.lt k hk).1))
      have HO2 : Hid (w1.ownsRow w.heap.size 5 1 v' (l ++ [byteOf (x / 2 ^ (56 - 8 * k))]).length (byteCells (l ++ [byteOf (x / 2 ^ (56 - 8 * k))]))) := Lib.hid (by
        rw [bc_snoc, HY.out]; simpa using hown')
      clear hown' hgrow
      go_wp2
      go_roundw
      case rel => exact ⟨k + 1, _, _, by omega, rfl, Lib.hid (by rw [HS.out]; omega), Lib.hid (by rw [HL.out, be8, List.append_assoc]), HO2, HB2⟩
      case measure => simp [intOf]; omega
    · have hk8 : k = 8 := by omega
      subst hk8
      have hs : s = -8 := by have := HS.out; omega
      subst hs
      have hcv := conv_own HO.out
      go_wp2
      go_ret
      refine ⟨?_, HB.out⟩
      rw [HL.out, ← HX.out, ← HZ.out]
      unfold ending endA
      rw [Nat.mul_comm n 8]; rfl

/-- A state's words read at a block. -/
def CAt (w : World) (b : Nat) (c : List Nat) : Prop := ∀ i, i < 8 → w.cell? ⟨b, i, none⟩ = some (u32V (wd c i))
theorem outB_len (c : List Nat) (k : Nat) : (outB c k).length = 4 * k := by
  induction k with
  | zero => rfl
  | succ k ih => simp [outB, ih, w4]; omega
set_option maxRecDepth 100000 in
set_option maxHeartbeats 400000 in
theorem digest_any (b : Nat) (c : List Nat) (w : World) (hb : b < w.heap.size) (hc : CAt w b c) (hlt : ∀ i, wd c i < 4294967296) :
    Calls Tryd.prog 22 #[.pointer (some ⟨b, 0, none⟩)] w fun e w' => e = .returned (.string ⟨(outB c 8).toArray⟩) ∧ Below w.heap.size w w' := by
  obtain ⟨i0, hi, hz0, hz1, hz2⟩ := info_parts info8
  have HC := Lib.hid hc
  have HLT := Lib.hid hlt
  obtain ⟨w0, hmk, hown0, hgr0⟩ := run_make_own (P := Tryd.prog) w w.heap.size 50 5 i0 (.int .u8 0) 1 Tryd.underlying50 hi hz0 hz1 .i64 .i64 32 (by rw [hz2]; omega) (by unfold maxLen; omega) (Nat.le_refl _)
  rw [show ((32 : Nat) : Int) = 32 by rfl] at hmk
  have HO := Lib.hid hown0
  have HB0 := Lib.hid ((Below.refl w.heap.size w).grown hgr0 (Nat.le_refl _) (fun k hk => by cases hk))
  clear hc hlt hown0 hgr0
  go_enter Tryd.func22, Tryd.ntmps22
  go_wp2
  go_loopw [3, 8] (fun v i wr => ∃ (k : Nat) (l : List UInt8), k ≤ 8 ∧ i = .int .i64 k ∧ Hid (l = outB c k) ∧ Hid (wr.ownsRow w.heap.size 5 1 v l.length (byteCells l)) ∧ Hid (Below w.heap.size w wr)) (fun _ i _ => 8 - (intOf i).toNat)
  case atStart => exact ⟨0, [], by omega, rfl, Lib.hid rfl, HO, HB0⟩
  case round =>
    clear HO hmk HB0
    obtain ⟨k, l, hk, rfl, HL, HO, HB⟩ := hrel
    have hlen : l.length ≤ 32 := by rw [HL.out, outB_len]; omega
    by_cases hlt : k < 8
    · have hcell : wr.cell? ⟨b, k, none⟩ = some (.int .u32 (wd c k : Nat)) := (HB.out.cell (p := ⟨b, k, none⟩) hb).trans (HC.out k hlt)
      obtain ⟨x, hx⟩ : ∃ x, wd c k = x := ⟨_, rfl⟩
      have hx32 : x < 4294967296 := by rw [← hx]; exact HLT.out k
      rw [hx] at hcell
      have HX := Lib.hid hx
      clear hx
      obtain ⟨y1, hy1⟩ : ∃ y : Nat, (x : Int) / 16777216 = (y : Int) := ⟨x / 16777216, by omega⟩
      obtain ⟨y2, hy2⟩ : ∃ y : Nat, (x : Int) / 65536 % 256 = (y : Int) := ⟨x / 65536 % 256, by omega⟩
      obtain ⟨y3, hy3⟩ : ∃ y : Nat, (x : Int) / 256 % 256 = (y : Int) := ⟨x / 256 % 256, by omega⟩
      obtain ⟨y4, hy4⟩ : ∃ y : Nat, (x : Int) % 256 = (y : Int) := ⟨x % 256, by omega⟩
      have HY : Hid (byteCells (w4 x) = [.int .u8 (y1 : Int), .int .u8 (y2 : Int), .int .u8 (y3 : Int), .int .u8 (y4 : Int)]) := Lib.hid (by
        simp only [w4, byteCells, List.map_cons, List.map_nil, byteOf_nat]
        rw [show ((x / 16777216 % 256 : Nat) : Int) = (y1 : Int) by omega, show ((x / 65536 % 256 : Nat) : Int) = (y2 : Int) by omega, show ((x / 256 % 256 : Nat) : Int) = (y3 : Int) by omega, show ((x % 256 : Nat) : Int) = (y4 : Int) by omega])
      have hs1 := HB.out.size
      go_wp2_with (at_builtin; refine wpList_append_own _ rfl _ _ 50 rfl w.heap.size 5 i0 (.int .u8 0) 1 1 Tryd.underlying50 hi hz0 hz1 hz2 rfl (by decide) _ _ _ rfl (HO.out.alloc _) ⟨wr.heap.size, 0, none⟩ 4 4 [.int .u8 (y1 : Int), .int .u8 (y2 : Int), .int .u8 (y3 : Int), .int .u8 (y4 : Int)] rfl rfl ?c1 ?c2 ?c3 ?c4 ?c5 ?_)
      case c1 => exact cells_new _ _ _
      case c2 => intro u hu; simp at hu; rcases hu with rfl | rfl | rfl | rfl <;> rfl
      case c3 => unfold maxLen; omega
      case c4 => omega
      case c5 => simp; omega
      intro v' w1 hown' hgrow _
      have HB2 := Lib.hid ((HB.out.alloc hs1 _).grown hgrow (by simp; omega) (fun k hk => (HO.out.lt k hk).1))
      have HO2 : Hid (w1.ownsRow w.heap.size 5 1 v' (l ++ w4 x).length (byteCells (l ++ w4 x))) := Lib.hid (by
        have e1 : (l ++ w4 x).length = l.length + 4 := by simp [w4]
        have e2 : byteCells (l ++ w4 x) = byteCells l ++ byteCells (w4 x) := by simp [byteCells]
        rw [e1, e2, HY.out]; exact hown')
      clear hown' hgrow hy1 hy2 hy3 hy4
      go_wp2
      go_roundw
      case rel => exact ⟨k + 1, _, by omega, by go_num, Lib.hid (by rw [HL.out, outB, HX.out]), HO2, HB2⟩
      case measure => simp [intOf]; omega
    · have hk8 : k = 8 := by omega
      subst hk8
      have hcv := conv_own HO.out
      go_wp2
      go_ret
      exact ⟨by rw [HL.out]; rfl, HB.out⟩

end Go.Proofs.YteciidnjikcimaaDoor.Sha
