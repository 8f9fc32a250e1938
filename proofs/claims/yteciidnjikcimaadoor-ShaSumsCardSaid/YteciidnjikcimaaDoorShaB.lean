/- Contracts of layer 2 (sha): a piece's words. -/
import Derived.Test.YteciidnjikcimaaDoorShaA
import Derived.Laws.Rows
import Derived.Deep.QuietTactic
import Derived.BigQuiet
import Derived.BigRegion
import Derived.StillTailTactics
namespace Go.Proofs.YteciidnjikcimaaDoor.Sha
open Go.RowKit

def u32V (n : Nat) : Value := .int .u32 (n : Int)
def arrU (l : List Nat) : Array Value := (l.map u32V).toArray
/-- A block that is just these cells. -/
def Row (w : World) (g : Nat) (t : TypeId) (cs : Array Value) : Prop := w.heap[g]? = some (.cells cs t (0, 0))

theorem Row.below {w w' : World} {g B : Nat} {t : TypeId} {cs : Array Value} (h : Row w g t cs) (hb : Below B w w') (hg : g < B) : Row w' g t cs := (hb.block g hg).trans h
theorem Row.cell {w : World} {g : Nat} {t : TypeId} {cs : Array Value} (h : Row w g t cs) (i : Nat) : w.cell? ⟨g, i, none⟩ = cs[i]? := cell_of_row w g i cs t (0, 0) h
theorem Row.frozen {w : World} {g : Nat} {t : TypeId} {cs : Array Value} (h : Row w g t cs) (i : Nat) : w.frozen? ⟨g, i, none⟩ = false := frozen_of_row w g i cs t h
theorem Row.set {w : World} {g : Nat} {t : TypeId} {cs : Array Value} (h : Row w g t cs) (i : Nat) (v : Value) : Row (w.setCell ⟨g, i, none⟩ v) g t (cs.setIfInBounds i v) := heap_setCell_same w g i cs t v h
theorem Row.other {w : World} {g : Nat} {t : TypeId} {cs : Array Value} (h : Row w g t cs) (a : Addr) (v : Value) (hne : g ≠ a.block) : Row (w.setCell a v) g t cs := (heap_setCell_other w a g v hne).trans h
theorem arrU_get (l : List Nat) (i : Nat) (h : i < l.length) : (arrU l)[i]? = some (u32V (wd l i)) := by
  simp [arrU, wd, List.getElem?_eq_getElem h]
theorem arrU_set (l : List Nat) (i n : Nat) : (arrU l).setIfInBounds i (u32V n) = arrU (l.set i n) := by
  simp [arrU, List.map_set]
theorem spA_len (r : List UInt8) (k : Nat) : (spA r k).length = 64 := by
  induction k with
  | zero => simp [spA]
  | succ k ih => simp [spA, ih]
theorem spB_len (r : List UInt8) (k : Nat) : (spB r k).length = 64 := by
  induction k with
  | zero => simp [spB, spA_len]
  | succ k ih => simp [spB, ih]
def zero64 : Array Value := arrU (List.replicate 64 0)

theorem info8 : (Tryd.prog.info? 5).map (fun i => (i.zero, i.size, i.bytes)) = some (some (.int .u8 0), 1, 1) := by kernel_rfl
/-- A part of an array of 64 bytes, up to its end. -/
theorem run_cut64 (w : World) (b o k : Nat) (i : Int) (L : Nat) (hi : i = (k : Int)) (hL : 64 - k = L) (hk : k < 64) :
    (Instr.sliceAt 42 (.pointer (some ⟨b, o, none⟩)) (some (.int .i64 i)) none none).run Tryd.prog w = .ok (.slice (some ⟨b, o + k, none⟩) L L) w := by
  subst hi hL
  obtain ⟨i0, hi, hz0, hz1, hz2⟩ := info_parts info8
  have e1 : (⟨b, o, none⟩ : Addr).add k = ⟨b, o + k, none⟩ := by unfold Addr.add; split <;> simp_all
  simp [Instr.sliceAt, run_underlying Tryd.underlying42, Instr.sliceBounds, Instr.sliceBound, asIntOf, Instr.sureAddr, sizeOf, typeInfo, hi, hz1, Sem.run_bind, e1, show ¬ 64 = k by omega, show ¬ 64 < k by omega, show (k : Int) ≤ 64 by omega]
  try (intro h; omega)

theorem below_draws {B : Nat} {w w' : World} (h : Below B w w') (n : Nat) : Below B w (w'.drewN n) := ⟨h.os, h.tape, h.output, h.size, h.block⟩
theorem below_setRow {B g : Nat} {w w' : World} (h : Below B w w') (hg : B ≤ g) (cs : Array Value) : Below B w (w'.setRow g cs) :=
  h.trans ⟨rfl, rfl, rfl, by simp, fun k hk => setRow_other w' g k cs (by omega)⟩
theorem xor_lt (a b : Nat) (ha : a < 4294967296) (hb : b < 4294967296) : a ^^^ b < 4294967296 := Nat.xor_lt_two_pow (n := 32) ha hb
theorem xor3 (a b c : Nat) (ha : a < 4294967296) (hb : b < 4294967296) (hc : c < 4294967296) : bits .xor .u32 (bits .xor .u32 (a : Int) (b : Int)) (c : Int) = (((a ^^^ b) ^^^ c : Nat) : Int) := by
  rw [u32_xor_nat _ _ ha hb, u32_xor_nat _ _ (xor_lt _ _ ha hb) hc]
theorem sg0_bits (x : Nat) (hx : x < 4294967296) : bits .xor .u32 (bits .xor .u32 (rotr x 7 : Int) (rotr x 18 : Int)) ((x : Int) / 8) = ((sg0 x : Nat) : Int) := by
  rw [show (x : Int) / 8 = ((x / 8 : Nat) : Int) by omega]
  exact xor3 _ _ _ (rotr_lt x 7 (by omega) hx) (rotr_lt x 18 (by omega) hx) (by omega)
theorem sg1_bits (x : Nat) (hx : x < 4294967296) : bits .xor .u32 (bits .xor .u32 (rotr x 17 : Int) (rotr x 19 : Int)) ((x : Int) / 1024) = ((sg1 x : Nat) : Int) := by
  rw [show (x : Int) / 1024 = ((x / 1024 : Nat) : Int) by omega]
  exact xor3 _ _ _ (rotr_lt x 17 (by omega) hx) (rotr_lt x 19 (by omega) hx) (by omega)
theorem sum4 (a b c d : Nat) : ((a : Int) + (b : Int) + (c : Int) + (d : Int)) % 4294967296 = (((a + b + c + d) % 4294967296 : Nat) : Int) := by omega
theorem bt_lt (r : List UInt8) (i : Nat) : bt r i < 256 := (r.getD i 0).toNat_lt
theorem or4 (a b c d : Nat) (ha : a < 256) (hb : b < 256) (hc : c < 256) (hd : d < 256) :
    bits .or .u32 (bits .or .u32 (bits .or .u32 ((a : Int) % 4294967296 * 16777216 % 4294967296) ((b : Int) % 4294967296 * 65536 % 4294967296)) ((c : Int) % 4294967296 * 256 % 4294967296)) ((d : Int) % 4294967296)
      = ((a * 16777216 + b * 65536 + c * 256 + d : Nat) : Int) := by
  have e1 : (a : Int) % 4294967296 * 16777216 % 4294967296 = ((a * 16777216 : Nat) : Int) := by omega
  have e2 : (b : Int) % 4294967296 * 65536 % 4294967296 = ((b * 65536 : Nat) : Int) := by omega
  have e3 : (c : Int) % 4294967296 * 256 % 4294967296 = ((c * 256 : Nat) : Int) := by omega
  have e4 : (d : Int) % 4294967296 = ((d : Nat) : Int) := by omega
  have o1 : a * 16777216 ||| b * 65536 = a * 16777216 + b * 65536 := by
    have := Nat.two_pow_add_eq_or_of_lt (b := b * 65536) (i := 24) (by omega) a
    rw [show (2 : Nat) ^ 24 = 16777216 by rfl, Nat.mul_comm] at this; exact this.symm
  have o2 : (a * 16777216 + b * 65536) ||| c * 256 = a * 16777216 + b * 65536 + c * 256 := by
    have := Nat.two_pow_add_eq_or_of_lt (b := c * 256) (i := 16) (by omega) (a * 256 + b)
    rw [show (2 : Nat) ^ 16 = 65536 by rfl, show 65536 * (a * 256 + b) = a * 16777216 + b * 65536 by omega] at this; exact this.symm
  have o3 : (a * 16777216 + b * 65536 + c * 256) ||| d = a * 16777216 + b * 65536 + c * 256 + d := by
    have := Nat.two_pow_add_eq_or_of_lt (b := d) (i := 8) (by omega) (a * 65536 + b * 256 + c)
    rw [show (2 : Nat) ^ 8 = 256 by rfl, show 256 * (a * 65536 + b * 256 + c) = a * 16777216 + b * 65536 + c * 256 by omega] at this; exact this.symm
  rw [e1, e2, e3, e4, u32_or_nat _ _ (by omega) (by omega), o1, u32_or_nat _ _ (by omega) (by omega), o2, u32_or_nat _ _ (by omega) (by omega), o3]
theorem be4_lt (r : List UInt8) (i : Nat) : be4 r i < 4294967296 := by
  have h0 := bt_lt r (4 * i); have h1 := bt_lt r (4 * i + 1); have h2 := bt_lt r (4 * i + 2); have h3 := bt_lt r (4 * i + 3)
  unfold be4; omega
theorem wd_set (l : List Nat) (i j n : Nat) : wd (l.set i n) j < 4294967296 ∨ ¬ (n < 4294967296 ∧ wd l j < 4294967296) := by
  by_cases h : n < 4294967296 ∧ wd l j < 4294967296
  · left
    unfold wd at *
    simp only [List.getD_eq_getElem?_getD, List.getElem?_set] at *
    split
    · split <;> simp_all
    · exact h.2
  · exact .inr h
theorem wd_set_lt (l : List Nat) (i j n : Nat) (h0 : n < 4294967296) (h1 : wd l j < 4294967296) : wd (l.set i n) j < 4294967296 := by
  rcases wd_set l i j n with h | h
  · exact h
  · exact absurd ⟨h0, h1⟩ h
theorem spA_lt (r : List UInt8) (k j : Nat) : wd (spA r k) j < 4294967296 := by
  induction k with
  | zero =>
    unfold wd spA
    simp only [List.getD_eq_getElem?_getD, List.getElem?_replicate]
    split <;> simp
  | succ k ih => exact wd_set_lt _ _ _ _ (be4_lt r k) ih
theorem spB_lt (r : List UInt8) (k j : Nat) : wd (spB r k) j < 4294967296 := by
  induction k with
  | zero => exact spA_lt r 16 j
  | succ k ih => exact wd_set_lt _ _ _ _ (Nat.mod_lt _ (by omega)) ih

set_option maxRecDepth 100000 in
set_option maxHeartbeats 400000 in
theorem spread_any (b o : Nat) (r : List UInt8) (w : World) (hb : b < w.heap.size) (hr : ∀ j, j < 64 → w.cell? ⟨b, o + j, none⟩ = some (.int .u8 (bt r j : Nat))) :
    Calls Tryd.prog 32 #[.pointer (some ⟨b, o, none⟩)] w fun e w' => e = .returned (.agg (arrU (sched r))) ∧ Below w.heap.size w w' := by
  have HR := Lib.hid hr
  clear hr
  go_enter Tryd.func32, Tryd.ntmps32
  go_wp2
  go_loopw [11] (fun i wr => ∃ k : Nat, k ≤ 16 ∧ i = .int .i64 k ∧ Hid (Row wr (w.heap.size + 1) 49 (arrU (spA r k))) ∧ Hid (Row wr w.heap.size 49 zero64) ∧ Hid (Below w.heap.size w wr)) (fun i _ => 16 - (intOf i).toNat)
  case atStart => exact ⟨0, by omega, rfl, Lib.hid (heap_alloc2_new _ _ _), Lib.hid (heap_alloc2_old _ _ _), Lib.hid (((Below.refl _ _).alloc (Nat.le_refl _) _).alloc (by simp) _)⟩
  case round =>
    obtain ⟨k, hk, rfl, HA, HZ, HB⟩ := hrel
    by_cases hlt : k < 16
    · obtain ⟨L, hL, hL0⟩ : ∃ L, 64 - 4 * k = L ∧ 3 < L := ⟨_, rfl, by omega⟩
      have hsl := run_cut64 wr b o (4 * k) (4 * (k : Int)) L (by omega) hL (by omega)
      clear hL
      have l0 : 0 < L := by omega
      have l1 : (1 : Int) < (L : Int) := by omega
      have l2 : (2 : Int) < (L : Int) := by omega
      have l3 : (3 : Int) < (L : Int) := by omega
      have hk64 : (k : Int) < 64 := by omega
      have hc0 : wr.cell? ⟨b, o + 4 * k, none⟩ = some (.int .u8 (bt r (4 * k) : Nat)) := (HB.out.cell (p := ⟨b, o + 4 * k, none⟩) hb).trans (HR.out (4 * k) (by omega))
      have hc1 : wr.cell? ⟨b, o + 4 * k + 1, none⟩ = some (.int .u8 (bt r (4 * k + 1) : Nat)) := (HB.out.cell (p := ⟨b, o + 4 * k + 1, none⟩) hb).trans (HR.out (4 * k + 1) (by omega))
      have hc2 : wr.cell? ⟨b, o + 4 * k + 2, none⟩ = some (.int .u8 (bt r (4 * k + 2) : Nat)) := (HB.out.cell (p := ⟨b, o + 4 * k + 2, none⟩) hb).trans (HR.out (4 * k + 2) (by omega))
      have hc3 : wr.cell? ⟨b, o + 4 * k + 3, none⟩ = some (.int .u8 (bt r (4 * k + 3) : Nat)) := (HB.out.cell (p := ⟨b, o + 4 * k + 3, none⟩) hb).trans (HR.out (4 * k + 3) (by omega))
      have hs : wr.cell? ⟨w.heap.size + 1, k, none⟩ = some (u32V (wd (spA r k) k)) := (HA.out.cell k).trans (arrU_get _ _ (by rw [spA_len]; omega))
      have hf := HA.out.frozen k
      go_wp2
      go_still_tail 24, (by kernel_rfl)
      change wpList _ _ _ _ _ wr.drew
      go_wp2
      go_roundw
      case rel =>
        have HV := or4 _ _ _ _ (bt_lt r (4 * k)) (bt_lt r (4 * k + 1)) (bt_lt r (4 * k + 2)) (bt_lt r (4 * k + 3))
        refine ⟨k + 1, by omega, by go_num, Lib.hid ?_, Lib.hid (HZ.out.other _ _ (by simp)), Lib.hid ((HB.out.setCell (by show _ ≤ w.heap.size + 1; omega) _).drew)⟩
        have := HA.out.set k (u32V (be4 r k))
        rw [arrU_set] at this
        rw [HV]
        exact this
      case measure => simp [intOf]; omega
    · have HK := Lib.hid (show k = 16 by omega)
      go_wp2
      go_loopw [6] (fun i wr => ∃ k n : Nat, k ≤ 48 ∧ n = 16 + k ∧ i = .int .i64 n ∧ Hid (Row wr (w.heap.size + 1) 49 (arrU (spB r k))) ∧ Hid (Row wr w.heap.size 49 zero64) ∧ Hid (Below w.heap.size w wr)) (fun i _ => 64 - (intOf i).toNat)
      case atStart => exact ⟨0, 16, by omega, rfl, rfl, by have := HA; rw [HK.out] at this; exact this, HZ, HB⟩
      case round =>
        clear HA HZ HB HK hk hlt
        obtain ⟨k, n, hk, hn, rfl, HA, HZ, HB⟩ := hrel
        have HN := Lib.hid hn
        have hn0 : 16 ≤ n := by omega
        by_cases hlt : n < 64
        · clear hn
          have hg : ∀ i, i < 64 → wr.cell? ⟨w.heap.size + 1, i, none⟩ = some (u32V (wd (spB r k) i)) := fun i hi => (HA.out.cell i).trans (arrU_get _ _ (by rw [spB_len]; omega))
          have hc15 : wr.cell? ⟨w.heap.size + 1, n - 15, none⟩ = some (.int .u32 (wd (spB r k) (n - 15) : Nat)) := hg _ (by omega)
          have hc2 : wr.cell? ⟨w.heap.size + 1, n - 2, none⟩ = some (.int .u32 (wd (spB r k) (n - 2) : Nat)) := hg _ (by omega)
          have hc7 : wr.cell? ⟨w.heap.size + 1, n - 7, none⟩ = some (.int .u32 (wd (spB r k) (n - 7) : Nat)) := hg _ (by omega)
          have hc16 : wr.cell? ⟨w.heap.size + 1, n - 16, none⟩ = some (.int .u32 (wd (spB r k) (n - 16) : Nat)) := hg _ (by omega)
          have hcn : wr.cell? ⟨w.heap.size + 1, n, none⟩ = some (.int .u32 (wd (spB r k) n : Nat)) := hg _ (by omega)
          have hfn := HA.out.frozen n
          clear hg
          obtain ⟨x15, hx15⟩ : ∃ x, wd (spB r k) (n - 15) = x := ⟨_, rfl⟩
          obtain ⟨x2, hx2⟩ : ∃ x, wd (spB r k) (n - 2) = x := ⟨_, rfl⟩
          obtain ⟨x7, hx7⟩ : ∃ x, wd (spB r k) (n - 7) = x := ⟨_, rfl⟩
          obtain ⟨x16, hx16⟩ : ∃ x, wd (spB r k) (n - 16) = x := ⟨_, rfl⟩
          have b15 : x15 < 4294967296 := by rw [← hx15]; exact spB_lt r k _
          have b2 : x2 < 4294967296 := by rw [← hx2]; exact spB_lt r k _
          have b7 : x7 < 4294967296 := by rw [← hx7]; exact spB_lt r k _
          have b16 : x16 < 4294967296 := by rw [← hx16]; exact spB_lt r k _
          rw [hx15] at hc15
          rw [hx2] at hc2
          rw [hx7] at hc7
          rw [hx16] at hc16
          have HX := Lib.hid (show nextW (spB r k) n = (sg1 x2 + x7 + sg0 x15 + x16) % 4294967296 by unfold nextW; rw [hx15, hx2, hx7, hx16])
          clear hx15 hx2 hx7 hx16
          have w15 : IntKind.i64.wrap ((n : Int) - 15) = (n : Int) - 15 := IntWalk.i64_in _ (by omega)
          have w2 : IntKind.i64.wrap ((n : Int) - 2) = (n : Int) - 2 := IntWalk.i64_in _ (by omega)
          have w7 : IntKind.i64.wrap ((n : Int) - 7) = (n : Int) - 7 := IntWalk.i64_in _ (by omega)
          have w16 : IntKind.i64.wrap ((n : Int) - 16) = (n : Int) - 16 := IntWalk.i64_in _ (by omega)
          have n15 : ((n : Int) - 15).toNat = n - 15 := by omega
          have n2 : ((n : Int) - 2).toNat = n - 2 := by omega
          have n7 : ((n : Int) - 7).toNat = n - 7 := by omega
          have n16 : ((n : Int) - 16).toNat = n - 16 := by omega
          have p15 : 0 ≤ (n : Int) - 15 := by omega
          have p2 : 0 ≤ (n : Int) - 2 := by omega
          have p7 : 0 ≤ (n : Int) - 7 := by omega
          have p16 : 0 ≤ (n : Int) - 16 := by omega
          have q15 : (n : Int) - 15 < 64 := by omega
          have q2 : (n : Int) - 2 < 64 := by omega
          have q7 : (n : Int) - 7 < 64 := by omega
          have q16 : (n : Int) - 16 < 64 := by omega
          go_wp2
          go_quiet (fail)
          go_wp2_with (go_at_call 33; refine (right_int _ _ _ (by omega) (by omega) (by omega)).mono ?_; rintro e w' ⟨rfl, rfl⟩)
          have c7 : (wr.drewN nq).cell? ⟨w.heap.size + 1, n - 7, none⟩ = some (.int .u32 (x7 : Nat)) := hc7
          have c16 : (wr.drewN nq).cell? ⟨w.heap.size + 1, n - 16, none⟩ = some (.int .u32 (x16 : Nat)) := hc16
          have cn : (wr.drewN nq).cell? ⟨w.heap.size + 1, n, none⟩ = some (.int .u32 (wd (spB r k) n : Nat)) := hcn
          have fn_ : (wr.drewN nq).frozen? ⟨w.heap.size + 1, n, none⟩ = false := hfn
          have HA2 : Hid (Row (wr.drewN nq) (w.heap.size + 1) 49 (arrU (spB r k))) := HA
          have HZ2 : Hid (Row (wr.drewN nq) w.heap.size 49 zero64) := HZ
          have HB2 := Lib.hid (below_draws HB.out nq)
          clear hc7 hc16 hcn hfn hc15 hc2 HA HZ HB
          obtain ⟨v2, hw2⟩ : ∃ v, wr.drewN nq = v := ⟨_, rfl⟩
          rw [hw2] at c7 c16 cn fn_ HA2 HZ2 HB2 ⊢
          clear hw2
          have g7 : (7 : Int) ≤ (n : Int) := by omega
          have g16 : (16 : Int) ≤ (n : Int) := by omega
          have g7' : 7 ≤ n := by omega
          go_still_tail 15, (by kernel_rfl)
          change wpList _ _ _ _ _ v2.drew
          go_wp2
          go_roundw
          case rel =>
            refine ⟨k + 1, n + 1, by have := HN.out; omega, by have := HN.out; omega, by go_num, Lib.hid ?_, Lib.hid (HZ2.out.other _ _ (by simp)), Lib.hid ((HB2.out.setCell (by show _ ≤ w.heap.size + 1; omega) _).drew)⟩
            have h := HA2.out.set n (u32V (nextW (spB r k) n))
            rw [arrU_set, HX.out] at h
            rw [sg0_bits _ b15, sg1_bits _ b2, sum4]
            have e : (spB r k).set n ((sg1 x2 + x7 + sg0 x15 + x16) % 4294967296) = spB r (k + 1) := by rw [← HX.out, HN.out]; rfl
            rw [e] at h
            exact h
          case measure => simp [intOf]; omega
        · have HK := Lib.hid (show k = 48 by omega)
          clear hn hn0
          have hsz : (Tryd.prog.info? 49).map (·.size) = some (arrU (spB r k)).size := by
            have : (Tryd.prog.info? 49).map (·.size) = some 64 := by kernel_rfl
            rw [this]; simp [arrU, spB_len]
          have HS := Lib.hid hsz
          clear hsz
          go_wp2_with (first | (refine wpList_load_row rfl 49 (.tmp 3) rfl (w.heap.size + 1) rfl 49 (arrU (spB r k)) (0, 0) _ HA.out Tryd.underlying49 rfl HS.out ?_) | (refine wpList_store_row rfl 49 (.tmp 2) (.tmp 87) rfl w.heap.size (arrU (spB r k)) rfl rfl 49 zero64 HZ.out HS.out (by simp [zero64, arrU, spB_len]) (by simp [arrU, u32V, Value.oneCell']) ?_))
          refine bodyPost_ret (v := .agg (arrU (spB r k))) (results_cell_row Tryd.results32 _ _ w.heap.size 49 (arrU (spB r k)) (0, 0) _ rfl (setRow_heap _ _ zero64 _ _ _ HZ.out) Tryd.underlying49 rfl HS.out) rfl ⟨?_, below_setRow HB.out (Nat.le_refl _) _⟩
          rw [HK.out]; rfl

end Go.Proofs.YteciidnjikcimaaDoor.Sha
