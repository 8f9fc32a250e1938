/- Contracts of layer 2 (sha): what a piece makes of a state. -/
import Derived.Test.YteciidnjikcimaaDoorShaB
namespace Go.Proofs.YteciidnjikcimaaDoor.Sha
open Go.RowKit

def bV (x : UInt8) : Value := .int .u8 (x.toNat : Int)
/-- The cells of a state. -/
def stV (c : List Nat) (r : List UInt8) (n : Nat) : Array Value := (c.map u32V ++ (r.map bV ++ [Value.int .i64 (n : Int)])).toArray
/-- The words of the rounds, where the program keeps them. -/
def KTab (w : World) : Prop := ∀ i, i < 64 → w.cell? ⟨1, i, none⟩ = some (u32V (wd kk i))
/-- Nothing that was there has turned but for one block. -/
structure Only (b : Nat) (w w' : World) : Prop where
  os : w'.os = w.os
  tape : w'.tape = w.tape
  output : w'.output = w.output
  size : w.heap.size ≤ w'.heap.size
  block : ∀ k, k < w.heap.size → k ≠ b → w'.heap[k]? = w.heap[k]?
theorem Only.refl (b : Nat) (w : World) : Only b w w := ⟨rfl, rfl, rfl, Nat.le_refl _, fun _ _ _ => rfl⟩
theorem Only.trans {b : Nat} {u v w : World} (h : Only b u v) (k : Only b v w) : Only b u w :=
  ⟨k.os.trans h.os, k.tape.trans h.tape, k.output.trans h.output, Nat.le_trans h.size k.size, fun i hi hb => (k.block i (by have := h.size; omega) hb).trans (h.block i hi hb)⟩
theorem Only.of_below {b : Nat} {w w' : World} (h : Below w.heap.size w w') : Only b w w' := ⟨h.os, h.tape, h.output, h.size, fun k hk _ => h.block k hk⟩
theorem Only.below {b B : Nat} {w w' : World} (h : Only b w w') (hb : B ≤ b) (hB : B ≤ w.heap.size) : Below B w w' := ⟨h.os, h.tape, h.output, h.size, fun k hk => h.block k (by omega) (by omega)⟩
theorem Only.row {b g : Nat} {w w' : World} {t : TypeId} {cs : Array Value} (h : Only b w w') (hr : Row w g t cs) (hne : g ≠ b) (hg : g < w.heap.size) : Row w' g t cs := (h.block g hg hne).trans hr
theorem Only.cell {b : Nat} {w w' : World} (h : Only b w w') {p : Addr} (hp : p.block < w.heap.size) (hne : p.block ≠ b) : w'.cell? p = w.cell? p := World.cell?_of_block (w := w) (h.block p.block hp hne)
theorem Only.setCell {b i : Nat} {u w : World} (h : Only b u w) (v : Value) : Only b u (w.setCell ⟨b, i, none⟩ v) :=
  h.trans ⟨rfl, rfl, rfl, by simp [World.setCell], fun k _ hb => heap_setCell_other w _ k v hb⟩
theorem Only.drew {b : Nat} {u w : World} (h : Only b u w) : Only b u w.drew := ⟨h.os, h.tape, h.output, h.size, h.block⟩
theorem Only.drewN {b : Nat} {u w : World} (h : Only b u w) (n : Nat) : Only b u (w.drewN n) := ⟨h.os, h.tape, h.output, h.size, h.block⟩
theorem Row.lt {w : World} {g : Nat} {t : TypeId} {cs : Array Value} (h : Row w g t cs) : g < w.heap.size := by
  rcases Nat.lt_or_ge g w.heap.size with hlt | hge
  · exact hlt
  · unfold Row at h; rw [Array.getElem?_eq_none hge] at h; cases h

theorem stV_c (c : List Nat) (r : List UInt8) (n i : Nat) (hc : c.length = 8) (hi : i < 8) : (stV c r n)[i]? = some (u32V (wd c i)) := by
  have h : i < c.length := by omega
  simp [stV, wd, List.getElem?_append, h]
theorem stV_r (c : List Nat) (r : List UInt8) (n i : Nat) (hc : c.length = 8) (hr : r.length = 64) (hi : i < 64) : (stV c r n)[8 + i]? = some (.int .u8 (bt r i : Nat)) := by
  have h : i < r.length := by omega
  simp [stV, bt, List.getElem?_append, hc, h, bV]
theorem stV_n (c : List Nat) (r : List UInt8) (n : Nat) (hc : c.length = 8) (hr : r.length = 64) : (stV c r n)[72]? = some (.int .i64 (n : Int)) := by
  simp [stV, List.getElem?_append, hc, hr]
theorem stV_set (c : List Nat) (r : List UInt8) (n i x : Nat) (hc : c.length = 8) (hi : i < 8) : (stV c r n).setIfInBounds i (u32V x) = stV (c.set i x) r n := by
  have h : i < c.length := by omega
  simp [stV, List.set_append, h, List.map_set]

/-- All eight are words. -/
def V8.ok (v : V8) : Prop := v.a < 4294967296 ∧ v.b < 4294967296 ∧ v.c < 4294967296 ∧ v.d < 4294967296 ∧ v.e < 4294967296 ∧ v.f < 4294967296 ∧ v.g < 4294967296 ∧ v.h < 4294967296
theorem rnds_ok (v : V8) (w : List Nat) (h : v.ok) (k : Nat) : (rnds v w k).ok := by
  induction k with
  | zero => exact h
  | succ k ih =>
    obtain ⟨h1, h2, h3, h4, h5, h6, h7, h8⟩ := ih
    exact ⟨Nat.mod_lt _ (by omega), h1, h2, h3, Nat.mod_lt _ (by omega), h5, h6, h7⟩
theorem v8_ok (c : List Nat) (h : ∀ i, wd c i < 4294967296) : (v8 c).ok := ⟨h 0, h 1, h 2, h 3, h 4, h 5, h 6, h 7⟩

theorem setRow_only (w : World) (g : Nat) (cs : Array Value) : Only g w (w.setRow g cs) := ⟨rfl, rfl, rfl, by simp, fun k _ hb => setRow_other w g k cs hb⟩
theorem wpList_store_rowA {P : Program} {ops : Array Oper} {rest : List Oper} {o : Oper} {a : Act} {w : World} {Q : Exit → Act → World → Prop} (hgd : o.guard = none) (ty : TypeId) (x y : Operand) (ho : o.op = .store ty x y)
    (g : Nat) (cells : Array Value) (hx : a.eval x = .pointer (some ⟨g, 0, none⟩)) (hy : a.eval y = .agg cells)
    (t : TypeId) (old : Array Value) (hg : Row w g t old) (hi : (P.info? ty).map (·.size) = some cells.size)
    (hold : old.size = cells.size) (h1 : cells.all (·.oneCell') = true)
    (h : ∀ w', Row w' g t cells → Only g w w' → wpList P ops Q rest (a.put o.dst undef) w') : wpList P ops Q (o :: rest) a w :=
  wpList_store_row hgd ty x y ho g cells hx hy t old hg hi hold h1 (h _ (setRow_heap w g old cells t _ hg) (setRow_only w g cells))

theorem and_lt (a b : Nat) (hb : b < 4294967296) : a &&& b < 4294967296 := Nat.and_lt_two_pow (n := 32) a hb
theorem bs0_bits (x : Nat) (hx : x < 4294967296) : bits .xor .u32 (bits .xor .u32 (rotr x 2 : Int) (rotr x 13 : Int)) (rotr x 22 : Int) = ((bs0 x : Nat) : Int) :=
  xor3 _ _ _ (rotr_lt x 2 (by omega) hx) (rotr_lt x 13 (by omega) hx) (rotr_lt x 22 (by omega) hx)
theorem bs1_bits (x : Nat) (hx : x < 4294967296) : bits .xor .u32 (bits .xor .u32 (rotr x 6 : Int) (rotr x 11 : Int)) (rotr x 25 : Int) = ((bs1 x : Nat) : Int) :=
  xor3 _ _ _ (rotr_lt x 6 (by omega) hx) (rotr_lt x 11 (by omega) hx) (rotr_lt x 25 (by omega) hx)
theorem not_nat (x : Nat) (hx : x < 4294967296) : 4294967295 ^^^ x = 4294967295 - x := by
  apply Nat.eq_of_testBit_eq
  intro i
  rw [Nat.testBit_xor, show (4294967295 : Nat) = 2 ^ 32 - 1 by rfl, Nat.testBit_two_pow_sub_one, show 2 ^ 32 - 1 - x = 2 ^ 32 - (x + 1) by omega, Nat.testBit_two_pow_sub_succ (by omega)]
  by_cases h : i < 32
  · simp [h]
  · have : x.testBit i = false := Nat.testBit_lt_two_pow (Nat.lt_of_lt_of_le hx (by
      have : 2 ^ 32 ≤ 2 ^ i := Nat.pow_le_pow_right (by omega) (by omega)
      simpa using this))
    simp [h, this]
theorem not_bits (x : Nat) (hx : x < 4294967296) : bits .xor .u32 (if IntKind.u32.signed = true then -1 else IntKind.u32.max) (x : Int) = ((4294967295 - x : Nat) : Int) := by
  have e : (if IntKind.u32.signed = true then -1 else IntKind.u32.max) = ((4294967295 : Nat) : Int) := by decide
  rw [e, u32_xor_nat _ _ (by omega) hx, not_nat x hx]
theorem chs_bits (e f g : Nat) (he : e < 4294967296) (hf : f < 4294967296) (hg : g < 4294967296) :
    bits .xor .u32 (bits .and .u32 (e : Int) (f : Int)) (bits .and .u32 (bits .xor .u32 (if IntKind.u32.signed = true then -1 else IntKind.u32.max) (e : Int)) (g : Int)) = ((chs e f g : Nat) : Int) := by
  rw [not_bits e he, u32_and_nat _ _ he hf, u32_and_nat _ _ (by omega) hg, u32_xor_nat _ _ (and_lt _ _ hf) (and_lt _ _ hg)]; rfl
theorem maj_bits (a b c : Nat) (ha : a < 4294967296) (hb : b < 4294967296) (hc : c < 4294967296) :
    bits .xor .u32 (bits .xor .u32 (bits .and .u32 (a : Int) (b : Int)) (bits .and .u32 (a : Int) (c : Int))) (bits .and .u32 (b : Int) (c : Int)) = ((maj a b c : Nat) : Int) := by
  rw [u32_and_nat _ _ ha hb, u32_and_nat _ _ ha hc, u32_and_nat _ _ hb hc]
  exact xor3 _ _ _ (and_lt _ _ hb) (and_lt _ _ hc) (and_lt _ _ hc)
theorem sum_a (h s c k w z m : Nat) : (((h : Int) + (s : Int) + (c : Int) + (k : Int) + (w : Int)) % 4294967296 + ((z : Int) + (m : Int)) % 4294967296) % 4294967296 = ((((h + s + c + k + w) % 4294967296 + (z + m) % 4294967296) % 4294967296 : Nat) : Int) := by omega
theorem sum_e (d h s c k w : Nat) : ((d : Int) + ((h : Int) + (s : Int) + (c : Int) + (k : Int) + (w : Int)) % 4294967296) % 4294967296 = (((d + (h + s + c + k + w) % 4294967296) % 4294967296 : Nat) : Int) := by omega
theorem sum2 (a b : Nat) : ((a : Int) + (b : Int)) % 4294967296 = (((a + b) % 4294967296 : Nat) : Int) := by omega
theorem mix_len (c : List Nat) (v : V8) (k : Nat) : (mix c v k).length = c.length := by
  induction k with
  | zero => rfl
  | succ k ih => simp [mix, ih]
theorem mix_at (c : List Nat) (v : V8) (k j : Nat) (h : k ≤ j) : wd (mix c v k) j = wd c j := by
  induction k with
  | zero => rfl
  | succ k ih =>
    rw [← ih (by omega)]
    simp only [wd, mix, List.getD_eq_getElem?_getD, List.getElem?_set]
    rw [if_neg (by omega)]
theorem info32 : (Tryd.prog.info? 39).map (fun i => (i.zero, i.size, i.bytes)) = some (some (.int .u32 0), 1, 4) := by kernel_rfl
theorem run_index8 (w : World) (v : V8) (k : Nat) (hk : k < 8) :
    (Instr.index 40 (.agg #[.int .u32 (v.a : Int), .int .u32 (v.b : Int), .int .u32 (v.c : Int), .int .u32 (v.d : Int), .int .u32 (v.e : Int), .int .u32 (v.f : Int), .int .u32 (v.g : Int), .int .u32 (v.h : Int)]) (.int .i64 (k : Int))).run Tryd.prog w = .ok (.int .u32 (wd v.list k : Nat)) w := by
  obtain ⟨i0, hi, hz0, hz1, hz2⟩ := info_parts info32
  have hk' : (k : Int) < 8 := by omega
  have hag : (isAgg 39).run Tryd.prog w = .ok false w := by unfold isAgg; rw [Sem.run_bind, run_underlying Tryd.underlying39 w]; rfl
  obtain rfl | rfl | rfl | rfl | rfl | rfl | rfl | rfl : k = 0 ∨ k = 1 ∨ k = 2 ∨ k = 3 ∨ k = 4 ∨ k = 5 ∨ k = 6 ∨ k = 7 := by omega
  all_goals simp [Instr.index, asIntOf, run_underlying Tryd.underlying40, sizeOf, typeInfo, hi, hz1, part, hag, wd, V8.list]

set_option maxRecDepth 100000 in
set_option maxHeartbeats 400000 in
theorem take_any (b : Nat) (t : TypeId) (c : List Nat) (r : List UInt8) (n : Nat) (w : World) (hb : b ≠ 1) (hk1 : 1 < w.heap.size) (hc : c.length = 8) (hr : r.length = 64) (hlt : ∀ i, wd c i < 4294967296)
    (hrow : Row w b t (stV c r n)) (hK : KTab w) :
    Calls Tryd.prog 27 #[.pointer (some ⟨b, 0, none⟩), .pointer (some ⟨b, 8, none⟩)] w fun e w' => e = .returned (.tuple #[]) ∧ Row w' b t (stV (comp c r) r n) ∧ Only b w w' := by
  have HR := Lib.hid hrow
  have HKT := Lib.hid hK
  have HLT := Lib.hid hlt
  have HC := Lib.hid hc
  have HRL := Lib.hid hr
  clear hrow hK hlt hc hr
  go_enter Tryd.func27, Tryd.ntmps27
  go_wp2_with (go_at_call 32; refine (spread_any b 8 r _ HR.out.lt (fun j hj => (HR.out.cell (8 + j)).trans (stV_r c r n j HC.out HRL.out hj))).mono ?_; rintro e w1 ⟨rfl, hb1⟩; refine Hid.out ?_)
  refine Lib.hid ?_
  have HB1 := Lib.hid hb1
  clear hb1
  have HS : Hid ((Tryd.prog.info? 49).map (·.size) = some (arrU (sched r)).size) := Lib.hid (by
    have : (Tryd.prog.info? 49).map (·.size) = some 64 := by kernel_rfl
    rw [this]; simp [arrU, sched, spB_len])
  go_wp2_with (refine wpList_store_rowA rfl 49 (.tmp 4) (.tmp 21) rfl w1.heap.size (arrU (sched r)) rfl rfl 49 zero64 (heap_alloc_new _ _) HS.out (by simp [zero64, arrU, sched, spB_len]) (by simp [arrU, u32V, Value.oneCell']) ?_; intro w2 hw2 ho2; refine Hid.out ?_)
  refine Lib.hid ?_
  have HW := Lib.hid hw2
  have HO := Lib.hid ((ho2.below (B := w.heap.size) HB1.out.size (by have := HB1.out.size; simp; omega)))
  have hb2 : Below w.heap.size w w2 := (HB1.out.alloc HB1.out.size _).trans HO.out
  have HB := Lib.hid hb2
  have HG := Lib.hid (show w.heap.size ≤ w1.heap.size from HB1.out.size)
  have HR2 := Lib.hid (HR.out.below HB.out HR.out.lt)
  have HK2 : Hid (KTab w2) := Lib.hid (fun i hi => (HB.out.cell (p := ⟨1, i, none⟩) hk1).trans (HKT.out i hi))
  clear hw2 ho2 hb2 HO HB1
  have c0 : w2.cell? ⟨b, 0, none⟩ = some (.int .u32 (wd c 0 : Nat)) := (HR2.out.cell 0).trans (stV_c c r n 0 HC.out (by omega))
  have c1 : w2.cell? ⟨b, 1, none⟩ = some (.int .u32 (wd c 1 : Nat)) := (HR2.out.cell 1).trans (stV_c c r n 1 HC.out (by omega))
  have c2 : w2.cell? ⟨b, 2, none⟩ = some (.int .u32 (wd c 2 : Nat)) := (HR2.out.cell 2).trans (stV_c c r n 2 HC.out (by omega))
  have c3 : w2.cell? ⟨b, 3, none⟩ = some (.int .u32 (wd c 3 : Nat)) := (HR2.out.cell 3).trans (stV_c c r n 3 HC.out (by omega))
  have c4 : w2.cell? ⟨b, 4, none⟩ = some (.int .u32 (wd c 4 : Nat)) := (HR2.out.cell 4).trans (stV_c c r n 4 HC.out (by omega))
  have c5 : w2.cell? ⟨b, 5, none⟩ = some (.int .u32 (wd c 5 : Nat)) := (HR2.out.cell 5).trans (stV_c c r n 5 HC.out (by omega))
  have c6 : w2.cell? ⟨b, 6, none⟩ = some (.int .u32 (wd c 6 : Nat)) := (HR2.out.cell 6).trans (stV_c c r n 6 HC.out (by omega))
  have c7 : w2.cell? ⟨b, 7, none⟩ = some (.int .u32 (wd c 7 : Nat)) := (HR2.out.cell 7).trans (stV_c c r n 7 HC.out (by omega))
  go_wp2
  go_quiet (fail)
  go_wp2
  go_quiet (fail)
  go_wp2
  clear c0 c1 c2 c3 c4 c5 c6 c7
  go_loopw [5, 6, 7, 8, 9, 10, 11, 12, 54] (fun a1 b1 c1 d1 e1 f1 g1 h1 i wr => ∃ (k : Nat) (v : V8), k ≤ 64 ∧ i = .int .i64 k ∧ Hid (rnds (v8 c) (sched r) k = v) ∧ a1 = .int .u32 (v.a : Int) ∧ b1 = .int .u32 (v.b : Int) ∧ c1 = .int .u32 (v.c : Int) ∧ d1 = .int .u32 (v.d : Int) ∧ e1 = .int .u32 (v.e : Int) ∧ f1 = .int .u32 (v.f : Int) ∧ g1 = .int .u32 (v.g : Int) ∧ h1 = .int .u32 (v.h : Int)
      ∧ Hid (Row wr b t (stV c r n)) ∧ Hid (Row wr w1.heap.size 49 (arrU (sched r))) ∧ Hid (KTab wr) ∧ Hid (Below w.heap.size w wr)) (fun _ _ _ _ _ _ _ _ i _ => 64 - (intOf i).toNat)
  case atStart => exact ⟨0, v8 c, by omega, rfl, Lib.hid rfl, rfl, rfl, rfl, rfl, rfl, rfl, rfl, rfl, HR2, HW, HK2, Lib.hid (below_draws (below_draws HB.out _) _)⟩
  case round =>
    clear HR2 HW HK2 HB
    obtain ⟨k, v, hk, rfl, HV, rfl, rfl, rfl, rfl, rfl, rfl, rfl, rfl, HR2, HW, HK2, HB⟩ := hrel
    have hok := rnds_ok (v8 c) (sched r) (v8_ok c HLT.out) k
    rw [HV.out] at hok
    obtain ⟨va, vb, vc, vd, ve, vf, vg, vh⟩ := v
    obtain ⟨o1, o2, o3, o4, o5, o6, o7, o8⟩ := hok
    simp only at o1 o2 o3 o4 o5 o6 o7 o8
    by_cases hlt : k < 64
    · have hck : wr.cell? ⟨1, k, none⟩ = some (.int .u32 (wd kk k : Nat)) := HK2.out k hlt
      have hcw : wr.cell? ⟨w1.heap.size, k, none⟩ = some (.int .u32 (wd (sched r) k : Nat)) := (HW.out.cell k).trans (arrU_get _ _ (by unfold sched; rw [spB_len]; omega))
      have hk64 : (k : Int) < 64 := by omega
      go_wp2_with (go_at_call 33; refine (right_int _ _ _ (by omega) (by omega) (by omega)).mono ?_; rintro e w' ⟨rfl, rfl⟩)
      go_quiet (fail)
      go_wp2_with (go_at_call 33; refine (right_int _ _ _ (by omega) (by omega) (by omega)).mono ?_; rintro e w' ⟨rfl, rfl⟩)
      go_roundw
      case rel =>
        refine ⟨k + 1, step ⟨va, vb, vc, vd, ve, vf, vg, vh⟩ (wd kk k) (wd (sched r) k), by omega, by go_num, Lib.hid (by rw [← HV.out]; rfl), ?_, rfl, rfl, rfl, ?_, rfl, rfl, rfl, HR2, HW, HK2, Lib.hid (below_draws HB.out _)⟩
        · rw [bs0_bits _ o1, bs1_bits _ o5, chs_bits _ _ _ o5 o6 o7, maj_bits _ _ _ o1 o2 o3, sum_a]; rfl
        · rw [bs1_bits _ o5, chs_bits _ _ _ o5 o6 o7, sum_e]; rfl
      case measure => simp [intOf]; omega
    · have HV64 := Lib.hid (show rnds (v8 c) (sched r) 64 = ⟨va, vb, vc, vd, ve, vf, vg, vh⟩ by rw [← HV.out, show k = 64 by omega])
      go_wp2
      go_loopw [128] (fun i wr => ∃ q : Nat, q ≤ 8 ∧ i = .int .i64 q ∧ Hid (Row wr b t (stV (mix c ⟨va, vb, vc, vd, ve, vf, vg, vh⟩ q) r n)) ∧ Hid (Only b w wr)) (fun i _ => 8 - (intOf i).toNat)
      case atStart => exact ⟨0, by omega, rfl, HR2, Lib.hid (Only.of_below HB.out)⟩
      case round =>
        clear HR2 HB HW HK2 HV hlt hk
        obtain ⟨q, hq, rfl, HR2, HO⟩ := hrel
        by_cases hlt : q < 8
        · have hix := run_index8 wr ⟨va, vb, vc, vd, ve, vf, vg, vh⟩ q hlt
          simp only at hix
          obtain ⟨x, hx⟩ : ∃ x, wd (V8.list ⟨va, vb, vc, vd, ve, vf, vg, vh⟩) q = x := ⟨_, rfl⟩
          rw [hx] at hix
          have HX := Lib.hid hx
          have hcell : wr.cell? ⟨b, q, none⟩ = some (.int .u32 (wd c q : Nat)) := ((HR2.out.cell q).trans (stV_c _ r n q (by rw [mix_len]; exact HC.out) hlt)).trans (by rw [mix_at _ _ _ _ (Nat.le_refl _)]; rfl)
          have hfr := HR2.out.frozen q
          have hq8 : (q : Int) < 8 := by omega
          clear hx
          go_wp2
          go_still_tail 9, (by kernel_rfl)
          change wpList _ _ _ _ _ wr.drew
          go_wp2
          go_roundw
          case rel =>
            refine ⟨q + 1, by omega, by go_num, Lib.hid ?_, Lib.hid (HO.out.setCell _).drew⟩
            have h := HR2.out.set q (u32V ((wd c q + x) % 4294967296))
            rw [stV_set _ _ _ _ _ (by rw [mix_len]; exact HC.out) hlt, ← HX.out] at h
            rw [← HX.out, sum2]
            exact h
          case measure => simp [intOf]; omega
        · have HQ := Lib.hid (show q = 8 by omega)
          go_wp2
          go_end0
          refine ⟨rfl, ?_, HO.out⟩
          have h := HR2.out
          rw [HQ.out, ← HV64.out] at h
          exact h

end Go.Proofs.YteciidnjikcimaaDoor.Sha
