/- Contracts of layer 2 (sha): a state's digest; the digest of texts. -/
import Derived.Test.YteciidnjikcimaaDoorShaF
namespace Go.Proofs.YteciidnjikcimaaDoor.Sha
open Go.RowKit Go.Lib

/-- The cells of a new state. -/
def zst : Array Value := stV (List.replicate 8 0) (List.replicate 64 0) 0
theorem zst_new {w : World} {b : Nat} {t : TypeId} (h : Row w b t zst) : StW w b t [] := ⟨List.replicate 8 0, List.replicate 64 0, by simp, by simp, .inl rfl, h⟩
theorem stV_len (c : List Nat) (r : List UInt8) (n : Nat) (hc : c.length = 8) (hr : r.length = 64) : (stV c r n).size = 73 := by simp [stV, hc, hr]
theorem zst_len : zst.size = 73 := by simp [zst, stV]
theorem stV_one (c : List Nat) (r : List UInt8) (n : Nat) : (stV c r n).all (·.oneCell') = true := by simp [stV, u32V, bV, Value.oneCell']
theorem info44 : (Tryd.prog.info? 44).map (·.size) = some 73 := by kernel_rfl
theorem cat_one (s : ByteArray) : cat (fun _ => s) 1 = s.data.toList := by simp [cat]
theorem sarg_one (w : World) (B : Nat) (s : ByteArray) (t : TypeId) (hB : B < w.heap.size) : SArg (w.alloc (.cells #[.string s] t)) B (some ⟨w.heap.size, 0, none⟩) 1 (fun _ => s) := by
  intro k hk
  obtain rfl : k = 0 := by omega
  exact ⟨w.heap.size, 0, rfl, by simp, by omega, by rw [cell_of_row _ _ _ _ _ _ (heap_alloc_new w _)]; rfl⟩
theorem dig_of (l : List UInt8) (c : List Nat) (r : List UInt8) (h : l ++ ending l.length = [] ∨ Inv (l ++ ending l.length) c r) : outB c 8 = dig l ∧ ∀ i, wd c i < 4294967296 := by
  have hi := h.resolve_left (by simp [ending])
  unfold dig
  rw [← hi.hc]
  exact ⟨rfl, by rw [hi.hc]; exact blocks_lt _ _⟩

theorem info44z : (Tryd.prog.info? 44).map (·.zero) = some (some (.agg zst)) := by kernel_rfl
theorem zero44 (v : World) : (zeroValue 44).run Tryd.prog v = .ok (.agg zst) v := by
  have h := info44z
  cases hq : Tryd.prog.info? 44 with
  | none => rw [hq] at h; cases h
  | some i =>
    rw [hq] at h
    have hz : i.zero = some (.agg zst) := by simpa using h
    simp [zeroValue, typeInfo, hq, hz]
theorem wpList_buildA {P : Program} {ops : Array Oper} {rest : List Oper} {o : Oper} {a : Act} {w : World} {Q : Exit → Act → World → Prop} (hg : o.guard = none) (t : TypeId) (parts : Array (Nat × Operand)) (ho : o.op = .build t parts) (cells : Array Value)
    (hf : P.built t (parts.map fun (i, x) => (i, a.eval x)).toList = some cells)
    (h : wpList P ops Q rest (a.put o.dst (.agg cells)) w) : wpList P ops Q (o :: rest) a w :=
  wpList_build hg t parts ho (by rw [hf]; rfl) (by rw [hf]; exact h)
theorem build44 (v : World) : (Instr.build 44 #[]).run Tryd.prog v = .ok (.agg zst) v := run_build v _ _ _ (by kernel_rfl)

set_option maxRecDepth 100000 in
set_option maxHeartbeats 400000 in
theorem sum_st (b : Nat) (t : TypeId) (l : List UInt8) (w : World) (hT : Tabs w) (hst : StW w b t l) (hl : (l.length : Int) ≤ 35184372088832) :
    Calls Tryd.prog 12 #[.pointer (some ⟨b, 0, none⟩)] w fun e w' => e = .returned (.string ⟨(dig l).toArray⟩) ∧ Below w.heap.size w w' := by
  have HT := Lib.hid hT
  obtain ⟨c, r, hc, hr, hi, hrow⟩ := hst
  have HI := Lib.hid hi
  have HC := Lib.hid hc
  have HRL := Lib.hid hr
  have HR := Lib.hid hrow
  have HS : Hid ((Tryd.prog.info? 44).map (·.size) = some (stV c r l.length).size) := Lib.hid (by rw [info44, stV_len _ _ _ hc hr])
  have h2 := hT.size
  clear hT hc hr hrow hi
  have hz44 := zero44
  go_enter Tryd.func12, Tryd.ntmps12
  go_wp2_with (first | (refine wpList_load_row rfl 44 (.tmp 7) rfl b rfl t (stV c r l.length) (0, 0) _ HR.out Tryd.underlying44 rfl HS.out ?_) | (refine wpList_store_rowA rfl 44 (.tmp 3) (.tmp 8) rfl w.heap.size (stV c r l.length) rfl rfl 44 zst (heap_alloc_new _ _) HS.out (by rw [stV_len _ _ _ HC.out HRL.out, zst_len]) (stV_one _ _ _) ?_; intro w2 hw2 ho2; refine Hid.out ?_))
  refine Lib.hid ?_
  have HW2 := Lib.hid hw2
  have hb2 : Below w.heap.size w w2 := ((Below.refl w.heap.size w).alloc (Nat.le_refl _) _).trans (ho2.below (Nat.le_refl _) (by simp))
  have HB2 := Lib.hid hb2
  have hs2 : w.heap.size < w2.heap.size := hw2.lt
  have hcn : w2.cell? ⟨b, 72, none⟩ = some (.int .i64 (l.length : Int)) := (HB2.out.cell (p := ⟨b, 72, none⟩) HR.out.lt).trans ((HR.out.cell 72).trans (stV_n c r l.length HC.out HRL.out))
  clear hw2 ho2 hb2
  go_wp2_with (go_at_call 21; refine (ending_any l.length _ (by omega)).mono ?_; rintro e w3 ⟨rfl, hb3⟩; refine Hid.out ?_)
  refine Lib.hid ?_
  have HB3 := Lib.hid (HB2.out.trans (hb3.mono (Nat.le_of_lt hs2)))
  have HW3 := Lib.hid (HW2.out.below hb3 hs2)
  have hs3 : w.heap.size < w3.heap.size := HW3.out.lt
  clear hb3 hcn HW2
  have HEL : Hid (((l.length + (cat (fun _ => (⟨(ending l.length).toArray⟩ : ByteArray)) 1).length : Nat) : Int) ≤ 70368744177664) := Lib.hid (by rw [cat_one]; simp [ending_len]; omega)
  go_wp2_with (go_at_call 10; refine (write_any w.heap.size 44 l _ 1 1 (fun _ => ⟨(ending l.length).toArray⟩) _ h2 (HT.out.below (HB3.out.alloc (Nat.le_of_lt hs3) _) h2) ⟨c, r, HC.out, HRL.out, HI.out, (Below.heap_alloc _ _ _ hs3).trans HW3.out⟩ (sarg_one _ _ _ _ hs3) HEL.out (by omega)).mono ?_; rintro e w4 ⟨rfl, hst4, ho4⟩; refine Hid.out ?_)
  refine Lib.hid ?_
  rw [cat_one] at hst4
  obtain ⟨c4, r4, hc4, hr4, hi4, hrow4⟩ := hst4
  have HD := Lib.hid (dig_of l c4 r4 hi4)
  have HR4 := Lib.hid hrow4
  have HC4 := Lib.hid hc4
  have HB4 := Lib.hid ((HB3.out.alloc (Nat.le_of_lt hs3) _).trans (ho4.below (Nat.le_refl _) (by simp; omega)))
  have hs4 : w.heap.size < w4.heap.size := hrow4.lt
  clear hi4 hrow4 hc4 hr4 ho4
  go_wp2_with (go_at_call 22; refine (digest_any w.heap.size c4 _ hs4 (fun i hi => (HR4.out.cell i).trans (stV_c _ _ _ _ HC4.out hi)) HD.out.2).mono ?_; rintro e w5 ⟨rfl, hb5⟩; refine Hid.out ?_)
  refine Lib.hid ?_
  have HB5 := Lib.hid (HB4.out.trans (hb5.mono (Nat.le_of_lt hs4)))
  clear hb5
  go_wp2
  go_ret
  exact ⟨by rw [HD.out.1]; rfl, HB5.out⟩

set_option maxRecDepth 100000 in
set_option maxHeartbeats 400000 in
theorem len_st (b : Nat) (t : TypeId) (l : List UInt8) (w : World) (hst : StW w b t l) :
    Calls Tryd.prog 13 #[.pointer (some ⟨b, 0, none⟩)] w fun e w' => e = .returned (.int .i64 (l.length : Int)) ∧ w = w' := by
  obtain ⟨c, r, hc, hr, hi, hrow⟩ := hst
  have hcn : w.cell? ⟨b, 72, none⟩ = some (.int .i64 (l.length : Int)) := (hrow.cell 72).trans (stV_n c r l.length hc hr)
  clear hc hr hi hrow
  go_enter Tryd.func13, Tryd.ntmps13
  go_wp2
  go_ret
  exact ⟨rfl, rfl⟩

set_option maxRecDepth 100000 in
set_option maxHeartbeats 400000 in
theorem new_st (w : World) :
    Calls Tryd.prog 9 #[] w fun e w' => e = .returned (.pointer (some ⟨w.heap.size, 0, none⟩)) ∧ StW w' w.heap.size 44 [] ∧ Below w.heap.size w w' := by
  go_enter Tryd.func9, Tryd.ntmps9
  go_wp2_with (refine wpList_buildA rfl 44 #[] rfl zst (by kernel_rfl) ?_)
  go_ret
  exact ⟨rfl, zst_new (heap_alloc_new _ _), (Below.refl _ _).alloc (Nat.le_refl _) _⟩

set_option maxRecDepth 100000 in
set_option maxHeartbeats 400000 in
theorem sum_any (A : Option Addr) (n cp : Nat) (ss : Nat → ByteArray) (w : World) (hT : Tabs w) (hA : SArg w w.heap.size A n ss) (hn : (n : Int) ≤ 9223372036854775807) (hl : ((cat ss n).length : Int) ≤ 35184372088832) :
    Calls Tryd.prog 11 #[.slice A n cp] w fun e w' => e = .returned (.string ⟨(dig (cat ss n)).toArray⟩) ∧ Below w.heap.size w w' := by
  have HT := Lib.hid hT
  have h2 := hT.size
  have HA := Lib.hid hA
  have HL := Lib.hid hl
  clear hT hA hl
  have HA1 : Hid (SArg (w.alloc (.cells zst 44)) w.heap.size A n ss) := Lib.hid (by
    intro k hk
    obtain ⟨b, o, e, hb, hne, hc⟩ := HA.out k hk
    exact ⟨b, o, e, by simp; omega, hne, (World.cell?_alloc_lt w _ ⟨b, o + k, none⟩ hb).trans hc⟩)
  have HL1 : Hid (((([] : List UInt8).length + (cat ss n).length : Nat) : Int) ≤ 70368744177664) := Lib.hid (by have := HL.out; simp; omega)
  have hz44 := zero44
  go_enter Tryd.func11, Tryd.ntmps11
  go_wp2_with (go_at_call 10; refine (write_any w.heap.size 44 [] A n cp ss (w.alloc (.cells zst 44)) h2 (HT.out.below ((Below.refl w.heap.size w).alloc (Nat.le_refl _) _) h2) (zst_new (heap_alloc_new _ _)) HA1.out HL1.out hn).mono ?_; rintro e w1 ⟨rfl, hst1, ho1⟩; refine Hid.out ?_)
  refine Lib.hid ?_
  rw [List.nil_append] at hst1
  have HS1 := Lib.hid hst1
  have HB1 := Lib.hid (((Below.refl w.heap.size w).alloc (Nat.le_refl _) _).trans (ho1.below (Nat.le_refl _) (by simp)))
  have hs1 : w.heap.size < w1.heap.size := hst1.lt
  clear hst1 ho1
  go_wp2_with (go_at_call 12; refine (sum_st w.heap.size 44 (cat ss n) _ (HT.out.below HB1.out h2) HS1.out HL.out).mono ?_; rintro e w2 ⟨rfl, hb2⟩; refine Hid.out ?_)
  refine Lib.hid ?_
  have HB2 := Lib.hid (HB1.out.trans (hb2.mono (Nat.le_of_lt hs1)))
  clear hb2
  go_wp2
  go_ret
  exact ⟨rfl, HB2.out⟩

end Go.Proofs.YteciidnjikcimaaDoor.Sha
