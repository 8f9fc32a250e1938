/- Contracts of layer 2 (sha): texts are written to a state. -/
import Derived.Test.YteciidnjikcimaaDoorShaD
namespace Go.Proofs.YteciidnjikcimaaDoor.Sha
open Go.RowKit

/-- The first state's words, where the program keeps them. -/
def FTab (w : World) : Prop := ∀ i, i < 8 → w.cell? ⟨0, i, none⟩ = some (u32V (wd hh i))
/-- Both tables, and that their blocks are there. -/
structure Tabs (w : World) : Prop where
  k : KTab w
  f : FTab w
  size : 2 ≤ w.heap.size
theorem Tabs.only {b : Nat} {w w' : World} (h : Tabs w) (ho : Only b w w') (hb : 2 ≤ b) : Tabs w' :=
  ⟨h.k.only ho (by have : 1 < 2 := by decide
                   omega) (by have := h.size; have : 1 < 2 := by decide
                              omega),
   fun i hi => (ho.cell (p := ⟨0, i, none⟩) (by show 0 < _; have := h.size; omega) (by show 0 ≠ _; omega)).trans (h.f i hi), by have := h.size; have := ho.size; omega⟩
theorem Tabs.below {B : Nat} {w w' : World} (h : Tabs w) (hb : Below B w w') (hB : 2 ≤ B) : Tabs w' :=
  ⟨fun i hi => (hb.cell (p := ⟨1, i, none⟩) (by show 1 < _; omega)).trans (h.k i hi),
   fun i hi => (hb.cell (p := ⟨0, i, none⟩) (by show 0 < _; omega)).trans (h.f i hi), by have := h.size; have := hb.size; omega⟩

/-- A state of which just this was written. -/
def StW (w : World) (b : Nat) (t : TypeId) (l : List UInt8) : Prop := ∃ c r, c.length = 8 ∧ r.length = 64 ∧ (l = [] ∨ Inv l c r) ∧ Row w b t (stV c r l.length)
theorem StW.lt {w : World} {b : Nat} {t : TypeId} {l : List UInt8} (h : StW w b t l) : b < w.heap.size := by obtain ⟨c, r, _, _, _, h⟩ := h; exact h.lt
theorem StW.only {w w' : World} {b g : Nat} {t : TypeId} {l : List UInt8} (h : StW w b t l) (ho : Only g w w') (hne : b ≠ g) : StW w' b t l := by
  obtain ⟨c, r, h1, h2, h3, h4⟩ := h
  exact ⟨c, r, h1, h2, h3, ho.row h4 hne h4.lt⟩
theorem StW.below {w w' : World} {b B : Nat} {t : TypeId} {l : List UInt8} (h : StW w b t l) (ho : Below B w w') (hne : b < B) : StW w' b t l := by
  obtain ⟨c, r, h1, h2, h3, h4⟩ := h
  exact ⟨c, r, h1, h2, h3, h4.below ho hne⟩

/-- A slice of texts, none of it in block B: text k is ss k. -/
def SArg (w : World) (B : Nat) (A : Option Addr) (n : Nat) (ss : Nat → ByteArray) : Prop := ∀ k, k < n → ∃ b o, A = some ⟨b, o, none⟩ ∧ b < w.heap.size ∧ b ≠ B ∧ w.cell? ⟨b, o + k, none⟩ = some (.string (ss k))
/-- The first k texts, one behind the other. -/
def cat (ss : Nat → ByteArray) : Nat → List UInt8
  | 0 => []
  | k + 1 => cat ss k ++ (ss k).data.toList
theorem cat_le (ss : Nat → ByteArray) (k n : Nat) (h : k ≤ n) : (cat ss k).length ≤ (cat ss n).length := by
  induction n with
  | zero => have : k = 0 := by omega
            subst this; exact Nat.le_refl _
  | succ n ih =>
    by_cases e : k = n + 1
    · subst e; exact Nat.le_refl _
    · have := ih (by omega)
      rw [cat, List.length_append]; omega

theorem wpList_load_cellsA {P : Program} {ops : Array Oper} {rest : List Oper} {o : Oper} {a : Act} {w : World} {Q : Exit → Act → World → Prop} (hgd : o.guard = none) (ty : TypeId) (x : Operand) (ho : o.op = .load ty x)
    (g : Nat) (hx : a.eval x = .pointer (some ⟨g, 0, none⟩)) (cs : List Value) (d : TypeDesc) (hcell : ∀ j v, cs[j]? = some v → w.cell? ⟨g, j, none⟩ = some v)
    (hu : P.underlying ty = some d) (hd : (match d with | .struct _ | .array _ _ => true | _ => false) = true) (hi : (P.info? ty).map (·.size) = some cs.length)
    (h : wpList P ops Q rest (a.put o.dst (.agg cs.toArray)) w) : wpList P ops Q (o :: rest) a w := by
  refine wpList_plain hgd fun K hK => ?_
  have hl : (loadCells ⟨g, 0, none⟩ cs.length).run P w = .ok cs.toArray w :=
    run_loadCells_list (P := P) w ⟨g, 0, none⟩ cs (fun j v hv => by
      have hadd : (⟨g, 0, none⟩ : Addr).add j = ⟨g, j, none⟩ := by unfold Addr.add; split <;> simp_all
      rw [hadd]; exact hcell j v hv)
  have hrun : (loadVar ty ⟨g, 0, none⟩).run P w = .ok (.agg cs.toArray) w := by
    cases hq : P.info? ty with
    | none => simp [hq] at hi
    | some i =>
      have hs : i.size = cs.length := by simpa [hq] using hi
      have hagg : (isAgg ty).run P w = .ok true w := by
        unfold isAgg
        rw [Sem.run_bind, run_underlying hu w]
        cases d <;> simp_all
      simp [loadVar, Sem.run_bind, hagg, sizeOf, typeInfo, hq, hs, hl]
  unfold Oper.wp execOp
  simp only [ho, hx, Instr.loadAt, Instr.sureAddr, Sem.run_bind, Sem.run_pure, Result.andThen_ok, hrun]
  exact hK _ _ h

theorem wpList_store_partA {P : Program} {ops : Array Oper} {rest : List Oper} {o : Oper} {a : Act} {w : World} {Q : Exit → Act → World → Prop} (hgd : o.guard = none) (ty : TypeId) (x y : Operand) (ho : o.op = .store ty x y)
    (g : Nat) (cells : Array Value) (hx : a.eval x = .pointer (some ⟨g, 0, none⟩)) (hy : a.eval y = .agg cells)
    (t : TypeId) (old : Array Value) (hg : Row w g t old) (hi : (P.info? ty).map (·.size) = some cells.size)
    (hold : cells.size ≤ old.size) (h1 : ∀ v ∈ cells.toList, v.oneCell' = true)
    (h : ∀ w', Row w' g t (cells.toList ++ old.toList.drop cells.size).toArray → Only g w w' → wpList P ops Q rest (a.put o.dst undef) w') : wpList P ops Q (o :: rest) a w := by
  refine wpList_plain hgd fun K hK => ?_
  have hst := run_storeCells_at P g 0 t cells.toList 0 old w hg (by simpa using hold) h1
  have hrun : (storeVar ty ⟨g, 0, none⟩ (.agg cells)).run P w = .ok () (w.setRow g (cells.toList ++ old.toList.drop cells.size).toArray) := by
    cases hq : P.info? ty with
    | none => simp [hq] at hi
    | some i =>
      have hs : cells.size = i.size := by simp [hq] at hi; omega
      rw [show (0 : Nat) + 0 = 0 by rfl, List.take_zero, List.nil_append, Nat.zero_add, Array.length_toList] at hst
      simp only [hs] at hst
      simp [storeVar, sizeOf, typeInfo, hq, Value.cells, hs, hst]
  unfold Oper.wp execOp
  simp only [ho, hx, hy, Instr.storeAt, Instr.sureAddr, Sem.run_bind, Sem.run_pure, Result.andThen_ok, hrun]
  exact hK _ _ (h _ (setRow_heap w g old _ t _ hg) (setRow_only w g _))

theorem stV_first (c d : List Nat) (r : List UInt8) (n : Nat) (hc : c.length = 8) (hd : d.length = 8) : ((arrU d).toList ++ (stV c r n).toList.drop (arrU d).size).toArray = stV d r n := by
  have e : (arrU d).size = 8 := by simp [arrU, hd]
  rw [e]
  simp only [stV, arrU, List.drop_append, List.length_map, hc]
  rw [List.drop_of_length_le (by simp [hc])]
  simp

set_option maxRecDepth 100000 in
set_option maxHeartbeats 400000 in
theorem write_any (b : Nat) (t : TypeId) (l : List UInt8) (A : Option Addr) (n cp : Nat) (ss : Nat → ByteArray) (w : World) (hb : 2 ≤ b) (hT : Tabs w) (hst : StW w b t l) (hA : SArg w b A n ss)
    (hsz : ((l.length + (cat ss n).length : Nat) : Int) ≤ 70368744177664) (hn : (n : Int) ≤ 9223372036854775807) :
    Calls Tryd.prog 10 #[.pointer (some ⟨b, 0, none⟩), .slice A n cp] w fun e w' => e = .returned (.tuple #[]) ∧ StW w' b t (l ++ cat ss n) ∧ Only b w w' := by
  have HT := Lib.hid hT
  have HA := Lib.hid hA
  have HSZ := Lib.hid hsz
  obtain ⟨c, r, hc, hr, hi, hrow⟩ := hst
  have HC := Lib.hid hc
  have HRL := Lib.hid hr
  have HR := Lib.hid hrow
  have hcn : w.cell? ⟨b, 72, none⟩ = some (.int .i64 (l.length : Int)) := (HR.out.cell 72).trans (stV_n c r l.length HC.out HRL.out)
  have H8 : Hid ((Tryd.prog.info? 41).map (·.size) = some 8) := Lib.hid (by kernel_rfl)
  have HF : Hid (∀ j v, (hh.map u32V)[j]? = some v → w.cell? ⟨0, j, none⟩ = some v) := Lib.hid (fun j v hv => by
    have hj : j < 8 := by have := (List.getElem?_eq_some_iff.1 hv).1; simpa [hh] using this
    rw [HT.out.f j hj, ← hv, List.getElem?_map, wd, List.getD_eq_getElem?_getD, List.getElem?_eq_getElem (by simpa [hh] using hj)]; rfl)
  clear hT hA hsz hc hr hrow
  have hi : l = [] ∨ (l ≠ [] ∧ Inv l c r) := by
    by_cases e : l = []
    · exact .inl e
    · exact .inr ⟨e, hi.resolve_left e⟩
  rcases hi with hl | ⟨hne0, hi⟩
  · have HL := Lib.hid hl
    have h0 : (l.length : Int) = 0 := by rw [hl]; rfl
    rw [h0] at hcn
    clear hl h0
    go_enter Tryd.func10, Tryd.ntmps10
    go_wp2_with (first | (refine wpList_load_cellsA rfl 41 (.global 0) rfl 0 rfl (hh.map u32V) _ HF.out Tryd.underlying41 rfl H8.out ?_) | (refine wpList_store_partA rfl 41 (.tmp 16) (.tmp 14) rfl b (arrU hh) rfl rfl t (stV c r l.length) HR.out H8.out (by simp [stV, arrU, HC.out, HRL.out, hh]) (by simp [arrU, u32V, Value.oneCell']) ?_; intro w2 hw2 ho2; refine Hid.out ?_))
    refine Lib.hid ?_
    obtain ⟨c0, hc0⟩ : ∃ c0, hh = c0 := ⟨_, rfl⟩
    have HI : Hid (Inv l c0 r) := Lib.hid (by rw [HL.out, ← hc0]; exact ⟨rfl, HRL.out, rfl⟩)
    have HR0 : Hid (Row w2 b t (stV c0 r l.length)) := Lib.hid (by rw [← stV_first c c0 r l.length HC.out (by rw [← hc0]; rfl), ← hc0]; exact hw2)
    have HO0 := Lib.hid ho2
    clear hw2 ho2 hc0
    go_wp2
    go_loopw [19] (fun i wr => ∃ (k : Nat) (c1 : List Nat) (r1 : List UInt8), k ≤ n ∧ i = .int .i64 k ∧ Hid (Inv (l ++ cat ss k) c1 r1) ∧ Hid (Row wr b t (stV c1 r1 (l ++ cat ss k).length)) ∧ Hid (Only b w wr)) (fun i _ => n - (intOf i).toNat)
    case atStart => exact ⟨0, c0, r, by omega, rfl, Lib.hid (by rw [cat, List.append_nil]; exact HI.out), Lib.hid (by rw [cat, List.append_nil]; exact HR0.out), HO0⟩
    case round =>
      clear HI HR0 HO0
      obtain ⟨k, c1, r1, hk, rfl, HI, HR1, HO⟩ := hrel
      by_cases hlt : k < n
      · obtain ⟨b1, o1, rfl, hbl, hne, hc0⟩ := HA.out k hlt
        have hc : wr.cell? ⟨b1, o1 + k, none⟩ = some (.string (ss k)) := (HO.out.cell (p := ⟨b1, o1 + k, none⟩) hbl hne).trans hc0
        clear hc0
        have HZ : Hid ((((l ++ cat ss k).length : Nat) : Int) + ((ss k).size : Int) ≤ 70368744177664) := Lib.hid (by
          have h1 := cat_le ss (k + 1) n (by omega)
          have h2 := HSZ.out
          rw [cat, List.length_append] at h1
          rw [List.length_append]
          have e : (ss k).data.toList.length = (ss k).size := rfl
          omega)
        go_wp2_with (go_at_call 20; refine (add_any b t c1 (l ++ cat ss k) r1 (ss k) _ (by omega) (by have := HT.out.size; have := HO.out.size; omega) HI.out HZ.out HR1.out (HT.out.only HO.out hb).k).mono ?_; rintro e w3 ⟨rfl, ⟨c3, r3, hi3, hr3⟩, ho3⟩; refine Hid.out ?_)
        refine Lib.hid ?_
        have HI3 := Lib.hid hi3
        have HR3 := Lib.hid hr3
        have HO3 := Lib.hid (HO.out.trans ho3)
        clear hi3 hr3 ho3
        go_wp2
        go_roundw
        case rel => exact ⟨k + 1, c3, r3, by omega, by go_num, Lib.hid (by rw [cat, ← List.append_assoc]; exact HI3.out), Lib.hid (by rw [cat, ← List.append_assoc]; exact HR3.out), HO3⟩
        case measure => simp [intOf]; omega
      · have HK := Lib.hid (show k = n by omega)
        go_wp2
        go_end0
        refine ⟨rfl, ⟨c1, r1, ?_, HI.out.hr, .inr ?_, ?_⟩, HO.out⟩
        · rw [HI.out.hc]; exact blocks_len _ _
        · rw [← HK.out]; exact HI.out
        · rw [← HK.out]; exact HR1.out
  · obtain ⟨c0, hc0⟩ : ∃ c0, c = c0 := ⟨_, rfl⟩
    have HI : Hid (Inv l c0 r) := Lib.hid (by rw [← hc0]; exact hi)
    have HR0 : Hid (Row w b t (stV c0 r l.length)) := Lib.hid (by rw [← hc0]; exact HR.out)
    have HO0 := Lib.hid (Only.refl b w)
    clear hi hc0
    have hl : ¬ (l.length : Int) = 0 := fun h => hne0 (List.eq_nil_of_length_eq_zero (by omega))
    have hlb : ((l.length : Int) == 0) = false := beq_eq_false_iff_ne.2 hl
    have hlb2 : ((l.length : Nat) == 0) = false := beq_eq_false_iff_ne.2 (by omega)
    have hl2 : ¬ l.length = 0 := by omega
    go_enter Tryd.func10, Tryd.ntmps10
    go_wp2
    go_loopw [19] (fun i wr => ∃ (k : Nat) (c1 : List Nat) (r1 : List UInt8), k ≤ n ∧ i = .int .i64 k ∧ Hid (Inv (l ++ cat ss k) c1 r1) ∧ Hid (Row wr b t (stV c1 r1 (l ++ cat ss k).length)) ∧ Hid (Only b w wr)) (fun i _ => n - (intOf i).toNat)
    case atStart => exact ⟨0, c0, r, by omega, rfl, Lib.hid (by rw [cat, List.append_nil]; exact HI.out), Lib.hid (by rw [cat, List.append_nil]; exact HR0.out), HO0⟩
    case round =>
      clear HI HR0 HO0
      obtain ⟨k, c1, r1, hk, rfl, HI, HR1, HO⟩ := hrel
      by_cases hlt : k < n
      · obtain ⟨b1, o1, rfl, hbl, hne, hc0⟩ := HA.out k hlt
        have hc : wr.cell? ⟨b1, o1 + k, none⟩ = some (.string (ss k)) := (HO.out.cell (p := ⟨b1, o1 + k, none⟩) hbl hne).trans hc0
        clear hc0
        have HZ : Hid ((((l ++ cat ss k).length : Nat) : Int) + ((ss k).size : Int) ≤ 70368744177664) := Lib.hid (by
          have h1 := cat_le ss (k + 1) n (by omega)
          have h2 := HSZ.out
          rw [cat, List.length_append] at h1
          rw [List.length_append]
          have e : (ss k).data.toList.length = (ss k).size := rfl
          omega)
        go_wp2_with (go_at_call 20; refine (add_any b t c1 (l ++ cat ss k) r1 (ss k) _ (by omega) (by have := HT.out.size; have := HO.out.size; omega) HI.out HZ.out HR1.out (HT.out.only HO.out hb).k).mono ?_; rintro e w3 ⟨rfl, ⟨c3, r3, hi3, hr3⟩, ho3⟩; refine Hid.out ?_)
        refine Lib.hid ?_
        have HI3 := Lib.hid hi3
        have HR3 := Lib.hid hr3
        have HO3 := Lib.hid (HO.out.trans ho3)
        clear hi3 hr3 ho3
        go_wp2
        go_roundw
        case rel => exact ⟨k + 1, c3, r3, by omega, by go_num, Lib.hid (by rw [cat, ← List.append_assoc]; exact HI3.out), Lib.hid (by rw [cat, ← List.append_assoc]; exact HR3.out), HO3⟩
        case measure => simp [intOf]; omega
      · have HK := Lib.hid (show k = n by omega)
        go_wp2
        go_end0
        refine ⟨rfl, ⟨c1, r1, ?_, HI.out.hr, .inr ?_, ?_⟩, HO.out⟩
        · rw [HI.out.hc]; exact blocks_len _ _
        · rw [← HK.out]; exact HI.out
        · rw [← HK.out]; exact HR1.out

end Go.Proofs.YteciidnjikcimaaDoor.Sha
