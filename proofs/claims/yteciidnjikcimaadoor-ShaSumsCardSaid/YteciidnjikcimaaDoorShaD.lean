/- Contracts of layer 2 (sha): a text is added to a state. -/
import Derived.Test.YteciidnjikcimaaDoorShaC
import Derived.Deep.RegionWith
namespace Go.Proofs.YteciidnjikcimaaDoor.Sha
open Go.RowKit

/-- What a state holds when a text was written. -/
structure Inv (l : List UInt8) (c : List Nat) (r : List UInt8) : Prop where
  hc : c = blocks l (l.length / 64)
  hr : r.length = 64
  rest : r.take (l.length % 64) = l.drop (64 * (l.length / 64))

theorem comp_len (c : List Nat) (r : List UInt8) : (comp c r).length = c.length := mix_len _ _ _
theorem mix_lt (c : List Nat) (v : V8) (h : ∀ i, wd c i < 4294967296) (k i : Nat) : wd (mix c v k) i < 4294967296 := by
  induction k with
  | zero => exact h i
  | succ k ih => exact wd_set_lt _ _ _ _ (Nat.mod_lt _ (by omega)) ih
theorem blocks_len (l : List UInt8) (k : Nat) : (blocks l k).length = 8 := by
  induction k with
  | zero => rfl
  | succ k ih => rw [blocks, comp_len, ih]
theorem hh_lt (i : Nat) : wd hh i < 4294967296 := by
  rcases Nat.lt_or_ge i 8 with h | h
  · have : ∀ i, i < 8 → wd hh i < 4294967296 := by decide
    exact this i h
  · unfold wd; rw [List.getD_eq_getElem?_getD, List.getElem?_eq_none (by simpa [hh] using h)]; simp
theorem blocks_lt (l : List UInt8) (k i : Nat) : wd (blocks l k) i < 4294967296 := by
  induction k with
  | zero => exact hh_lt i
  | succ k ih => exact mix_lt _ _ (fun i => by
      have : ∀ i, wd (blocks l k) i < 4294967296 := by
        clear ih i
        induction k with
        | zero => exact hh_lt
        | succ k ih => exact fun i => mix_lt _ _ ih _ _
      exact this i) _ _
theorem blocks_app (l m : List UInt8) (k : Nat) (h : 64 * k ≤ l.length) : blocks (l ++ m) k = blocks l k := by
  induction k with
  | zero => rfl
  | succ k ih =>
    rw [blocks, blocks, ih (by omega), List.drop_append_of_le_length (by omega), List.take_append_of_le_length (by rw [List.length_drop]; omega)]
/-- More bytes, not up to a piece's end. -/
theorem inv_part (l u r : List UInt8) (c : List Nat) (h : Inv l c r) (hu : l.length % 64 + u.length < 64) :
    Inv (l ++ u) c (r.take (l.length % 64) ++ u ++ r.drop (l.length % 64 + u.length)) := by
  have e1 : (l ++ u).length / 64 = l.length / 64 := by rw [List.length_append]; omega
  have e2 : (l ++ u).length % 64 = l.length % 64 + u.length := by rw [List.length_append]; omega
  have hr := h.hr
  refine ⟨by rw [e1, blocks_app _ _ _ (by omega)]; exact h.hc, by simp [hr]; omega, ?_⟩
  rw [e2, e1, h.rest, List.drop_append_of_le_length (by omega), List.take_left' (by simp; omega)]
/-- More bytes, up to a piece's end. -/
theorem inv_full (l u r : List UInt8) (c : List Nat) (h : Inv l c r) (hu : l.length % 64 + u.length = 64) :
    Inv (l ++ u) (comp c (r.take (l.length % 64) ++ u ++ r.drop (l.length % 64 + u.length))) (r.take (l.length % 64) ++ u ++ r.drop (l.length % 64 + u.length)) := by
  have hr := h.hr
  have e1 : (l ++ u).length / 64 = l.length / 64 + 1 := by rw [List.length_append]; omega
  have e2 : (l ++ u).length % 64 = 0 := by rw [List.length_append]; omega
  have e3 : r.take (l.length % 64) ++ u ++ r.drop (l.length % 64 + u.length) = (l ++ u).drop (64 * (l.length / 64)) := by
    have d : r.drop (l.length % 64 + u.length) = [] := List.drop_of_length_le (by omega)
    rw [h.rest, List.drop_append_of_le_length (by omega), d, List.append_nil]
  have e4 : ((l ++ u).drop (64 * (l.length / 64))).length = 64 := by simp; omega
  refine ⟨?_, by rw [e3, e4], ?_⟩
  · rw [e1, blocks, blocks_app _ _ _ (by omega), ← h.hc, e3, List.take_of_length_le (by omega)]
  · have d2 : (l ++ u).drop (64 * (l.length / 64 + 1)) = [] := List.drop_of_length_le (by rw [List.length_append]; omega)
    rw [e2, e1, d2]; rfl

theorem stV_splice (c : List Nat) (r u : List UInt8) (n p : Nat) (hc : c.length = 8) (hr : r.length = 64) (h : p + u.length ≤ 64) :
    ((stV c r n).toList.take (8 + p) ++ u.map bV ++ (stV c r n).toList.drop (8 + p + u.length)).toArray = stV c (r.take p ++ u ++ r.drop (p + u.length)) n := by
  have e1 : (stV c r n).toList = c.map u32V ++ (r.map bV ++ [Value.int .i64 (n : Int)]) := by simp [stV]
  have t1 : (c.map u32V ++ (r.map bV ++ [Value.int .i64 (n : Int)])).take (8 + p) = c.map u32V ++ (r.take p).map bV := by
    rw [List.take_append, List.take_of_length_le (by simp; omega), List.take_append_of_le_length (by simp; omega)]
    simp [hc]
  have t2 : (c.map u32V ++ (r.map bV ++ [Value.int .i64 (n : Int)])).drop (8 + p + u.length) = (r.drop (p + u.length)).map bV ++ [Value.int .i64 (n : Int)] := by
    rw [List.drop_append, List.drop_of_length_le (by simp; omega), List.nil_append, List.drop_append_of_le_length (by simp; omega)]
    rw [List.map_drop]; simp [hc, show 8 + p + u.length - 8 = p + u.length by omega]
  rw [e1, t1, t2]
  simp [stV]
theorem stV_size (c : List Nat) (r : List UInt8) (n m : Nat) (hc : c.length = 8) (hr : r.length = 64) : (stV c r n).setIfInBounds 72 (.int .i64 (m : Int)) = stV c r m := by
  simp [stV, List.set_append, hc, hr]

theorem wpList_copy_strA {P : Program} {w : World} {ops : Array Oper} {rest : List Oper} {o : Oper} {a : Act} {Q : Exit → Act → World → Prop} (hgd : o.guard = none) (d s : Operand) (dT sT : TypeId)
    (ho : o.op = .call { callee := .builtin .copy, args := #[d, s], argTypes := #[dT, sT] }) (elem : TypeId) (hu : P.underlying dT = some (.slice elem)) (hsz : (P.info? elem).map (·.size) = some 1)
    (g off dLen dCap : Nat) (str : ByteArray) (hd : a.eval d = .slice (some ⟨g, off, none⟩) dLen dCap) (hs : a.eval s = .string str)
    (cur : Array Value) (t : TypeId) (hg : Row w g t cur) (m : Nat) (hm : Nat.min str.size dLen = m) (hfit : off + m ≤ cur.size)
    (h : ∀ w', Row w' g t (cur.toList.take off ++ (str.data.toList.take m).map bV ++ cur.toList.drop (off + m)).toArray → Only g w w' → wpList P ops Q rest (a.put o.dst (.int .i64 (m : Int))) w') :
    wpList P ops Q (o :: rest) a w := by
  refine wpList_plain hgd fun K hK => ?_
  have hml : m ≤ str.data.toList.length := by
    rw [← hm]; exact Nat.min_le_left _ _
  have hst := run_storeCells_at P g off t ((str.data.toList.take m).map bV) 0 cur w hg (by simp only [List.length_map, List.length_take]; omega) (fun v hv => by obtain ⟨x, _, rfl⟩ := List.mem_map.1 hv; rfl)
  have hlen : ((str.data.toList.take m).map bV).length = m := by simp only [List.length_map, List.length_take]; omega
  rw [hlen] at hst
  have hfc : ((str.extract 0 m).data.map fun b => Value.int .u8 (b.toNat : Int)).toList = (str.data.toList.take m).map bV := by
    simp [ByteArray.data_extract, bV]
    rfl
  obtain ⟨X, hX⟩ : ∃ X, (cur.toList.take off ++ (str.data.toList.take m).map bV ++ cur.toList.drop (off + m)).toArray = X := ⟨_, rfl⟩
  have hrun : (Builtin.copy_ #[dT, sT] o.type #[.slice (some ⟨g, off, none⟩) dLen dCap, .string str]).run P w = .ok (goInt (m : Int)) (w.setRow g X) := by
    cases hq : P.info? elem with
    | none => simp [hq] at hsz
    | some i =>
      have hi : i.size = 1 := by simpa [hq] using hsz
      rw [Nat.add_zero, hX] at hst
      simp [Builtin.copy_, Sem.run_bind, run_underlying hu, Builtin.lenOf, Builtin.firstCells, sizeOf, typeInfo, hq, hi, hm, -ByteArray.data_extract, -Array.toList_map]
      rw [hfc, hst]
      rfl
  rw [hX] at h
  unfold Oper.wp
  simp [execOp, ho, resolve, invoke, builtin, hd, hs, hrun, Result.andThen]
  exact hK _ _ (h _ (setRow_heap w g cur _ t _ hg) (setRow_only w g _))

theorem ext_drop (u : ByteArray) (m : Nat) : (u.extract m u.size).data.toList = u.data.toList.drop m := by
  rw [ByteArray.data_extract, Array.toList_extract, List.extract_eq_take_drop, List.take_of_length_le]
  rw [List.length_drop, Array.length_toList]; exact Nat.le_refl _
theorem ext_size (u : ByteArray) (m : Nat) : (u.extract m u.size).size = u.size - m := by simp [ByteArray.size_extract]
theorem KTab.only {b : Nat} {w w' : World} (h : KTab w) (ho : Only b w w') (hb : b ≠ 1) (hk1 : 1 < w.heap.size) : KTab w' :=
  fun i hi => (ho.cell (p := ⟨1, i, none⟩) hk1 (fun e => hb e.symm)).trans (h i hi)
theorem join_split (l1 l u : List UInt8) (m : Nat) (h : l1 ++ u = l) : l1 ++ u.take m ++ u.drop m = l := by rw [List.append_assoc, List.take_append_drop, h]
def strSize : Value → Nat | .string u => u.size | _ => 0
theorem info8s : (Tryd.prog.info? 5).map (·.size) = some 1 := by kernel_rfl

set_option maxRecDepth 100000 in
set_option maxHeartbeats 400000 in
theorem add_any (b : Nat) (t : TypeId) (c : List Nat) (l r : List UInt8) (s : ByteArray) (w : World) (hb : b ≠ 1) (hk1 : 1 < w.heap.size) (hi : Inv l c r)
    (hsz : (l.length : Int) + (s.size : Int) ≤ 70368744177664) (hrow : Row w b t (stV c r l.length)) (hK : KTab w) :
    Calls Tryd.prog 20 #[.pointer (some ⟨b, 0, none⟩), .string s] w fun e w' => e = .returned (.tuple #[]) ∧ (∃ c' r', Inv (l ++ s.data.toList) c' r' ∧ Row w' b t (stV c' r' (l ++ s.data.toList).length)) ∧ Only b w w' := by
  have HR := Lib.hid hrow
  have HKT := Lib.hid hK
  have HI := Lib.hid hi
  clear hrow hK hi
  go_enter Tryd.func20, Tryd.ntmps20
  go_wp2
  go_loopw [1] (fun x wr => ∃ (u : ByteArray) (l1 : List UInt8) (c1 : List Nat) (r1 : List UInt8), x = .string u ∧ Hid (l1 ++ u.data.toList = l ++ s.data.toList) ∧ Hid (Inv l1 c1 r1) ∧ Hid (Row wr b t (stV c1 r1 l1.length)) ∧ Hid (Only b w wr)) (fun x _ => strSize x)
  case atStart => exact ⟨s, l, c, r, rfl, Lib.hid rfl, HI, HR, Lib.hid (Only.refl _ _)⟩
  case round =>
    clear HI HR
    obtain ⟨u, l1, c1, r1, rfl, HL, HI, HR, HO⟩ := hrel
    obtain ⟨n, hn⟩ : ∃ n, l1.length = n := ⟨_, rfl⟩
    have hnu : (n : Int) + (u.size : Int) ≤ 70368744177664 := by
      have := congrArg List.length HL.out
      simp only [List.length_append, hn] at this
      have e1 : u.data.toList.length = u.size := rfl
      have e2 : s.data.toList.length = s.size := rfl
      omega
    rw [hn] at HR
    have HN := Lib.hid hn
    clear hn hsz
    by_cases hlt : 0 < u.size
    · have HC8 : Hid (c1.length = 8) := Lib.hid (by rw [HI.out.hc]; exact blocks_len _ _)
      have HLT : Hid (∀ i, wd c1 i < 4294967296) := Lib.hid (by rw [HI.out.hc]; exact blocks_lt _ _)
      obtain ⟨p, hp⟩ : ∃ p, n % 64 = p := ⟨_, rfl⟩
      have HP := Lib.hid hp
      have hp64 : p < 64 := by omega
      obtain ⟨L, hL⟩ : ∃ L, 64 - p = L := ⟨_, rfl⟩
      have HLL := Lib.hid hL
      obtain ⟨m, hm⟩ : ∃ m, Nat.min u.size L = m := ⟨_, rfl⟩
      have hmu : m ≤ u.size := by rw [← hm]; exact Nat.min_le_left _ _
      have hmL : p + m ≤ 64 := by have : m ≤ L := by rw [← hm]; exact Nat.min_le_right _ _
                                  omega
      have hm0 : 0 < m := by rw [← hm]; exact Nat.lt_min.2 ⟨hlt, by omega⟩
      have HM := Lib.hid hm
      have hcn : wr.cell? ⟨b, 72, none⟩ = some (.int .i64 (n : Int)) := (HR.out.cell 72).trans (stV_n c1 r1 n HC8.out HI.out.hr)
      have hfn := HR.out.frozen 72
      have hsl := fun v : World => run_cut64 v b 8 p (p : Int) L rfl hL hp64
      have ht1 : (n : Int) % 64 = (p : Int) := by omega
      have ht2 : (n : Int).tmod 64 = (p : Int) := by rw [Int.tmod_eq_emod_of_nonneg (by omega)]; exact ht1
      have ht3 : IntKind.i64.wrap (p : Int) = (p : Int) := IntWalk.i64_in _ (by omega)
      clear hp hL hm
      go_wp2
      go_still_tail 10, (by kernel_rfl)
      change wpList _ _ _ _ _ wr.drew
      refine wpList_copy_strA rfl (.tmp 16) (.tmp 17) 50 9 rfl 5 Tryd.underlying50 info8s b (8 + p) L L u rfl rfl (stV c1 r1 n) t HR.out m HM.out (by simp [stV, HC8.out, HI.out.hr]; omega) ?_
      intro w2 hw2 ho2
      obtain ⟨r2, hr2⟩ : ∃ r2, r1.take p ++ u.data.toList.take m ++ r1.drop (p + m) = r2 := ⟨_, rfl⟩
      have hul : (u.data.toList.take m).length = m := by rw [List.length_take]; exact Nat.min_eq_left hmu
      have HR2 : Hid (Row w2 b t (stV c1 r2 n)) := Lib.hid (by
        have h := stV_splice c1 r1 (u.data.toList.take m) n p HC8.out HI.out.hr (by rw [hul]; exact hmL)
        rw [hul, hr2] at h
        rw [← h]; exact hw2)
      have H2 := Lib.hid hr2
      have HUL := Lib.hid hul
      have HRL2 : Hid (r2.length = 64) := Lib.hid (by rw [← hr2]; have := HI.out.hr; simp only [List.length_append, List.length_take, List.length_drop] at hul ⊢; omega)
      have HO2 := Lib.hid (HO.out.drew.trans ho2)
      have hcn2 : w2.cell? ⟨b, 72, none⟩ = some (.int .i64 (n : Int)) := (HR2.out.cell 72).trans (stV_n c1 r2 n HC8.out HRL2.out)
      have hfn2 := HR2.out.frozen 72
      clear hw2 ho2 hcn hfn hsl hr2 hul HO ht1 ht2 ht3
      have hmi : (m : Int) ≤ (u.size : Int) := by omega
      have hnm : ((n : Int) + (m : Int)).toNat = n + m := by omega
      have HMod := Lib.hid (show (n + m) % 64 = (p + m) % 64 by have := HP.out; omega)
      have HLn : Hid ((l1 ++ u.data.toList.take m).length = n + m) := Lib.hid (by rw [List.length_append, HUL.out, HN.out])
      have HR3 : Hid (Row (w2.setCell ⟨b, 72, none⟩ (.int .i64 ((n : Int) + (m : Int)))) b t (stV c1 r2 (n + m))) := Lib.hid (by
        have h := HR2.out.set 72 (.int .i64 ((n + m : Nat) : Int))
        rw [stV_size _ _ _ _ HC8.out HRL2.out] at h
        exact h)
      have HO3 : Hid (Only b w (w2.setCell ⟨b, 72, none⟩ (.int .i64 ((n : Int) + (m : Int))))) := Lib.hid (HO2.out.setCell _)
      have HJ : Hid (l1 ++ u.data.toList.take m ++ (u.extract m u.size).data.toList = l ++ s.data.toList) := Lib.hid (by rw [ext_drop]; exact join_split _ _ _ _ HL.out)
      have HZ : Hid (strSize (.string (u.extract m u.size)) < strSize (.string u)) := Lib.hid (by simp only [strSize, ext_size]; omega)
      by_cases hfull : p + m = 64
      · have ht : (((n : Int) + (m : Int)) % 64 == 0) = true := beq_iff_eq.2 (by have := HMod.out; omega)
        have HI2 : Hid (Inv (l1 ++ u.data.toList.take m) (comp c1 r2) r2) := Lib.hid (by
          have h := inv_full l1 (u.data.toList.take m) r1 c1 HI.out (by rw [HUL.out, HN.out, HP.out]; exact hfull)
          rw [HN.out, HP.out, HUL.out, H2.out] at h
          exact h)
        go_wp2
        obtain ⟨w3, hw3⟩ : ∃ v, w2.setCell ⟨b, 72, none⟩ (.int .i64 ((n : Int) + (m : Int))) = v := ⟨_, rfl⟩
        rw [hw3] at HR3 HO3 ⊢
        clear hw3 hcn2 hfn2
        go_still_tail 6, (by kernel_rfl)
        change wpList _ _ _ _ _ w3.drew
        go_wp2_with (go_at_call 27; refine (take_any b t c1 r2 (n + m) w3.drew hb (Nat.lt_of_lt_of_le hk1 HO3.out.size) HC8.out HRL2.out HLT.out (show Row w3.drew b t _ from HR3.out) (HKT.out.only HO3.out.drew hb hk1)).mono ?_; rintro e w4 ⟨rfl, hr4, ho4⟩; refine Hid.out ?_)
        refine Lib.hid ?_
        have HR4 := Lib.hid hr4
        have HO4 := Lib.hid (HO3.out.drew.trans ho4)
        clear hr4 ho4
        go_wp2
        exact ⟨⟨_, l1 ++ u.data.toList.take m, comp c1 r2, r2, rfl, HJ, HI2, Lib.hid (by rw [HLn.out]; exact HR4.out), HO4⟩, HZ.out⟩
      · have ht : (((n : Int) + (m : Int)) % 64 == 0) = false := beq_eq_false_iff_ne.2 (by have := HMod.out; omega)
        have HI2 : Hid (Inv (l1 ++ u.data.toList.take m) c1 r2) := Lib.hid (by
          have h := inv_part l1 (u.data.toList.take m) r1 c1 HI.out (by rw [HUL.out, HN.out, HP.out]; omega)
          rw [HN.out, HP.out, HUL.out, H2.out] at h
          exact h)
        go_wp2
        exact ⟨⟨_, l1 ++ u.data.toList.take m, c1, r2, rfl, HJ, HI2, Lib.hid (by rw [HLn.out]; exact HR3.out), HO3⟩, HZ.out⟩
    · have HE : Hid (u.data.toList = []) := Lib.hid (List.eq_nil_of_length_eq_zero (by rw [Array.length_toList]; exact Nat.eq_zero_of_not_pos hlt))
      go_wp2
      go_end0
      refine ⟨rfl, ⟨c1, r1, ?_, ?_⟩, HO.out⟩
      · rw [← HL.out, HE.out, List.append_nil]; exact HI.out
      · rw [← HL.out, HE.out, List.append_nil, HN.out]; exact HR.out

end Go.Proofs.YteciidnjikcimaaDoor.Sha
