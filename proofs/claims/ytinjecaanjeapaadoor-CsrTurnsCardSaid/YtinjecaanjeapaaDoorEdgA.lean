/- Contracts of the program's edges: compare, Clone, Equal, Same, isNode (written by gen_edga.py). -/
import Derived.Test.YtinjecaanjeapaaDoorLay
import Derived.Test.YtinjecaanjeapaaDoorRef04
import Derived.Shelf.SlSortCmp.InsertionK
import Derived.Laws.StructEq
namespace Go.Proofs.YtinjecaanjeapaaDoor.Edg
open Go Go.RowKit Go.Lib Go.Shelf Go.Sort

/-- How edges are compared. -/
def cmpI (x y : Int × Int) : Int := if x.1 = y.1 then Lib.compareInt x.2 y.2 else Lib.compareInt x.1 y.1
theorem cmp_any (a b : Int) (w : World) : Calls Tryd.prog 49 #[.int .i64 a, .int .i64 b] w fun e w' => e = .returned (.int .i64 (Lib.compareInt a b)) ∧ w' = w := AnyG.cmp_Compare_int Tryd.layCmp a b w

set_option maxRecDepth 100000 in
set_option maxHeartbeats 2000000 in
theorem compare_a (a b c d : Int) (w : World) (h : (a != c) = true) :
    Calls Tryd.prog 37 #[.agg #[.int .i64 a, .int .i64 b], .agg #[.int .i64 c, .int .i64 d]] w fun e w' => e = .returned (.int .i64 (Lib.compareInt a c)) ∧ ∃ q os', w' = grow (w.drewN q) os' := by
  refine Kn.calls Tryd.func37 rfl Tryd.ntmps37 rfl (.cons (t := 0) rfl (.cons (t := 1) rfl .nil)) fun fa0 fh0 => ?_
  refine wp_seq_k fun K1 hK1 => ?_
  refine wp_region_lit ?_
  refine Kn.step fh0 rfl rfl .none (Kn.ex_box fh0 (.tmp rfl)) fun Ko hKo => ?_
  go_simp
  try go_bits
  refine hKo _ _ fun fa1 fh1 => ?_
  clear hKo Ko fh0 fa0
  refine Kn.step fh1 rfl rfl .none (Kn.ex_box fh1 (.tmp rfl)) fun Ko hKo => ?_
  go_simp
  try go_bits
  refine hKo _ _ fun fa2 fh2 => ?_
  clear hKo Ko fh1 fa1
  refine Kn.pure fh2 rfl rfl .none (Kn.ex_assign fh2 .const) fun fa3 fh3 => ?_
  clear fh2 fa2
  refine wpList_nil ?_
  refine hK1 _ _ ?_
  clear hK1 K1
  replace fh3 := fh3.cut (.cons (t := 4) rfl (.cons (t := 3) rfl (.cons (t := 2) rfl .nil)))
  refine wp_seq_k fun K2 hK2 => ?_
  refine wp_seq_k fun K3 hK3 => ?_
  refine wp_region_lit ?_
  refine Kn.step fh3 rfl rfl .none (Kn.ex_fieldAddr fh3 (.tmp rfl)) fun Ko hKo => ?_
  go_simp
  try go_bits
  refine hKo _ _ fun fa4 fh4 => ?_
  clear hKo Ko fh3 fa3
  refine Kn.step fh4 rfl rfl .none (Kn.ex_load fh4 (.tmp rfl)) fun Ko hKo => ?_
  go_simp
  try go_bits
  refine hKo _ _ fun fa5 fh5 => ?_
  clear hKo Ko fh4 fa4
  refine Kn.step fh5 rfl rfl .none (Kn.ex_fieldAddr fh5 (.tmp rfl)) fun Ko hKo => ?_
  go_simp
  try go_bits
  refine hKo _ _ fun fa6 fh6 => ?_
  clear hKo Ko fh5 fa5
  refine Kn.step fh6 rfl rfl .none (Kn.ex_load fh6 (.tmp rfl)) fun Ko hKo => ?_
  go_simp
  try go_bits
  refine hKo _ _ fun fa7 fh7 => ?_
  clear hKo Ko fh6 fa6
  refine Kn.step fh7 rfl rfl .none (Kn.ex_bin fh7 (.tmp rfl) (.tmp rfl)) fun Ko hKo => ?_
  go_simp
  try go_bits
  refine hKo _ _ fun fa8 fh8 => ?_
  clear hKo Ko fh7 fa7
  refine wpList_nil ?_
  refine hK3 _ _ ?_
  clear hK3 K3
  replace fh8 := fh8.cut (.cons (t := 9) rfl (.cons (t := 4) rfl (.cons (t := 3) rfl (.cons (t := 2) rfl .nil))))
  refine Kn.yes fh8 (.tmp rfl) ?_
  replace fh8 := fh8.cut (.cons (t := 4) rfl (.cons (t := 3) rfl (.cons (t := 2) rfl .nil)))
  refine wp_seq_k fun K4 hK4 => ?_
  refine wp_region_lit ?_
  refine Kn.step fh8 rfl rfl .none (Kn.ex_fieldAddr fh8 (.tmp rfl)) fun Ko hKo => ?_
  go_simp
  try go_bits
  refine hKo _ _ fun fa9 fh9 => ?_
  clear hKo Ko fh8 fa8
  refine Kn.step fh9 rfl rfl .none (Kn.ex_load fh9 (.tmp rfl)) fun Ko hKo => ?_
  go_simp
  try go_bits
  refine hKo _ _ fun fa10 fh10 => ?_
  clear hKo Ko fh9 fa9
  refine Kn.step fh10 rfl rfl .none (Kn.ex_fieldAddr fh10 (.tmp rfl)) fun Ko hKo => ?_
  go_simp
  try go_bits
  refine hKo _ _ fun fa11 fh11 => ?_
  clear hKo Ko fh10 fa10
  refine Kn.step fh11 rfl rfl .none (Kn.ex_load fh11 (.tmp rfl)) fun Ko hKo => ?_
  go_simp
  try go_bits
  refine hKo _ _ fun fa12 fh12 => ?_
  clear hKo Ko fh11 fa11
  refine Kn.call fh12 rfl rfl .none (Kn.ex_call fh12 (.cons (.tmp rfl) (.cons (.tmp rfl) .nil))) Tryd.call49 (cmp_any _ _ _) fun e w1 hp => ?_
  obtain ⟨rfl, rfl⟩ := hp
  refine ⟨_, rfl, fun fa13 fh13 => ?_⟩
  clear fh12 fa12
  refine Kn.pure fh13 rfl rfl .none (Kn.ex_assign fh13 (.tmp rfl)) fun fa14 fh14 => ?_
  clear fh13 fa13
  refine wpList_nil ?_
  refine hK4 _ _ ?_
  clear hK4 K4
  replace fh14 := fh14.cut (.cons (t := 4) rfl (.cons (t := 3) rfl (.cons (t := 2) rfl .nil)))
  refine wp_ret ?_
  refine Kn.then_ret ?_
  exact Kn.ret1 fh14 rfl rfl ⟨rfl, 0, _, by rw [alloc_eq_grow, alloc_eq_grow, grow_grow]; rfl⟩

set_option maxRecDepth 100000 in
set_option maxHeartbeats 2000000 in
theorem compare_b (a b c d : Int) (w : World) (h : (a != c) = false) :
    Calls Tryd.prog 37 #[.agg #[.int .i64 a, .int .i64 b], .agg #[.int .i64 c, .int .i64 d]] w fun e w' => e = .returned (.int .i64 (Lib.compareInt b d)) ∧ ∃ q os', w' = grow (w.drewN q) os' := by
  refine Kn.calls Tryd.func37 rfl Tryd.ntmps37 rfl (.cons (t := 0) rfl (.cons (t := 1) rfl .nil)) fun fa0 fh0 => ?_
  refine wp_seq_k fun K1 hK1 => ?_
  refine wp_region_lit ?_
  refine Kn.step fh0 rfl rfl .none (Kn.ex_box fh0 (.tmp rfl)) fun Ko hKo => ?_
  go_simp
  try go_bits
  refine hKo _ _ fun fa1 fh1 => ?_
  clear hKo Ko fh0 fa0
  refine Kn.step fh1 rfl rfl .none (Kn.ex_box fh1 (.tmp rfl)) fun Ko hKo => ?_
  go_simp
  try go_bits
  refine hKo _ _ fun fa2 fh2 => ?_
  clear hKo Ko fh1 fa1
  refine Kn.pure fh2 rfl rfl .none (Kn.ex_assign fh2 .const) fun fa3 fh3 => ?_
  clear fh2 fa2
  refine wpList_nil ?_
  refine hK1 _ _ ?_
  clear hK1 K1
  replace fh3 := fh3.cut (.cons (t := 4) rfl (.cons (t := 3) rfl (.cons (t := 2) rfl .nil)))
  refine wp_seq_k fun K2 hK2 => ?_
  refine wp_seq_k fun K3 hK3 => ?_
  refine wp_region_lit ?_
  refine Kn.step fh3 rfl rfl .none (Kn.ex_fieldAddr fh3 (.tmp rfl)) fun Ko hKo => ?_
  go_simp
  try go_bits
  refine hKo _ _ fun fa4 fh4 => ?_
  clear hKo Ko fh3 fa3
  refine Kn.step fh4 rfl rfl .none (Kn.ex_load fh4 (.tmp rfl)) fun Ko hKo => ?_
  go_simp
  try go_bits
  refine hKo _ _ fun fa5 fh5 => ?_
  clear hKo Ko fh4 fa4
  refine Kn.step fh5 rfl rfl .none (Kn.ex_fieldAddr fh5 (.tmp rfl)) fun Ko hKo => ?_
  go_simp
  try go_bits
  refine hKo _ _ fun fa6 fh6 => ?_
  clear hKo Ko fh5 fa5
  refine Kn.step fh6 rfl rfl .none (Kn.ex_load fh6 (.tmp rfl)) fun Ko hKo => ?_
  go_simp
  try go_bits
  refine hKo _ _ fun fa7 fh7 => ?_
  clear hKo Ko fh6 fa6
  refine Kn.step fh7 rfl rfl .none (Kn.ex_bin fh7 (.tmp rfl) (.tmp rfl)) fun Ko hKo => ?_
  go_simp
  try go_bits
  refine hKo _ _ fun fa8 fh8 => ?_
  clear hKo Ko fh7 fa7
  refine wpList_nil ?_
  refine hK3 _ _ ?_
  clear hK3 K3
  replace fh8 := fh8.cut (.cons (t := 9) rfl (.cons (t := 4) rfl (.cons (t := 3) rfl (.cons (t := 2) rfl .nil))))
  refine Kn.no fh8 (.tmp rfl) ?_
  refine wp_skip ?_
  refine hK2 _ _ ?_
  clear hK2 K2
  replace fh8 := fh8.cut (.cons (t := 4) rfl (.cons (t := 3) rfl (.cons (t := 2) rfl .nil)))
  refine wp_seq_k fun K4 hK4 => ?_
  refine wp_region_lit ?_
  refine Kn.step fh8 rfl rfl .none (Kn.ex_fieldAddr fh8 (.tmp rfl)) fun Ko hKo => ?_
  go_simp
  try go_bits
  refine hKo _ _ fun fa9 fh9 => ?_
  clear hKo Ko fh8 fa8
  refine Kn.step fh9 rfl rfl .none (Kn.ex_load fh9 (.tmp rfl)) fun Ko hKo => ?_
  go_simp
  try go_bits
  refine hKo _ _ fun fa10 fh10 => ?_
  clear hKo Ko fh9 fa9
  refine Kn.step fh10 rfl rfl .none (Kn.ex_fieldAddr fh10 (.tmp rfl)) fun Ko hKo => ?_
  go_simp
  try go_bits
  refine hKo _ _ fun fa11 fh11 => ?_
  clear hKo Ko fh10 fa10
  refine Kn.step fh11 rfl rfl .none (Kn.ex_load fh11 (.tmp rfl)) fun Ko hKo => ?_
  go_simp
  try go_bits
  refine hKo _ _ fun fa12 fh12 => ?_
  clear hKo Ko fh11 fa11
  refine Kn.call fh12 rfl rfl .none (Kn.ex_call fh12 (.cons (.tmp rfl) (.cons (.tmp rfl) .nil))) Tryd.call49 (cmp_any _ _ _) fun e w1 hp => ?_
  obtain ⟨rfl, rfl⟩ := hp
  refine ⟨_, rfl, fun fa13 fh13 => ?_⟩
  clear fh12 fa12
  refine Kn.pure fh13 rfl rfl .none (Kn.ex_assign fh13 (.tmp rfl)) fun fa14 fh14 => ?_
  clear fh13 fa13
  refine wpList_nil ?_
  refine hK4 _ _ ?_
  clear hK4 K4
  replace fh14 := fh14.cut (.cons (t := 4) rfl .nil)
  refine wp_ret ?_
  exact Kn.ret1 fh14 rfl rfl ⟨rfl, 0, _, by rw [alloc_eq_grow, alloc_eq_grow, grow_grow]; rfl⟩

theorem compare_any (x y : Int × Int) (w : World) : Calls Tryd.prog 37 #[.agg #[.int .i64 x.1, .int .i64 x.2], .agg #[.int .i64 y.1, .int .i64 y.2]] w fun e w' => e = .returned (.int .i64 (cmpI x y)) ∧ ∃ q os', w' = grow (w.drewN q) os' := by
  obtain ⟨a, b⟩ := x
  obtain ⟨c, d⟩ := y
  by_cases h : a = c
  · rw [show cmpI (a, b) (c, d) = Lib.compareInt b d by simp [cmpI, h]]; exact compare_b a b c d w (by simp [h])
  · rw [show cmpI (a, b) (c, d) = Lib.compareInt a c by simp [cmpI, h]]; exact compare_a a b c d w (by simp [h])
/-- An edge's two cells. -/
def encE (x : Int × Int) : List Value := [.int .i64 x.1, .int .i64 x.2]
theorem cmpLays (blk off size : Nat) (w : World) : CmpLays Tryd.prog 37 #[] encE 2 cmpI blk off size w := fun _ _ _ _ x y => compare_any x y _
theorem ltOf_cmp (x y : Int × Int) : ltOf cmpI x y = lessB x y := by
  unfold ltOf cmpI Lib.compareInt lessB
  by_cases h : x.1 = y.1
  · by_cases h1 : x.2 < y.2
    · simp [h, h1]
    · by_cases h2 : y.2 < x.2 <;> simp [h, h1, h2]
  · by_cases h1 : x.1 < y.1
    · simp [h, h1]
    · by_cases h2 : y.1 < x.1 <;> simp [h, h1, h2]
theorem swo : SWO (ltOf cmpI) where
  irrefl x := by rw [ltOf_cmp]; exact less_irr x
  trans x y z h1 h2 := by rw [ltOf_cmp] at *; exact less_trans h1 h2
  ntrans x y z h1 h2 := by
    rw [ltOf_cmp] at *
    cases h : lessB x z with
    | false => rfl
    | true =>
      have a1 : ¬ lessB x y = true := by simp [h1]
      have a2 : ¬ lessB y z = true := by simp [h2]
      rw [less_iff] at h a1 a2
      omega

noncomputable def eI : TypeInfo := (Tryd.prog.info? 51).get (by kernel_rfl)
set_option maxHeartbeats 2000000 in
set_option maxRecDepth 100000 in
/-- A copy of no edges. -/
theorem clone_zero (a : Addr) (c : Nat) (w : World) :
    Calls Tryd.prog 35 #[.slice (some a) 0 c] w fun e w' => ∃ A' n' c', e = .returned (.slice A' n' c') ∧ OwnE w' w.heap.size A' n' c' [] ∧ Below w.heap.size w w' := by
  have q22 : ∀ (w : World) (a : Option Addr) (n c n' c' : Nat), (binOp .eql 22 (.slice a n c) (.slice none n' c')).run Tryd.prog w = .ok (.bool a.isNone) w := fun w a n c n' c' => Lib.run_eql_slice_nil w _ _ a n c n' c' Tryd.underlying22
  go_enter Tryd.func35, Tryd.ntmps35
  go_wp2_with (at_builtin; refine wpList_append_own _ rfl _ _ 22 rfl w.heap.size 51 eI (.agg #[.int .i64 0, .int .i64 0]) 2 16 Tryd.underlying22 (by kernel_rfl) (by kernel_rfl) (by kernel_rfl) (by kernel_rfl) rfl (by decide) _ _ _ rfl (World.ownsRow_made w #[] 0 (Nat.le_refl _) (Nat.zero_le _) rfl) a 0 c [] rfl rfl (by intro j u hj; simp at hj) (by intro u hu; cases hu) (by unfold maxLen; omega) (by omega) (by simp) ?_)
  intro v' w1 hown hgrow hnil
  go_wp2
  go_ret
  have hown' : w1.ownsRow w.heap.size 51 2 v' 0 [] := by simpa using hown
  have hb : Below w.heap.size w w1 := ((Below.refl _ w).alloc (Nat.le_refl _) _).grown hgrow (by simp) (by intro k hk; simp [Value.ownBlock] at hk; omega)
  rcases hown'.2 with ⟨hv, _⟩ | ⟨g, cap, cur, hv, _⟩
  · subst hv; exact ⟨_, _, _, rfl, ⟨rfl, hown'⟩, hb⟩
  · subst hv; exact ⟨_, _, _, rfl, ⟨rfl, hown'⟩, hb⟩
theorem clone_any (A : Option Addr) (c : Nat) (xs : List (Int × Int)) (w : World) (hx : xs.length ≤ 20000) (hA : EIn w A xs) :
    Calls Tryd.prog 35 #[.slice A xs.length c] w fun e w' => ∃ A' n' c', e = .returned (.slice A' n' c') ∧ OwnE w' w.heap.size A' n' c' xs ∧ Below w.heap.size w w' := by
  cases A with
  | none =>
    have h0 : xs = [] := by
      cases xs with
      | nil => rfl
      | cons x xs => obtain ⟨b, o, e, _⟩ := hA 0 (by simp); cases e
    subst h0
    exact (AnyE.slices_Clone_nil Tryd.layClone 0 c w).mono fun e w' ⟨he, hw⟩ => ⟨none, 0, 0, he, by subst hw; exact OwnE.none _ _, by subst hw; exact Below.refl _ _⟩
  | some a =>
    rcases Nat.eq_zero_or_pos xs.length with h0 | h0
    · obtain rfl : xs = [] := List.eq_nil_of_length_eq_zero h0
      exact clone_zero a c w
    · obtain ⟨b, o, e, _⟩ := hA 0 h0
      cases e
      refine (AnyE.slices_Clone Tryd.layClone eI (.agg #[.int .i64 0, .int .i64 0]) 2 16 (by kernel_rfl) (by kernel_rfl) (by kernel_rfl) (by kernel_rfl) rfl (by decide) Tryd.sizeOf51 b o xs.length c (eC xs) w (eC_len xs) (by unfold maxLen; omega) (by omega) (fun j u hu => by have := hA.news j u hu; rwa [addr_add] at this) (eC_one xs)).mono fun e w' hp => ?_
      obtain ⟨v', he, ho, _, hb⟩ := hp
      obtain ⟨g, cap, hv, _, _⟩ := ho.form h0
      subst hv
      exact ⟨_, _, _, he, ⟨rfl, ho⟩, hb⟩

theorem eq_run (p q : Int × Int) (w : World) : (Op.equalIn 10000 51 (eV p) (eV q)).run Tryd.prog w = .ok (decide (p = q)) w := by
  have u3 := Tryd.underlying3
  have a3 := Tryd.isAgg3
  have z3 := Tryd.sizeOf3
  have hS : Tryd.prog.underlying 51 = some (.struct (Tryd.prog.fieldsOf 51)) := by kernel_rfl
  have hp : Tryd.prog.stoodInHeld 51 = false := by kernel_rfl
  obtain ⟨a, b⟩ := p
  obtain ⟨c, d⟩ := q
  simp only [eV]
  rw [show (10000 : Nat) = 9999 + 1 from rfl, run_equalIn_agg w 9999 51 _ _ hS hp]
  simp only [Program.fieldsOf, Tryd.underlying51]
  go_simp
  by_cases h1 : a = c <;> by_cases h2 : b = d <;> simp [h1, h2]
theorem guardE (op : BinOp) (x y : Operand) (p q : Int × Int) (w : World) : (eqGuard op 51 x y (eV p) (eV q)).run Tryd.prog w = .ok () w := run_eqGuard_agg w op _ x y _ _ (by kernel_rfl)
theorem run_bind_ok {P : Program} {α β : Type} {s : Sem α} {f : α → Sem β} {w w' : World} {a : α} (h : s.run P w = .ok a w') : (s >>= f).run P w = (f a).run P w' := by rw [Sem.run_bind, h]; rfl
theorem eqlE (x y : Operand) (a b c d : Int) (w : World) : (do eqGuard .eql 51 x y (.agg #[.int .i64 a, .int .i64 b]) (.agg #[.int .i64 c, .int .i64 d]); binOp .eql 51 (.agg #[.int .i64 a, .int .i64 b]) (.agg #[.int .i64 c, .int .i64 d]) : Sem Value).run Tryd.prog w = .ok (.bool (decide ((a, b) = (c, d)))) w := by
  have h1 := guardE .eql x y (a, b) (c, d) w
  have h2 := eq_run (a, b) (c, d) w
  simp only [eV] at h1 h2
  refine (run_bind_ok h1).trans ?_
  rw [run_eql_struct, h2]
  rfl
theorem neqE (x y : Operand) (a b c d : Int) (w : World) : (do eqGuard .neq 51 x y (.agg #[.int .i64 a, .int .i64 b]) (.agg #[.int .i64 c, .int .i64 d]); binOp .neq 51 (.agg #[.int .i64 a, .int .i64 b]) (.agg #[.int .i64 c, .int .i64 d]) : Sem Value).run Tryd.prog w = .ok (.bool (!decide ((a, b) = (c, d)))) w := by
  have h1 := guardE .neq x y (a, b) (c, d) w
  have h2 := eq_run (a, b) (c, d) w
  simp only [eV] at h1 h2
  refine (run_bind_ok h1).trans ?_
  rw [run_neq_struct, h2]
  rfl

end Go.Proofs.YtinjecaanjeapaaDoor.Edg
