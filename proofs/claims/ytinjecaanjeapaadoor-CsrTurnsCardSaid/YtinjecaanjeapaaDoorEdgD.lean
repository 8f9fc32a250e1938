/- Contracts of the program's edges: Turned (written by gen_edgd.py). -/
import Derived.Test.YtinjecaanjeapaaDoorRowE
import Derived.Laws.OwnMore
namespace Go.Proofs.YtinjecaanjeapaaDoor.Edg
open Go Go.RowKit Go.Lib

theorem eC_rep (n : Nat) : eC (List.replicate n (0, 0)) = List.replicate (n * 2) (.int .i64 0) := by
  induction n with
  | zero => rfl
  | succ n ih => rw [List.replicate_succ, eC, ih, show (n + 1) * 2 = n * 2 + 1 + 1 by omega, List.replicate_succ, List.replicate_succ]
theorem made_rep (n : Nat) : (madeCells (Value.agg #[.int .i64 0, .int .i64 0]).cells (n * 2)).toList = eC (List.replicate n (0, 0)) := by
  rw [eC_rep]
  apply List.ext_getElem
  · simp [madeCells]
  · intro i h1 h2
    simp only [madeCells, Value.cells]
    rcases Nat.mod_two_eq_zero_or_one i with h | h <;> simp [h]
/-- The first k edges, turned; noughts behind them. -/
def tk (xs : List (Int × Int)) (k : Nat) : List (Int × Int) := turn (xs.take k) ++ List.replicate (xs.length - k) (0, 0)
theorem tk_len (xs : List (Int × Int)) (k : Nat) (h : k ≤ xs.length) : (tk xs k).length = xs.length := by simp [tk, turn]; omega
theorem tk_0 (xs : List (Int × Int)) : tk xs 0 = List.replicate xs.length (0, 0) := by simp [tk, turn]
theorem tk_end (xs : List (Int × Int)) : tk xs xs.length = turn xs := by simp [tk]
theorem tk_set (xs : List (Int × Int)) (k : Nat) (h : k < xs.length) : (tk xs k).set k ((ed xs k).2, (ed xs k).1) = tk xs (k + 1) := by
  unfold tk
  rw [take_ed xs k h, show xs.length - k = (xs.length - (k + 1)) + 1 by omega, List.replicate_succ]
  have hl : (turn (xs.take k)).length = k := by simp [turn]; omega
  rw [List.set_append_right k _ (by omega), hl, Nat.sub_self, List.set_cons_zero]
  simp [turn]
/-- A slice of so many edges, all nought. -/
theorem makeE (w : World) (n : Nat) (hn : n ≤ 100000) :
    ∃ w', (Instr.makeSlice 22 (.int .i64 (n : Int)) (.int .i64 (n : Int))).run Tryd.prog w = .ok (.slice (some ⟨w.heap.size, 0, none⟩) n n) w' ∧ OwnE w' w.heap.size (some ⟨w.heap.size, 0, none⟩) n n (List.replicate n (0, 0)) ∧ Below w.heap.size w w' := by
  have hb : eI.bytes = 16 := by kernel_rfl
  obtain ⟨w', h1, h2, h3⟩ := run_makeSlice_full (P := Tryd.prog) (w := w) w.heap.size 22 51 eI (.agg #[.int .i64 0, .int .i64 0]) 2 Tryd.underlying22 (by kernel_rfl) (by kernel_rfl) (by kernel_rfl) .i64 .i64 n (by omega) (by rw [hb]; omega) (by unfold maxLen; omega) (Nat.le_refl _)
  rw [made_rep] at h2
  exact ⟨w', h1, ⟨by simp, h2⟩, (Below.refl _ w).grown h3 (Nat.le_refl _) (by intro k hk; cases hk)⟩


set_option maxRecDepth 100000 in
set_option maxHeartbeats 2000000 in
theorem turned_any (A : Option Addr) (ca : Nat) (xs : List (Int × Int)) (w : World) (hx : xs.length ≤ 20000) (hA : EIn w A xs) :
    Calls Tryd.prog 32 #[.slice A xs.length ca] w fun e w' => ∃ g, e = .returned (.slice (some ⟨g, 0, none⟩) xs.length xs.length) ∧ w.heap.size ≤ g ∧ HoldE w' g (turn xs) ∧ Below w.heap.size w w' := by
  have HA := Lib.hid hA
  clear hA
  refine Kn.calls Tryd.func32 rfl Tryd.ntmps32 rfl (.cons (t := 0) rfl .nil) fun fa0 fh0 => ?_
  refine wp_seq_k fun K1 hK1 => ?_
  refine wp_region_lit ?_
  refine Kn.pure fh0 rfl rfl .none (Kn.ex_assign fh0 .const) fun fa1 fh1 => ?_
  clear fh0 fa0
  refine wpList_nil ?_
  refine hK1 _ _ ?_
  clear hK1 K1
  obtain ⟨w1, hr, HO, hb1⟩ := makeE w xs.length (by omega)
  refine wp_seq_k fun K2 hK2 => ?_
  refine wp_region_lit ?_
  refine Kn.pure fh1 rfl rfl .none (Kn.ex_move fh1 (.tmp rfl)) fun fa2 fh2 => ?_
  clear fh1 fa1
  refine Kn.step fh2 rfl rfl .none (Kn.ex_len fh2 (.tmp rfl)) fun Ko hKo => ?_
  go_simp
  try go_bits
  refine hKo _ _ fun fa3 fh3 => ?_
  clear hKo Ko fh2 fa2
  refine Kn.known fh3 rfl rfl .none (Kn.ex_makeSlice fh3 (.tmp rfl) (.tmp rfl)) hr fun fa4 fh4 => ?_
  clear fh3 fa3
  refine Kn.pure fh4 rfl rfl .none (Kn.ex_assign fh4 (.tmp rfl)) fun fa5 fh5 => ?_
  clear fh4 fa4
  refine wpList_nil ?_
  refine hK2 _ _ ?_
  clear hK2 K2
  replace fh5 := fh5.cut (.cons (t := 3) rfl (.cons (t := 2) rfl (.cons (t := 0) rfl .nil)))
  have HB1 := Lib.hid hb1
  have HH1 := Lib.hid (hold_of_own HO)
  clear hr HO hb1
  refine wp_seq_k fun K3 hK3 => ?_
  refine wp_seq_k fun K4 hK4 => ?_
  refine wp_region_lit ?_
  refine Kn.pure fh5 rfl rfl .none (Kn.ex_move fh5 (.tmp rfl)) fun fa6 fh6 => ?_
  clear fh5 fa5
  refine Kn.step fh6 rfl rfl .none (Kn.ex_len fh6 (.tmp rfl)) fun Ko hKo => ?_
  go_simp
  try go_bits
  refine hKo _ _ fun fa7 fh7 => ?_
  clear hKo Ko fh6 fa6
  refine Kn.pure fh7 rfl rfl .none (Kn.ex_move fh7 .const) fun fa8 fh8 => ?_
  clear fh7 fa7
  refine wpList_nil ?_
  refine hK4 _ _ ?_
  clear hK4 K4
  replace fh8 := fh8.cut (.cons (t := 11) rfl (.cons (t := 10) rfl (.cons (t := 9) rfl (.cons (t := 3) rfl (.cons (t := 2) rfl .nil)))))
  refine wp_block ?_
  refine Kn.loop (fun m fr u => ∃ (k : Nat), Kn.Kn 26 [(11, .int .i64 (k : Int)), (3, .slice (some ⟨w.heap.size, 0, none⟩) xs.length xs.length), (9, .slice A xs.length ca), (10, .int .i64 (xs.length : Int))] fr ∧ k + m = xs.length ∧ Hid (Below w.heap.size w u) ∧ Hid (HoldE u w.heap.size (tk xs k))) xs.length ⟨0, fh8.cut (.cons (t := 11) rfl (.cons (t := 3) rfl (.cons (t := 9) rfl (.cons (t := 10) rfl .nil)))), by omega, HB1, Lib.hid (by rw [tk_0]; exact HH1.out)⟩ ?_
  clear fh8 fa8
  intro m5 fa9 u hI Kl5 hKl5
  obtain ⟨k, fh9, hk, HB, HH⟩ := hI
  by_cases hlt : k < xs.length
  · obtain ⟨ba, oa, rfl, -, ca1, ca2⟩ := (HA.out.on HB.out) k hlt
    obtain ⟨x1, hx1⟩ : ∃ x, (ed xs k).1 = x := ⟨_, rfl⟩
    obtain ⟨x2, hx2⟩ : ∃ x, (ed xs k).2 = x := ⟨_, rfl⟩
    rw [hx1] at ca1
    rw [hx2] at ca2
    have HX : Hid (ed xs k = (x1, x2)) := Lib.hid (by rw [← hx1, ← hx2])
    clear hx1 hx2
    refine wp_seq_k fun K6 hK6 => ?_
    refine wp_region_lit ?_
    refine Kn.step fh9 rfl rfl .none (Kn.ex_bin fh9 (.tmp rfl) (.tmp rfl)) fun Ko hKo => ?_
    go_simp
    try go_bits
    refine hKo _ _ fun fa10 fh10 => ?_
    clear hKo Ko fh9 fa9
    refine wpList_nil ?_
    refine hK6 _ _ ?_
    clear hK6 K6
    refine wp_seq_k fun K7 hK7 => ?_
    refine Kn.yes fh10 (.tmp rfl) ?_
    refine wp_skip ?_
    refine hK7 _ _ ?_
    clear hK7 K7
    replace fh10 := fh10.cut (.cons (t := 11) rfl (.cons (t := 3) rfl (.cons (t := 9) rfl (.cons (t := 10) rfl .nil))))
    refine wp_seq_k fun K8 hK8 => ?_
    refine wp_block ?_
    refine wp_seq_k fun K9 hK9 => ?_
    refine wp_region_lit ?_
    refine Kn.pure fh10 rfl rfl .none (Kn.ex_move fh10 (.tmp rfl)) fun fa11 fh11 => ?_
    clear fh10 fa10
    refine Kn.step fh11 rfl rfl .none (Kn.ex_indexAddr fh11 (.tmp rfl) (.tmp rfl)) fun Ko hKo => ?_
    go_simp
    try go_bits
    refine hKo _ _ fun fa12 fh12 => ?_
    clear hKo Ko fh11 fa11
    refine Kn.step fh12 rfl rfl .none (Kn.ex_load fh12 (.tmp rfl)) fun Ko hKo => ?_
    go_simp
    try go_bits
    refine hKo _ _ fun fa13 fh13 => ?_
    clear hKo Ko fh12 fa12
    refine Kn.step fh13 rfl rfl .none Kn.ex_alloc fun Ko hKo => ?_
    go_simp
    try go_bits
    refine hKo _ _ fun fa14 fh14 => ?_
    clear hKo Ko fh13 fa13
    refine Kn.pure fh14 rfl rfl .none (Kn.ex_assign fh14 (.tmp rfl)) fun fa15 fh15 => ?_
    clear fh14 fa14
    refine Kn.stepU fh15 rfl .none (Kn.ex_store fh15 (.tmp rfl) (.tmp rfl)) fun Ko hKo => ?_
    go_simp
    try go_bits
    refine hKo _ ?_
    clear hKo Ko
    refine wpList_nil ?_
    refine hK9 _ _ ?_
    clear hK9 K9
    replace fh15 := fh15.cut (.cons (t := 4) rfl (.cons (t := 5) rfl (.cons (t := 11) rfl (.cons (t := 3) rfl (.cons (t := 9) rfl (.cons (t := 10) rfl .nil))))))
    obtain ⟨u2, hst, hH2, hB2, -⟩ := (HH.out.on ((Below.refl _ u).alloc (Nat.le_refl _) (.cells #[.int .i64 x1, .int .i64 x2] 51))).store k (by rw [tk_len xs k (by omega)]; exact hlt) x2 x1
    have HH2 : Hid (HoldE u2 w.heap.size (tk xs (k + 1))) := Lib.hid (by rw [← tk_set xs k hlt, HX.out]; exact hH2)
    have HB2 : Hid (Below w.heap.size w u2) := Lib.hid ((HB.out.alloc HB.out.size _).trans (hB2 _ (Nat.le_refl _)))
    clear hH2 hB2
    refine wp_region_lit ?_
    refine Kn.pure fh15 rfl rfl .none (Kn.ex_move fh15 (.tmp rfl)) fun fa16 fh16 => ?_
    clear fh15 fa15
    refine Kn.pure fh16 rfl rfl .none (Kn.ex_move fh16 (.tmp rfl)) fun fa17 fh17 => ?_
    clear fh16 fa16
    refine Kn.step fh17 rfl rfl .none (Kn.ex_fieldAddr fh17 (.tmp rfl)) fun Ko hKo => ?_
    go_simp
    try go_bits
    refine hKo _ _ fun fa18 fh18 => ?_
    clear hKo Ko fh17 fa17
    refine Kn.step fh18 rfl rfl .none (Kn.ex_load fh18 (.tmp rfl)) fun Ko hKo => ?_
    go_simp
    try go_bits
    refine hKo _ _ fun fa19 fh19 => ?_
    clear hKo Ko fh18 fa18
    refine Kn.step fh19 rfl rfl .none (Kn.ex_fieldAddr fh19 (.tmp rfl)) fun Ko hKo => ?_
    go_simp
    try go_bits
    refine hKo _ _ fun fa20 fh20 => ?_
    clear hKo Ko fh19 fa19
    refine Kn.step fh20 rfl rfl .none (Kn.ex_load fh20 (.tmp rfl)) fun Ko hKo => ?_
    go_simp
    try go_bits
    refine hKo _ _ fun fa21 fh21 => ?_
    clear hKo Ko fh20 fa20
    refine Kn.step fh21 rfl rfl .none (Kn.ex_build fh21 (.cons (.tmp rfl) (.cons (.tmp rfl) .nil))) fun Ko hKo => ?_
    go_simp
    try go_bits
    refine hKo _ _ fun fa22 fh22 => ?_
    clear hKo Ko fh21 fa21
    refine Kn.step fh22 rfl rfl .none (Kn.ex_indexAddr fh22 (.tmp rfl) (.tmp rfl)) fun Ko hKo => ?_
    go_simp
    try go_bits
    refine hKo _ _ fun fa23 fh23 => ?_
    clear hKo Ko fh22 fa22
    refine Kn.stepU fh23 rfl .none (Kn.ex_store fh23 (.tmp rfl) (.tmp rfl)) fun Ko hKo => ?_
    rw [hst]
    refine hKo _ ?_
    clear hKo Ko
    refine wpList_nil ?_
    refine Kn.block_normal ?_
    refine hK8 _ _ ?_
    clear hK8 K8
    replace fh23 := fh23.cut (.cons (t := 11) rfl (.cons (t := 3) rfl (.cons (t := 9) rfl (.cons (t := 10) rfl .nil))))
    clear hst
    refine wp_region_lit ?_
    refine Kn.step fh23 rfl rfl .none (Kn.ex_bin fh23 (.tmp rfl) .const) fun Ko hKo => ?_
    go_simp
    try go_bits
    refine hKo _ _ fun fa24 fh24 => ?_
    clear hKo Ko fh23 fa23
    refine Kn.pure fh24 rfl rfl .none (Kn.ex_move fh24 (.tmp rfl)) fun fa25 fh25 => ?_
    clear fh24 fa24
    refine wpList_nil ?_
    replace fh25 := fh25.cut (.cons (t := 11) rfl (.cons (t := 3) rfl (.cons (t := 9) rfl (.cons (t := 10) rfl .nil))))
    exact hKl5 (m5 - 1) _ _ (by omega) ⟨k + 1, fh25.cut (.turn (t := 11) rfl (by go_num) (.cons (t := 3) rfl (.cons (t := 9) rfl (.cons (t := 10) rfl .nil)))), by omega, HB2, HH2⟩
  · obtain rfl : k = xs.length := by omega
    refine wp_seq_k fun K6 hK6 => ?_
    refine wp_region_lit ?_
    refine Kn.step fh9 rfl rfl .none (Kn.ex_bin fh9 (.tmp rfl) (.tmp rfl)) fun Ko hKo => ?_
    go_simp
    try go_bits
    refine hKo _ _ fun fa10 fh10 => ?_
    clear hKo Ko fh9 fa9
    refine wpList_nil ?_
    refine hK6 _ _ ?_
    clear hK6 K6
    refine wp_seq_k fun K7 hK7 => ?_
    refine Kn.no fh10 (.tmp rfl) ?_
    replace fh10 := fh10.cut (.cons (t := 11) rfl (.cons (t := 3) rfl (.cons (t := 9) rfl (.cons (t := 10) rfl .nil))))
    refine wp_exit ?_
    refine Kn.then_exit ?_
    clear hK7 K7
    refine Kn.then_exit ?_
    clear hKl5 Kl5
    refine Kn.block_exit ?_
    refine hK3 _ _ ?_
    clear hK3 K3
    replace fh10 := fh10.cut (.cons (t := 3) rfl .nil)
    refine wp_seq_k fun K8 hK8 => ?_
    refine wp_region_lit ?_
    refine Kn.pure fh10 rfl rfl .none (Kn.ex_move fh10 (.tmp rfl)) fun fa11 fh11 => ?_
    clear fh10 fa10
    refine Kn.pure fh11 rfl rfl .none (Kn.ex_assign fh11 (.tmp rfl)) fun fa12 fh12 => ?_
    clear fh11 fa11
    refine wpList_nil ?_
    refine hK8 _ _ ?_
    clear hK8 K8
    replace fh12 := fh12.cut (.cons (t := 2) rfl .nil)
    refine wp_ret ?_
    exact Kn.ret1 fh12 rfl rfl ⟨_, rfl, Nat.le_refl _, by have := HH.out; rwa [tk_end] at this, HB.out⟩

end Go.Proofs.YtinjecaanjeapaaDoor.Edg
