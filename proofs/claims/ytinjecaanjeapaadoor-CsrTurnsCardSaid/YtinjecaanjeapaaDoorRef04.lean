/- Contracts of the document's own answers of layer 4 (edges): less, Same, Wrong (written by gen_ref04.py). -/
import Derived.Test.YtinjecaanjeapaaDoorEdgeKit
namespace Go.Proofs.YtinjecaanjeapaaDoor.Edg
open Go Go.RowKit Go.Lib


set_option maxRecDepth 100000 in
set_option maxHeartbeats 2000000 in
theorem less_a (a b c d : Int) (w : World) (h : a < c) :
    Calls Tryd.prog 28 #[.agg #[.int .i64 a, .int .i64 b], .agg #[.int .i64 c, .int .i64 d]] w fun e w' => e = .returned (.bool true) ∧ Below w.heap.size w w' := by
  refine Kn.calls Tryd.func28 rfl Tryd.ntmps28 rfl (.cons (t := 0) rfl (.cons (t := 1) rfl .nil)) fun fa0 fh0 => ?_
  refine wp_seq_k fun K1 hK1 => ?_
  refine wp_region_lit ?_
  refine Kn.step fh0 rfl rfl .none (Kn.ex_box fh0 (.tmp rfl)) fun Ko hKo => ?_
  go_simp
  try go_bits
  refine hKo _ _ fun fa1 fh1 => ?_
  clear hKo Ko fh0 fa0
  refine Kn.step fh1 rfl rfl .none (Kn.ex_box fh1 (.tmp rfl)) fun Ko hKo => ?_
  go_simp
  try go_bits
  refine hKo _ _ fun fa2 fh2 => ?_
  clear hKo Ko fh1 fa1
  refine Kn.pure fh2 rfl rfl .none (Kn.ex_assign fh2 .const) fun fa3 fh3 => ?_
  clear fh2 fa2
  refine wpList_nil ?_
  refine hK1 _ _ ?_
  clear hK1 K1
  replace fh3 := fh3.cut (.cons (t := 4) rfl (.cons (t := 3) rfl (.cons (t := 2) rfl .nil)))
  refine wp_seq_k fun K2 hK2 => ?_
  refine wp_region_lit ?_
  refine Kn.step fh3 rfl rfl .none (Kn.ex_fieldAddr fh3 (.tmp rfl)) fun Ko hKo => ?_
  go_simp
  try go_bits
  refine hKo _ _ fun fa4 fh4 => ?_
  clear hKo Ko fh3 fa3
  refine Kn.step fh4 rfl rfl .none (Kn.ex_load fh4 (.tmp rfl)) fun Ko hKo => ?_
  go_simp
  try go_bits
  refine hKo _ _ fun fa5 fh5 => ?_
  clear hKo Ko fh4 fa4
  refine Kn.step fh5 rfl rfl .none (Kn.ex_fieldAddr fh5 (.tmp rfl)) fun Ko hKo => ?_
  go_simp
  try go_bits
  refine hKo _ _ fun fa6 fh6 => ?_
  clear hKo Ko fh5 fa5
  refine Kn.step fh6 rfl rfl .none (Kn.ex_load fh6 (.tmp rfl)) fun Ko hKo => ?_
  go_simp
  try go_bits
  refine hKo _ _ fun fa7 fh7 => ?_
  clear hKo Ko fh6 fa6
  refine Kn.step fh7 rfl rfl .none (Kn.ex_bin fh7 (.tmp rfl) (.tmp rfl)) fun Ko hKo => ?_
  go_simp
  try go_bits
  refine hKo _ _ fun fa8 fh8 => ?_
  clear hKo Ko fh7 fa7
  refine Kn.pure fh8 rfl rfl .none (Kn.ex_move fh8 (.tmp rfl)) fun fa9 fh9 => ?_
  clear fh8 fa8
  refine Kn.skip fh9 rfl rfl (.some rfl rfl rfl) fun fa10 fh10 => ?_
  clear fh9 fa9
  refine Kn.skip fh10 rfl rfl (.some rfl rfl rfl) fun fa11 fh11 => ?_
  clear fh10 fa10
  refine Kn.skip fh11 rfl rfl (.some rfl rfl rfl) fun fa12 fh12 => ?_
  clear fh11 fa11
  refine Kn.skip fh12 rfl rfl (.some rfl rfl rfl) fun fa13 fh13 => ?_
  clear fh12 fa12
  refine Kn.skip fh13 rfl rfl (.some rfl rfl rfl) fun fa14 fh14 => ?_
  clear fh13 fa13
  refine Kn.skip fh14 rfl rfl (.some rfl rfl rfl) fun fa15 fh15 => ?_
  clear fh14 fa14
  refine Kn.skip fh15 rfl rfl (.gone rfl rfl) fun fa16 fh16 => ?_
  clear fh15 fa15
  refine Kn.skip fh16 rfl rfl (.gone rfl rfl) fun fa17 fh17 => ?_
  clear fh16 fa16
  refine Kn.skip fh17 rfl rfl (.gone rfl rfl) fun fa18 fh18 => ?_
  clear fh17 fa17
  refine Kn.skip fh18 rfl rfl (.gone rfl rfl) fun fa19 fh19 => ?_
  clear fh18 fa18
  refine Kn.skip fh19 rfl rfl (.gone rfl rfl) fun fa20 fh20 => ?_
  clear fh19 fa19
  refine Kn.skip fh20 rfl rfl (.some rfl rfl rfl) fun fa21 fh21 => ?_
  clear fh20 fa20
  refine Kn.pure fh21 rfl rfl .none (Kn.ex_pick fh21 (.tmp rfl) .const) fun fa22 fh22 => ?_
  clear fh21 fa21
  refine Kn.pure fh22 rfl rfl .none (Kn.ex_assign fh22 (.tmp rfl)) fun fa23 fh23 => ?_
  clear fh22 fa22
  refine wpList_nil ?_
  refine hK2 _ _ ?_
  clear hK2 K2
  replace fh23 := fh23.cut (.cons (t := 4) rfl .nil)
  refine wp_ret ?_
  exact Kn.ret1 fh23 rfl rfl ⟨rfl, ((Below.refl _ _).alloc (Nat.le_refl _) _).alloc (by simp) _⟩

set_option maxRecDepth 100000 in
set_option maxHeartbeats 2000000 in
theorem less_b (a b c d : Int) (w : World) (h : ¬ a < c) (h2 : (a == c) = false) :
    Calls Tryd.prog 28 #[.agg #[.int .i64 a, .int .i64 b], .agg #[.int .i64 c, .int .i64 d]] w fun e w' => e = .returned (.bool false) ∧ Below w.heap.size w w' := by
  refine Kn.calls Tryd.func28 rfl Tryd.ntmps28 rfl (.cons (t := 0) rfl (.cons (t := 1) rfl .nil)) fun fa0 fh0 => ?_
  refine wp_seq_k fun K1 hK1 => ?_
  refine wp_region_lit ?_
  refine Kn.step fh0 rfl rfl .none (Kn.ex_box fh0 (.tmp rfl)) fun Ko hKo => ?_
  go_simp
  try go_bits
  refine hKo _ _ fun fa1 fh1 => ?_
  clear hKo Ko fh0 fa0
  refine Kn.step fh1 rfl rfl .none (Kn.ex_box fh1 (.tmp rfl)) fun Ko hKo => ?_
  go_simp
  try go_bits
  refine hKo _ _ fun fa2 fh2 => ?_
  clear hKo Ko fh1 fa1
  refine Kn.pure fh2 rfl rfl .none (Kn.ex_assign fh2 .const) fun fa3 fh3 => ?_
  clear fh2 fa2
  refine wpList_nil ?_
  refine hK1 _ _ ?_
  clear hK1 K1
  replace fh3 := fh3.cut (.cons (t := 4) rfl (.cons (t := 3) rfl (.cons (t := 2) rfl .nil)))
  refine wp_seq_k fun K2 hK2 => ?_
  refine wp_region_lit ?_
  refine Kn.step fh3 rfl rfl .none (Kn.ex_fieldAddr fh3 (.tmp rfl)) fun Ko hKo => ?_
  go_simp
  try go_bits
  refine hKo _ _ fun fa4 fh4 => ?_
  clear hKo Ko fh3 fa3
  refine Kn.step fh4 rfl rfl .none (Kn.ex_load fh4 (.tmp rfl)) fun Ko hKo => ?_
  go_simp
  try go_bits
  refine hKo _ _ fun fa5 fh5 => ?_
  clear hKo Ko fh4 fa4
  refine Kn.step fh5 rfl rfl .none (Kn.ex_fieldAddr fh5 (.tmp rfl)) fun Ko hKo => ?_
  go_simp
  try go_bits
  refine hKo _ _ fun fa6 fh6 => ?_
  clear hKo Ko fh5 fa5
  refine Kn.step fh6 rfl rfl .none (Kn.ex_load fh6 (.tmp rfl)) fun Ko hKo => ?_
  go_simp
  try go_bits
  refine hKo _ _ fun fa7 fh7 => ?_
  clear hKo Ko fh6 fa6
  refine Kn.step fh7 rfl rfl .none (Kn.ex_bin fh7 (.tmp rfl) (.tmp rfl)) fun Ko hKo => ?_
  go_simp
  try go_bits
  refine hKo _ _ fun fa8 fh8 => ?_
  clear hKo Ko fh7 fa7
  refine Kn.pure fh8 rfl rfl .none (Kn.ex_move fh8 (.tmp rfl)) fun fa9 fh9 => ?_
  clear fh8 fa8
  refine Kn.step fh9 rfl rfl (.some rfl rfl rfl) (Kn.ex_fieldAddr fh9 (.tmp rfl)) fun Ko hKo => ?_
  go_simp
  try go_bits
  refine hKo _ _ fun fa10 fh10 => ?_
  clear hKo Ko fh9 fa9
  refine Kn.step fh10 rfl rfl (.some rfl rfl rfl) (Kn.ex_load fh10 (.tmp rfl)) fun Ko hKo => ?_
  go_simp
  try go_bits
  refine hKo _ _ fun fa11 fh11 => ?_
  clear hKo Ko fh10 fa10
  refine Kn.step fh11 rfl rfl (.some rfl rfl rfl) (Kn.ex_fieldAddr fh11 (.tmp rfl)) fun Ko hKo => ?_
  go_simp
  try go_bits
  refine hKo _ _ fun fa12 fh12 => ?_
  clear hKo Ko fh11 fa11
  refine Kn.step fh12 rfl rfl (.some rfl rfl rfl) (Kn.ex_load fh12 (.tmp rfl)) fun Ko hKo => ?_
  go_simp
  try go_bits
  refine hKo _ _ fun fa13 fh13 => ?_
  clear hKo Ko fh12 fa12
  refine Kn.step fh13 rfl rfl (.some rfl rfl rfl) (Kn.ex_bin fh13 (.tmp rfl) (.tmp rfl)) fun Ko hKo => ?_
  go_simp
  try go_bits
  refine hKo _ _ fun fa14 fh14 => ?_
  clear hKo Ko fh13 fa13
  refine Kn.pure fh14 rfl rfl (.some rfl rfl rfl) (Kn.ex_move fh14 (.tmp rfl)) fun fa15 fh15 => ?_
  clear fh14 fa14
  refine Kn.skip fh15 rfl rfl (.some rfl rfl rfl) fun fa16 fh16 => ?_
  clear fh15 fa15
  refine Kn.skip fh16 rfl rfl (.some rfl rfl rfl) fun fa17 fh17 => ?_
  clear fh16 fa16
  refine Kn.skip fh17 rfl rfl (.some rfl rfl rfl) fun fa18 fh18 => ?_
  clear fh17 fa17
  refine Kn.skip fh18 rfl rfl (.some rfl rfl rfl) fun fa19 fh19 => ?_
  clear fh18 fa18
  refine Kn.skip fh19 rfl rfl (.some rfl rfl rfl) fun fa20 fh20 => ?_
  clear fh19 fa19
  refine Kn.pure fh20 rfl rfl (.some rfl rfl rfl) (Kn.ex_pick fh20 (.tmp rfl) .const) fun fa21 fh21 => ?_
  clear fh20 fa20
  refine Kn.pure fh21 rfl rfl .none (Kn.ex_pick fh21 (.tmp rfl) (.tmp rfl)) fun fa22 fh22 => ?_
  clear fh21 fa21
  refine Kn.pure fh22 rfl rfl .none (Kn.ex_assign fh22 (.tmp rfl)) fun fa23 fh23 => ?_
  clear fh22 fa22
  refine wpList_nil ?_
  refine hK2 _ _ ?_
  clear hK2 K2
  replace fh23 := fh23.cut (.cons (t := 4) rfl .nil)
  refine wp_ret ?_
  exact Kn.ret1 fh23 rfl rfl ⟨rfl, ((Below.refl _ _).alloc (Nat.le_refl _) _).alloc (by simp) _⟩

set_option maxRecDepth 100000 in
set_option maxHeartbeats 2000000 in
theorem less_c (a b c d : Int) (w : World) (h : ¬ a < c) (h2 : (a == c) = true) (h3 : b < d) :
    Calls Tryd.prog 28 #[.agg #[.int .i64 a, .int .i64 b], .agg #[.int .i64 c, .int .i64 d]] w fun e w' => e = .returned (.bool true) ∧ Below w.heap.size w w' := by
  refine Kn.calls Tryd.func28 rfl Tryd.ntmps28 rfl (.cons (t := 0) rfl (.cons (t := 1) rfl .nil)) fun fa0 fh0 => ?_
  refine wp_seq_k fun K1 hK1 => ?_
  refine wp_region_lit ?_
  refine Kn.step fh0 rfl rfl .none (Kn.ex_box fh0 (.tmp rfl)) fun Ko hKo => ?_
  go_simp
  try go_bits
  refine hKo _ _ fun fa1 fh1 => ?_
  clear hKo Ko fh0 fa0
  refine Kn.step fh1 rfl rfl .none (Kn.ex_box fh1 (.tmp rfl)) fun Ko hKo => ?_
  go_simp
  try go_bits
  refine hKo _ _ fun fa2 fh2 => ?_
  clear hKo Ko fh1 fa1
  refine Kn.pure fh2 rfl rfl .none (Kn.ex_assign fh2 .const) fun fa3 fh3 => ?_
  clear fh2 fa2
  refine wpList_nil ?_
  refine hK1 _ _ ?_
  clear hK1 K1
  replace fh3 := fh3.cut (.cons (t := 4) rfl (.cons (t := 3) rfl (.cons (t := 2) rfl .nil)))
  refine wp_seq_k fun K2 hK2 => ?_
  refine wp_region_lit ?_
  refine Kn.step fh3 rfl rfl .none (Kn.ex_fieldAddr fh3 (.tmp rfl)) fun Ko hKo => ?_
  go_simp
  try go_bits
  refine hKo _ _ fun fa4 fh4 => ?_
  clear hKo Ko fh3 fa3
  refine Kn.step fh4 rfl rfl .none (Kn.ex_load fh4 (.tmp rfl)) fun Ko hKo => ?_
  go_simp
  try go_bits
  refine hKo _ _ fun fa5 fh5 => ?_
  clear hKo Ko fh4 fa4
  refine Kn.step fh5 rfl rfl .none (Kn.ex_fieldAddr fh5 (.tmp rfl)) fun Ko hKo => ?_
  go_simp
  try go_bits
  refine hKo _ _ fun fa6 fh6 => ?_
  clear hKo Ko fh5 fa5
  refine Kn.step fh6 rfl rfl .none (Kn.ex_load fh6 (.tmp rfl)) fun Ko hKo => ?_
  go_simp
  try go_bits
  refine hKo _ _ fun fa7 fh7 => ?_
  clear hKo Ko fh6 fa6
  refine Kn.step fh7 rfl rfl .none (Kn.ex_bin fh7 (.tmp rfl) (.tmp rfl)) fun Ko hKo => ?_
  go_simp
  try go_bits
  refine hKo _ _ fun fa8 fh8 => ?_
  clear hKo Ko fh7 fa7
  refine Kn.pure fh8 rfl rfl .none (Kn.ex_move fh8 (.tmp rfl)) fun fa9 fh9 => ?_
  clear fh8 fa8
  refine Kn.step fh9 rfl rfl (.some rfl rfl rfl) (Kn.ex_fieldAddr fh9 (.tmp rfl)) fun Ko hKo => ?_
  go_simp
  try go_bits
  refine hKo _ _ fun fa10 fh10 => ?_
  clear hKo Ko fh9 fa9
  refine Kn.step fh10 rfl rfl (.some rfl rfl rfl) (Kn.ex_load fh10 (.tmp rfl)) fun Ko hKo => ?_
  go_simp
  try go_bits
  refine hKo _ _ fun fa11 fh11 => ?_
  clear hKo Ko fh10 fa10
  refine Kn.step fh11 rfl rfl (.some rfl rfl rfl) (Kn.ex_fieldAddr fh11 (.tmp rfl)) fun Ko hKo => ?_
  go_simp
  try go_bits
  refine hKo _ _ fun fa12 fh12 => ?_
  clear hKo Ko fh11 fa11
  refine Kn.step fh12 rfl rfl (.some rfl rfl rfl) (Kn.ex_load fh12 (.tmp rfl)) fun Ko hKo => ?_
  go_simp
  try go_bits
  refine hKo _ _ fun fa13 fh13 => ?_
  clear hKo Ko fh12 fa12
  refine Kn.step fh13 rfl rfl (.some rfl rfl rfl) (Kn.ex_bin fh13 (.tmp rfl) (.tmp rfl)) fun Ko hKo => ?_
  go_simp
  try go_bits
  refine hKo _ _ fun fa14 fh14 => ?_
  clear hKo Ko fh13 fa13
  refine Kn.pure fh14 rfl rfl (.some rfl rfl rfl) (Kn.ex_move fh14 (.tmp rfl)) fun fa15 fh15 => ?_
  clear fh14 fa14
  refine Kn.step fh15 rfl rfl (.some rfl rfl rfl) (Kn.ex_fieldAddr fh15 (.tmp rfl)) fun Ko hKo => ?_
  go_simp
  try go_bits
  refine hKo _ _ fun fa16 fh16 => ?_
  clear hKo Ko fh15 fa15
  refine Kn.step fh16 rfl rfl (.some rfl rfl rfl) (Kn.ex_load fh16 (.tmp rfl)) fun Ko hKo => ?_
  go_simp
  try go_bits
  refine hKo _ _ fun fa17 fh17 => ?_
  clear hKo Ko fh16 fa16
  refine Kn.step fh17 rfl rfl (.some rfl rfl rfl) (Kn.ex_fieldAddr fh17 (.tmp rfl)) fun Ko hKo => ?_
  go_simp
  try go_bits
  refine hKo _ _ fun fa18 fh18 => ?_
  clear hKo Ko fh17 fa17
  refine Kn.step fh18 rfl rfl (.some rfl rfl rfl) (Kn.ex_load fh18 (.tmp rfl)) fun Ko hKo => ?_
  go_simp
  try go_bits
  refine hKo _ _ fun fa19 fh19 => ?_
  clear hKo Ko fh18 fa18
  refine Kn.step fh19 rfl rfl (.some rfl rfl rfl) (Kn.ex_bin fh19 (.tmp rfl) (.tmp rfl)) fun Ko hKo => ?_
  go_simp
  try go_bits
  refine hKo _ _ fun fa20 fh20 => ?_
  clear hKo Ko fh19 fa19
  refine Kn.pure fh20 rfl rfl (.some rfl rfl rfl) (Kn.ex_pick fh20 (.tmp rfl) (.tmp rfl)) fun fa21 fh21 => ?_
  clear fh20 fa20
  refine Kn.pure fh21 rfl rfl .none (Kn.ex_pick fh21 (.tmp rfl) (.tmp rfl)) fun fa22 fh22 => ?_
  clear fh21 fa21
  refine Kn.pure fh22 rfl rfl .none (Kn.ex_assign fh22 (.tmp rfl)) fun fa23 fh23 => ?_
  clear fh22 fa22
  refine wpList_nil ?_
  refine hK2 _ _ ?_
  clear hK2 K2
  replace fh23 := fh23.cut (.cons (t := 4) rfl .nil)
  refine wp_ret ?_
  exact Kn.ret1 fh23 rfl rfl ⟨rfl, ((Below.refl _ _).alloc (Nat.le_refl _) _).alloc (by simp) _⟩

set_option maxRecDepth 100000 in
set_option maxHeartbeats 2000000 in
theorem less_d (a b c d : Int) (w : World) (h : ¬ a < c) (h2 : (a == c) = true) (h3 : ¬ b < d) :
    Calls Tryd.prog 28 #[.agg #[.int .i64 a, .int .i64 b], .agg #[.int .i64 c, .int .i64 d]] w fun e w' => e = .returned (.bool false) ∧ Below w.heap.size w w' := by
  refine Kn.calls Tryd.func28 rfl Tryd.ntmps28 rfl (.cons (t := 0) rfl (.cons (t := 1) rfl .nil)) fun fa0 fh0 => ?_
  refine wp_seq_k fun K1 hK1 => ?_
  refine wp_region_lit ?_
  refine Kn.step fh0 rfl rfl .none (Kn.ex_box fh0 (.tmp rfl)) fun Ko hKo => ?_
  go_simp
  try go_bits
  refine hKo _ _ fun fa1 fh1 => ?_
  clear hKo Ko fh0 fa0
  refine Kn.step fh1 rfl rfl .none (Kn.ex_box fh1 (.tmp rfl)) fun Ko hKo => ?_
  go_simp
  try go_bits
  refine hKo _ _ fun fa2 fh2 => ?_
  clear hKo Ko fh1 fa1
  refine Kn.pure fh2 rfl rfl .none (Kn.ex_assign fh2 .const) fun fa3 fh3 => ?_
  clear fh2 fa2
  refine wpList_nil ?_
  refine hK1 _ _ ?_
  clear hK1 K1
  replace fh3 := fh3.cut (.cons (t := 4) rfl (.cons (t := 3) rfl (.cons (t := 2) rfl .nil)))
  refine wp_seq_k fun K2 hK2 => ?_
  refine wp_region_lit ?_
  refine Kn.step fh3 rfl rfl .none (Kn.ex_fieldAddr fh3 (.tmp rfl)) fun Ko hKo => ?_
  go_simp
  try go_bits
  refine hKo _ _ fun fa4 fh4 => ?_
  clear hKo Ko fh3 fa3
  refine Kn.step fh4 rfl rfl .none (Kn.ex_load fh4 (.tmp rfl)) fun Ko hKo => ?_
  go_simp
  try go_bits
  refine hKo _ _ fun fa5 fh5 => ?_
  clear hKo Ko fh4 fa4
  refine Kn.step fh5 rfl rfl .none (Kn.ex_fieldAddr fh5 (.tmp rfl)) fun Ko hKo => ?_
  go_simp
  try go_bits
  refine hKo _ _ fun fa6 fh6 => ?_
  clear hKo Ko fh5 fa5
  refine Kn.step fh6 rfl rfl .none (Kn.ex_load fh6 (.tmp rfl)) fun Ko hKo => ?_
  go_simp
  try go_bits
  refine hKo _ _ fun fa7 fh7 => ?_
  clear hKo Ko fh6 fa6
  refine Kn.step fh7 rfl rfl .none (Kn.ex_bin fh7 (.tmp rfl) (.tmp rfl)) fun Ko hKo => ?_
  go_simp
  try go_bits
  refine hKo _ _ fun fa8 fh8 => ?_
  clear hKo Ko fh7 fa7
  refine Kn.pure fh8 rfl rfl .none (Kn.ex_move fh8 (.tmp rfl)) fun fa9 fh9 => ?_
  clear fh8 fa8
  refine Kn.step fh9 rfl rfl (.some rfl rfl rfl) (Kn.ex_fieldAddr fh9 (.tmp rfl)) fun Ko hKo => ?_
  go_simp
  try go_bits
  refine hKo _ _ fun fa10 fh10 => ?_
  clear hKo Ko fh9 fa9
  refine Kn.step fh10 rfl rfl (.some rfl rfl rfl) (Kn.ex_load fh10 (.tmp rfl)) fun Ko hKo => ?_
  go_simp
  try go_bits
  refine hKo _ _ fun fa11 fh11 => ?_
  clear hKo Ko fh10 fa10
  refine Kn.step fh11 rfl rfl (.some rfl rfl rfl) (Kn.ex_fieldAddr fh11 (.tmp rfl)) fun Ko hKo => ?_
  go_simp
  try go_bits
  refine hKo _ _ fun fa12 fh12 => ?_
  clear hKo Ko fh11 fa11
  refine Kn.step fh12 rfl rfl (.some rfl rfl rfl) (Kn.ex_load fh12 (.tmp rfl)) fun Ko hKo => ?_
  go_simp
  try go_bits
  refine hKo _ _ fun fa13 fh13 => ?_
  clear hKo Ko fh12 fa12
  refine Kn.step fh13 rfl rfl (.some rfl rfl rfl) (Kn.ex_bin fh13 (.tmp rfl) (.tmp rfl)) fun Ko hKo => ?_
  go_simp
  try go_bits
  refine hKo _ _ fun fa14 fh14 => ?_
  clear hKo Ko fh13 fa13
  refine Kn.pure fh14 rfl rfl (.some rfl rfl rfl) (Kn.ex_move fh14 (.tmp rfl)) fun fa15 fh15 => ?_
  clear fh14 fa14
  refine Kn.step fh15 rfl rfl (.some rfl rfl rfl) (Kn.ex_fieldAddr fh15 (.tmp rfl)) fun Ko hKo => ?_
  go_simp
  try go_bits
  refine hKo _ _ fun fa16 fh16 => ?_
  clear hKo Ko fh15 fa15
  refine Kn.step fh16 rfl rfl (.some rfl rfl rfl) (Kn.ex_load fh16 (.tmp rfl)) fun Ko hKo => ?_
  go_simp
  try go_bits
  refine hKo _ _ fun fa17 fh17 => ?_
  clear hKo Ko fh16 fa16
  refine Kn.step fh17 rfl rfl (.some rfl rfl rfl) (Kn.ex_fieldAddr fh17 (.tmp rfl)) fun Ko hKo => ?_
  go_simp
  try go_bits
  refine hKo _ _ fun fa18 fh18 => ?_
  clear hKo Ko fh17 fa17
  refine Kn.step fh18 rfl rfl (.some rfl rfl rfl) (Kn.ex_load fh18 (.tmp rfl)) fun Ko hKo => ?_
  go_simp
  try go_bits
  refine hKo _ _ fun fa19 fh19 => ?_
  clear hKo Ko fh18 fa18
  refine Kn.step fh19 rfl rfl (.some rfl rfl rfl) (Kn.ex_bin fh19 (.tmp rfl) (.tmp rfl)) fun Ko hKo => ?_
  go_simp
  try go_bits
  refine hKo _ _ fun fa20 fh20 => ?_
  clear hKo Ko fh19 fa19
  refine Kn.pure fh20 rfl rfl (.some rfl rfl rfl) (Kn.ex_pick fh20 (.tmp rfl) (.tmp rfl)) fun fa21 fh21 => ?_
  clear fh20 fa20
  refine Kn.pure fh21 rfl rfl .none (Kn.ex_pick fh21 (.tmp rfl) (.tmp rfl)) fun fa22 fh22 => ?_
  clear fh21 fa21
  refine Kn.pure fh22 rfl rfl .none (Kn.ex_assign fh22 (.tmp rfl)) fun fa23 fh23 => ?_
  clear fh22 fa22
  refine wpList_nil ?_
  refine hK2 _ _ ?_
  clear hK2 K2
  replace fh23 := fh23.cut (.cons (t := 4) rfl .nil)
  refine wp_ret ?_
  exact Kn.ret1 fh23 rfl rfl ⟨rfl, ((Below.refl _ _).alloc (Nat.le_refl _) _).alloc (by simp) _⟩

theorem less_any (x y : Int × Int) (w : World) : Calls Tryd.prog 28 #[eV x, eV y] w fun e w' => e = .returned (.bool (lessB x y)) ∧ Below w.heap.size w w' := by
  obtain ⟨a, b⟩ := x
  obtain ⟨c, d⟩ := y
  by_cases h : a < c
  · rw [show lessB (a, b) (c, d) = true by simp [lessB, h]]; exact less_a a b c d w h
  · by_cases h2 : a = c
    · by_cases h3 : b < d
      · rw [show lessB (a, b) (c, d) = true by simp [lessB, h2, h3]]; exact less_c a b c d w h (beq_iff_eq.2 h2) h3
      · rw [show lessB (a, b) (c, d) = false by simp [lessB, h2, h3]]; exact less_d a b c d w h (beq_iff_eq.2 h2) h3
    · rw [show lessB (a, b) (c, d) = false by simp [lessB, h, h2]]; exact less_b a b c d w h (beq_eq_false_iff_ne.2 h2)

theorem eds_eq {xs ys : List (Int × Int)} (hl : xs.length = ys.length) (h : ∀ i, i < xs.length → ed xs i = ed ys i) : xs = ys := by
  apply List.ext_getElem hl
  intro i h1 h2
  have := h i h1
  rwa [ed_at _ _ h1, ed_at _ _ h2] at this
set_option maxRecDepth 100000 in
set_option maxHeartbeats 2000000 in
theorem same_any (A B : Option Addr) (ca cb : Nat) (xs ys : List (Int × Int)) (w : World) (hx : xs.length ≤ maxLen) (hy : ys.length ≤ maxLen) (hA : EIn w A xs) (hB : EIn w B ys) :
    Calls Tryd.prog 13 #[.slice A xs.length ca, .slice B ys.length cb] w fun e w' => e = .returned (.bool (decide (xs = ys))) ∧ ∃ q, w' = w.drewN q := by
  unfold maxLen at hx hy
  have HA := Lib.hid hA
  have HB := Lib.hid hB
  clear hA hB
  refine Kn.calls Tryd.func13 rfl Tryd.ntmps13 rfl (.cons (t := 0) rfl (.cons (t := 1) rfl .nil)) fun fa0 fh0 => ?_
  refine wp_seq_k fun K1 hK1 => ?_
  refine wp_region_lit ?_
  refine Kn.pure fh0 rfl rfl .none (Kn.ex_assign fh0 .const) fun fa1 fh1 => ?_
  clear fh0 fa0
  refine wpList_nil ?_
  refine hK1 _ _ ?_
  clear hK1 K1
  by_cases hlen : xs.length = ys.length
  · have qn : ((xs.length : Int) != (ys.length : Int)) = false := by simp [hlen]
    have qn2 : (xs.length != ys.length) = false := by simp [hlen]
    have HL := Lib.hid hlen
    clear hlen
    refine wp_seq_k fun K2 hK2 => ?_
    refine wp_seq_k fun K3 hK3 => ?_
    refine wp_region_lit ?_
    refine Kn.pure fh1 rfl rfl .none (Kn.ex_move fh1 (.tmp rfl)) fun fa2 fh2 => ?_
    clear fh1 fa1
    refine Kn.step fh2 rfl rfl .none (Kn.ex_len fh2 (.tmp rfl)) fun Ko hKo => ?_
    go_simp
    try go_bits
    refine hKo _ _ fun fa3 fh3 => ?_
    clear hKo Ko fh2 fa2
    refine Kn.pure fh3 rfl rfl .none (Kn.ex_move fh3 (.tmp rfl)) fun fa4 fh4 => ?_
    clear fh3 fa3
    refine Kn.step fh4 rfl rfl .none (Kn.ex_len fh4 (.tmp rfl)) fun Ko hKo => ?_
    go_simp
    try go_bits
    refine hKo _ _ fun fa5 fh5 => ?_
    clear hKo Ko fh4 fa4
    refine Kn.step fh5 rfl rfl .none (Kn.ex_bin fh5 (.tmp rfl) (.tmp rfl)) fun Ko hKo => ?_
    go_simp
    try go_bits
    refine hKo _ _ fun fa6 fh6 => ?_
    clear hKo Ko fh5 fa5
    refine wpList_nil ?_
    refine hK3 _ _ ?_
    clear hK3 K3
    replace fh6 := fh6.cut (.cons (t := 10) rfl (.cons (t := 4) rfl (.cons (t := 0) rfl (.cons (t := 1) rfl .nil))))
    clear qn qn2
    refine Kn.no fh6 (.tmp rfl) ?_
    refine wp_skip ?_
    refine hK2 _ _ ?_
    clear hK2 K2
    replace fh6 := fh6.cut (.cons (t := 4) rfl (.cons (t := 0) rfl (.cons (t := 1) rfl .nil)))
    refine wp_seq_k fun K4 hK4 => ?_
    refine wp_seq_k fun K5 hK5 => ?_
    refine wp_region_lit ?_
    refine Kn.pure fh6 rfl rfl .none (Kn.ex_assign fh6 .const) fun fa7 fh7 => ?_
    clear fh6 fa6
    refine wpList_nil ?_
    refine hK5 _ _ ?_
    clear hK5 K5
    refine wp_block ?_
    refine Kn.loop (fun m fr v => ∃ (k q : Nat), Kn.Kn 41 [(5, .int .i64 (k : Int)), (0, .slice A xs.length ca), (1, .slice B ys.length cb)] fr ∧ k + m = xs.length ∧ Hid (∀ i, i < k → ed xs i = ed ys i) ∧ v = w.drewN q) xs.length ⟨0, 0, fh7.cut (.cons (t := 5) rfl (.cons (t := 0) rfl (.cons (t := 1) rfl .nil))), by omega, Lib.hid (fun i hi => absurd hi (by omega)), rfl⟩ ?_
    clear fh7 fa7
    intro m6 fa8 v hI Kl6 hKl6
    obtain ⟨k, q, fh8, hk, HP, rfl⟩ := hI
    by_cases hlt : k < xs.length
    · have hlt2 : k < ys.length := by rw [← HL.out]; exact hlt
      obtain ⟨ba, oa, rfl, -, ca1, ca2⟩ := HA.out k hlt
      obtain ⟨bb, ob, rfl, -, cb1, cb2⟩ := HB.out k hlt2
      obtain ⟨x1, hx1⟩ : ∃ x, (ed xs k).1 = x := ⟨_, rfl⟩
      obtain ⟨x2, hx2⟩ : ∃ x, (ed xs k).2 = x := ⟨_, rfl⟩
      obtain ⟨y1, hy1⟩ : ∃ x, (ed ys k).1 = x := ⟨_, rfl⟩
      obtain ⟨y2, hy2⟩ : ∃ x, (ed ys k).2 = x := ⟨_, rfl⟩
      rw [hx1] at ca1
      rw [hx2] at ca2
      rw [hy1] at cb1
      rw [hy2] at cb2
      have HX : Hid (ed xs k = (x1, x2)) := Lib.hid (by rw [← hx1, ← hx2])
      have HY : Hid (ed ys k = (y1, y2)) := Lib.hid (by rw [← hy1, ← hy2])
      clear hx1 hx2 hy1 hy2
      refine wp_seq_k fun K7 hK7 => ?_
      refine wp_seq_k fun K8 hK8 => ?_
      refine wp_region_lit ?_
      refine Kn.pure fh8 rfl rfl .none (Kn.ex_move fh8 (.tmp rfl)) fun fa9 fh9 => ?_
      clear fh8 fa8
      refine Kn.pure fh9 rfl rfl .none (Kn.ex_move fh9 (.tmp rfl)) fun fa10 fh10 => ?_
      clear fh9 fa9
      refine Kn.step fh10 rfl rfl .none (Kn.ex_len fh10 (.tmp rfl)) fun Ko hKo => ?_
      go_simp
      try go_bits
      refine hKo _ _ fun fa11 fh11 => ?_
      clear hKo Ko fh10 fa10
      refine Kn.step fh11 rfl rfl .none (Kn.ex_bin fh11 (.tmp rfl) (.tmp rfl)) fun Ko hKo => ?_
      go_simp
      try go_bits
      refine hKo _ _ fun fa12 fh12 => ?_
      clear hKo Ko fh11 fa11
      refine wpList_nil ?_
      refine hK8 _ _ ?_
      clear hK8 K8
      replace fh12 := fh12.cut (.cons (t := 14) rfl (.cons (t := 5) rfl (.cons (t := 0) rfl (.cons (t := 1) rfl .nil))))
      refine Kn.yes fh12 (.tmp rfl) ?_
      refine wp_skip ?_
      refine hK7 _ _ ?_
      clear hK7 K7
      replace fh12 := fh12.cut (.cons (t := 5) rfl (.cons (t := 0) rfl (.cons (t := 1) rfl .nil)))
      refine wp_seq_k fun K9 hK9 => ?_
      refine wp_block ?_
      by_cases e1 : x1 = y1
      · have q1 : (x1 != y1) = false := by simp [e1]
        by_cases e2 : x2 = y2
        · have q2 : (x2 != y2) = false := by simp [e2]
          have HE : Hid (ed xs k = ed ys k) := Lib.hid (by rw [HX.out, HY.out, e1, e2])
          clear e1 e2
          refine wp_seq_k fun K10 hK10 => ?_
          refine Kn.still (by kernel_rfl) (by kernel_rfl) ?_
          refine Kn.spure fh12 rfl rfl .none (Kn.ex_move fh12 (.tmp rfl)) fun fa13 fh13 => ?_
          clear fh12 fa12
          refine Kn.spure fh13 rfl rfl .none (Kn.ex_move fh13 (.tmp rfl)) fun fa14 fh14 => ?_
          clear fh13 fa13
          refine Kn.sstep fh14 rfl rfl .none (Kn.ex_indexAddr fh14 (.tmp rfl) (.tmp rfl)) fun Ko hKo => ?_
          go_simp
          try go_bits
          refine hKo _ fun fa15 fh15 => ?_
          clear hKo Ko fh14 fa14
          refine Kn.sstep fh15 rfl rfl .none (Kn.ex_fieldAddr fh15 (.tmp rfl)) fun Ko hKo => ?_
          go_simp
          try go_bits
          refine hKo _ fun fa16 fh16 => ?_
          clear hKo Ko fh15 fa15
          refine Kn.sstep fh16 rfl rfl .none (Kn.ex_load fh16 (.tmp rfl)) fun Ko hKo => ?_
          go_simp
          try go_bits
          refine hKo _ fun fa17 fh17 => ?_
          clear hKo Ko fh16 fa16
          refine Kn.spure fh17 rfl rfl .none (Kn.ex_move fh17 (.tmp rfl)) fun fa18 fh18 => ?_
          clear fh17 fa17
          refine Kn.spure fh18 rfl rfl .none (Kn.ex_move fh18 (.tmp rfl)) fun fa19 fh19 => ?_
          clear fh18 fa18
          refine Kn.sstep fh19 rfl rfl .none (Kn.ex_indexAddr fh19 (.tmp rfl) (.tmp rfl)) fun Ko hKo => ?_
          go_simp
          try go_bits
          refine hKo _ fun fa20 fh20 => ?_
          clear hKo Ko fh19 fa19
          refine Kn.sstep fh20 rfl rfl .none (Kn.ex_fieldAddr fh20 (.tmp rfl)) fun Ko hKo => ?_
          go_simp
          try go_bits
          refine hKo _ fun fa21 fh21 => ?_
          clear hKo Ko fh20 fa20
          refine Kn.sstep fh21 rfl rfl .none (Kn.ex_load fh21 (.tmp rfl)) fun Ko hKo => ?_
          go_simp
          try go_bits
          refine hKo _ fun fa22 fh22 => ?_
          clear hKo Ko fh21 fa21
          refine Kn.sstep fh22 rfl rfl .none (Kn.ex_bin fh22 (.tmp rfl) (.tmp rfl)) fun Ko hKo => ?_
          go_simp
          try go_bits
          refine hKo _ fun fa23 fh23 => ?_
          clear hKo Ko fh22 fa22
          refine Kn.spure fh23 rfl rfl .none (Kn.ex_move fh23 (.tmp rfl)) fun fa24 fh24 => ?_
          clear fh23 fa23
          refine Kn.spure fh24 rfl rfl (.some rfl rfl rfl) (Kn.ex_move fh24 (.tmp rfl)) fun fa25 fh25 => ?_
          clear fh24 fa24
          refine Kn.spure fh25 rfl rfl (.some rfl rfl rfl) (Kn.ex_move fh25 (.tmp rfl)) fun fa26 fh26 => ?_
          clear fh25 fa25
          refine Kn.sstep fh26 rfl rfl (.some rfl rfl rfl) (Kn.ex_indexAddr fh26 (.tmp rfl) (.tmp rfl)) fun Ko hKo => ?_
          go_simp
          try go_bits
          refine hKo _ fun fa27 fh27 => ?_
          clear hKo Ko fh26 fa26
          refine Kn.sstep fh27 rfl rfl (.some rfl rfl rfl) (Kn.ex_fieldAddr fh27 (.tmp rfl)) fun Ko hKo => ?_
          go_simp
          try go_bits
          refine hKo _ fun fa28 fh28 => ?_
          clear hKo Ko fh27 fa27
          refine Kn.sstep fh28 rfl rfl (.some rfl rfl rfl) (Kn.ex_load fh28 (.tmp rfl)) fun Ko hKo => ?_
          go_simp
          try go_bits
          refine hKo _ fun fa29 fh29 => ?_
          clear hKo Ko fh28 fa28
          refine Kn.spure fh29 rfl rfl (.some rfl rfl rfl) (Kn.ex_move fh29 (.tmp rfl)) fun fa30 fh30 => ?_
          clear fh29 fa29
          refine Kn.spure fh30 rfl rfl (.some rfl rfl rfl) (Kn.ex_move fh30 (.tmp rfl)) fun fa31 fh31 => ?_
          clear fh30 fa30
          refine Kn.sstep fh31 rfl rfl (.some rfl rfl rfl) (Kn.ex_indexAddr fh31 (.tmp rfl) (.tmp rfl)) fun Ko hKo => ?_
          go_simp
          try go_bits
          refine hKo _ fun fa32 fh32 => ?_
          clear hKo Ko fh31 fa31
          refine Kn.sstep fh32 rfl rfl (.some rfl rfl rfl) (Kn.ex_fieldAddr fh32 (.tmp rfl)) fun Ko hKo => ?_
          go_simp
          try go_bits
          refine hKo _ fun fa33 fh33 => ?_
          clear hKo Ko fh32 fa32
          refine Kn.sstep fh33 rfl rfl (.some rfl rfl rfl) (Kn.ex_load fh33 (.tmp rfl)) fun Ko hKo => ?_
          go_simp
          try go_bits
          refine hKo _ fun fa34 fh34 => ?_
          clear hKo Ko fh33 fa33
          refine Kn.sstep fh34 rfl rfl (.some rfl rfl rfl) (Kn.ex_bin fh34 (.tmp rfl) (.tmp rfl)) fun Ko hKo => ?_
          go_simp
          try go_bits
          refine hKo _ fun fa35 fh35 => ?_
          clear hKo Ko fh34 fa34
          refine Kn.spure fh35 rfl rfl .none (Kn.ex_pick fh35 (.tmp rfl) (.tmp rfl)) fun fa36 fh36 => ?_
          clear fh35 fa35
          refine wpStill_nil ?_
          refine hK10 _ _ ?_
          clear hK10 K10
          replace fh36 := fh36.cut (.cons (t := 40) rfl (.cons (t := 5) rfl (.cons (t := 0) rfl (.cons (t := 1) rfl .nil))))
          refine Kn.no fh36 (.tmp rfl) ?_
          refine wp_skip ?_
          refine Kn.block_normal ?_
          refine hK9 _ _ ?_
          clear hK9 K9
          replace fh36 := fh36.cut (.cons (t := 5) rfl (.cons (t := 0) rfl (.cons (t := 1) rfl .nil)))
          refine wp_region_lit ?_
          refine Kn.pure fh36 rfl rfl .none (Kn.ex_move fh36 (.tmp rfl)) fun fa37 fh37 => ?_
          clear fh36 fa36
          refine Kn.step fh37 rfl rfl .none (Kn.ex_bin fh37 (.tmp rfl) .const) fun Ko hKo => ?_
          go_simp
          try go_bits
          refine hKo _ _ fun fa38 fh38 => ?_
          clear hKo Ko fh37 fa37
          refine Kn.pure fh38 rfl rfl .none (Kn.ex_assign fh38 (.tmp rfl)) fun fa39 fh39 => ?_
          clear fh38 fa38
          refine wpList_nil ?_
          replace fh39 := fh39.cut (.cons (t := 5) rfl (.cons (t := 0) rfl (.cons (t := 1) rfl .nil)))
          exact hKl6 (m6 - 1) _ _ (by omega) ⟨k + 1, q + 1, fh39.cut (.turn (t := 5) rfl (by go_num) (.cons (t := 0) rfl (.cons (t := 1) rfl .nil))), by omega, Lib.hid (fun i hi => by rcases Nat.lt_or_ge i k with h | h; exact HP.out i h; rw [show i = k by omega]; exact HE.out), rfl⟩
        · have q2 : (x2 != y2) = true := by simp [e2]
          have HE : Hid (xs ≠ ys) := Lib.hid (fun h => e2 (by have := HX.out; rw [h, HY.out] at this; exact (congrArg Prod.snd this).symm))
          clear e1 e2
          refine wp_seq_k fun K10 hK10 => ?_
          refine Kn.still (by kernel_rfl) (by kernel_rfl) ?_
          refine Kn.spure fh12 rfl rfl .none (Kn.ex_move fh12 (.tmp rfl)) fun fa13 fh13 => ?_
          clear fh12 fa12
          refine Kn.spure fh13 rfl rfl .none (Kn.ex_move fh13 (.tmp rfl)) fun fa14 fh14 => ?_
          clear fh13 fa13
          refine Kn.sstep fh14 rfl rfl .none (Kn.ex_indexAddr fh14 (.tmp rfl) (.tmp rfl)) fun Ko hKo => ?_
          go_simp
          try go_bits
          refine hKo _ fun fa15 fh15 => ?_
          clear hKo Ko fh14 fa14
          refine Kn.sstep fh15 rfl rfl .none (Kn.ex_fieldAddr fh15 (.tmp rfl)) fun Ko hKo => ?_
          go_simp
          try go_bits
          refine hKo _ fun fa16 fh16 => ?_
          clear hKo Ko fh15 fa15
          refine Kn.sstep fh16 rfl rfl .none (Kn.ex_load fh16 (.tmp rfl)) fun Ko hKo => ?_
          go_simp
          try go_bits
          refine hKo _ fun fa17 fh17 => ?_
          clear hKo Ko fh16 fa16
          refine Kn.spure fh17 rfl rfl .none (Kn.ex_move fh17 (.tmp rfl)) fun fa18 fh18 => ?_
          clear fh17 fa17
          refine Kn.spure fh18 rfl rfl .none (Kn.ex_move fh18 (.tmp rfl)) fun fa19 fh19 => ?_
          clear fh18 fa18
          refine Kn.sstep fh19 rfl rfl .none (Kn.ex_indexAddr fh19 (.tmp rfl) (.tmp rfl)) fun Ko hKo => ?_
          go_simp
          try go_bits
          refine hKo _ fun fa20 fh20 => ?_
          clear hKo Ko fh19 fa19
          refine Kn.sstep fh20 rfl rfl .none (Kn.ex_fieldAddr fh20 (.tmp rfl)) fun Ko hKo => ?_
          go_simp
          try go_bits
          refine hKo _ fun fa21 fh21 => ?_
          clear hKo Ko fh20 fa20
          refine Kn.sstep fh21 rfl rfl .none (Kn.ex_load fh21 (.tmp rfl)) fun Ko hKo => ?_
          go_simp
          try go_bits
          refine hKo _ fun fa22 fh22 => ?_
          clear hKo Ko fh21 fa21
          refine Kn.sstep fh22 rfl rfl .none (Kn.ex_bin fh22 (.tmp rfl) (.tmp rfl)) fun Ko hKo => ?_
          go_simp
          try go_bits
          refine hKo _ fun fa23 fh23 => ?_
          clear hKo Ko fh22 fa22
          refine Kn.spure fh23 rfl rfl .none (Kn.ex_move fh23 (.tmp rfl)) fun fa24 fh24 => ?_
          clear fh23 fa23
          refine Kn.spure fh24 rfl rfl (.some rfl rfl rfl) (Kn.ex_move fh24 (.tmp rfl)) fun fa25 fh25 => ?_
          clear fh24 fa24
          refine Kn.spure fh25 rfl rfl (.some rfl rfl rfl) (Kn.ex_move fh25 (.tmp rfl)) fun fa26 fh26 => ?_
          clear fh25 fa25
          refine Kn.sstep fh26 rfl rfl (.some rfl rfl rfl) (Kn.ex_indexAddr fh26 (.tmp rfl) (.tmp rfl)) fun Ko hKo => ?_
          go_simp
          try go_bits
          refine hKo _ fun fa27 fh27 => ?_
          clear hKo Ko fh26 fa26
          refine Kn.sstep fh27 rfl rfl (.some rfl rfl rfl) (Kn.ex_fieldAddr fh27 (.tmp rfl)) fun Ko hKo => ?_
          go_simp
          try go_bits
          refine hKo _ fun fa28 fh28 => ?_
          clear hKo Ko fh27 fa27
          refine Kn.sstep fh28 rfl rfl (.some rfl rfl rfl) (Kn.ex_load fh28 (.tmp rfl)) fun Ko hKo => ?_
          go_simp
          try go_bits
          refine hKo _ fun fa29 fh29 => ?_
          clear hKo Ko fh28 fa28
          refine Kn.spure fh29 rfl rfl (.some rfl rfl rfl) (Kn.ex_move fh29 (.tmp rfl)) fun fa30 fh30 => ?_
          clear fh29 fa29
          refine Kn.spure fh30 rfl rfl (.some rfl rfl rfl) (Kn.ex_move fh30 (.tmp rfl)) fun fa31 fh31 => ?_
          clear fh30 fa30
          refine Kn.sstep fh31 rfl rfl (.some rfl rfl rfl) (Kn.ex_indexAddr fh31 (.tmp rfl) (.tmp rfl)) fun Ko hKo => ?_
          go_simp
          try go_bits
          refine hKo _ fun fa32 fh32 => ?_
          clear hKo Ko fh31 fa31
          refine Kn.sstep fh32 rfl rfl (.some rfl rfl rfl) (Kn.ex_fieldAddr fh32 (.tmp rfl)) fun Ko hKo => ?_
          go_simp
          try go_bits
          refine hKo _ fun fa33 fh33 => ?_
          clear hKo Ko fh32 fa32
          refine Kn.sstep fh33 rfl rfl (.some rfl rfl rfl) (Kn.ex_load fh33 (.tmp rfl)) fun Ko hKo => ?_
          go_simp
          try go_bits
          refine hKo _ fun fa34 fh34 => ?_
          clear hKo Ko fh33 fa33
          refine Kn.sstep fh34 rfl rfl (.some rfl rfl rfl) (Kn.ex_bin fh34 (.tmp rfl) (.tmp rfl)) fun Ko hKo => ?_
          go_simp
          try go_bits
          refine hKo _ fun fa35 fh35 => ?_
          clear hKo Ko fh34 fa34
          refine Kn.spure fh35 rfl rfl .none (Kn.ex_pick fh35 (.tmp rfl) (.tmp rfl)) fun fa36 fh36 => ?_
          clear fh35 fa35
          refine wpStill_nil ?_
          refine hK10 _ _ ?_
          clear hK10 K10
          replace fh36 := fh36.cut (.cons (t := 40) rfl (.cons (t := 5) rfl (.cons (t := 0) rfl (.cons (t := 1) rfl .nil))))
          refine Kn.yes fh36 (.tmp rfl) ?_
          replace fh36 := fh36.cut (.cons (t := 5) rfl (.cons (t := 0) rfl (.cons (t := 1) rfl .nil)))
          refine wp_seq_k fun K11 hK11 => ?_
          refine wp_region_lit ?_
          refine Kn.pure fh36 rfl rfl .none (Kn.ex_assign fh36 .const) fun fa37 fh37 => ?_
          clear fh36 fa36
          refine wpList_nil ?_
          refine hK11 _ _ ?_
          clear hK11 K11
          refine wp_ret ?_
          refine Kn.block_ret ?_
          refine Kn.then_ret ?_
          refine Kn.then_ret ?_
          refine Kn.block_ret ?_
          refine Kn.then_ret ?_
          exact Kn.ret1 fh37 rfl rfl ⟨by rw [decide_eq_false HE.out], q + 1, rfl⟩
      · have q1 : (x1 != y1) = true := by simp [e1]
        have HE : Hid (xs ≠ ys) := Lib.hid (fun h => e1 (by have := HX.out; rw [h, HY.out] at this; exact (congrArg Prod.fst this).symm))
        clear e1
        refine wp_seq_k fun K10 hK10 => ?_
        refine Kn.still (by kernel_rfl) (by kernel_rfl) ?_
        refine Kn.spure fh12 rfl rfl .none (Kn.ex_move fh12 (.tmp rfl)) fun fa13 fh13 => ?_
        clear fh12 fa12
        refine Kn.spure fh13 rfl rfl .none (Kn.ex_move fh13 (.tmp rfl)) fun fa14 fh14 => ?_
        clear fh13 fa13
        refine Kn.sstep fh14 rfl rfl .none (Kn.ex_indexAddr fh14 (.tmp rfl) (.tmp rfl)) fun Ko hKo => ?_
        go_simp
        try go_bits
        refine hKo _ fun fa15 fh15 => ?_
        clear hKo Ko fh14 fa14
        refine Kn.sstep fh15 rfl rfl .none (Kn.ex_fieldAddr fh15 (.tmp rfl)) fun Ko hKo => ?_
        go_simp
        try go_bits
        refine hKo _ fun fa16 fh16 => ?_
        clear hKo Ko fh15 fa15
        refine Kn.sstep fh16 rfl rfl .none (Kn.ex_load fh16 (.tmp rfl)) fun Ko hKo => ?_
        go_simp
        try go_bits
        refine hKo _ fun fa17 fh17 => ?_
        clear hKo Ko fh16 fa16
        refine Kn.spure fh17 rfl rfl .none (Kn.ex_move fh17 (.tmp rfl)) fun fa18 fh18 => ?_
        clear fh17 fa17
        refine Kn.spure fh18 rfl rfl .none (Kn.ex_move fh18 (.tmp rfl)) fun fa19 fh19 => ?_
        clear fh18 fa18
        refine Kn.sstep fh19 rfl rfl .none (Kn.ex_indexAddr fh19 (.tmp rfl) (.tmp rfl)) fun Ko hKo => ?_
        go_simp
        try go_bits
        refine hKo _ fun fa20 fh20 => ?_
        clear hKo Ko fh19 fa19
        refine Kn.sstep fh20 rfl rfl .none (Kn.ex_fieldAddr fh20 (.tmp rfl)) fun Ko hKo => ?_
        go_simp
        try go_bits
        refine hKo _ fun fa21 fh21 => ?_
        clear hKo Ko fh20 fa20
        refine Kn.sstep fh21 rfl rfl .none (Kn.ex_load fh21 (.tmp rfl)) fun Ko hKo => ?_
        go_simp
        try go_bits
        refine hKo _ fun fa22 fh22 => ?_
        clear hKo Ko fh21 fa21
        refine Kn.sstep fh22 rfl rfl .none (Kn.ex_bin fh22 (.tmp rfl) (.tmp rfl)) fun Ko hKo => ?_
        go_simp
        try go_bits
        refine hKo _ fun fa23 fh23 => ?_
        clear hKo Ko fh22 fa22
        refine Kn.spure fh23 rfl rfl .none (Kn.ex_move fh23 (.tmp rfl)) fun fa24 fh24 => ?_
        clear fh23 fa23
        refine Kn.sskip fh24 rfl rfl (.some rfl rfl rfl) fun fa25 fh25 => ?_
        clear fh24 fa24
        refine Kn.sskip fh25 rfl rfl (.some rfl rfl rfl) fun fa26 fh26 => ?_
        clear fh25 fa25
        refine Kn.sskip fh26 rfl rfl (.some rfl rfl rfl) fun fa27 fh27 => ?_
        clear fh26 fa26
        refine Kn.sskip fh27 rfl rfl (.some rfl rfl rfl) fun fa28 fh28 => ?_
        clear fh27 fa27
        refine Kn.sskip fh28 rfl rfl (.some rfl rfl rfl) fun fa29 fh29 => ?_
        clear fh28 fa28
        refine Kn.sskip fh29 rfl rfl (.some rfl rfl rfl) fun fa30 fh30 => ?_
        clear fh29 fa29
        refine Kn.sskip fh30 rfl rfl (.some rfl rfl rfl) fun fa31 fh31 => ?_
        clear fh30 fa30
        refine Kn.sskip fh31 rfl rfl (.some rfl rfl rfl) fun fa32 fh32 => ?_
        clear fh31 fa31
        refine Kn.sskip fh32 rfl rfl (.some rfl rfl rfl) fun fa33 fh33 => ?_
        clear fh32 fa32
        refine Kn.sskip fh33 rfl rfl (.some rfl rfl rfl) fun fa34 fh34 => ?_
        clear fh33 fa33
        refine Kn.sskip fh34 rfl rfl (.some rfl rfl rfl) fun fa35 fh35 => ?_
        clear fh34 fa34
        refine Kn.spure fh35 rfl rfl .none (Kn.ex_pick fh35 (.tmp rfl) .const) fun fa36 fh36 => ?_
        clear fh35 fa35
        refine wpStill_nil ?_
        refine hK10 _ _ ?_
        clear hK10 K10
        replace fh36 := fh36.cut (.cons (t := 40) rfl (.cons (t := 5) rfl (.cons (t := 0) rfl (.cons (t := 1) rfl .nil))))
        refine Kn.yes fh36 (.tmp rfl) ?_
        replace fh36 := fh36.cut (.cons (t := 5) rfl (.cons (t := 0) rfl (.cons (t := 1) rfl .nil)))
        refine wp_seq_k fun K11 hK11 => ?_
        refine wp_region_lit ?_
        refine Kn.pure fh36 rfl rfl .none (Kn.ex_assign fh36 .const) fun fa37 fh37 => ?_
        clear fh36 fa36
        refine wpList_nil ?_
        refine hK11 _ _ ?_
        clear hK11 K11
        refine wp_ret ?_
        refine Kn.block_ret ?_
        refine Kn.then_ret ?_
        refine Kn.then_ret ?_
        refine Kn.block_ret ?_
        refine Kn.then_ret ?_
        exact Kn.ret1 fh37 rfl rfl ⟨by rw [decide_eq_false HE.out], q + 1, rfl⟩
    · obtain rfl : k = xs.length := by omega
      have HE : Hid (xs = ys) := Lib.hid (eds_eq HL.out HP.out)
      refine wp_seq_k fun K7 hK7 => ?_
      refine wp_seq_k fun K8 hK8 => ?_
      refine wp_region_lit ?_
      refine Kn.pure fh8 rfl rfl .none (Kn.ex_move fh8 (.tmp rfl)) fun fa9 fh9 => ?_
      clear fh8 fa8
      refine Kn.pure fh9 rfl rfl .none (Kn.ex_move fh9 (.tmp rfl)) fun fa10 fh10 => ?_
      clear fh9 fa9
      refine Kn.step fh10 rfl rfl .none (Kn.ex_len fh10 (.tmp rfl)) fun Ko hKo => ?_
      go_simp
      try go_bits
      refine hKo _ _ fun fa11 fh11 => ?_
      clear hKo Ko fh10 fa10
      refine Kn.step fh11 rfl rfl .none (Kn.ex_bin fh11 (.tmp rfl) (.tmp rfl)) fun Ko hKo => ?_
      go_simp
      try go_bits
      refine hKo _ _ fun fa12 fh12 => ?_
      clear hKo Ko fh11 fa11
      refine wpList_nil ?_
      refine hK8 _ _ ?_
      clear hK8 K8
      replace fh12 := fh12.cut (.cons (t := 14) rfl (.cons (t := 5) rfl (.cons (t := 0) rfl (.cons (t := 1) rfl .nil))))
      refine Kn.no fh12 (.tmp rfl) ?_
      replace fh12 := fh12.cut (.cons (t := 5) rfl (.cons (t := 0) rfl (.cons (t := 1) rfl .nil)))
      refine wp_exit ?_
      refine Kn.then_exit ?_
      clear hK7 K7
      refine Kn.then_exit ?_
      clear hKl6 Kl6
      refine Kn.block_exit ?_
      refine hK4 _ _ ?_
      clear hK4 K4
      replace fh12 := fh12.cut .nil
      refine wp_seq_k fun K9 hK9 => ?_
      refine wp_region_lit ?_
      refine Kn.pure fh12 rfl rfl .none (Kn.ex_assign fh12 .const) fun fa13 fh13 => ?_
      clear fh12 fa12
      refine wpList_nil ?_
      refine hK9 _ _ ?_
      clear hK9 K9
      refine wp_ret ?_
      exact Kn.ret1 fh13 rfl rfl ⟨by rw [decide_eq_true HE.out], _, rfl⟩
  · have qn : ((xs.length : Int) != (ys.length : Int)) = true := by simp; omega
    have qn2 : (xs.length != ys.length) = true := by simp [hlen]
    have HE : Hid (xs ≠ ys) := Lib.hid (fun h => hlen (by rw [h]))
    clear hlen
    refine wp_seq_k fun K2 hK2 => ?_
    refine wp_seq_k fun K3 hK3 => ?_
    refine wp_region_lit ?_
    refine Kn.pure fh1 rfl rfl .none (Kn.ex_move fh1 (.tmp rfl)) fun fa2 fh2 => ?_
    clear fh1 fa1
    refine Kn.step fh2 rfl rfl .none (Kn.ex_len fh2 (.tmp rfl)) fun Ko hKo => ?_
    go_simp
    try go_bits
    refine hKo _ _ fun fa3 fh3 => ?_
    clear hKo Ko fh2 fa2
    refine Kn.pure fh3 rfl rfl .none (Kn.ex_move fh3 (.tmp rfl)) fun fa4 fh4 => ?_
    clear fh3 fa3
    refine Kn.step fh4 rfl rfl .none (Kn.ex_len fh4 (.tmp rfl)) fun Ko hKo => ?_
    go_simp
    try go_bits
    refine hKo _ _ fun fa5 fh5 => ?_
    clear hKo Ko fh4 fa4
    refine Kn.step fh5 rfl rfl .none (Kn.ex_bin fh5 (.tmp rfl) (.tmp rfl)) fun Ko hKo => ?_
    go_simp
    try go_bits
    refine hKo _ _ fun fa6 fh6 => ?_
    clear hKo Ko fh5 fa5
    refine wpList_nil ?_
    refine hK3 _ _ ?_
    clear hK3 K3
    replace fh6 := fh6.cut (.cons (t := 10) rfl (.cons (t := 4) rfl (.cons (t := 0) rfl (.cons (t := 1) rfl .nil))))
    refine Kn.yes fh6 (.tmp rfl) ?_
    replace fh6 := fh6.cut (.cons (t := 4) rfl (.cons (t := 0) rfl (.cons (t := 1) rfl .nil)))
    refine wp_seq_k fun K4 hK4 => ?_
    refine wp_region_lit ?_
    refine Kn.pure fh6 rfl rfl .none (Kn.ex_assign fh6 .const) fun fa7 fh7 => ?_
    clear fh6 fa6
    refine wpList_nil ?_
    refine hK4 _ _ ?_
    clear hK4 K4
    refine wp_ret ?_
    refine Kn.then_ret ?_
    exact Kn.ret1 fh7 rfl rfl ⟨by rw [decide_eq_false HE.out], 0, rfl⟩
/-- An edge that may not be. -/
def badB (n : Int) (e : Int × Int) : Bool := decide (e.1 < 0) || decide (e.2 < 0) || decide (n ≤ e.1) || decide (n ≤ e.2)

set_option maxRecDepth 100000 in
set_option maxHeartbeats 2000000 in
theorem wrong_neg (n : Int) (A : Option Addr) (c : Nat) (xs : List (Int × Int)) (w : World) (h : n < 0) :
    Calls Tryd.prog 7 #[.int .i64 n, .slice A xs.length c] w fun e w' => e = .returned (.int .i64 (-1)) ∧ w = w' := by
  refine Kn.calls Tryd.func7 rfl Tryd.ntmps7 rfl (.cons (t := 0) rfl (.cons (t := 1) rfl .nil)) fun fa0 fh0 => ?_
  refine wp_seq_k fun K1 hK1 => ?_
  refine wp_region_lit ?_
  refine Kn.pure fh0 rfl rfl .none (Kn.ex_assign fh0 .const) fun fa1 fh1 => ?_
  clear fh0 fa0
  refine wpList_nil ?_
  refine hK1 _ _ ?_
  clear hK1 K1
  refine wp_seq_k fun K2 hK2 => ?_
  refine wp_seq_k fun K3 hK3 => ?_
  refine wp_region_lit ?_
  refine Kn.pure fh1 rfl rfl .none (Kn.ex_move fh1 (.tmp rfl)) fun fa2 fh2 => ?_
  clear fh1 fa1
  refine Kn.step fh2 rfl rfl .none (Kn.ex_bin fh2 (.tmp rfl) .const) fun Ko hKo => ?_
  go_simp
  try go_bits
  refine hKo _ _ fun fa3 fh3 => ?_
  clear hKo Ko fh2 fa2
  refine Kn.pure fh3 rfl rfl .none (Kn.ex_move fh3 (.tmp rfl)) fun fa4 fh4 => ?_
  clear fh3 fa3
  refine Kn.skip fh4 rfl rfl (.some rfl rfl rfl) fun fa5 fh5 => ?_
  clear fh4 fa4
  refine Kn.skip fh5 rfl rfl (.some rfl rfl rfl) fun fa6 fh6 => ?_
  clear fh5 fa5
  refine Kn.pure fh6 rfl rfl .none (Kn.ex_pick fh6 (.tmp rfl) .const) fun fa7 fh7 => ?_
  clear fh6 fa6
  refine wpList_nil ?_
  refine hK3 _ _ ?_
  clear hK3 K3
  replace fh7 := fh7.cut (.cons (t := 11) rfl (.cons (t := 4) rfl (.cons (t := 0) rfl (.cons (t := 1) rfl .nil))))
  refine Kn.yes fh7 (.tmp rfl) ?_
  replace fh7 := fh7.cut (.cons (t := 4) rfl (.cons (t := 0) rfl (.cons (t := 1) rfl .nil)))
  refine wp_seq_k fun K4 hK4 => ?_
  refine wp_region_lit ?_
  refine Kn.pure fh7 rfl rfl .none (Kn.ex_assign fh7 .const) fun fa8 fh8 => ?_
  clear fh7 fa7
  refine wpList_nil ?_
  refine hK4 _ _ ?_
  clear hK4 K4
  refine wp_ret ?_
  refine Kn.then_ret ?_
  exact Kn.ret1 fh8 rfl rfl ⟨rfl, rfl⟩

set_option maxRecDepth 100000 in
set_option maxHeartbeats 2000000 in
theorem wrong_big (n : Int) (A : Option Addr) (c : Nat) (xs : List (Int × Int)) (w : World) (h : ¬ n < 0) (h2 : 4096 < n) :
    Calls Tryd.prog 7 #[.int .i64 n, .slice A xs.length c] w fun e w' => e = .returned (.int .i64 (-1)) ∧ w = w' := by
  refine Kn.calls Tryd.func7 rfl Tryd.ntmps7 rfl (.cons (t := 0) rfl (.cons (t := 1) rfl .nil)) fun fa0 fh0 => ?_
  refine wp_seq_k fun K1 hK1 => ?_
  refine wp_region_lit ?_
  refine Kn.pure fh0 rfl rfl .none (Kn.ex_assign fh0 .const) fun fa1 fh1 => ?_
  clear fh0 fa0
  refine wpList_nil ?_
  refine hK1 _ _ ?_
  clear hK1 K1
  refine wp_seq_k fun K2 hK2 => ?_
  refine wp_seq_k fun K3 hK3 => ?_
  refine wp_region_lit ?_
  refine Kn.pure fh1 rfl rfl .none (Kn.ex_move fh1 (.tmp rfl)) fun fa2 fh2 => ?_
  clear fh1 fa1
  refine Kn.step fh2 rfl rfl .none (Kn.ex_bin fh2 (.tmp rfl) .const) fun Ko hKo => ?_
  go_simp
  try go_bits
  refine hKo _ _ fun fa3 fh3 => ?_
  clear hKo Ko fh2 fa2
  refine Kn.pure fh3 rfl rfl .none (Kn.ex_move fh3 (.tmp rfl)) fun fa4 fh4 => ?_
  clear fh3 fa3
  refine Kn.pure fh4 rfl rfl (.some rfl rfl rfl) (Kn.ex_move fh4 (.tmp rfl)) fun fa5 fh5 => ?_
  clear fh4 fa4
  refine Kn.step fh5 rfl rfl (.some rfl rfl rfl) (Kn.ex_bin fh5 (.tmp rfl) .const) fun Ko hKo => ?_
  go_simp
  try go_bits
  refine hKo _ _ fun fa6 fh6 => ?_
  clear hKo Ko fh5 fa5
  refine Kn.pure fh6 rfl rfl .none (Kn.ex_pick fh6 (.tmp rfl) (.tmp rfl)) fun fa7 fh7 => ?_
  clear fh6 fa6
  refine wpList_nil ?_
  refine hK3 _ _ ?_
  clear hK3 K3
  replace fh7 := fh7.cut (.cons (t := 11) rfl (.cons (t := 4) rfl (.cons (t := 0) rfl (.cons (t := 1) rfl .nil))))
  refine Kn.yes fh7 (.tmp rfl) ?_
  replace fh7 := fh7.cut (.cons (t := 4) rfl (.cons (t := 0) rfl (.cons (t := 1) rfl .nil)))
  refine wp_seq_k fun K4 hK4 => ?_
  refine wp_region_lit ?_
  refine Kn.pure fh7 rfl rfl .none (Kn.ex_assign fh7 .const) fun fa8 fh8 => ?_
  clear fh7 fa7
  refine wpList_nil ?_
  refine hK4 _ _ ?_
  clear hK4 K4
  refine wp_ret ?_
  refine Kn.then_ret ?_
  exact Kn.ret1 fh8 rfl rfl ⟨rfl, rfl⟩

set_option maxRecDepth 100000 in
set_option maxHeartbeats 2000000 in
theorem wrong_long (n : Int) (A : Option Addr) (c : Nat) (xs : List (Int × Int)) (w : World) (h : ¬ n < 0) (h2 : ¬ 4096 < n) (h3 : (20000 : Int) < (xs.length : Int)) (h4 : 20000 < xs.length) :
    Calls Tryd.prog 7 #[.int .i64 n, .slice A xs.length c] w fun e w' => e = .returned (.int .i64 20000) ∧ w = w' := by
  refine Kn.calls Tryd.func7 rfl Tryd.ntmps7 rfl (.cons (t := 0) rfl (.cons (t := 1) rfl .nil)) fun fa0 fh0 => ?_
  refine wp_seq_k fun K1 hK1 => ?_
  refine wp_region_lit ?_
  refine Kn.pure fh0 rfl rfl .none (Kn.ex_assign fh0 .const) fun fa1 fh1 => ?_
  clear fh0 fa0
  refine wpList_nil ?_
  refine hK1 _ _ ?_
  clear hK1 K1
  refine wp_seq_k fun K2 hK2 => ?_
  refine wp_seq_k fun K3 hK3 => ?_
  refine wp_region_lit ?_
  refine Kn.pure fh1 rfl rfl .none (Kn.ex_move fh1 (.tmp rfl)) fun fa2 fh2 => ?_
  clear fh1 fa1
  refine Kn.step fh2 rfl rfl .none (Kn.ex_bin fh2 (.tmp rfl) .const) fun Ko hKo => ?_
  go_simp
  try go_bits
  refine hKo _ _ fun fa3 fh3 => ?_
  clear hKo Ko fh2 fa2
  refine Kn.pure fh3 rfl rfl .none (Kn.ex_move fh3 (.tmp rfl)) fun fa4 fh4 => ?_
  clear fh3 fa3
  refine Kn.pure fh4 rfl rfl (.some rfl rfl rfl) (Kn.ex_move fh4 (.tmp rfl)) fun fa5 fh5 => ?_
  clear fh4 fa4
  refine Kn.step fh5 rfl rfl (.some rfl rfl rfl) (Kn.ex_bin fh5 (.tmp rfl) .const) fun Ko hKo => ?_
  go_simp
  try go_bits
  refine hKo _ _ fun fa6 fh6 => ?_
  clear hKo Ko fh5 fa5
  refine Kn.pure fh6 rfl rfl .none (Kn.ex_pick fh6 (.tmp rfl) (.tmp rfl)) fun fa7 fh7 => ?_
  clear fh6 fa6
  refine wpList_nil ?_
  refine hK3 _ _ ?_
  clear hK3 K3
  replace fh7 := fh7.cut (.cons (t := 11) rfl (.cons (t := 4) rfl (.cons (t := 0) rfl (.cons (t := 1) rfl .nil))))
  refine Kn.no fh7 (.tmp rfl) ?_
  refine wp_skip ?_
  refine hK2 _ _ ?_
  clear hK2 K2
  replace fh7 := fh7.cut (.cons (t := 4) rfl (.cons (t := 0) rfl (.cons (t := 1) rfl .nil)))
  refine wp_seq_k fun K4 hK4 => ?_
  refine wp_seq_k fun K5 hK5 => ?_
  refine wp_region_lit ?_
  refine Kn.pure fh7 rfl rfl .none (Kn.ex_move fh7 (.tmp rfl)) fun fa8 fh8 => ?_
  clear fh7 fa7
  refine Kn.step fh8 rfl rfl .none (Kn.ex_len fh8 (.tmp rfl)) fun Ko hKo => ?_
  go_simp
  try go_bits
  refine hKo _ _ fun fa9 fh9 => ?_
  clear hKo Ko fh8 fa8
  refine Kn.step fh9 rfl rfl .none (Kn.ex_bin fh9 (.tmp rfl) .const) fun Ko hKo => ?_
  go_simp
  try go_bits
  refine hKo _ _ fun fa10 fh10 => ?_
  clear hKo Ko fh9 fa9
  refine wpList_nil ?_
  refine hK5 _ _ ?_
  clear hK5 K5
  replace fh10 := fh10.cut (.cons (t := 14) rfl (.cons (t := 4) rfl (.cons (t := 0) rfl (.cons (t := 1) rfl .nil))))
  refine Kn.yes fh10 (.tmp rfl) ?_
  replace fh10 := fh10.cut (.cons (t := 4) rfl (.cons (t := 0) rfl (.cons (t := 1) rfl .nil)))
  refine wp_seq_k fun K6 hK6 => ?_
  refine wp_region_lit ?_
  refine Kn.pure fh10 rfl rfl .none (Kn.ex_assign fh10 .const) fun fa11 fh11 => ?_
  clear fh10 fa10
  refine wpList_nil ?_
  refine hK6 _ _ ?_
  clear hK6 K6
  refine wp_ret ?_
  refine Kn.then_ret ?_
  exact Kn.ret1 fh11 rfl rfl ⟨rfl, rfl⟩

set_option maxRecDepth 100000 in
set_option maxHeartbeats 2000000 in
theorem wrong_any (n : Int) (A : Option Addr) (c f : Nat) (xs : List (Int × Int)) (w : World) (h1 : ¬ n < 0) (h2 : ¬ 4096 < n) (h3 : ¬ 20000 < xs.length) (hA : EIn w A xs) (hG : ∀ i, i < f → badB n (ed xs i) = false) (hB : f < xs.length → badB n (ed xs f) = true) :
    Calls Tryd.prog 7 #[.int .i64 n, .slice A xs.length c] w fun e w' => e = .returned (.int .i64 (if f < xs.length then (f : Int) else -2)) ∧ w = w' := by
  have HA := Lib.hid hA
  have HG := Lib.hid hG
  have h3i : ¬ (20000 : Int) < (xs.length : Int) := by omega
  have HB := Lib.hid hB
  clear hA hG hB
  refine Kn.calls Tryd.func7 rfl Tryd.ntmps7 rfl (.cons (t := 0) rfl (.cons (t := 1) rfl .nil)) fun fa0 fh0 => ?_
  refine wp_seq_k fun K1 hK1 => ?_
  refine wp_region_lit ?_
  refine Kn.pure fh0 rfl rfl .none (Kn.ex_assign fh0 .const) fun fa1 fh1 => ?_
  clear fh0 fa0
  refine wpList_nil ?_
  refine hK1 _ _ ?_
  clear hK1 K1
  refine wp_seq_k fun K2 hK2 => ?_
  refine wp_seq_k fun K3 hK3 => ?_
  refine wp_region_lit ?_
  refine Kn.pure fh1 rfl rfl .none (Kn.ex_move fh1 (.tmp rfl)) fun fa2 fh2 => ?_
  clear fh1 fa1
  refine Kn.step fh2 rfl rfl .none (Kn.ex_bin fh2 (.tmp rfl) .const) fun Ko hKo => ?_
  go_simp
  try go_bits
  refine hKo _ _ fun fa3 fh3 => ?_
  clear hKo Ko fh2 fa2
  refine Kn.pure fh3 rfl rfl .none (Kn.ex_move fh3 (.tmp rfl)) fun fa4 fh4 => ?_
  clear fh3 fa3
  refine Kn.pure fh4 rfl rfl (.some rfl rfl rfl) (Kn.ex_move fh4 (.tmp rfl)) fun fa5 fh5 => ?_
  clear fh4 fa4
  refine Kn.step fh5 rfl rfl (.some rfl rfl rfl) (Kn.ex_bin fh5 (.tmp rfl) .const) fun Ko hKo => ?_
  go_simp
  try go_bits
  refine hKo _ _ fun fa6 fh6 => ?_
  clear hKo Ko fh5 fa5
  refine Kn.pure fh6 rfl rfl .none (Kn.ex_pick fh6 (.tmp rfl) (.tmp rfl)) fun fa7 fh7 => ?_
  clear fh6 fa6
  refine wpList_nil ?_
  refine hK3 _ _ ?_
  clear hK3 K3
  replace fh7 := fh7.cut (.cons (t := 11) rfl (.cons (t := 4) rfl (.cons (t := 0) rfl (.cons (t := 1) rfl .nil))))
  refine Kn.no fh7 (.tmp rfl) ?_
  refine wp_skip ?_
  refine hK2 _ _ ?_
  clear hK2 K2
  replace fh7 := fh7.cut (.cons (t := 4) rfl (.cons (t := 0) rfl (.cons (t := 1) rfl .nil)))
  refine wp_seq_k fun K4 hK4 => ?_
  refine wp_seq_k fun K5 hK5 => ?_
  refine wp_region_lit ?_
  refine Kn.pure fh7 rfl rfl .none (Kn.ex_move fh7 (.tmp rfl)) fun fa8 fh8 => ?_
  clear fh7 fa7
  refine Kn.step fh8 rfl rfl .none (Kn.ex_len fh8 (.tmp rfl)) fun Ko hKo => ?_
  go_simp
  try go_bits
  refine hKo _ _ fun fa9 fh9 => ?_
  clear hKo Ko fh8 fa8
  refine Kn.step fh9 rfl rfl .none (Kn.ex_bin fh9 (.tmp rfl) .const) fun Ko hKo => ?_
  go_simp
  try go_bits
  refine hKo _ _ fun fa10 fh10 => ?_
  clear hKo Ko fh9 fa9
  refine wpList_nil ?_
  refine hK5 _ _ ?_
  clear hK5 K5
  replace fh10 := fh10.cut (.cons (t := 14) rfl (.cons (t := 4) rfl (.cons (t := 0) rfl (.cons (t := 1) rfl .nil))))
  refine Kn.no fh10 (.tmp rfl) ?_
  refine wp_skip ?_
  refine hK4 _ _ ?_
  clear hK4 K4
  replace fh10 := fh10.cut (.cons (t := 4) rfl (.cons (t := 0) rfl (.cons (t := 1) rfl .nil)))
  refine wp_seq_k fun K6 hK6 => ?_
  refine wp_seq_k fun K7 hK7 => ?_
  refine wp_region_lit ?_
  refine Kn.pure fh10 rfl rfl .none (Kn.ex_assign fh10 .const) fun fa11 fh11 => ?_
  clear fh10 fa10
  refine wpList_nil ?_
  refine hK7 _ _ ?_
  clear hK7 K7
  refine wp_block ?_
  refine Kn.loop (fun m fr v => ∃ (k : Nat), Kn.Kn 54 [(5, .int .i64 (k : Int)), (0, .int .i64 n), (1, .slice A xs.length c)] fr ∧ k + m = xs.length ∧ k ≤ f ∧ w = v) xs.length ⟨0, fh11.cut (.cons (t := 5) rfl (.cons (t := 0) rfl (.cons (t := 1) rfl .nil))), by omega, by omega, rfl⟩ ?_
  clear fh11 fa11
  intro m8 fa12 v hI Kl8 hKl8
  obtain ⟨k, fh12, hk, hkf, rfl⟩ := hI
  by_cases hlt : k < xs.length
  · obtain ⟨b, o, rfl, -, c1, c2⟩ := HA.out k hlt
    obtain ⟨x, hx⟩ : ∃ x, (ed xs k).1 = x := ⟨_, rfl⟩
    obtain ⟨y, hy⟩ : ∃ x, (ed xs k).2 = x := ⟨_, rfl⟩
    rw [hx] at c1
    rw [hy] at c2
    have HX : Hid (ed xs k = (x, y)) := Lib.hid (by rw [← hx, ← hy])
    clear hx hy
    refine wp_seq_k fun K9 hK9 => ?_
    refine wp_seq_k fun K10 hK10 => ?_
    refine wp_region_lit ?_
    refine Kn.pure fh12 rfl rfl .none (Kn.ex_move fh12 (.tmp rfl)) fun fa13 fh13 => ?_
    clear fh12 fa12
    refine Kn.pure fh13 rfl rfl .none (Kn.ex_move fh13 (.tmp rfl)) fun fa14 fh14 => ?_
    clear fh13 fa13
    refine Kn.step fh14 rfl rfl .none (Kn.ex_len fh14 (.tmp rfl)) fun Ko hKo => ?_
    go_simp
    try go_bits
    refine hKo _ _ fun fa15 fh15 => ?_
    clear hKo Ko fh14 fa14
    refine Kn.step fh15 rfl rfl .none (Kn.ex_bin fh15 (.tmp rfl) (.tmp rfl)) fun Ko hKo => ?_
    go_simp
    try go_bits
    refine hKo _ _ fun fa16 fh16 => ?_
    clear hKo Ko fh15 fa15
    refine wpList_nil ?_
    refine hK10 _ _ ?_
    clear hK10 K10
    replace fh16 := fh16.cut (.cons (t := 18) rfl (.cons (t := 5) rfl (.cons (t := 0) rfl (.cons (t := 1) rfl .nil))))
    refine Kn.yes fh16 (.tmp rfl) ?_
    refine wp_skip ?_
    refine hK9 _ _ ?_
    clear hK9 K9
    replace fh16 := fh16.cut (.cons (t := 5) rfl (.cons (t := 0) rfl (.cons (t := 1) rfl .nil)))
    refine wp_seq_k fun K11 hK11 => ?_
    refine wp_block ?_
    by_cases hb : badB n (x, y) = true
    · have hkf2 : f = k := by
        rcases Nat.lt_or_ge k f with h | h
        · have := HG.out k h; rw [HX.out, hb] at this; cases this
        · omega
      have HF := Lib.hid hkf2
      clear hkf2
      by_cases b1 : x < 0
      · refine wp_seq_k fun K12 hK12 => ?_
        refine wp_region_lit ?_
        refine Kn.pure fh16 rfl rfl .none (Kn.ex_move fh16 (.tmp rfl)) fun fa17 fh17 => ?_
        clear fh16 fa16
        refine Kn.pure fh17 rfl rfl .none (Kn.ex_move fh17 (.tmp rfl)) fun fa18 fh18 => ?_
        clear fh17 fa17
        refine Kn.step fh18 rfl rfl .none (Kn.ex_indexAddr fh18 (.tmp rfl) (.tmp rfl)) fun Ko hKo => ?_
        go_simp
        try go_bits
        refine hKo _ _ fun fa19 fh19 => ?_
        clear hKo Ko fh18 fa18
        refine Kn.step fh19 rfl rfl .none (Kn.ex_fieldAddr fh19 (.tmp rfl)) fun Ko hKo => ?_
        go_simp
        try go_bits
        refine hKo _ _ fun fa20 fh20 => ?_
        clear hKo Ko fh19 fa19
        refine Kn.step fh20 rfl rfl .none (Kn.ex_load fh20 (.tmp rfl)) fun Ko hKo => ?_
        go_simp
        try go_bits
        refine hKo _ _ fun fa21 fh21 => ?_
        clear hKo Ko fh20 fa20
        refine Kn.step fh21 rfl rfl .none (Kn.ex_bin fh21 (.tmp rfl) .const) fun Ko hKo => ?_
        go_simp
        try go_bits
        refine hKo _ _ fun fa22 fh22 => ?_
        clear hKo Ko fh21 fa21
        refine Kn.pure fh22 rfl rfl .none (Kn.ex_move fh22 (.tmp rfl)) fun fa23 fh23 => ?_
        clear fh22 fa22
        refine Kn.skip fh23 rfl rfl (.some rfl rfl rfl) fun fa24 fh24 => ?_
        clear fh23 fa23
        refine Kn.skip fh24 rfl rfl (.some rfl rfl rfl) fun fa25 fh25 => ?_
        clear fh24 fa24
        refine Kn.skip fh25 rfl rfl (.some rfl rfl rfl) fun fa26 fh26 => ?_
        clear fh25 fa25
        refine Kn.skip fh26 rfl rfl (.some rfl rfl rfl) fun fa27 fh27 => ?_
        clear fh26 fa26
        refine Kn.skip fh27 rfl rfl (.some rfl rfl rfl) fun fa28 fh28 => ?_
        clear fh27 fa27
        refine Kn.skip fh28 rfl rfl (.some rfl rfl rfl) fun fa29 fh29 => ?_
        clear fh28 fa28
        refine Kn.pure fh29 rfl rfl .none (Kn.ex_pick fh29 (.tmp rfl) .const) fun fa30 fh30 => ?_
        clear fh29 fa29
        refine Kn.pure fh30 rfl rfl .none (Kn.ex_move fh30 (.tmp rfl)) fun fa31 fh31 => ?_
        clear fh30 fa30
        refine Kn.skip fh31 rfl rfl (.some rfl rfl rfl) fun fa32 fh32 => ?_
        clear fh31 fa31
        refine Kn.skip fh32 rfl rfl (.some rfl rfl rfl) fun fa33 fh33 => ?_
        clear fh32 fa32
        refine Kn.skip fh33 rfl rfl (.some rfl rfl rfl) fun fa34 fh34 => ?_
        clear fh33 fa33
        refine Kn.skip fh34 rfl rfl (.some rfl rfl rfl) fun fa35 fh35 => ?_
        clear fh34 fa34
        refine Kn.skip fh35 rfl rfl (.some rfl rfl rfl) fun fa36 fh36 => ?_
        clear fh35 fa35
        refine Kn.skip fh36 rfl rfl (.some rfl rfl rfl) fun fa37 fh37 => ?_
        clear fh36 fa36
        refine Kn.skip fh37 rfl rfl (.some rfl rfl rfl) fun fa38 fh38 => ?_
        clear fh37 fa37
        refine Kn.pure fh38 rfl rfl .none (Kn.ex_pick fh38 (.tmp rfl) .const) fun fa39 fh39 => ?_
        clear fh38 fa38
        refine Kn.pure fh39 rfl rfl .none (Kn.ex_move fh39 (.tmp rfl)) fun fa40 fh40 => ?_
        clear fh39 fa39
        refine Kn.skip fh40 rfl rfl (.some rfl rfl rfl) fun fa41 fh41 => ?_
        clear fh40 fa40
        refine Kn.skip fh41 rfl rfl (.some rfl rfl rfl) fun fa42 fh42 => ?_
        clear fh41 fa41
        refine Kn.skip fh42 rfl rfl (.some rfl rfl rfl) fun fa43 fh43 => ?_
        clear fh42 fa42
        refine Kn.skip fh43 rfl rfl (.some rfl rfl rfl) fun fa44 fh44 => ?_
        clear fh43 fa43
        refine Kn.skip fh44 rfl rfl (.some rfl rfl rfl) fun fa45 fh45 => ?_
        clear fh44 fa44
        refine Kn.skip fh45 rfl rfl (.some rfl rfl rfl) fun fa46 fh46 => ?_
        clear fh45 fa45
        refine Kn.skip fh46 rfl rfl (.some rfl rfl rfl) fun fa47 fh47 => ?_
        clear fh46 fa46
        refine Kn.pure fh47 rfl rfl .none (Kn.ex_pick fh47 (.tmp rfl) .const) fun fa48 fh48 => ?_
        clear fh47 fa47
        refine wpList_nil ?_
        refine hK12 _ _ ?_
        clear hK12 K12
        replace fh48 := fh48.cut (.cons (t := 52) rfl (.cons (t := 5) rfl (.cons (t := 0) rfl (.cons (t := 1) rfl .nil))))
        refine Kn.yes fh48 (.tmp rfl) ?_
        replace fh48 := fh48.cut (.cons (t := 5) rfl (.cons (t := 0) rfl (.cons (t := 1) rfl .nil)))
        refine wp_seq_k fun K13 hK13 => ?_
        refine wp_region_lit ?_
        refine Kn.pure fh48 rfl rfl .none (Kn.ex_move fh48 (.tmp rfl)) fun fa49 fh49 => ?_
        clear fh48 fa48
        refine Kn.pure fh49 rfl rfl .none (Kn.ex_assign fh49 (.tmp rfl)) fun fa50 fh50 => ?_
        clear fh49 fa49
        refine wpList_nil ?_
        refine hK13 _ _ ?_
        clear hK13 K13
        replace fh50 := fh50.cut (.cons (t := 4) rfl (.cons (t := 5) rfl (.cons (t := 0) rfl (.cons (t := 1) rfl .nil))))
        refine wp_ret ?_
        refine Kn.block_ret ?_
        refine Kn.then_ret ?_
        refine Kn.then_ret ?_
        refine Kn.block_ret ?_
        refine Kn.then_ret ?_
        exact Kn.ret1 fh50 rfl rfl ⟨by rw [if_pos (by rw [HF.out]; exact hlt), HF.out], rfl⟩
      by_cases b2 : y < 0
      · refine wp_seq_k fun K12 hK12 => ?_
        refine wp_region_lit ?_
        refine Kn.pure fh16 rfl rfl .none (Kn.ex_move fh16 (.tmp rfl)) fun fa17 fh17 => ?_
        clear fh16 fa16
        refine Kn.pure fh17 rfl rfl .none (Kn.ex_move fh17 (.tmp rfl)) fun fa18 fh18 => ?_
        clear fh17 fa17
        refine Kn.step fh18 rfl rfl .none (Kn.ex_indexAddr fh18 (.tmp rfl) (.tmp rfl)) fun Ko hKo => ?_
        go_simp
        try go_bits
        refine hKo _ _ fun fa19 fh19 => ?_
        clear hKo Ko fh18 fa18
        refine Kn.step fh19 rfl rfl .none (Kn.ex_fieldAddr fh19 (.tmp rfl)) fun Ko hKo => ?_
        go_simp
        try go_bits
        refine hKo _ _ fun fa20 fh20 => ?_
        clear hKo Ko fh19 fa19
        refine Kn.step fh20 rfl rfl .none (Kn.ex_load fh20 (.tmp rfl)) fun Ko hKo => ?_
        go_simp
        try go_bits
        refine hKo _ _ fun fa21 fh21 => ?_
        clear hKo Ko fh20 fa20
        refine Kn.step fh21 rfl rfl .none (Kn.ex_bin fh21 (.tmp rfl) .const) fun Ko hKo => ?_
        go_simp
        try go_bits
        refine hKo _ _ fun fa22 fh22 => ?_
        clear hKo Ko fh21 fa21
        refine Kn.pure fh22 rfl rfl .none (Kn.ex_move fh22 (.tmp rfl)) fun fa23 fh23 => ?_
        clear fh22 fa22
        refine Kn.pure fh23 rfl rfl (.some rfl rfl rfl) (Kn.ex_move fh23 (.tmp rfl)) fun fa24 fh24 => ?_
        clear fh23 fa23
        refine Kn.pure fh24 rfl rfl (.some rfl rfl rfl) (Kn.ex_move fh24 (.tmp rfl)) fun fa25 fh25 => ?_
        clear fh24 fa24
        refine Kn.step fh25 rfl rfl (.some rfl rfl rfl) (Kn.ex_indexAddr fh25 (.tmp rfl) (.tmp rfl)) fun Ko hKo => ?_
        go_simp
        try go_bits
        refine hKo _ _ fun fa26 fh26 => ?_
        clear hKo Ko fh25 fa25
        refine Kn.step fh26 rfl rfl (.some rfl rfl rfl) (Kn.ex_fieldAddr fh26 (.tmp rfl)) fun Ko hKo => ?_
        go_simp
        try go_bits
        refine hKo _ _ fun fa27 fh27 => ?_
        clear hKo Ko fh26 fa26
        refine Kn.step fh27 rfl rfl (.some rfl rfl rfl) (Kn.ex_load fh27 (.tmp rfl)) fun Ko hKo => ?_
        go_simp
        try go_bits
        refine hKo _ _ fun fa28 fh28 => ?_
        clear hKo Ko fh27 fa27
        refine Kn.step fh28 rfl rfl (.some rfl rfl rfl) (Kn.ex_bin fh28 (.tmp rfl) .const) fun Ko hKo => ?_
        go_simp
        try go_bits
        refine hKo _ _ fun fa29 fh29 => ?_
        clear hKo Ko fh28 fa28
        refine Kn.pure fh29 rfl rfl .none (Kn.ex_pick fh29 (.tmp rfl) (.tmp rfl)) fun fa30 fh30 => ?_
        clear fh29 fa29
        refine Kn.pure fh30 rfl rfl .none (Kn.ex_move fh30 (.tmp rfl)) fun fa31 fh31 => ?_
        clear fh30 fa30
        refine Kn.skip fh31 rfl rfl (.some rfl rfl rfl) fun fa32 fh32 => ?_
        clear fh31 fa31
        refine Kn.skip fh32 rfl rfl (.some rfl rfl rfl) fun fa33 fh33 => ?_
        clear fh32 fa32
        refine Kn.skip fh33 rfl rfl (.some rfl rfl rfl) fun fa34 fh34 => ?_
        clear fh33 fa33
        refine Kn.skip fh34 rfl rfl (.some rfl rfl rfl) fun fa35 fh35 => ?_
        clear fh34 fa34
        refine Kn.skip fh35 rfl rfl (.some rfl rfl rfl) fun fa36 fh36 => ?_
        clear fh35 fa35
        refine Kn.skip fh36 rfl rfl (.some rfl rfl rfl) fun fa37 fh37 => ?_
        clear fh36 fa36
        refine Kn.skip fh37 rfl rfl (.some rfl rfl rfl) fun fa38 fh38 => ?_
        clear fh37 fa37
        refine Kn.pure fh38 rfl rfl .none (Kn.ex_pick fh38 (.tmp rfl) .const) fun fa39 fh39 => ?_
        clear fh38 fa38
        refine Kn.pure fh39 rfl rfl .none (Kn.ex_move fh39 (.tmp rfl)) fun fa40 fh40 => ?_
        clear fh39 fa39
        refine Kn.skip fh40 rfl rfl (.some rfl rfl rfl) fun fa41 fh41 => ?_
        clear fh40 fa40
        refine Kn.skip fh41 rfl rfl (.some rfl rfl rfl) fun fa42 fh42 => ?_
        clear fh41 fa41
        refine Kn.skip fh42 rfl rfl (.some rfl rfl rfl) fun fa43 fh43 => ?_
        clear fh42 fa42
        refine Kn.skip fh43 rfl rfl (.some rfl rfl rfl) fun fa44 fh44 => ?_
        clear fh43 fa43
        refine Kn.skip fh44 rfl rfl (.some rfl rfl rfl) fun fa45 fh45 => ?_
        clear fh44 fa44
        refine Kn.skip fh45 rfl rfl (.some rfl rfl rfl) fun fa46 fh46 => ?_
        clear fh45 fa45
        refine Kn.skip fh46 rfl rfl (.some rfl rfl rfl) fun fa47 fh47 => ?_
        clear fh46 fa46
        refine Kn.pure fh47 rfl rfl .none (Kn.ex_pick fh47 (.tmp rfl) .const) fun fa48 fh48 => ?_
        clear fh47 fa47
        refine wpList_nil ?_
        refine hK12 _ _ ?_
        clear hK12 K12
        replace fh48 := fh48.cut (.cons (t := 52) rfl (.cons (t := 5) rfl (.cons (t := 0) rfl (.cons (t := 1) rfl .nil))))
        refine Kn.yes fh48 (.tmp rfl) ?_
        replace fh48 := fh48.cut (.cons (t := 5) rfl (.cons (t := 0) rfl (.cons (t := 1) rfl .nil)))
        refine wp_seq_k fun K13 hK13 => ?_
        refine wp_region_lit ?_
        refine Kn.pure fh48 rfl rfl .none (Kn.ex_move fh48 (.tmp rfl)) fun fa49 fh49 => ?_
        clear fh48 fa48
        refine Kn.pure fh49 rfl rfl .none (Kn.ex_assign fh49 (.tmp rfl)) fun fa50 fh50 => ?_
        clear fh49 fa49
        refine wpList_nil ?_
        refine hK13 _ _ ?_
        clear hK13 K13
        replace fh50 := fh50.cut (.cons (t := 4) rfl (.cons (t := 5) rfl (.cons (t := 0) rfl (.cons (t := 1) rfl .nil))))
        refine wp_ret ?_
        refine Kn.block_ret ?_
        refine Kn.then_ret ?_
        refine Kn.then_ret ?_
        refine Kn.block_ret ?_
        refine Kn.then_ret ?_
        exact Kn.ret1 fh50 rfl rfl ⟨by rw [if_pos (by rw [HF.out]; exact hlt), HF.out], rfl⟩
      by_cases b3 : n ≤ x
      · refine wp_seq_k fun K12 hK12 => ?_
        refine wp_region_lit ?_
        refine Kn.pure fh16 rfl rfl .none (Kn.ex_move fh16 (.tmp rfl)) fun fa17 fh17 => ?_
        clear fh16 fa16
        refine Kn.pure fh17 rfl rfl .none (Kn.ex_move fh17 (.tmp rfl)) fun fa18 fh18 => ?_
        clear fh17 fa17
        refine Kn.step fh18 rfl rfl .none (Kn.ex_indexAddr fh18 (.tmp rfl) (.tmp rfl)) fun Ko hKo => ?_
        go_simp
        try go_bits
        refine hKo _ _ fun fa19 fh19 => ?_
        clear hKo Ko fh18 fa18
        refine Kn.step fh19 rfl rfl .none (Kn.ex_fieldAddr fh19 (.tmp rfl)) fun Ko hKo => ?_
        go_simp
        try go_bits
        refine hKo _ _ fun fa20 fh20 => ?_
        clear hKo Ko fh19 fa19
        refine Kn.step fh20 rfl rfl .none (Kn.ex_load fh20 (.tmp rfl)) fun Ko hKo => ?_
        go_simp
        try go_bits
        refine hKo _ _ fun fa21 fh21 => ?_
        clear hKo Ko fh20 fa20
        refine Kn.step fh21 rfl rfl .none (Kn.ex_bin fh21 (.tmp rfl) .const) fun Ko hKo => ?_
        go_simp
        try go_bits
        refine hKo _ _ fun fa22 fh22 => ?_
        clear hKo Ko fh21 fa21
        refine Kn.pure fh22 rfl rfl .none (Kn.ex_move fh22 (.tmp rfl)) fun fa23 fh23 => ?_
        clear fh22 fa22
        refine Kn.pure fh23 rfl rfl (.some rfl rfl rfl) (Kn.ex_move fh23 (.tmp rfl)) fun fa24 fh24 => ?_
        clear fh23 fa23
        refine Kn.pure fh24 rfl rfl (.some rfl rfl rfl) (Kn.ex_move fh24 (.tmp rfl)) fun fa25 fh25 => ?_
        clear fh24 fa24
        refine Kn.step fh25 rfl rfl (.some rfl rfl rfl) (Kn.ex_indexAddr fh25 (.tmp rfl) (.tmp rfl)) fun Ko hKo => ?_
        go_simp
        try go_bits
        refine hKo _ _ fun fa26 fh26 => ?_
        clear hKo Ko fh25 fa25
        refine Kn.step fh26 rfl rfl (.some rfl rfl rfl) (Kn.ex_fieldAddr fh26 (.tmp rfl)) fun Ko hKo => ?_
        go_simp
        try go_bits
        refine hKo _ _ fun fa27 fh27 => ?_
        clear hKo Ko fh26 fa26
        refine Kn.step fh27 rfl rfl (.some rfl rfl rfl) (Kn.ex_load fh27 (.tmp rfl)) fun Ko hKo => ?_
        go_simp
        try go_bits
        refine hKo _ _ fun fa28 fh28 => ?_
        clear hKo Ko fh27 fa27
        refine Kn.step fh28 rfl rfl (.some rfl rfl rfl) (Kn.ex_bin fh28 (.tmp rfl) .const) fun Ko hKo => ?_
        go_simp
        try go_bits
        refine hKo _ _ fun fa29 fh29 => ?_
        clear hKo Ko fh28 fa28
        refine Kn.pure fh29 rfl rfl .none (Kn.ex_pick fh29 (.tmp rfl) (.tmp rfl)) fun fa30 fh30 => ?_
        clear fh29 fa29
        refine Kn.pure fh30 rfl rfl .none (Kn.ex_move fh30 (.tmp rfl)) fun fa31 fh31 => ?_
        clear fh30 fa30
        refine Kn.pure fh31 rfl rfl (.some rfl rfl rfl) (Kn.ex_move fh31 (.tmp rfl)) fun fa32 fh32 => ?_
        clear fh31 fa31
        refine Kn.pure fh32 rfl rfl (.some rfl rfl rfl) (Kn.ex_move fh32 (.tmp rfl)) fun fa33 fh33 => ?_
        clear fh32 fa32
        refine Kn.step fh33 rfl rfl (.some rfl rfl rfl) (Kn.ex_indexAddr fh33 (.tmp rfl) (.tmp rfl)) fun Ko hKo => ?_
        go_simp
        try go_bits
        refine hKo _ _ fun fa34 fh34 => ?_
        clear hKo Ko fh33 fa33
        refine Kn.step fh34 rfl rfl (.some rfl rfl rfl) (Kn.ex_fieldAddr fh34 (.tmp rfl)) fun Ko hKo => ?_
        go_simp
        try go_bits
        refine hKo _ _ fun fa35 fh35 => ?_
        clear hKo Ko fh34 fa34
        refine Kn.step fh35 rfl rfl (.some rfl rfl rfl) (Kn.ex_load fh35 (.tmp rfl)) fun Ko hKo => ?_
        go_simp
        try go_bits
        refine hKo _ _ fun fa36 fh36 => ?_
        clear hKo Ko fh35 fa35
        refine Kn.pure fh36 rfl rfl (.some rfl rfl rfl) (Kn.ex_move fh36 (.tmp rfl)) fun fa37 fh37 => ?_
        clear fh36 fa36
        refine Kn.step fh37 rfl rfl (.some rfl rfl rfl) (Kn.ex_bin fh37 (.tmp rfl) (.tmp rfl)) fun Ko hKo => ?_
        go_simp
        try go_bits
        refine hKo _ _ fun fa38 fh38 => ?_
        clear hKo Ko fh37 fa37
        refine Kn.pure fh38 rfl rfl .none (Kn.ex_pick fh38 (.tmp rfl) (.tmp rfl)) fun fa39 fh39 => ?_
        clear fh38 fa38
        refine Kn.pure fh39 rfl rfl .none (Kn.ex_move fh39 (.tmp rfl)) fun fa40 fh40 => ?_
        clear fh39 fa39
        refine Kn.skip fh40 rfl rfl (.some rfl rfl rfl) fun fa41 fh41 => ?_
        clear fh40 fa40
        refine Kn.skip fh41 rfl rfl (.some rfl rfl rfl) fun fa42 fh42 => ?_
        clear fh41 fa41
        refine Kn.skip fh42 rfl rfl (.some rfl rfl rfl) fun fa43 fh43 => ?_
        clear fh42 fa42
        refine Kn.skip fh43 rfl rfl (.some rfl rfl rfl) fun fa44 fh44 => ?_
        clear fh43 fa43
        refine Kn.skip fh44 rfl rfl (.some rfl rfl rfl) fun fa45 fh45 => ?_
        clear fh44 fa44
        refine Kn.skip fh45 rfl rfl (.some rfl rfl rfl) fun fa46 fh46 => ?_
        clear fh45 fa45
        refine Kn.skip fh46 rfl rfl (.some rfl rfl rfl) fun fa47 fh47 => ?_
        clear fh46 fa46
        refine Kn.pure fh47 rfl rfl .none (Kn.ex_pick fh47 (.tmp rfl) .const) fun fa48 fh48 => ?_
        clear fh47 fa47
        refine wpList_nil ?_
        refine hK12 _ _ ?_
        clear hK12 K12
        replace fh48 := fh48.cut (.cons (t := 52) rfl (.cons (t := 5) rfl (.cons (t := 0) rfl (.cons (t := 1) rfl .nil))))
        refine Kn.yes fh48 (.tmp rfl) ?_
        replace fh48 := fh48.cut (.cons (t := 5) rfl (.cons (t := 0) rfl (.cons (t := 1) rfl .nil)))
        refine wp_seq_k fun K13 hK13 => ?_
        refine wp_region_lit ?_
        refine Kn.pure fh48 rfl rfl .none (Kn.ex_move fh48 (.tmp rfl)) fun fa49 fh49 => ?_
        clear fh48 fa48
        refine Kn.pure fh49 rfl rfl .none (Kn.ex_assign fh49 (.tmp rfl)) fun fa50 fh50 => ?_
        clear fh49 fa49
        refine wpList_nil ?_
        refine hK13 _ _ ?_
        clear hK13 K13
        replace fh50 := fh50.cut (.cons (t := 4) rfl (.cons (t := 5) rfl (.cons (t := 0) rfl (.cons (t := 1) rfl .nil))))
        refine wp_ret ?_
        refine Kn.block_ret ?_
        refine Kn.then_ret ?_
        refine Kn.then_ret ?_
        refine Kn.block_ret ?_
        refine Kn.then_ret ?_
        exact Kn.ret1 fh50 rfl rfl ⟨by rw [if_pos (by rw [HF.out]; exact hlt), HF.out], rfl⟩
      have b4 : n ≤ y := by simp [badB, b1, b2, b3] at hb; exact hb
      refine wp_seq_k fun K12 hK12 => ?_
      refine wp_region_lit ?_
      refine Kn.pure fh16 rfl rfl .none (Kn.ex_move fh16 (.tmp rfl)) fun fa17 fh17 => ?_
      clear fh16 fa16
      refine Kn.pure fh17 rfl rfl .none (Kn.ex_move fh17 (.tmp rfl)) fun fa18 fh18 => ?_
      clear fh17 fa17
      refine Kn.step fh18 rfl rfl .none (Kn.ex_indexAddr fh18 (.tmp rfl) (.tmp rfl)) fun Ko hKo => ?_
      go_simp
      try go_bits
      refine hKo _ _ fun fa19 fh19 => ?_
      clear hKo Ko fh18 fa18
      refine Kn.step fh19 rfl rfl .none (Kn.ex_fieldAddr fh19 (.tmp rfl)) fun Ko hKo => ?_
      go_simp
      try go_bits
      refine hKo _ _ fun fa20 fh20 => ?_
      clear hKo Ko fh19 fa19
      refine Kn.step fh20 rfl rfl .none (Kn.ex_load fh20 (.tmp rfl)) fun Ko hKo => ?_
      go_simp
      try go_bits
      refine hKo _ _ fun fa21 fh21 => ?_
      clear hKo Ko fh20 fa20
      refine Kn.step fh21 rfl rfl .none (Kn.ex_bin fh21 (.tmp rfl) .const) fun Ko hKo => ?_
      go_simp
      try go_bits
      refine hKo _ _ fun fa22 fh22 => ?_
      clear hKo Ko fh21 fa21
      refine Kn.pure fh22 rfl rfl .none (Kn.ex_move fh22 (.tmp rfl)) fun fa23 fh23 => ?_
      clear fh22 fa22
      refine Kn.pure fh23 rfl rfl (.some rfl rfl rfl) (Kn.ex_move fh23 (.tmp rfl)) fun fa24 fh24 => ?_
      clear fh23 fa23
      refine Kn.pure fh24 rfl rfl (.some rfl rfl rfl) (Kn.ex_move fh24 (.tmp rfl)) fun fa25 fh25 => ?_
      clear fh24 fa24
      refine Kn.step fh25 rfl rfl (.some rfl rfl rfl) (Kn.ex_indexAddr fh25 (.tmp rfl) (.tmp rfl)) fun Ko hKo => ?_
      go_simp
      try go_bits
      refine hKo _ _ fun fa26 fh26 => ?_
      clear hKo Ko fh25 fa25
      refine Kn.step fh26 rfl rfl (.some rfl rfl rfl) (Kn.ex_fieldAddr fh26 (.tmp rfl)) fun Ko hKo => ?_
      go_simp
      try go_bits
      refine hKo _ _ fun fa27 fh27 => ?_
      clear hKo Ko fh26 fa26
      refine Kn.step fh27 rfl rfl (.some rfl rfl rfl) (Kn.ex_load fh27 (.tmp rfl)) fun Ko hKo => ?_
      go_simp
      try go_bits
      refine hKo _ _ fun fa28 fh28 => ?_
      clear hKo Ko fh27 fa27
      refine Kn.step fh28 rfl rfl (.some rfl rfl rfl) (Kn.ex_bin fh28 (.tmp rfl) .const) fun Ko hKo => ?_
      go_simp
      try go_bits
      refine hKo _ _ fun fa29 fh29 => ?_
      clear hKo Ko fh28 fa28
      refine Kn.pure fh29 rfl rfl .none (Kn.ex_pick fh29 (.tmp rfl) (.tmp rfl)) fun fa30 fh30 => ?_
      clear fh29 fa29
      refine Kn.pure fh30 rfl rfl .none (Kn.ex_move fh30 (.tmp rfl)) fun fa31 fh31 => ?_
      clear fh30 fa30
      refine Kn.pure fh31 rfl rfl (.some rfl rfl rfl) (Kn.ex_move fh31 (.tmp rfl)) fun fa32 fh32 => ?_
      clear fh31 fa31
      refine Kn.pure fh32 rfl rfl (.some rfl rfl rfl) (Kn.ex_move fh32 (.tmp rfl)) fun fa33 fh33 => ?_
      clear fh32 fa32
      refine Kn.step fh33 rfl rfl (.some rfl rfl rfl) (Kn.ex_indexAddr fh33 (.tmp rfl) (.tmp rfl)) fun Ko hKo => ?_
      go_simp
      try go_bits
      refine hKo _ _ fun fa34 fh34 => ?_
      clear hKo Ko fh33 fa33
      refine Kn.step fh34 rfl rfl (.some rfl rfl rfl) (Kn.ex_fieldAddr fh34 (.tmp rfl)) fun Ko hKo => ?_
      go_simp
      try go_bits
      refine hKo _ _ fun fa35 fh35 => ?_
      clear hKo Ko fh34 fa34
      refine Kn.step fh35 rfl rfl (.some rfl rfl rfl) (Kn.ex_load fh35 (.tmp rfl)) fun Ko hKo => ?_
      go_simp
      try go_bits
      refine hKo _ _ fun fa36 fh36 => ?_
      clear hKo Ko fh35 fa35
      refine Kn.pure fh36 rfl rfl (.some rfl rfl rfl) (Kn.ex_move fh36 (.tmp rfl)) fun fa37 fh37 => ?_
      clear fh36 fa36
      refine Kn.step fh37 rfl rfl (.some rfl rfl rfl) (Kn.ex_bin fh37 (.tmp rfl) (.tmp rfl)) fun Ko hKo => ?_
      go_simp
      try go_bits
      refine hKo _ _ fun fa38 fh38 => ?_
      clear hKo Ko fh37 fa37
      refine Kn.pure fh38 rfl rfl .none (Kn.ex_pick fh38 (.tmp rfl) (.tmp rfl)) fun fa39 fh39 => ?_
      clear fh38 fa38
      refine Kn.pure fh39 rfl rfl .none (Kn.ex_move fh39 (.tmp rfl)) fun fa40 fh40 => ?_
      clear fh39 fa39
      refine Kn.pure fh40 rfl rfl (.some rfl rfl rfl) (Kn.ex_move fh40 (.tmp rfl)) fun fa41 fh41 => ?_
      clear fh40 fa40
      refine Kn.pure fh41 rfl rfl (.some rfl rfl rfl) (Kn.ex_move fh41 (.tmp rfl)) fun fa42 fh42 => ?_
      clear fh41 fa41
      refine Kn.step fh42 rfl rfl (.some rfl rfl rfl) (Kn.ex_indexAddr fh42 (.tmp rfl) (.tmp rfl)) fun Ko hKo => ?_
      go_simp
      try go_bits
      refine hKo _ _ fun fa43 fh43 => ?_
      clear hKo Ko fh42 fa42
      refine Kn.step fh43 rfl rfl (.some rfl rfl rfl) (Kn.ex_fieldAddr fh43 (.tmp rfl)) fun Ko hKo => ?_
      go_simp
      try go_bits
      refine hKo _ _ fun fa44 fh44 => ?_
      clear hKo Ko fh43 fa43
      refine Kn.step fh44 rfl rfl (.some rfl rfl rfl) (Kn.ex_load fh44 (.tmp rfl)) fun Ko hKo => ?_
      go_simp
      try go_bits
      refine hKo _ _ fun fa45 fh45 => ?_
      clear hKo Ko fh44 fa44
      refine Kn.pure fh45 rfl rfl (.some rfl rfl rfl) (Kn.ex_move fh45 (.tmp rfl)) fun fa46 fh46 => ?_
      clear fh45 fa45
      refine Kn.step fh46 rfl rfl (.some rfl rfl rfl) (Kn.ex_bin fh46 (.tmp rfl) (.tmp rfl)) fun Ko hKo => ?_
      go_simp
      try go_bits
      refine hKo _ _ fun fa47 fh47 => ?_
      clear hKo Ko fh46 fa46
      refine Kn.pure fh47 rfl rfl .none (Kn.ex_pick fh47 (.tmp rfl) (.tmp rfl)) fun fa48 fh48 => ?_
      clear fh47 fa47
      refine wpList_nil ?_
      refine hK12 _ _ ?_
      clear hK12 K12
      replace fh48 := fh48.cut (.cons (t := 52) rfl (.cons (t := 5) rfl (.cons (t := 0) rfl (.cons (t := 1) rfl .nil))))
      refine Kn.yes fh48 (.tmp rfl) ?_
      replace fh48 := fh48.cut (.cons (t := 5) rfl (.cons (t := 0) rfl (.cons (t := 1) rfl .nil)))
      refine wp_seq_k fun K13 hK13 => ?_
      refine wp_region_lit ?_
      refine Kn.pure fh48 rfl rfl .none (Kn.ex_move fh48 (.tmp rfl)) fun fa49 fh49 => ?_
      clear fh48 fa48
      refine Kn.pure fh49 rfl rfl .none (Kn.ex_assign fh49 (.tmp rfl)) fun fa50 fh50 => ?_
      clear fh49 fa49
      refine wpList_nil ?_
      refine hK13 _ _ ?_
      clear hK13 K13
      replace fh50 := fh50.cut (.cons (t := 4) rfl (.cons (t := 5) rfl (.cons (t := 0) rfl (.cons (t := 1) rfl .nil))))
      refine wp_ret ?_
      refine Kn.block_ret ?_
      refine Kn.then_ret ?_
      refine Kn.then_ret ?_
      refine Kn.block_ret ?_
      refine Kn.then_ret ?_
      exact Kn.ret1 fh50 rfl rfl ⟨by rw [if_pos (by rw [HF.out]; exact hlt), HF.out], rfl⟩
    · have hb0 : badB n (x, y) = false := by simpa using hb
      have b1 : ¬ x < 0 := fun h => by simp [badB, h] at hb0
      have b2 : ¬ y < 0 := fun h => by simp [badB, h] at hb0
      have b3 : ¬ n ≤ x := fun h => by simp [badB, h] at hb0
      have b4 : ¬ n ≤ y := fun h => by simp [badB, h] at hb0
      have hkf2 : k < f := by
        rcases Nat.lt_or_ge k f with h | h
        · exact h
        · have e : f = k := by omega
          have := HB.out (by omega); rw [e, HX.out, hb0] at this; cases this
      clear hb hb0
      refine wp_seq_k fun K12 hK12 => ?_
      refine wp_region_lit ?_
      refine Kn.pure fh16 rfl rfl .none (Kn.ex_move fh16 (.tmp rfl)) fun fa17 fh17 => ?_
      clear fh16 fa16
      refine Kn.pure fh17 rfl rfl .none (Kn.ex_move fh17 (.tmp rfl)) fun fa18 fh18 => ?_
      clear fh17 fa17
      refine Kn.step fh18 rfl rfl .none (Kn.ex_indexAddr fh18 (.tmp rfl) (.tmp rfl)) fun Ko hKo => ?_
      go_simp
      try go_bits
      refine hKo _ _ fun fa19 fh19 => ?_
      clear hKo Ko fh18 fa18
      refine Kn.step fh19 rfl rfl .none (Kn.ex_fieldAddr fh19 (.tmp rfl)) fun Ko hKo => ?_
      go_simp
      try go_bits
      refine hKo _ _ fun fa20 fh20 => ?_
      clear hKo Ko fh19 fa19
      refine Kn.step fh20 rfl rfl .none (Kn.ex_load fh20 (.tmp rfl)) fun Ko hKo => ?_
      go_simp
      try go_bits
      refine hKo _ _ fun fa21 fh21 => ?_
      clear hKo Ko fh20 fa20
      refine Kn.step fh21 rfl rfl .none (Kn.ex_bin fh21 (.tmp rfl) .const) fun Ko hKo => ?_
      go_simp
      try go_bits
      refine hKo _ _ fun fa22 fh22 => ?_
      clear hKo Ko fh21 fa21
      refine Kn.pure fh22 rfl rfl .none (Kn.ex_move fh22 (.tmp rfl)) fun fa23 fh23 => ?_
      clear fh22 fa22
      refine Kn.pure fh23 rfl rfl (.some rfl rfl rfl) (Kn.ex_move fh23 (.tmp rfl)) fun fa24 fh24 => ?_
      clear fh23 fa23
      refine Kn.pure fh24 rfl rfl (.some rfl rfl rfl) (Kn.ex_move fh24 (.tmp rfl)) fun fa25 fh25 => ?_
      clear fh24 fa24
      refine Kn.step fh25 rfl rfl (.some rfl rfl rfl) (Kn.ex_indexAddr fh25 (.tmp rfl) (.tmp rfl)) fun Ko hKo => ?_
      go_simp
      try go_bits
      refine hKo _ _ fun fa26 fh26 => ?_
      clear hKo Ko fh25 fa25
      refine Kn.step fh26 rfl rfl (.some rfl rfl rfl) (Kn.ex_fieldAddr fh26 (.tmp rfl)) fun Ko hKo => ?_
      go_simp
      try go_bits
      refine hKo _ _ fun fa27 fh27 => ?_
      clear hKo Ko fh26 fa26
      refine Kn.step fh27 rfl rfl (.some rfl rfl rfl) (Kn.ex_load fh27 (.tmp rfl)) fun Ko hKo => ?_
      go_simp
      try go_bits
      refine hKo _ _ fun fa28 fh28 => ?_
      clear hKo Ko fh27 fa27
      refine Kn.step fh28 rfl rfl (.some rfl rfl rfl) (Kn.ex_bin fh28 (.tmp rfl) .const) fun Ko hKo => ?_
      go_simp
      try go_bits
      refine hKo _ _ fun fa29 fh29 => ?_
      clear hKo Ko fh28 fa28
      refine Kn.pure fh29 rfl rfl .none (Kn.ex_pick fh29 (.tmp rfl) (.tmp rfl)) fun fa30 fh30 => ?_
      clear fh29 fa29
      refine Kn.pure fh30 rfl rfl .none (Kn.ex_move fh30 (.tmp rfl)) fun fa31 fh31 => ?_
      clear fh30 fa30
      refine Kn.pure fh31 rfl rfl (.some rfl rfl rfl) (Kn.ex_move fh31 (.tmp rfl)) fun fa32 fh32 => ?_
      clear fh31 fa31
      refine Kn.pure fh32 rfl rfl (.some rfl rfl rfl) (Kn.ex_move fh32 (.tmp rfl)) fun fa33 fh33 => ?_
      clear fh32 fa32
      refine Kn.step fh33 rfl rfl (.some rfl rfl rfl) (Kn.ex_indexAddr fh33 (.tmp rfl) (.tmp rfl)) fun Ko hKo => ?_
      go_simp
      try go_bits
      refine hKo _ _ fun fa34 fh34 => ?_
      clear hKo Ko fh33 fa33
      refine Kn.step fh34 rfl rfl (.some rfl rfl rfl) (Kn.ex_fieldAddr fh34 (.tmp rfl)) fun Ko hKo => ?_
      go_simp
      try go_bits
      refine hKo _ _ fun fa35 fh35 => ?_
      clear hKo Ko fh34 fa34
      refine Kn.step fh35 rfl rfl (.some rfl rfl rfl) (Kn.ex_load fh35 (.tmp rfl)) fun Ko hKo => ?_
      go_simp
      try go_bits
      refine hKo _ _ fun fa36 fh36 => ?_
      clear hKo Ko fh35 fa35
      refine Kn.pure fh36 rfl rfl (.some rfl rfl rfl) (Kn.ex_move fh36 (.tmp rfl)) fun fa37 fh37 => ?_
      clear fh36 fa36
      refine Kn.step fh37 rfl rfl (.some rfl rfl rfl) (Kn.ex_bin fh37 (.tmp rfl) (.tmp rfl)) fun Ko hKo => ?_
      go_simp
      try go_bits
      refine hKo _ _ fun fa38 fh38 => ?_
      clear hKo Ko fh37 fa37
      refine Kn.pure fh38 rfl rfl .none (Kn.ex_pick fh38 (.tmp rfl) (.tmp rfl)) fun fa39 fh39 => ?_
      clear fh38 fa38
      refine Kn.pure fh39 rfl rfl .none (Kn.ex_move fh39 (.tmp rfl)) fun fa40 fh40 => ?_
      clear fh39 fa39
      refine Kn.pure fh40 rfl rfl (.some rfl rfl rfl) (Kn.ex_move fh40 (.tmp rfl)) fun fa41 fh41 => ?_
      clear fh40 fa40
      refine Kn.pure fh41 rfl rfl (.some rfl rfl rfl) (Kn.ex_move fh41 (.tmp rfl)) fun fa42 fh42 => ?_
      clear fh41 fa41
      refine Kn.step fh42 rfl rfl (.some rfl rfl rfl) (Kn.ex_indexAddr fh42 (.tmp rfl) (.tmp rfl)) fun Ko hKo => ?_
      go_simp
      try go_bits
      refine hKo _ _ fun fa43 fh43 => ?_
      clear hKo Ko fh42 fa42
      refine Kn.step fh43 rfl rfl (.some rfl rfl rfl) (Kn.ex_fieldAddr fh43 (.tmp rfl)) fun Ko hKo => ?_
      go_simp
      try go_bits
      refine hKo _ _ fun fa44 fh44 => ?_
      clear hKo Ko fh43 fa43
      refine Kn.step fh44 rfl rfl (.some rfl rfl rfl) (Kn.ex_load fh44 (.tmp rfl)) fun Ko hKo => ?_
      go_simp
      try go_bits
      refine hKo _ _ fun fa45 fh45 => ?_
      clear hKo Ko fh44 fa44
      refine Kn.pure fh45 rfl rfl (.some rfl rfl rfl) (Kn.ex_move fh45 (.tmp rfl)) fun fa46 fh46 => ?_
      clear fh45 fa45
      refine Kn.step fh46 rfl rfl (.some rfl rfl rfl) (Kn.ex_bin fh46 (.tmp rfl) (.tmp rfl)) fun Ko hKo => ?_
      go_simp
      try go_bits
      refine hKo _ _ fun fa47 fh47 => ?_
      clear hKo Ko fh46 fa46
      refine Kn.pure fh47 rfl rfl .none (Kn.ex_pick fh47 (.tmp rfl) (.tmp rfl)) fun fa48 fh48 => ?_
      clear fh47 fa47
      refine wpList_nil ?_
      refine hK12 _ _ ?_
      clear hK12 K12
      replace fh48 := fh48.cut (.cons (t := 52) rfl (.cons (t := 5) rfl (.cons (t := 0) rfl (.cons (t := 1) rfl .nil))))
      refine Kn.no fh48 (.tmp rfl) ?_
      refine wp_skip ?_
      refine Kn.block_normal ?_
      refine hK11 _ _ ?_
      clear hK11 K11
      replace fh48 := fh48.cut (.cons (t := 5) rfl (.cons (t := 0) rfl (.cons (t := 1) rfl .nil)))
      refine wp_region_lit ?_
      refine Kn.pure fh48 rfl rfl .none (Kn.ex_move fh48 (.tmp rfl)) fun fa49 fh49 => ?_
      clear fh48 fa48
      refine Kn.step fh49 rfl rfl .none (Kn.ex_bin fh49 (.tmp rfl) .const) fun Ko hKo => ?_
      go_simp
      try go_bits
      refine hKo _ _ fun fa50 fh50 => ?_
      clear hKo Ko fh49 fa49
      refine Kn.pure fh50 rfl rfl .none (Kn.ex_assign fh50 (.tmp rfl)) fun fa51 fh51 => ?_
      clear fh50 fa50
      refine wpList_nil ?_
      replace fh51 := fh51.cut (.cons (t := 5) rfl (.cons (t := 0) rfl (.cons (t := 1) rfl .nil)))
      exact hKl8 (m8 - 1) _ _ (by omega) ⟨k + 1, fh51.cut (.turn (t := 5) rfl (by go_num) (.cons (t := 0) rfl (.cons (t := 1) rfl .nil))), by omega, by omega, rfl⟩
  · have hf : ¬ f < xs.length := by omega
    have HF := Lib.hid hf
    clear hf
    refine wp_seq_k fun K9 hK9 => ?_
    refine wp_seq_k fun K10 hK10 => ?_
    refine wp_region_lit ?_
    refine Kn.pure fh12 rfl rfl .none (Kn.ex_move fh12 (.tmp rfl)) fun fa13 fh13 => ?_
    clear fh12 fa12
    refine Kn.pure fh13 rfl rfl .none (Kn.ex_move fh13 (.tmp rfl)) fun fa14 fh14 => ?_
    clear fh13 fa13
    refine Kn.step fh14 rfl rfl .none (Kn.ex_len fh14 (.tmp rfl)) fun Ko hKo => ?_
    go_simp
    try go_bits
    refine hKo _ _ fun fa15 fh15 => ?_
    clear hKo Ko fh14 fa14
    refine Kn.step fh15 rfl rfl .none (Kn.ex_bin fh15 (.tmp rfl) (.tmp rfl)) fun Ko hKo => ?_
    go_simp
    try go_bits
    refine hKo _ _ fun fa16 fh16 => ?_
    clear hKo Ko fh15 fa15
    refine wpList_nil ?_
    refine hK10 _ _ ?_
    clear hK10 K10
    replace fh16 := fh16.cut (.cons (t := 18) rfl (.cons (t := 5) rfl (.cons (t := 0) rfl (.cons (t := 1) rfl .nil))))
    refine Kn.no fh16 (.tmp rfl) ?_
    replace fh16 := fh16.cut (.cons (t := 5) rfl (.cons (t := 0) rfl (.cons (t := 1) rfl .nil)))
    refine wp_exit ?_
    refine Kn.then_exit ?_
    clear hK9 K9
    refine Kn.then_exit ?_
    clear hKl8 Kl8
    refine Kn.block_exit ?_
    refine hK6 _ _ ?_
    clear hK6 K6
    replace fh16 := fh16.cut .nil
    refine wp_seq_k fun K11 hK11 => ?_
    refine wp_region_lit ?_
    refine Kn.pure fh16 rfl rfl .none (Kn.ex_assign fh16 .const) fun fa17 fh17 => ?_
    clear fh16 fa16
    refine wpList_nil ?_
    refine hK11 _ _ ?_
    clear hK11 K11
    refine wp_ret ?_
    exact Kn.ret1 fh17 rfl rfl ⟨by rw [if_neg HF.out], rfl⟩
end Go.Proofs.YtinjecaanjeapaaDoor.Edg
