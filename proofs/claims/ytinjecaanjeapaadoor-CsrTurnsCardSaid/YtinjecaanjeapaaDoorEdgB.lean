/- Contracts of the program's edges: Equal, Same, Degree, isNode, fault (written by gen_edgb.py). -/
import Derived.Test.YtinjecaanjeapaaDoorEdgA
namespace Go.Proofs.YtinjecaanjeapaaDoor.Edg
open Go Go.RowKit Go.Lib
set_option maxRecDepth 100000 in
set_option maxHeartbeats 2000000 in
theorem isNode_a (n v : Int) (w : World) (h : ¬ 0 ≤ v) :
    Calls Tryd.prog 46 #[.int .i64 n, .int .i64 v] w fun e w' => e = .returned (.bool false) ∧ w = w' := by
  refine Kn.calls Tryd.func46 rfl Tryd.ntmps46 rfl (.cons (t := 0) rfl (.cons (t := 1) rfl .nil)) fun fa0 fh0 => ?_
  refine wp_seq_k fun K1 hK1 => ?_
  refine wp_region_lit ?_
  refine Kn.pure fh0 rfl rfl .none (Kn.ex_assign fh0 .const) fun fa1 fh1 => ?_
  clear fh0 fa0
  refine wpList_nil ?_
  refine hK1 _ _ ?_
  clear hK1 K1
  refine wp_seq_k fun K2 hK2 => ?_
  refine wp_region_lit ?_
  refine Kn.pure fh1 rfl rfl .none (Kn.ex_move fh1 (.tmp rfl)) fun fa2 fh2 => ?_
  clear fh1 fa1
  refine Kn.step fh2 rfl rfl .none (Kn.ex_bin fh2 (.tmp rfl) .const) fun Ko hKo => ?_
  go_simp
  try go_bits
  refine hKo _ _ fun fa3 fh3 => ?_
  clear hKo Ko fh2 fa2
  refine Kn.pure fh3 rfl rfl .none (Kn.ex_move fh3 (.tmp rfl)) fun fa4 fh4 => ?_
  clear fh3 fa3
  refine Kn.skip fh4 rfl rfl (.some rfl rfl rfl) fun fa5 fh5 => ?_
  clear fh4 fa4
  refine Kn.skip fh5 rfl rfl (.some rfl rfl rfl) fun fa6 fh6 => ?_
  clear fh5 fa5
  refine Kn.skip fh6 rfl rfl (.some rfl rfl rfl) fun fa7 fh7 => ?_
  clear fh6 fa6
  refine Kn.pure fh7 rfl rfl .none (Kn.ex_pick fh7 (.tmp rfl) .const) fun fa8 fh8 => ?_
  clear fh7 fa7
  refine Kn.pure fh8 rfl rfl .none (Kn.ex_assign fh8 (.tmp rfl)) fun fa9 fh9 => ?_
  clear fh8 fa8
  refine wpList_nil ?_
  refine hK2 _ _ ?_
  clear hK2 K2
  replace fh9 := fh9.cut (.cons (t := 4) rfl .nil)
  refine wp_ret ?_
  exact Kn.ret1 fh9 rfl rfl ⟨rfl, rfl⟩

set_option maxRecDepth 100000 in
set_option maxHeartbeats 2000000 in
theorem isNode_b (n v : Int) (w : World) (h : 0 ≤ v) (h2 : ¬ v < n) :
    Calls Tryd.prog 46 #[.int .i64 n, .int .i64 v] w fun e w' => e = .returned (.bool false) ∧ w = w' := by
  refine Kn.calls Tryd.func46 rfl Tryd.ntmps46 rfl (.cons (t := 0) rfl (.cons (t := 1) rfl .nil)) fun fa0 fh0 => ?_
  refine wp_seq_k fun K1 hK1 => ?_
  refine wp_region_lit ?_
  refine Kn.pure fh0 rfl rfl .none (Kn.ex_assign fh0 .const) fun fa1 fh1 => ?_
  clear fh0 fa0
  refine wpList_nil ?_
  refine hK1 _ _ ?_
  clear hK1 K1
  refine wp_seq_k fun K2 hK2 => ?_
  refine wp_region_lit ?_
  refine Kn.pure fh1 rfl rfl .none (Kn.ex_move fh1 (.tmp rfl)) fun fa2 fh2 => ?_
  clear fh1 fa1
  refine Kn.step fh2 rfl rfl .none (Kn.ex_bin fh2 (.tmp rfl) .const) fun Ko hKo => ?_
  go_simp
  try go_bits
  refine hKo _ _ fun fa3 fh3 => ?_
  clear hKo Ko fh2 fa2
  refine Kn.pure fh3 rfl rfl .none (Kn.ex_move fh3 (.tmp rfl)) fun fa4 fh4 => ?_
  clear fh3 fa3
  refine Kn.pure fh4 rfl rfl (.some rfl rfl rfl) (Kn.ex_move fh4 (.tmp rfl)) fun fa5 fh5 => ?_
  clear fh4 fa4
  refine Kn.pure fh5 rfl rfl (.some rfl rfl rfl) (Kn.ex_move fh5 (.tmp rfl)) fun fa6 fh6 => ?_
  clear fh5 fa5
  refine Kn.step fh6 rfl rfl (.some rfl rfl rfl) (Kn.ex_bin fh6 (.tmp rfl) (.tmp rfl)) fun Ko hKo => ?_
  go_simp
  try go_bits
  refine hKo _ _ fun fa7 fh7 => ?_
  clear hKo Ko fh6 fa6
  refine Kn.pure fh7 rfl rfl .none (Kn.ex_pick fh7 (.tmp rfl) (.tmp rfl)) fun fa8 fh8 => ?_
  clear fh7 fa7
  refine Kn.pure fh8 rfl rfl .none (Kn.ex_assign fh8 (.tmp rfl)) fun fa9 fh9 => ?_
  clear fh8 fa8
  refine wpList_nil ?_
  refine hK2 _ _ ?_
  clear hK2 K2
  replace fh9 := fh9.cut (.cons (t := 4) rfl .nil)
  refine wp_ret ?_
  exact Kn.ret1 fh9 rfl rfl ⟨rfl, rfl⟩

set_option maxRecDepth 100000 in
set_option maxHeartbeats 2000000 in
theorem isNode_c (n v : Int) (w : World) (h : 0 ≤ v) (h2 : v < n) :
    Calls Tryd.prog 46 #[.int .i64 n, .int .i64 v] w fun e w' => e = .returned (.bool true) ∧ w = w' := by
  refine Kn.calls Tryd.func46 rfl Tryd.ntmps46 rfl (.cons (t := 0) rfl (.cons (t := 1) rfl .nil)) fun fa0 fh0 => ?_
  refine wp_seq_k fun K1 hK1 => ?_
  refine wp_region_lit ?_
  refine Kn.pure fh0 rfl rfl .none (Kn.ex_assign fh0 .const) fun fa1 fh1 => ?_
  clear fh0 fa0
  refine wpList_nil ?_
  refine hK1 _ _ ?_
  clear hK1 K1
  refine wp_seq_k fun K2 hK2 => ?_
  refine wp_region_lit ?_
  refine Kn.pure fh1 rfl rfl .none (Kn.ex_move fh1 (.tmp rfl)) fun fa2 fh2 => ?_
  clear fh1 fa1
  refine Kn.step fh2 rfl rfl .none (Kn.ex_bin fh2 (.tmp rfl) .const) fun Ko hKo => ?_
  go_simp
  try go_bits
  refine hKo _ _ fun fa3 fh3 => ?_
  clear hKo Ko fh2 fa2
  refine Kn.pure fh3 rfl rfl .none (Kn.ex_move fh3 (.tmp rfl)) fun fa4 fh4 => ?_
  clear fh3 fa3
  refine Kn.pure fh4 rfl rfl (.some rfl rfl rfl) (Kn.ex_move fh4 (.tmp rfl)) fun fa5 fh5 => ?_
  clear fh4 fa4
  refine Kn.pure fh5 rfl rfl (.some rfl rfl rfl) (Kn.ex_move fh5 (.tmp rfl)) fun fa6 fh6 => ?_
  clear fh5 fa5
  refine Kn.step fh6 rfl rfl (.some rfl rfl rfl) (Kn.ex_bin fh6 (.tmp rfl) (.tmp rfl)) fun Ko hKo => ?_
  go_simp
  try go_bits
  refine hKo _ _ fun fa7 fh7 => ?_
  clear hKo Ko fh6 fa6
  refine Kn.pure fh7 rfl rfl .none (Kn.ex_pick fh7 (.tmp rfl) (.tmp rfl)) fun fa8 fh8 => ?_
  clear fh7 fa7
  refine Kn.pure fh8 rfl rfl .none (Kn.ex_assign fh8 (.tmp rfl)) fun fa9 fh9 => ?_
  clear fh8 fa8
  refine wpList_nil ?_
  refine hK2 _ _ ?_
  clear hK2 K2
  replace fh9 := fh9.cut (.cons (t := 4) rfl .nil)
  refine wp_ret ?_
  exact Kn.ret1 fh9 rfl rfl ⟨rfl, rfl⟩

theorem isNode_any (n v : Int) (w : World) : Calls Tryd.prog 46 #[.int .i64 n, .int .i64 v] w fun e w' => e = .returned (.bool (decide (0 ≤ v) && decide (v < n))) ∧ w = w' := by
  by_cases h : 0 ≤ v
  · by_cases h2 : v < n
    · rw [decide_eq_true h, decide_eq_true h2]; exact isNode_c n v w h h2
    · rw [decide_eq_true h, decide_eq_false h2]; exact isNode_b n v w h h2
  · rw [decide_eq_false h]; exact isNode_a n v w h
/-- An error at a place. -/
def faultV (p : Int) (c : Int) : Value := .iface 60 (.agg #[.int .i64 p, .iface 56 (.int .i64 c)])

set_option maxRecDepth 100000 in
set_option maxHeartbeats 2000000 in
theorem fault_any (p c : Int) (w : World) : Calls Tryd.prog 45 #[.int .i64 p, .int .i64 c] w fun e w' => e = .returned (faultV p c) ∧ w = w' := by
  refine Kn.calls Tryd.func45 rfl Tryd.ntmps45 rfl (.cons (t := 0) rfl (.cons (t := 1) rfl .nil)) fun fa0 fh0 => ?_
  refine wp_seq_k fun K1 hK1 => ?_
  refine wp_region_lit ?_
  refine Kn.pure fh0 rfl rfl .none (Kn.ex_assign fh0 .const) fun fa1 fh1 => ?_
  clear fh0 fa0
  refine wpList_nil ?_
  refine hK1 _ _ ?_
  clear hK1 K1
  refine wp_seq_k fun K2 hK2 => ?_
  refine wp_region_lit ?_
  refine Kn.pure fh1 rfl rfl .none (Kn.ex_move fh1 (.tmp rfl)) fun fa2 fh2 => ?_
  clear fh1 fa1
  refine Kn.pure fh2 rfl rfl .none (Kn.ex_move fh2 (.tmp rfl)) fun fa3 fh3 => ?_
  clear fh2 fa2
  refine Kn.step fh3 rfl rfl .none (Kn.ex_makeInterface fh3 (.tmp rfl)) fun Ko hKo => ?_
  go_simp
  try go_bits
  refine hKo _ _ fun fa4 fh4 => ?_
  clear hKo Ko fh3 fa3
  refine Kn.step fh4 rfl rfl .none (Kn.ex_build fh4 (.cons (.tmp rfl) (.cons (.tmp rfl) .nil))) fun Ko hKo => ?_
  go_simp
  try go_bits
  refine hKo _ _ fun fa5 fh5 => ?_
  clear hKo Ko fh4 fa4
  refine Kn.step fh5 rfl rfl .none (Kn.ex_makeInterface fh5 (.tmp rfl)) fun Ko hKo => ?_
  go_simp
  try go_bits
  refine hKo _ _ fun fa6 fh6 => ?_
  clear hKo Ko fh5 fa5
  refine Kn.pure fh6 rfl rfl .none (Kn.ex_assign fh6 (.tmp rfl)) fun fa7 fh7 => ?_
  clear fh6 fa6
  refine wpList_nil ?_
  refine hK2 _ _ ?_
  clear hK2 K2
  replace fh7 := fh7.cut (.cons (t := 4) rfl .nil)
  refine wp_ret ?_
  exact Kn.ret1 fh7 rfl rfl ⟨rfl, rfl⟩

/-- How many of the first k edges go from v. -/
def degU (xs : List (Int × Int)) (v : Int) (k : Nat) : Nat := (xs.take k).countP (fun e => e.1 == v)
theorem degU_le (xs : List (Int × Int)) (v : Int) (k : Nat) : degU xs v k ≤ xs.length := Nat.le_trans (List.countP_le_length ..) (by simp; omega)
theorem degU_succ (xs : List (Int × Int)) (v : Int) (k : Nat) (h : k < xs.length) : degU xs v (k + 1) = degU xs v k + (if (ed xs k).1 = v then 1 else 0) := by
  unfold degU
  rw [take_ed xs k h, List.countP_append]
  by_cases e : (ed xs k).1 = v <;> simp [e]

/-- Edges, turned. -/
def turn (xs : List (Int × Int)) : List (Int × Int) := xs.map fun e => (e.2, e.1)
theorem turn_len (xs : List (Int × Int)) : (turn xs).length = xs.length := by simp [turn]
theorem turn_ed (xs : List (Int × Int)) (i : Nat) (h : i < xs.length) : ed (turn xs) i = ((ed xs i).2, (ed xs i).1) := by
  rw [ed_at _ _ (by rw [turn_len]; exact h), ed_at _ _ h]; simp [turn]
theorem turn_turn (xs : List (Int × Int)) : turn (turn xs) = xs := by simp [turn, Function.comp_def]

end Go.Proofs.YtinjecaanjeapaaDoor.Edg
