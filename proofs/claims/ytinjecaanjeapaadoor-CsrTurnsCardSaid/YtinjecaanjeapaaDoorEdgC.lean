/- Contracts of the program's edges: Check (written by gen_edgc.py). -/
import Derived.Test.YtinjecaanjeapaaDoorEdgB
namespace Go.Proofs.YtinjecaanjeapaaDoor.Edg
open Go Go.RowKit Go.Lib

theorem badB_iff (n : Int) (e : Int × Int) : badB n e = false ↔ (0 ≤ e.1 ∧ e.1 < n) ∧ (0 ≤ e.2 ∧ e.2 < n) := by
  unfold badB
  simp only [Bool.or_eq_false_iff, decide_eq_false_iff_not]
  omega

set_option maxRecDepth 100000 in
set_option maxHeartbeats 2000000 in
theorem check_neg (n : Int) (A : Option Addr) (c : Nat) (xs : List (Int × Int)) (w : World) (h : n < 0) :
    Calls Tryd.prog 34 #[.int .i64 n, .slice A xs.length c] w fun e w' => e = .returned (faultV (-1) 10) ∧ w = w' := by
  refine Kn.calls Tryd.func34 rfl Tryd.ntmps34 rfl (.cons (t := 0) rfl (.cons (t := 1) rfl .nil)) fun fa0 fh0 => ?_
  refine wp_seq_k fun K1 hK1 => ?_
  refine wp_region_lit ?_
  refine Kn.pure fh0 rfl rfl .none (Kn.ex_assign fh0 .const) fun fa1 fh1 => ?_
  clear fh0 fa0
  refine wpList_nil ?_
  refine hK1 _ _ ?_
  clear hK1 K1
  refine wp_seq_k fun K2 hK2 => ?_
  refine wp_seq_k fun K3 hK3 => ?_
  refine wp_region_lit ?_
  refine Kn.pure fh1 rfl rfl .none (Kn.ex_move fh1 (.tmp rfl)) fun fa2 fh2 => ?_
  clear fh1 fa1
  refine Kn.step fh2 rfl rfl .none (Kn.ex_bin fh2 (.tmp rfl) .const) fun Ko hKo => ?_
  go_simp
  try go_bits
  refine hKo _ _ fun fa3 fh3 => ?_
  clear hKo Ko fh2 fa2
  refine Kn.pure fh3 rfl rfl .none (Kn.ex_move fh3 (.tmp rfl)) fun fa4 fh4 => ?_
  clear fh3 fa3
  refine Kn.skip fh4 rfl rfl (.some rfl rfl rfl) fun fa5 fh5 => ?_
  clear fh4 fa4
  refine Kn.skip fh5 rfl rfl (.some rfl rfl rfl) fun fa6 fh6 => ?_
  clear fh5 fa5
  refine Kn.pure fh6 rfl rfl .none (Kn.ex_pick fh6 (.tmp rfl) .const) fun fa7 fh7 => ?_
  clear fh6 fa6
  refine wpList_nil ?_
  refine hK3 _ _ ?_
  clear hK3 K3
  replace fh7 := fh7.cut (.cons (t := 12) rfl (.cons (t := 4) rfl (.cons (t := 0) rfl (.cons (t := 1) rfl .nil))))
  refine Kn.yes fh7 (.tmp rfl) ?_
  replace fh7 := fh7.cut (.cons (t := 4) rfl (.cons (t := 0) rfl (.cons (t := 1) rfl .nil)))
  refine wp_seq_k fun K4 hK4 => ?_
  refine wp_region_lit ?_
  refine Kn.call fh7 rfl rfl .none (Kn.ex_call fh7 (.cons .const (.cons .const .nil))) Tryd.call45 (fault_any (-1) 10 w) fun e w1 hp => ?_
  obtain ⟨rfl, rfl⟩ := hp
  refine ⟨_, rfl, fun fa8 fh8 => ?_⟩
  clear fh7 fa7
  refine Kn.pure fh8 rfl rfl .none (Kn.ex_assign fh8 (.tmp rfl)) fun fa9 fh9 => ?_
  clear fh8 fa8
  refine wpList_nil ?_
  refine hK4 _ _ ?_
  clear hK4 K4
  replace fh9 := fh9.cut (.cons (t := 4) rfl (.cons (t := 0) rfl (.cons (t := 1) rfl .nil)))
  refine wp_ret ?_
  refine Kn.then_ret ?_
  exact Kn.ret1 fh9 rfl rfl ⟨rfl, rfl⟩

set_option maxRecDepth 100000 in
set_option maxHeartbeats 2000000 in
theorem check_big (n : Int) (A : Option Addr) (c : Nat) (xs : List (Int × Int)) (w : World) (h : ¬ n < 0) (h2 : 4096 < n) :
    Calls Tryd.prog 34 #[.int .i64 n, .slice A xs.length c] w fun e w' => e = .returned (faultV (-1) 10) ∧ w = w' := by
  refine Kn.calls Tryd.func34 rfl Tryd.ntmps34 rfl (.cons (t := 0) rfl (.cons (t := 1) rfl .nil)) fun fa0 fh0 => ?_
  refine wp_seq_k fun K1 hK1 => ?_
  refine wp_region_lit ?_
  refine Kn.pure fh0 rfl rfl .none (Kn.ex_assign fh0 .const) fun fa1 fh1 => ?_
  clear fh0 fa0
  refine wpList_nil ?_
  refine hK1 _ _ ?_
  clear hK1 K1
  refine wp_seq_k fun K2 hK2 => ?_
  refine wp_seq_k fun K3 hK3 => ?_
  refine wp_region_lit ?_
  refine Kn.pure fh1 rfl rfl .none (Kn.ex_move fh1 (.tmp rfl)) fun fa2 fh2 => ?_
  clear fh1 fa1
  refine Kn.step fh2 rfl rfl .none (Kn.ex_bin fh2 (.tmp rfl) .const) fun Ko hKo => ?_
  go_simp
  try go_bits
  refine hKo _ _ fun fa3 fh3 => ?_
  clear hKo Ko fh2 fa2
  refine Kn.pure fh3 rfl rfl .none (Kn.ex_move fh3 (.tmp rfl)) fun fa4 fh4 => ?_
  clear fh3 fa3
  refine Kn.pure fh4 rfl rfl (.some rfl rfl rfl) (Kn.ex_move fh4 (.tmp rfl)) fun fa5 fh5 => ?_
  clear fh4 fa4
  refine Kn.step fh5 rfl rfl (.some rfl rfl rfl) (Kn.ex_bin fh5 (.tmp rfl) .const) fun Ko hKo => ?_
  go_simp
  try go_bits
  refine hKo _ _ fun fa6 fh6 => ?_
  clear hKo Ko fh5 fa5
  refine Kn.pure fh6 rfl rfl .none (Kn.ex_pick fh6 (.tmp rfl) (.tmp rfl)) fun fa7 fh7 => ?_
  clear fh6 fa6
  refine wpList_nil ?_
  refine hK3 _ _ ?_
  clear hK3 K3
  replace fh7 := fh7.cut (.cons (t := 12) rfl (.cons (t := 4) rfl (.cons (t := 0) rfl (.cons (t := 1) rfl .nil))))
  refine Kn.yes fh7 (.tmp rfl) ?_
  replace fh7 := fh7.cut (.cons (t := 4) rfl (.cons (t := 0) rfl (.cons (t := 1) rfl .nil)))
  refine wp_seq_k fun K4 hK4 => ?_
  refine wp_region_lit ?_
  refine Kn.call fh7 rfl rfl .none (Kn.ex_call fh7 (.cons .const (.cons .const .nil))) Tryd.call45 (fault_any (-1) 10 w) fun e w1 hp => ?_
  obtain ⟨rfl, rfl⟩ := hp
  refine ⟨_, rfl, fun fa8 fh8 => ?_⟩
  clear fh7 fa7
  refine Kn.pure fh8 rfl rfl .none (Kn.ex_assign fh8 (.tmp rfl)) fun fa9 fh9 => ?_
  clear fh8 fa8
  refine wpList_nil ?_
  refine hK4 _ _ ?_
  clear hK4 K4
  replace fh9 := fh9.cut (.cons (t := 4) rfl (.cons (t := 0) rfl (.cons (t := 1) rfl .nil)))
  refine wp_ret ?_
  refine Kn.then_ret ?_
  exact Kn.ret1 fh9 rfl rfl ⟨rfl, rfl⟩

set_option maxRecDepth 100000 in
set_option maxHeartbeats 2000000 in
theorem check_long (n : Int) (A : Option Addr) (c : Nat) (xs : List (Int × Int)) (w : World) (h : ¬ n < 0) (h2 : ¬ 4096 < n) (h3 : (20000 : Int) < (xs.length : Int)) (h4 : 20000 < xs.length) :
    Calls Tryd.prog 34 #[.int .i64 n, .slice A xs.length c] w fun e w' => e = .returned (faultV (20000) 10) ∧ w = w' := by
  refine Kn.calls Tryd.func34 rfl Tryd.ntmps34 rfl (.cons (t := 0) rfl (.cons (t := 1) rfl .nil)) fun fa0 fh0 => ?_
  refine wp_seq_k fun K1 hK1 => ?_
  refine wp_region_lit ?_
  refine Kn.pure fh0 rfl rfl .none (Kn.ex_assign fh0 .const) fun fa1 fh1 => ?_
  clear fh0 fa0
  refine wpList_nil ?_
  refine hK1 _ _ ?_
  clear hK1 K1
  refine wp_seq_k fun K2 hK2 => ?_
  refine wp_seq_k fun K3 hK3 => ?_
  refine wp_region_lit ?_
  refine Kn.pure fh1 rfl rfl .none (Kn.ex_move fh1 (.tmp rfl)) fun fa2 fh2 => ?_
  clear fh1 fa1
  refine Kn.step fh2 rfl rfl .none (Kn.ex_bin fh2 (.tmp rfl) .const) fun Ko hKo => ?_
  go_simp
  try go_bits
  refine hKo _ _ fun fa3 fh3 => ?_
  clear hKo Ko fh2 fa2
  refine Kn.pure fh3 rfl rfl .none (Kn.ex_move fh3 (.tmp rfl)) fun fa4 fh4 => ?_
  clear fh3 fa3
  refine Kn.pure fh4 rfl rfl (.some rfl rfl rfl) (Kn.ex_move fh4 (.tmp rfl)) fun fa5 fh5 => ?_
  clear fh4 fa4
  refine Kn.step fh5 rfl rfl (.some rfl rfl rfl) (Kn.ex_bin fh5 (.tmp rfl) .const) fun Ko hKo => ?_
  go_simp
  try go_bits
  refine hKo _ _ fun fa6 fh6 => ?_
  clear hKo Ko fh5 fa5
  refine Kn.pure fh6 rfl rfl .none (Kn.ex_pick fh6 (.tmp rfl) (.tmp rfl)) fun fa7 fh7 => ?_
  clear fh6 fa6
  refine wpList_nil ?_
  refine hK3 _ _ ?_
  clear hK3 K3
  replace fh7 := fh7.cut (.cons (t := 12) rfl (.cons (t := 4) rfl (.cons (t := 0) rfl (.cons (t := 1) rfl .nil))))
  refine Kn.no fh7 (.tmp rfl) ?_
  refine wp_skip ?_
  refine hK2 _ _ ?_
  clear hK2 K2
  replace fh7 := fh7.cut (.cons (t := 4) rfl (.cons (t := 0) rfl (.cons (t := 1) rfl .nil)))
  refine wp_seq_k fun K4 hK4 => ?_
  refine wp_seq_k fun K5 hK5 => ?_
  refine wp_region_lit ?_
  refine Kn.pure fh7 rfl rfl .none (Kn.ex_move fh7 (.tmp rfl)) fun fa8 fh8 => ?_
  clear fh7 fa7
  refine Kn.step fh8 rfl rfl .none (Kn.ex_len fh8 (.tmp rfl)) fun Ko hKo => ?_
  go_simp
  try go_bits
  refine hKo _ _ fun fa9 fh9 => ?_
  clear hKo Ko fh8 fa8
  refine Kn.step fh9 rfl rfl .none (Kn.ex_bin fh9 (.tmp rfl) .const) fun Ko hKo => ?_
  go_simp
  try go_bits
  refine hKo _ _ fun fa10 fh10 => ?_
  clear hKo Ko fh9 fa9
  refine wpList_nil ?_
  refine hK5 _ _ ?_
  clear hK5 K5
  replace fh10 := fh10.cut (.cons (t := 16) rfl (.cons (t := 4) rfl (.cons (t := 0) rfl (.cons (t := 1) rfl .nil))))
  refine Kn.yes fh10 (.tmp rfl) ?_
  replace fh10 := fh10.cut (.cons (t := 4) rfl (.cons (t := 0) rfl (.cons (t := 1) rfl .nil)))
  refine wp_seq_k fun K6 hK6 => ?_
  refine wp_region_lit ?_
  refine Kn.call fh10 rfl rfl .none (Kn.ex_call fh10 (.cons .const (.cons .const .nil))) Tryd.call45 (fault_any (20000) 10 w) fun e w1 hp => ?_
  obtain ⟨rfl, rfl⟩ := hp
  refine ⟨_, rfl, fun fa11 fh11 => ?_⟩
  clear fh10 fa10
  refine Kn.pure fh11 rfl rfl .none (Kn.ex_assign fh11 (.tmp rfl)) fun fa12 fh12 => ?_
  clear fh11 fa11
  refine wpList_nil ?_
  refine hK6 _ _ ?_
  clear hK6 K6
  replace fh12 := fh12.cut (.cons (t := 4) rfl (.cons (t := 0) rfl (.cons (t := 1) rfl .nil)))
  refine wp_ret ?_
  refine Kn.then_ret ?_
  exact Kn.ret1 fh12 rfl rfl ⟨rfl, rfl⟩

set_option maxRecDepth 100000 in
set_option maxHeartbeats 2000000 in
/-- The first edge that may not be stands at f (or all may). -/
theorem check_any (n : Int) (A : Option Addr) (c f : Nat) (xs : List (Int × Int)) (w : World) (h1 : ¬ n < 0) (h2 : ¬ 4096 < n) (h3 : ¬ 20000 < xs.length) (hA : EIn w A xs) (hG : ∀ i, i < f → badB n (ed xs i) = false) (hB : f < xs.length → badB n (ed xs f) = true) :
    Calls Tryd.prog 34 #[.int .i64 n, .slice A xs.length c] w fun e w' => e = .returned (if f < xs.length then faultV (f : Int) 10 else .nilIface) ∧ Below w.heap.size w w' := by
  have HA := Lib.hid hA
  have HG := Lib.hid hG
  have HH := Lib.hid hB
  clear hA hG hB
  have h4 : ¬ (20000 : Int) < (xs.length : Int) := by omega
  refine Kn.calls Tryd.func34 rfl Tryd.ntmps34 rfl (.cons (t := 0) rfl (.cons (t := 1) rfl .nil)) fun fa0 fh0 => ?_
  refine wp_seq_k fun K1 hK1 => ?_
  refine wp_region_lit ?_
  refine Kn.pure fh0 rfl rfl .none (Kn.ex_assign fh0 .const) fun fa1 fh1 => ?_
  clear fh0 fa0
  refine wpList_nil ?_
  refine hK1 _ _ ?_
  clear hK1 K1
  refine wp_seq_k fun K2 hK2 => ?_
  refine wp_seq_k fun K3 hK3 => ?_
  refine wp_region_lit ?_
  refine Kn.pure fh1 rfl rfl .none (Kn.ex_move fh1 (.tmp rfl)) fun fa2 fh2 => ?_
  clear fh1 fa1
  refine Kn.step fh2 rfl rfl .none (Kn.ex_bin fh2 (.tmp rfl) .const) fun Ko hKo => ?_
  go_simp
  try go_bits
  refine hKo _ _ fun fa3 fh3 => ?_
  clear hKo Ko fh2 fa2
  refine Kn.pure fh3 rfl rfl .none (Kn.ex_move fh3 (.tmp rfl)) fun fa4 fh4 => ?_
  clear fh3 fa3
  refine Kn.pure fh4 rfl rfl (.some rfl rfl rfl) (Kn.ex_move fh4 (.tmp rfl)) fun fa5 fh5 => ?_
  clear fh4 fa4
  refine Kn.step fh5 rfl rfl (.some rfl rfl rfl) (Kn.ex_bin fh5 (.tmp rfl) .const) fun Ko hKo => ?_
  go_simp
  try go_bits
  refine hKo _ _ fun fa6 fh6 => ?_
  clear hKo Ko fh5 fa5
  refine Kn.pure fh6 rfl rfl .none (Kn.ex_pick fh6 (.tmp rfl) (.tmp rfl)) fun fa7 fh7 => ?_
  clear fh6 fa6
  refine wpList_nil ?_
  refine hK3 _ _ ?_
  clear hK3 K3
  replace fh7 := fh7.cut (.cons (t := 12) rfl (.cons (t := 4) rfl (.cons (t := 0) rfl (.cons (t := 1) rfl .nil))))
  refine Kn.no fh7 (.tmp rfl) ?_
  refine wp_skip ?_
  refine hK2 _ _ ?_
  clear hK2 K2
  replace fh7 := fh7.cut (.cons (t := 4) rfl (.cons (t := 0) rfl (.cons (t := 1) rfl .nil)))
  refine wp_seq_k fun K4 hK4 => ?_
  refine wp_seq_k fun K5 hK5 => ?_
  refine wp_region_lit ?_
  refine Kn.pure fh7 rfl rfl .none (Kn.ex_move fh7 (.tmp rfl)) fun fa8 fh8 => ?_
  clear fh7 fa7
  refine Kn.step fh8 rfl rfl .none (Kn.ex_len fh8 (.tmp rfl)) fun Ko hKo => ?_
  go_simp
  try go_bits
  refine hKo _ _ fun fa9 fh9 => ?_
  clear hKo Ko fh8 fa8
  refine Kn.step fh9 rfl rfl .none (Kn.ex_bin fh9 (.tmp rfl) .const) fun Ko hKo => ?_
  go_simp
  try go_bits
  refine hKo _ _ fun fa10 fh10 => ?_
  clear hKo Ko fh9 fa9
  refine wpList_nil ?_
  refine hK5 _ _ ?_
  clear hK5 K5
  replace fh10 := fh10.cut (.cons (t := 16) rfl (.cons (t := 4) rfl (.cons (t := 0) rfl (.cons (t := 1) rfl .nil))))
  refine Kn.no fh10 (.tmp rfl) ?_
  refine wp_skip ?_
  refine hK4 _ _ ?_
  clear hK4 K4
  replace fh10 := fh10.cut (.cons (t := 4) rfl (.cons (t := 0) rfl (.cons (t := 1) rfl .nil)))
  refine wp_seq_k fun K6 hK6 => ?_
  refine wp_seq_k fun K7 hK7 => ?_
  refine wp_region_lit ?_
  refine Kn.pure fh10 rfl rfl .none (Kn.ex_move fh10 (.tmp rfl)) fun fa11 fh11 => ?_
  clear fh10 fa10
  refine Kn.step fh11 rfl rfl .none (Kn.ex_len fh11 (.tmp rfl)) fun Ko hKo => ?_
  go_simp
  try go_bits
  refine hKo _ _ fun fa12 fh12 => ?_
  clear hKo Ko fh11 fa11
  refine Kn.pure fh12 rfl rfl .none (Kn.ex_move fh12 .const) fun fa13 fh13 => ?_
  clear fh12 fa12
  refine wpList_nil ?_
  refine hK7 _ _ ?_
  clear hK7 K7
  replace fh13 := fh13.cut (.cons (t := 20) rfl (.cons (t := 19) rfl (.cons (t := 18) rfl (.cons (t := 4) rfl (.cons (t := 0) rfl .nil)))))
  refine wp_block ?_
  refine Kn.loop (fun m fr u => ∃ (k : Nat), Kn.Kn 40 [(20, .int .i64 (k : Int)), (18, .slice A xs.length c), (19, .int .i64 (xs.length : Int)), (0, .int .i64 n)] fr ∧ k + m = xs.length ∧ k ≤ f ∧ Hid (Below w.heap.size w u)) xs.length ⟨0, fh13.cut (.cons (t := 20) rfl (.cons (t := 18) rfl (.cons (t := 19) rfl (.cons (t := 0) rfl .nil)))), by omega, by omega, Lib.hid (Below.refl _ _)⟩ ?_
  clear fh13 fa13
  intro m8 fa14 u hI Kl8 hKl8
  obtain ⟨k, fh14, hk, hkf, HB⟩ := hI
  by_cases hlt : k < xs.length
  · have hlt0 := hlt
    obtain ⟨ba, oa, rfl, -, ca1, ca2⟩ := (HA.out.on HB.out) k hlt0
    clear hlt0
    obtain ⟨x1, hx1⟩ : ∃ x, (ed xs k).1 = x := ⟨_, rfl⟩
    obtain ⟨x2, hx2⟩ : ∃ x, (ed xs k).2 = x := ⟨_, rfl⟩
    rw [hx1] at ca1
    rw [hx2] at ca2
    have HX : Hid (ed xs k = (x1, x2)) := Lib.hid (by rw [← hx1, ← hx2])
    clear hx1 hx2
    refine wp_seq_k fun K9 hK9 => ?_
    refine wp_region_lit ?_
    refine Kn.step fh14 rfl rfl .none (Kn.ex_bin fh14 (.tmp rfl) (.tmp rfl)) fun Ko hKo => ?_
    go_simp
    try go_bits
    refine hKo _ _ fun fa15 fh15 => ?_
    clear hKo Ko fh14 fa14
    refine wpList_nil ?_
    refine hK9 _ _ ?_
    clear hK9 K9
    refine wp_seq_k fun K10 hK10 => ?_
    refine Kn.yes fh15 (.tmp rfl) ?_
    refine wp_skip ?_
    refine hK10 _ _ ?_
    clear hK10 K10
    replace fh15 := fh15.cut (.cons (t := 20) rfl (.cons (t := 18) rfl (.cons (t := 19) rfl (.cons (t := 0) rfl .nil))))
    refine wp_seq_k fun K11 hK11 => ?_
    refine wp_block ?_
    refine wp_seq_k fun K12 hK12 => ?_
    refine wp_region_lit ?_
    refine Kn.pure fh15 rfl rfl .none (Kn.ex_move fh15 (.tmp rfl)) fun fa16 fh16 => ?_
    clear fh15 fa15
    refine Kn.step fh16 rfl rfl .none (Kn.ex_indexAddr fh16 (.tmp rfl) (.tmp rfl)) fun Ko hKo => ?_
    go_simp
    try go_bits
    refine hKo _ _ fun fa17 fh17 => ?_
    clear hKo Ko fh16 fa16
    refine Kn.step fh17 rfl rfl .none (Kn.ex_load fh17 (.tmp rfl)) fun Ko hKo => ?_
    go_simp
    try go_bits
    refine hKo _ _ fun fa18 fh18 => ?_
    clear hKo Ko fh17 fa17
    refine Kn.step fh18 rfl rfl .none Kn.ex_alloc fun Ko hKo => ?_
    go_simp
    try go_bits
    refine hKo _ _ fun fa19 fh19 => ?_
    clear hKo Ko fh18 fa18
    refine Kn.pure fh19 rfl rfl .none (Kn.ex_assign fh19 (.tmp rfl)) fun fa20 fh20 => ?_
    clear fh19 fa19
    refine Kn.stepU fh20 rfl .none (Kn.ex_store fh20 (.tmp rfl) (.tmp rfl)) fun Ko hKo => ?_
    go_simp
    try go_bits
    refine hKo _ ?_
    clear hKo Ko
    refine wpList_nil ?_
    refine hK12 _ _ ?_
    clear hK12 K12
    replace fh20 := fh20.cut (.cons (t := 5) rfl (.cons (t := 6) rfl (.cons (t := 20) rfl (.cons (t := 18) rfl (.cons (t := 19) rfl (.cons (t := 0) rfl .nil))))))
    by_cases e1 : 0 ≤ x1 ∧ x1 < n
    · have q1 : (decide (0 ≤ x1) && decide (x1 < n)) = true := by rw [decide_eq_true e1.1, decide_eq_true e1.2]; rfl
      by_cases e2 : 0 ≤ x2 ∧ x2 < n
      · have q2 : (decide (0 ≤ x2) && decide (x2 < n)) = true := by rw [decide_eq_true e2.1, decide_eq_true e2.2]; rfl
        have hkf2 : k + 1 ≤ f := by
          rcases Nat.lt_or_ge k f with h | h
          · omega
          · have hfk : f = k := by omega
            have := HH.out (by omega)
            rw [hfk, HX.out] at this
            have g : badB n (x1, x2) = false := (badB_iff _ _).2 ⟨e1, e2⟩
            rw [g] at this
            cases this
        clear e1 e2 hkf
        refine wp_seq_k fun K13 hK13 => ?_
        refine wp_region_lit ?_
        refine Kn.pure fh20 rfl rfl .none (Kn.ex_move fh20 (.tmp rfl)) fun fa21 fh21 => ?_
        clear fh20 fa20
        refine Kn.step fh21 rfl rfl .none (Kn.ex_fieldAddr fh21 (.tmp rfl)) fun Ko hKo => ?_
        go_simp
        try go_bits
        refine hKo _ _ fun fa22 fh22 => ?_
        clear hKo Ko fh21 fa21
        refine Kn.step fh22 rfl rfl .none (Kn.ex_load fh22 (.tmp rfl)) fun Ko hKo => ?_
        go_simp
        try go_bits
        refine hKo _ _ fun fa23 fh23 => ?_
        clear hKo Ko fh22 fa22
        refine Kn.call fh23 rfl rfl .none (Kn.ex_call fh23 (.cons (.tmp rfl) (.cons (.tmp rfl) .nil))) Tryd.call46 (isNode_any n x1 _) fun e w1 hp => ?_
        obtain ⟨rfl, rfl⟩ := hp
        refine ⟨_, rfl, fun fa24 fh24 => ?_⟩
        clear fh23 fa23
        rw [q1] at fh24
        refine Kn.step fh24 rfl rfl .none (Kn.ex_un fh24 (.tmp rfl)) fun Ko hKo => ?_
        go_simp
        try go_bits
        refine hKo _ _ fun fa25 fh25 => ?_
        clear hKo Ko fh24 fa24
        refine Kn.pure fh25 rfl rfl .none (Kn.ex_move fh25 (.tmp rfl)) fun fa26 fh26 => ?_
        clear fh25 fa25
        refine Kn.pure fh26 rfl rfl (.some rfl rfl rfl) (Kn.ex_move fh26 (.tmp rfl)) fun fa27 fh27 => ?_
        clear fh26 fa26
        refine Kn.step fh27 rfl rfl (.some rfl rfl rfl) (Kn.ex_fieldAddr fh27 (.tmp rfl)) fun Ko hKo => ?_
        go_simp
        try go_bits
        refine hKo _ _ fun fa28 fh28 => ?_
        clear hKo Ko fh27 fa27
        refine Kn.step fh28 rfl rfl (.some rfl rfl rfl) (Kn.ex_load fh28 (.tmp rfl)) fun Ko hKo => ?_
        go_simp
        try go_bits
        refine hKo _ _ fun fa29 fh29 => ?_
        clear hKo Ko fh28 fa28
        refine Kn.call fh29 rfl rfl (.some rfl rfl rfl) (Kn.ex_call fh29 (.cons (.tmp rfl) (.cons (.tmp rfl) .nil))) Tryd.call46 (isNode_any n x2 _) fun e w1 hp => ?_
        obtain ⟨rfl, rfl⟩ := hp
        refine ⟨_, rfl, fun fa30 fh30 => ?_⟩
        clear fh29 fa29
        rw [q2] at fh30
        refine Kn.step fh30 rfl rfl (.some rfl rfl rfl) (Kn.ex_un fh30 (.tmp rfl)) fun Ko hKo => ?_
        go_simp
        try go_bits
        refine hKo _ _ fun fa31 fh31 => ?_
        clear hKo Ko fh30 fa30
        refine Kn.pure fh31 rfl rfl .none (Kn.ex_pick fh31 (.tmp rfl) (.tmp rfl)) fun fa32 fh32 => ?_
        clear fh31 fa31
        refine wpList_nil ?_
        refine hK13 _ _ ?_
        clear hK13 K13
        replace fh32 := fh32.cut (.cons (t := 36) rfl (.cons (t := 5) rfl (.cons (t := 20) rfl (.cons (t := 18) rfl (.cons (t := 19) rfl (.cons (t := 0) rfl .nil))))))
        refine Kn.no fh32 (.tmp rfl) ?_
        refine wp_skip ?_
        refine Kn.block_normal ?_
        refine hK11 _ _ ?_
        clear hK11 K11
        replace fh32 := fh32.cut (.cons (t := 20) rfl (.cons (t := 18) rfl (.cons (t := 19) rfl (.cons (t := 0) rfl .nil))))
        refine wp_region_lit ?_
        refine Kn.step fh32 rfl rfl .none (Kn.ex_bin fh32 (.tmp rfl) .const) fun Ko hKo => ?_
        go_simp
        try go_bits
        refine hKo _ _ fun fa33 fh33 => ?_
        clear hKo Ko fh32 fa32
        refine Kn.pure fh33 rfl rfl .none (Kn.ex_move fh33 (.tmp rfl)) fun fa34 fh34 => ?_
        clear fh33 fa33
        refine wpList_nil ?_
        replace fh34 := fh34.cut (.cons (t := 20) rfl (.cons (t := 18) rfl (.cons (t := 19) rfl (.cons (t := 0) rfl .nil))))
        exact hKl8 (m8 - 1) _ _ (by omega) ⟨k + 1, fh34.cut (.turn (t := 20) rfl (by go_num) (.cons (t := 18) rfl (.cons (t := 19) rfl (.cons (t := 0) rfl .nil)))), by omega, hkf2, Lib.hid (HB.out.alloc HB.out.size _)⟩
      · have q2 : (decide (0 ≤ x2) && decide (x2 < n)) = false := by simp only [Bool.and_eq_false_iff, decide_eq_false_iff_not]; omega
        have hfk : k = f := by
          rcases Nat.lt_or_ge k f with h | h
          · have := HG.out k h; rw [HX.out, badB_iff] at this; exact absurd this (by simp only; omega)
          · omega
        subst hfk
        clear e1 e2 hkf
        refine wp_seq_k fun K13 hK13 => ?_
        refine wp_region_lit ?_
        refine Kn.pure fh20 rfl rfl .none (Kn.ex_move fh20 (.tmp rfl)) fun fa21 fh21 => ?_
        clear fh20 fa20
        refine Kn.step fh21 rfl rfl .none (Kn.ex_fieldAddr fh21 (.tmp rfl)) fun Ko hKo => ?_
        go_simp
        try go_bits
        refine hKo _ _ fun fa22 fh22 => ?_
        clear hKo Ko fh21 fa21
        refine Kn.step fh22 rfl rfl .none (Kn.ex_load fh22 (.tmp rfl)) fun Ko hKo => ?_
        go_simp
        try go_bits
        refine hKo _ _ fun fa23 fh23 => ?_
        clear hKo Ko fh22 fa22
        refine Kn.call fh23 rfl rfl .none (Kn.ex_call fh23 (.cons (.tmp rfl) (.cons (.tmp rfl) .nil))) Tryd.call46 (isNode_any n x1 _) fun e w1 hp => ?_
        obtain ⟨rfl, rfl⟩ := hp
        refine ⟨_, rfl, fun fa24 fh24 => ?_⟩
        clear fh23 fa23
        rw [q1] at fh24
        refine Kn.step fh24 rfl rfl .none (Kn.ex_un fh24 (.tmp rfl)) fun Ko hKo => ?_
        go_simp
        try go_bits
        refine hKo _ _ fun fa25 fh25 => ?_
        clear hKo Ko fh24 fa24
        refine Kn.pure fh25 rfl rfl .none (Kn.ex_move fh25 (.tmp rfl)) fun fa26 fh26 => ?_
        clear fh25 fa25
        refine Kn.pure fh26 rfl rfl (.some rfl rfl rfl) (Kn.ex_move fh26 (.tmp rfl)) fun fa27 fh27 => ?_
        clear fh26 fa26
        refine Kn.step fh27 rfl rfl (.some rfl rfl rfl) (Kn.ex_fieldAddr fh27 (.tmp rfl)) fun Ko hKo => ?_
        go_simp
        try go_bits
        refine hKo _ _ fun fa28 fh28 => ?_
        clear hKo Ko fh27 fa27
        refine Kn.step fh28 rfl rfl (.some rfl rfl rfl) (Kn.ex_load fh28 (.tmp rfl)) fun Ko hKo => ?_
        go_simp
        try go_bits
        refine hKo _ _ fun fa29 fh29 => ?_
        clear hKo Ko fh28 fa28
        refine Kn.call fh29 rfl rfl (.some rfl rfl rfl) (Kn.ex_call fh29 (.cons (.tmp rfl) (.cons (.tmp rfl) .nil))) Tryd.call46 (isNode_any n x2 _) fun e w1 hp => ?_
        obtain ⟨rfl, rfl⟩ := hp
        refine ⟨_, rfl, fun fa30 fh30 => ?_⟩
        clear fh29 fa29
        rw [q2] at fh30
        refine Kn.step fh30 rfl rfl (.some rfl rfl rfl) (Kn.ex_un fh30 (.tmp rfl)) fun Ko hKo => ?_
        go_simp
        try go_bits
        refine hKo _ _ fun fa31 fh31 => ?_
        clear hKo Ko fh30 fa30
        refine Kn.pure fh31 rfl rfl .none (Kn.ex_pick fh31 (.tmp rfl) (.tmp rfl)) fun fa32 fh32 => ?_
        clear fh31 fa31
        refine wpList_nil ?_
        refine hK13 _ _ ?_
        clear hK13 K13
        replace fh32 := fh32.cut (.cons (t := 36) rfl (.cons (t := 5) rfl (.cons (t := 20) rfl (.cons (t := 18) rfl (.cons (t := 19) rfl (.cons (t := 0) rfl .nil))))))
        refine Kn.yes fh32 (.tmp rfl) ?_
        replace fh32 := fh32.cut (.cons (t := 5) rfl (.cons (t := 20) rfl (.cons (t := 18) rfl (.cons (t := 19) rfl (.cons (t := 0) rfl .nil)))))
        refine wp_seq_k fun K14 hK14 => ?_
        refine wp_region_lit ?_
        refine Kn.pure fh32 rfl rfl .none (Kn.ex_move fh32 (.tmp rfl)) fun fa33 fh33 => ?_
        clear fh32 fa32
        refine Kn.call fh33 rfl rfl .none (Kn.ex_call fh33 (.cons (.tmp rfl) (.cons .const .nil))) Tryd.call45 (fault_any k 10 _) fun e w1 hp => ?_
        obtain ⟨rfl, rfl⟩ := hp
        refine ⟨_, rfl, fun fa34 fh34 => ?_⟩
        clear fh33 fa33
        refine Kn.pure fh34 rfl rfl .none (Kn.ex_assign fh34 (.tmp rfl)) fun fa35 fh35 => ?_
        clear fh34 fa34
        refine wpList_nil ?_
        refine hK14 _ _ ?_
        clear hK14 K14
        replace fh35 := fh35.cut (.cons (t := 4) rfl (.cons (t := 20) rfl (.cons (t := 18) rfl (.cons (t := 19) rfl (.cons (t := 0) rfl .nil)))))
        refine wp_ret ?_
        refine Kn.block_ret ?_
        refine Kn.then_ret ?_
        refine Kn.then_ret ?_
        refine Kn.block_ret ?_
        refine Kn.then_ret ?_
        exact Kn.ret1 fh35 rfl rfl ⟨by rw [if_pos hlt], HB.out.alloc HB.out.size _⟩
    · have q1 : (decide (0 ≤ x1) && decide (x1 < n)) = false := by simp only [Bool.and_eq_false_iff, decide_eq_false_iff_not]; omega
      have hfk : k = f := by
        rcases Nat.lt_or_ge k f with h | h
        · have := HG.out k h; rw [HX.out, badB_iff] at this; exact absurd this (by simp only; omega)
        · omega
      subst hfk
      clear e1 hkf
      refine wp_seq_k fun K13 hK13 => ?_
      refine wp_region_lit ?_
      refine Kn.pure fh20 rfl rfl .none (Kn.ex_move fh20 (.tmp rfl)) fun fa21 fh21 => ?_
      clear fh20 fa20
      refine Kn.step fh21 rfl rfl .none (Kn.ex_fieldAddr fh21 (.tmp rfl)) fun Ko hKo => ?_
      go_simp
      try go_bits
      refine hKo _ _ fun fa22 fh22 => ?_
      clear hKo Ko fh21 fa21
      refine Kn.step fh22 rfl rfl .none (Kn.ex_load fh22 (.tmp rfl)) fun Ko hKo => ?_
      go_simp
      try go_bits
      refine hKo _ _ fun fa23 fh23 => ?_
      clear hKo Ko fh22 fa22
      refine Kn.call fh23 rfl rfl .none (Kn.ex_call fh23 (.cons (.tmp rfl) (.cons (.tmp rfl) .nil))) Tryd.call46 (isNode_any n x1 _) fun e w1 hp => ?_
      obtain ⟨rfl, rfl⟩ := hp
      refine ⟨_, rfl, fun fa24 fh24 => ?_⟩
      clear fh23 fa23
      rw [q1] at fh24
      refine Kn.step fh24 rfl rfl .none (Kn.ex_un fh24 (.tmp rfl)) fun Ko hKo => ?_
      go_simp
      try go_bits
      refine hKo _ _ fun fa25 fh25 => ?_
      clear hKo Ko fh24 fa24
      refine Kn.pure fh25 rfl rfl .none (Kn.ex_move fh25 (.tmp rfl)) fun fa26 fh26 => ?_
      clear fh25 fa25
      refine Kn.skip fh26 rfl rfl (.some rfl rfl rfl) fun fa27 fh27 => ?_
      clear fh26 fa26
      refine Kn.skip fh27 rfl rfl (.some rfl rfl rfl) fun fa28 fh28 => ?_
      clear fh27 fa27
      refine Kn.skip fh28 rfl rfl (.some rfl rfl rfl) fun fa29 fh29 => ?_
      clear fh28 fa28
      refine Kn.skip fh29 rfl rfl (.some rfl rfl rfl) fun fa30 fh30 => ?_
      clear fh29 fa29
      refine Kn.skip fh30 rfl rfl (.some rfl rfl rfl) fun fa31 fh31 => ?_
      clear fh30 fa30
      refine Kn.pure fh31 rfl rfl .none (Kn.ex_pick fh31 (.tmp rfl) .const) fun fa32 fh32 => ?_
      clear fh31 fa31
      refine wpList_nil ?_
      refine hK13 _ _ ?_
      clear hK13 K13
      replace fh32 := fh32.cut (.cons (t := 36) rfl (.cons (t := 5) rfl (.cons (t := 20) rfl (.cons (t := 18) rfl (.cons (t := 19) rfl (.cons (t := 0) rfl .nil))))))
      refine Kn.yes fh32 (.tmp rfl) ?_
      replace fh32 := fh32.cut (.cons (t := 5) rfl (.cons (t := 20) rfl (.cons (t := 18) rfl (.cons (t := 19) rfl (.cons (t := 0) rfl .nil)))))
      refine wp_seq_k fun K14 hK14 => ?_
      refine wp_region_lit ?_
      refine Kn.pure fh32 rfl rfl .none (Kn.ex_move fh32 (.tmp rfl)) fun fa33 fh33 => ?_
      clear fh32 fa32
      refine Kn.call fh33 rfl rfl .none (Kn.ex_call fh33 (.cons (.tmp rfl) (.cons .const .nil))) Tryd.call45 (fault_any k 10 _) fun e w1 hp => ?_
      obtain ⟨rfl, rfl⟩ := hp
      refine ⟨_, rfl, fun fa34 fh34 => ?_⟩
      clear fh33 fa33
      refine Kn.pure fh34 rfl rfl .none (Kn.ex_assign fh34 (.tmp rfl)) fun fa35 fh35 => ?_
      clear fh34 fa34
      refine wpList_nil ?_
      refine hK14 _ _ ?_
      clear hK14 K14
      replace fh35 := fh35.cut (.cons (t := 4) rfl (.cons (t := 20) rfl (.cons (t := 18) rfl (.cons (t := 19) rfl (.cons (t := 0) rfl .nil)))))
      refine wp_ret ?_
      refine Kn.block_ret ?_
      refine Kn.then_ret ?_
      refine Kn.then_ret ?_
      refine Kn.block_ret ?_
      refine Kn.then_ret ?_
      exact Kn.ret1 fh35 rfl rfl ⟨by rw [if_pos hlt], HB.out.alloc HB.out.size _⟩
  · obtain rfl : k = xs.length := by omega
    refine wp_seq_k fun K9 hK9 => ?_
    refine wp_region_lit ?_
    refine Kn.step fh14 rfl rfl .none (Kn.ex_bin fh14 (.tmp rfl) (.tmp rfl)) fun Ko hKo => ?_
    go_simp
    try go_bits
    refine hKo _ _ fun fa15 fh15 => ?_
    clear hKo Ko fh14 fa14
    refine wpList_nil ?_
    refine hK9 _ _ ?_
    clear hK9 K9
    refine wp_seq_k fun K10 hK10 => ?_
    refine Kn.no fh15 (.tmp rfl) ?_
    replace fh15 := fh15.cut (.cons (t := 20) rfl (.cons (t := 18) rfl (.cons (t := 19) rfl (.cons (t := 0) rfl .nil))))
    refine wp_exit ?_
    refine Kn.then_exit ?_
    clear hK10 K10
    refine Kn.then_exit ?_
    clear hKl8 Kl8
    refine Kn.block_exit ?_
    refine hK6 _ _ ?_
    clear hK6 K6
    replace fh15 := fh15.cut .nil
    refine wp_seq_k fun K11 hK11 => ?_
    refine wp_region_lit ?_
    refine Kn.pure fh15 rfl rfl .none (Kn.ex_assign fh15 .const) fun fa16 fh16 => ?_
    clear fh15 fa15
    refine wpList_nil ?_
    refine hK11 _ _ ?_
    clear hK11 K11
    refine wp_ret ?_
    exact Kn.ret1 fh16 rfl rfl ⟨by rw [if_neg (by omega)], HB.out⟩

end Go.Proofs.YtinjecaanjeapaaDoor.Edg
