/- Contracts of the program's gap: putStep, Put, Size (written by gen_gapc.py). -/
import Derived.Test.YtoggeiaofpdboaaDoorGapB
import Derived.Test.YtoggeiaofpdboaaDoorRef06P
import Derived.Test.YtoggeiaofpdboaaDoorOwnX
namespace Go.Proofs.YtoggeiaofpdboaaDoor.Gap
open Go Go.RowKit Go.Lib Oct Num OwX

theorem bs_data (l : List UInt8) : (bs l).data.toList = l := by simp [bs]
theorem st1_len (first : Bool) (now t : Int) (h0 : 0 ≤ now) (h1 : now ≤ 4096) (h2 : 0 ≤ t) (h3 : t ≤ 4096) : (st1 first now t).length ≤ 9 := by
  unfold st1
  split
  · have := turn_lt (t - now) (by omega) (by omega)
    exact short_len9 _ (by omega)
  · exact short_len9 _ (by omega)
theorem putF_step (v : Int) (l : List Int) (k : Nat) (now t : Int) (ht : nt l k = t) (hn : now = if k = 0 then v else nt l (k - 1)) : putF v l (k + 1) = putF v l k ++ st1 (decide (k = 0)) now t := by
  subst ht hn
  cases k with
  | zero => rfl
  | succ k => rfl

set_option maxRecDepth 100000 in
set_option maxHeartbeats 2000000 in
theorem putStep_first (v t : Int) (A : Option Addr) (c : Nat) (w : World) (hv0 : 0 ≤ v) (hv1 : v ≤ 4096) (ht0 : 0 ≤ t) (ht1 : t ≤ 4096) :
    Calls Tryd.prog 24 #[.int .i64 v, .slice A 0 c, .int .i64 t] w fun e w' => e = .returned (.tuple #[.string (bs (st1 true v t)), .nilIface]) ∧ Below w.heap.size w w' := by
  refine Kn.calls Tryd.func24 rfl Tryd.ntmps24 rfl (.cons (t := 0) rfl (.cons (t := 1) rfl (.cons (t := 2) rfl .nil))) fun fa0 fh0 => ?_
  refine wp_seq_k fun K1 hK1 => ?_
  refine wp_region_lit ?_
  refine Kn.pure fh0 rfl rfl .none (Kn.ex_assign fh0 .const) fun fa1 fh1 => ?_
  clear fh0 fa0
  refine Kn.pure fh1 rfl rfl .none (Kn.ex_assign fh1 .const) fun fa2 fh2 => ?_
  clear fh1 fa1
  refine wpList_nil ?_
  refine hK1 _ _ ?_
  clear hK1 K1
  obtain ⟨z, hz⟩ : ∃ z, t - v = z := ⟨_, rfl⟩
  have hzb : -4096 ≤ z ∧ z ≤ 4096 := by omega
  have hpt := putTurned_ok z w (by omega) (by omega)
  rw [show st1 true v t = short (turnOf z).toNat by rw [← hz]; rfl]
  refine wp_seq_k fun K2 hK2 => ?_
  refine wp_seq_k fun K3 hK3 => ?_
  refine wp_region_lit ?_
  refine Kn.pure fh2 rfl rfl .none (Kn.ex_move fh2 (.tmp rfl)) fun fa3 fh3 => ?_
  clear fh2 fa2
  refine Kn.step fh3 rfl rfl .none (Kn.ex_len fh3 (.tmp rfl)) fun Ko hKo => ?_
  go_simp
  try go_bits
  refine hKo _ _ fun fa4 fh4 => ?_
  clear hKo Ko fh3 fa3
  refine Kn.step fh4 rfl rfl .none (Kn.ex_bin fh4 (.tmp rfl) .const) fun Ko hKo => ?_
  go_simp
  try go_bits
  refine hKo _ _ fun fa5 fh5 => ?_
  clear hKo Ko fh4 fa4
  refine wpList_nil ?_
  refine hK3 _ _ ?_
  clear hK3 K3
  replace fh5 := fh5.cut (.cons (t := 10) rfl (.cons (t := 7) rfl (.cons (t := 6) rfl (.cons (t := 0) rfl (.cons (t := 1) rfl (.cons (t := 2) rfl .nil))))))
  refine Kn.yes fh5 (.tmp rfl) ?_
  replace fh5 := fh5.cut (.cons (t := 7) rfl (.cons (t := 6) rfl (.cons (t := 0) rfl (.cons (t := 1) rfl (.cons (t := 2) rfl .nil)))))
  refine wp_seq_k fun K4 hK4 => ?_
  refine wp_region_lit ?_
  refine Kn.pure fh5 rfl rfl .none (Kn.ex_move fh5 (.tmp rfl)) fun fa6 fh6 => ?_
  clear fh5 fa5
  refine Kn.pure fh6 rfl rfl .none (Kn.ex_move fh6 (.tmp rfl)) fun fa7 fh7 => ?_
  clear fh6 fa6
  refine Kn.step fh7 rfl rfl .none (Kn.ex_bin fh7 (.tmp rfl) (.tmp rfl)) fun Ko hKo => ?_
  go_simp
  try go_bits
  try rw [hz]
  try go_simp
  try go_bits
  refine hKo _ _ fun fa8 fh8 => ?_
  clear hKo Ko fh7 fa7
  refine Kn.call fh8 rfl rfl .none (Kn.ex_call fh8 (.cons (.tmp rfl) .nil)) Tryd.call35 (hpt) fun e w1 hp => ?_
  obtain ⟨rfl, hb⟩ := hp
  refine ⟨_, rfl, fun fa9 fh9 => ?_⟩
  clear fh8 fa8
  refine Kn.pure fh9 rfl rfl .none (Kn.ex_extract fh9 (.tmp rfl) rfl) fun fa10 fh10 => ?_
  clear fh9 fa9
  refine Kn.pure fh10 rfl rfl .none (Kn.ex_extract fh10 (.tmp rfl) rfl) fun fa11 fh11 => ?_
  clear fh10 fa10
  refine Kn.pure fh11 rfl rfl .none (Kn.ex_assign fh11 (.tmp rfl)) fun fa12 fh12 => ?_
  clear fh11 fa11
  refine Kn.pure fh12 rfl rfl .none (Kn.ex_assign fh12 (.tmp rfl)) fun fa13 fh13 => ?_
  clear fh12 fa12
  refine wpList_nil ?_
  refine hK4 _ _ ?_
  clear hK4 K4
  replace fh13 := fh13.cut (.cons (t := 7) rfl (.cons (t := 6) rfl (.cons (t := 1) rfl (.cons (t := 2) rfl .nil))))
  refine wp_ret ?_
  refine Kn.then_ret ?_
  exact Kn.ret2 fh13 rfl rfl rfl ⟨rfl, hb⟩

set_option maxRecDepth 100000 in
set_option maxHeartbeats 2000000 in
theorem putStep_next (v t y : Int) (g o n c : Nat) (w : World) (hn0 : 0 < n) (hn1 : n ≤ 100000) (hy0 : 0 ≤ y) (hy1 : y < t) (ht1 : t ≤ 4096) (hc : w.cell? ⟨g, o + (n - 1), none⟩ = some (.int .i64 y)) :
    Calls Tryd.prog 24 #[.int .i64 v, .slice (some ⟨g, o, none⟩) n c, .int .i64 t] w fun e w' => e = .returned (.tuple #[.string (bs (st1 false y t)), .nilIface]) ∧ Below w.heap.size w w' := by
  refine Kn.calls Tryd.func24 rfl Tryd.ntmps24 rfl (.cons (t := 0) rfl (.cons (t := 1) rfl (.cons (t := 2) rfl .nil))) fun fa0 fh0 => ?_
  refine wp_seq_k fun K1 hK1 => ?_
  refine wp_region_lit ?_
  refine Kn.pure fh0 rfl rfl .none (Kn.ex_assign fh0 .const) fun fa1 fh1 => ?_
  clear fh0 fa0
  refine Kn.pure fh1 rfl rfl .none (Kn.ex_assign fh1 .const) fun fa2 fh2 => ?_
  clear fh1 fa1
  refine wpList_nil ?_
  refine hK1 _ _ ?_
  clear hK1 K1
  obtain ⟨j, hj⟩ : ∃ j, n = j + 1 := ⟨n - 1, by omega⟩
  have rj : (n : Int) - 1 = (j : Int) := by omega
  have hjn : j < n := by omega
  rw [show n - 1 = j by omega] at hc
  have q0 : ((n : Int) == 0) = false := by rw [beq_eq_false_iff_ne]; omega
  have q1 : (n == 0) = false := by rw [beq_eq_false_iff_ne]; omega
  obtain ⟨z0, hz0⟩ : ∃ z, t - y = z := ⟨_, rfl⟩
  obtain ⟨z, hz⟩ : ∃ z, z0 - 1 = z := ⟨_, rfl⟩
  have hzb : 0 ≤ z ∧ z ≤ 4096 := by omega
  have hzb0 : 0 ≤ z0 ∧ z0 ≤ 4096 := by omega
  have hpt := putShort_ok z w (by omega) (by omega)
  rw [show st1 false y t = short z.toNat by rw [← hz, ← hz0]; rfl]
  clear hj hn0
  refine wp_seq_k fun K2 hK2 => ?_
  refine wp_seq_k fun K3 hK3 => ?_
  refine wp_region_lit ?_
  refine Kn.pure fh2 rfl rfl .none (Kn.ex_move fh2 (.tmp rfl)) fun fa3 fh3 => ?_
  clear fh2 fa2
  refine Kn.step fh3 rfl rfl .none (Kn.ex_len fh3 (.tmp rfl)) fun Ko hKo => ?_
  go_simp
  try go_bits
  refine hKo _ _ fun fa4 fh4 => ?_
  clear hKo Ko fh3 fa3
  refine Kn.step fh4 rfl rfl .none (Kn.ex_bin fh4 (.tmp rfl) .const) fun Ko hKo => ?_
  go_simp
  try go_bits
  refine hKo _ _ fun fa5 fh5 => ?_
  clear hKo Ko fh4 fa4
  refine wpList_nil ?_
  refine hK3 _ _ ?_
  clear hK3 K3
  replace fh5 := fh5.cut (.cons (t := 10) rfl (.cons (t := 7) rfl (.cons (t := 6) rfl (.cons (t := 0) rfl (.cons (t := 1) rfl (.cons (t := 2) rfl .nil))))))
  refine Kn.no fh5 (.tmp rfl) ?_
  refine wp_skip ?_
  refine hK2 _ _ ?_
  clear hK2 K2
  replace fh5 := fh5.cut (.cons (t := 7) rfl (.cons (t := 6) rfl (.cons (t := 1) rfl (.cons (t := 2) rfl .nil))))
  refine wp_seq_k fun K4 hK4 => ?_
  refine wp_region_lit ?_
  refine Kn.pure fh5 rfl rfl .none (Kn.ex_move fh5 (.tmp rfl)) fun fa6 fh6 => ?_
  clear fh5 fa5
  refine Kn.pure fh6 rfl rfl .none (Kn.ex_move fh6 (.tmp rfl)) fun fa7 fh7 => ?_
  clear fh6 fa6
  refine Kn.pure fh7 rfl rfl .none (Kn.ex_move fh7 (.tmp rfl)) fun fa8 fh8 => ?_
  clear fh7 fa7
  refine Kn.step fh8 rfl rfl .none (Kn.ex_len fh8 (.tmp rfl)) fun Ko hKo => ?_
  go_simp
  try go_bits
  refine hKo _ _ fun fa9 fh9 => ?_
  clear hKo Ko fh8 fa8
  refine Kn.step fh9 rfl rfl .none (Kn.ex_bin fh9 (.tmp rfl) .const) fun Ko hKo => ?_
  go_simp
  try go_bits
  try simp only [rj]
  refine hKo _ _ fun fa10 fh10 => ?_
  clear hKo Ko fh9 fa9
  refine Kn.step fh10 rfl rfl .none (Kn.ex_indexAddr fh10 (.tmp rfl) (.tmp rfl)) fun Ko hKo => ?_
  go_simp
  try go_bits
  refine hKo _ _ fun fa11 fh11 => ?_
  clear hKo Ko fh10 fa10
  refine Kn.step fh11 rfl rfl .none (Kn.ex_load fh11 (.tmp rfl)) fun Ko hKo => ?_
  go_simp
  try go_bits
  refine hKo _ _ fun fa12 fh12 => ?_
  clear hKo Ko fh11 fa11
  refine Kn.step fh12 rfl rfl .none (Kn.ex_bin fh12 (.tmp rfl) (.tmp rfl)) fun Ko hKo => ?_
  go_simp
  try go_bits
  try rw [hz0]
  try go_simp
  try go_bits
  refine hKo _ _ fun fa13 fh13 => ?_
  clear hKo Ko fh12 fa12
  refine Kn.step fh13 rfl rfl .none (Kn.ex_bin fh13 (.tmp rfl) .const) fun Ko hKo => ?_
  go_simp
  try go_bits
  try rw [hz]
  try go_simp
  try go_bits
  refine hKo _ _ fun fa14 fh14 => ?_
  clear hKo Ko fh13 fa13
  refine Kn.call fh14 rfl rfl .none (Kn.ex_call fh14 (.cons (.tmp rfl) .nil)) Tryd.call21 (hpt) fun e w1 hp => ?_
  obtain ⟨rfl, hb⟩ := hp
  refine ⟨_, rfl, fun fa15 fh15 => ?_⟩
  clear fh14 fa14
  refine Kn.pure fh15 rfl rfl .none (Kn.ex_extract fh15 (.tmp rfl) rfl) fun fa16 fh16 => ?_
  clear fh15 fa15
  refine Kn.pure fh16 rfl rfl .none (Kn.ex_extract fh16 (.tmp rfl) rfl) fun fa17 fh17 => ?_
  clear fh16 fa16
  refine Kn.pure fh17 rfl rfl .none (Kn.ex_assign fh17 (.tmp rfl)) fun fa18 fh18 => ?_
  clear fh17 fa17
  refine Kn.pure fh18 rfl rfl .none (Kn.ex_assign fh18 (.tmp rfl)) fun fa19 fh19 => ?_
  clear fh18 fa18
  refine wpList_nil ?_
  refine hK4 _ _ ?_
  clear hK4 K4
  replace fh19 := fh19.cut (.cons (t := 7) rfl (.cons (t := 6) rfl .nil))
  refine wp_ret ?_
  exact Kn.ret2 fh19 rfl rfl rfl ⟨rfl, hb⟩

set_option maxRecDepth 100000 in
set_option maxHeartbeats 2000000 in
theorem gPut_arg (N v : Int) (A : Option Addr) (n ca : Nat) (w : World) (h : N < 0 ∨ 4096 < N) :
    Calls Tryd.prog 6 #[.int .i64 N, .int .i64 v, .slice A n ca] w fun e w' => e = .returned (.tuple #[.string (bs []), errnoV 1]) ∧ w = w' := by
  refine Kn.calls Tryd.func6 rfl Tryd.ntmps6 rfl (.cons (t := 0) rfl (.cons (t := 1) rfl (.cons (t := 2) rfl .nil))) fun fa0 fh0 => ?_
  refine wp_seq_k fun K1 hK1 => ?_
  refine wp_region_lit ?_
  refine Kn.pure fh0 rfl rfl .none (Kn.ex_assign fh0 .const) fun fa1 fh1 => ?_
  clear fh0 fa0
  refine Kn.pure fh1 rfl rfl .none (Kn.ex_assign fh1 .const) fun fa2 fh2 => ?_
  clear fh1 fa1
  refine wpList_nil ?_
  refine hK1 _ _ ?_
  clear hK1 K1
  have hc := check_arg N v w h
  unfold errnoV at hc
  refine wp_seq_k fun K2 hK2 => ?_
  refine wp_seq_k fun K3 hK3 => ?_
  refine wp_region_lit ?_
  refine Kn.pure fh2 rfl rfl .none (Kn.ex_move fh2 (.tmp rfl)) fun fa3 fh3 => ?_
  clear fh2 fa2
  refine Kn.pure fh3 rfl rfl .none (Kn.ex_move fh3 (.tmp rfl)) fun fa4 fh4 => ?_
  clear fh3 fa3
  refine Kn.call fh4 rfl rfl .none (Kn.ex_call fh4 (.cons (.tmp rfl) (.cons (.tmp rfl) .nil))) Tryd.call20 (hc) fun e w1 hp => ?_
  obtain ⟨rfl, rfl⟩ := hp
  refine ⟨_, rfl, fun fa5 fh5 => ?_⟩
  clear fh4 fa4
  refine Kn.pure fh5 rfl rfl .none (Kn.ex_assign fh5 (.tmp rfl)) fun fa6 fh6 => ?_
  clear fh5 fa5
  refine wpList_nil ?_
  refine hK3 _ _ ?_
  clear hK3 K3
  replace fh6 := fh6.cut (.cons (t := 8) rfl (.cons (t := 7) rfl (.cons (t := 6) rfl (.cons (t := 0) rfl (.cons (t := 1) rfl (.cons (t := 2) rfl .nil))))))
  refine wp_seq_k fun K4 hK4 => ?_
  refine wp_region_lit ?_
  refine Kn.pure fh6 rfl rfl .none (Kn.ex_move fh6 (.tmp rfl)) fun fa7 fh7 => ?_
  clear fh6 fa6
  refine Kn.step fh7 rfl rfl .none (Kn.ex_bin fh7 (.tmp rfl) .const) fun Ko hKo => ?_
  go_simp
  try go_bits
  refine hKo _ _ fun fa8 fh8 => ?_
  clear hKo Ko fh7 fa7
  refine wpList_nil ?_
  refine hK4 _ _ ?_
  clear hK4 K4
  replace fh8 := fh8.cut (.cons (t := 20) rfl (.cons (t := 8) rfl (.cons (t := 7) rfl (.cons (t := 6) rfl (.cons (t := 0) rfl (.cons (t := 1) rfl (.cons (t := 2) rfl .nil)))))))
  refine Kn.yes fh8 (.tmp rfl) ?_
  replace fh8 := fh8.cut (.cons (t := 8) rfl (.cons (t := 7) rfl (.cons (t := 6) rfl (.cons (t := 0) rfl (.cons (t := 1) rfl (.cons (t := 2) rfl .nil))))))
  refine wp_seq_k fun K5 hK5 => ?_
  refine wp_region_lit ?_
  refine Kn.pure fh8 rfl rfl .none (Kn.ex_move fh8 (.tmp rfl)) fun fa9 fh9 => ?_
  clear fh8 fa8
  refine Kn.pure fh9 rfl rfl .none (Kn.ex_assign fh9 .const) fun fa10 fh10 => ?_
  clear fh9 fa9
  refine Kn.pure fh10 rfl rfl .none (Kn.ex_assign fh10 (.tmp rfl)) fun fa11 fh11 => ?_
  clear fh10 fa10
  refine wpList_nil ?_
  refine hK5 _ _ ?_
  clear hK5 K5
  replace fh11 := fh11.cut (.cons (t := 7) rfl (.cons (t := 6) rfl (.cons (t := 0) rfl (.cons (t := 1) rfl (.cons (t := 2) rfl .nil)))))
  refine wp_ret ?_
  refine Kn.then_ret ?_
  exact Kn.ret2 fh11 rfl rfl rfl ⟨rfl, rfl⟩

set_option maxRecDepth 100000 in
set_option maxHeartbeats 2000000 in
theorem gPut_range (N v : Int) (A : Option Addr) (n ca : Nat) (w : World) (h0 : 0 ≤ N) (h1 : N ≤ 4096) (h : v < 0 ∨ N ≤ v) :
    Calls Tryd.prog 6 #[.int .i64 N, .int .i64 v, .slice A n ca] w fun e w' => e = .returned (.tuple #[.string (bs []), errnoV 2]) ∧ w = w' := by
  refine Kn.calls Tryd.func6 rfl Tryd.ntmps6 rfl (.cons (t := 0) rfl (.cons (t := 1) rfl (.cons (t := 2) rfl .nil))) fun fa0 fh0 => ?_
  refine wp_seq_k fun K1 hK1 => ?_
  refine wp_region_lit ?_
  refine Kn.pure fh0 rfl rfl .none (Kn.ex_assign fh0 .const) fun fa1 fh1 => ?_
  clear fh0 fa0
  refine Kn.pure fh1 rfl rfl .none (Kn.ex_assign fh1 .const) fun fa2 fh2 => ?_
  clear fh1 fa1
  refine wpList_nil ?_
  refine hK1 _ _ ?_
  clear hK1 K1
  have hc := check_range N v w h0 h1 h
  unfold errnoV at hc
  refine wp_seq_k fun K2 hK2 => ?_
  refine wp_seq_k fun K3 hK3 => ?_
  refine wp_region_lit ?_
  refine Kn.pure fh2 rfl rfl .none (Kn.ex_move fh2 (.tmp rfl)) fun fa3 fh3 => ?_
  clear fh2 fa2
  refine Kn.pure fh3 rfl rfl .none (Kn.ex_move fh3 (.tmp rfl)) fun fa4 fh4 => ?_
  clear fh3 fa3
  refine Kn.call fh4 rfl rfl .none (Kn.ex_call fh4 (.cons (.tmp rfl) (.cons (.tmp rfl) .nil))) Tryd.call20 (hc) fun e w1 hp => ?_
  obtain ⟨rfl, rfl⟩ := hp
  refine ⟨_, rfl, fun fa5 fh5 => ?_⟩
  clear fh4 fa4
  refine Kn.pure fh5 rfl rfl .none (Kn.ex_assign fh5 (.tmp rfl)) fun fa6 fh6 => ?_
  clear fh5 fa5
  refine wpList_nil ?_
  refine hK3 _ _ ?_
  clear hK3 K3
  replace fh6 := fh6.cut (.cons (t := 8) rfl (.cons (t := 7) rfl (.cons (t := 6) rfl (.cons (t := 0) rfl (.cons (t := 1) rfl (.cons (t := 2) rfl .nil))))))
  refine wp_seq_k fun K4 hK4 => ?_
  refine wp_region_lit ?_
  refine Kn.pure fh6 rfl rfl .none (Kn.ex_move fh6 (.tmp rfl)) fun fa7 fh7 => ?_
  clear fh6 fa6
  refine Kn.step fh7 rfl rfl .none (Kn.ex_bin fh7 (.tmp rfl) .const) fun Ko hKo => ?_
  go_simp
  try go_bits
  refine hKo _ _ fun fa8 fh8 => ?_
  clear hKo Ko fh7 fa7
  refine wpList_nil ?_
  refine hK4 _ _ ?_
  clear hK4 K4
  replace fh8 := fh8.cut (.cons (t := 20) rfl (.cons (t := 8) rfl (.cons (t := 7) rfl (.cons (t := 6) rfl (.cons (t := 0) rfl (.cons (t := 1) rfl (.cons (t := 2) rfl .nil)))))))
  refine Kn.yes fh8 (.tmp rfl) ?_
  replace fh8 := fh8.cut (.cons (t := 8) rfl (.cons (t := 7) rfl (.cons (t := 6) rfl (.cons (t := 0) rfl (.cons (t := 1) rfl (.cons (t := 2) rfl .nil))))))
  refine wp_seq_k fun K5 hK5 => ?_
  refine wp_region_lit ?_
  refine Kn.pure fh8 rfl rfl .none (Kn.ex_move fh8 (.tmp rfl)) fun fa9 fh9 => ?_
  clear fh8 fa8
  refine Kn.pure fh9 rfl rfl .none (Kn.ex_assign fh9 .const) fun fa10 fh10 => ?_
  clear fh9 fa9
  refine Kn.pure fh10 rfl rfl .none (Kn.ex_assign fh10 (.tmp rfl)) fun fa11 fh11 => ?_
  clear fh10 fa10
  refine wpList_nil ?_
  refine hK5 _ _ ?_
  clear hK5 K5
  replace fh11 := fh11.cut (.cons (t := 7) rfl (.cons (t := 6) rfl (.cons (t := 0) rfl (.cons (t := 1) rfl (.cons (t := 2) rfl .nil)))))
  refine wp_ret ?_
  refine Kn.then_ret ?_
  exact Kn.ret2 fh11 rfl rfl rfl ⟨rfl, rfl⟩

set_option maxRecDepth 100000 in
set_option maxHeartbeats 2000000 in
theorem gPut_any (N v : Int) (A : Option Addr) (ca f : Nat) (l : List Int) (w : World) (hN : N ≤ 4096) (hv0 : 0 ≤ v) (hv1 : v < N) (hl : l.length ≤ 100000) (hca : l.length ≤ ca) (hca2 : ca ≤ 9223372036854775807) (hA : IIn w A l) (hG : ∀ i, i < f → ¬ badT N l i) (hB : f < l.length → badT N l f) :
    Calls Tryd.prog 6 #[.int .i64 N, .int .i64 v, .slice A l.length ca] w fun e w' => e = .returned (if f < l.length then .tuple #[.string (bs []), faultV (f : Int) 10] else .tuple #[.string (bs (putF v l l.length)), .nilIface]) ∧ Below w.heap.size w w' := by
  have HA := Lib.hid hA
  have HGd := Lib.hid hG
  have HBd := Lib.hid hB
  clear hA hG hB
  refine Kn.calls Tryd.func6 rfl Tryd.ntmps6 rfl (.cons (t := 0) rfl (.cons (t := 1) rfl (.cons (t := 2) rfl .nil))) fun fa0 fh0 => ?_
  refine wp_seq_k fun K1 hK1 => ?_
  refine wp_region_lit ?_
  refine Kn.pure fh0 rfl rfl .none (Kn.ex_assign fh0 .const) fun fa1 fh1 => ?_
  clear fh0 fa0
  refine Kn.pure fh1 rfl rfl .none (Kn.ex_assign fh1 .const) fun fa2 fh2 => ?_
  clear fh1 fa1
  refine wpList_nil ?_
  refine hK1 _ _ ?_
  clear hK1 K1
  have hc := check_ok N v w (by omega) hN hv0 hv1
  have hps := putShort_ok (l.length : Int) w (by omega) (by omega)
  rw [Int.toNat_natCast] at hps
  have HSL : Hid ((short l.length).length ≤ 9) := Lib.hid (short_len9 _ (by omega))
  obtain ⟨U, hU⟩ : ∃ U, bs (short l.length) = U := ⟨_, rfl⟩
  rw [show (⟨(short l.length).toArray⟩ : ByteArray) = U from hU] at hps
  have hUs : U.size ≤ 9 := by rw [← hU, bs_size]; exact HSL.out
  have HU := Lib.hid hU
  clear hU
  refine wp_seq_k fun K2 hK2 => ?_
  refine wp_seq_k fun K3 hK3 => ?_
  refine wp_region_lit ?_
  refine Kn.pure fh2 rfl rfl .none (Kn.ex_move fh2 (.tmp rfl)) fun fa3 fh3 => ?_
  clear fh2 fa2
  refine Kn.pure fh3 rfl rfl .none (Kn.ex_move fh3 (.tmp rfl)) fun fa4 fh4 => ?_
  clear fh3 fa3
  refine Kn.call fh4 rfl rfl .none (Kn.ex_call fh4 (.cons (.tmp rfl) (.cons (.tmp rfl) .nil))) Tryd.call20 (hc) fun e w1 hp => ?_
  obtain ⟨rfl, rfl⟩ := hp
  refine ⟨_, rfl, fun fa5 fh5 => ?_⟩
  clear fh4 fa4
  refine Kn.pure fh5 rfl rfl .none (Kn.ex_assign fh5 (.tmp rfl)) fun fa6 fh6 => ?_
  clear fh5 fa5
  refine wpList_nil ?_
  refine hK3 _ _ ?_
  clear hK3 K3
  replace fh6 := fh6.cut (.cons (t := 8) rfl (.cons (t := 7) rfl (.cons (t := 6) rfl (.cons (t := 0) rfl (.cons (t := 1) rfl (.cons (t := 2) rfl .nil))))))
  clear hc
  refine wp_seq_k fun K4 hK4 => ?_
  refine wp_region_lit ?_
  refine Kn.pure fh6 rfl rfl .none (Kn.ex_move fh6 (.tmp rfl)) fun fa7 fh7 => ?_
  clear fh6 fa6
  refine Kn.step fh7 rfl rfl .none (Kn.ex_bin fh7 (.tmp rfl) .const) fun Ko hKo => ?_
  go_simp
  try go_bits
  refine hKo _ _ fun fa8 fh8 => ?_
  clear hKo Ko fh7 fa7
  refine wpList_nil ?_
  refine hK4 _ _ ?_
  clear hK4 K4
  replace fh8 := fh8.cut (.cons (t := 20) rfl (.cons (t := 8) rfl (.cons (t := 7) rfl (.cons (t := 6) rfl (.cons (t := 0) rfl (.cons (t := 1) rfl (.cons (t := 2) rfl .nil)))))))
  refine Kn.no fh8 (.tmp rfl) ?_
  refine wp_skip ?_
  refine hK2 _ _ ?_
  clear hK2 K2
  replace fh8 := fh8.cut (.cons (t := 7) rfl (.cons (t := 6) rfl (.cons (t := 0) rfl (.cons (t := 1) rfl (.cons (t := 2) rfl .nil)))))
  refine wp_seq_k fun K5 hK5 => ?_
  refine wp_region_lit ?_
  refine Kn.pure fh8 rfl rfl .none (Kn.ex_move fh8 (.tmp rfl)) fun fa9 fh9 => ?_
  clear fh8 fa8
  refine Kn.step fh9 rfl rfl .none (Kn.ex_len fh9 (.tmp rfl)) fun Ko hKo => ?_
  go_simp
  try go_bits
  refine hKo _ _ fun fa10 fh10 => ?_
  clear hKo Ko fh9 fa9
  refine Kn.call fh10 rfl rfl .none (Kn.ex_call fh10 (.cons (.tmp rfl) .nil)) Tryd.call21 (hps) fun e w1 hp => ?_
  obtain ⟨rfl, hb1⟩ := hp
  refine ⟨_, rfl, fun fa11 fh11 => ?_⟩
  clear fh10 fa10
  refine Kn.pure fh11 rfl rfl .none (Kn.ex_move fh11 (.tmp rfl)) fun fa12 fh12 => ?_
  clear fh11 fa11
  refine Kn.pure fh12 rfl rfl .none (Kn.ex_extract fh12 (.tmp rfl) rfl) fun fa13 fh13 => ?_
  clear fh12 fa12
  refine Kn.pure fh13 rfl rfl .none (Kn.ex_extract fh13 (.tmp rfl) rfl) fun fa14 fh14 => ?_
  clear fh13 fa13
  refine Kn.pure fh14 rfl rfl .none (Kn.ex_assign fh14 (.tmp rfl)) fun fa15 fh15 => ?_
  clear fh14 fa14
  refine Kn.pure fh15 rfl rfl .none (Kn.ex_assign fh15 (.tmp rfl)) fun fa16 fh16 => ?_
  clear fh15 fa15
  refine wpList_nil ?_
  refine hK5 _ _ ?_
  clear hK5 K5
  replace fh16 := fh16.cut (.cons (t := 10) rfl (.cons (t := 9) rfl (.cons (t := 7) rfl (.cons (t := 6) rfl (.cons (t := 0) rfl (.cons (t := 1) rfl (.cons (t := 2) rfl .nil)))))))
  clear hps
  refine wp_seq_k fun K6 hK6 => ?_
  refine wp_seq_k fun K7 hK7 => ?_
  refine wp_region_lit ?_
  refine Kn.pure fh16 rfl rfl .none (Kn.ex_move fh16 (.tmp rfl)) fun fa17 fh17 => ?_
  clear fh16 fa16
  refine Kn.step fh17 rfl rfl .none (Kn.ex_bin fh17 (.tmp rfl) .const) fun Ko hKo => ?_
  go_simp
  try go_bits
  refine hKo _ _ fun fa18 fh18 => ?_
  clear hKo Ko fh17 fa17
  refine wpList_nil ?_
  refine hK7 _ _ ?_
  clear hK7 K7
  replace fh18 := fh18.cut (.cons (t := 29) rfl (.cons (t := 10) rfl (.cons (t := 9) rfl (.cons (t := 7) rfl (.cons (t := 6) rfl (.cons (t := 0) rfl (.cons (t := 1) rfl (.cons (t := 2) rfl .nil))))))))
  refine Kn.no fh18 (.tmp rfl) ?_
  refine wp_skip ?_
  refine hK6 _ _ ?_
  clear hK6 K6
  replace fh18 := fh18.cut (.cons (t := 9) rfl (.cons (t := 7) rfl (.cons (t := 6) rfl (.cons (t := 0) rfl (.cons (t := 1) rfl (.cons (t := 2) rfl .nil))))))
  obtain ⟨bv0, w2, hmk, hO, hb2⟩ := made w1 w.heap.size hb1.size U (by unfold maxLen; omega)
  have HO2 : Hid (OwnX w2 w.heap.size bv0 (putF v l 0)) := Lib.hid (by rw [show putF v l 0 = U.data.toList by rw [← HU.out, bs_data]; rfl]; exact hO)
  have HB2 := Lib.hid (hb1.trans (hb2.mono hb1.size))
  clear hO hb1 hb2
  refine wp_seq_k fun K8 hK8 => ?_
  refine wp_region_lit ?_
  refine Kn.pure fh18 rfl rfl .none (Kn.ex_move fh18 (.tmp rfl)) fun fa19 fh19 => ?_
  clear fh18 fa18
  refine Kn.known fh19 rfl rfl .none (Kn.ex_convert fh19 (.tmp rfl)) hmk fun fa20 fh20 => ?_
  clear fh19 fa19
  refine Kn.pure fh20 rfl rfl .none (Kn.ex_assign fh20 (.tmp rfl)) fun fa21 fh21 => ?_
  clear fh20 fa20
  refine wpList_nil ?_
  refine hK8 _ _ ?_
  clear hK8 K8
  replace fh21 := fh21.cut (.cons (t := 11) rfl (.cons (t := 7) rfl (.cons (t := 6) rfl (.cons (t := 0) rfl (.cons (t := 1) rfl (.cons (t := 2) rfl .nil))))))
  clear hmk
  refine wp_seq_k fun K9 hK9 => ?_
  refine wp_seq_k fun K10 hK10 => ?_
  refine wp_region_lit ?_
  refine Kn.pure fh21 rfl rfl .none (Kn.ex_move fh21 (.tmp rfl)) fun fa22 fh22 => ?_
  clear fh21 fa21
  refine Kn.step fh22 rfl rfl .none (Kn.ex_len fh22 (.tmp rfl)) fun Ko hKo => ?_
  go_simp
  try go_bits
  refine hKo _ _ fun fa23 fh23 => ?_
  clear hKo Ko fh22 fa22
  refine Kn.pure fh23 rfl rfl .none (Kn.ex_move fh23 .const) fun fa24 fh24 => ?_
  clear fh23 fa23
  refine wpList_nil ?_
  refine hK10 _ _ ?_
  clear hK10 K10
  refine wp_block ?_
  refine Kn.loop (fun m fr u => ∃ (k : Nat) (bv : Value), Kn.Kn 78 [(35, .int .i64 (k : Int)), (34, .int .i64 (l.length : Int)), (33, .slice A l.length ca), (11, bv), (0, .int .i64 N), (1, .int .i64 v), (2, .slice A l.length ca)] fr ∧ k + m = l.length ∧ k ≤ f ∧ Hid ((putF v l k).length ≤ 9 + 9 * k) ∧ Hid (OwnX u w.heap.size bv (putF v l k)) ∧ Hid (Below w.heap.size w u)) l.length ⟨0, bv0, fh24.cut (.turn (t := 35) rfl rfl (.cons (t := 34) rfl (.cons (t := 33) rfl (.cons (t := 11) rfl (.cons (t := 0) rfl (.cons (t := 1) rfl (.cons (t := 2) rfl .nil))))))), by omega, Nat.zero_le _, Lib.hid (by have := HSL.out; rw [putF]; omega), HO2, HB2⟩ ?_
  clear fh24 fa24
  intro m11 fa25 u hI Kl11 hKl11
  obtain ⟨k, bv, fh25, hk, hkf, HLn, HO, HB⟩ := hI
  clear HO2 HB2
  by_cases hlt : k < l.length
  · obtain ⟨ba, oa, rfl, -, ca1⟩ := (HA.out.on HB.out) k hlt
    obtain ⟨x, hx⟩ : ∃ x, nt l k = x := ⟨_, rfl⟩
    rw [hx] at ca1
    have HX := Lib.hid hx
    clear hx
    have hn := isNode_any N x u
    refine wp_seq_k fun K12 hK12 => ?_
    refine wp_region_lit ?_
    refine Kn.step fh25 rfl rfl .none (Kn.ex_bin fh25 (.tmp rfl) (.tmp rfl)) fun Ko hKo => ?_
    go_simp
    try go_bits
    refine hKo _ _ fun fa26 fh26 => ?_
    clear hKo Ko fh25 fa25
    refine wpList_nil ?_
    refine hK12 _ _ ?_
    clear hK12 K12
    refine wp_seq_k fun K13 hK13 => ?_
    refine Kn.yes fh26 (.tmp rfl) ?_
    refine wp_skip ?_
    refine hK13 _ _ ?_
    clear hK13 K13
    replace fh26 := fh26.cut (.cons (t := 35) rfl (.cons (t := 34) rfl (.cons (t := 33) rfl (.cons (t := 11) rfl (.cons (t := 0) rfl (.cons (t := 1) rfl (.cons (t := 2) rfl .nil)))))))
    refine wp_seq_k fun K14 hK14 => ?_
    refine wp_block ?_
    refine wp_seq_k fun K15 hK15 => ?_
    refine wp_region_lit ?_
    refine Kn.pure fh26 rfl rfl .none (Kn.ex_move fh26 (.tmp rfl)) fun fa27 fh27 => ?_
    clear fh26 fa26
    refine Kn.step fh27 rfl rfl .none (Kn.ex_indexAddr fh27 (.tmp rfl) (.tmp rfl)) fun Ko hKo => ?_
    go_simp
    try go_bits
    refine hKo _ _ fun fa28 fh28 => ?_
    clear hKo Ko fh27 fa27
    refine Kn.step fh28 rfl rfl .none (Kn.ex_load fh28 (.tmp rfl)) fun Ko hKo => ?_
    go_simp
    try go_bits
    refine hKo _ _ fun fa29 fh29 => ?_
    clear hKo Ko fh28 fa28
    refine Kn.pure fh29 rfl rfl .none (Kn.ex_assign fh29 (.tmp rfl)) fun fa30 fh30 => ?_
    clear fh29 fa29
    refine Kn.pure fh30 rfl rfl .none (Kn.ex_assign fh30 (.tmp rfl)) fun fa31 fh31 => ?_
    clear fh30 fa30
    refine wpList_nil ?_
    refine hK15 _ _ ?_
    clear hK15 K15
    replace fh31 := fh31.cut (.cons (t := 13) rfl (.cons (t := 12) rfl (.cons (t := 35) rfl (.cons (t := 34) rfl (.cons (t := 33) rfl (.cons (t := 11) rfl (.cons (t := 0) rfl (.cons (t := 1) rfl (.cons (t := 2) rfl .nil)))))))))
    by_cases e1 : x < 0 ∨ N ≤ x
    · rw [nodeB_no e1] at hn
      have HF : Hid (f = k) := Lib.hid (by
        rcases Nat.lt_or_ge k f with h | h
        · exact absurd (show badT N l k from by have h1 : l.getD k 0 = x := HX.out; unfold badT; rw [h1]; rcases e1 with e | e; exact .inl e; exact .inr (.inl e)) (HGd.out k h)
        · omega)
      have hf := gfault_any (k : Int) 55 (.int .i64 10) u
      unfold flt at hf
      refine wp_seq_k fun K16 hK16 => ?_
      refine wp_seq_k fun K17 hK17 => ?_
      refine wp_region_lit ?_
      refine Kn.pure fh31 rfl rfl .none (Kn.ex_move fh31 (.tmp rfl)) fun fa32 fh32 => ?_
      clear fh31 fa31
      refine Kn.pure fh32 rfl rfl .none (Kn.ex_move fh32 (.tmp rfl)) fun fa33 fh33 => ?_
      clear fh32 fa32
      refine Kn.call fh33 rfl rfl .none (Kn.ex_call fh33 (.cons (.tmp rfl) (.cons (.tmp rfl) .nil))) Tryd.call22 (hn) fun e w3 hp => ?_
      obtain ⟨rfl, rfl⟩ := hp
      refine ⟨_, rfl, fun fa34 fh34 => ?_⟩
      clear fh33 fa33
      refine Kn.step fh34 rfl rfl .none (Kn.ex_un fh34 (.tmp rfl)) fun Ko hKo => ?_
      go_simp
      try go_bits
      refine hKo _ _ fun fa35 fh35 => ?_
      clear hKo Ko fh34 fa34
      refine Kn.pure fh35 rfl rfl .none (Kn.ex_move fh35 (.tmp rfl)) fun fa36 fh36 => ?_
      clear fh35 fa35
      refine Kn.skip fh36 rfl rfl (.some rfl rfl rfl) fun fa37 fh37 => ?_
      clear fh36 fa36
      refine Kn.skip fh37 rfl rfl (.some rfl rfl rfl) fun fa38 fh38 => ?_
      clear fh37 fa37
      refine Kn.skip fh38 rfl rfl (.some rfl rfl rfl) fun fa39 fh39 => ?_
      clear fh38 fa38
      refine Kn.skip fh39 rfl rfl (.gone rfl rfl) fun fa40 fh40 => ?_
      clear fh39 fa39
      refine Kn.skip fh40 rfl rfl (.gone rfl rfl) fun fa41 fh41 => ?_
      clear fh40 fa40
      refine Kn.skip fh41 rfl rfl (.gone rfl rfl) fun fa42 fh42 => ?_
      clear fh41 fa41
      refine Kn.skip fh42 rfl rfl (.gone rfl rfl) fun fa43 fh43 => ?_
      clear fh42 fa42
      refine Kn.skip fh43 rfl rfl (.gone rfl rfl) fun fa44 fh44 => ?_
      clear fh43 fa43
      refine Kn.skip fh44 rfl rfl (.gone rfl rfl) fun fa45 fh45 => ?_
      clear fh44 fa44
      refine Kn.skip fh45 rfl rfl (.gone rfl rfl) fun fa46 fh46 => ?_
      clear fh45 fa45
      refine Kn.skip fh46 rfl rfl (.some rfl rfl rfl) fun fa47 fh47 => ?_
      clear fh46 fa46
      refine Kn.pure fh47 rfl rfl .none (Kn.ex_pick fh47 (.tmp rfl) .const) fun fa48 fh48 => ?_
      clear fh47 fa47
      refine wpList_nil ?_
      refine hK17 _ _ ?_
      clear hK17 K17
      replace fh48 := fh48.cut (.cons (t := 56) rfl (.cons (t := 13) rfl (.cons (t := 12) rfl (.cons (t := 35) rfl (.cons (t := 34) rfl (.cons (t := 33) rfl (.cons (t := 11) rfl (.cons (t := 0) rfl (.cons (t := 1) rfl (.cons (t := 2) rfl .nil))))))))))
      refine Kn.yes fh48 (.tmp rfl) ?_
      replace fh48 := fh48.cut (.cons (t := 13) rfl (.cons (t := 12) rfl (.cons (t := 35) rfl (.cons (t := 34) rfl (.cons (t := 33) rfl (.cons (t := 11) rfl (.cons (t := 0) rfl (.cons (t := 1) rfl (.cons (t := 2) rfl .nil)))))))))
      refine wp_seq_k fun K18 hK18 => ?_
      refine wp_region_lit ?_
      refine Kn.pure fh48 rfl rfl .none (Kn.ex_move fh48 (.tmp rfl)) fun fa49 fh49 => ?_
      clear fh48 fa48
      refine Kn.step fh49 rfl rfl .none (Kn.ex_makeInterface fh49 .const) fun Ko hKo => ?_
      go_simp
      try go_bits
      refine hKo _ _ fun fa50 fh50 => ?_
      clear hKo Ko fh49 fa49
      refine Kn.call fh50 rfl rfl .none (Kn.ex_call fh50 (.cons (.tmp rfl) (.cons (.tmp rfl) .nil))) Tryd.call23 (hf) fun e w3 hp => ?_
      obtain ⟨rfl, rfl⟩ := hp
      refine ⟨_, rfl, fun fa51 fh51 => ?_⟩
      clear fh50 fa50
      refine Kn.pure fh51 rfl rfl .none (Kn.ex_assign fh51 .const) fun fa52 fh52 => ?_
      clear fh51 fa51
      refine Kn.pure fh52 rfl rfl .none (Kn.ex_assign fh52 (.tmp rfl)) fun fa53 fh53 => ?_
      clear fh52 fa52
      refine wpList_nil ?_
      refine hK18 _ _ ?_
      clear hK18 K18
      replace fh53 := fh53.cut (.cons (t := 7) rfl (.cons (t := 6) rfl (.cons (t := 13) rfl (.cons (t := 12) rfl (.cons (t := 35) rfl (.cons (t := 34) rfl (.cons (t := 33) rfl (.cons (t := 11) rfl (.cons (t := 0) rfl (.cons (t := 1) rfl (.cons (t := 2) rfl .nil)))))))))))
      refine wp_ret ?_
      refine Kn.then_ret ?_
      refine Kn.block_ret ?_
      refine Kn.then_ret ?_
      refine Kn.then_ret ?_
      refine Kn.block_ret ?_
      refine Kn.then_ret ?_
      exact Kn.ret2 fh53 rfl rfl rfl ⟨by rw [HF.out, if_pos hlt]; rfl, HB.out⟩
    rw [nodeB_yes (by omega) (by omega)] at hn
    have hxr : 0 ≤ x ∧ x < N := by omega
    clear e1
    have hsl := sliceH0 ba oa l.length ca k u (by omega) hca2
    by_cases hk0 : k = 0
    · subst hk0
      have hkf2 : 0 + 1 ≤ f := by
        rcases Nat.lt_or_ge 0 f with h | h
        · exact h
        · have e : f = 0 := by omega
          subst e
          have h1 : l.getD 0 0 = x := HX.out
          rcases HBd.out hlt with h2 | h2 | h2
          · omega
          · omega
          · omega
      have HPS : Hid (putF v l (0 + 1) = putF v l 0 ++ st1 true v x) := Lib.hid (putF_step v l 0 v x HX.out rfl)
      have hki : ¬ (0 : Int) < ((0 : Nat) : Int) := by omega
      have hst := putStep_first v x (some ⟨ba, oa, none⟩) ca u hv0 (by omega) hxr.1 (by omega)
      obtain ⟨S, hS⟩ : ∃ S, bs (st1 true v x) = S := ⟨_, rfl⟩
      rw [hS] at hst
      have hSs : S.size ≤ 9 := by rw [← hS, bs_size]; exact st1_len _ _ _ (by omega) (by omega) (by omega) (by omega)
      have HP : Hid (putF v l (0 + 1) = putF v l 0 ++ S.data.toList) := Lib.hid (by rw [← hS, bs_data]; exact HPS.out)
      clear hS HPS
      refine wp_seq_k fun K16 hK16 => ?_
      refine wp_seq_k fun K17 hK17 => ?_
      refine wp_region_lit ?_
      refine Kn.pure fh31 rfl rfl .none (Kn.ex_move fh31 (.tmp rfl)) fun fa32 fh32 => ?_
      clear fh31 fa31
      refine Kn.pure fh32 rfl rfl .none (Kn.ex_move fh32 (.tmp rfl)) fun fa33 fh33 => ?_
      clear fh32 fa32
      refine Kn.call fh33 rfl rfl .none (Kn.ex_call fh33 (.cons (.tmp rfl) (.cons (.tmp rfl) .nil))) Tryd.call22 (hn) fun e w3 hp => ?_
      obtain ⟨rfl, rfl⟩ := hp
      refine ⟨_, rfl, fun fa34 fh34 => ?_⟩
      clear fh33 fa33
      refine Kn.step fh34 rfl rfl .none (Kn.ex_un fh34 (.tmp rfl)) fun Ko hKo => ?_
      go_simp
      try go_bits
      refine hKo _ _ fun fa35 fh35 => ?_
      clear hKo Ko fh34 fa34
      refine Kn.pure fh35 rfl rfl .none (Kn.ex_move fh35 (.tmp rfl)) fun fa36 fh36 => ?_
      clear fh35 fa35
      refine Kn.pure fh36 rfl rfl (.some rfl rfl rfl) (Kn.ex_move fh36 (.tmp rfl)) fun fa37 fh37 => ?_
      clear fh36 fa36
      refine Kn.step fh37 rfl rfl (.some rfl rfl rfl) (Kn.ex_bin fh37 (.tmp rfl) .const) fun Ko hKo => ?_
      go_simp
      try go_bits
      refine hKo _ _ fun fa38 fh38 => ?_
      clear hKo Ko fh37 fa37
      refine Kn.pure fh38 rfl rfl (.some rfl rfl rfl) (Kn.ex_move fh38 (.tmp rfl)) fun fa39 fh39 => ?_
      clear fh38 fa38
      refine Kn.skip fh39 rfl rfl (.some rfl rfl rfl) fun fa40 fh40 => ?_
      clear fh39 fa39
      refine Kn.skip fh40 rfl rfl (.some rfl rfl rfl) fun fa41 fh41 => ?_
      clear fh40 fa40
      refine Kn.skip fh41 rfl rfl (.some rfl rfl rfl) fun fa42 fh42 => ?_
      clear fh41 fa41
      refine Kn.skip fh42 rfl rfl (.some rfl rfl rfl) fun fa43 fh43 => ?_
      clear fh42 fa42
      refine Kn.skip fh43 rfl rfl (.some rfl rfl rfl) fun fa44 fh44 => ?_
      clear fh43 fa43
      refine Kn.skip fh44 rfl rfl (.some rfl rfl rfl) fun fa45 fh45 => ?_
      clear fh44 fa44
      refine Kn.skip fh45 rfl rfl (.some rfl rfl rfl) fun fa46 fh46 => ?_
      clear fh45 fa45
      refine Kn.pure fh46 rfl rfl (.some rfl rfl rfl) (Kn.ex_pick fh46 (.tmp rfl) .const) fun fa47 fh47 => ?_
      clear fh46 fa46
      refine Kn.pure fh47 rfl rfl .none (Kn.ex_pick fh47 (.tmp rfl) (.tmp rfl)) fun fa48 fh48 => ?_
      clear fh47 fa47
      refine wpList_nil ?_
      refine hK17 _ _ ?_
      clear hK17 K17
      replace fh48 := fh48.cut (.cons (t := 56) rfl (.cons (t := 13) rfl (.cons (t := 12) rfl (.cons (t := 35) rfl (.cons (t := 34) rfl (.cons (t := 33) rfl (.cons (t := 11) rfl (.cons (t := 0) rfl (.cons (t := 1) rfl (.cons (t := 2) rfl .nil))))))))))
      refine Kn.no fh48 (.tmp rfl) ?_
      refine wp_skip ?_
      refine hK16 _ _ ?_
      clear hK16 K16
      replace fh48 := fh48.cut (.cons (t := 13) rfl (.cons (t := 12) rfl (.cons (t := 35) rfl (.cons (t := 34) rfl (.cons (t := 33) rfl (.cons (t := 11) rfl (.cons (t := 0) rfl (.cons (t := 1) rfl (.cons (t := 2) rfl .nil)))))))))
      clear hn
      refine wp_seq_k fun K18 hK18 => ?_
      refine wp_region_lit ?_
      refine Kn.pure fh48 rfl rfl .none (Kn.ex_move fh48 (.tmp rfl)) fun fa49 fh49 => ?_
      clear fh48 fa48
      refine Kn.pure fh49 rfl rfl .none (Kn.ex_move fh49 (.tmp rfl)) fun fa50 fh50 => ?_
      clear fh49 fa49
      refine Kn.pure fh50 rfl rfl .none (Kn.ex_move fh50 (.tmp rfl)) fun fa51 fh51 => ?_
      clear fh50 fa50
      refine Kn.known fh51 rfl rfl .none (Kn.ex_sliceH fh51 (.tmp rfl) (.tmp rfl)) hsl fun fa52 fh52 => ?_
      clear fh51 fa51
      refine Kn.pure fh52 rfl rfl .none (Kn.ex_move fh52 (.tmp rfl)) fun fa53 fh53 => ?_
      clear fh52 fa52
      refine Kn.call fh53 rfl rfl .none (Kn.ex_call fh53 (.cons (.tmp rfl) (.cons (.tmp rfl) (.cons (.tmp rfl) .nil)))) Tryd.call24 (hst) fun e u1 hp => ?_
      obtain ⟨rfl, hb1⟩ := hp
      refine ⟨_, rfl, fun fa54 fh54 => ?_⟩
      clear fh53 fa53
      refine Kn.pure fh54 rfl rfl .none (Kn.ex_move fh54 (.tmp rfl)) fun fa55 fh55 => ?_
      clear fh54 fa54
      refine Kn.pure fh55 rfl rfl .none (Kn.ex_extract fh55 (.tmp rfl) rfl) fun fa56 fh56 => ?_
      clear fh55 fa55
      refine Kn.pure fh56 rfl rfl .none (Kn.ex_extract fh56 (.tmp rfl) rfl) fun fa57 fh57 => ?_
      clear fh56 fa56
      refine Kn.pure fh57 rfl rfl .none (Kn.ex_assign fh57 (.tmp rfl)) fun fa58 fh58 => ?_
      clear fh57 fa57
      refine Kn.pure fh58 rfl rfl .none (Kn.ex_assign fh58 (.tmp rfl)) fun fa59 fh59 => ?_
      clear fh58 fa58
      refine wpList_nil ?_
      refine hK18 _ _ ?_
      clear hK18 K18
      replace fh59 := fh59.cut (.cons (t := 15) rfl (.cons (t := 14) rfl (.cons (t := 35) rfl (.cons (t := 34) rfl (.cons (t := 33) rfl (.cons (t := 11) rfl (.cons (t := 0) rfl (.cons (t := 1) rfl (.cons (t := 2) rfl .nil)))))))))
      clear hst hsl ca1
      refine wp_seq_k fun K19 hK19 => ?_
      refine wp_seq_k fun K20 hK20 => ?_
      refine wp_region_lit ?_
      refine Kn.pure fh59 rfl rfl .none (Kn.ex_move fh59 (.tmp rfl)) fun fa60 fh60 => ?_
      clear fh59 fa59
      refine Kn.step fh60 rfl rfl .none (Kn.ex_bin fh60 (.tmp rfl) .const) fun Ko hKo => ?_
      go_simp
      try go_bits
      refine hKo _ _ fun fa61 fh61 => ?_
      clear hKo Ko fh60 fa60
      refine wpList_nil ?_
      refine hK20 _ _ ?_
      clear hK20 K20
      replace fh61 := fh61.cut (.cons (t := 70) rfl (.cons (t := 15) rfl (.cons (t := 14) rfl (.cons (t := 35) rfl (.cons (t := 34) rfl (.cons (t := 33) rfl (.cons (t := 11) rfl (.cons (t := 0) rfl (.cons (t := 1) rfl (.cons (t := 2) rfl .nil))))))))))
      refine Kn.no fh61 (.tmp rfl) ?_
      refine wp_skip ?_
      refine hK19 _ _ ?_
      clear hK19 K19
      replace fh61 := fh61.cut (.cons (t := 14) rfl (.cons (t := 35) rfl (.cons (t := 34) rfl (.cons (t := 33) rfl (.cons (t := 11) rfl (.cons (t := 0) rfl (.cons (t := 1) rfl (.cons (t := 2) rfl .nil))))))))
      obtain ⟨bv2, u2, hrun, hO2, hB2⟩ := (HO.out.on hb1).push (HB.out.trans (hb1.mono HB.out.size)) S 52 (by have := HLn.out; omega)
      have HO2 : Hid (OwnX u2 w.heap.size bv2 (putF v l (0 + 1))) := Lib.hid (by rw [HP.out]; exact hO2)
      have HB2 := Lib.hid hB2
      have HL2 : Hid ((putF v l (0 + 1)).length ≤ 9 + 9 * (0 + 1)) := Lib.hid (by have := HLn.out; have e : S.data.toList.length = S.size := rfl; rw [HP.out, List.length_append, e]; omega)
      clear hO2 hB2 hb1
      refine wp_region_lit ?_
      refine Kn.pure fh61 rfl rfl .none (Kn.ex_move fh61 (.tmp rfl)) fun fa62 fh62 => ?_
      clear fh61 fa61
      refine Kn.pure fh62 rfl rfl .none (Kn.ex_move fh62 (.tmp rfl)) fun fa63 fh63 => ?_
      clear fh62 fa62
      refine Kn.known fh63 rfl rfl .none (Kn.ex_append fh63 (.cons (.tmp rfl) (.cons (.tmp rfl) .nil))) hrun fun fa64 fh64 => ?_
      clear fh63 fa63
      refine Kn.pure fh64 rfl rfl .none (Kn.ex_assign fh64 (.tmp rfl)) fun fa65 fh65 => ?_
      clear fh64 fa64
      refine wpList_nil ?_
      refine Kn.block_normal ?_
      refine hK14 _ _ ?_
      clear hK14 K14
      replace fh65 := fh65.cut (.cons (t := 11) rfl (.cons (t := 35) rfl (.cons (t := 34) rfl (.cons (t := 33) rfl (.cons (t := 0) rfl (.cons (t := 1) rfl (.cons (t := 2) rfl .nil)))))))
      clear hrun
      refine wp_region_lit ?_
      refine Kn.step fh65 rfl rfl .none (Kn.ex_bin fh65 (.tmp rfl) .const) fun Ko hKo => ?_
      go_simp
      try go_bits
      refine hKo _ _ fun fa66 fh66 => ?_
      clear hKo Ko fh65 fa65
      refine Kn.pure fh66 rfl rfl .none (Kn.ex_move fh66 (.tmp rfl)) fun fa67 fh67 => ?_
      clear fh66 fa66
      refine wpList_nil ?_
      replace fh67 := fh67.cut (.cons (t := 35) rfl (.cons (t := 11) rfl (.cons (t := 34) rfl (.cons (t := 33) rfl (.cons (t := 0) rfl (.cons (t := 1) rfl (.cons (t := 2) rfl .nil)))))))
      exact hKl11 (m11 - 1) _ _ (by omega) ⟨0 + 1, bv2, fh67.cut (.turn (t := 35) rfl (by go_num) (.cons (t := 34) rfl (.cons (t := 33) rfl (.cons (t := 11) rfl (.cons (t := 0) rfl (.cons (t := 1) rfl (.cons (t := 2) rfl .nil))))))), by omega, hkf2, HL2, HO2, HB2⟩
    obtain ⟨j, hj⟩ : ∃ j, k = j + 1 := ⟨k - 1, by omega⟩
    have hki : (0 : Int) < (k : Int) := by omega
    have hki2 : 0 < k := by omega
    have rj : (k : Int) - 1 = (j : Int) := by omega
    have hjl : j < l.length := by omega
    have cb1 := IIn.cells (HA.out.on HB.out) hjl
    obtain ⟨y, hy⟩ : ∃ y, nt l j = y := ⟨_, rfl⟩
    rw [hy] at cb1
    have HYJ := Lib.hid hy
    have HJ := Lib.hid hj
    have hyr : 0 ≤ y ∧ y < N := by
      have := HGd.out j (by omega)
      unfold badT at this
      have h1 : l.getD j 0 = y := hy
      rw [h1] at this
      omega
    have HY : Hid (l.getD (k - 1) 0 = y) := Lib.hid (by rw [hj]; exact hy)
    clear hy hj
    by_cases e3 : x ≤ y
    · have HF : Hid (f = k) := Lib.hid (by
        rcases Nat.lt_or_ge k f with h | h
        · exact absurd (show badT N l k from .inr (.inr ⟨hki2, by rw [show l.getD k 0 = x from HX.out, HY.out]; exact e3⟩)) (HGd.out k h)
        · omega)
      have hf := gfault_any (k : Int) 55 (.int .i64 10) u
      unfold flt at hf
      refine wp_seq_k fun K16 hK16 => ?_
      refine wp_seq_k fun K17 hK17 => ?_
      refine wp_region_lit ?_
      refine Kn.pure fh31 rfl rfl .none (Kn.ex_move fh31 (.tmp rfl)) fun fa32 fh32 => ?_
      clear fh31 fa31
      refine Kn.pure fh32 rfl rfl .none (Kn.ex_move fh32 (.tmp rfl)) fun fa33 fh33 => ?_
      clear fh32 fa32
      refine Kn.call fh33 rfl rfl .none (Kn.ex_call fh33 (.cons (.tmp rfl) (.cons (.tmp rfl) .nil))) Tryd.call22 (hn) fun e w3 hp => ?_
      obtain ⟨rfl, rfl⟩ := hp
      refine ⟨_, rfl, fun fa34 fh34 => ?_⟩
      clear fh33 fa33
      refine Kn.step fh34 rfl rfl .none (Kn.ex_un fh34 (.tmp rfl)) fun Ko hKo => ?_
      go_simp
      try go_bits
      refine hKo _ _ fun fa35 fh35 => ?_
      clear hKo Ko fh34 fa34
      refine Kn.pure fh35 rfl rfl .none (Kn.ex_move fh35 (.tmp rfl)) fun fa36 fh36 => ?_
      clear fh35 fa35
      refine Kn.pure fh36 rfl rfl (.some rfl rfl rfl) (Kn.ex_move fh36 (.tmp rfl)) fun fa37 fh37 => ?_
      clear fh36 fa36
      refine Kn.step fh37 rfl rfl (.some rfl rfl rfl) (Kn.ex_bin fh37 (.tmp rfl) .const) fun Ko hKo => ?_
      go_simp
      try go_bits
      refine hKo _ _ fun fa38 fh38 => ?_
      clear hKo Ko fh37 fa37
      refine Kn.pure fh38 rfl rfl (.some rfl rfl rfl) (Kn.ex_move fh38 (.tmp rfl)) fun fa39 fh39 => ?_
      clear fh38 fa38
      refine Kn.pure fh39 rfl rfl (.some rfl rfl rfl) (Kn.ex_move fh39 (.tmp rfl)) fun fa40 fh40 => ?_
      clear fh39 fa39
      refine Kn.pure fh40 rfl rfl (.some rfl rfl rfl) (Kn.ex_move fh40 (.tmp rfl)) fun fa41 fh41 => ?_
      clear fh40 fa40
      refine Kn.pure fh41 rfl rfl (.some rfl rfl rfl) (Kn.ex_move fh41 (.tmp rfl)) fun fa42 fh42 => ?_
      clear fh41 fa41
      refine Kn.step fh42 rfl rfl (.some rfl rfl rfl) (Kn.ex_bin fh42 (.tmp rfl) .const) fun Ko hKo => ?_
      go_simp
      try go_bits
      try simp only [rj]
      refine hKo _ _ fun fa43 fh43 => ?_
      clear hKo Ko fh42 fa42
      refine Kn.step fh43 rfl rfl (.some rfl rfl rfl) (Kn.ex_indexAddr fh43 (.tmp rfl) (.tmp rfl)) fun Ko hKo => ?_
      go_simp
      try go_bits
      refine hKo _ _ fun fa44 fh44 => ?_
      clear hKo Ko fh43 fa43
      refine Kn.step fh44 rfl rfl (.some rfl rfl rfl) (Kn.ex_load fh44 (.tmp rfl)) fun Ko hKo => ?_
      go_simp
      try go_bits
      refine hKo _ _ fun fa45 fh45 => ?_
      clear hKo Ko fh44 fa44
      refine Kn.step fh45 rfl rfl (.some rfl rfl rfl) (Kn.ex_bin fh45 (.tmp rfl) (.tmp rfl)) fun Ko hKo => ?_
      go_simp
      try go_bits
      refine hKo _ _ fun fa46 fh46 => ?_
      clear hKo Ko fh45 fa45
      refine Kn.pure fh46 rfl rfl (.some rfl rfl rfl) (Kn.ex_pick fh46 (.tmp rfl) (.tmp rfl)) fun fa47 fh47 => ?_
      clear fh46 fa46
      refine Kn.pure fh47 rfl rfl .none (Kn.ex_pick fh47 (.tmp rfl) (.tmp rfl)) fun fa48 fh48 => ?_
      clear fh47 fa47
      refine wpList_nil ?_
      refine hK17 _ _ ?_
      clear hK17 K17
      replace fh48 := fh48.cut (.cons (t := 56) rfl (.cons (t := 13) rfl (.cons (t := 12) rfl (.cons (t := 35) rfl (.cons (t := 34) rfl (.cons (t := 33) rfl (.cons (t := 11) rfl (.cons (t := 0) rfl (.cons (t := 1) rfl (.cons (t := 2) rfl .nil))))))))))
      refine Kn.yes fh48 (.tmp rfl) ?_
      replace fh48 := fh48.cut (.cons (t := 13) rfl (.cons (t := 12) rfl (.cons (t := 35) rfl (.cons (t := 34) rfl (.cons (t := 33) rfl (.cons (t := 11) rfl (.cons (t := 0) rfl (.cons (t := 1) rfl (.cons (t := 2) rfl .nil)))))))))
      refine wp_seq_k fun K18 hK18 => ?_
      refine wp_region_lit ?_
      refine Kn.pure fh48 rfl rfl .none (Kn.ex_move fh48 (.tmp rfl)) fun fa49 fh49 => ?_
      clear fh48 fa48
      refine Kn.step fh49 rfl rfl .none (Kn.ex_makeInterface fh49 .const) fun Ko hKo => ?_
      go_simp
      try go_bits
      refine hKo _ _ fun fa50 fh50 => ?_
      clear hKo Ko fh49 fa49
      refine Kn.call fh50 rfl rfl .none (Kn.ex_call fh50 (.cons (.tmp rfl) (.cons (.tmp rfl) .nil))) Tryd.call23 (hf) fun e w3 hp => ?_
      obtain ⟨rfl, rfl⟩ := hp
      refine ⟨_, rfl, fun fa51 fh51 => ?_⟩
      clear fh50 fa50
      refine Kn.pure fh51 rfl rfl .none (Kn.ex_assign fh51 .const) fun fa52 fh52 => ?_
      clear fh51 fa51
      refine Kn.pure fh52 rfl rfl .none (Kn.ex_assign fh52 (.tmp rfl)) fun fa53 fh53 => ?_
      clear fh52 fa52
      refine wpList_nil ?_
      refine hK18 _ _ ?_
      clear hK18 K18
      replace fh53 := fh53.cut (.cons (t := 7) rfl (.cons (t := 6) rfl (.cons (t := 13) rfl (.cons (t := 12) rfl (.cons (t := 35) rfl (.cons (t := 34) rfl (.cons (t := 33) rfl (.cons (t := 11) rfl (.cons (t := 0) rfl (.cons (t := 1) rfl (.cons (t := 2) rfl .nil)))))))))))
      refine wp_ret ?_
      refine Kn.then_ret ?_
      refine Kn.block_ret ?_
      refine Kn.then_ret ?_
      refine Kn.then_ret ?_
      refine Kn.block_ret ?_
      refine Kn.then_ret ?_
      exact Kn.ret2 fh53 rfl rfl rfl ⟨by rw [HF.out, if_pos hlt]; rfl, HB.out⟩
    have hkf2 : k + 1 ≤ f := by
      rcases Nat.lt_or_ge k f with h | h
      · exact h
      · have e : f = k := by omega
        subst e
        have h1 : l.getD f 0 = x := HX.out
        rcases HBd.out hlt with h2 | h2 | h2
        · omega
        · omega
        · rw [h1, HY.out] at h2; omega
    have HPS : Hid (putF v l (k + 1) = putF v l k ++ st1 false y x) := Lib.hid (by
      have e := putF_step v l k y x HX.out (by rw [if_neg hk0]; exact HY.out.symm)
      rwa [decide_eq_false hk0] at e)
    have hst := putStep_next v x y ba oa k ca u hki2 (by omega) hyr.1 (by omega) (by omega) (by rw [show k - 1 = j by have := HJ.out; omega]; exact cb1)
    obtain ⟨S, hS⟩ : ∃ S, bs (st1 false y x) = S := ⟨_, rfl⟩
    rw [hS] at hst
    have hSs : S.size ≤ 9 := by rw [← hS, bs_size]; exact st1_len _ _ _ (by omega) (by omega) (by omega) (by omega)
    have HP : Hid (putF v l (k + 1) = putF v l k ++ S.data.toList) := Lib.hid (by rw [← hS, bs_data]; exact HPS.out)
    clear hS HPS
    refine wp_seq_k fun K16 hK16 => ?_
    refine wp_seq_k fun K17 hK17 => ?_
    refine wp_region_lit ?_
    refine Kn.pure fh31 rfl rfl .none (Kn.ex_move fh31 (.tmp rfl)) fun fa32 fh32 => ?_
    clear fh31 fa31
    refine Kn.pure fh32 rfl rfl .none (Kn.ex_move fh32 (.tmp rfl)) fun fa33 fh33 => ?_
    clear fh32 fa32
    refine Kn.call fh33 rfl rfl .none (Kn.ex_call fh33 (.cons (.tmp rfl) (.cons (.tmp rfl) .nil))) Tryd.call22 (hn) fun e w3 hp => ?_
    obtain ⟨rfl, rfl⟩ := hp
    refine ⟨_, rfl, fun fa34 fh34 => ?_⟩
    clear fh33 fa33
    refine Kn.step fh34 rfl rfl .none (Kn.ex_un fh34 (.tmp rfl)) fun Ko hKo => ?_
    go_simp
    try go_bits
    refine hKo _ _ fun fa35 fh35 => ?_
    clear hKo Ko fh34 fa34
    refine Kn.pure fh35 rfl rfl .none (Kn.ex_move fh35 (.tmp rfl)) fun fa36 fh36 => ?_
    clear fh35 fa35
    refine Kn.pure fh36 rfl rfl (.some rfl rfl rfl) (Kn.ex_move fh36 (.tmp rfl)) fun fa37 fh37 => ?_
    clear fh36 fa36
    refine Kn.step fh37 rfl rfl (.some rfl rfl rfl) (Kn.ex_bin fh37 (.tmp rfl) .const) fun Ko hKo => ?_
    go_simp
    try go_bits
    refine hKo _ _ fun fa38 fh38 => ?_
    clear hKo Ko fh37 fa37
    refine Kn.pure fh38 rfl rfl (.some rfl rfl rfl) (Kn.ex_move fh38 (.tmp rfl)) fun fa39 fh39 => ?_
    clear fh38 fa38
    refine Kn.pure fh39 rfl rfl (.some rfl rfl rfl) (Kn.ex_move fh39 (.tmp rfl)) fun fa40 fh40 => ?_
    clear fh39 fa39
    refine Kn.pure fh40 rfl rfl (.some rfl rfl rfl) (Kn.ex_move fh40 (.tmp rfl)) fun fa41 fh41 => ?_
    clear fh40 fa40
    refine Kn.pure fh41 rfl rfl (.some rfl rfl rfl) (Kn.ex_move fh41 (.tmp rfl)) fun fa42 fh42 => ?_
    clear fh41 fa41
    refine Kn.step fh42 rfl rfl (.some rfl rfl rfl) (Kn.ex_bin fh42 (.tmp rfl) .const) fun Ko hKo => ?_
    go_simp
    try go_bits
    try simp only [rj]
    refine hKo _ _ fun fa43 fh43 => ?_
    clear hKo Ko fh42 fa42
    refine Kn.step fh43 rfl rfl (.some rfl rfl rfl) (Kn.ex_indexAddr fh43 (.tmp rfl) (.tmp rfl)) fun Ko hKo => ?_
    go_simp
    try go_bits
    refine hKo _ _ fun fa44 fh44 => ?_
    clear hKo Ko fh43 fa43
    refine Kn.step fh44 rfl rfl (.some rfl rfl rfl) (Kn.ex_load fh44 (.tmp rfl)) fun Ko hKo => ?_
    go_simp
    try go_bits
    refine hKo _ _ fun fa45 fh45 => ?_
    clear hKo Ko fh44 fa44
    refine Kn.step fh45 rfl rfl (.some rfl rfl rfl) (Kn.ex_bin fh45 (.tmp rfl) (.tmp rfl)) fun Ko hKo => ?_
    go_simp
    try go_bits
    refine hKo _ _ fun fa46 fh46 => ?_
    clear hKo Ko fh45 fa45
    refine Kn.pure fh46 rfl rfl (.some rfl rfl rfl) (Kn.ex_pick fh46 (.tmp rfl) (.tmp rfl)) fun fa47 fh47 => ?_
    clear fh46 fa46
    refine Kn.pure fh47 rfl rfl .none (Kn.ex_pick fh47 (.tmp rfl) (.tmp rfl)) fun fa48 fh48 => ?_
    clear fh47 fa47
    refine wpList_nil ?_
    refine hK17 _ _ ?_
    clear hK17 K17
    replace fh48 := fh48.cut (.cons (t := 56) rfl (.cons (t := 13) rfl (.cons (t := 12) rfl (.cons (t := 35) rfl (.cons (t := 34) rfl (.cons (t := 33) rfl (.cons (t := 11) rfl (.cons (t := 0) rfl (.cons (t := 1) rfl (.cons (t := 2) rfl .nil))))))))))
    refine Kn.no fh48 (.tmp rfl) ?_
    refine wp_skip ?_
    refine hK16 _ _ ?_
    clear hK16 K16
    replace fh48 := fh48.cut (.cons (t := 13) rfl (.cons (t := 12) rfl (.cons (t := 35) rfl (.cons (t := 34) rfl (.cons (t := 33) rfl (.cons (t := 11) rfl (.cons (t := 0) rfl (.cons (t := 1) rfl (.cons (t := 2) rfl .nil)))))))))
    clear hn
    refine wp_seq_k fun K18 hK18 => ?_
    refine wp_region_lit ?_
    refine Kn.pure fh48 rfl rfl .none (Kn.ex_move fh48 (.tmp rfl)) fun fa49 fh49 => ?_
    clear fh48 fa48
    refine Kn.pure fh49 rfl rfl .none (Kn.ex_move fh49 (.tmp rfl)) fun fa50 fh50 => ?_
    clear fh49 fa49
    refine Kn.pure fh50 rfl rfl .none (Kn.ex_move fh50 (.tmp rfl)) fun fa51 fh51 => ?_
    clear fh50 fa50
    refine Kn.known fh51 rfl rfl .none (Kn.ex_sliceH fh51 (.tmp rfl) (.tmp rfl)) hsl fun fa52 fh52 => ?_
    clear fh51 fa51
    refine Kn.pure fh52 rfl rfl .none (Kn.ex_move fh52 (.tmp rfl)) fun fa53 fh53 => ?_
    clear fh52 fa52
    refine Kn.call fh53 rfl rfl .none (Kn.ex_call fh53 (.cons (.tmp rfl) (.cons (.tmp rfl) (.cons (.tmp rfl) .nil)))) Tryd.call24 (hst) fun e u1 hp => ?_
    obtain ⟨rfl, hb1⟩ := hp
    refine ⟨_, rfl, fun fa54 fh54 => ?_⟩
    clear fh53 fa53
    refine Kn.pure fh54 rfl rfl .none (Kn.ex_move fh54 (.tmp rfl)) fun fa55 fh55 => ?_
    clear fh54 fa54
    refine Kn.pure fh55 rfl rfl .none (Kn.ex_extract fh55 (.tmp rfl) rfl) fun fa56 fh56 => ?_
    clear fh55 fa55
    refine Kn.pure fh56 rfl rfl .none (Kn.ex_extract fh56 (.tmp rfl) rfl) fun fa57 fh57 => ?_
    clear fh56 fa56
    refine Kn.pure fh57 rfl rfl .none (Kn.ex_assign fh57 (.tmp rfl)) fun fa58 fh58 => ?_
    clear fh57 fa57
    refine Kn.pure fh58 rfl rfl .none (Kn.ex_assign fh58 (.tmp rfl)) fun fa59 fh59 => ?_
    clear fh58 fa58
    refine wpList_nil ?_
    refine hK18 _ _ ?_
    clear hK18 K18
    replace fh59 := fh59.cut (.cons (t := 15) rfl (.cons (t := 14) rfl (.cons (t := 35) rfl (.cons (t := 34) rfl (.cons (t := 33) rfl (.cons (t := 11) rfl (.cons (t := 0) rfl (.cons (t := 1) rfl (.cons (t := 2) rfl .nil)))))))))
    clear hst hsl ca1
    refine wp_seq_k fun K19 hK19 => ?_
    refine wp_seq_k fun K20 hK20 => ?_
    refine wp_region_lit ?_
    refine Kn.pure fh59 rfl rfl .none (Kn.ex_move fh59 (.tmp rfl)) fun fa60 fh60 => ?_
    clear fh59 fa59
    refine Kn.step fh60 rfl rfl .none (Kn.ex_bin fh60 (.tmp rfl) .const) fun Ko hKo => ?_
    go_simp
    try go_bits
    refine hKo _ _ fun fa61 fh61 => ?_
    clear hKo Ko fh60 fa60
    refine wpList_nil ?_
    refine hK20 _ _ ?_
    clear hK20 K20
    replace fh61 := fh61.cut (.cons (t := 70) rfl (.cons (t := 15) rfl (.cons (t := 14) rfl (.cons (t := 35) rfl (.cons (t := 34) rfl (.cons (t := 33) rfl (.cons (t := 11) rfl (.cons (t := 0) rfl (.cons (t := 1) rfl (.cons (t := 2) rfl .nil))))))))))
    refine Kn.no fh61 (.tmp rfl) ?_
    refine wp_skip ?_
    refine hK19 _ _ ?_
    clear hK19 K19
    replace fh61 := fh61.cut (.cons (t := 14) rfl (.cons (t := 35) rfl (.cons (t := 34) rfl (.cons (t := 33) rfl (.cons (t := 11) rfl (.cons (t := 0) rfl (.cons (t := 1) rfl (.cons (t := 2) rfl .nil))))))))
    obtain ⟨bv2, u2, hrun, hO2, hB2⟩ := (HO.out.on hb1).push (HB.out.trans (hb1.mono HB.out.size)) S 52 (by have := HLn.out; omega)
    have HO2 : Hid (OwnX u2 w.heap.size bv2 (putF v l (k + 1))) := Lib.hid (by rw [HP.out]; exact hO2)
    have HB2 := Lib.hid hB2
    have HL2 : Hid ((putF v l (k + 1)).length ≤ 9 + 9 * (k + 1)) := Lib.hid (by have := HLn.out; have e : S.data.toList.length = S.size := rfl; rw [HP.out, List.length_append, e]; omega)
    clear hO2 hB2 hb1
    refine wp_region_lit ?_
    refine Kn.pure fh61 rfl rfl .none (Kn.ex_move fh61 (.tmp rfl)) fun fa62 fh62 => ?_
    clear fh61 fa61
    refine Kn.pure fh62 rfl rfl .none (Kn.ex_move fh62 (.tmp rfl)) fun fa63 fh63 => ?_
    clear fh62 fa62
    refine Kn.known fh63 rfl rfl .none (Kn.ex_append fh63 (.cons (.tmp rfl) (.cons (.tmp rfl) .nil))) hrun fun fa64 fh64 => ?_
    clear fh63 fa63
    refine Kn.pure fh64 rfl rfl .none (Kn.ex_assign fh64 (.tmp rfl)) fun fa65 fh65 => ?_
    clear fh64 fa64
    refine wpList_nil ?_
    refine Kn.block_normal ?_
    refine hK14 _ _ ?_
    clear hK14 K14
    replace fh65 := fh65.cut (.cons (t := 11) rfl (.cons (t := 35) rfl (.cons (t := 34) rfl (.cons (t := 33) rfl (.cons (t := 0) rfl (.cons (t := 1) rfl (.cons (t := 2) rfl .nil)))))))
    clear hrun
    refine wp_region_lit ?_
    refine Kn.step fh65 rfl rfl .none (Kn.ex_bin fh65 (.tmp rfl) .const) fun Ko hKo => ?_
    go_simp
    try go_bits
    refine hKo _ _ fun fa66 fh66 => ?_
    clear hKo Ko fh65 fa65
    refine Kn.pure fh66 rfl rfl .none (Kn.ex_move fh66 (.tmp rfl)) fun fa67 fh67 => ?_
    clear fh66 fa66
    refine wpList_nil ?_
    replace fh67 := fh67.cut (.cons (t := 35) rfl (.cons (t := 11) rfl (.cons (t := 34) rfl (.cons (t := 33) rfl (.cons (t := 0) rfl (.cons (t := 1) rfl (.cons (t := 2) rfl .nil)))))))
    exact hKl11 (m11 - 1) _ _ (by omega) ⟨k + 1, bv2, fh67.cut (.turn (t := 35) rfl (by go_num) (.cons (t := 34) rfl (.cons (t := 33) rfl (.cons (t := 11) rfl (.cons (t := 0) rfl (.cons (t := 1) rfl (.cons (t := 2) rfl .nil))))))), by omega, hkf2, HL2, HO2, HB2⟩
  obtain rfl : k = l.length := by omega
  have hcv := HO.out.text
  refine wp_seq_k fun K12 hK12 => ?_
  refine wp_region_lit ?_
  refine Kn.step fh25 rfl rfl .none (Kn.ex_bin fh25 (.tmp rfl) (.tmp rfl)) fun Ko hKo => ?_
  go_simp
  try go_bits
  refine hKo _ _ fun fa26 fh26 => ?_
  clear hKo Ko fh25 fa25
  refine wpList_nil ?_
  refine hK12 _ _ ?_
  clear hK12 K12
  refine wp_seq_k fun K13 hK13 => ?_
  refine Kn.no fh26 (.tmp rfl) ?_
  replace fh26 := fh26.cut (.cons (t := 35) rfl (.cons (t := 34) rfl (.cons (t := 33) rfl (.cons (t := 11) rfl (.cons (t := 0) rfl (.cons (t := 1) rfl (.cons (t := 2) rfl .nil)))))))
  refine wp_exit ?_
  refine Kn.then_exit ?_
  clear hK13 K13
  refine Kn.then_exit ?_
  clear hKl11 Kl11
  refine Kn.block_exit ?_
  refine hK9 _ _ ?_
  clear hK9 K9
  replace fh26 := fh26.cut (.cons (t := 11) rfl .nil)
  refine wp_seq_k fun K14 hK14 => ?_
  refine wp_region_lit ?_
  refine Kn.pure fh26 rfl rfl .none (Kn.ex_move fh26 (.tmp rfl)) fun fa27 fh27 => ?_
  clear fh26 fa26
  refine Kn.known fh27 rfl rfl .none (Kn.ex_convert fh27 (.tmp rfl)) hcv fun fa28 fh28 => ?_
  clear fh27 fa27
  refine Kn.pure fh28 rfl rfl .none (Kn.ex_assign fh28 (.tmp rfl)) fun fa29 fh29 => ?_
  clear fh28 fa28
  refine Kn.pure fh29 rfl rfl .none (Kn.ex_assign fh29 .const) fun fa30 fh30 => ?_
  clear fh29 fa29
  refine wpList_nil ?_
  refine hK14 _ _ ?_
  clear hK14 K14
  replace fh30 := fh30.cut (.cons (t := 7) rfl (.cons (t := 6) rfl .nil))
  refine wp_ret ?_
  exact Kn.ret2 fh30 rfl rfl rfl ⟨by rw [if_neg (by omega)]; rfl, HB.out⟩

theorem gPut_good (N v : Int) (A : Option Addr) (ca : Nat) (l : List Int) (w : World) (hN : N ≤ 4096) (hv0 : 0 ≤ v) (hv1 : v < N) (hca : l.length ≤ ca) (hca2 : ca ≤ 9223372036854775807) (hA : IIn w A l) (hg : GoodT N l) :
    Calls Tryd.prog 6 #[.int .i64 N, .int .i64 v, .slice A l.length ca] w fun e w' => e = .returned (.tuple #[.string (bs (putF v l l.length)), .nilIface]) ∧ Below w.heap.size w w' := by
  have hl := hg.len (by omega)
  have h := gPut_any N v A ca l.length l w hN hv0 hv1 (by omega) hca hca2 hA (fun i hi => goodT_iff.1 hg i hi) (fun h => absurd h (by omega))
  rw [if_neg (by omega)] at h
  exact h

set_option maxRecDepth 100000 in
set_option maxHeartbeats 2000000 in
theorem gSize_arg (N v : Int) (A : Option Addr) (n ca : Nat) (w : World) (h : N < 0 ∨ 4096 < N) :
    Calls Tryd.prog 7 #[.int .i64 N, .int .i64 v, .slice A n ca] w fun e w' => e = .returned (.int .i64 0) ∧ w = w' := by
  refine Kn.calls Tryd.func7 rfl Tryd.ntmps7 rfl (.cons (t := 0) rfl (.cons (t := 1) rfl (.cons (t := 2) rfl .nil))) fun fa0 fh0 => ?_
  refine wp_seq_k fun K1 hK1 => ?_
  refine wp_region_lit ?_
  refine Kn.pure fh0 rfl rfl .none (Kn.ex_assign fh0 .const) fun fa1 fh1 => ?_
  clear fh0 fa0
  refine wpList_nil ?_
  refine hK1 _ _ ?_
  clear hK1 K1
  have hp := gPut_arg N v A n ca w h
  unfold errnoV at hp
  refine wp_seq_k fun K2 hK2 => ?_
  refine wp_region_lit ?_
  refine Kn.pure fh1 rfl rfl .none (Kn.ex_move fh1 (.tmp rfl)) fun fa2 fh2 => ?_
  clear fh1 fa1
  refine Kn.pure fh2 rfl rfl .none (Kn.ex_move fh2 (.tmp rfl)) fun fa3 fh3 => ?_
  clear fh2 fa2
  refine Kn.pure fh3 rfl rfl .none (Kn.ex_move fh3 (.tmp rfl)) fun fa4 fh4 => ?_
  clear fh3 fa3
  refine Kn.call fh4 rfl rfl .none (Kn.ex_call fh4 (.cons (.tmp rfl) (.cons (.tmp rfl) (.cons (.tmp rfl) .nil)))) Tryd.call6 (hp) fun e w1 hp => ?_
  obtain ⟨rfl, rfl⟩ := hp
  refine ⟨_, rfl, fun fa5 fh5 => ?_⟩
  clear fh4 fa4
  refine Kn.pure fh5 rfl rfl .none (Kn.ex_move fh5 (.tmp rfl)) fun fa6 fh6 => ?_
  clear fh5 fa5
  refine Kn.pure fh6 rfl rfl .none (Kn.ex_extract fh6 (.tmp rfl) rfl) fun fa7 fh7 => ?_
  clear fh6 fa6
  refine Kn.pure fh7 rfl rfl .none (Kn.ex_extract fh7 (.tmp rfl) rfl) fun fa8 fh8 => ?_
  clear fh7 fa7
  refine Kn.pure fh8 rfl rfl .none (Kn.ex_assign fh8 (.tmp rfl)) fun fa9 fh9 => ?_
  clear fh8 fa8
  refine Kn.pure fh9 rfl rfl .none (Kn.ex_assign fh9 (.tmp rfl)) fun fa10 fh10 => ?_
  clear fh9 fa9
  refine wpList_nil ?_
  refine hK2 _ _ ?_
  clear hK2 K2
  replace fh10 := fh10.cut (.cons (t := 8) rfl (.cons (t := 7) rfl (.cons (t := 6) rfl .nil)))
  refine wp_seq_k fun K3 hK3 => ?_
  refine wp_seq_k fun K4 hK4 => ?_
  refine wp_region_lit ?_
  refine Kn.pure fh10 rfl rfl .none (Kn.ex_move fh10 (.tmp rfl)) fun fa11 fh11 => ?_
  clear fh10 fa10
  refine Kn.step fh11 rfl rfl .none (Kn.ex_bin fh11 (.tmp rfl) .const) fun Ko hKo => ?_
  go_simp
  try go_bits
  refine hKo _ _ fun fa12 fh12 => ?_
  clear hKo Ko fh11 fa11
  refine wpList_nil ?_
  refine hK4 _ _ ?_
  clear hK4 K4
  replace fh12 := fh12.cut (.cons (t := 17) rfl (.cons (t := 7) rfl (.cons (t := 6) rfl .nil)))
  refine Kn.yes fh12 (.tmp rfl) ?_
  replace fh12 := fh12.cut (.cons (t := 7) rfl (.cons (t := 6) rfl .nil))
  refine wp_seq_k fun K5 hK5 => ?_
  refine wp_region_lit ?_
  refine Kn.pure fh12 rfl rfl .none (Kn.ex_assign fh12 .const) fun fa13 fh13 => ?_
  clear fh12 fa12
  refine wpList_nil ?_
  refine hK5 _ _ ?_
  clear hK5 K5
  refine wp_ret ?_
  refine Kn.then_ret ?_
  exact Kn.ret1 fh13 rfl rfl ⟨rfl, rfl⟩

set_option maxRecDepth 100000 in
set_option maxHeartbeats 2000000 in
theorem gSize_range (N v : Int) (A : Option Addr) (n ca : Nat) (w : World) (h0 : 0 ≤ N) (h1 : N ≤ 4096) (h : v < 0 ∨ N ≤ v) :
    Calls Tryd.prog 7 #[.int .i64 N, .int .i64 v, .slice A n ca] w fun e w' => e = .returned (.int .i64 0) ∧ w = w' := by
  refine Kn.calls Tryd.func7 rfl Tryd.ntmps7 rfl (.cons (t := 0) rfl (.cons (t := 1) rfl (.cons (t := 2) rfl .nil))) fun fa0 fh0 => ?_
  refine wp_seq_k fun K1 hK1 => ?_
  refine wp_region_lit ?_
  refine Kn.pure fh0 rfl rfl .none (Kn.ex_assign fh0 .const) fun fa1 fh1 => ?_
  clear fh0 fa0
  refine wpList_nil ?_
  refine hK1 _ _ ?_
  clear hK1 K1
  have hp := gPut_range N v A n ca w h0 h1 h
  unfold errnoV at hp
  refine wp_seq_k fun K2 hK2 => ?_
  refine wp_region_lit ?_
  refine Kn.pure fh1 rfl rfl .none (Kn.ex_move fh1 (.tmp rfl)) fun fa2 fh2 => ?_
  clear fh1 fa1
  refine Kn.pure fh2 rfl rfl .none (Kn.ex_move fh2 (.tmp rfl)) fun fa3 fh3 => ?_
  clear fh2 fa2
  refine Kn.pure fh3 rfl rfl .none (Kn.ex_move fh3 (.tmp rfl)) fun fa4 fh4 => ?_
  clear fh3 fa3
  refine Kn.call fh4 rfl rfl .none (Kn.ex_call fh4 (.cons (.tmp rfl) (.cons (.tmp rfl) (.cons (.tmp rfl) .nil)))) Tryd.call6 (hp) fun e w1 hp => ?_
  obtain ⟨rfl, rfl⟩ := hp
  refine ⟨_, rfl, fun fa5 fh5 => ?_⟩
  clear fh4 fa4
  refine Kn.pure fh5 rfl rfl .none (Kn.ex_move fh5 (.tmp rfl)) fun fa6 fh6 => ?_
  clear fh5 fa5
  refine Kn.pure fh6 rfl rfl .none (Kn.ex_extract fh6 (.tmp rfl) rfl) fun fa7 fh7 => ?_
  clear fh6 fa6
  refine Kn.pure fh7 rfl rfl .none (Kn.ex_extract fh7 (.tmp rfl) rfl) fun fa8 fh8 => ?_
  clear fh7 fa7
  refine Kn.pure fh8 rfl rfl .none (Kn.ex_assign fh8 (.tmp rfl)) fun fa9 fh9 => ?_
  clear fh8 fa8
  refine Kn.pure fh9 rfl rfl .none (Kn.ex_assign fh9 (.tmp rfl)) fun fa10 fh10 => ?_
  clear fh9 fa9
  refine wpList_nil ?_
  refine hK2 _ _ ?_
  clear hK2 K2
  replace fh10 := fh10.cut (.cons (t := 8) rfl (.cons (t := 7) rfl (.cons (t := 6) rfl .nil)))
  refine wp_seq_k fun K3 hK3 => ?_
  refine wp_seq_k fun K4 hK4 => ?_
  refine wp_region_lit ?_
  refine Kn.pure fh10 rfl rfl .none (Kn.ex_move fh10 (.tmp rfl)) fun fa11 fh11 => ?_
  clear fh10 fa10
  refine Kn.step fh11 rfl rfl .none (Kn.ex_bin fh11 (.tmp rfl) .const) fun Ko hKo => ?_
  go_simp
  try go_bits
  refine hKo _ _ fun fa12 fh12 => ?_
  clear hKo Ko fh11 fa11
  refine wpList_nil ?_
  refine hK4 _ _ ?_
  clear hK4 K4
  replace fh12 := fh12.cut (.cons (t := 17) rfl (.cons (t := 7) rfl (.cons (t := 6) rfl .nil)))
  refine Kn.yes fh12 (.tmp rfl) ?_
  replace fh12 := fh12.cut (.cons (t := 7) rfl (.cons (t := 6) rfl .nil))
  refine wp_seq_k fun K5 hK5 => ?_
  refine wp_region_lit ?_
  refine Kn.pure fh12 rfl rfl .none (Kn.ex_assign fh12 .const) fun fa13 fh13 => ?_
  clear fh12 fa12
  refine wpList_nil ?_
  refine hK5 _ _ ?_
  clear hK5 K5
  refine wp_ret ?_
  refine Kn.then_ret ?_
  exact Kn.ret1 fh13 rfl rfl ⟨rfl, rfl⟩

set_option maxRecDepth 100000 in
set_option maxHeartbeats 2000000 in
theorem gSize_any (N v : Int) (A : Option Addr) (ca f : Nat) (l : List Int) (w : World) (hN : N ≤ 4096) (hv0 : 0 ≤ v) (hv1 : v < N) (hl : l.length ≤ 100000) (hca : l.length ≤ ca) (hca2 : ca ≤ 9223372036854775807) (hA : IIn w A l) (hG : ∀ i, i < f → ¬ badT N l i) (hB : f < l.length → badT N l f) :
    Calls Tryd.prog 7 #[.int .i64 N, .int .i64 v, .slice A l.length ca] w fun e w' => e = .returned (.int .i64 (if f < l.length then 0 else ((putF v l l.length).length : Int))) ∧ Below w.heap.size w w' := by
  refine Kn.calls Tryd.func7 rfl Tryd.ntmps7 rfl (.cons (t := 0) rfl (.cons (t := 1) rfl (.cons (t := 2) rfl .nil))) fun fa0 fh0 => ?_
  refine wp_seq_k fun K1 hK1 => ?_
  refine wp_region_lit ?_
  refine Kn.pure fh0 rfl rfl .none (Kn.ex_assign fh0 .const) fun fa1 fh1 => ?_
  clear fh0 fa0
  refine wpList_nil ?_
  refine hK1 _ _ ?_
  clear hK1 K1
  have hp := gPut_any N v A ca f l w hN hv0 hv1 hl hca hca2 hA hG hB
  clear hG hB hA
  by_cases hf : f < l.length
  · rw [if_pos hf] at hp
    unfold faultV at hp
    have HF := Lib.hid hf
    clear hf
    refine wp_seq_k fun K2 hK2 => ?_
    refine wp_region_lit ?_
    refine Kn.pure fh1 rfl rfl .none (Kn.ex_move fh1 (.tmp rfl)) fun fa2 fh2 => ?_
    clear fh1 fa1
    refine Kn.pure fh2 rfl rfl .none (Kn.ex_move fh2 (.tmp rfl)) fun fa3 fh3 => ?_
    clear fh2 fa2
    refine Kn.pure fh3 rfl rfl .none (Kn.ex_move fh3 (.tmp rfl)) fun fa4 fh4 => ?_
    clear fh3 fa3
    refine Kn.call fh4 rfl rfl .none (Kn.ex_call fh4 (.cons (.tmp rfl) (.cons (.tmp rfl) (.cons (.tmp rfl) .nil)))) Tryd.call6 (hp) fun e w1 hp => ?_
    obtain ⟨rfl, hb⟩ := hp
    refine ⟨_, rfl, fun fa5 fh5 => ?_⟩
    clear fh4 fa4
    refine Kn.pure fh5 rfl rfl .none (Kn.ex_move fh5 (.tmp rfl)) fun fa6 fh6 => ?_
    clear fh5 fa5
    refine Kn.pure fh6 rfl rfl .none (Kn.ex_extract fh6 (.tmp rfl) rfl) fun fa7 fh7 => ?_
    clear fh6 fa6
    refine Kn.pure fh7 rfl rfl .none (Kn.ex_extract fh7 (.tmp rfl) rfl) fun fa8 fh8 => ?_
    clear fh7 fa7
    refine Kn.pure fh8 rfl rfl .none (Kn.ex_assign fh8 (.tmp rfl)) fun fa9 fh9 => ?_
    clear fh8 fa8
    refine Kn.pure fh9 rfl rfl .none (Kn.ex_assign fh9 (.tmp rfl)) fun fa10 fh10 => ?_
    clear fh9 fa9
    refine wpList_nil ?_
    refine hK2 _ _ ?_
    clear hK2 K2
    replace fh10 := fh10.cut (.cons (t := 8) rfl (.cons (t := 7) rfl (.cons (t := 6) rfl .nil)))
    refine wp_seq_k fun K3 hK3 => ?_
    refine wp_seq_k fun K4 hK4 => ?_
    refine wp_region_lit ?_
    refine Kn.pure fh10 rfl rfl .none (Kn.ex_move fh10 (.tmp rfl)) fun fa11 fh11 => ?_
    clear fh10 fa10
    refine Kn.step fh11 rfl rfl .none (Kn.ex_bin fh11 (.tmp rfl) .const) fun Ko hKo => ?_
    go_simp
    try go_bits
    refine hKo _ _ fun fa12 fh12 => ?_
    clear hKo Ko fh11 fa11
    refine wpList_nil ?_
    refine hK4 _ _ ?_
    clear hK4 K4
    replace fh12 := fh12.cut (.cons (t := 17) rfl (.cons (t := 7) rfl (.cons (t := 6) rfl .nil)))
    refine Kn.yes fh12 (.tmp rfl) ?_
    replace fh12 := fh12.cut (.cons (t := 7) rfl (.cons (t := 6) rfl .nil))
    refine wp_seq_k fun K5 hK5 => ?_
    refine wp_region_lit ?_
    refine Kn.pure fh12 rfl rfl .none (Kn.ex_assign fh12 .const) fun fa13 fh13 => ?_
    clear fh12 fa12
    refine wpList_nil ?_
    refine hK5 _ _ ?_
    clear hK5 K5
    refine wp_ret ?_
    refine Kn.then_ret ?_
    exact Kn.ret1 fh13 rfl rfl ⟨by rw [if_pos HF.out], hb⟩
  rw [if_neg hf] at hp
  obtain ⟨S, hS⟩ : ∃ S, bs (putF v l l.length) = S := ⟨_, rfl⟩
  rw [hS] at hp
  have HF := Lib.hid hf
  have HS := Lib.hid hS
  clear hf hS
  refine wp_seq_k fun K2 hK2 => ?_
  refine wp_region_lit ?_
  refine Kn.pure fh1 rfl rfl .none (Kn.ex_move fh1 (.tmp rfl)) fun fa2 fh2 => ?_
  clear fh1 fa1
  refine Kn.pure fh2 rfl rfl .none (Kn.ex_move fh2 (.tmp rfl)) fun fa3 fh3 => ?_
  clear fh2 fa2
  refine Kn.pure fh3 rfl rfl .none (Kn.ex_move fh3 (.tmp rfl)) fun fa4 fh4 => ?_
  clear fh3 fa3
  refine Kn.call fh4 rfl rfl .none (Kn.ex_call fh4 (.cons (.tmp rfl) (.cons (.tmp rfl) (.cons (.tmp rfl) .nil)))) Tryd.call6 (hp) fun e w1 hp => ?_
  obtain ⟨rfl, hb⟩ := hp
  refine ⟨_, rfl, fun fa5 fh5 => ?_⟩
  clear fh4 fa4
  refine Kn.pure fh5 rfl rfl .none (Kn.ex_move fh5 (.tmp rfl)) fun fa6 fh6 => ?_
  clear fh5 fa5
  refine Kn.pure fh6 rfl rfl .none (Kn.ex_extract fh6 (.tmp rfl) rfl) fun fa7 fh7 => ?_
  clear fh6 fa6
  refine Kn.pure fh7 rfl rfl .none (Kn.ex_extract fh7 (.tmp rfl) rfl) fun fa8 fh8 => ?_
  clear fh7 fa7
  refine Kn.pure fh8 rfl rfl .none (Kn.ex_assign fh8 (.tmp rfl)) fun fa9 fh9 => ?_
  clear fh8 fa8
  refine Kn.pure fh9 rfl rfl .none (Kn.ex_assign fh9 (.tmp rfl)) fun fa10 fh10 => ?_
  clear fh9 fa9
  refine wpList_nil ?_
  refine hK2 _ _ ?_
  clear hK2 K2
  replace fh10 := fh10.cut (.cons (t := 8) rfl (.cons (t := 7) rfl (.cons (t := 6) rfl .nil)))
  refine wp_seq_k fun K3 hK3 => ?_
  refine wp_seq_k fun K4 hK4 => ?_
  refine wp_region_lit ?_
  refine Kn.pure fh10 rfl rfl .none (Kn.ex_move fh10 (.tmp rfl)) fun fa11 fh11 => ?_
  clear fh10 fa10
  refine Kn.step fh11 rfl rfl .none (Kn.ex_bin fh11 (.tmp rfl) .const) fun Ko hKo => ?_
  go_simp
  try go_bits
  refine hKo _ _ fun fa12 fh12 => ?_
  clear hKo Ko fh11 fa11
  refine wpList_nil ?_
  refine hK4 _ _ ?_
  clear hK4 K4
  replace fh12 := fh12.cut (.cons (t := 17) rfl (.cons (t := 7) rfl (.cons (t := 6) rfl .nil)))
  refine Kn.no fh12 (.tmp rfl) ?_
  refine wp_skip ?_
  refine hK3 _ _ ?_
  clear hK3 K3
  replace fh12 := fh12.cut (.cons (t := 7) rfl (.cons (t := 6) rfl .nil))
  refine wp_seq_k fun K5 hK5 => ?_
  refine wp_region_lit ?_
  refine Kn.pure fh12 rfl rfl .none (Kn.ex_move fh12 (.tmp rfl)) fun fa13 fh13 => ?_
  clear fh12 fa12
  refine Kn.step fh13 rfl rfl .none (Kn.ex_len fh13 (.tmp rfl)) fun Ko hKo => ?_
  go_simp
  try go_bits
  refine hKo _ _ fun fa14 fh14 => ?_
  clear hKo Ko fh13 fa13
  refine Kn.pure fh14 rfl rfl .none (Kn.ex_assign fh14 (.tmp rfl)) fun fa15 fh15 => ?_
  clear fh14 fa14
  refine wpList_nil ?_
  refine hK5 _ _ ?_
  clear hK5 K5
  replace fh15 := fh15.cut (.cons (t := 6) rfl .nil)
  refine wp_ret ?_
  exact Kn.ret1 fh15 rfl rfl ⟨by rw [if_neg HF.out, ← bs_size, HS.out], hb⟩

set_option maxRecDepth 100000 in
set_option maxHeartbeats 2000000 in
theorem awake6 (w : World) :
    Calls Tryd.prog 5 #[] w fun e w' => e = .returned (.bool true) ∧ Below w.heap.size w w' := by
  refine Kn.calls Tryd.func5 rfl Tryd.ntmps5 rfl .nil fun fa0 fh0 => ?_
  refine wp_seq_k fun K1 hK1 => ?_
  refine wp_region_lit ?_
  refine Kn.pure fh0 rfl rfl .none (Kn.ex_assign fh0 .const) fun fa1 fh1 => ?_
  clear fh0 fa0
  refine wpList_nil ?_
  refine hK1 _ _ ?_
  clear hK1 K1
  have hg : GoodT 10 [3, 4, 7] := goodT_iff.2 (by decide)
  have hI : IIn (w.alloc (.cells #[.int .i64 3, .int .i64 4, .int .i64 7] 3)) (some ⟨w.heap.size, 0, none⟩) [3, 4, 7] := fun i hi => by
    have hS := St.St.new w 3 #[.int .i64 3, .int .i64 4, .int .i64 7]
    refine ⟨w.heap.size, 0, rfl, hS.lt, ?_⟩
    rw [Nat.zero_add]
    match i, hi with
    | 0, _ => exact hS.cell 0 rfl
    | 1, _ => exact hS.cell 1 rfl
    | 2, _ => exact hS.cell 2 rfl
  have hp := gPut_good 10 4 (some ⟨w.heap.size, 0, none⟩) 3 [3, 4, 7] _ (by decide) (by decide) (by decide) (by decide) (by decide) hI hg
  rw [show bs (putF 4 [3, 4, 7] ([3, 4, 7] : List Int).length) = ⟨#[3, 1, 0, 2]⟩ by decide +kernel] at hp
  have HB0 : Hid (Below w.heap.size w (w.alloc (.cells #[.int .i64 3, .int .i64 4, .int .i64 7] 3))) := Lib.hid ((Below.refl _ w).alloc (Nat.le_refl _) _)
  clear hI hg
  refine wp_seq_k fun K2 hK2 => ?_
  refine wp_region_lit ?_
  refine Kn.step fh1 rfl rfl .none (Kn.ex_buildSlice fh1 (.cons .const (.cons .const (.cons .const .nil)))) fun Ko hKo => ?_
  go_simp
  try go_bits
  refine hKo _ _ fun fa2 fh2 => ?_
  clear hKo Ko fh1 fa1
  refine Kn.call fh2 rfl rfl .none (Kn.ex_call fh2 (.cons .const (.cons .const (.cons (.tmp rfl) .nil)))) Tryd.call6 (hp) fun e w1 hp => ?_
  obtain ⟨rfl, hb1⟩ := hp
  refine ⟨_, rfl, fun fa3 fh3 => ?_⟩
  clear fh2 fa2
  refine Kn.pure fh3 rfl rfl .none (Kn.ex_move fh3 (.tmp rfl)) fun fa4 fh4 => ?_
  clear fh3 fa3
  refine Kn.pure fh4 rfl rfl .none (Kn.ex_extract fh4 (.tmp rfl) rfl) fun fa5 fh5 => ?_
  clear fh4 fa4
  refine Kn.pure fh5 rfl rfl .none (Kn.ex_extract fh5 (.tmp rfl) rfl) fun fa6 fh6 => ?_
  clear fh5 fa5
  refine Kn.pure fh6 rfl rfl .none (Kn.ex_assign fh6 (.tmp rfl)) fun fa7 fh7 => ?_
  clear fh6 fa6
  refine Kn.pure fh7 rfl rfl .none (Kn.ex_assign fh7 (.tmp rfl)) fun fa8 fh8 => ?_
  clear fh7 fa7
  refine wpList_nil ?_
  refine hK2 _ _ ?_
  clear hK2 K2
  replace fh8 := fh8.cut (.cons (t := 2) rfl (.cons (t := 1) rfl (.cons (t := 0) rfl .nil)))
  have HB1 := Lib.hid (HB0.out.trans (hb1.mono HB0.out.size))
  clear hb1 hp
  refine wp_seq_k fun K3 hK3 => ?_
  refine wp_region_lit ?_
  refine Kn.pure fh8 rfl rfl .none (Kn.ex_move fh8 (.tmp rfl)) fun fa9 fh9 => ?_
  clear fh8 fa8
  refine Kn.step fh9 rfl rfl .none (Kn.ex_bin fh9 (.tmp rfl) .const) fun Ko hKo => ?_
  go_simp
  try go_bits
  refine hKo _ _ fun fa10 fh10 => ?_
  clear hKo Ko fh9 fa9
  refine Kn.pure fh10 rfl rfl .none (Kn.ex_move fh10 (.tmp rfl)) fun fa11 fh11 => ?_
  clear fh10 fa10
  refine Kn.pure fh11 rfl rfl (.some rfl rfl rfl) (Kn.ex_move fh11 (.tmp rfl)) fun fa12 fh12 => ?_
  clear fh11 fa11
  refine Kn.step fh12 rfl rfl (.some rfl rfl rfl) (Kn.ex_bin fh12 (.tmp rfl) .const) fun Ko hKo => ?_
  go_simp
  try go_bits
  refine hKo _ _ fun fa13 fh13 => ?_
  clear hKo Ko fh12 fa12
  refine Kn.pure fh13 rfl rfl .none (Kn.ex_pick fh13 (.tmp rfl) (.tmp rfl)) fun fa14 fh14 => ?_
  clear fh13 fa13
  refine Kn.pure fh14 rfl rfl .none (Kn.ex_assign fh14 (.tmp rfl)) fun fa15 fh15 => ?_
  clear fh14 fa14
  refine wpList_nil ?_
  refine hK3 _ _ ?_
  clear hK3 K3
  replace fh15 := fh15.cut (.cons (t := 0) rfl .nil)
  refine wp_ret ?_
  exact Kn.ret1 fh15 rfl rfl ⟨rfl, HB1.out⟩

end Go.Proofs.YtoggeiaofpdboaaDoor.Gap
