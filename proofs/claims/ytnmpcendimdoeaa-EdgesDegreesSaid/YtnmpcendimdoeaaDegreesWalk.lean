/- The law EdgesDegrees, walked (written by gen_degrees.py). -/
import Derived.Test.YtnmpcendimdoeaaEdgV
namespace Go.Proofs.Ytnmpcendimdoeaa.Edg
open Go Go.RowKit Go.Lib

/-- How many edges go from the first k nodes. -/
def degS (xs : List (Int × Int)) (k : Nat) : Nat := xs.countP fun e => decide (0 ≤ e.1) && decide (e.1 < (k : Int))
theorem degS_le (xs : List (Int × Int)) (k : Nat) : degS xs k ≤ xs.length := List.countP_le_length
theorem degS_0 (xs : List (Int × Int)) : degS xs 0 = 0 := by
  unfold degS
  rw [List.countP_eq_zero]
  intro e _
  simp
theorem degU_all (xs : List (Int × Int)) (v : Int) : degU xs v xs.length = xs.countP (fun e => e.1 == v) := by unfold degU; rw [List.take_length]
theorem degS_succ (xs : List (Int × Int)) (k : Nat) : degS xs (k + 1) = degS xs k + degU xs (k : Int) xs.length := by
  rw [degU_all]
  unfold degS
  induction xs with
  | nil => rfl
  | cons e xs ih =>
    rw [List.countP_cons, List.countP_cons, List.countP_cons, ih]
    have : (if (decide (0 ≤ e.1) && decide (e.1 < ((k + 1 : Nat) : Int))) = true then 1 else 0) = (if (decide (0 ≤ e.1) && decide (e.1 < (k : Int))) = true then 1 else 0) + (if (e.1 == (k : Int)) = true then 1 else 0) := by
      simp only [Bool.and_eq_true, decide_eq_true_eq, beq_iff_eq]
      by_cases h1 : e.1 = (k : Int)
      · rw [if_pos (by omega), if_neg (by omega), if_pos h1]
      · rw [if_neg h1, Nat.add_zero]
        by_cases h2 : 0 ≤ e.1 ∧ e.1 < (k : Int)
        · rw [if_pos h2, if_pos (by omega)]
        · rw [if_neg h2, if_neg (by omega)]
    omega
theorem degS_all (xs : List (Int × Int)) (N : Nat) (h : Good (N : Int) xs) : degS xs N = xs.length := by
  unfold degS
  rw [List.countP_eq_length]
  intro e he
  have := (badB_iff _ e).1 (h.all e he)
  simp only [Bool.and_eq_true, decide_eq_true_eq]
  exact this.1

set_option maxRecDepth 100000 in
set_option maxHeartbeats 2000000 in
theorem degrees_all (n : Int) (A : Option Addr) (ca : Nat) (xs : List (Int × Int)) (w : World) (hx : xs.length ≤ maxLen) (hA : EIn w A xs) :
    Calls Try.prog 5 #[.int .i64 n, .slice A xs.length ca] w fun e w' => e = .returned (.bool true) ∧ Below w.heap.size w w' := by
  unfold maxLen at hx
  refine Kn.calls Try.func5 rfl Try.ntmps5 rfl (.cons (t := 0) rfl (.cons (t := 1) rfl .nil)) fun fa0 fh0 => ?_
  refine wp_seq_k fun K1 hK1 => ?_
  refine wp_region_lit ?_
  refine Kn.pure fh0 rfl rfl .none (Kn.ex_assign fh0 .const) fun fa1 fh1 => ?_
  clear fh0 fa0
  refine wpList_nil ?_
  refine hK1 _ _ ?_
  clear hK1 K1
  refine wp_seq_k fun K2 hK2 => ?_
  refine wp_seq_k fun K3 hK3 => ?_
  refine wp_region_lit ?_
  refine Kn.call fh1 rfl rfl .none (Kn.ex_call fh1 .nil) Try.call6 (awake_any w) fun e w1 hp => ?_
  obtain ⟨rfl, hb1⟩ := hp
  refine ⟨_, rfl, fun fa2 fh2 => ?_⟩
  clear fh1 fa1
  refine Kn.step fh2 rfl rfl .none (Kn.ex_un fh2 (.tmp rfl)) fun Ko hKo => ?_
  go_simp
  try go_bits
  refine hKo _ _ fun fa3 fh3 => ?_
  clear hKo Ko fh2 fa2
  refine wpList_nil ?_
  refine hK3 _ _ ?_
  clear hK3 K3
  replace fh3 := fh3.cut (.cons (t := 13) rfl (.cons (t := 4) rfl (.cons (t := 0) rfl (.cons (t := 1) rfl .nil))))
  refine Kn.no fh3 (.tmp rfl) ?_
  refine wp_skip ?_
  refine hK2 _ _ ?_
  clear hK2 K2
  replace fh3 := fh3.cut (.cons (t := 4) rfl (.cons (t := 0) rfl (.cons (t := 1) rfl .nil)))
  have HA1 := Lib.hid (hA.on hb1)
  have HB1 := Lib.hid hb1
  clear hA hb1
  by_cases h1 : (200 : Int) < (xs.length : Int)
  · refine wp_seq_k fun K4 hK4 => ?_
    refine wp_seq_k fun K5 hK5 => ?_
    refine wp_region_lit ?_
    refine Kn.pure fh3 rfl rfl .none (Kn.ex_move fh3 (.tmp rfl)) fun fa4 fh4 => ?_
    clear fh3 fa3
    refine Kn.step fh4 rfl rfl .none (Kn.ex_len fh4 (.tmp rfl)) fun Ko hKo => ?_
    go_simp
    try go_bits
    refine hKo _ _ fun fa5 fh5 => ?_
    clear hKo Ko fh4 fa4
    refine Kn.step fh5 rfl rfl .none (Kn.ex_bin fh5 (.tmp rfl) .const) fun Ko hKo => ?_
    go_simp
    try go_bits
    refine hKo _ _ fun fa6 fh6 => ?_
    clear hKo Ko fh5 fa5
    refine Kn.pure fh6 rfl rfl .none (Kn.ex_move fh6 (.tmp rfl)) fun fa7 fh7 => ?_
    clear fh6 fa6
    refine Kn.skip fh7 rfl rfl (.some rfl rfl rfl) fun fa8 fh8 => ?_
    clear fh7 fa7
    refine Kn.skip fh8 rfl rfl (.some rfl rfl rfl) fun fa9 fh9 => ?_
    clear fh8 fa8
    refine Kn.pure fh9 rfl rfl .none (Kn.ex_pick fh9 (.tmp rfl) .const) fun fa10 fh10 => ?_
    clear fh9 fa9
    refine wpList_nil ?_
    refine hK5 _ _ ?_
    clear hK5 K5
    replace fh10 := fh10.cut (.cons (t := 20) rfl (.cons (t := 4) rfl (.cons (t := 0) rfl (.cons (t := 1) rfl .nil))))
    refine Kn.yes fh10 (.tmp rfl) ?_
    replace fh10 := fh10.cut (.cons (t := 4) rfl (.cons (t := 0) rfl (.cons (t := 1) rfl .nil)))
    refine wp_seq_k fun K6 hK6 => ?_
    refine wp_region_lit ?_
    refine Kn.pure fh10 rfl rfl .none (Kn.ex_assign fh10 .const) fun fa11 fh11 => ?_
    clear fh10 fa10
    refine wpList_nil ?_
    refine hK6 _ _ ?_
    clear hK6 K6
    refine wp_ret ?_
    refine Kn.then_ret ?_
    exact Kn.ret1 fh11 rfl rfl ⟨rfl, HB1.out⟩
  by_cases h2 : (300 : Int) < n
  · refine wp_seq_k fun K4 hK4 => ?_
    refine wp_seq_k fun K5 hK5 => ?_
    refine wp_region_lit ?_
    refine Kn.pure fh3 rfl rfl .none (Kn.ex_move fh3 (.tmp rfl)) fun fa4 fh4 => ?_
    clear fh3 fa3
    refine Kn.step fh4 rfl rfl .none (Kn.ex_len fh4 (.tmp rfl)) fun Ko hKo => ?_
    go_simp
    try go_bits
    refine hKo _ _ fun fa5 fh5 => ?_
    clear hKo Ko fh4 fa4
    refine Kn.step fh5 rfl rfl .none (Kn.ex_bin fh5 (.tmp rfl) .const) fun Ko hKo => ?_
    go_simp
    try go_bits
    refine hKo _ _ fun fa6 fh6 => ?_
    clear hKo Ko fh5 fa5
    refine Kn.pure fh6 rfl rfl .none (Kn.ex_move fh6 (.tmp rfl)) fun fa7 fh7 => ?_
    clear fh6 fa6
    refine Kn.pure fh7 rfl rfl (.some rfl rfl rfl) (Kn.ex_move fh7 (.tmp rfl)) fun fa8 fh8 => ?_
    clear fh7 fa7
    refine Kn.step fh8 rfl rfl (.some rfl rfl rfl) (Kn.ex_bin fh8 (.tmp rfl) .const) fun Ko hKo => ?_
    go_simp
    try go_bits
    refine hKo _ _ fun fa9 fh9 => ?_
    clear hKo Ko fh8 fa8
    refine Kn.pure fh9 rfl rfl .none (Kn.ex_pick fh9 (.tmp rfl) (.tmp rfl)) fun fa10 fh10 => ?_
    clear fh9 fa9
    refine wpList_nil ?_
    refine hK5 _ _ ?_
    clear hK5 K5
    replace fh10 := fh10.cut (.cons (t := 20) rfl (.cons (t := 4) rfl (.cons (t := 0) rfl (.cons (t := 1) rfl .nil))))
    refine Kn.yes fh10 (.tmp rfl) ?_
    replace fh10 := fh10.cut (.cons (t := 4) rfl (.cons (t := 0) rfl (.cons (t := 1) rfl .nil)))
    refine wp_seq_k fun K6 hK6 => ?_
    refine wp_region_lit ?_
    refine Kn.pure fh10 rfl rfl .none (Kn.ex_assign fh10 .const) fun fa11 fh11 => ?_
    clear fh10 fa10
    refine wpList_nil ?_
    refine hK6 _ _ ?_
    clear hK6 K6
    refine wp_ret ?_
    refine Kn.then_ret ?_
    exact Kn.ret1 fh11 rfl rfl ⟨rfl, HB1.out⟩
  refine wp_seq_k fun K4 hK4 => ?_
  refine wp_seq_k fun K5 hK5 => ?_
  refine wp_region_lit ?_
  refine Kn.pure fh3 rfl rfl .none (Kn.ex_move fh3 (.tmp rfl)) fun fa4 fh4 => ?_
  clear fh3 fa3
  refine Kn.step fh4 rfl rfl .none (Kn.ex_len fh4 (.tmp rfl)) fun Ko hKo => ?_
  go_simp
  try go_bits
  refine hKo _ _ fun fa5 fh5 => ?_
  clear hKo Ko fh4 fa4
  refine Kn.step fh5 rfl rfl .none (Kn.ex_bin fh5 (.tmp rfl) .const) fun Ko hKo => ?_
  go_simp
  try go_bits
  refine hKo _ _ fun fa6 fh6 => ?_
  clear hKo Ko fh5 fa5
  refine Kn.pure fh6 rfl rfl .none (Kn.ex_move fh6 (.tmp rfl)) fun fa7 fh7 => ?_
  clear fh6 fa6
  refine Kn.pure fh7 rfl rfl (.some rfl rfl rfl) (Kn.ex_move fh7 (.tmp rfl)) fun fa8 fh8 => ?_
  clear fh7 fa7
  refine Kn.step fh8 rfl rfl (.some rfl rfl rfl) (Kn.ex_bin fh8 (.tmp rfl) .const) fun Ko hKo => ?_
  go_simp
  try go_bits
  refine hKo _ _ fun fa9 fh9 => ?_
  clear hKo Ko fh8 fa8
  refine Kn.pure fh9 rfl rfl .none (Kn.ex_pick fh9 (.tmp rfl) (.tmp rfl)) fun fa10 fh10 => ?_
  clear fh9 fa9
  refine wpList_nil ?_
  refine hK5 _ _ ?_
  clear hK5 K5
  replace fh10 := fh10.cut (.cons (t := 20) rfl (.cons (t := 4) rfl (.cons (t := 0) rfl (.cons (t := 1) rfl .nil))))
  refine Kn.no fh10 (.tmp rfl) ?_
  refine wp_skip ?_
  refine hK4 _ _ ?_
  clear hK4 K4
  replace fh10 := fh10.cut (.cons (t := 4) rfl (.cons (t := 0) rfl (.cons (t := 1) rfl .nil)))
  have hxs : xs.length ≤ 200 := by omega
  clear h1 hx
  by_cases hg : Good n xs
  · refine wp_seq_k fun K6 hK6 => ?_
    refine wp_region_lit ?_
    refine Kn.pure fh10 rfl rfl .none (Kn.ex_move fh10 (.tmp rfl)) fun fa11 fh11 => ?_
    clear fh10 fa10
    refine Kn.pure fh11 rfl rfl .none (Kn.ex_move fh11 (.tmp rfl)) fun fa12 fh12 => ?_
    clear fh11 fa11
    refine Kn.call fh12 rfl rfl .none (Kn.ex_call fh12 (.cons (.tmp rfl) (.cons (.tmp rfl) .nil))) Try.call11 (norm_yes n A ca xs w1 HA1.out hg) fun e w2 hp => ?_
    obtain ⟨A', n', c', ys, rfl, hn', hN, hE, hb2⟩ := hp
    refine ⟨_, rfl, fun fa13 fh13 => ?_⟩
    clear fh12 fa12
    refine Kn.pure fh13 rfl rfl .none (Kn.ex_move fh13 (.tmp rfl)) fun fa14 fh14 => ?_
    clear fh13 fa13
    refine Kn.pure fh14 rfl rfl .none (Kn.ex_extract fh14 (.tmp rfl) rfl) fun fa15 fh15 => ?_
    clear fh14 fa14
    refine Kn.pure fh15 rfl rfl .none (Kn.ex_extract fh15 (.tmp rfl) rfl) fun fa16 fh16 => ?_
    clear fh15 fa15
    refine Kn.pure fh16 rfl rfl .none (Kn.ex_assign fh16 (.tmp rfl)) fun fa17 fh17 => ?_
    clear fh16 fa16
    refine Kn.pure fh17 rfl rfl .none (Kn.ex_assign fh17 (.tmp rfl)) fun fa18 fh18 => ?_
    clear fh17 fa17
    refine wpList_nil ?_
    refine hK6 _ _ ?_
    clear hK6 K6
    replace fh18 := fh18.cut (.cons (t := 6) rfl (.cons (t := 5) rfl (.cons (t := 4) rfl (.cons (t := 0) rfl (.cons (t := 1) rfl .nil)))))
    subst hn'
    have hle := hN.len
    have HA2 := Lib.hid (HA1.out.on hb2)
    have HE2 := Lib.hid hE
    have HB2 := Lib.hid (HB1.out.trans (hb2.mono HB1.out.size))
    have HN := Lib.hid hN
    have HG := Lib.hid hg
    obtain ⟨N, rfl⟩ := Int.eq_ofNat_of_zero_le hg.lo
    have hN300 : N ≤ 300 := by omega
    clear hE hb2 hN HA1 HB1 hg h2
    refine wp_seq_k fun K7 hK7 => ?_
    refine wp_seq_k fun K8 hK8 => ?_
    refine wp_region_lit ?_
    refine Kn.pure fh18 rfl rfl .none (Kn.ex_move fh18 (.tmp rfl)) fun fa19 fh19 => ?_
    clear fh18 fa18
    refine Kn.step fh19 rfl rfl .none (Kn.ex_bin fh19 (.tmp rfl) .const) fun Ko hKo => ?_
    go_simp
    try go_bits
    refine hKo _ _ fun fa20 fh20 => ?_
    clear hKo Ko fh19 fa19
    refine wpList_nil ?_
    refine hK8 _ _ ?_
    clear hK8 K8
    replace fh20 := fh20.cut (.cons (t := 28) rfl (.cons (t := 5) rfl (.cons (t := 4) rfl (.cons (t := 0) rfl (.cons (t := 1) rfl .nil)))))
    refine Kn.no fh20 (.tmp rfl) ?_
    refine wp_skip ?_
    refine hK7 _ _ ?_
    clear hK7 K7
    replace fh20 := fh20.cut (.cons (t := 5) rfl (.cons (t := 4) rfl (.cons (t := 0) rfl (.cons (t := 1) rfl .nil))))
    refine wp_seq_k fun K9 hK9 => ?_
    refine wp_region_lit ?_
    refine Kn.pure fh20 rfl rfl .none (Kn.ex_assign fh20 .const) fun fa21 fh21 => ?_
    clear fh20 fa20
    refine Kn.pure fh21 rfl rfl .none (Kn.ex_assign fh21 .const) fun fa22 fh22 => ?_
    clear fh21 fa21
    refine wpList_nil ?_
    refine hK9 _ _ ?_
    clear hK9 K9
    refine wp_seq_k fun K10 hK10 => ?_
    refine wp_seq_k fun K11 hK11 => ?_
    refine wp_region_lit ?_
    refine Kn.pure fh22 rfl rfl .none (Kn.ex_assign fh22 .const) fun fa23 fh23 => ?_
    clear fh22 fa22
    refine wpList_nil ?_
    refine hK11 _ _ ?_
    clear hK11 K11
    refine wp_block ?_
    refine Kn.loop (fun m fr u => ∃ (k : Nat), Kn.Kn 77 [(9, .int .i64 (k : Int)), (7, .int .i64 (degS xs k : Int)), (8, .int .i64 (degS ys k : Int)), (0, .int .i64 (N : Int)), (1, .slice A xs.length ca), (5, .slice A' ys.length c')] fr ∧ k + m = N ∧ Hid (Below w2.heap.size w2 u)) N ⟨0, fh23.cut (.turn (t := 9) rfl rfl (.turn (t := 7) rfl (by rw [degS_0]; rfl) (.turn (t := 8) rfl (by rw [degS_0]; rfl) (.cons (t := 0) rfl (.cons (t := 1) rfl (.cons (t := 5) rfl .nil)))))), by omega, Lib.hid (Below.refl _ _)⟩ ?_
    clear fh23 fa23
    intro m12 fa24 u hI Kl12 hKl12
    obtain ⟨k, fh24, hk, HB⟩ := hI
    by_cases hlt : k < N
    · have hs1 := degS_le xs k
      have hs2 := degS_le ys k
      have hd1 := degU_le xs (k : Int) xs.length
      have hd2 := degU_le ys (k : Int) ys.length
      have HS1 := degS_succ xs k
      have HS2 := degS_succ ys k
      have hba : degU ys (k : Int) ys.length ≤ degU xs (k : Int) xs.length := by rw [degU_all, degU_all]; exact HN.out.count _
      have hb0 : degU ys (k : Int) ys.length = 0 ↔ degU xs (k : Int) xs.length = 0 := by rw [degU_all, degU_all]; exact HN.out.count0 _
      have hD1 := degree_any A ca xs (k : Int) u (by omega) (HA2.out.on HB.out)
      have hD2 : ∀ u', Below u.heap.size u u' → Calls Try.prog 10 #[.slice A' ys.length c', .int .i64 (k : Int)] u' fun e w' => e = .returned (.int .i64 (degU ys (k : Int) ys.length)) ∧ Below u'.heap.size u' w' := fun u' hu' => degree_any A' c' ys (k : Int) u' (by omega) ((HE2.out.on HB.out).on hu')
      generalize degS xs k = s1 at hs1 HS1 fh24
      generalize degS ys k = s2 at hs2 HS2 fh24
      generalize degU xs (k : Int) xs.length = a at hd1 HS1 hba hb0 hD1
      generalize degU ys (k : Int) ys.length = b at hd2 HS2 hba hb0 hD2
      have HS1' := Lib.hid HS1
      have HS2' := Lib.hid HS2
      clear HS1 HS2
      have HB0 := Lib.hid hb0
      have HD2 := Lib.hid hD2
      clear hb0 hD2
      refine wp_seq_k fun K13 hK13 => ?_
      refine wp_seq_k fun K14 hK14 => ?_
      refine wp_region_lit ?_
      refine Kn.pure fh24 rfl rfl .none (Kn.ex_move fh24 (.tmp rfl)) fun fa25 fh25 => ?_
      clear fh24 fa24
      refine Kn.pure fh25 rfl rfl .none (Kn.ex_move fh25 (.tmp rfl)) fun fa26 fh26 => ?_
      clear fh25 fa25
      refine Kn.step fh26 rfl rfl .none (Kn.ex_bin fh26 (.tmp rfl) (.tmp rfl)) fun Ko hKo => ?_
      go_simp
      try go_bits
      refine hKo _ _ fun fa27 fh27 => ?_
      clear hKo Ko fh26 fa26
      refine wpList_nil ?_
      refine hK14 _ _ ?_
      clear hK14 K14
      replace fh27 := fh27.cut (.cons (t := 35) rfl (.cons (t := 9) rfl (.cons (t := 7) rfl (.cons (t := 8) rfl (.cons (t := 0) rfl (.cons (t := 1) rfl (.cons (t := 5) rfl .nil)))))))
      refine Kn.yes fh27 (.tmp rfl) ?_
      refine wp_skip ?_
      refine hK13 _ _ ?_
      clear hK13 K13
      replace fh27 := fh27.cut (.cons (t := 9) rfl (.cons (t := 7) rfl (.cons (t := 8) rfl (.cons (t := 0) rfl (.cons (t := 1) rfl (.cons (t := 5) rfl .nil))))))
      refine wp_seq_k fun K15 hK15 => ?_
      refine wp_block ?_
      refine wp_seq_k fun K16 hK16 => ?_
      refine wp_region_lit ?_
      refine Kn.pure fh27 rfl rfl .none (Kn.ex_move fh27 (.tmp rfl)) fun fa28 fh28 => ?_
      clear fh27 fa27
      refine Kn.pure fh28 rfl rfl .none (Kn.ex_move fh28 (.tmp rfl)) fun fa29 fh29 => ?_
      clear fh28 fa28
      refine Kn.call fh29 rfl rfl .none (Kn.ex_call fh29 (.cons (.tmp rfl) (.cons (.tmp rfl) .nil))) Try.call10 (hD1) fun e w3 hp => ?_
      obtain ⟨rfl, hb3⟩ := hp
      refine ⟨_, rfl, fun fa30 fh30 => ?_⟩
      clear fh29 fa29
      have HB3 := Lib.hid hb3
      clear hb3
      refine Kn.pure fh30 rfl rfl .none (Kn.ex_move fh30 (.tmp rfl)) fun fa31 fh31 => ?_
      clear fh30 fa30
      refine Kn.pure fh31 rfl rfl .none (Kn.ex_move fh31 (.tmp rfl)) fun fa32 fh32 => ?_
      clear fh31 fa31
      refine Kn.call fh32 rfl rfl .none (Kn.ex_call fh32 (.cons (.tmp rfl) (.cons (.tmp rfl) .nil))) Try.call10 (HD2.out _ HB3.out) fun e w4 hp => ?_
      obtain ⟨rfl, hb4⟩ := hp
      refine ⟨_, rfl, fun fa33 fh33 => ?_⟩
      clear fh32 fa32
      have HB4 := Lib.hid (HB.out.trans ((HB3.out.trans (hb4.mono HB3.out.size)).mono HB.out.size))
      clear hb4
      refine Kn.pure fh33 rfl rfl .none (Kn.ex_assign fh33 (.tmp rfl)) fun fa34 fh34 => ?_
      clear fh33 fa33
      refine Kn.pure fh34 rfl rfl .none (Kn.ex_assign fh34 (.tmp rfl)) fun fa35 fh35 => ?_
      clear fh34 fa34
      refine wpList_nil ?_
      refine hK16 _ _ ?_
      clear hK16 K16
      replace fh35 := fh35.cut (.cons (t := 11) rfl (.cons (t := 10) rfl (.cons (t := 9) rfl (.cons (t := 7) rfl (.cons (t := 8) rfl (.cons (t := 0) rfl (.cons (t := 1) rfl (.cons (t := 5) rfl .nil))))))))
      have hba' : ¬ a < b := by omega
      clear hD1 HD2
      by_cases hz : a = 0
      · have hz2 : b = 0 := HB0.out.2 hz
        have p1 : ((a : Int) == 0) = true := by simp [hz]
        have p2 : ((b : Int) == 0) = true := by simp [hz2]
        have HZ := Lib.hid hz
        have HZ2 := Lib.hid hz2
        clear hz hz2
        refine wp_seq_k fun K17 hK17 => ?_
        refine wp_seq_k fun K18 hK18 => ?_
        refine wp_region_lit ?_
        refine Kn.pure fh35 rfl rfl .none (Kn.ex_move fh35 (.tmp rfl)) fun fa36 fh36 => ?_
        clear fh35 fa35
        refine Kn.pure fh36 rfl rfl .none (Kn.ex_move fh36 (.tmp rfl)) fun fa37 fh37 => ?_
        clear fh36 fa36
        refine Kn.step fh37 rfl rfl .none (Kn.ex_bin fh37 (.tmp rfl) (.tmp rfl)) fun Ko hKo => ?_
        go_simp
        try go_bits
        refine hKo _ _ fun fa38 fh38 => ?_
        clear hKo Ko fh37 fa37
        refine Kn.pure fh38 rfl rfl .none (Kn.ex_move fh38 (.tmp rfl)) fun fa39 fh39 => ?_
        clear fh38 fa38
        refine Kn.pure fh39 rfl rfl (.some rfl rfl rfl) (Kn.ex_move fh39 (.tmp rfl)) fun fa40 fh40 => ?_
        clear fh39 fa39
        refine Kn.step fh40 rfl rfl (.some rfl rfl rfl) (Kn.ex_bin fh40 (.tmp rfl) .const) fun Ko hKo => ?_
        go_simp
        try go_bits
        refine hKo _ _ fun fa41 fh41 => ?_
        clear hKo Ko fh40 fa40
        refine Kn.pure fh41 rfl rfl (.some rfl rfl rfl) (Kn.ex_move fh41 (.tmp rfl)) fun fa42 fh42 => ?_
        clear fh41 fa41
        refine Kn.step fh42 rfl rfl (.some rfl rfl rfl) (Kn.ex_bin fh42 (.tmp rfl) .const) fun Ko hKo => ?_
        go_simp
        try go_bits
        refine hKo _ _ fun fa43 fh43 => ?_
        clear hKo Ko fh42 fa42
        refine Kn.step fh43 rfl rfl (.some rfl rfl rfl) (Kn.ex_bin fh43 (.tmp rfl) (.tmp rfl)) fun Ko hKo => ?_
        go_simp
        try go_bits
        refine hKo _ _ fun fa44 fh44 => ?_
        clear hKo Ko fh43 fa43
        refine Kn.pure fh44 rfl rfl .none (Kn.ex_pick fh44 (.tmp rfl) (.tmp rfl)) fun fa45 fh45 => ?_
        clear fh44 fa44
        refine wpList_nil ?_
        refine hK18 _ _ ?_
        clear hK18 K18
        replace fh45 := fh45.cut (.cons (t := 53) rfl (.cons (t := 11) rfl (.cons (t := 10) rfl (.cons (t := 9) rfl (.cons (t := 7) rfl (.cons (t := 8) rfl (.cons (t := 0) rfl (.cons (t := 1) rfl (.cons (t := 5) rfl .nil)))))))))
        refine Kn.no fh45 (.tmp rfl) ?_
        refine wp_skip ?_
        refine hK17 _ _ ?_
        clear hK17 K17
        replace fh45 := fh45.cut (.cons (t := 11) rfl (.cons (t := 10) rfl (.cons (t := 9) rfl (.cons (t := 7) rfl (.cons (t := 8) rfl (.cons (t := 0) rfl (.cons (t := 1) rfl (.cons (t := 5) rfl .nil))))))))
        refine wp_region_lit ?_
        refine Kn.pure fh45 rfl rfl .none (Kn.ex_move fh45 (.tmp rfl)) fun fa46 fh46 => ?_
        clear fh45 fa45
        refine Kn.pure fh46 rfl rfl .none (Kn.ex_move fh46 (.tmp rfl)) fun fa47 fh47 => ?_
        clear fh46 fa46
        refine Kn.step fh47 rfl rfl .none (Kn.ex_bin fh47 (.tmp rfl) (.tmp rfl)) fun Ko hKo => ?_
        go_simp
        try go_bits
        refine hKo _ _ fun fa48 fh48 => ?_
        clear hKo Ko fh47 fa47
        refine Kn.pure fh48 rfl rfl .none (Kn.ex_move fh48 (.tmp rfl)) fun fa49 fh49 => ?_
        clear fh48 fa48
        refine Kn.pure fh49 rfl rfl .none (Kn.ex_move fh49 (.tmp rfl)) fun fa50 fh50 => ?_
        clear fh49 fa49
        refine Kn.step fh50 rfl rfl .none (Kn.ex_bin fh50 (.tmp rfl) (.tmp rfl)) fun Ko hKo => ?_
        go_simp
        try go_bits
        refine hKo _ _ fun fa51 fh51 => ?_
        clear hKo Ko fh50 fa50
        refine Kn.pure fh51 rfl rfl .none (Kn.ex_assign fh51 (.tmp rfl)) fun fa52 fh52 => ?_
        clear fh51 fa51
        refine Kn.pure fh52 rfl rfl .none (Kn.ex_assign fh52 (.tmp rfl)) fun fa53 fh53 => ?_
        clear fh52 fa52
        refine wpList_nil ?_
        refine Kn.block_normal ?_
        refine hK15 _ _ ?_
        clear hK15 K15
        replace fh53 := fh53.cut (.cons (t := 8) rfl (.cons (t := 7) rfl (.cons (t := 9) rfl (.cons (t := 0) rfl (.cons (t := 1) rfl (.cons (t := 5) rfl .nil))))))
        refine wp_region_lit ?_
        refine Kn.pure fh53 rfl rfl .none (Kn.ex_move fh53 (.tmp rfl)) fun fa54 fh54 => ?_
        clear fh53 fa53
        refine Kn.step fh54 rfl rfl .none (Kn.ex_bin fh54 (.tmp rfl) .const) fun Ko hKo => ?_
        go_simp
        try go_bits
        refine hKo _ _ fun fa55 fh55 => ?_
        clear hKo Ko fh54 fa54
        refine Kn.pure fh55 rfl rfl .none (Kn.ex_assign fh55 (.tmp rfl)) fun fa56 fh56 => ?_
        clear fh55 fa55
        refine wpList_nil ?_
        replace fh56 := fh56.cut (.cons (t := 9) rfl (.cons (t := 8) rfl (.cons (t := 7) rfl (.cons (t := 0) rfl (.cons (t := 1) rfl (.cons (t := 5) rfl .nil))))))
        exact hKl12 (m12 - 1) _ _ (by omega) ⟨k + 1, fh56.cut (.turn (t := 9) rfl (by go_num) (.turn (t := 7) rfl (by rw [HS1'.out]; go_num) (.turn (t := 8) rfl (by rw [HS2'.out]; go_num) (.cons (t := 0) rfl (.cons (t := 1) rfl (.cons (t := 5) rfl .nil)))))), by omega, HB4⟩
      · have hz2 : ¬ b = 0 := fun h => hz (HB0.out.1 h)
        have p1 : ((a : Int) == 0) = false := by simp; omega
        have p2 : ((b : Int) == 0) = false := by simp; omega
        have HZ := Lib.hid hz
        have HZ2 := Lib.hid hz2
        clear hz hz2
        refine wp_seq_k fun K17 hK17 => ?_
        refine wp_seq_k fun K18 hK18 => ?_
        refine wp_region_lit ?_
        refine Kn.pure fh35 rfl rfl .none (Kn.ex_move fh35 (.tmp rfl)) fun fa36 fh36 => ?_
        clear fh35 fa35
        refine Kn.pure fh36 rfl rfl .none (Kn.ex_move fh36 (.tmp rfl)) fun fa37 fh37 => ?_
        clear fh36 fa36
        refine Kn.step fh37 rfl rfl .none (Kn.ex_bin fh37 (.tmp rfl) (.tmp rfl)) fun Ko hKo => ?_
        go_simp
        try go_bits
        refine hKo _ _ fun fa38 fh38 => ?_
        clear hKo Ko fh37 fa37
        refine Kn.pure fh38 rfl rfl .none (Kn.ex_move fh38 (.tmp rfl)) fun fa39 fh39 => ?_
        clear fh38 fa38
        refine Kn.pure fh39 rfl rfl (.some rfl rfl rfl) (Kn.ex_move fh39 (.tmp rfl)) fun fa40 fh40 => ?_
        clear fh39 fa39
        refine Kn.step fh40 rfl rfl (.some rfl rfl rfl) (Kn.ex_bin fh40 (.tmp rfl) .const) fun Ko hKo => ?_
        go_simp
        try go_bits
        refine hKo _ _ fun fa41 fh41 => ?_
        clear hKo Ko fh40 fa40
        refine Kn.pure fh41 rfl rfl (.some rfl rfl rfl) (Kn.ex_move fh41 (.tmp rfl)) fun fa42 fh42 => ?_
        clear fh41 fa41
        refine Kn.step fh42 rfl rfl (.some rfl rfl rfl) (Kn.ex_bin fh42 (.tmp rfl) .const) fun Ko hKo => ?_
        go_simp
        try go_bits
        refine hKo _ _ fun fa43 fh43 => ?_
        clear hKo Ko fh42 fa42
        refine Kn.step fh43 rfl rfl (.some rfl rfl rfl) (Kn.ex_bin fh43 (.tmp rfl) (.tmp rfl)) fun Ko hKo => ?_
        go_simp
        try go_bits
        refine hKo _ _ fun fa44 fh44 => ?_
        clear hKo Ko fh43 fa43
        refine Kn.pure fh44 rfl rfl .none (Kn.ex_pick fh44 (.tmp rfl) (.tmp rfl)) fun fa45 fh45 => ?_
        clear fh44 fa44
        refine wpList_nil ?_
        refine hK18 _ _ ?_
        clear hK18 K18
        replace fh45 := fh45.cut (.cons (t := 53) rfl (.cons (t := 11) rfl (.cons (t := 10) rfl (.cons (t := 9) rfl (.cons (t := 7) rfl (.cons (t := 8) rfl (.cons (t := 0) rfl (.cons (t := 1) rfl (.cons (t := 5) rfl .nil)))))))))
        refine Kn.no fh45 (.tmp rfl) ?_
        refine wp_skip ?_
        refine hK17 _ _ ?_
        clear hK17 K17
        replace fh45 := fh45.cut (.cons (t := 11) rfl (.cons (t := 10) rfl (.cons (t := 9) rfl (.cons (t := 7) rfl (.cons (t := 8) rfl (.cons (t := 0) rfl (.cons (t := 1) rfl (.cons (t := 5) rfl .nil))))))))
        refine wp_region_lit ?_
        refine Kn.pure fh45 rfl rfl .none (Kn.ex_move fh45 (.tmp rfl)) fun fa46 fh46 => ?_
        clear fh45 fa45
        refine Kn.pure fh46 rfl rfl .none (Kn.ex_move fh46 (.tmp rfl)) fun fa47 fh47 => ?_
        clear fh46 fa46
        refine Kn.step fh47 rfl rfl .none (Kn.ex_bin fh47 (.tmp rfl) (.tmp rfl)) fun Ko hKo => ?_
        go_simp
        try go_bits
        refine hKo _ _ fun fa48 fh48 => ?_
        clear hKo Ko fh47 fa47
        refine Kn.pure fh48 rfl rfl .none (Kn.ex_move fh48 (.tmp rfl)) fun fa49 fh49 => ?_
        clear fh48 fa48
        refine Kn.pure fh49 rfl rfl .none (Kn.ex_move fh49 (.tmp rfl)) fun fa50 fh50 => ?_
        clear fh49 fa49
        refine Kn.step fh50 rfl rfl .none (Kn.ex_bin fh50 (.tmp rfl) (.tmp rfl)) fun Ko hKo => ?_
        go_simp
        try go_bits
        refine hKo _ _ fun fa51 fh51 => ?_
        clear hKo Ko fh50 fa50
        refine Kn.pure fh51 rfl rfl .none (Kn.ex_assign fh51 (.tmp rfl)) fun fa52 fh52 => ?_
        clear fh51 fa51
        refine Kn.pure fh52 rfl rfl .none (Kn.ex_assign fh52 (.tmp rfl)) fun fa53 fh53 => ?_
        clear fh52 fa52
        refine wpList_nil ?_
        refine Kn.block_normal ?_
        refine hK15 _ _ ?_
        clear hK15 K15
        replace fh53 := fh53.cut (.cons (t := 8) rfl (.cons (t := 7) rfl (.cons (t := 9) rfl (.cons (t := 0) rfl (.cons (t := 1) rfl (.cons (t := 5) rfl .nil))))))
        refine wp_region_lit ?_
        refine Kn.pure fh53 rfl rfl .none (Kn.ex_move fh53 (.tmp rfl)) fun fa54 fh54 => ?_
        clear fh53 fa53
        refine Kn.step fh54 rfl rfl .none (Kn.ex_bin fh54 (.tmp rfl) .const) fun Ko hKo => ?_
        go_simp
        try go_bits
        refine hKo _ _ fun fa55 fh55 => ?_
        clear hKo Ko fh54 fa54
        refine Kn.pure fh55 rfl rfl .none (Kn.ex_assign fh55 (.tmp rfl)) fun fa56 fh56 => ?_
        clear fh55 fa55
        refine wpList_nil ?_
        replace fh56 := fh56.cut (.cons (t := 9) rfl (.cons (t := 8) rfl (.cons (t := 7) rfl (.cons (t := 0) rfl (.cons (t := 1) rfl (.cons (t := 5) rfl .nil))))))
        exact hKl12 (m12 - 1) _ _ (by omega) ⟨k + 1, fh56.cut (.turn (t := 9) rfl (by go_num) (.turn (t := 7) rfl (by rw [HS1'.out]; go_num) (.turn (t := 8) rfl (by rw [HS2'.out]; go_num) (.cons (t := 0) rfl (.cons (t := 1) rfl (.cons (t := 5) rfl .nil)))))), by omega, HB4⟩
    · obtain rfl : k = N := by omega
      rw [degS_all xs k HG.out, degS_all ys k (HN.out.good HG.out)] at fh24
      refine wp_seq_k fun K13 hK13 => ?_
      refine wp_seq_k fun K14 hK14 => ?_
      refine wp_region_lit ?_
      refine Kn.pure fh24 rfl rfl .none (Kn.ex_move fh24 (.tmp rfl)) fun fa25 fh25 => ?_
      clear fh24 fa24
      refine Kn.pure fh25 rfl rfl .none (Kn.ex_move fh25 (.tmp rfl)) fun fa26 fh26 => ?_
      clear fh25 fa25
      refine Kn.step fh26 rfl rfl .none (Kn.ex_bin fh26 (.tmp rfl) (.tmp rfl)) fun Ko hKo => ?_
      go_simp
      try go_bits
      refine hKo _ _ fun fa27 fh27 => ?_
      clear hKo Ko fh26 fa26
      refine wpList_nil ?_
      refine hK14 _ _ ?_
      clear hK14 K14
      replace fh27 := fh27.cut (.cons (t := 35) rfl (.cons (t := 9) rfl (.cons (t := 7) rfl (.cons (t := 8) rfl (.cons (t := 0) rfl (.cons (t := 1) rfl (.cons (t := 5) rfl .nil)))))))
      refine Kn.no fh27 (.tmp rfl) ?_
      replace fh27 := fh27.cut (.cons (t := 9) rfl (.cons (t := 7) rfl (.cons (t := 8) rfl (.cons (t := 0) rfl (.cons (t := 1) rfl (.cons (t := 5) rfl .nil))))))
      refine wp_exit ?_
      refine Kn.then_exit ?_
      clear hK13 K13
      refine Kn.then_exit ?_
      clear hKl12 Kl12
      refine Kn.block_exit ?_
      refine hK10 _ _ ?_
      clear hK10 K10
      replace fh27 := fh27.cut (.cons (t := 7) rfl (.cons (t := 8) rfl (.cons (t := 1) rfl (.cons (t := 5) rfl .nil))))
      refine wp_seq_k fun K15 hK15 => ?_
      refine wp_region_lit ?_
      refine Kn.pure fh27 rfl rfl .none (Kn.ex_move fh27 (.tmp rfl)) fun fa28 fh28 => ?_
      clear fh27 fa27
      refine Kn.pure fh28 rfl rfl .none (Kn.ex_move fh28 (.tmp rfl)) fun fa29 fh29 => ?_
      clear fh28 fa28
      refine Kn.step fh29 rfl rfl .none (Kn.ex_len fh29 (.tmp rfl)) fun Ko hKo => ?_
      go_simp
      try go_bits
      refine hKo _ _ fun fa30 fh30 => ?_
      clear hKo Ko fh29 fa29
      refine Kn.step fh30 rfl rfl .none (Kn.ex_bin fh30 (.tmp rfl) (.tmp rfl)) fun Ko hKo => ?_
      go_simp
      try go_bits
      refine hKo _ _ fun fa31 fh31 => ?_
      clear hKo Ko fh30 fa30
      refine Kn.pure fh31 rfl rfl .none (Kn.ex_move fh31 (.tmp rfl)) fun fa32 fh32 => ?_
      clear fh31 fa31
      refine Kn.pure fh32 rfl rfl (.some rfl rfl rfl) (Kn.ex_move fh32 (.tmp rfl)) fun fa33 fh33 => ?_
      clear fh32 fa32
      refine Kn.pure fh33 rfl rfl (.some rfl rfl rfl) (Kn.ex_move fh33 (.tmp rfl)) fun fa34 fh34 => ?_
      clear fh33 fa33
      refine Kn.step fh34 rfl rfl (.some rfl rfl rfl) (Kn.ex_len fh34 (.tmp rfl)) fun Ko hKo => ?_
      go_simp
      try go_bits
      refine hKo _ _ fun fa35 fh35 => ?_
      clear hKo Ko fh34 fa34
      refine Kn.step fh35 rfl rfl (.some rfl rfl rfl) (Kn.ex_bin fh35 (.tmp rfl) (.tmp rfl)) fun Ko hKo => ?_
      go_simp
      try go_bits
      refine hKo _ _ fun fa36 fh36 => ?_
      clear hKo Ko fh35 fa35
      refine Kn.pure fh36 rfl rfl .none (Kn.ex_pick fh36 (.tmp rfl) (.tmp rfl)) fun fa37 fh37 => ?_
      clear fh36 fa36
      refine Kn.pure fh37 rfl rfl .none (Kn.ex_move fh37 (.tmp rfl)) fun fa38 fh38 => ?_
      clear fh37 fa37
      refine Kn.pure fh38 rfl rfl (.some rfl rfl rfl) (Kn.ex_move fh38 (.tmp rfl)) fun fa39 fh39 => ?_
      clear fh38 fa38
      refine Kn.step fh39 rfl rfl (.some rfl rfl rfl) (Kn.ex_len fh39 (.tmp rfl)) fun Ko hKo => ?_
      go_simp
      try go_bits
      refine hKo _ _ fun fa40 fh40 => ?_
      clear hKo Ko fh39 fa39
      refine Kn.pure fh40 rfl rfl (.some rfl rfl rfl) (Kn.ex_move fh40 (.tmp rfl)) fun fa41 fh41 => ?_
      clear fh40 fa40
      refine Kn.step fh41 rfl rfl (.some rfl rfl rfl) (Kn.ex_len fh41 (.tmp rfl)) fun Ko hKo => ?_
      go_simp
      try go_bits
      refine hKo _ _ fun fa42 fh42 => ?_
      clear hKo Ko fh41 fa41
      refine Kn.step fh42 rfl rfl (.some rfl rfl rfl) (Kn.ex_bin fh42 (.tmp rfl) (.tmp rfl)) fun Ko hKo => ?_
      go_simp
      try go_bits
      refine hKo _ _ fun fa43 fh43 => ?_
      clear hKo Ko fh42 fa42
      refine Kn.pure fh43 rfl rfl .none (Kn.ex_pick fh43 (.tmp rfl) (.tmp rfl)) fun fa44 fh44 => ?_
      clear fh43 fa43
      refine Kn.pure fh44 rfl rfl .none (Kn.ex_assign fh44 (.tmp rfl)) fun fa45 fh45 => ?_
      clear fh44 fa44
      refine wpList_nil ?_
      refine hK15 _ _ ?_
      clear hK15 K15
      replace fh45 := fh45.cut (.cons (t := 4) rfl .nil)
      refine wp_ret ?_
      exact Kn.ret1 fh45 rfl rfl ⟨by simp, HB2.out.trans (HB.out.mono HB2.out.size)⟩
  · have hn := norm_no n A ca xs w1 HA1.out hg
    unfold faultV at hn
    refine wp_seq_k fun K6 hK6 => ?_
    refine wp_region_lit ?_
    refine Kn.pure fh10 rfl rfl .none (Kn.ex_move fh10 (.tmp rfl)) fun fa11 fh11 => ?_
    clear fh10 fa10
    refine Kn.pure fh11 rfl rfl .none (Kn.ex_move fh11 (.tmp rfl)) fun fa12 fh12 => ?_
    clear fh11 fa11
    refine Kn.call fh12 rfl rfl .none (Kn.ex_call fh12 (.cons (.tmp rfl) (.cons (.tmp rfl) .nil))) Try.call11 (hn) fun e w2 hp => ?_
    obtain ⟨rfl, hb2⟩ := hp
    refine ⟨_, rfl, fun fa13 fh13 => ?_⟩
    clear fh12 fa12
    refine Kn.pure fh13 rfl rfl .none (Kn.ex_move fh13 (.tmp rfl)) fun fa14 fh14 => ?_
    clear fh13 fa13
    refine Kn.pure fh14 rfl rfl .none (Kn.ex_extract fh14 (.tmp rfl) rfl) fun fa15 fh15 => ?_
    clear fh14 fa14
    refine Kn.pure fh15 rfl rfl .none (Kn.ex_extract fh15 (.tmp rfl) rfl) fun fa16 fh16 => ?_
    clear fh15 fa15
    refine Kn.pure fh16 rfl rfl .none (Kn.ex_assign fh16 (.tmp rfl)) fun fa17 fh17 => ?_
    clear fh16 fa16
    refine Kn.pure fh17 rfl rfl .none (Kn.ex_assign fh17 (.tmp rfl)) fun fa18 fh18 => ?_
    clear fh17 fa17
    refine wpList_nil ?_
    refine hK6 _ _ ?_
    clear hK6 K6
    replace fh18 := fh18.cut (.cons (t := 6) rfl (.cons (t := 5) rfl (.cons (t := 4) rfl (.cons (t := 0) rfl (.cons (t := 1) rfl .nil)))))
    have hc := check_no n A ca xs w2 (HA1.out.on hb2) hg
    unfold faultV at hc
    clear hn
    refine wp_seq_k fun K7 hK7 => ?_
    refine wp_seq_k fun K8 hK8 => ?_
    refine wp_region_lit ?_
    refine Kn.pure fh18 rfl rfl .none (Kn.ex_move fh18 (.tmp rfl)) fun fa19 fh19 => ?_
    clear fh18 fa18
    refine Kn.step fh19 rfl rfl .none (Kn.ex_bin fh19 (.tmp rfl) .const) fun Ko hKo => ?_
    go_simp
    try go_bits
    refine hKo _ _ fun fa20 fh20 => ?_
    clear hKo Ko fh19 fa19
    refine wpList_nil ?_
    refine hK8 _ _ ?_
    clear hK8 K8
    replace fh20 := fh20.cut (.cons (t := 28) rfl (.cons (t := 5) rfl (.cons (t := 4) rfl (.cons (t := 0) rfl (.cons (t := 1) rfl .nil)))))
    refine Kn.yes fh20 (.tmp rfl) ?_
    replace fh20 := fh20.cut (.cons (t := 5) rfl (.cons (t := 4) rfl (.cons (t := 0) rfl (.cons (t := 1) rfl .nil))))
    refine wp_seq_k fun K9 hK9 => ?_
    refine wp_region_lit ?_
    refine Kn.pure fh20 rfl rfl .none (Kn.ex_move fh20 (.tmp rfl)) fun fa21 fh21 => ?_
    clear fh20 fa20
    refine Kn.pure fh21 rfl rfl .none (Kn.ex_move fh21 (.tmp rfl)) fun fa22 fh22 => ?_
    clear fh21 fa21
    refine Kn.call fh22 rfl rfl .none (Kn.ex_call fh22 (.cons (.tmp rfl) (.cons (.tmp rfl) .nil))) Try.call12 (hc) fun e w3 hp => ?_
    obtain ⟨rfl, hb3⟩ := hp
    refine ⟨_, rfl, fun fa23 fh23 => ?_⟩
    clear fh22 fa22
    refine Kn.step fh23 rfl rfl .none (Kn.ex_bin fh23 (.tmp rfl) .const) fun Ko hKo => ?_
    go_simp
    try go_bits
    refine hKo _ _ fun fa24 fh24 => ?_
    clear hKo Ko fh23 fa23
    refine Kn.pure fh24 rfl rfl .none (Kn.ex_assign fh24 (.tmp rfl)) fun fa25 fh25 => ?_
    clear fh24 fa24
    refine wpList_nil ?_
    refine hK9 _ _ ?_
    clear hK9 K9
    replace fh25 := fh25.cut (.cons (t := 4) rfl (.cons (t := 5) rfl (.cons (t := 0) rfl (.cons (t := 1) rfl .nil))))
    refine wp_ret ?_
    refine Kn.then_ret ?_
    exact Kn.ret1 fh25 rfl rfl ⟨by simp, HB1.out.trans ((hb2.trans (hb3.mono hb2.size)).mono HB1.out.size)⟩

end Go.Proofs.Ytnmpcendimdoeaa.Edg
