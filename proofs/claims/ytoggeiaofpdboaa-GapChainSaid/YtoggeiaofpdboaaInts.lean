/- The document's Ints of layer 5 (written by gen_ref05.py). -/
import Derived.Test.YtoggeiaofpdboaaIntKit
namespace Go.Proofs.Ytoggeiaofpdboaa.Num
open Go Go.RowKit Go.Lib

set_option maxRecDepth 100000 in
set_option maxHeartbeats 2000000 in
theorem refInts_any (A B : Option Addr) (ca cb : Nat) (xs ys : List Int) (w : World) (hx : xs.length ≤ maxLen) (hy : ys.length ≤ maxLen) (hA : IIn w A xs) (hB : IIn w B ys) :
    Calls Try.prog 10 #[.slice A xs.length ca, .slice B ys.length cb] w fun e w' => e = .returned (.bool (decide (xs = ys))) ∧ ∃ q, w' = w.drewN q := by
  unfold maxLen at hx hy
  have HA := Lib.hid hA
  have HB := Lib.hid hB
  clear hA hB
  refine Kn.calls Try.func10 rfl Try.ntmps10 rfl (.cons (t := 0) rfl (.cons (t := 1) rfl .nil)) fun fa0 fh0 => ?_
  refine wp_seq_k fun K1 hK1 => ?_
  refine wp_region_lit ?_
  refine Kn.pure fh0 rfl rfl .none (Kn.ex_assign fh0 .const) fun fa1 fh1 => ?_
  clear fh0 fa0
  refine wpList_nil ?_
  refine hK1 _ _ ?_
  clear hK1 K1
  by_cases hlen : xs.length = ys.length
  · have qn : ((xs.length : Int) != (ys.length : Int)) = false := by simp [hlen]
    have qn2 : (xs.length != ys.length) = false := by simp [hlen]
    have HL := Lib.hid hlen
    clear hlen
    refine wp_seq_k fun K2 hK2 => ?_
    refine wp_seq_k fun K3 hK3 => ?_
    refine wp_region_lit ?_
    refine Kn.pure fh1 rfl rfl .none (Kn.ex_move fh1 (.tmp rfl)) fun fa2 fh2 => ?_
    clear fh1 fa1
    refine Kn.step fh2 rfl rfl .none (Kn.ex_len fh2 (.tmp rfl)) fun Ko hKo => ?_
    go_simp
    try go_bits
    refine hKo _ _ fun fa3 fh3 => ?_
    clear hKo Ko fh2 fa2
    refine Kn.pure fh3 rfl rfl .none (Kn.ex_move fh3 (.tmp rfl)) fun fa4 fh4 => ?_
    clear fh3 fa3
    refine Kn.step fh4 rfl rfl .none (Kn.ex_len fh4 (.tmp rfl)) fun Ko hKo => ?_
    go_simp
    try go_bits
    refine hKo _ _ fun fa5 fh5 => ?_
    clear hKo Ko fh4 fa4
    refine Kn.step fh5 rfl rfl .none (Kn.ex_bin fh5 (.tmp rfl) (.tmp rfl)) fun Ko hKo => ?_
    go_simp
    try go_bits
    refine hKo _ _ fun fa6 fh6 => ?_
    clear hKo Ko fh5 fa5
    refine wpList_nil ?_
    refine hK3 _ _ ?_
    clear hK3 K3
    replace fh6 := fh6.cut (.cons (t := 10) rfl (.cons (t := 4) rfl (.cons (t := 0) rfl (.cons (t := 1) rfl .nil))))
    clear qn qn2
    refine Kn.no fh6 (.tmp rfl) ?_
    refine wp_skip ?_
    refine hK2 _ _ ?_
    clear hK2 K2
    replace fh6 := fh6.cut (.cons (t := 4) rfl (.cons (t := 0) rfl (.cons (t := 1) rfl .nil)))
    refine wp_seq_k fun K4 hK4 => ?_
    refine wp_seq_k fun K5 hK5 => ?_
    refine wp_region_lit ?_
    refine Kn.pure fh6 rfl rfl .none (Kn.ex_assign fh6 .const) fun fa7 fh7 => ?_
    clear fh6 fa6
    refine wpList_nil ?_
    refine hK5 _ _ ?_
    clear hK5 K5
    refine wp_block ?_
    refine Kn.loop (fun m fr v => ∃ (k q : Nat), Kn.Kn 26 [(5, .int .i64 (k : Int)), (0, .slice A xs.length ca), (1, .slice B ys.length cb)] fr ∧ k + m = xs.length ∧ Hid (∀ i, i < k → nt xs i = nt ys i) ∧ v = w.drewN q) xs.length ⟨0, 0, fh7.cut (.turn (t := 5) rfl rfl (.cons (t := 0) rfl (.cons (t := 1) rfl .nil))), by omega, Lib.hid (fun i hi => absurd hi (by omega)), rfl⟩ ?_
    clear fh7 fa7
    intro m6 fa8 v hI Kl6 hKl6
    obtain ⟨k, q, fh8, hk, HP, rfl⟩ := hI
    by_cases hlt : k < xs.length
    · have hlt2 : k < ys.length := by rw [← HL.out]; exact hlt
      obtain ⟨ba, oa, rfl, -, ca1⟩ := HA.out k hlt
      obtain ⟨bb, ob, rfl, -, cb1⟩ := HB.out k hlt2
      obtain ⟨x1, hx1⟩ : ∃ x, nt xs k = x := ⟨_, rfl⟩
      obtain ⟨y1, hy1⟩ : ∃ x, nt ys k = x := ⟨_, rfl⟩
      rw [hx1] at ca1
      rw [hy1] at cb1
      have HX := Lib.hid hx1
      have HY := Lib.hid hy1
      clear hx1 hy1
      refine wp_seq_k fun K7 hK7 => ?_
      refine wp_seq_k fun K8 hK8 => ?_
      refine wp_region_lit ?_
      refine Kn.pure fh8 rfl rfl .none (Kn.ex_move fh8 (.tmp rfl)) fun fa9 fh9 => ?_
      clear fh8 fa8
      refine Kn.pure fh9 rfl rfl .none (Kn.ex_move fh9 (.tmp rfl)) fun fa10 fh10 => ?_
      clear fh9 fa9
      refine Kn.step fh10 rfl rfl .none (Kn.ex_len fh10 (.tmp rfl)) fun Ko hKo => ?_
      go_simp
      try go_bits
      refine hKo _ _ fun fa11 fh11 => ?_
      clear hKo Ko fh10 fa10
      refine Kn.step fh11 rfl rfl .none (Kn.ex_bin fh11 (.tmp rfl) (.tmp rfl)) fun Ko hKo => ?_
      go_simp
      try go_bits
      refine hKo _ _ fun fa12 fh12 => ?_
      clear hKo Ko fh11 fa11
      refine wpList_nil ?_
      refine hK8 _ _ ?_
      clear hK8 K8
      replace fh12 := fh12.cut (.cons (t := 14) rfl (.cons (t := 5) rfl (.cons (t := 0) rfl (.cons (t := 1) rfl .nil))))
      refine Kn.yes fh12 (.tmp rfl) ?_
      refine wp_skip ?_
      refine hK7 _ _ ?_
      clear hK7 K7
      replace fh12 := fh12.cut (.cons (t := 5) rfl (.cons (t := 0) rfl (.cons (t := 1) rfl .nil)))
      refine wp_seq_k fun K9 hK9 => ?_
      refine wp_block ?_
      by_cases e1 : x1 = y1
      · have q1 : (x1 != y1) = false := by simp [e1]
        have HE : Hid (nt xs k = nt ys k) := Lib.hid (by rw [HX.out, HY.out, e1])
        clear e1
        refine wp_seq_k fun K10 hK10 => ?_
        refine Kn.still (by kernel_rfl) (by kernel_rfl) ?_
        refine Kn.spure fh12 rfl rfl .none (Kn.ex_move fh12 (.tmp rfl)) fun fa13 fh13 => ?_
        clear fh12 fa12
        refine Kn.spure fh13 rfl rfl .none (Kn.ex_move fh13 (.tmp rfl)) fun fa14 fh14 => ?_
        clear fh13 fa13
        refine Kn.sstep fh14 rfl rfl .none (Kn.ex_indexAddr fh14 (.tmp rfl) (.tmp rfl)) fun Ko hKo => ?_
        go_simp
        try go_bits
        refine hKo _ fun fa15 fh15 => ?_
        clear hKo Ko fh14 fa14
        refine Kn.sstep fh15 rfl rfl .none (Kn.ex_load fh15 (.tmp rfl)) fun Ko hKo => ?_
        go_simp
        try go_bits
        refine hKo _ fun fa16 fh16 => ?_
        clear hKo Ko fh15 fa15
        refine Kn.spure fh16 rfl rfl .none (Kn.ex_move fh16 (.tmp rfl)) fun fa17 fh17 => ?_
        clear fh16 fa16
        refine Kn.spure fh17 rfl rfl .none (Kn.ex_move fh17 (.tmp rfl)) fun fa18 fh18 => ?_
        clear fh17 fa17
        refine Kn.sstep fh18 rfl rfl .none (Kn.ex_indexAddr fh18 (.tmp rfl) (.tmp rfl)) fun Ko hKo => ?_
        go_simp
        try go_bits
        refine hKo _ fun fa19 fh19 => ?_
        clear hKo Ko fh18 fa18
        refine Kn.sstep fh19 rfl rfl .none (Kn.ex_load fh19 (.tmp rfl)) fun Ko hKo => ?_
        go_simp
        try go_bits
        refine hKo _ fun fa20 fh20 => ?_
        clear hKo Ko fh19 fa19
        refine Kn.sstep fh20 rfl rfl .none (Kn.ex_bin fh20 (.tmp rfl) (.tmp rfl)) fun Ko hKo => ?_
        go_simp
        try go_bits
        refine hKo _ fun fa21 fh21 => ?_
        clear hKo Ko fh20 fa20
        refine wpStill_nil ?_
        refine hK10 _ _ ?_
        clear hK10 K10
        replace fh21 := fh21.cut (.cons (t := 25) rfl (.cons (t := 5) rfl (.cons (t := 0) rfl (.cons (t := 1) rfl .nil))))
        refine Kn.no fh21 (.tmp rfl) ?_
        refine wp_skip ?_
        refine Kn.block_normal ?_
        refine hK9 _ _ ?_
        clear hK9 K9
        replace fh21 := fh21.cut (.cons (t := 5) rfl (.cons (t := 0) rfl (.cons (t := 1) rfl .nil)))
        refine wp_region_lit ?_
        refine Kn.pure fh21 rfl rfl .none (Kn.ex_move fh21 (.tmp rfl)) fun fa22 fh22 => ?_
        clear fh21 fa21
        refine Kn.step fh22 rfl rfl .none (Kn.ex_bin fh22 (.tmp rfl) .const) fun Ko hKo => ?_
        go_simp
        try go_bits
        refine hKo _ _ fun fa23 fh23 => ?_
        clear hKo Ko fh22 fa22
        refine Kn.pure fh23 rfl rfl .none (Kn.ex_assign fh23 (.tmp rfl)) fun fa24 fh24 => ?_
        clear fh23 fa23
        refine wpList_nil ?_
        replace fh24 := fh24.cut (.cons (t := 5) rfl (.cons (t := 0) rfl (.cons (t := 1) rfl .nil)))
        exact hKl6 (m6 - 1) _ _ (by omega) ⟨k + 1, q + 1, fh24.cut (.turn (t := 5) rfl (by go_num) (.cons (t := 0) rfl (.cons (t := 1) rfl .nil))), by omega, Lib.hid (fun i hi => by rcases Nat.lt_or_ge i k with h | h; exact HP.out i h; rw [show i = k by omega]; exact HE.out), rfl⟩
      · have q1 : (x1 != y1) = true := by simp [e1]
        have HE : Hid (xs ≠ ys) := Lib.hid (fun h => e1 (by rw [← HX.out, ← HY.out, h]))
        clear e1
        refine wp_seq_k fun K10 hK10 => ?_
        refine Kn.still (by kernel_rfl) (by kernel_rfl) ?_
        refine Kn.spure fh12 rfl rfl .none (Kn.ex_move fh12 (.tmp rfl)) fun fa13 fh13 => ?_
        clear fh12 fa12
        refine Kn.spure fh13 rfl rfl .none (Kn.ex_move fh13 (.tmp rfl)) fun fa14 fh14 => ?_
        clear fh13 fa13
        refine Kn.sstep fh14 rfl rfl .none (Kn.ex_indexAddr fh14 (.tmp rfl) (.tmp rfl)) fun Ko hKo => ?_
        go_simp
        try go_bits
        refine hKo _ fun fa15 fh15 => ?_
        clear hKo Ko fh14 fa14
        refine Kn.sstep fh15 rfl rfl .none (Kn.ex_load fh15 (.tmp rfl)) fun Ko hKo => ?_
        go_simp
        try go_bits
        refine hKo _ fun fa16 fh16 => ?_
        clear hKo Ko fh15 fa15
        refine Kn.spure fh16 rfl rfl .none (Kn.ex_move fh16 (.tmp rfl)) fun fa17 fh17 => ?_
        clear fh16 fa16
        refine Kn.spure fh17 rfl rfl .none (Kn.ex_move fh17 (.tmp rfl)) fun fa18 fh18 => ?_
        clear fh17 fa17
        refine Kn.sstep fh18 rfl rfl .none (Kn.ex_indexAddr fh18 (.tmp rfl) (.tmp rfl)) fun Ko hKo => ?_
        go_simp
        try go_bits
        refine hKo _ fun fa19 fh19 => ?_
        clear hKo Ko fh18 fa18
        refine Kn.sstep fh19 rfl rfl .none (Kn.ex_load fh19 (.tmp rfl)) fun Ko hKo => ?_
        go_simp
        try go_bits
        refine hKo _ fun fa20 fh20 => ?_
        clear hKo Ko fh19 fa19
        refine Kn.sstep fh20 rfl rfl .none (Kn.ex_bin fh20 (.tmp rfl) (.tmp rfl)) fun Ko hKo => ?_
        go_simp
        try go_bits
        refine hKo _ fun fa21 fh21 => ?_
        clear hKo Ko fh20 fa20
        refine wpStill_nil ?_
        refine hK10 _ _ ?_
        clear hK10 K10
        replace fh21 := fh21.cut (.cons (t := 25) rfl (.cons (t := 5) rfl (.cons (t := 0) rfl (.cons (t := 1) rfl .nil))))
        refine Kn.yes fh21 (.tmp rfl) ?_
        replace fh21 := fh21.cut (.cons (t := 5) rfl (.cons (t := 0) rfl (.cons (t := 1) rfl .nil)))
        refine wp_seq_k fun K11 hK11 => ?_
        refine wp_region_lit ?_
        refine Kn.pure fh21 rfl rfl .none (Kn.ex_assign fh21 .const) fun fa22 fh22 => ?_
        clear fh21 fa21
        refine wpList_nil ?_
        refine hK11 _ _ ?_
        clear hK11 K11
        refine wp_ret ?_
        refine Kn.block_ret ?_
        refine Kn.then_ret ?_
        refine Kn.then_ret ?_
        refine Kn.block_ret ?_
        refine Kn.then_ret ?_
        exact Kn.ret1 fh22 rfl rfl ⟨by rw [decide_eq_false HE.out], q + 1, rfl⟩
    · obtain rfl : k = xs.length := by omega
      have HE : Hid (xs = ys) := Lib.hid (nts_eq HL.out HP.out)
      refine wp_seq_k fun K7 hK7 => ?_
      refine wp_seq_k fun K8 hK8 => ?_
      refine wp_region_lit ?_
      refine Kn.pure fh8 rfl rfl .none (Kn.ex_move fh8 (.tmp rfl)) fun fa9 fh9 => ?_
      clear fh8 fa8
      refine Kn.pure fh9 rfl rfl .none (Kn.ex_move fh9 (.tmp rfl)) fun fa10 fh10 => ?_
      clear fh9 fa9
      refine Kn.step fh10 rfl rfl .none (Kn.ex_len fh10 (.tmp rfl)) fun Ko hKo => ?_
      go_simp
      try go_bits
      refine hKo _ _ fun fa11 fh11 => ?_
      clear hKo Ko fh10 fa10
      refine Kn.step fh11 rfl rfl .none (Kn.ex_bin fh11 (.tmp rfl) (.tmp rfl)) fun Ko hKo => ?_
      go_simp
      try go_bits
      refine hKo _ _ fun fa12 fh12 => ?_
      clear hKo Ko fh11 fa11
      refine wpList_nil ?_
      refine hK8 _ _ ?_
      clear hK8 K8
      replace fh12 := fh12.cut (.cons (t := 14) rfl (.cons (t := 5) rfl (.cons (t := 0) rfl (.cons (t := 1) rfl .nil))))
      refine Kn.no fh12 (.tmp rfl) ?_
      replace fh12 := fh12.cut (.cons (t := 5) rfl (.cons (t := 0) rfl (.cons (t := 1) rfl .nil)))
      refine wp_exit ?_
      refine Kn.then_exit ?_
      clear hK7 K7
      refine Kn.then_exit ?_
      clear hKl6 Kl6
      refine Kn.block_exit ?_
      refine hK4 _ _ ?_
      clear hK4 K4
      replace fh12 := fh12.cut .nil
      refine wp_seq_k fun K9 hK9 => ?_
      refine wp_region_lit ?_
      refine Kn.pure fh12 rfl rfl .none (Kn.ex_assign fh12 .const) fun fa13 fh13 => ?_
      clear fh12 fa12
      refine wpList_nil ?_
      refine hK9 _ _ ?_
      clear hK9 K9
      refine wp_ret ?_
      exact Kn.ret1 fh13 rfl rfl ⟨by rw [decide_eq_true HE.out], _, rfl⟩
  · have qn : ((xs.length : Int) != (ys.length : Int)) = true := by simp; omega
    have qn2 : (xs.length != ys.length) = true := by simp [hlen]
    have HE : Hid (xs ≠ ys) := Lib.hid (fun h => hlen (by rw [h]))
    clear hlen
    refine wp_seq_k fun K2 hK2 => ?_
    refine wp_seq_k fun K3 hK3 => ?_
    refine wp_region_lit ?_
    refine Kn.pure fh1 rfl rfl .none (Kn.ex_move fh1 (.tmp rfl)) fun fa2 fh2 => ?_
    clear fh1 fa1
    refine Kn.step fh2 rfl rfl .none (Kn.ex_len fh2 (.tmp rfl)) fun Ko hKo => ?_
    go_simp
    try go_bits
    refine hKo _ _ fun fa3 fh3 => ?_
    clear hKo Ko fh2 fa2
    refine Kn.pure fh3 rfl rfl .none (Kn.ex_move fh3 (.tmp rfl)) fun fa4 fh4 => ?_
    clear fh3 fa3
    refine Kn.step fh4 rfl rfl .none (Kn.ex_len fh4 (.tmp rfl)) fun Ko hKo => ?_
    go_simp
    try go_bits
    refine hKo _ _ fun fa5 fh5 => ?_
    clear hKo Ko fh4 fa4
    refine Kn.step fh5 rfl rfl .none (Kn.ex_bin fh5 (.tmp rfl) (.tmp rfl)) fun Ko hKo => ?_
    go_simp
    try go_bits
    refine hKo _ _ fun fa6 fh6 => ?_
    clear hKo Ko fh5 fa5
    refine wpList_nil ?_
    refine hK3 _ _ ?_
    clear hK3 K3
    replace fh6 := fh6.cut (.cons (t := 10) rfl (.cons (t := 4) rfl (.cons (t := 0) rfl (.cons (t := 1) rfl .nil))))
    refine Kn.yes fh6 (.tmp rfl) ?_
    replace fh6 := fh6.cut (.cons (t := 4) rfl (.cons (t := 0) rfl (.cons (t := 1) rfl .nil)))
    refine wp_seq_k fun K4 hK4 => ?_
    refine wp_region_lit ?_
    refine Kn.pure fh6 rfl rfl .none (Kn.ex_assign fh6 .const) fun fa7 fh7 => ?_
    clear fh6 fa6
    refine wpList_nil ?_
    refine hK4 _ _ ?_
    clear hK4 K4
    refine wp_ret ?_
    refine Kn.then_ret ?_
    exact Kn.ret1 fh7 rfl rfl ⟨by rw [decide_eq_false HE.out], 0, rfl⟩


end Go.Proofs.Ytoggeiaofpdboaa.Num
