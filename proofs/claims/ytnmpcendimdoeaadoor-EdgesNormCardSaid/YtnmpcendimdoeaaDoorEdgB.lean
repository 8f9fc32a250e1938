/- Contracts of the program's edges: Equal, Same, Degree, isNode, fault (written by gen_edgb.py). -/
import Derived.Test.YtnmpcendimdoeaaDoorEdgA
namespace Go.Proofs.YtnmpcendimdoeaaDoor.Edg
open Go Go.RowKit Go.Lib


set_option maxRecDepth 100000 in
set_option maxHeartbeats 2000000 in
theorem equal_any (A B : Option Addr) (ca cb : Nat) (xs ys : List (Int × Int)) (w : World) (hx : xs.length ≤ maxLen) (hy : ys.length ≤ maxLen) (hA : EIn w A xs) (hB : EIn w B ys) :
    Calls Tryd.prog 21 #[.slice A xs.length ca, .slice B ys.length cb] w fun e w' => e = .returned (.bool (decide (xs = ys))) ∧ ∃ q, w' = w.drewN q := by
  unfold maxLen at hx hy
  have HA := Lib.hid hA
  have HB := Lib.hid hB
  clear hA hB
  refine Kn.calls Tryd.func21 rfl Tryd.ntmps21 rfl (.cons (t := 0) rfl (.cons (t := 1) rfl .nil)) fun fa0 fh0 => ?_
  refine wp_seq_k fun K1 hK1 => ?_
  refine wp_region_lit ?_
  refine Kn.pure fh0 rfl rfl .none (Kn.ex_assign fh0 .const) fun fa1 fh1 => ?_
  clear fh0 fa0
  refine wpList_nil ?_
  refine hK1 _ _ ?_
  clear hK1 K1
  by_cases hlen : xs.length = ys.length
  · have qn : ((xs.length : Int) != (ys.length : Int)) = false := by simp [hlen]
    have qn2 : (xs.length != ys.length) = false := by simp [hlen]
    have HL := Lib.hid hlen
    clear hlen
    refine wp_seq_k fun K2 hK2 => ?_
    refine wp_seq_k fun K3 hK3 => ?_
    refine wp_region_lit ?_
    refine Kn.pure fh1 rfl rfl .none (Kn.ex_move fh1 (.tmp rfl)) fun fa2 fh2 => ?_
    clear fh1 fa1
    refine Kn.step fh2 rfl rfl .none (Kn.ex_len fh2 (.tmp rfl)) fun Ko hKo => ?_
    go_simp
    try go_bits
    refine hKo _ _ fun fa3 fh3 => ?_
    clear hKo Ko fh2 fa2
    refine Kn.pure fh3 rfl rfl .none (Kn.ex_move fh3 (.tmp rfl)) fun fa4 fh4 => ?_
    clear fh3 fa3
    refine Kn.step fh4 rfl rfl .none (Kn.ex_len fh4 (.tmp rfl)) fun Ko hKo => ?_
    go_simp
    try go_bits
    refine hKo _ _ fun fa5 fh5 => ?_
    clear hKo Ko fh4 fa4
    refine Kn.step fh5 rfl rfl .none (Kn.ex_bin fh5 (.tmp rfl) (.tmp rfl)) fun Ko hKo => ?_
    go_simp
    try go_bits
    refine hKo _ _ fun fa6 fh6 => ?_
    clear hKo Ko fh5 fa5
    refine wpList_nil ?_
    refine hK3 _ _ ?_
    clear hK3 K3
    replace fh6 := fh6.cut (.cons (t := 10) rfl (.cons (t := 4) rfl (.cons (t := 0) rfl (.cons (t := 1) rfl .nil))))
    clear qn qn2
    refine Kn.no fh6 (.tmp rfl) ?_
    refine wp_skip ?_
    refine hK2 _ _ ?_
    clear hK2 K2
    replace fh6 := fh6.cut (.cons (t := 4) rfl (.cons (t := 0) rfl (.cons (t := 1) rfl .nil)))
    refine wp_seq_k fun K4 hK4 => ?_
    refine wp_seq_k fun K5 hK5 => ?_
    refine wp_region_lit ?_
    refine Kn.pure fh6 rfl rfl .none (Kn.ex_move fh6 (.tmp rfl)) fun fa7 fh7 => ?_
    clear fh6 fa6
    refine Kn.step fh7 rfl rfl .none (Kn.ex_len fh7 (.tmp rfl)) fun Ko hKo => ?_
    go_simp
    try go_bits
    refine hKo _ _ fun fa8 fh8 => ?_
    clear hKo Ko fh7 fa7
    refine Kn.pure fh8 rfl rfl .none (Kn.ex_move fh8 .const) fun fa9 fh9 => ?_
    clear fh8 fa8
    refine wpList_nil ?_
    refine hK5 _ _ ?_
    clear hK5 K5
    replace fh9 := fh9.cut (.cons (t := 13) rfl (.cons (t := 12) rfl (.cons (t := 4) rfl (.cons (t := 0) rfl (.cons (t := 1) rfl .nil)))))
    refine wp_block ?_
    refine Kn.loop (fun m fr v => ∃ (k q : Nat), Kn.Kn 26 [(13, .int .i64 (k : Int)), (12, .int .i64 (xs.length : Int)), (0, .slice A xs.length ca), (1, .slice B ys.length cb)] fr ∧ k + m = xs.length ∧ Hid (∀ i, i < k → ed xs i = ed ys i) ∧ v = w.drewN q) xs.length ⟨0, 0, fh9.cut (.cons (t := 13) rfl (.cons (t := 12) rfl (.cons (t := 0) rfl (.cons (t := 1) rfl .nil)))), by omega, Lib.hid (fun i hi => absurd hi (by omega)), rfl⟩ ?_
    clear fh9 fa9
    intro m6 fa10 v hI Kl6 hKl6
    obtain ⟨k, q, fh10, hk, HP, rfl⟩ := hI
    by_cases hlt : k < xs.length
    · have hlt2 : k < ys.length := by rw [← HL.out]; exact hlt
      
      obtain ⟨ba, oa, rfl, -, ca1, ca2⟩ := HA.out k hlt
      obtain ⟨bb, ob, rfl, -, cb1, cb2⟩ := HB.out k hlt2
      obtain ⟨x1, hx1⟩ : ∃ x, (ed xs k).1 = x := ⟨_, rfl⟩
      obtain ⟨x2, hx2⟩ : ∃ x, (ed xs k).2 = x := ⟨_, rfl⟩
      obtain ⟨y1, hy1⟩ : ∃ x, (ed ys k).1 = x := ⟨_, rfl⟩
      obtain ⟨y2, hy2⟩ : ∃ x, (ed ys k).2 = x := ⟨_, rfl⟩
      rw [hx1] at ca1
      rw [hx2] at ca2
      rw [hy1] at cb1
      rw [hy2] at cb2
      have HX : Hid (ed xs k = (x1, x2)) := Lib.hid (by rw [← hx1, ← hx2])
      have HY : Hid (ed ys k = (y1, y2)) := Lib.hid (by rw [← hy1, ← hy2])
      clear hx1 hx2 hy1 hy2
      refine wp_seq_k fun K7 hK7 => ?_
      refine wp_region_lit ?_
      refine Kn.step fh10 rfl rfl .none (Kn.ex_bin fh10 (.tmp rfl) (.tmp rfl)) fun Ko hKo => ?_
      go_simp
      try go_bits
      refine hKo _ _ fun fa11 fh11 => ?_
      clear hKo Ko fh10 fa10
      refine wpList_nil ?_
      refine hK7 _ _ ?_
      clear hK7 K7
      refine wp_seq_k fun K8 hK8 => ?_
      refine Kn.yes fh11 (.tmp rfl) ?_
      refine wp_skip ?_
      refine hK8 _ _ ?_
      clear hK8 K8
      replace fh11 := fh11.cut (.cons (t := 13) rfl (.cons (t := 12) rfl (.cons (t := 0) rfl (.cons (t := 1) rfl .nil))))
      refine wp_seq_k fun K9 hK9 => ?_
      refine wp_block ?_
      refine wp_seq_k fun K10 hK10 => ?_
      refine wp_region_lit ?_
      refine Kn.pure fh11 rfl rfl .none (Kn.ex_move fh11 (.tmp rfl)) fun fa12 fh12 => ?_
      clear fh11 fa11
      refine Kn.pure fh12 rfl rfl .none (Kn.ex_assign fh12 (.tmp rfl)) fun fa13 fh13 => ?_
      clear fh12 fa12
      refine wpList_nil ?_
      refine hK10 _ _ ?_
      clear hK10 K10
      replace fh13 := fh13.cut (.cons (t := 5) rfl (.cons (t := 13) rfl (.cons (t := 12) rfl (.cons (t := 0) rfl (.cons (t := 1) rfl .nil)))))
      by_cases e1 : (x1, x2) = (y1, y2)
      · have q1 : (!decide ((x1, x2) = (y1, y2))) = false := by simp only [e1, decide_true, Bool.not_true]
        have HE : Hid (ed xs k = ed ys k) := Lib.hid (by rw [HX.out, HY.out, e1])
        clear e1
        refine wp_seq_k fun K11 hK11 => ?_
        refine Kn.still (by kernel_rfl) (by kernel_rfl) ?_
        refine Kn.spure fh13 rfl rfl .none (Kn.ex_move fh13 (.tmp rfl)) fun fa14 fh14 => ?_
        clear fh13 fa13
        refine Kn.spure fh14 rfl rfl .none (Kn.ex_move fh14 (.tmp rfl)) fun fa15 fh15 => ?_
        clear fh14 fa14
        refine Kn.sstep fh15 rfl rfl .none (Kn.ex_indexAddr fh15 (.tmp rfl) (.tmp rfl)) fun Ko hKo => ?_
        go_simp
        try go_bits
        refine hKo _ fun fa16 fh16 => ?_
        clear hKo Ko fh15 fa15
        refine Kn.sstep fh16 rfl rfl .none (Kn.ex_load fh16 (.tmp rfl)) fun Ko hKo => ?_
        go_simp
        try go_bits
        refine hKo _ fun fa17 fh17 => ?_
        clear hKo Ko fh16 fa16
        refine Kn.spure fh17 rfl rfl .none (Kn.ex_move fh17 (.tmp rfl)) fun fa18 fh18 => ?_
        clear fh17 fa17
        refine Kn.spure fh18 rfl rfl .none (Kn.ex_move fh18 (.tmp rfl)) fun fa19 fh19 => ?_
        clear fh18 fa18
        refine Kn.sstep fh19 rfl rfl .none (Kn.ex_indexAddr fh19 (.tmp rfl) (.tmp rfl)) fun Ko hKo => ?_
        go_simp
        try go_bits
        refine hKo _ fun fa20 fh20 => ?_
        clear hKo Ko fh19 fa19
        refine Kn.sstep fh20 rfl rfl .none (Kn.ex_load fh20 (.tmp rfl)) fun Ko hKo => ?_
        go_simp
        try go_bits
        refine hKo _ fun fa21 fh21 => ?_
        clear hKo Ko fh20 fa20
        refine Kn.sstep fh21 rfl rfl .none (Kn.ex_bin fh21 (.tmp rfl) (.tmp rfl)) fun Ko hKo => ?_
        rw [neqE, q1]
        refine hKo _ fun fa22 fh22 => ?_
        clear hKo Ko fh21 fa21
        refine wpStill_nil ?_
        refine hK11 _ _ ?_
        clear hK11 K11
        replace fh22 := fh22.cut (.cons (t := 24) rfl (.cons (t := 13) rfl (.cons (t := 12) rfl (.cons (t := 0) rfl (.cons (t := 1) rfl .nil)))))
        refine Kn.no fh22 (.tmp rfl) ?_
        refine wp_skip ?_
        refine Kn.block_normal ?_
        refine hK9 _ _ ?_
        clear hK9 K9
        replace fh22 := fh22.cut (.cons (t := 13) rfl (.cons (t := 12) rfl (.cons (t := 0) rfl (.cons (t := 1) rfl .nil))))
        refine wp_region_lit ?_
        refine Kn.step fh22 rfl rfl .none (Kn.ex_bin fh22 (.tmp rfl) .const) fun Ko hKo => ?_
        go_simp
        try go_bits
        refine hKo _ _ fun fa23 fh23 => ?_
        clear hKo Ko fh22 fa22
        refine Kn.pure fh23 rfl rfl .none (Kn.ex_move fh23 (.tmp rfl)) fun fa24 fh24 => ?_
        clear fh23 fa23
        refine wpList_nil ?_
        replace fh24 := fh24.cut (.cons (t := 13) rfl (.cons (t := 12) rfl (.cons (t := 0) rfl (.cons (t := 1) rfl .nil))))
        exact hKl6 (m6 - 1) _ _ (by omega) ⟨k + 1, q + 1, fh24.cut (.turn (t := 13) rfl (by go_num) (.cons (t := 12) rfl (.cons (t := 0) rfl (.cons (t := 1) rfl .nil)))), by omega, Lib.hid (fun i hi => by rcases Nat.lt_or_ge i k with h | h; exact HP.out i h; rw [show i = k by omega]; exact HE.out), rfl⟩
      · have q1 : (!decide ((x1, x2) = (y1, y2))) = true := by simp only [e1, decide_false, Bool.not_false]
        have HE : Hid (xs ≠ ys) := Lib.hid (fun h => e1 (by have := HX.out; rw [h, HY.out] at this; exact this.symm))
        clear e1
        refine wp_seq_k fun K11 hK11 => ?_
        refine Kn.still (by kernel_rfl) (by kernel_rfl) ?_
        refine Kn.spure fh13 rfl rfl .none (Kn.ex_move fh13 (.tmp rfl)) fun fa14 fh14 => ?_
        clear fh13 fa13
        refine Kn.spure fh14 rfl rfl .none (Kn.ex_move fh14 (.tmp rfl)) fun fa15 fh15 => ?_
        clear fh14 fa14
        refine Kn.sstep fh15 rfl rfl .none (Kn.ex_indexAddr fh15 (.tmp rfl) (.tmp rfl)) fun Ko hKo => ?_
        go_simp
        try go_bits
        refine hKo _ fun fa16 fh16 => ?_
        clear hKo Ko fh15 fa15
        refine Kn.sstep fh16 rfl rfl .none (Kn.ex_load fh16 (.tmp rfl)) fun Ko hKo => ?_
        go_simp
        try go_bits
        refine hKo _ fun fa17 fh17 => ?_
        clear hKo Ko fh16 fa16
        refine Kn.spure fh17 rfl rfl .none (Kn.ex_move fh17 (.tmp rfl)) fun fa18 fh18 => ?_
        clear fh17 fa17
        refine Kn.spure fh18 rfl rfl .none (Kn.ex_move fh18 (.tmp rfl)) fun fa19 fh19 => ?_
        clear fh18 fa18
        refine Kn.sstep fh19 rfl rfl .none (Kn.ex_indexAddr fh19 (.tmp rfl) (.tmp rfl)) fun Ko hKo => ?_
        go_simp
        try go_bits
        refine hKo _ fun fa20 fh20 => ?_
        clear hKo Ko fh19 fa19
        refine Kn.sstep fh20 rfl rfl .none (Kn.ex_load fh20 (.tmp rfl)) fun Ko hKo => ?_
        go_simp
        try go_bits
        refine hKo _ fun fa21 fh21 => ?_
        clear hKo Ko fh20 fa20
        refine Kn.sstep fh21 rfl rfl .none (Kn.ex_bin fh21 (.tmp rfl) (.tmp rfl)) fun Ko hKo => ?_
        rw [neqE, q1]
        refine hKo _ fun fa22 fh22 => ?_
        clear hKo Ko fh21 fa21
        refine wpStill_nil ?_
        refine hK11 _ _ ?_
        clear hK11 K11
        replace fh22 := fh22.cut (.cons (t := 24) rfl (.cons (t := 13) rfl (.cons (t := 12) rfl (.cons (t := 0) rfl (.cons (t := 1) rfl .nil)))))
        refine Kn.yes fh22 (.tmp rfl) ?_
        replace fh22 := fh22.cut (.cons (t := 13) rfl (.cons (t := 12) rfl (.cons (t := 0) rfl (.cons (t := 1) rfl .nil))))
        refine wp_seq_k fun K12 hK12 => ?_
        refine wp_region_lit ?_
        refine Kn.pure fh22 rfl rfl .none (Kn.ex_assign fh22 .const) fun fa23 fh23 => ?_
        clear fh22 fa22
        refine wpList_nil ?_
        refine hK12 _ _ ?_
        clear hK12 K12
        refine wp_ret ?_
        refine Kn.block_ret ?_
        refine Kn.then_ret ?_
        refine Kn.then_ret ?_
        refine Kn.block_ret ?_
        refine Kn.then_ret ?_
        exact Kn.ret1 fh23 rfl rfl ⟨by rw [decide_eq_false HE.out], q + 1, rfl⟩
    · obtain rfl : k = xs.length := by omega
      have HE : Hid (xs = ys) := Lib.hid (eds_eq HL.out HP.out)
      refine wp_seq_k fun K7 hK7 => ?_
      refine wp_region_lit ?_
      refine Kn.step fh10 rfl rfl .none (Kn.ex_bin fh10 (.tmp rfl) (.tmp rfl)) fun Ko hKo => ?_
      go_simp
      try go_bits
      refine hKo _ _ fun fa11 fh11 => ?_
      clear hKo Ko fh10 fa10
      refine wpList_nil ?_
      refine hK7 _ _ ?_
      clear hK7 K7
      refine wp_seq_k fun K8 hK8 => ?_
      refine Kn.no fh11 (.tmp rfl) ?_
      replace fh11 := fh11.cut (.cons (t := 13) rfl (.cons (t := 12) rfl (.cons (t := 0) rfl (.cons (t := 1) rfl .nil))))
      refine wp_exit ?_
      refine Kn.then_exit ?_
      clear hK8 K8
      refine Kn.then_exit ?_
      clear hKl6 Kl6
      refine Kn.block_exit ?_
      refine hK4 _ _ ?_
      clear hK4 K4
      replace fh11 := fh11.cut .nil
      refine wp_seq_k fun K9 hK9 => ?_
      refine wp_region_lit ?_
      refine Kn.pure fh11 rfl rfl .none (Kn.ex_assign fh11 .const) fun fa12 fh12 => ?_
      clear fh11 fa11
      refine wpList_nil ?_
      refine hK9 _ _ ?_
      clear hK9 K9
      refine wp_ret ?_
      exact Kn.ret1 fh12 rfl rfl ⟨by rw [decide_eq_true HE.out], _, rfl⟩
  · have qn : ((xs.length : Int) != (ys.length : Int)) = true := by simp; omega
    have qn2 : (xs.length != ys.length) = true := by simp [hlen]
    have HE : Hid (xs ≠ ys) := Lib.hid (fun h => hlen (by rw [h]))
    clear hlen
    refine wp_seq_k fun K2 hK2 => ?_
    refine wp_seq_k fun K3 hK3 => ?_
    refine wp_region_lit ?_
    refine Kn.pure fh1 rfl rfl .none (Kn.ex_move fh1 (.tmp rfl)) fun fa2 fh2 => ?_
    clear fh1 fa1
    refine Kn.step fh2 rfl rfl .none (Kn.ex_len fh2 (.tmp rfl)) fun Ko hKo => ?_
    go_simp
    try go_bits
    refine hKo _ _ fun fa3 fh3 => ?_
    clear hKo Ko fh2 fa2
    refine Kn.pure fh3 rfl rfl .none (Kn.ex_move fh3 (.tmp rfl)) fun fa4 fh4 => ?_
    clear fh3 fa3
    refine Kn.step fh4 rfl rfl .none (Kn.ex_len fh4 (.tmp rfl)) fun Ko hKo => ?_
    go_simp
    try go_bits
    refine hKo _ _ fun fa5 fh5 => ?_
    clear hKo Ko fh4 fa4
    refine Kn.step fh5 rfl rfl .none (Kn.ex_bin fh5 (.tmp rfl) (.tmp rfl)) fun Ko hKo => ?_
    go_simp
    try go_bits
    refine hKo _ _ fun fa6 fh6 => ?_
    clear hKo Ko fh5 fa5
    refine wpList_nil ?_
    refine hK3 _ _ ?_
    clear hK3 K3
    replace fh6 := fh6.cut (.cons (t := 10) rfl (.cons (t := 4) rfl (.cons (t := 0) rfl (.cons (t := 1) rfl .nil))))
    refine Kn.yes fh6 (.tmp rfl) ?_
    replace fh6 := fh6.cut (.cons (t := 4) rfl (.cons (t := 0) rfl (.cons (t := 1) rfl .nil)))
    refine wp_seq_k fun K4 hK4 => ?_
    refine wp_region_lit ?_
    refine Kn.pure fh6 rfl rfl .none (Kn.ex_assign fh6 .const) fun fa7 fh7 => ?_
    clear fh6 fa6
    refine wpList_nil ?_
    refine hK4 _ _ ?_
    clear hK4 K4
    refine wp_ret ?_
    refine Kn.then_ret ?_
    exact Kn.ret1 fh7 rfl rfl ⟨by rw [decide_eq_false HE.out], 0, rfl⟩

set_option maxRecDepth 100000 in
set_option maxHeartbeats 2000000 in
theorem edgesSame_any (A B : Option Addr) (ca cb : Nat) (xs ys : List (Int × Int)) (w : World) (hx : xs.length ≤ maxLen) (hy : ys.length ≤ maxLen) (hA : EIn w A xs) (hB : EIn w B ys) :
    Calls Tryd.prog 12 #[.slice A xs.length ca, .slice B ys.length cb] w fun e w' => e = .returned (.bool (decide (xs = ys))) ∧ ∃ q, w' = w.drewN q := by
  refine Kn.calls Tryd.func12 rfl Tryd.ntmps12 rfl (.cons (t := 0) rfl (.cons (t := 1) rfl .nil)) fun fa0 fh0 => ?_
  refine wp_seq_k fun K1 hK1 => ?_
  refine wp_region_lit ?_
  refine Kn.pure fh0 rfl rfl .none (Kn.ex_assign fh0 .const) fun fa1 fh1 => ?_
  clear fh0 fa0
  refine wpList_nil ?_
  refine hK1 _ _ ?_
  clear hK1 K1
  refine wp_seq_k fun K2 hK2 => ?_
  refine wp_region_lit ?_
  refine Kn.pure fh1 rfl rfl .none (Kn.ex_move fh1 (.tmp rfl)) fun fa2 fh2 => ?_
  clear fh1 fa1
  refine Kn.pure fh2 rfl rfl .none (Kn.ex_move fh2 (.tmp rfl)) fun fa3 fh3 => ?_
  clear fh2 fa2
  refine Kn.call fh3 rfl rfl .none (Kn.ex_call fh3 (.cons (.tmp rfl) (.cons (.tmp rfl) .nil))) Tryd.call21 (equal_any A B ca cb xs ys w hx hy hA hB) fun e w1 hp => ?_
  obtain ⟨rfl, q, rfl⟩ := hp
  refine ⟨_, rfl, fun fa4 fh4 => ?_⟩
  clear fh3 fa3
  refine Kn.pure fh4 rfl rfl .none (Kn.ex_assign fh4 (.tmp rfl)) fun fa5 fh5 => ?_
  clear fh4 fa4
  refine wpList_nil ?_
  refine hK2 _ _ ?_
  clear hK2 K2
  replace fh5 := fh5.cut (.cons (t := 4) rfl .nil)
  refine wp_ret ?_
  exact Kn.ret1 fh5 rfl rfl ⟨rfl, q, rfl⟩

set_option maxRecDepth 100000 in
set_option maxHeartbeats 2000000 in
theorem isNode_a (n v : Int) (w : World) (h : ¬ 0 ≤ v) :
    Calls Tryd.prog 19 #[.int .i64 n, .int .i64 v] w fun e w' => e = .returned (.bool false) ∧ w = w' := by
  refine Kn.calls Tryd.func19 rfl Tryd.ntmps19 rfl (.cons (t := 0) rfl (.cons (t := 1) rfl .nil)) fun fa0 fh0 => ?_
  refine wp_seq_k fun K1 hK1 => ?_
  refine wp_region_lit ?_
  refine Kn.pure fh0 rfl rfl .none (Kn.ex_assign fh0 .const) fun fa1 fh1 => ?_
  clear fh0 fa0
  refine wpList_nil ?_
  refine hK1 _ _ ?_
  clear hK1 K1
  refine wp_seq_k fun K2 hK2 => ?_
  refine wp_region_lit ?_
  refine Kn.pure fh1 rfl rfl .none (Kn.ex_move fh1 (.tmp rfl)) fun fa2 fh2 => ?_
  clear fh1 fa1
  refine Kn.step fh2 rfl rfl .none (Kn.ex_bin fh2 (.tmp rfl) .const) fun Ko hKo => ?_
  go_simp
  try go_bits
  refine hKo _ _ fun fa3 fh3 => ?_
  clear hKo Ko fh2 fa2
  refine Kn.pure fh3 rfl rfl .none (Kn.ex_move fh3 (.tmp rfl)) fun fa4 fh4 => ?_
  clear fh3 fa3
  refine Kn.skip fh4 rfl rfl (.some rfl rfl rfl) fun fa5 fh5 => ?_
  clear fh4 fa4
  refine Kn.skip fh5 rfl rfl (.some rfl rfl rfl) fun fa6 fh6 => ?_
  clear fh5 fa5
  refine Kn.skip fh6 rfl rfl (.some rfl rfl rfl) fun fa7 fh7 => ?_
  clear fh6 fa6
  refine Kn.pure fh7 rfl rfl .none (Kn.ex_pick fh7 (.tmp rfl) .const) fun fa8 fh8 => ?_
  clear fh7 fa7
  refine Kn.pure fh8 rfl rfl .none (Kn.ex_assign fh8 (.tmp rfl)) fun fa9 fh9 => ?_
  clear fh8 fa8
  refine wpList_nil ?_
  refine hK2 _ _ ?_
  clear hK2 K2
  replace fh9 := fh9.cut (.cons (t := 4) rfl .nil)
  refine wp_ret ?_
  exact Kn.ret1 fh9 rfl rfl ⟨rfl, rfl⟩

set_option maxRecDepth 100000 in
set_option maxHeartbeats 2000000 in
theorem isNode_b (n v : Int) (w : World) (h : 0 ≤ v) (h2 : ¬ v < n) :
    Calls Tryd.prog 19 #[.int .i64 n, .int .i64 v] w fun e w' => e = .returned (.bool false) ∧ w = w' := by
  refine Kn.calls Tryd.func19 rfl Tryd.ntmps19 rfl (.cons (t := 0) rfl (.cons (t := 1) rfl .nil)) fun fa0 fh0 => ?_
  refine wp_seq_k fun K1 hK1 => ?_
  refine wp_region_lit ?_
  refine Kn.pure fh0 rfl rfl .none (Kn.ex_assign fh0 .const) fun fa1 fh1 => ?_
  clear fh0 fa0
  refine wpList_nil ?_
  refine hK1 _ _ ?_
  clear hK1 K1
  refine wp_seq_k fun K2 hK2 => ?_
  refine wp_region_lit ?_
  refine Kn.pure fh1 rfl rfl .none (Kn.ex_move fh1 (.tmp rfl)) fun fa2 fh2 => ?_
  clear fh1 fa1
  refine Kn.step fh2 rfl rfl .none (Kn.ex_bin fh2 (.tmp rfl) .const) fun Ko hKo => ?_
  go_simp
  try go_bits
  refine hKo _ _ fun fa3 fh3 => ?_
  clear hKo Ko fh2 fa2
  refine Kn.pure fh3 rfl rfl .none (Kn.ex_move fh3 (.tmp rfl)) fun fa4 fh4 => ?_
  clear fh3 fa3
  refine Kn.pure fh4 rfl rfl (.some rfl rfl rfl) (Kn.ex_move fh4 (.tmp rfl)) fun fa5 fh5 => ?_
  clear fh4 fa4
  refine Kn.pure fh5 rfl rfl (.some rfl rfl rfl) (Kn.ex_move fh5 (.tmp rfl)) fun fa6 fh6 => ?_
  clear fh5 fa5
  refine Kn.step fh6 rfl rfl (.some rfl rfl rfl) (Kn.ex_bin fh6 (.tmp rfl) (.tmp rfl)) fun Ko hKo => ?_
  go_simp
  try go_bits
  refine hKo _ _ fun fa7 fh7 => ?_
  clear hKo Ko fh6 fa6
  refine Kn.pure fh7 rfl rfl .none (Kn.ex_pick fh7 (.tmp rfl) (.tmp rfl)) fun fa8 fh8 => ?_
  clear fh7 fa7
  refine Kn.pure fh8 rfl rfl .none (Kn.ex_assign fh8 (.tmp rfl)) fun fa9 fh9 => ?_
  clear fh8 fa8
  refine wpList_nil ?_
  refine hK2 _ _ ?_
  clear hK2 K2
  replace fh9 := fh9.cut (.cons (t := 4) rfl .nil)
  refine wp_ret ?_
  exact Kn.ret1 fh9 rfl rfl ⟨rfl, rfl⟩

set_option maxRecDepth 100000 in
set_option maxHeartbeats 2000000 in
theorem isNode_c (n v : Int) (w : World) (h : 0 ≤ v) (h2 : v < n) :
    Calls Tryd.prog 19 #[.int .i64 n, .int .i64 v] w fun e w' => e = .returned (.bool true) ∧ w = w' := by
  refine Kn.calls Tryd.func19 rfl Tryd.ntmps19 rfl (.cons (t := 0) rfl (.cons (t := 1) rfl .nil)) fun fa0 fh0 => ?_
  refine wp_seq_k fun K1 hK1 => ?_
  refine wp_region_lit ?_
  refine Kn.pure fh0 rfl rfl .none (Kn.ex_assign fh0 .const) fun fa1 fh1 => ?_
  clear fh0 fa0
  refine wpList_nil ?_
  refine hK1 _ _ ?_
  clear hK1 K1
  refine wp_seq_k fun K2 hK2 => ?_
  refine wp_region_lit ?_
  refine Kn.pure fh1 rfl rfl .none (Kn.ex_move fh1 (.tmp rfl)) fun fa2 fh2 => ?_
  clear fh1 fa1
  refine Kn.step fh2 rfl rfl .none (Kn.ex_bin fh2 (.tmp rfl) .const) fun Ko hKo => ?_
  go_simp
  try go_bits
  refine hKo _ _ fun fa3 fh3 => ?_
  clear hKo Ko fh2 fa2
  refine Kn.pure fh3 rfl rfl .none (Kn.ex_move fh3 (.tmp rfl)) fun fa4 fh4 => ?_
  clear fh3 fa3
  refine Kn.pure fh4 rfl rfl (.some rfl rfl rfl) (Kn.ex_move fh4 (.tmp rfl)) fun fa5 fh5 => ?_
  clear fh4 fa4
  refine Kn.pure fh5 rfl rfl (.some rfl rfl rfl) (Kn.ex_move fh5 (.tmp rfl)) fun fa6 fh6 => ?_
  clear fh5 fa5
  refine Kn.step fh6 rfl rfl (.some rfl rfl rfl) (Kn.ex_bin fh6 (.tmp rfl) (.tmp rfl)) fun Ko hKo => ?_
  go_simp
  try go_bits
  refine hKo _ _ fun fa7 fh7 => ?_
  clear hKo Ko fh6 fa6
  refine Kn.pure fh7 rfl rfl .none (Kn.ex_pick fh7 (.tmp rfl) (.tmp rfl)) fun fa8 fh8 => ?_
  clear fh7 fa7
  refine Kn.pure fh8 rfl rfl .none (Kn.ex_assign fh8 (.tmp rfl)) fun fa9 fh9 => ?_
  clear fh8 fa8
  refine wpList_nil ?_
  refine hK2 _ _ ?_
  clear hK2 K2
  replace fh9 := fh9.cut (.cons (t := 4) rfl .nil)
  refine wp_ret ?_
  exact Kn.ret1 fh9 rfl rfl ⟨rfl, rfl⟩

theorem isNode_any (n v : Int) (w : World) : Calls Tryd.prog 19 #[.int .i64 n, .int .i64 v] w fun e w' => e = .returned (.bool (decide (0 ≤ v) && decide (v < n))) ∧ w = w' := by
  by_cases h : 0 ≤ v
  · by_cases h2 : v < n
    · rw [decide_eq_true h, decide_eq_true h2]; exact isNode_c n v w h h2
    · rw [decide_eq_true h, decide_eq_false h2]; exact isNode_b n v w h h2
  · rw [decide_eq_false h]; exact isNode_a n v w h
/-- An error at a place. -/
def faultV (p : Int) (c : Int) : Value := .iface 42 (.agg #[.int .i64 p, .iface 38 (.int .i64 c)])

set_option maxRecDepth 100000 in
set_option maxHeartbeats 2000000 in
theorem fault_any (p c : Int) (w : World) : Calls Tryd.prog 18 #[.int .i64 p, .int .i64 c] w fun e w' => e = .returned (faultV p c) ∧ w = w' := by
  refine Kn.calls Tryd.func18 rfl Tryd.ntmps18 rfl (.cons (t := 0) rfl (.cons (t := 1) rfl .nil)) fun fa0 fh0 => ?_
  refine wp_seq_k fun K1 hK1 => ?_
  refine wp_region_lit ?_
  refine Kn.pure fh0 rfl rfl .none (Kn.ex_assign fh0 .const) fun fa1 fh1 => ?_
  clear fh0 fa0
  refine wpList_nil ?_
  refine hK1 _ _ ?_
  clear hK1 K1
  refine wp_seq_k fun K2 hK2 => ?_
  refine wp_region_lit ?_
  refine Kn.pure fh1 rfl rfl .none (Kn.ex_move fh1 (.tmp rfl)) fun fa2 fh2 => ?_
  clear fh1 fa1
  refine Kn.pure fh2 rfl rfl .none (Kn.ex_move fh2 (.tmp rfl)) fun fa3 fh3 => ?_
  clear fh2 fa2
  refine Kn.step fh3 rfl rfl .none (Kn.ex_makeInterface fh3 (.tmp rfl)) fun Ko hKo => ?_
  go_simp
  try go_bits
  refine hKo _ _ fun fa4 fh4 => ?_
  clear hKo Ko fh3 fa3
  refine Kn.step fh4 rfl rfl .none (Kn.ex_build fh4 (.cons (.tmp rfl) (.cons (.tmp rfl) .nil))) fun Ko hKo => ?_
  go_simp
  try go_bits
  refine hKo _ _ fun fa5 fh5 => ?_
  clear hKo Ko fh4 fa4
  refine Kn.step fh5 rfl rfl .none (Kn.ex_makeInterface fh5 (.tmp rfl)) fun Ko hKo => ?_
  go_simp
  try go_bits
  refine hKo _ _ fun fa6 fh6 => ?_
  clear hKo Ko fh5 fa5
  refine Kn.pure fh6 rfl rfl .none (Kn.ex_assign fh6 (.tmp rfl)) fun fa7 fh7 => ?_
  clear fh6 fa6
  refine wpList_nil ?_
  refine hK2 _ _ ?_
  clear hK2 K2
  replace fh7 := fh7.cut (.cons (t := 4) rfl .nil)
  refine wp_ret ?_
  exact Kn.ret1 fh7 rfl rfl ⟨rfl, rfl⟩

/-- How many of the first k edges go from v. -/
def degU (xs : List (Int × Int)) (v : Int) (k : Nat) : Nat := (xs.take k).countP (fun e => e.1 == v)
theorem degU_le (xs : List (Int × Int)) (v : Int) (k : Nat) : degU xs v k ≤ xs.length := Nat.le_trans (List.countP_le_length ..) (by simp; omega)
theorem degU_succ (xs : List (Int × Int)) (v : Int) (k : Nat) (h : k < xs.length) : degU xs v (k + 1) = degU xs v k + (if (ed xs k).1 = v then 1 else 0) := by
  unfold degU
  rw [take_ed xs k h, List.countP_append]
  by_cases e : (ed xs k).1 = v <;> simp [e]

/-- Edges, turned. -/
def turn (xs : List (Int × Int)) : List (Int × Int) := xs.map fun e => (e.2, e.1)
theorem turn_len (xs : List (Int × Int)) : (turn xs).length = xs.length := by simp [turn]
theorem turn_ed (xs : List (Int × Int)) (i : Nat) (h : i < xs.length) : ed (turn xs) i = ((ed xs i).2, (ed xs i).1) := by
  rw [ed_at _ _ (by rw [turn_len]; exact h), ed_at _ _ h]; simp [turn]
theorem turn_turn (xs : List (Int × Int)) : turn (turn xs) = xs := by simp [turn, Function.comp_def]

end Go.Proofs.YtnmpcendimdoeaaDoor.Edg
