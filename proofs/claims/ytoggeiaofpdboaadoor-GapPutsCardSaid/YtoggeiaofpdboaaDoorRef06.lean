/- The document's answers of layer 6 (gap): Back, Count, Skip, Get, May (written by gen_ref06.py). -/
import Derived.Test.YtoggeiaofpdboaaDoorGapMath
import Derived.Test.YtoggeiaofpdboaaDoorIntKit
namespace Go.Proofs.YtoggeiaofpdboaaDoor.Gap
open Go Go.RowKit Go.Lib Oct


set_option maxRecDepth 100000 in
set_option maxHeartbeats 2000000 in
theorem back_odd (x : Int) (w : World) (h0 : 0 ≤ x) (h1 : x ≤ 72057594037927935) (h : x % 2 = 1) :
    Calls Tryd.prog 32 #[.int .i64 x] w fun e w' => e = .returned (.int .i64 (-((x + 1) / 2))) ∧ w = w' := by
  refine Kn.calls Tryd.func32 rfl Tryd.ntmps32 rfl (.cons (t := 0) rfl .nil) fun fa0 fh0 => ?_
  refine wp_seq_k fun K1 hK1 => ?_
  refine wp_region_lit ?_
  refine Kn.pure fh0 rfl rfl .none (Kn.ex_assign fh0 .const) fun fa1 fh1 => ?_
  clear fh0 fa0
  refine wpList_nil ?_
  refine hK1 _ _ ?_
  clear hK1 K1
  have r1 : x.tmod 2 = x % 2 := Int.tmod_eq_emod_of_nonneg h0
  have r2 : x.tmod 2 = 1 := by rw [r1, h]
  refine wp_seq_k fun K2 hK2 => ?_
  refine wp_seq_k fun K3 hK3 => ?_
  refine wp_region_lit ?_
  refine Kn.pure fh1 rfl rfl .none (Kn.ex_move fh1 (.tmp rfl)) fun fa2 fh2 => ?_
  clear fh1 fa1
  refine Kn.step fh2 rfl rfl .none (Kn.ex_bin fh2 (.tmp rfl) .const) fun Ko hKo => ?_
  go_simp
  try go_bits
  try rw [r2]
  try go_simp
  try go_bits
  refine hKo _ _ fun fa3 fh3 => ?_
  clear hKo Ko fh2 fa2
  refine Kn.step fh3 rfl rfl .none (Kn.ex_bin fh3 (.tmp rfl) .const) fun Ko hKo => ?_
  go_simp
  try go_bits
  refine hKo _ _ fun fa4 fh4 => ?_
  clear hKo Ko fh3 fa3
  refine wpList_nil ?_
  refine hK3 _ _ ?_
  clear hK3 K3
  replace fh4 := fh4.cut (.cons (t := 5) rfl (.cons (t := 2) rfl (.cons (t := 0) rfl .nil)))
  refine Kn.yes fh4 (.tmp rfl) ?_
  replace fh4 := fh4.cut (.cons (t := 2) rfl (.cons (t := 0) rfl .nil))
  have r3 : (x + 1).tdiv 2 = (x + 1) / 2 := Int.tdiv_eq_ediv_of_nonneg (by omega)
  obtain ⟨y, hy⟩ : ∃ y, (x + 1) / 2 = y := ⟨_, rfl⟩
  rw [hy] at r3
  rw [hy]
  have hyb : 0 ≤ y ∧ y ≤ 72057594037927936 := by omega
  obtain ⟨z, hz⟩ : ∃ z, x + 1 = z := ⟨_, rfl⟩
  rw [hz] at r3
  have hzb : z ≤ 72057594037927936 := by omega
  clear r1 r2 hy
  refine wp_seq_k fun K4 hK4 => ?_
  refine wp_region_lit ?_
  refine Kn.pure fh4 rfl rfl .none (Kn.ex_move fh4 (.tmp rfl)) fun fa5 fh5 => ?_
  clear fh4 fa4
  refine Kn.step fh5 rfl rfl .none (Kn.ex_bin fh5 (.tmp rfl) .const) fun Ko hKo => ?_
  go_simp
  try go_bits
  try rw [hz]
  try go_simp
  try go_bits
  refine hKo _ _ fun fa6 fh6 => ?_
  clear hKo Ko fh5 fa5
  refine Kn.step fh6 rfl rfl .none (Kn.ex_bin fh6 (.tmp rfl) .const) fun Ko hKo => ?_
  go_simp
  try go_bits
  try rw [r3]
  try go_simp
  try go_bits
  refine hKo _ _ fun fa7 fh7 => ?_
  clear hKo Ko fh6 fa6
  refine Kn.step fh7 rfl rfl .none (Kn.ex_bin fh7 .const (.tmp rfl)) fun Ko hKo => ?_
  go_simp
  try go_bits
  refine hKo _ _ fun fa8 fh8 => ?_
  clear hKo Ko fh7 fa7
  refine Kn.pure fh8 rfl rfl .none (Kn.ex_assign fh8 (.tmp rfl)) fun fa9 fh9 => ?_
  clear fh8 fa8
  refine wpList_nil ?_
  refine hK4 _ _ ?_
  clear hK4 K4
  replace fh9 := fh9.cut (.cons (t := 2) rfl (.cons (t := 0) rfl .nil))
  refine wp_ret ?_
  refine Kn.then_ret ?_
  exact Kn.ret1 fh9 rfl rfl ⟨by simp, rfl⟩

set_option maxRecDepth 100000 in
set_option maxHeartbeats 2000000 in
theorem back_even (x : Int) (w : World) (h0 : 0 ≤ x) (h1 : x ≤ 72057594037927935) (h : x % 2 = 0) :
    Calls Tryd.prog 32 #[.int .i64 x] w fun e w' => e = .returned (.int .i64 (x / 2)) ∧ w = w' := by
  refine Kn.calls Tryd.func32 rfl Tryd.ntmps32 rfl (.cons (t := 0) rfl .nil) fun fa0 fh0 => ?_
  refine wp_seq_k fun K1 hK1 => ?_
  refine wp_region_lit ?_
  refine Kn.pure fh0 rfl rfl .none (Kn.ex_assign fh0 .const) fun fa1 fh1 => ?_
  clear fh0 fa0
  refine wpList_nil ?_
  refine hK1 _ _ ?_
  clear hK1 K1
  have r1 : x.tmod 2 = x % 2 := Int.tmod_eq_emod_of_nonneg h0
  have r2 : x.tmod 2 = 0 := by rw [r1, h]
  refine wp_seq_k fun K2 hK2 => ?_
  refine wp_seq_k fun K3 hK3 => ?_
  refine wp_region_lit ?_
  refine Kn.pure fh1 rfl rfl .none (Kn.ex_move fh1 (.tmp rfl)) fun fa2 fh2 => ?_
  clear fh1 fa1
  refine Kn.step fh2 rfl rfl .none (Kn.ex_bin fh2 (.tmp rfl) .const) fun Ko hKo => ?_
  go_simp
  try go_bits
  try rw [r2]
  try go_simp
  try go_bits
  refine hKo _ _ fun fa3 fh3 => ?_
  clear hKo Ko fh2 fa2
  refine Kn.step fh3 rfl rfl .none (Kn.ex_bin fh3 (.tmp rfl) .const) fun Ko hKo => ?_
  go_simp
  try go_bits
  refine hKo _ _ fun fa4 fh4 => ?_
  clear hKo Ko fh3 fa3
  refine wpList_nil ?_
  refine hK3 _ _ ?_
  clear hK3 K3
  replace fh4 := fh4.cut (.cons (t := 5) rfl (.cons (t := 2) rfl (.cons (t := 0) rfl .nil)))
  refine Kn.no fh4 (.tmp rfl) ?_
  refine wp_skip ?_
  refine hK2 _ _ ?_
  clear hK2 K2
  replace fh4 := fh4.cut (.cons (t := 2) rfl (.cons (t := 0) rfl .nil))
  have r3 : x.tdiv 2 = x / 2 := Int.tdiv_eq_ediv_of_nonneg h0
  obtain ⟨y, hy⟩ : ∃ y, x / 2 = y := ⟨_, rfl⟩
  rw [hy] at r3
  rw [hy]
  have hyb : 0 ≤ y ∧ y ≤ 72057594037927936 := by omega
  clear r1 r2 hy
  refine wp_seq_k fun K4 hK4 => ?_
  refine wp_region_lit ?_
  refine Kn.pure fh4 rfl rfl .none (Kn.ex_move fh4 (.tmp rfl)) fun fa5 fh5 => ?_
  clear fh4 fa4
  refine Kn.step fh5 rfl rfl .none (Kn.ex_bin fh5 (.tmp rfl) .const) fun Ko hKo => ?_
  go_simp
  try go_bits
  try rw [r3]
  try go_simp
  try go_bits
  refine hKo _ _ fun fa6 fh6 => ?_
  clear hKo Ko fh5 fa5
  refine Kn.pure fh6 rfl rfl .none (Kn.ex_assign fh6 (.tmp rfl)) fun fa7 fh7 => ?_
  clear fh6 fa6
  refine wpList_nil ?_
  refine hK4 _ _ ?_
  clear hK4 K4
  replace fh7 := fh7.cut (.cons (t := 2) rfl .nil)
  refine wp_ret ?_
  exact Kn.ret1 fh7 rfl rfl ⟨by simp, rfl⟩

theorem refBack_any (x : Int) (w : World) (h0 : 0 ≤ x) (h1 : x ≤ 72057594037927935) :
    Calls Tryd.prog 32 #[.int .i64 x] w fun e w' => e = .returned (.int .i64 (bkI x)) ∧ w = w' := by
  unfold bkI
  split
  · rename_i h; exact back_odd x w h0 h1 h
  · rename_i h; exact back_even x w h0 h1 (by omega)

set_option maxRecDepth 100000 in
set_option maxHeartbeats 2000000 in
theorem count_g (s : ByteArray) (p N : Int) (w : World) (hs : s.size ≤ 1000000000) :
    Calls Tryd.prog 17 #[.string s, .int .i64 p, .int .i64 N] w fun e w' => e = .returned (.agg (gv (cnt s p N))) ∧ Below w.heap.size w w' := by
  refine Kn.calls Tryd.func17 rfl Tryd.ntmps17 rfl (.cons (t := 0) rfl (.cons (t := 1) rfl (.cons (t := 2) rfl .nil))) fun fa0 fh0 => ?_
  refine wp_seq_k fun K1 hK1 => ?_
  refine wp_region_lit ?_
  refine Kn.step fh0 rfl rfl .none Kn.ex_alloc fun Ko hKo => ?_
  go_simp
  try go_bits
  refine hKo _ _ fun fa1 fh1 => ?_
  clear hKo Ko fh0 fa0
  refine wpList_nil ?_
  refine hK1 _ _ ?_
  clear hK1 K1
  refine Kn.gen (fun v => St.St v w.heap.size 43 #[.int .i64 0, .int .i64 0, .int .i64 0, .int .i64 0] ∧ Below w.heap.size w v) ⟨St.St.new _ _ _, (Below.refl _ w).alloc (Nat.le_refl _) _⟩ fun v0 hvv => ?_
  obtain ⟨hS0, hb0⟩ := hvv
  have HS0 := Lib.hid hS0
  have HB0 := Lib.hid hb0
  clear hS0 hb0
  have hr := readShort_g s p v0 hs
  rcases hg : rdG s p with ⟨x, nx, e, a⟩
  rw [hg] at hr
  unfold gv at hr
  have HR := Lib.hid hg
  clear hg
  refine wp_seq_k fun K2 hK2 => ?_
  refine wp_region_lit ?_
  refine Kn.pure fh1 rfl rfl .none (Kn.ex_move fh1 (.tmp rfl)) fun fa2 fh2 => ?_
  clear fh1 fa1
  refine Kn.pure fh2 rfl rfl .none (Kn.ex_move fh2 (.tmp rfl)) fun fa3 fh3 => ?_
  clear fh2 fa2
  refine Kn.call fh3 rfl rfl .none (Kn.ex_call fh3 (.cons (.tmp rfl) (.cons (.tmp rfl) .nil))) Tryd.call31 (hr) fun e u1 hp => ?_
  obtain ⟨rfl, hb1⟩ := hp
  refine ⟨_, rfl, fun fa4 fh4 => ?_⟩
  clear fh3 fa3
  have HS1 := Lib.hid (HS0.out.on hb1)
  have HB1 := Lib.hid (HB0.out.trans (hb1.mono HB0.out.size))
  clear hb1 hr
  refine Kn.step fh4 rfl rfl .none Kn.ex_alloc fun Ko hKo => ?_
  go_simp
  try go_bits
  refine hKo _ _ fun fa5 fh5 => ?_
  clear hKo Ko fh4 fa4
  refine Kn.stepU fh5 rfl .none (Kn.ex_store fh5 (.tmp rfl) (.tmp rfl)) fun Ko hKo => ?_
  go_simp
  try go_bits
  refine hKo _ ?_
  clear hKo Ko
  refine wpList_nil ?_
  refine hK2 _ _ ?_
  clear hK2 K2
  replace fh5 := fh5.cut (.cons (t := 7) rfl (.cons (t := 6) rfl (.cons (t := 1) rfl (.cons (t := 2) rfl .nil))))
  refine Kn.gen (fun v => St.St v u1.heap.size 43 #[.int .i64 x, .int .i64 nx, .int .i64 e, .int .i64 a] ∧ Below u1.heap.size u1 v) ⟨St.St.new _ _ _, (Below.refl _ u1).alloc (Nat.le_refl _) _⟩ fun v1 hvv => ?_
  obtain ⟨hG, hbv⟩ := hvv
  have HS2 := Lib.hid (HS1.out.on hbv)
  have HB2 := Lib.hid (HB1.out.trans (hbv.mono HB1.out.size))
  generalize u1.heap.size = gg at hG fh5
  clear hbv
  have c0 := hG.cell 0 rfl
  have c1 := hG.cell 1 rfl
  have c2 := hG.cell 2 rfl
  have c3 := hG.cell 3 rfl
  have HG := Lib.hid hG
  clear hG
  by_cases he : e = 0
  · have qe : (e == 0) = true := by rw [beq_iff_eq]; exact he
    by_cases hx : N < x
    · have HC : Hid (cnt s p N = (0, p, 4, p)) := Lib.hid (by unfold cnt; rw [HR.out, if_pos ⟨he, hx⟩])
      clear he
      refine wp_seq_k fun K3 hK3 => ?_
      refine wp_seq_k fun K4 hK4 => ?_
      refine wp_region_lit ?_
      refine Kn.step fh5 rfl rfl .none (Kn.ex_fieldAddr fh5 (.tmp rfl)) fun Ko hKo => ?_
      go_simp
      try go_bits
      refine hKo _ _ fun fa6 fh6 => ?_
      clear hKo Ko fh5 fa5
      refine Kn.step fh6 rfl rfl .none (Kn.ex_load fh6 (.tmp rfl)) fun Ko hKo => ?_
      go_simp
      try go_bits
      refine hKo _ _ fun fa7 fh7 => ?_
      clear hKo Ko fh6 fa6
      refine Kn.step fh7 rfl rfl .none (Kn.ex_bin fh7 (.tmp rfl) .const) fun Ko hKo => ?_
      go_simp
      try go_bits
      refine hKo _ _ fun fa8 fh8 => ?_
      clear hKo Ko fh7 fa7
      refine Kn.pure fh8 rfl rfl .none (Kn.ex_move fh8 (.tmp rfl)) fun fa9 fh9 => ?_
      clear fh8 fa8
      refine Kn.step fh9 rfl rfl (.some rfl rfl rfl) (Kn.ex_fieldAddr fh9 (.tmp rfl)) fun Ko hKo => ?_
      go_simp
      try go_bits
      refine hKo _ _ fun fa10 fh10 => ?_
      clear hKo Ko fh9 fa9
      refine Kn.step fh10 rfl rfl (.some rfl rfl rfl) (Kn.ex_load fh10 (.tmp rfl)) fun Ko hKo => ?_
      go_simp
      try go_bits
      refine hKo _ _ fun fa11 fh11 => ?_
      clear hKo Ko fh10 fa10
      refine Kn.pure fh11 rfl rfl (.some rfl rfl rfl) (Kn.ex_move fh11 (.tmp rfl)) fun fa12 fh12 => ?_
      clear fh11 fa11
      refine Kn.step fh12 rfl rfl (.some rfl rfl rfl) (Kn.ex_bin fh12 (.tmp rfl) (.tmp rfl)) fun Ko hKo => ?_
      go_simp
      try go_bits
      refine hKo _ _ fun fa13 fh13 => ?_
      clear hKo Ko fh12 fa12
      refine Kn.pure fh13 rfl rfl .none (Kn.ex_pick fh13 (.tmp rfl) (.tmp rfl)) fun fa14 fh14 => ?_
      clear fh13 fa13
      refine wpList_nil ?_
      refine hK4 _ _ ?_
      clear hK4 K4
      replace fh14 := fh14.cut (.cons (t := 19) rfl (.cons (t := 7) rfl (.cons (t := 6) rfl (.cons (t := 1) rfl .nil))))
      refine Kn.yes fh14 (.tmp rfl) ?_
      replace fh14 := fh14.cut (.cons (t := 7) rfl (.cons (t := 6) rfl (.cons (t := 1) rfl .nil)))
      obtain ⟨hst, hS2, hB2⟩ := HS2.out.store (P := Tryd.prog) (cells := #[.int .i64 0, .int .i64 p, .int .i64 4, .int .i64 p]) (by kernel_rfl) rfl (by simp [Value.oneCell'])
      refine wp_seq_k fun K5 hK5 => ?_
      refine wp_region_lit ?_
      refine Kn.pure fh14 rfl rfl .none (Kn.ex_move fh14 (.tmp rfl)) fun fa15 fh15 => ?_
      clear fh14 fa14
      refine Kn.pure fh15 rfl rfl .none (Kn.ex_move fh15 (.tmp rfl)) fun fa16 fh16 => ?_
      clear fh15 fa15
      refine Kn.step fh16 rfl rfl .none (Kn.ex_build fh16 (.cons (.tmp rfl) (.cons .const (.cons (.tmp rfl) .nil)))) fun Ko hKo => ?_
      go_simp
      try go_bits
      refine hKo _ _ fun fa17 fh17 => ?_
      clear hKo Ko fh16 fa16
      refine Kn.stepU fh17 rfl .none (Kn.ex_store fh17 (.tmp rfl) (.tmp rfl)) fun Ko hKo => ?_
      rw [hst]
      refine hKo _ ?_
      clear hKo Ko
      refine wpList_nil ?_
      refine hK5 _ _ ?_
      clear hK5 K5
      replace fh17 := fh17.cut (.cons (t := 7) rfl (.cons (t := 6) rfl .nil))
      refine wp_ret ?_
      refine Kn.then_ret ?_
      exact Kn.retS fh17 rfl rfl hS2 Tryd.underlying43 rfl (by kernel_rfl) ⟨by rw [HC.out]; rfl, HB2.out.trans (hB2 _ (Nat.le_refl _))⟩
    have HC : Hid (cnt s p N = (x, nx, e, a)) := Lib.hid (by unfold cnt; rw [HR.out, if_neg (fun h => hx h.2)])
    clear he
    refine wp_seq_k fun K3 hK3 => ?_
    refine wp_seq_k fun K4 hK4 => ?_
    refine wp_region_lit ?_
    refine Kn.step fh5 rfl rfl .none (Kn.ex_fieldAddr fh5 (.tmp rfl)) fun Ko hKo => ?_
    go_simp
    try go_bits
    refine hKo _ _ fun fa6 fh6 => ?_
    clear hKo Ko fh5 fa5
    refine Kn.step fh6 rfl rfl .none (Kn.ex_load fh6 (.tmp rfl)) fun Ko hKo => ?_
    go_simp
    try go_bits
    refine hKo _ _ fun fa7 fh7 => ?_
    clear hKo Ko fh6 fa6
    refine Kn.step fh7 rfl rfl .none (Kn.ex_bin fh7 (.tmp rfl) .const) fun Ko hKo => ?_
    go_simp
    try go_bits
    refine hKo _ _ fun fa8 fh8 => ?_
    clear hKo Ko fh7 fa7
    refine Kn.pure fh8 rfl rfl .none (Kn.ex_move fh8 (.tmp rfl)) fun fa9 fh9 => ?_
    clear fh8 fa8
    refine Kn.step fh9 rfl rfl (.some rfl rfl rfl) (Kn.ex_fieldAddr fh9 (.tmp rfl)) fun Ko hKo => ?_
    go_simp
    try go_bits
    refine hKo _ _ fun fa10 fh10 => ?_
    clear hKo Ko fh9 fa9
    refine Kn.step fh10 rfl rfl (.some rfl rfl rfl) (Kn.ex_load fh10 (.tmp rfl)) fun Ko hKo => ?_
    go_simp
    try go_bits
    refine hKo _ _ fun fa11 fh11 => ?_
    clear hKo Ko fh10 fa10
    refine Kn.pure fh11 rfl rfl (.some rfl rfl rfl) (Kn.ex_move fh11 (.tmp rfl)) fun fa12 fh12 => ?_
    clear fh11 fa11
    refine Kn.step fh12 rfl rfl (.some rfl rfl rfl) (Kn.ex_bin fh12 (.tmp rfl) (.tmp rfl)) fun Ko hKo => ?_
    go_simp
    try go_bits
    refine hKo _ _ fun fa13 fh13 => ?_
    clear hKo Ko fh12 fa12
    refine Kn.pure fh13 rfl rfl .none (Kn.ex_pick fh13 (.tmp rfl) (.tmp rfl)) fun fa14 fh14 => ?_
    clear fh13 fa13
    refine wpList_nil ?_
    refine hK4 _ _ ?_
    clear hK4 K4
    replace fh14 := fh14.cut (.cons (t := 19) rfl (.cons (t := 7) rfl (.cons (t := 6) rfl (.cons (t := 1) rfl .nil))))
    refine Kn.no fh14 (.tmp rfl) ?_
    refine wp_skip ?_
    refine hK3 _ _ ?_
    clear hK3 K3
    replace fh14 := fh14.cut (.cons (t := 7) rfl (.cons (t := 6) rfl .nil))
    have hld := HG.out.load Tryd.underlying43 rfl (by kernel_rfl)
    obtain ⟨hst, hS3, hB3⟩ := HS2.out.store (P := Tryd.prog) (cells := #[.int .i64 x, .int .i64 nx, .int .i64 e, .int .i64 a]) (by kernel_rfl) rfl (by simp [Value.oneCell'])
    refine wp_seq_k fun K5 hK5 => ?_
    refine wp_region_lit ?_
    refine Kn.step fh14 rfl rfl .none (Kn.ex_load fh14 (.tmp rfl)) fun Ko hKo => ?_
    go_simp
    try go_bits
    refine hKo _ _ fun fa15 fh15 => ?_
    clear hKo Ko fh14 fa14
    refine Kn.stepU fh15 rfl .none (Kn.ex_store fh15 (.tmp rfl) (.tmp rfl)) fun Ko hKo => ?_
    rw [hst]
    refine hKo _ ?_
    clear hKo Ko
    refine wpList_nil ?_
    refine hK5 _ _ ?_
    clear hK5 K5
    replace fh15 := fh15.cut (.cons (t := 6) rfl .nil)
    refine wp_ret ?_
    exact Kn.retS fh15 rfl rfl hS3 Tryd.underlying43 rfl (by kernel_rfl) ⟨by rw [HC.out]; rfl, HB2.out.trans (hB3 _ (Nat.le_refl _))⟩
  have qe : (e == 0) = false := by rw [beq_eq_false_iff_ne]; exact he
  have HC : Hid (cnt s p N = (x, nx, e, a)) := Lib.hid (by unfold cnt; rw [HR.out, if_neg (fun h => he h.1)])
  clear he
  refine wp_seq_k fun K3 hK3 => ?_
  refine wp_seq_k fun K4 hK4 => ?_
  refine wp_region_lit ?_
  refine Kn.step fh5 rfl rfl .none (Kn.ex_fieldAddr fh5 (.tmp rfl)) fun Ko hKo => ?_
  go_simp
  try go_bits
  refine hKo _ _ fun fa6 fh6 => ?_
  clear hKo Ko fh5 fa5
  refine Kn.step fh6 rfl rfl .none (Kn.ex_load fh6 (.tmp rfl)) fun Ko hKo => ?_
  go_simp
  try go_bits
  refine hKo _ _ fun fa7 fh7 => ?_
  clear hKo Ko fh6 fa6
  refine Kn.step fh7 rfl rfl .none (Kn.ex_bin fh7 (.tmp rfl) .const) fun Ko hKo => ?_
  go_simp
  try go_bits
  refine hKo _ _ fun fa8 fh8 => ?_
  clear hKo Ko fh7 fa7
  refine Kn.pure fh8 rfl rfl .none (Kn.ex_move fh8 (.tmp rfl)) fun fa9 fh9 => ?_
  clear fh8 fa8
  refine Kn.skip fh9 rfl rfl (.some rfl rfl rfl) fun fa10 fh10 => ?_
  clear fh9 fa9
  refine Kn.skip fh10 rfl rfl (.some rfl rfl rfl) fun fa11 fh11 => ?_
  clear fh10 fa10
  refine Kn.skip fh11 rfl rfl (.some rfl rfl rfl) fun fa12 fh12 => ?_
  clear fh11 fa11
  refine Kn.skip fh12 rfl rfl (.some rfl rfl rfl) fun fa13 fh13 => ?_
  clear fh12 fa12
  refine Kn.pure fh13 rfl rfl .none (Kn.ex_pick fh13 (.tmp rfl) .const) fun fa14 fh14 => ?_
  clear fh13 fa13
  refine wpList_nil ?_
  refine hK4 _ _ ?_
  clear hK4 K4
  replace fh14 := fh14.cut (.cons (t := 19) rfl (.cons (t := 7) rfl (.cons (t := 6) rfl (.cons (t := 1) rfl .nil))))
  refine Kn.no fh14 (.tmp rfl) ?_
  refine wp_skip ?_
  refine hK3 _ _ ?_
  clear hK3 K3
  replace fh14 := fh14.cut (.cons (t := 7) rfl (.cons (t := 6) rfl .nil))
  have hld := HG.out.load Tryd.underlying43 rfl (by kernel_rfl)
  obtain ⟨hst, hS3, hB3⟩ := HS2.out.store (P := Tryd.prog) (cells := #[.int .i64 x, .int .i64 nx, .int .i64 e, .int .i64 a]) (by kernel_rfl) rfl (by simp [Value.oneCell'])
  refine wp_seq_k fun K5 hK5 => ?_
  refine wp_region_lit ?_
  refine Kn.step fh14 rfl rfl .none (Kn.ex_load fh14 (.tmp rfl)) fun Ko hKo => ?_
  go_simp
  try go_bits
  refine hKo _ _ fun fa15 fh15 => ?_
  clear hKo Ko fh14 fa14
  refine Kn.stepU fh15 rfl .none (Kn.ex_store fh15 (.tmp rfl) (.tmp rfl)) fun Ko hKo => ?_
  rw [hst]
  refine hKo _ ?_
  clear hKo Ko
  refine wpList_nil ?_
  refine hK5 _ _ ?_
  clear hK5 K5
  replace fh15 := fh15.cut (.cons (t := 6) rfl .nil)
  refine wp_ret ?_
  exact Kn.retS fh15 rfl rfl hS3 Tryd.underlying43 rfl (by kernel_rfl) ⟨by rw [HC.out]; rfl, HB2.out.trans (hB3 _ (Nat.le_refl _))⟩

theorem cnt_ok {s : ByteArray} {p N x nx a : Int} (h : cnt s p N = (x, nx, 0, a)) : rdG s p = (x, nx, 0, a) ∧ x ≤ N := by
  unfold cnt at h
  split at h
  · simp at h
  · rename_i hc
    rw [h] at hc
    exact ⟨h, by simp at hc; omega⟩
/-- Rows as values. -/
def rv (A : Option Addr) (n c : Nat) (nx e a : Int) : Value := .agg #[.slice A n c, .int .i64 nx, .int .i64 e, .int .i64 a]
/-- What Skip answers. -/
def skG (s : ByteArray) (p N : Int) : Int × Int × Int := if (cnt s p N).2.2.1 = 0 then skF s p (cnt s p N).1.toNat (cnt s p N).2.1 else (p, (cnt s p N).2.2.1, (cnt s p N).2.2.2)
/-- What Get answers: the error's number and its place; or the targets, and the place behind. -/
def gtG (s : ByteArray) (p N v : Int) : (Int × Int) ⊕ (List Int × Int) := if (cnt s p N).2.2.1 = 0 then gtF s N (cnt s p N).1.toNat true v (cnt s p N).2.1 else .inl ((cnt s p N).2.2.1, (cnt s p N).2.2.2)

set_option maxRecDepth 100000 in
set_option maxHeartbeats 2000000 in
theorem skip_g (s : ByteArray) (p N : Int) (w : World) (hs : s.size ≤ 1000000000) (hN : N ≤ 4096) :
    Calls Tryd.prog 18 #[.string s, .int .i64 p, .int .i64 N] w fun e w' => e = .returned (rv none 0 0 (skG s p N).1 (skG s p N).2.1 (skG s p N).2.2) ∧ Below w.heap.size w w' := by
  refine Kn.calls Tryd.func18 rfl Tryd.ntmps18 rfl (.cons (t := 0) rfl (.cons (t := 1) rfl (.cons (t := 2) rfl .nil))) fun fa0 fh0 => ?_
  refine wp_seq_k fun K1 hK1 => ?_
  refine wp_region_lit ?_
  refine Kn.step fh0 rfl rfl .none Kn.ex_alloc fun Ko hKo => ?_
  go_simp
  try go_bits
  refine hKo _ _ fun fa1 fh1 => ?_
  clear hKo Ko fh0 fa0
  refine wpList_nil ?_
  refine hK1 _ _ ?_
  clear hK1 K1
  refine Kn.gen (fun v => St.St v w.heap.size 46 #[.slice none 0 0, .int .i64 0, .int .i64 0, .int .i64 0] ∧ Below w.heap.size w v) ⟨St.St.new _ _ _, (Below.refl _ w).alloc (Nat.le_refl _) _⟩ fun v0 hvv => ?_
  obtain ⟨hS0, hb0⟩ := hvv
  have HS0 := Lib.hid hS0
  have HB0 := Lib.hid hb0
  clear hS0 hb0
  have hr := count_g s p N v0 hs
  rcases hg : cnt s p N with ⟨x, nx, e, a⟩
  rw [hg] at hr
  unfold gv at hr
  have HR := Lib.hid hg
  clear hg
  refine wp_seq_k fun K2 hK2 => ?_
  refine wp_region_lit ?_
  refine Kn.pure fh1 rfl rfl .none (Kn.ex_move fh1 (.tmp rfl)) fun fa2 fh2 => ?_
  clear fh1 fa1
  refine Kn.pure fh2 rfl rfl .none (Kn.ex_move fh2 (.tmp rfl)) fun fa3 fh3 => ?_
  clear fh2 fa2
  refine Kn.pure fh3 rfl rfl .none (Kn.ex_move fh3 (.tmp rfl)) fun fa4 fh4 => ?_
  clear fh3 fa3
  refine Kn.call fh4 rfl rfl .none (Kn.ex_call fh4 (.cons (.tmp rfl) (.cons (.tmp rfl) (.cons (.tmp rfl) .nil)))) Tryd.call17 (hr) fun e u1 hp => ?_
  obtain ⟨rfl, hb1⟩ := hp
  refine ⟨_, rfl, fun fa5 fh5 => ?_⟩
  clear fh4 fa4
  have HS1 := Lib.hid (HS0.out.on hb1)
  have HB1 := Lib.hid (HB0.out.trans (hb1.mono HB0.out.size))
  clear hb1 hr
  refine Kn.step fh5 rfl rfl .none Kn.ex_alloc fun Ko hKo => ?_
  go_simp
  try go_bits
  refine hKo _ _ fun fa6 fh6 => ?_
  clear hKo Ko fh5 fa5
  refine Kn.stepU fh6 rfl .none (Kn.ex_store fh6 (.tmp rfl) (.tmp rfl)) fun Ko hKo => ?_
  go_simp
  try go_bits
  refine hKo _ ?_
  clear hKo Ko
  refine wpList_nil ?_
  refine hK2 _ _ ?_
  clear hK2 K2
  replace fh6 := fh6.cut (.cons (t := 7) rfl (.cons (t := 6) rfl (.cons (t := 0) rfl (.cons (t := 1) rfl .nil))))
  refine Kn.gen (fun v => St.St v u1.heap.size 43 #[.int .i64 x, .int .i64 nx, .int .i64 e, .int .i64 a] ∧ Below u1.heap.size u1 v) ⟨St.St.new _ _ _, (Below.refl _ u1).alloc (Nat.le_refl _) _⟩ fun v1 hvv => ?_
  obtain ⟨hG, hbv⟩ := hvv
  have HS2 := Lib.hid (HS1.out.on hbv)
  have HB2 := Lib.hid (HB1.out.trans (hbv.mono HB1.out.size))
  generalize u1.heap.size = gg at hG fh6
  clear hbv
  have HG := Lib.hid hG
  clear hG
  by_cases he : e = 0
  · subst he
    obtain ⟨hx0, hxN⟩ := cnt_ok HR.out
    obtain ⟨hx1, hp0, hpn, hns, ha0, -⟩ := rdG_ok hx0
    obtain ⟨X, rfl⟩ := Int.eq_ofNat_of_zero_le hx1.1
    have hXN : X ≤ 4096 := by omega
    have HR2 : Hid (skG s p N = skF s p X nx) := Lib.hid (by unfold skG; rw [HR.out]; simp)
    clear hx0 hxN hx1 ha0
    have c2 := HG.out.cell 2 rfl
    have c1 := HG.out.cell 1 rfl
    have hgl := HG.out.lt
    refine wp_seq_k fun K3 hK3 => ?_
    refine wp_seq_k fun K4 hK4 => ?_
    refine wp_region_lit ?_
    refine Kn.step fh6 rfl rfl .none (Kn.ex_fieldAddr fh6 (.tmp rfl)) fun Ko hKo => ?_
    go_simp
    try go_bits
    refine hKo _ _ fun fa7 fh7 => ?_
    clear hKo Ko fh6 fa6
    refine Kn.step fh7 rfl rfl .none (Kn.ex_load fh7 (.tmp rfl)) fun Ko hKo => ?_
    go_simp
    try go_bits
    refine hKo _ _ fun fa8 fh8 => ?_
    clear hKo Ko fh7 fa7
    refine Kn.step fh8 rfl rfl .none (Kn.ex_bin fh8 (.tmp rfl) .const) fun Ko hKo => ?_
    go_simp
    try go_bits
    refine hKo _ _ fun fa9 fh9 => ?_
    clear hKo Ko fh8 fa8
    refine wpList_nil ?_
    refine hK4 _ _ ?_
    clear hK4 K4
    replace fh9 := fh9.cut (.cons (t := 17) rfl (.cons (t := 7) rfl (.cons (t := 6) rfl (.cons (t := 0) rfl (.cons (t := 1) rfl .nil)))))
    refine Kn.no fh9 (.tmp rfl) ?_
    refine wp_skip ?_
    refine hK3 _ _ ?_
    clear hK3 K3
    replace fh9 := fh9.cut (.cons (t := 7) rfl (.cons (t := 6) rfl (.cons (t := 0) rfl (.cons (t := 1) rfl .nil))))
    refine wp_seq_k fun K5 hK5 => ?_
    refine wp_region_lit ?_
    refine Kn.step fh9 rfl rfl .none (Kn.ex_fieldAddr fh9 (.tmp rfl)) fun Ko hKo => ?_
    go_simp
    try go_bits
    refine hKo _ _ fun fa10 fh10 => ?_
    clear hKo Ko fh9 fa9
    refine Kn.step fh10 rfl rfl .none (Kn.ex_load fh10 (.tmp rfl)) fun Ko hKo => ?_
    go_simp
    try go_bits
    refine hKo _ _ fun fa11 fh11 => ?_
    clear hKo Ko fh10 fa10
    refine Kn.pure fh11 rfl rfl .none (Kn.ex_assign fh11 (.tmp rfl)) fun fa12 fh12 => ?_
    clear fh11 fa11
    refine wpList_nil ?_
    refine hK5 _ _ ?_
    clear hK5 K5
    replace fh12 := fh12.cut (.cons (t := 8) rfl (.cons (t := 7) rfl (.cons (t := 6) rfl (.cons (t := 0) rfl (.cons (t := 1) rfl .nil)))))
    clear c1 c2
    refine wp_seq_k fun K6 hK6 => ?_
    refine wp_seq_k fun K7 hK7 => ?_
    refine wp_region_lit ?_
    refine Kn.pure fh12 rfl rfl .none (Kn.ex_assign fh12 .const) fun fa13 fh13 => ?_
    clear fh12 fa12
    refine wpList_nil ?_
    refine hK7 _ _ ?_
    clear hK7 K7
    refine wp_block ?_
    obtain ⟨n0, hn0⟩ : ∃ n0, nx = n0 := ⟨_, rfl⟩
    subst hn0
    refine Kn.loop (fun m fr u => ∃ (i k : Nat) (n1 : Int), Kn.Kn 48 [(9, .int .i64 (i : Int)), (8, .int .i64 n1), (7, .pointer (some ⟨gg, 0, none⟩)), (6, .pointer (some ⟨w.heap.size, 0, none⟩)), (0, .string s), (1, .int .i64 p)] fr ∧ k ≤ m ∧ i + k = X ∧ Hid (skF s p k n1 = skF s p X nx) ∧ (0 ≤ n1 ∧ n1 ≤ s.size) ∧ Hid (St.St u gg 43 #[.int .i64 (X : Int), .int .i64 nx, .int .i64 0, .int .i64 a]) ∧ Hid (St.St u w.heap.size 46 #[.slice none 0 0, .int .i64 0, .int .i64 0, .int .i64 0]) ∧ Hid (Below w.heap.size w u)) X ⟨0, X, nx, fh13.cut (.turn (t := 9) rfl rfl (.cons (t := 8) rfl (.cons (t := 7) rfl (.cons (t := 6) rfl (.cons (t := 0) rfl (.cons (t := 1) rfl .nil)))))), Nat.le_refl _, by omega, Lib.hid rfl, ⟨by omega, hns⟩, HG, HS2, HB2⟩ ?_
    clear fh13 fa13
    intro m8 fa14 u hI Kl8 hKl8
    obtain ⟨i, k, n1, fh14, hkm, hik, HK, hnx, HG3, HS3, HB3⟩ := hI
    clear HG HS2 HB2
    have c0 := HG3.out.cell 0 rfl
    rcases k with _ | k
    · obtain rfl : i = X := by omega
      have HF : Hid (skG s p N = (n1, 0, 0)) := Lib.hid (by rw [HR2.out, ← HK.out]; rfl)
      refine wp_seq_k fun K9 hK9 => ?_
      refine wp_seq_k fun K10 hK10 => ?_
      refine wp_region_lit ?_
      refine Kn.pure fh14 rfl rfl .none (Kn.ex_move fh14 (.tmp rfl)) fun fa15 fh15 => ?_
      clear fh14 fa14
      refine Kn.step fh15 rfl rfl .none (Kn.ex_fieldAddr fh15 (.tmp rfl)) fun Ko hKo => ?_
      go_simp
      try go_bits
      refine hKo _ _ fun fa16 fh16 => ?_
      clear hKo Ko fh15 fa15
      refine Kn.step fh16 rfl rfl .none (Kn.ex_load fh16 (.tmp rfl)) fun Ko hKo => ?_
      go_simp
      try go_bits
      refine hKo _ _ fun fa17 fh17 => ?_
      clear hKo Ko fh16 fa16
      refine Kn.step fh17 rfl rfl .none (Kn.ex_bin fh17 (.tmp rfl) (.tmp rfl)) fun Ko hKo => ?_
      go_simp
      try go_bits
      refine hKo _ _ fun fa18 fh18 => ?_
      clear hKo Ko fh17 fa17
      refine wpList_nil ?_
      refine hK10 _ _ ?_
      clear hK10 K10
      replace fh18 := fh18.cut (.cons (t := 29) rfl (.cons (t := 9) rfl (.cons (t := 8) rfl (.cons (t := 7) rfl (.cons (t := 6) rfl (.cons (t := 0) rfl (.cons (t := 1) rfl .nil)))))))
      refine Kn.no fh18 (.tmp rfl) ?_
      replace fh18 := fh18.cut (.cons (t := 9) rfl (.cons (t := 8) rfl (.cons (t := 7) rfl (.cons (t := 6) rfl (.cons (t := 0) rfl (.cons (t := 1) rfl .nil))))))
      refine wp_exit ?_
      refine Kn.then_exit ?_
      clear hK9 K9
      refine Kn.then_exit ?_
      clear hKl8 Kl8
      refine Kn.block_exit ?_
      refine hK6 _ _ ?_
      clear hK6 K6
      replace fh18 := fh18.cut (.cons (t := 8) rfl (.cons (t := 6) rfl .nil))
      obtain ⟨hst, hS2, hB2⟩ := HS3.out.store (P := Tryd.prog) (cells := #[.slice none 0 0, .int .i64 n1, .int .i64 0, .int .i64 0]) (by kernel_rfl) rfl (by simp [Value.oneCell'])
      refine wp_seq_k fun K11 hK11 => ?_
      refine wp_region_lit ?_
      refine Kn.pure fh18 rfl rfl .none (Kn.ex_move fh18 (.tmp rfl)) fun fa19 fh19 => ?_
      clear fh18 fa18
      refine Kn.step fh19 rfl rfl .none (Kn.ex_build fh19 (.cons (.tmp rfl) .nil)) fun Ko hKo => ?_
      go_simp
      try go_bits
      refine hKo _ _ fun fa20 fh20 => ?_
      clear hKo Ko fh19 fa19
      refine Kn.stepU fh20 rfl .none (Kn.ex_store fh20 (.tmp rfl) (.tmp rfl)) fun Ko hKo => ?_
      rw [hst]
      refine hKo _ ?_
      clear hKo Ko
      refine wpList_nil ?_
      refine hK11 _ _ ?_
      clear hK11 K11
      replace fh20 := fh20.cut (.cons (t := 6) rfl .nil)
      refine wp_ret ?_
      exact Kn.retS fh20 rfl rfl hS2 Tryd.underlying46 rfl (by kernel_rfl) ⟨by rw [HF.out]; rfl, HB3.out.trans (hB2 _ (Nat.le_refl _))⟩
    have hilt : i < X := by omega
    refine wp_seq_k fun K9 hK9 => ?_
    refine wp_seq_k fun K10 hK10 => ?_
    refine wp_region_lit ?_
    refine Kn.pure fh14 rfl rfl .none (Kn.ex_move fh14 (.tmp rfl)) fun fa15 fh15 => ?_
    clear fh14 fa14
    refine Kn.step fh15 rfl rfl .none (Kn.ex_fieldAddr fh15 (.tmp rfl)) fun Ko hKo => ?_
    go_simp
    try go_bits
    refine hKo _ _ fun fa16 fh16 => ?_
    clear hKo Ko fh15 fa15
    refine Kn.step fh16 rfl rfl .none (Kn.ex_load fh16 (.tmp rfl)) fun Ko hKo => ?_
    go_simp
    try go_bits
    refine hKo _ _ fun fa17 fh17 => ?_
    clear hKo Ko fh16 fa16
    refine Kn.step fh17 rfl rfl .none (Kn.ex_bin fh17 (.tmp rfl) (.tmp rfl)) fun Ko hKo => ?_
    go_simp
    try go_bits
    refine hKo _ _ fun fa18 fh18 => ?_
    clear hKo Ko fh17 fa17
    refine wpList_nil ?_
    refine hK10 _ _ ?_
    clear hK10 K10
    replace fh18 := fh18.cut (.cons (t := 29) rfl (.cons (t := 9) rfl (.cons (t := 8) rfl (.cons (t := 7) rfl (.cons (t := 6) rfl (.cons (t := 0) rfl (.cons (t := 1) rfl .nil)))))))
    refine Kn.yes fh18 (.tmp rfl) ?_
    refine wp_skip ?_
    refine hK9 _ _ ?_
    clear hK9 K9
    replace fh18 := fh18.cut (.cons (t := 9) rfl (.cons (t := 8) rfl (.cons (t := 7) rfl (.cons (t := 6) rfl (.cons (t := 0) rfl (.cons (t := 1) rfl .nil))))))
    refine wp_seq_k fun K11 hK11 => ?_
    refine wp_block ?_
    clear c0
    have hr := readShort_g s n1 u hs
    rcases hg : rdG s n1 with ⟨y, n2, e2, a2⟩
    rw [hg] at hr
    unfold gv at hr
    have HG2 := Lib.hid hg
    clear hg
    refine wp_seq_k fun K12 hK12 => ?_
    refine wp_region_lit ?_
    refine Kn.pure fh18 rfl rfl .none (Kn.ex_move fh18 (.tmp rfl)) fun fa19 fh19 => ?_
    clear fh18 fa18
    refine Kn.pure fh19 rfl rfl .none (Kn.ex_move fh19 (.tmp rfl)) fun fa20 fh20 => ?_
    clear fh19 fa19
    refine Kn.call fh20 rfl rfl .none (Kn.ex_call fh20 (.cons (.tmp rfl) (.cons (.tmp rfl) .nil))) Tryd.call31 (hr) fun e u1 hp => ?_
    obtain ⟨rfl, hb1⟩ := hp
    refine ⟨_, rfl, fun fa21 fh21 => ?_⟩
    clear fh20 fa20
    have HS4 := Lib.hid (HS3.out.on hb1)
    have HG4 := Lib.hid (HG3.out.on hb1)
    have HB4 := Lib.hid (HB3.out.trans (hb1.mono HB3.out.size))
    clear hb1 hr HS3 HG3 HB3
    refine Kn.step fh21 rfl rfl .none Kn.ex_alloc fun Ko hKo => ?_
    go_simp
    try go_bits
    refine hKo _ _ fun fa22 fh22 => ?_
    clear hKo Ko fh21 fa21
    refine Kn.stepU fh22 rfl .none (Kn.ex_store fh22 (.tmp rfl) (.tmp rfl)) fun Ko hKo => ?_
    go_simp
    try go_bits
    refine hKo _ ?_
    clear hKo Ko
    refine wpList_nil ?_
    refine hK12 _ _ ?_
    clear hK12 K12
    replace fh22 := fh22.cut (.cons (t := 10) rfl (.cons (t := 9) rfl (.cons (t := 8) rfl (.cons (t := 7) rfl (.cons (t := 6) rfl (.cons (t := 0) rfl (.cons (t := 1) rfl .nil)))))))
    refine Kn.gen (fun v => St.St v u1.heap.size 43 #[.int .i64 y, .int .i64 n2, .int .i64 e2, .int .i64 a2] ∧ Below u1.heap.size u1 v) ⟨St.St.new _ _ _, (Below.refl _ u1).alloc (Nat.le_refl _) _⟩ fun v2 hvv => ?_
    obtain ⟨hG, hbv⟩ := hvv
    have HS5 := Lib.hid (HS4.out.on hbv)
    have HG5 := Lib.hid (HG4.out.on hbv)
    have HB5 := Lib.hid (HB4.out.trans (hbv.mono HB4.out.size))
    generalize u1.heap.size = g2 at hG fh22
    have c1 := hG.cell 1 rfl
    have c2 := hG.cell 2 rfl
    have c3 := hG.cell 3 rfl
    clear hbv hG HS4 HG4 HB4
    by_cases he : e2 = 0
    · subst he
      obtain ⟨-, h1, h2, h3, -⟩ := rdG_ok HG2.out
      have HK2 : Hid (skF s p k n2 = skF s p X nx) := Lib.hid (by rw [← HK.out, skF_ok HG2.out])
      refine wp_seq_k fun K13 hK13 => ?_
      refine wp_seq_k fun K14 hK14 => ?_
      refine wp_region_lit ?_
      refine Kn.step fh22 rfl rfl .none (Kn.ex_fieldAddr fh22 (.tmp rfl)) fun Ko hKo => ?_
      go_simp
      try go_bits
      refine hKo _ _ fun fa23 fh23 => ?_
      clear hKo Ko fh22 fa22
      refine Kn.step fh23 rfl rfl .none (Kn.ex_load fh23 (.tmp rfl)) fun Ko hKo => ?_
      go_simp
      try go_bits
      refine hKo _ _ fun fa24 fh24 => ?_
      clear hKo Ko fh23 fa23
      refine Kn.step fh24 rfl rfl .none (Kn.ex_bin fh24 (.tmp rfl) .const) fun Ko hKo => ?_
      go_simp
      try go_bits
      refine hKo _ _ fun fa25 fh25 => ?_
      clear hKo Ko fh24 fa24
      refine wpList_nil ?_
      refine hK14 _ _ ?_
      clear hK14 K14
      replace fh25 := fh25.cut (.cons (t := 37) rfl (.cons (t := 10) rfl (.cons (t := 9) rfl (.cons (t := 8) rfl (.cons (t := 7) rfl (.cons (t := 6) rfl (.cons (t := 0) rfl (.cons (t := 1) rfl .nil))))))))
      refine Kn.no fh25 (.tmp rfl) ?_
      refine wp_skip ?_
      refine hK13 _ _ ?_
      clear hK13 K13
      replace fh25 := fh25.cut (.cons (t := 10) rfl (.cons (t := 9) rfl (.cons (t := 8) rfl (.cons (t := 7) rfl (.cons (t := 6) rfl (.cons (t := 0) rfl (.cons (t := 1) rfl .nil)))))))
      refine wp_region_lit ?_
      refine Kn.step fh25 rfl rfl .none (Kn.ex_fieldAddr fh25 (.tmp rfl)) fun Ko hKo => ?_
      go_simp
      try go_bits
      refine hKo _ _ fun fa26 fh26 => ?_
      clear hKo Ko fh25 fa25
      refine Kn.step fh26 rfl rfl .none (Kn.ex_load fh26 (.tmp rfl)) fun Ko hKo => ?_
      go_simp
      try go_bits
      refine hKo _ _ fun fa27 fh27 => ?_
      clear hKo Ko fh26 fa26
      refine Kn.pure fh27 rfl rfl .none (Kn.ex_assign fh27 (.tmp rfl)) fun fa28 fh28 => ?_
      clear fh27 fa27
      refine wpList_nil ?_
      refine Kn.block_normal ?_
      refine hK11 _ _ ?_
      clear hK11 K11
      replace fh28 := fh28.cut (.cons (t := 8) rfl (.cons (t := 9) rfl (.cons (t := 7) rfl (.cons (t := 6) rfl (.cons (t := 0) rfl (.cons (t := 1) rfl .nil))))))
      clear c1 c2 c3
      refine wp_region_lit ?_
      refine Kn.pure fh28 rfl rfl .none (Kn.ex_move fh28 (.tmp rfl)) fun fa29 fh29 => ?_
      clear fh28 fa28
      refine Kn.step fh29 rfl rfl .none (Kn.ex_bin fh29 (.tmp rfl) .const) fun Ko hKo => ?_
      go_simp
      try go_bits
      refine hKo _ _ fun fa30 fh30 => ?_
      clear hKo Ko fh29 fa29
      refine Kn.pure fh30 rfl rfl .none (Kn.ex_assign fh30 (.tmp rfl)) fun fa31 fh31 => ?_
      clear fh30 fa30
      refine wpList_nil ?_
      replace fh31 := fh31.cut (.cons (t := 9) rfl (.cons (t := 8) rfl (.cons (t := 7) rfl (.cons (t := 6) rfl (.cons (t := 0) rfl (.cons (t := 1) rfl .nil))))))
      exact hKl8 (m8 - 1) _ _ (by omega) ⟨i + 1, k, n2, fh31.cut (.turn (t := 9) rfl (by go_num) (.cons (t := 8) rfl (.cons (t := 7) rfl (.cons (t := 6) rfl (.cons (t := 0) rfl (.cons (t := 1) rfl .nil)))))), by omega, by omega, HK2, ⟨by omega, h3⟩, HG5, HS5, HB5⟩
    have qe : (e2 != 0) = true := by simp [he]
    have HF : Hid (skG s p N = (p, e2, a2)) := Lib.hid (by rw [HR2.out, ← HK.out, skF_bad HG2.out he])
    clear he
    refine wp_seq_k fun K13 hK13 => ?_
    refine wp_seq_k fun K14 hK14 => ?_
    refine wp_region_lit ?_
    refine Kn.step fh22 rfl rfl .none (Kn.ex_fieldAddr fh22 (.tmp rfl)) fun Ko hKo => ?_
    go_simp
    try go_bits
    refine hKo _ _ fun fa23 fh23 => ?_
    clear hKo Ko fh22 fa22
    refine Kn.step fh23 rfl rfl .none (Kn.ex_load fh23 (.tmp rfl)) fun Ko hKo => ?_
    go_simp
    try go_bits
    refine hKo _ _ fun fa24 fh24 => ?_
    clear hKo Ko fh23 fa23
    refine Kn.step fh24 rfl rfl .none (Kn.ex_bin fh24 (.tmp rfl) .const) fun Ko hKo => ?_
    go_simp
    try go_bits
    refine hKo _ _ fun fa25 fh25 => ?_
    clear hKo Ko fh24 fa24
    refine wpList_nil ?_
    refine hK14 _ _ ?_
    clear hK14 K14
    replace fh25 := fh25.cut (.cons (t := 37) rfl (.cons (t := 10) rfl (.cons (t := 9) rfl (.cons (t := 8) rfl (.cons (t := 7) rfl (.cons (t := 6) rfl (.cons (t := 0) rfl (.cons (t := 1) rfl .nil))))))))
    refine Kn.yes fh25 (.tmp rfl) ?_
    replace fh25 := fh25.cut (.cons (t := 10) rfl (.cons (t := 9) rfl (.cons (t := 8) rfl (.cons (t := 7) rfl (.cons (t := 6) rfl (.cons (t := 0) rfl (.cons (t := 1) rfl .nil)))))))
    obtain ⟨hst, hS2, hB2⟩ := HS5.out.store (P := Tryd.prog) (cells := #[.slice none 0 0, .int .i64 p, .int .i64 e2, .int .i64 a2]) (by kernel_rfl) rfl (by simp [Value.oneCell'])
    refine wp_seq_k fun K15 hK15 => ?_
    refine wp_region_lit ?_
    refine Kn.pure fh25 rfl rfl .none (Kn.ex_move fh25 (.tmp rfl)) fun fa26 fh26 => ?_
    clear fh25 fa25
    refine Kn.step fh26 rfl rfl .none (Kn.ex_fieldAddr fh26 (.tmp rfl)) fun Ko hKo => ?_
    go_simp
    try go_bits
    refine hKo _ _ fun fa27 fh27 => ?_
    clear hKo Ko fh26 fa26
    refine Kn.step fh27 rfl rfl .none (Kn.ex_load fh27 (.tmp rfl)) fun Ko hKo => ?_
    go_simp
    try go_bits
    refine hKo _ _ fun fa28 fh28 => ?_
    clear hKo Ko fh27 fa27
    refine Kn.step fh28 rfl rfl .none (Kn.ex_fieldAddr fh28 (.tmp rfl)) fun Ko hKo => ?_
    go_simp
    try go_bits
    refine hKo _ _ fun fa29 fh29 => ?_
    clear hKo Ko fh28 fa28
    refine Kn.step fh29 rfl rfl .none (Kn.ex_load fh29 (.tmp rfl)) fun Ko hKo => ?_
    go_simp
    try go_bits
    refine hKo _ _ fun fa30 fh30 => ?_
    clear hKo Ko fh29 fa29
    refine Kn.step fh30 rfl rfl .none (Kn.ex_build fh30 (.cons (.tmp rfl) (.cons (.tmp rfl) (.cons (.tmp rfl) .nil)))) fun Ko hKo => ?_
    go_simp
    try go_bits
    refine hKo _ _ fun fa31 fh31 => ?_
    clear hKo Ko fh30 fa30
    refine Kn.stepU fh31 rfl .none (Kn.ex_store fh31 (.tmp rfl) (.tmp rfl)) fun Ko hKo => ?_
    rw [hst]
    refine hKo _ ?_
    clear hKo Ko
    refine wpList_nil ?_
    refine hK15 _ _ ?_
    clear hK15 K15
    replace fh31 := fh31.cut (.cons (t := 10) rfl (.cons (t := 9) rfl (.cons (t := 8) rfl (.cons (t := 7) rfl (.cons (t := 6) rfl (.cons (t := 0) rfl (.cons (t := 1) rfl .nil)))))))
    refine wp_ret ?_
    refine Kn.then_ret ?_
    refine Kn.block_ret ?_
    refine Kn.then_ret ?_
    refine Kn.then_ret ?_
    refine Kn.block_ret ?_
    refine Kn.then_ret ?_
    exact Kn.retS fh31 rfl rfl hS2 Tryd.underlying46 rfl (by kernel_rfl) ⟨by rw [HF.out]; rfl, HB5.out.trans (hB2 _ (Nat.le_refl _))⟩
  have qe : (e != 0) = true := by simp [he]
  have HF : Hid (skG s p N = (p, e, a)) := Lib.hid (by unfold skG; rw [HR.out, if_neg he])
  have c2 := HG.out.cell 2 rfl
  have c3 := HG.out.cell 3 rfl
  clear he
  refine wp_seq_k fun K3 hK3 => ?_
  refine wp_seq_k fun K4 hK4 => ?_
  refine wp_region_lit ?_
  refine Kn.step fh6 rfl rfl .none (Kn.ex_fieldAddr fh6 (.tmp rfl)) fun Ko hKo => ?_
  go_simp
  try go_bits
  refine hKo _ _ fun fa7 fh7 => ?_
  clear hKo Ko fh6 fa6
  refine Kn.step fh7 rfl rfl .none (Kn.ex_load fh7 (.tmp rfl)) fun Ko hKo => ?_
  go_simp
  try go_bits
  refine hKo _ _ fun fa8 fh8 => ?_
  clear hKo Ko fh7 fa7
  refine Kn.step fh8 rfl rfl .none (Kn.ex_bin fh8 (.tmp rfl) .const) fun Ko hKo => ?_
  go_simp
  try go_bits
  refine hKo _ _ fun fa9 fh9 => ?_
  clear hKo Ko fh8 fa8
  refine wpList_nil ?_
  refine hK4 _ _ ?_
  clear hK4 K4
  replace fh9 := fh9.cut (.cons (t := 17) rfl (.cons (t := 7) rfl (.cons (t := 6) rfl (.cons (t := 0) rfl (.cons (t := 1) rfl .nil)))))
  refine Kn.yes fh9 (.tmp rfl) ?_
  replace fh9 := fh9.cut (.cons (t := 7) rfl (.cons (t := 6) rfl (.cons (t := 0) rfl (.cons (t := 1) rfl .nil))))
  obtain ⟨hst, hS2, hB2⟩ := HS2.out.store (P := Tryd.prog) (cells := #[.slice none 0 0, .int .i64 p, .int .i64 e, .int .i64 a]) (by kernel_rfl) rfl (by simp [Value.oneCell'])
  refine wp_seq_k fun K5 hK5 => ?_
  refine wp_region_lit ?_
  refine Kn.pure fh9 rfl rfl .none (Kn.ex_move fh9 (.tmp rfl)) fun fa10 fh10 => ?_
  clear fh9 fa9
  refine Kn.step fh10 rfl rfl .none (Kn.ex_fieldAddr fh10 (.tmp rfl)) fun Ko hKo => ?_
  go_simp
  try go_bits
  refine hKo _ _ fun fa11 fh11 => ?_
  clear hKo Ko fh10 fa10
  refine Kn.step fh11 rfl rfl .none (Kn.ex_load fh11 (.tmp rfl)) fun Ko hKo => ?_
  go_simp
  try go_bits
  refine hKo _ _ fun fa12 fh12 => ?_
  clear hKo Ko fh11 fa11
  refine Kn.step fh12 rfl rfl .none (Kn.ex_fieldAddr fh12 (.tmp rfl)) fun Ko hKo => ?_
  go_simp
  try go_bits
  refine hKo _ _ fun fa13 fh13 => ?_
  clear hKo Ko fh12 fa12
  refine Kn.step fh13 rfl rfl .none (Kn.ex_load fh13 (.tmp rfl)) fun Ko hKo => ?_
  go_simp
  try go_bits
  refine hKo _ _ fun fa14 fh14 => ?_
  clear hKo Ko fh13 fa13
  refine Kn.step fh14 rfl rfl .none (Kn.ex_build fh14 (.cons (.tmp rfl) (.cons (.tmp rfl) (.cons (.tmp rfl) .nil)))) fun Ko hKo => ?_
  go_simp
  try go_bits
  refine hKo _ _ fun fa15 fh15 => ?_
  clear hKo Ko fh14 fa14
  refine Kn.stepU fh15 rfl .none (Kn.ex_store fh15 (.tmp rfl) (.tmp rfl)) fun Ko hKo => ?_
  rw [hst]
  refine hKo _ ?_
  clear hKo Ko
  refine wpList_nil ?_
  refine hK5 _ _ ?_
  clear hK5 K5
  replace fh15 := fh15.cut (.cons (t := 7) rfl (.cons (t := 6) rfl (.cons (t := 0) rfl (.cons (t := 1) rfl .nil))))
  refine wp_ret ?_
  refine Kn.then_ret ?_
  exact Kn.retS fh15 rfl rfl hS2 Tryd.underlying46 rfl (by kernel_rfl) ⟨by rw [HF.out]; rfl, HB2.out.trans (hB2 _ (Nat.le_refl _))⟩

end Go.Proofs.YtoggeiaofpdboaaDoor.Gap
