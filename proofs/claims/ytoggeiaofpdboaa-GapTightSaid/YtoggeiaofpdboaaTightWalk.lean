/- The law GapTight, walked (written by gen_tight.py). -/
import Derived.Test.YtoggeiaofpdboaaGapD
namespace Go.Proofs.Ytoggeiaofpdboaa.Gap
open Go Go.RowKit Go.Lib Oct Num OwX


set_option maxRecDepth 100000 in
set_option maxHeartbeats 2000000 in
theorem tight_all (s : ByteArray) (N v : Int) (w : World) (hs : s.size ≤ maxLen) (hN0 : 0 ≤ N) (hN1 : N ≤ 65535) (hv0 : 0 ≤ v) (hv1 : v ≤ 65535) :
    Calls Try.prog 3 #[.string s, .int .u16 N, .int .u16 v] w fun e w' => e = .returned (.bool true) ∧ Below w.heap.size w w' := by
  refine Kn.calls Try.func3 rfl Try.ntmps3 rfl (.cons (t := 0) rfl (.cons (t := 1) rfl (.cons (t := 2) rfl .nil))) fun fa0 fh0 => ?_
  refine wp_seq_k fun K1 hK1 => ?_
  refine wp_region_lit ?_
  refine Kn.pure fh0 rfl rfl .none (Kn.ex_assign fh0 .const) fun fa1 fh1 => ?_
  clear fh0 fa0
  refine wpList_nil ?_
  refine hK1 _ _ ?_
  clear hK1 K1
  refine wp_seq_k fun K2 hK2 => ?_
  refine wp_seq_k fun K3 hK3 => ?_
  refine wp_region_lit ?_
  refine Kn.call fh1 rfl rfl .none (Kn.ex_call fh1 .nil) Try.call5 (awake6 w) fun e w1 hp => ?_
  obtain ⟨rfl, hb1⟩ := hp
  refine ⟨_, rfl, fun fa2 fh2 => ?_⟩
  clear fh1 fa1
  refine Kn.step fh2 rfl rfl .none (Kn.ex_un fh2 (.tmp rfl)) fun Ko hKo => ?_
  go_simp
  try go_bits
  refine hKo _ _ fun fa3 fh3 => ?_
  clear hKo Ko fh2 fa2
  refine wpList_nil ?_
  refine hK3 _ _ ?_
  clear hK3 K3
  replace fh3 := fh3.cut (.cons (t := 15) rfl (.cons (t := 6) rfl (.cons (t := 0) rfl (.cons (t := 1) rfl (.cons (t := 2) rfl .nil)))))
  refine Kn.no fh3 (.tmp rfl) ?_
  refine wp_skip ?_
  refine hK2 _ _ ?_
  clear hK2 K2
  replace fh3 := fh3.cut (.cons (t := 6) rfl (.cons (t := 0) rfl (.cons (t := 1) rfl (.cons (t := 2) rfl .nil))))
  have HB1 := Lib.hid hb1
  clear hb1
  by_cases h1 : (300 : Int) < (s.size : Int)
  · refine wp_seq_k fun K4 hK4 => ?_
    refine wp_seq_k fun K5 hK5 => ?_
    refine wp_region_lit ?_
    refine Kn.pure fh3 rfl rfl .none (Kn.ex_move fh3 (.tmp rfl)) fun fa4 fh4 => ?_
    clear fh3 fa3
    refine Kn.step fh4 rfl rfl .none (Kn.ex_len fh4 (.tmp rfl)) fun Ko hKo => ?_
    go_simp
    try go_bits
    refine hKo _ _ fun fa5 fh5 => ?_
    clear hKo Ko fh4 fa4
    refine Kn.step fh5 rfl rfl .none (Kn.ex_bin fh5 (.tmp rfl) .const) fun Ko hKo => ?_
    go_simp
    try go_bits
    refine hKo _ _ fun fa6 fh6 => ?_
    clear hKo Ko fh5 fa5
    refine wpList_nil ?_
    refine hK5 _ _ ?_
    clear hK5 K5
    replace fh6 := fh6.cut (.cons (t := 18) rfl (.cons (t := 6) rfl (.cons (t := 0) rfl (.cons (t := 1) rfl (.cons (t := 2) rfl .nil)))))
    refine Kn.yes fh6 (.tmp rfl) ?_
    replace fh6 := fh6.cut (.cons (t := 6) rfl (.cons (t := 0) rfl (.cons (t := 1) rfl (.cons (t := 2) rfl .nil))))
    refine wp_seq_k fun K6 hK6 => ?_
    refine wp_region_lit ?_
    refine Kn.pure fh6 rfl rfl .none (Kn.ex_assign fh6 .const) fun fa7 fh7 => ?_
    clear fh6 fa6
    refine wpList_nil ?_
    refine hK6 _ _ ?_
    clear hK6 K6
    refine wp_ret ?_
    refine Kn.then_ret ?_
    exact Kn.ret1 fh7 rfl rfl ⟨rfl, HB1.out⟩
  refine wp_seq_k fun K4 hK4 => ?_
  refine wp_seq_k fun K5 hK5 => ?_
  refine wp_region_lit ?_
  refine Kn.pure fh3 rfl rfl .none (Kn.ex_move fh3 (.tmp rfl)) fun fa4 fh4 => ?_
  clear fh3 fa3
  refine Kn.step fh4 rfl rfl .none (Kn.ex_len fh4 (.tmp rfl)) fun Ko hKo => ?_
  go_simp
  try go_bits
  refine hKo _ _ fun fa5 fh5 => ?_
  clear hKo Ko fh4 fa4
  refine Kn.step fh5 rfl rfl .none (Kn.ex_bin fh5 (.tmp rfl) .const) fun Ko hKo => ?_
  go_simp
  try go_bits
  refine hKo _ _ fun fa6 fh6 => ?_
  clear hKo Ko fh5 fa5
  refine wpList_nil ?_
  refine hK5 _ _ ?_
  clear hK5 K5
  replace fh6 := fh6.cut (.cons (t := 18) rfl (.cons (t := 6) rfl (.cons (t := 0) rfl (.cons (t := 1) rfl (.cons (t := 2) rfl .nil)))))
  refine Kn.no fh6 (.tmp rfl) ?_
  refine wp_skip ?_
  refine hK4 _ _ ?_
  clear hK4 K4
  replace fh6 := fh6.cut (.cons (t := 6) rfl (.cons (t := 0) rfl (.cons (t := 1) rfl (.cons (t := 2) rfl .nil))))
  have hs3 : s.size ≤ 300 := by omega
  clear h1 hs
  have hs : s.size ≤ maxLen := by unfold maxLen; omega
  by_cases hN : 4096 < N
  · have hg := gGet_arg s 0 N v w1 (.inr hN)
    unfold faultV at hg
    refine wp_seq_k fun K6 hK6 => ?_
    refine wp_region_lit ?_
    refine Kn.pure fh6 rfl rfl .none (Kn.ex_move fh6 (.tmp rfl)) fun fa7 fh7 => ?_
    clear fh6 fa6
    refine Kn.pure fh7 rfl rfl .none (Kn.ex_move fh7 (.tmp rfl)) fun fa8 fh8 => ?_
    clear fh7 fa7
    refine Kn.step fh8 rfl rfl .none (Kn.ex_convert fh8 (.tmp rfl)) fun Ko hKo => ?_
    go_simp
    try go_bits
    refine hKo _ _ fun fa9 fh9 => ?_
    clear hKo Ko fh8 fa8
    refine Kn.pure fh9 rfl rfl .none (Kn.ex_move fh9 (.tmp rfl)) fun fa10 fh10 => ?_
    clear fh9 fa9
    refine Kn.step fh10 rfl rfl .none (Kn.ex_convert fh10 (.tmp rfl)) fun Ko hKo => ?_
    go_simp
    try go_bits
    refine hKo _ _ fun fa11 fh11 => ?_
    clear hKo Ko fh10 fa10
    refine Kn.call fh11 rfl rfl .none (Kn.ex_call fh11 (.cons (.tmp rfl) (.cons .const (.cons (.tmp rfl) (.cons (.tmp rfl) .nil))))) Try.call6 (hg) fun e w2 hp => ?_
    obtain ⟨rfl, rfl⟩ := hp
    refine ⟨_, rfl, fun fa12 fh12 => ?_⟩
    clear fh11 fa11
    refine Kn.pure fh12 rfl rfl .none (Kn.ex_move fh12 (.tmp rfl)) fun fa13 fh13 => ?_
    clear fh12 fa12
    refine Kn.pure fh13 rfl rfl .none (Kn.ex_extract fh13 (.tmp rfl) rfl) fun fa14 fh14 => ?_
    clear fh13 fa13
    refine Kn.pure fh14 rfl rfl .none (Kn.ex_extract fh14 (.tmp rfl) rfl) fun fa15 fh15 => ?_
    clear fh14 fa14
    refine Kn.pure fh15 rfl rfl .none (Kn.ex_extract fh15 (.tmp rfl) rfl) fun fa16 fh16 => ?_
    clear fh15 fa15
    refine Kn.pure fh16 rfl rfl .none (Kn.ex_assign fh16 (.tmp rfl)) fun fa17 fh17 => ?_
    clear fh16 fa16
    refine Kn.pure fh17 rfl rfl .none (Kn.ex_assign fh17 (.tmp rfl)) fun fa18 fh18 => ?_
    clear fh17 fa17
    refine Kn.pure fh18 rfl rfl .none (Kn.ex_assign fh18 (.tmp rfl)) fun fa19 fh19 => ?_
    clear fh18 fa18
    refine wpList_nil ?_
    refine hK6 _ _ ?_
    clear hK6 K6
    replace fh19 := fh19.cut (.cons (t := 9) rfl (.cons (t := 8) rfl (.cons (t := 7) rfl (.cons (t := 6) rfl (.cons (t := 0) rfl (.cons (t := 1) rfl (.cons (t := 2) rfl .nil)))))))
    clear hg
    refine wp_seq_k fun K7 hK7 => ?_
    refine wp_seq_k fun K8 hK8 => ?_
    refine wp_region_lit ?_
    refine Kn.pure fh19 rfl rfl .none (Kn.ex_move fh19 (.tmp rfl)) fun fa20 fh20 => ?_
    clear fh19 fa19
    refine Kn.step fh20 rfl rfl .none (Kn.ex_bin fh20 (.tmp rfl) .const) fun Ko hKo => ?_
    go_simp
    try go_bits
    refine hKo _ _ fun fa21 fh21 => ?_
    clear hKo Ko fh20 fa20
    refine wpList_nil ?_
    refine hK8 _ _ ?_
    clear hK8 K8
    replace fh21 := fh21.cut (.cons (t := 30) rfl (.cons (t := 8) rfl (.cons (t := 7) rfl (.cons (t := 6) rfl (.cons (t := 0) rfl (.cons (t := 1) rfl (.cons (t := 2) rfl .nil)))))))
    refine Kn.yes fh21 (.tmp rfl) ?_
    replace fh21 := fh21.cut (.cons (t := 8) rfl (.cons (t := 7) rfl (.cons (t := 6) rfl (.cons (t := 0) rfl (.cons (t := 1) rfl (.cons (t := 2) rfl .nil))))))
    refine wp_seq_k fun K9 hK9 => ?_
    refine wp_region_lit ?_
    refine Kn.pure fh21 rfl rfl .none (Kn.ex_move fh21 (.tmp rfl)) fun fa22 fh22 => ?_
    clear fh21 fa21
    refine Kn.step fh22 rfl rfl .none (Kn.ex_len fh22 (.tmp rfl)) fun Ko hKo => ?_
    go_simp
    try go_bits
    refine hKo _ _ fun fa23 fh23 => ?_
    clear hKo Ko fh22 fa22
    refine Kn.step fh23 rfl rfl .none (Kn.ex_bin fh23 (.tmp rfl) .const) fun Ko hKo => ?_
    go_simp
    try go_bits
    refine hKo _ _ fun fa24 fh24 => ?_
    clear hKo Ko fh23 fa23
    refine Kn.pure fh24 rfl rfl .none (Kn.ex_move fh24 (.tmp rfl)) fun fa25 fh25 => ?_
    clear fh24 fa24
    refine Kn.pure fh25 rfl rfl (.some rfl rfl rfl) (Kn.ex_move fh25 (.tmp rfl)) fun fa26 fh26 => ?_
    clear fh25 fa25
    refine Kn.step fh26 rfl rfl (.some rfl rfl rfl) (Kn.ex_bin fh26 (.tmp rfl) .const) fun Ko hKo => ?_
    go_simp
    try go_bits
    refine hKo _ _ fun fa27 fh27 => ?_
    clear hKo Ko fh26 fa26
    refine Kn.pure fh27 rfl rfl .none (Kn.ex_pick fh27 (.tmp rfl) (.tmp rfl)) fun fa28 fh28 => ?_
    clear fh27 fa27
    refine Kn.pure fh28 rfl rfl .none (Kn.ex_assign fh28 (.tmp rfl)) fun fa29 fh29 => ?_
    clear fh28 fa28
    refine wpList_nil ?_
    refine hK9 _ _ ?_
    clear hK9 K9
    replace fh29 := fh29.cut (.cons (t := 6) rfl (.cons (t := 8) rfl (.cons (t := 7) rfl (.cons (t := 0) rfl (.cons (t := 1) rfl (.cons (t := 2) rfl .nil))))))
    refine wp_ret ?_
    refine Kn.then_ret ?_
    exact Kn.ret1 fh29 rfl rfl ⟨rfl, HB1.out⟩
  by_cases hv : N ≤ v
  · have hg := gGet_range s 0 N v w1 hN0 (by omega) (.inr hv)
    unfold faultV at hg
    refine wp_seq_k fun K6 hK6 => ?_
    refine wp_region_lit ?_
    refine Kn.pure fh6 rfl rfl .none (Kn.ex_move fh6 (.tmp rfl)) fun fa7 fh7 => ?_
    clear fh6 fa6
    refine Kn.pure fh7 rfl rfl .none (Kn.ex_move fh7 (.tmp rfl)) fun fa8 fh8 => ?_
    clear fh7 fa7
    refine Kn.step fh8 rfl rfl .none (Kn.ex_convert fh8 (.tmp rfl)) fun Ko hKo => ?_
    go_simp
    try go_bits
    refine hKo _ _ fun fa9 fh9 => ?_
    clear hKo Ko fh8 fa8
    refine Kn.pure fh9 rfl rfl .none (Kn.ex_move fh9 (.tmp rfl)) fun fa10 fh10 => ?_
    clear fh9 fa9
    refine Kn.step fh10 rfl rfl .none (Kn.ex_convert fh10 (.tmp rfl)) fun Ko hKo => ?_
    go_simp
    try go_bits
    refine hKo _ _ fun fa11 fh11 => ?_
    clear hKo Ko fh10 fa10
    refine Kn.call fh11 rfl rfl .none (Kn.ex_call fh11 (.cons (.tmp rfl) (.cons .const (.cons (.tmp rfl) (.cons (.tmp rfl) .nil))))) Try.call6 (hg) fun e w2 hp => ?_
    obtain ⟨rfl, rfl⟩ := hp
    refine ⟨_, rfl, fun fa12 fh12 => ?_⟩
    clear fh11 fa11
    refine Kn.pure fh12 rfl rfl .none (Kn.ex_move fh12 (.tmp rfl)) fun fa13 fh13 => ?_
    clear fh12 fa12
    refine Kn.pure fh13 rfl rfl .none (Kn.ex_extract fh13 (.tmp rfl) rfl) fun fa14 fh14 => ?_
    clear fh13 fa13
    refine Kn.pure fh14 rfl rfl .none (Kn.ex_extract fh14 (.tmp rfl) rfl) fun fa15 fh15 => ?_
    clear fh14 fa14
    refine Kn.pure fh15 rfl rfl .none (Kn.ex_extract fh15 (.tmp rfl) rfl) fun fa16 fh16 => ?_
    clear fh15 fa15
    refine Kn.pure fh16 rfl rfl .none (Kn.ex_assign fh16 (.tmp rfl)) fun fa17 fh17 => ?_
    clear fh16 fa16
    refine Kn.pure fh17 rfl rfl .none (Kn.ex_assign fh17 (.tmp rfl)) fun fa18 fh18 => ?_
    clear fh17 fa17
    refine Kn.pure fh18 rfl rfl .none (Kn.ex_assign fh18 (.tmp rfl)) fun fa19 fh19 => ?_
    clear fh18 fa18
    refine wpList_nil ?_
    refine hK6 _ _ ?_
    clear hK6 K6
    replace fh19 := fh19.cut (.cons (t := 9) rfl (.cons (t := 8) rfl (.cons (t := 7) rfl (.cons (t := 6) rfl (.cons (t := 0) rfl (.cons (t := 1) rfl (.cons (t := 2) rfl .nil)))))))
    clear hg
    refine wp_seq_k fun K7 hK7 => ?_
    refine wp_seq_k fun K8 hK8 => ?_
    refine wp_region_lit ?_
    refine Kn.pure fh19 rfl rfl .none (Kn.ex_move fh19 (.tmp rfl)) fun fa20 fh20 => ?_
    clear fh19 fa19
    refine Kn.step fh20 rfl rfl .none (Kn.ex_bin fh20 (.tmp rfl) .const) fun Ko hKo => ?_
    go_simp
    try go_bits
    refine hKo _ _ fun fa21 fh21 => ?_
    clear hKo Ko fh20 fa20
    refine wpList_nil ?_
    refine hK8 _ _ ?_
    clear hK8 K8
    replace fh21 := fh21.cut (.cons (t := 30) rfl (.cons (t := 8) rfl (.cons (t := 7) rfl (.cons (t := 6) rfl (.cons (t := 0) rfl (.cons (t := 1) rfl (.cons (t := 2) rfl .nil)))))))
    refine Kn.yes fh21 (.tmp rfl) ?_
    replace fh21 := fh21.cut (.cons (t := 8) rfl (.cons (t := 7) rfl (.cons (t := 6) rfl (.cons (t := 0) rfl (.cons (t := 1) rfl (.cons (t := 2) rfl .nil))))))
    refine wp_seq_k fun K9 hK9 => ?_
    refine wp_region_lit ?_
    refine Kn.pure fh21 rfl rfl .none (Kn.ex_move fh21 (.tmp rfl)) fun fa22 fh22 => ?_
    clear fh21 fa21
    refine Kn.step fh22 rfl rfl .none (Kn.ex_len fh22 (.tmp rfl)) fun Ko hKo => ?_
    go_simp
    try go_bits
    refine hKo _ _ fun fa23 fh23 => ?_
    clear hKo Ko fh22 fa22
    refine Kn.step fh23 rfl rfl .none (Kn.ex_bin fh23 (.tmp rfl) .const) fun Ko hKo => ?_
    go_simp
    try go_bits
    refine hKo _ _ fun fa24 fh24 => ?_
    clear hKo Ko fh23 fa23
    refine Kn.pure fh24 rfl rfl .none (Kn.ex_move fh24 (.tmp rfl)) fun fa25 fh25 => ?_
    clear fh24 fa24
    refine Kn.pure fh25 rfl rfl (.some rfl rfl rfl) (Kn.ex_move fh25 (.tmp rfl)) fun fa26 fh26 => ?_
    clear fh25 fa25
    refine Kn.step fh26 rfl rfl (.some rfl rfl rfl) (Kn.ex_bin fh26 (.tmp rfl) .const) fun Ko hKo => ?_
    go_simp
    try go_bits
    refine hKo _ _ fun fa27 fh27 => ?_
    clear hKo Ko fh26 fa26
    refine Kn.pure fh27 rfl rfl .none (Kn.ex_pick fh27 (.tmp rfl) (.tmp rfl)) fun fa28 fh28 => ?_
    clear fh27 fa27
    refine Kn.pure fh28 rfl rfl .none (Kn.ex_assign fh28 (.tmp rfl)) fun fa29 fh29 => ?_
    clear fh28 fa28
    refine wpList_nil ?_
    refine hK9 _ _ ?_
    clear hK9 K9
    replace fh29 := fh29.cut (.cons (t := 6) rfl (.cons (t := 8) rfl (.cons (t := 7) rfl (.cons (t := 0) rfl (.cons (t := 1) rfl (.cons (t := 2) rfl .nil))))))
    refine wp_ret ?_
    refine Kn.then_ret ?_
    exact Kn.ret1 fh29 rfl rfl ⟨rfl, HB1.out⟩
  have hg := gGet_any s 0 N v w1 hs (by omega) hv0 (by omega)
  obtain ⟨r, hr⟩ : ∃ r, gtC s 0 N v = r := ⟨_, rfl⟩
  rw [hr] at hg
  have HR := Lib.hid hr
  clear hr
  rcases r with ⟨x, a⟩ | ⟨l, nx⟩
  · have hg2 : Calls Try.prog 6 #[.string s, .int .i64 0, .int .i64 N, .int .i64 v] w1 fun e w' => e = .returned (.tuple #[.slice none 0 0, .int .i64 0, .iface 52 (.agg #[.int .i64 a, .iface 46 (.int .i64 x)])]) ∧ Below w1.heap.size w1 w' := by
      refine hg.mono fun e w' hc => ?_
      obtain ⟨hb, h⟩ := hc
      rcases h with ⟨x', a', he, -, hh⟩ | ⟨l, nx, g, he, -⟩
      · cases he; exact ⟨hh, hb⟩
      · cases he
    clear hg
    refine wp_seq_k fun K6 hK6 => ?_
    refine wp_region_lit ?_
    refine Kn.pure fh6 rfl rfl .none (Kn.ex_move fh6 (.tmp rfl)) fun fa7 fh7 => ?_
    clear fh6 fa6
    refine Kn.pure fh7 rfl rfl .none (Kn.ex_move fh7 (.tmp rfl)) fun fa8 fh8 => ?_
    clear fh7 fa7
    refine Kn.step fh8 rfl rfl .none (Kn.ex_convert fh8 (.tmp rfl)) fun Ko hKo => ?_
    go_simp
    try go_bits
    refine hKo _ _ fun fa9 fh9 => ?_
    clear hKo Ko fh8 fa8
    refine Kn.pure fh9 rfl rfl .none (Kn.ex_move fh9 (.tmp rfl)) fun fa10 fh10 => ?_
    clear fh9 fa9
    refine Kn.step fh10 rfl rfl .none (Kn.ex_convert fh10 (.tmp rfl)) fun Ko hKo => ?_
    go_simp
    try go_bits
    refine hKo _ _ fun fa11 fh11 => ?_
    clear hKo Ko fh10 fa10
    refine Kn.call fh11 rfl rfl .none (Kn.ex_call fh11 (.cons (.tmp rfl) (.cons .const (.cons (.tmp rfl) (.cons (.tmp rfl) .nil))))) Try.call6 (hg2) fun e w2 hp => ?_
    obtain ⟨rfl, hb2⟩ := hp
    refine ⟨_, rfl, fun fa12 fh12 => ?_⟩
    clear fh11 fa11
    refine Kn.pure fh12 rfl rfl .none (Kn.ex_move fh12 (.tmp rfl)) fun fa13 fh13 => ?_
    clear fh12 fa12
    refine Kn.pure fh13 rfl rfl .none (Kn.ex_extract fh13 (.tmp rfl) rfl) fun fa14 fh14 => ?_
    clear fh13 fa13
    refine Kn.pure fh14 rfl rfl .none (Kn.ex_extract fh14 (.tmp rfl) rfl) fun fa15 fh15 => ?_
    clear fh14 fa14
    refine Kn.pure fh15 rfl rfl .none (Kn.ex_extract fh15 (.tmp rfl) rfl) fun fa16 fh16 => ?_
    clear fh15 fa15
    refine Kn.pure fh16 rfl rfl .none (Kn.ex_assign fh16 (.tmp rfl)) fun fa17 fh17 => ?_
    clear fh16 fa16
    refine Kn.pure fh17 rfl rfl .none (Kn.ex_assign fh17 (.tmp rfl)) fun fa18 fh18 => ?_
    clear fh17 fa17
    refine Kn.pure fh18 rfl rfl .none (Kn.ex_assign fh18 (.tmp rfl)) fun fa19 fh19 => ?_
    clear fh18 fa18
    refine wpList_nil ?_
    refine hK6 _ _ ?_
    clear hK6 K6
    replace fh19 := fh19.cut (.cons (t := 9) rfl (.cons (t := 8) rfl (.cons (t := 7) rfl (.cons (t := 6) rfl (.cons (t := 0) rfl (.cons (t := 1) rfl (.cons (t := 2) rfl .nil)))))))
    clear hg2
    have HB2 := Lib.hid (HB1.out.trans (hb2.mono HB1.out.size))
    clear hb2
    refine wp_seq_k fun K7 hK7 => ?_
    refine wp_seq_k fun K8 hK8 => ?_
    refine wp_region_lit ?_
    refine Kn.pure fh19 rfl rfl .none (Kn.ex_move fh19 (.tmp rfl)) fun fa20 fh20 => ?_
    clear fh19 fa19
    refine Kn.step fh20 rfl rfl .none (Kn.ex_bin fh20 (.tmp rfl) .const) fun Ko hKo => ?_
    go_simp
    try go_bits
    refine hKo _ _ fun fa21 fh21 => ?_
    clear hKo Ko fh20 fa20
    refine wpList_nil ?_
    refine hK8 _ _ ?_
    clear hK8 K8
    replace fh21 := fh21.cut (.cons (t := 30) rfl (.cons (t := 8) rfl (.cons (t := 7) rfl (.cons (t := 6) rfl (.cons (t := 0) rfl (.cons (t := 1) rfl (.cons (t := 2) rfl .nil)))))))
    refine Kn.yes fh21 (.tmp rfl) ?_
    replace fh21 := fh21.cut (.cons (t := 8) rfl (.cons (t := 7) rfl (.cons (t := 6) rfl (.cons (t := 0) rfl (.cons (t := 1) rfl (.cons (t := 2) rfl .nil))))))
    refine wp_seq_k fun K9 hK9 => ?_
    refine wp_region_lit ?_
    refine Kn.pure fh21 rfl rfl .none (Kn.ex_move fh21 (.tmp rfl)) fun fa22 fh22 => ?_
    clear fh21 fa21
    refine Kn.step fh22 rfl rfl .none (Kn.ex_len fh22 (.tmp rfl)) fun Ko hKo => ?_
    go_simp
    try go_bits
    refine hKo _ _ fun fa23 fh23 => ?_
    clear hKo Ko fh22 fa22
    refine Kn.step fh23 rfl rfl .none (Kn.ex_bin fh23 (.tmp rfl) .const) fun Ko hKo => ?_
    go_simp
    try go_bits
    refine hKo _ _ fun fa24 fh24 => ?_
    clear hKo Ko fh23 fa23
    refine Kn.pure fh24 rfl rfl .none (Kn.ex_move fh24 (.tmp rfl)) fun fa25 fh25 => ?_
    clear fh24 fa24
    refine Kn.pure fh25 rfl rfl (.some rfl rfl rfl) (Kn.ex_move fh25 (.tmp rfl)) fun fa26 fh26 => ?_
    clear fh25 fa25
    refine Kn.step fh26 rfl rfl (.some rfl rfl rfl) (Kn.ex_bin fh26 (.tmp rfl) .const) fun Ko hKo => ?_
    go_simp
    try go_bits
    refine hKo _ _ fun fa27 fh27 => ?_
    clear hKo Ko fh26 fa26
    refine Kn.pure fh27 rfl rfl .none (Kn.ex_pick fh27 (.tmp rfl) (.tmp rfl)) fun fa28 fh28 => ?_
    clear fh27 fa27
    refine Kn.pure fh28 rfl rfl .none (Kn.ex_assign fh28 (.tmp rfl)) fun fa29 fh29 => ?_
    clear fh28 fa28
    refine wpList_nil ?_
    refine hK9 _ _ ?_
    clear hK9 K9
    replace fh29 := fh29.cut (.cons (t := 6) rfl (.cons (t := 8) rfl (.cons (t := 7) rfl (.cons (t := 0) rfl (.cons (t := 1) rfl (.cons (t := 2) rfl .nil))))))
    refine wp_ret ?_
    refine Kn.then_ret ?_
    exact Kn.ret1 fh29 rfl rfl ⟨rfl, HB2.out⟩
  have hg2 : Calls Try.prog 6 #[.string s, .int .i64 0, .int .i64 N, .int .i64 v] w1 fun e w' => ∃ g, e = .returned (.tuple #[.slice (some ⟨g, 0, none⟩) l.length l.length, .int .i64 nx, .nilIface]) ∧ HoldI w' g l ∧ Below w1.heap.size w1 w' := by
    refine hg.mono fun e w' hc => ?_
    obtain ⟨hb, h⟩ := hc
    rcases h with ⟨x', a', he, -⟩ | ⟨l', nx', g, he, h1, h2, -⟩
    · cases he
    · cases he; exact ⟨g, h1, h2, hb⟩
  clear hg
  obtain ⟨hgood, hnx, hns, hd⟩ := got_is (p := 0) (by omega) hv0 (by omega) HR.out
  have hlN := hgood.len hN0
  have HGd := Lib.hid hgood
  obtain ⟨q, hq⟩ : ∃ q : Nat, nx = (q : Int) := ⟨nx.toNat, by omega⟩
  subst hq
  have HD : Hid (s.extract 0 q = bs (putF v l l.length)) := Lib.hid (by
    have e : q = (putF v l l.length).length := by omega
    rw [List.drop_zero] at hd
    rw [extract_bs, e, hd, List.take_left])
  have hq2 : q ≤ s.size := by omega
  clear hgood hnx hns hd HR
  refine wp_seq_k fun K6 hK6 => ?_
  refine wp_region_lit ?_
  refine Kn.pure fh6 rfl rfl .none (Kn.ex_move fh6 (.tmp rfl)) fun fa7 fh7 => ?_
  clear fh6 fa6
  refine Kn.pure fh7 rfl rfl .none (Kn.ex_move fh7 (.tmp rfl)) fun fa8 fh8 => ?_
  clear fh7 fa7
  refine Kn.step fh8 rfl rfl .none (Kn.ex_convert fh8 (.tmp rfl)) fun Ko hKo => ?_
  go_simp
  try go_bits
  refine hKo _ _ fun fa9 fh9 => ?_
  clear hKo Ko fh8 fa8
  refine Kn.pure fh9 rfl rfl .none (Kn.ex_move fh9 (.tmp rfl)) fun fa10 fh10 => ?_
  clear fh9 fa9
  refine Kn.step fh10 rfl rfl .none (Kn.ex_convert fh10 (.tmp rfl)) fun Ko hKo => ?_
  go_simp
  try go_bits
  refine hKo _ _ fun fa11 fh11 => ?_
  clear hKo Ko fh10 fa10
  refine Kn.call fh11 rfl rfl .none (Kn.ex_call fh11 (.cons (.tmp rfl) (.cons .const (.cons (.tmp rfl) (.cons (.tmp rfl) .nil))))) Try.call6 (hg2) fun e w2 hp => ?_
  obtain ⟨g, rfl, hH, hb2⟩ := hp
  refine ⟨_, rfl, fun fa12 fh12 => ?_⟩
  clear fh11 fa11
  refine Kn.pure fh12 rfl rfl .none (Kn.ex_move fh12 (.tmp rfl)) fun fa13 fh13 => ?_
  clear fh12 fa12
  refine Kn.pure fh13 rfl rfl .none (Kn.ex_extract fh13 (.tmp rfl) rfl) fun fa14 fh14 => ?_
  clear fh13 fa13
  refine Kn.pure fh14 rfl rfl .none (Kn.ex_extract fh14 (.tmp rfl) rfl) fun fa15 fh15 => ?_
  clear fh14 fa14
  refine Kn.pure fh15 rfl rfl .none (Kn.ex_extract fh15 (.tmp rfl) rfl) fun fa16 fh16 => ?_
  clear fh15 fa15
  refine Kn.pure fh16 rfl rfl .none (Kn.ex_assign fh16 (.tmp rfl)) fun fa17 fh17 => ?_
  clear fh16 fa16
  refine Kn.pure fh17 rfl rfl .none (Kn.ex_assign fh17 (.tmp rfl)) fun fa18 fh18 => ?_
  clear fh17 fa17
  refine Kn.pure fh18 rfl rfl .none (Kn.ex_assign fh18 (.tmp rfl)) fun fa19 fh19 => ?_
  clear fh18 fa18
  refine wpList_nil ?_
  refine hK6 _ _ ?_
  clear hK6 K6
  replace fh19 := fh19.cut (.cons (t := 9) rfl (.cons (t := 8) rfl (.cons (t := 7) rfl (.cons (t := 6) rfl (.cons (t := 0) rfl (.cons (t := 1) rfl (.cons (t := 2) rfl .nil)))))))
  clear hg2
  have HB2 := Lib.hid (HB1.out.trans (hb2.mono HB1.out.size))
  have HH := Lib.hid hH
  clear hb2 hH HB1
  refine wp_seq_k fun K7 hK7 => ?_
  refine wp_seq_k fun K8 hK8 => ?_
  refine wp_region_lit ?_
  refine Kn.pure fh19 rfl rfl .none (Kn.ex_move fh19 (.tmp rfl)) fun fa20 fh20 => ?_
  clear fh19 fa19
  refine Kn.step fh20 rfl rfl .none (Kn.ex_bin fh20 (.tmp rfl) .const) fun Ko hKo => ?_
  go_simp
  try go_bits
  refine hKo _ _ fun fa21 fh21 => ?_
  clear hKo Ko fh20 fa20
  refine wpList_nil ?_
  refine hK8 _ _ ?_
  clear hK8 K8
  replace fh21 := fh21.cut (.cons (t := 30) rfl (.cons (t := 8) rfl (.cons (t := 7) rfl (.cons (t := 6) rfl (.cons (t := 0) rfl (.cons (t := 1) rfl (.cons (t := 2) rfl .nil)))))))
  refine Kn.no fh21 (.tmp rfl) ?_
  refine wp_skip ?_
  refine hK7 _ _ ?_
  clear hK7 K7
  replace fh21 := fh21.cut (.cons (t := 8) rfl (.cons (t := 7) rfl (.cons (t := 6) rfl (.cons (t := 0) rfl (.cons (t := 1) rfl (.cons (t := 2) rfl .nil))))))
  refine wp_seq_k fun K9 hK9 => ?_
  refine wp_seq_k fun K10 hK10 => ?_
  refine wp_region_lit ?_
  refine Kn.pure fh21 rfl rfl .none (Kn.ex_move fh21 (.tmp rfl)) fun fa22 fh22 => ?_
  clear fh21 fa21
  refine Kn.step fh22 rfl rfl .none (Kn.ex_len fh22 (.tmp rfl)) fun Ko hKo => ?_
  go_simp
  try go_bits
  refine hKo _ _ fun fa23 fh23 => ?_
  clear hKo Ko fh22 fa22
  refine Kn.pure fh23 rfl rfl .none (Kn.ex_move fh23 .const) fun fa24 fh24 => ?_
  clear fh23 fa23
  refine wpList_nil ?_
  refine hK10 _ _ ?_
  clear hK10 K10
  refine wp_block ?_
  refine Kn.loop (fun m fr u => ∃ (k d : Nat), Kn.Kn 85 [(40, .int .i64 (k : Int)), (39, .int .i64 (l.length : Int)), (38, .slice (some ⟨g, 0, none⟩) l.length l.length), (7, .slice (some ⟨g, 0, none⟩) l.length l.length), (8, .int .i64 (q : Int)), (0, .string s), (1, .int .u16 N), (2, .int .u16 v)] fr ∧ k + m = l.length ∧ u = w2.drewN d) l.length ⟨0, 0, fh24.cut (.turn (t := 40) rfl rfl (.cons (t := 39) rfl (.cons (t := 38) rfl (.cons (t := 7) rfl (.cons (t := 8) rfl (.cons (t := 0) rfl (.cons (t := 1) rfl (.cons (t := 2) rfl .nil)))))))), by omega, rfl⟩ ?_
  clear fh24 fa24
  intro m11 fa25 u hI Kl11 hKl11
  obtain ⟨k, d, fh25, hk, rfl⟩ := hI
  by_cases hlt : k < l.length
  · have c1 := (HH.out k hlt).1
    obtain ⟨x, hx⟩ : ∃ x, nt l k = x := ⟨_, rfl⟩
    have hxr := HGd.out.1 k hlt
    rw [hx] at c1 hxr
    have p1 : ¬ x < 0 := by omega
    have p2 : ¬ N ≤ x := by omega
    have HX := Lib.hid hx
    clear hx
    refine wp_seq_k fun K12 hK12 => ?_
    refine wp_region_lit ?_
    refine Kn.step fh25 rfl rfl .none (Kn.ex_bin fh25 (.tmp rfl) (.tmp rfl)) fun Ko hKo => ?_
    go_simp
    try go_bits
    refine hKo _ _ fun fa26 fh26 => ?_
    clear hKo Ko fh25 fa25
    refine wpList_nil ?_
    refine hK12 _ _ ?_
    clear hK12 K12
    refine wp_seq_k fun K13 hK13 => ?_
    refine Kn.yes fh26 (.tmp rfl) ?_
    refine wp_skip ?_
    refine hK13 _ _ ?_
    clear hK13 K13
    replace fh26 := fh26.cut (.cons (t := 40) rfl (.cons (t := 39) rfl (.cons (t := 38) rfl (.cons (t := 7) rfl (.cons (t := 8) rfl (.cons (t := 0) rfl (.cons (t := 1) rfl (.cons (t := 2) rfl .nil))))))))
    refine wp_seq_k fun K14 hK14 => ?_
    refine wp_block ?_
    refine wp_seq_k fun K15 hK15 => ?_
    refine wp_region_lit ?_
    refine Kn.pure fh26 rfl rfl .none (Kn.ex_move fh26 (.tmp rfl)) fun fa27 fh27 => ?_
    clear fh26 fa26
    refine Kn.step fh27 rfl rfl .none (Kn.ex_indexAddr fh27 (.tmp rfl) (.tmp rfl)) fun Ko hKo => ?_
    go_simp
    try go_bits
    refine hKo _ _ fun fa28 fh28 => ?_
    clear hKo Ko fh27 fa27
    refine Kn.step fh28 rfl rfl .none (Kn.ex_load fh28 (.tmp rfl)) fun Ko hKo => ?_
    go_simp
    try go_bits
    refine hKo _ _ fun fa29 fh29 => ?_
    clear hKo Ko fh28 fa28
    refine Kn.pure fh29 rfl rfl .none (Kn.ex_assign fh29 (.tmp rfl)) fun fa30 fh30 => ?_
    clear fh29 fa29
    refine Kn.pure fh30 rfl rfl .none (Kn.ex_assign fh30 (.tmp rfl)) fun fa31 fh31 => ?_
    clear fh30 fa30
    refine wpList_nil ?_
    refine hK15 _ _ ?_
    clear hK15 K15
    replace fh31 := fh31.cut (.cons (t := 11) rfl (.cons (t := 10) rfl (.cons (t := 40) rfl (.cons (t := 39) rfl (.cons (t := 38) rfl (.cons (t := 7) rfl (.cons (t := 8) rfl (.cons (t := 0) rfl (.cons (t := 1) rfl (.cons (t := 2) rfl .nil))))))))))
    by_cases hk0 : k = 0
    · have hki : ¬ (0 : Int) < (k : Int) := by omega
      have hki2 : ¬ 0 < k := by omega
      clear hk0
      refine wp_seq_k fun K16 hK16 => ?_
      refine wp_region_lit ?_
      refine Kn.pure fh31 rfl rfl .none (Kn.ex_move fh31 (.tmp rfl)) fun fa32 fh32 => ?_
      clear fh31 fa31
      refine Kn.step fh32 rfl rfl .none (Kn.ex_bin fh32 (.tmp rfl) .const) fun Ko hKo => ?_
      go_simp
      try go_bits
      refine hKo _ _ fun fa33 fh33 => ?_
      clear hKo Ko fh32 fa32
      refine Kn.pure fh33 rfl rfl .none (Kn.ex_move fh33 (.tmp rfl)) fun fa34 fh34 => ?_
      clear fh33 fa33
      refine Kn.pure fh34 rfl rfl (.some rfl rfl rfl) (Kn.ex_move fh34 (.tmp rfl)) fun fa35 fh35 => ?_
      clear fh34 fa34
      refine Kn.pure fh35 rfl rfl (.some rfl rfl rfl) (Kn.ex_move fh35 (.tmp rfl)) fun fa36 fh36 => ?_
      clear fh35 fa35
      refine Kn.step fh36 rfl rfl (.some rfl rfl rfl) (Kn.ex_convert fh36 (.tmp rfl)) fun Ko hKo => ?_
      go_simp
      try go_bits
      refine hKo _ _ fun fa37 fh37 => ?_
      clear hKo Ko fh36 fa36
      refine Kn.step fh37 rfl rfl (.some rfl rfl rfl) (Kn.ex_bin fh37 (.tmp rfl) (.tmp rfl)) fun Ko hKo => ?_
      go_simp
      try go_bits
      refine hKo _ _ fun fa38 fh38 => ?_
      clear hKo Ko fh37 fa37
      refine Kn.pure fh38 rfl rfl .none (Kn.ex_pick fh38 (.tmp rfl) (.tmp rfl)) fun fa39 fh39 => ?_
      clear fh38 fa38
      refine Kn.pure fh39 rfl rfl .none (Kn.ex_move fh39 (.tmp rfl)) fun fa40 fh40 => ?_
      clear fh39 fa39
      refine Kn.pure fh40 rfl rfl (.some rfl rfl rfl) (Kn.ex_move fh40 (.tmp rfl)) fun fa41 fh41 => ?_
      clear fh40 fa40
      refine Kn.step fh41 rfl rfl (.some rfl rfl rfl) (Kn.ex_bin fh41 (.tmp rfl) .const) fun Ko hKo => ?_
      go_simp
      try go_bits
      refine hKo _ _ fun fa42 fh42 => ?_
      clear hKo Ko fh41 fa41
      refine Kn.pure fh42 rfl rfl (.some rfl rfl rfl) (Kn.ex_move fh42 (.tmp rfl)) fun fa43 fh43 => ?_
      clear fh42 fa42
      refine Kn.skip fh43 rfl rfl (.some rfl rfl rfl) fun fa44 fh44 => ?_
      clear fh43 fa43
      refine Kn.skip fh44 rfl rfl (.some rfl rfl rfl) fun fa45 fh45 => ?_
      clear fh44 fa44
      refine Kn.skip fh45 rfl rfl (.some rfl rfl rfl) fun fa46 fh46 => ?_
      clear fh45 fa45
      refine Kn.skip fh46 rfl rfl (.some rfl rfl rfl) fun fa47 fh47 => ?_
      clear fh46 fa46
      refine Kn.skip fh47 rfl rfl (.some rfl rfl rfl) fun fa48 fh48 => ?_
      clear fh47 fa47
      refine Kn.skip fh48 rfl rfl (.some rfl rfl rfl) fun fa49 fh49 => ?_
      clear fh48 fa48
      refine Kn.skip fh49 rfl rfl (.some rfl rfl rfl) fun fa50 fh50 => ?_
      clear fh49 fa49
      refine Kn.pure fh50 rfl rfl (.some rfl rfl rfl) (Kn.ex_pick fh50 (.tmp rfl) .const) fun fa51 fh51 => ?_
      clear fh50 fa50
      refine Kn.pure fh51 rfl rfl .none (Kn.ex_pick fh51 (.tmp rfl) (.tmp rfl)) fun fa52 fh52 => ?_
      clear fh51 fa51
      refine wpList_nil ?_
      refine hK16 _ _ ?_
      clear hK16 K16
      replace fh52 := fh52.cut (.cons (t := 65) rfl (.cons (t := 40) rfl (.cons (t := 39) rfl (.cons (t := 38) rfl (.cons (t := 7) rfl (.cons (t := 8) rfl (.cons (t := 0) rfl (.cons (t := 1) rfl (.cons (t := 2) rfl .nil)))))))))
      refine Kn.no fh52 (.tmp rfl) ?_
      refine wp_skip ?_
      refine Kn.block_normal ?_
      refine hK14 _ _ ?_
      clear hK14 K14
      replace fh52 := fh52.cut (.cons (t := 40) rfl (.cons (t := 39) rfl (.cons (t := 38) rfl (.cons (t := 7) rfl (.cons (t := 8) rfl (.cons (t := 0) rfl (.cons (t := 1) rfl (.cons (t := 2) rfl .nil))))))))
      refine wp_region_lit ?_
      refine Kn.step fh52 rfl rfl .none (Kn.ex_bin fh52 (.tmp rfl) .const) fun Ko hKo => ?_
      go_simp
      try go_bits
      refine hKo _ _ fun fa53 fh53 => ?_
      clear hKo Ko fh52 fa52
      refine Kn.pure fh53 rfl rfl .none (Kn.ex_move fh53 (.tmp rfl)) fun fa54 fh54 => ?_
      clear fh53 fa53
      refine wpList_nil ?_
      replace fh54 := fh54.cut (.cons (t := 40) rfl (.cons (t := 39) rfl (.cons (t := 38) rfl (.cons (t := 7) rfl (.cons (t := 8) rfl (.cons (t := 0) rfl (.cons (t := 1) rfl (.cons (t := 2) rfl .nil))))))))
      exact hKl11 (m11 - 1) _ _ (by omega) ⟨k + 1, d + 0, fh54.cut (.turn (t := 40) rfl (by go_num) (.cons (t := 39) rfl (.cons (t := 38) rfl (.cons (t := 7) rfl (.cons (t := 8) rfl (.cons (t := 0) rfl (.cons (t := 1) rfl (.cons (t := 2) rfl .nil)))))))), by omega, rfl⟩
    obtain ⟨j, hj⟩ : ∃ j, k = j + 1 := ⟨k - 1, by omega⟩
    have hki : (0 : Int) < (k : Int) := by omega
    have hki2 : 0 < k := by omega
    have rj : (k : Int) - 1 = (j : Int) := by omega
    have hjl : j < l.length := by omega
    have cb1 := (HH.out j hjl).1
    obtain ⟨y, hy⟩ : ∃ y, nt l j = y := ⟨_, rfl⟩
    have hup := HGd.out.2 j (by omega)
    rw [← hj, HX.out, hy] at hup
    rw [hy] at cb1
    have e3 : ¬ x ≤ y := by omega
    clear hy hj hk0
    refine wp_seq_k fun K16 hK16 => ?_
    refine wp_region_lit ?_
    refine Kn.pure fh31 rfl rfl .none (Kn.ex_move fh31 (.tmp rfl)) fun fa32 fh32 => ?_
    clear fh31 fa31
    refine Kn.step fh32 rfl rfl .none (Kn.ex_bin fh32 (.tmp rfl) .const) fun Ko hKo => ?_
    go_simp
    try go_bits
    refine hKo _ _ fun fa33 fh33 => ?_
    clear hKo Ko fh32 fa32
    refine Kn.pure fh33 rfl rfl .none (Kn.ex_move fh33 (.tmp rfl)) fun fa34 fh34 => ?_
    clear fh33 fa33
    refine Kn.pure fh34 rfl rfl (.some rfl rfl rfl) (Kn.ex_move fh34 (.tmp rfl)) fun fa35 fh35 => ?_
    clear fh34 fa34
    refine Kn.pure fh35 rfl rfl (.some rfl rfl rfl) (Kn.ex_move fh35 (.tmp rfl)) fun fa36 fh36 => ?_
    clear fh35 fa35
    refine Kn.step fh36 rfl rfl (.some rfl rfl rfl) (Kn.ex_convert fh36 (.tmp rfl)) fun Ko hKo => ?_
    go_simp
    try go_bits
    refine hKo _ _ fun fa37 fh37 => ?_
    clear hKo Ko fh36 fa36
    refine Kn.step fh37 rfl rfl (.some rfl rfl rfl) (Kn.ex_bin fh37 (.tmp rfl) (.tmp rfl)) fun Ko hKo => ?_
    go_simp
    try go_bits
    refine hKo _ _ fun fa38 fh38 => ?_
    clear hKo Ko fh37 fa37
    refine Kn.pure fh38 rfl rfl .none (Kn.ex_pick fh38 (.tmp rfl) (.tmp rfl)) fun fa39 fh39 => ?_
    clear fh38 fa38
    refine Kn.pure fh39 rfl rfl .none (Kn.ex_move fh39 (.tmp rfl)) fun fa40 fh40 => ?_
    clear fh39 fa39
    refine Kn.pure fh40 rfl rfl (.some rfl rfl rfl) (Kn.ex_move fh40 (.tmp rfl)) fun fa41 fh41 => ?_
    clear fh40 fa40
    refine Kn.step fh41 rfl rfl (.some rfl rfl rfl) (Kn.ex_bin fh41 (.tmp rfl) .const) fun Ko hKo => ?_
    go_simp
    try go_bits
    refine hKo _ _ fun fa42 fh42 => ?_
    clear hKo Ko fh41 fa41
    refine Kn.pure fh42 rfl rfl (.some rfl rfl rfl) (Kn.ex_move fh42 (.tmp rfl)) fun fa43 fh43 => ?_
    clear fh42 fa42
    refine Kn.pure fh43 rfl rfl (.some rfl rfl rfl) (Kn.ex_move fh43 (.tmp rfl)) fun fa44 fh44 => ?_
    clear fh43 fa43
    refine Kn.pure fh44 rfl rfl (.some rfl rfl rfl) (Kn.ex_move fh44 (.tmp rfl)) fun fa45 fh45 => ?_
    clear fh44 fa44
    refine Kn.pure fh45 rfl rfl (.some rfl rfl rfl) (Kn.ex_move fh45 (.tmp rfl)) fun fa46 fh46 => ?_
    clear fh45 fa45
    refine Kn.step fh46 rfl rfl (.some rfl rfl rfl) (Kn.ex_bin fh46 (.tmp rfl) .const) fun Ko hKo => ?_
    go_simp
    try go_bits
    try simp only [rj]
    refine hKo _ _ fun fa47 fh47 => ?_
    clear hKo Ko fh46 fa46
    refine Kn.step fh47 rfl rfl (.some rfl rfl rfl) (Kn.ex_indexAddr fh47 (.tmp rfl) (.tmp rfl)) fun Ko hKo => ?_
    go_simp
    try go_bits
    refine hKo _ _ fun fa48 fh48 => ?_
    clear hKo Ko fh47 fa47
    refine Kn.step fh48 rfl rfl (.some rfl rfl rfl) (Kn.ex_load fh48 (.tmp rfl)) fun Ko hKo => ?_
    go_simp
    try go_bits
    refine hKo _ _ fun fa49 fh49 => ?_
    clear hKo Ko fh48 fa48
    refine Kn.step fh49 rfl rfl (.some rfl rfl rfl) (Kn.ex_bin fh49 (.tmp rfl) (.tmp rfl)) fun Ko hKo => ?_
    go_simp
    try go_bits
    refine hKo _ _ fun fa50 fh50 => ?_
    clear hKo Ko fh49 fa49
    refine Kn.pure fh50 rfl rfl (.some rfl rfl rfl) (Kn.ex_pick fh50 (.tmp rfl) (.tmp rfl)) fun fa51 fh51 => ?_
    clear fh50 fa50
    refine Kn.pure fh51 rfl rfl .none (Kn.ex_pick fh51 (.tmp rfl) (.tmp rfl)) fun fa52 fh52 => ?_
    clear fh51 fa51
    refine wpList_nil ?_
    refine hK16 _ _ ?_
    clear hK16 K16
    replace fh52 := fh52.cut (.cons (t := 65) rfl (.cons (t := 40) rfl (.cons (t := 39) rfl (.cons (t := 38) rfl (.cons (t := 7) rfl (.cons (t := 8) rfl (.cons (t := 0) rfl (.cons (t := 1) rfl (.cons (t := 2) rfl .nil)))))))))
    refine Kn.no fh52 (.tmp rfl) ?_
    refine wp_skip ?_
    refine Kn.block_normal ?_
    refine hK14 _ _ ?_
    clear hK14 K14
    replace fh52 := fh52.cut (.cons (t := 40) rfl (.cons (t := 39) rfl (.cons (t := 38) rfl (.cons (t := 7) rfl (.cons (t := 8) rfl (.cons (t := 0) rfl (.cons (t := 1) rfl (.cons (t := 2) rfl .nil))))))))
    refine wp_region_lit ?_
    refine Kn.step fh52 rfl rfl .none (Kn.ex_bin fh52 (.tmp rfl) .const) fun Ko hKo => ?_
    go_simp
    try go_bits
    refine hKo _ _ fun fa53 fh53 => ?_
    clear hKo Ko fh52 fa52
    refine Kn.pure fh53 rfl rfl .none (Kn.ex_move fh53 (.tmp rfl)) fun fa54 fh54 => ?_
    clear fh53 fa53
    refine wpList_nil ?_
    replace fh54 := fh54.cut (.cons (t := 40) rfl (.cons (t := 39) rfl (.cons (t := 38) rfl (.cons (t := 7) rfl (.cons (t := 8) rfl (.cons (t := 0) rfl (.cons (t := 1) rfl (.cons (t := 2) rfl .nil))))))))
    exact hKl11 (m11 - 1) _ _ (by omega) ⟨k + 1, d + 0, fh54.cut (.turn (t := 40) rfl (by go_num) (.cons (t := 39) rfl (.cons (t := 38) rfl (.cons (t := 7) rfl (.cons (t := 8) rfl (.cons (t := 0) rfl (.cons (t := 1) rfl (.cons (t := 2) rfl .nil)))))))), by omega, rfl⟩
  obtain rfl : k = l.length := by omega
  have hp := gPut_good N v (some ⟨g, 0, none⟩) l.length l (w2.drewN d) (by omega) hv0 (by omega) (Nat.le_refl _) (by omega) (HH.out.iin.drewN d) HGd.out
  obtain ⟨S, hS⟩ : ∃ S, bs (putF v l l.length) = S := ⟨_, rfl⟩
  rw [hS] at hp HD
  refine wp_seq_k fun K12 hK12 => ?_
  refine wp_region_lit ?_
  refine Kn.step fh25 rfl rfl .none (Kn.ex_bin fh25 (.tmp rfl) (.tmp rfl)) fun Ko hKo => ?_
  go_simp
  try go_bits
  refine hKo _ _ fun fa26 fh26 => ?_
  clear hKo Ko fh25 fa25
  refine wpList_nil ?_
  refine hK12 _ _ ?_
  clear hK12 K12
  refine wp_seq_k fun K13 hK13 => ?_
  refine Kn.no fh26 (.tmp rfl) ?_
  replace fh26 := fh26.cut (.cons (t := 40) rfl (.cons (t := 39) rfl (.cons (t := 38) rfl (.cons (t := 7) rfl (.cons (t := 8) rfl (.cons (t := 0) rfl (.cons (t := 1) rfl (.cons (t := 2) rfl .nil))))))))
  refine wp_exit ?_
  refine Kn.then_exit ?_
  clear hK13 K13
  refine Kn.then_exit ?_
  clear hKl11 Kl11
  refine Kn.block_exit ?_
  refine hK9 _ _ ?_
  clear hK9 K9
  replace fh26 := fh26.cut (.cons (t := 7) rfl (.cons (t := 8) rfl (.cons (t := 0) rfl (.cons (t := 1) rfl (.cons (t := 2) rfl .nil)))))
  refine wp_seq_k fun K14 hK14 => ?_
  refine wp_region_lit ?_
  refine Kn.pure fh26 rfl rfl .none (Kn.ex_move fh26 (.tmp rfl)) fun fa27 fh27 => ?_
  clear fh26 fa26
  refine Kn.step fh27 rfl rfl .none (Kn.ex_convert fh27 (.tmp rfl)) fun Ko hKo => ?_
  go_simp
  try go_bits
  refine hKo _ _ fun fa28 fh28 => ?_
  clear hKo Ko fh27 fa27
  refine Kn.pure fh28 rfl rfl .none (Kn.ex_move fh28 (.tmp rfl)) fun fa29 fh29 => ?_
  clear fh28 fa28
  refine Kn.step fh29 rfl rfl .none (Kn.ex_convert fh29 (.tmp rfl)) fun Ko hKo => ?_
  go_simp
  try go_bits
  refine hKo _ _ fun fa30 fh30 => ?_
  clear hKo Ko fh29 fa29
  refine Kn.pure fh30 rfl rfl .none (Kn.ex_move fh30 (.tmp rfl)) fun fa31 fh31 => ?_
  clear fh30 fa30
  refine Kn.call fh31 rfl rfl .none (Kn.ex_call fh31 (.cons (.tmp rfl) (.cons (.tmp rfl) (.cons (.tmp rfl) .nil)))) Try.call7 (hp) fun e w3 hp => ?_
  obtain ⟨rfl, hb3⟩ := hp
  refine ⟨_, rfl, fun fa32 fh32 => ?_⟩
  clear fh31 fa31
  refine Kn.pure fh32 rfl rfl .none (Kn.ex_move fh32 (.tmp rfl)) fun fa33 fh33 => ?_
  clear fh32 fa32
  refine Kn.pure fh33 rfl rfl .none (Kn.ex_extract fh33 (.tmp rfl) rfl) fun fa34 fh34 => ?_
  clear fh33 fa33
  refine Kn.pure fh34 rfl rfl .none (Kn.ex_extract fh34 (.tmp rfl) rfl) fun fa35 fh35 => ?_
  clear fh34 fa34
  refine Kn.pure fh35 rfl rfl .none (Kn.ex_assign fh35 (.tmp rfl)) fun fa36 fh36 => ?_
  clear fh35 fa35
  refine Kn.pure fh36 rfl rfl .none (Kn.ex_assign fh36 (.tmp rfl)) fun fa37 fh37 => ?_
  clear fh36 fa36
  refine wpList_nil ?_
  refine hK14 _ _ ?_
  clear hK14 K14
  replace fh37 := fh37.cut (.cons (t := 13) rfl (.cons (t := 12) rfl (.cons (t := 8) rfl (.cons (t := 0) rfl .nil))))
  have HB3 := Lib.hid (HB2.out.trans (Below.trans (⟨rfl, rfl, rfl, Nat.le_refl _, fun _ _ => rfl⟩ : Below w2.heap.size w2 (w2.drewN d)) hb3 |>.mono HB2.out.size))
  clear hp hb3 hS
  have hcut := cut_h (P := Try.prog) w3 9 s Try.underlying9 .i64 q hq2
  rw [HD.out] at hcut
  refine wp_seq_k fun K15 hK15 => ?_
  refine wp_region_lit ?_
  refine Kn.pure fh37 rfl rfl .none (Kn.ex_move fh37 (.tmp rfl)) fun fa38 fh38 => ?_
  clear fh37 fa37
  refine Kn.step fh38 rfl rfl .none (Kn.ex_bin fh38 (.tmp rfl) .const) fun Ko hKo => ?_
  go_simp
  try go_bits
  refine hKo _ _ fun fa39 fh39 => ?_
  clear hKo Ko fh38 fa38
  refine Kn.pure fh39 rfl rfl .none (Kn.ex_move fh39 (.tmp rfl)) fun fa40 fh40 => ?_
  clear fh39 fa39
  refine Kn.pure fh40 rfl rfl (.some rfl rfl rfl) (Kn.ex_move fh40 (.tmp rfl)) fun fa41 fh41 => ?_
  clear fh40 fa40
  refine Kn.pure fh41 rfl rfl (.some rfl rfl rfl) (Kn.ex_move fh41 (.tmp rfl)) fun fa42 fh42 => ?_
  clear fh41 fa41
  refine Kn.pure fh42 rfl rfl (.some rfl rfl rfl) (Kn.ex_move fh42 (.tmp rfl)) fun fa43 fh43 => ?_
  clear fh42 fa42
  refine Kn.known fh43 rfl rfl (.some rfl rfl rfl) (Kn.ex_sliceH fh43 (.tmp rfl) (.tmp rfl)) hcut fun fa44 fh44 => ?_
  clear fh43 fa43
  refine Kn.step fh44 rfl rfl (.some rfl rfl rfl) (Kn.ex_bin fh44 (.tmp rfl) (.tmp rfl)) fun Ko hKo => ?_
  go_simp
  try go_bits
  refine hKo _ _ fun fa45 fh45 => ?_
  clear hKo Ko fh44 fa44
  refine Kn.pure fh45 rfl rfl .none (Kn.ex_pick fh45 (.tmp rfl) (.tmp rfl)) fun fa46 fh46 => ?_
  clear fh45 fa45
  refine Kn.pure fh46 rfl rfl .none (Kn.ex_assign fh46 (.tmp rfl)) fun fa47 fh47 => ?_
  clear fh46 fa46
  refine wpList_nil ?_
  refine hK15 _ _ ?_
  clear hK15 K15
  replace fh47 := fh47.cut (.cons (t := 6) rfl .nil)
  refine wp_ret ?_
  exact Kn.ret1 fh47 rfl rfl ⟨by simp, HB3.out⟩

end Go.Proofs.Ytoggeiaofpdboaa.Gap
