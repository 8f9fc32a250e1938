/- The law EdgesNorm, walked (written by gen_enorm.py). -/
import Derived.Test.YtnmpcendimdoeaaDoorEdgV
import Derived.Test.YtnmpcendimdoeaaDoorEdgD
import Derived.Test.YtnmpcendimdoeaaDoorRef04N
import Derived.Test.YtnmpcendimdoeaaDoorErrCode
namespace Go.Proofs.YtnmpcendimdoeaaDoor.Edg
open Go Go.RowKit Go.Lib

theorem wrongP_long (xs : List (Int × Int)) (h : 20000 < xs.length) : wrongP 1 xs = 20000 := by
  unfold wrongP
  rw [if_neg (by decide), if_neg (by decide), if_pos h]
theorem make_list (w : World) (n : Nat) (hn : n ≤ 100000) :
    ∃ w' l, (Instr.makeSlice 22 (.int .i64 (n : Int)) (.int .i64 (n : Int))).run Tryd.prog w = .ok (.slice (some ⟨w.heap.size, 0, none⟩) n n) w' ∧ l.length = n ∧ EIn w' (some ⟨w.heap.size, 0, none⟩) l ∧ Below w.heap.size w w' := by
  obtain ⟨w', h1, h2, h3⟩ := makeE w n hn
  exact ⟨w', _, h1, List.length_replicate, h2.ein, h3⟩

set_option maxRecDepth 100000 in
set_option maxHeartbeats 2000000 in
theorem norm_all (n : Int) (A : Option Addr) (ca : Nat) (xs : List (Int × Int)) (lg : Bool) (w : World) (hT : Err.ErrTab w) (hx : xs.length ≤ maxLen) (hA : EIn w A xs) :
    Calls Tryd.prog 3 #[.int .i64 n, .slice A xs.length ca, .bool lg] w fun e w' => e = .returned (.bool true) ∧ Below w.heap.size w w' := by
  unfold maxLen at hx
  refine Kn.calls Tryd.func3 rfl Tryd.ntmps3 rfl (.cons (t := 0) rfl (.cons (t := 1) rfl (.cons (t := 2) rfl .nil))) fun fa0 fh0 => ?_
  refine wp_seq_k fun K1 hK1 => ?_
  refine wp_region_lit ?_
  refine Kn.pure fh0 rfl rfl .none (Kn.ex_assign fh0 .const) fun fa1 fh1 => ?_
  clear fh0 fa0
  refine wpList_nil ?_
  refine hK1 _ _ ?_
  clear hK1 K1
  refine wp_seq_k fun K2 hK2 => ?_
  refine wp_seq_k fun K3 hK3 => ?_
  refine wp_region_lit ?_
  refine Kn.call fh1 rfl rfl .none (Kn.ex_call fh1 .nil) Tryd.call4 (awake_any w) fun e w1 hp => ?_
  obtain ⟨rfl, hb1⟩ := hp
  refine ⟨_, rfl, fun fa2 fh2 => ?_⟩
  clear fh1 fa1
  refine Kn.step fh2 rfl rfl .none (Kn.ex_un fh2 (.tmp rfl)) fun Ko hKo => ?_
  go_simp
  try go_bits
  refine hKo _ _ fun fa3 fh3 => ?_
  clear hKo Ko fh2 fa2
  refine wpList_nil ?_
  refine hK3 _ _ ?_
  clear hK3 K3
  replace fh3 := fh3.cut (.cons (t := 17) rfl (.cons (t := 6) rfl (.cons (t := 0) rfl (.cons (t := 1) rfl (.cons (t := 2) rfl .nil)))))
  refine Kn.no fh3 (.tmp rfl) ?_
  refine wp_skip ?_
  refine hK2 _ _ ?_
  clear hK2 K2
  replace fh3 := fh3.cut (.cons (t := 6) rfl (.cons (t := 0) rfl (.cons (t := 1) rfl (.cons (t := 2) rfl .nil))))
  have HA1 := Lib.hid (hA.on hb1)
  have HT1 := Lib.hid (hT.on hb1)
  have HB1 := Lib.hid hb1
  clear hA hT hb1
  by_cases h1 : (200 : Int) < (xs.length : Int)
  · refine wp_seq_k fun K4 hK4 => ?_
    refine wp_seq_k fun K5 hK5 => ?_
    refine wp_region_lit ?_
    refine Kn.pure fh3 rfl rfl .none (Kn.ex_move fh3 (.tmp rfl)) fun fa4 fh4 => ?_
    clear fh3 fa3
    refine Kn.step fh4 rfl rfl .none (Kn.ex_len fh4 (.tmp rfl)) fun Ko hKo => ?_
    go_simp
    try go_bits
    refine hKo _ _ fun fa5 fh5 => ?_
    clear hKo Ko fh4 fa4
    refine Kn.step fh5 rfl rfl .none (Kn.ex_bin fh5 (.tmp rfl) .const) fun Ko hKo => ?_
    go_simp
    try go_bits
    refine hKo _ _ fun fa6 fh6 => ?_
    clear hKo Ko fh5 fa5
    refine wpList_nil ?_
    refine hK5 _ _ ?_
    clear hK5 K5
    replace fh6 := fh6.cut (.cons (t := 20) rfl (.cons (t := 6) rfl (.cons (t := 0) rfl (.cons (t := 1) rfl (.cons (t := 2) rfl .nil)))))
    refine Kn.yes fh6 (.tmp rfl) ?_
    replace fh6 := fh6.cut (.cons (t := 6) rfl (.cons (t := 0) rfl (.cons (t := 1) rfl (.cons (t := 2) rfl .nil))))
    refine wp_seq_k fun K6 hK6 => ?_
    refine wp_region_lit ?_
    refine Kn.pure fh6 rfl rfl .none (Kn.ex_assign fh6 .const) fun fa7 fh7 => ?_
    clear fh6 fa6
    refine wpList_nil ?_
    refine hK6 _ _ ?_
    clear hK6 K6
    refine wp_ret ?_
    refine Kn.then_ret ?_
    exact Kn.ret1 fh7 rfl rfl ⟨rfl, HB1.out⟩
  refine wp_seq_k fun K4 hK4 => ?_
  refine wp_seq_k fun K5 hK5 => ?_
  refine wp_region_lit ?_
  refine Kn.pure fh3 rfl rfl .none (Kn.ex_move fh3 (.tmp rfl)) fun fa4 fh4 => ?_
  clear fh3 fa3
  refine Kn.step fh4 rfl rfl .none (Kn.ex_len fh4 (.tmp rfl)) fun Ko hKo => ?_
  go_simp
  try go_bits
  refine hKo _ _ fun fa5 fh5 => ?_
  clear hKo Ko fh4 fa4
  refine Kn.step fh5 rfl rfl .none (Kn.ex_bin fh5 (.tmp rfl) .const) fun Ko hKo => ?_
  go_simp
  try go_bits
  refine hKo _ _ fun fa6 fh6 => ?_
  clear hKo Ko fh5 fa5
  refine wpList_nil ?_
  refine hK5 _ _ ?_
  clear hK5 K5
  replace fh6 := fh6.cut (.cons (t := 20) rfl (.cons (t := 6) rfl (.cons (t := 0) rfl (.cons (t := 1) rfl (.cons (t := 2) rfl .nil)))))
  refine Kn.no fh6 (.tmp rfl) ?_
  refine wp_skip ?_
  refine hK4 _ _ ?_
  clear hK4 K4
  replace fh6 := fh6.cut (.cons (t := 6) rfl (.cons (t := 0) rfl (.cons (t := 1) rfl (.cons (t := 2) rfl .nil))))
  have hxs : xs.length ≤ 200 := by omega
  clear h1 hx
  rcases Bool.eq_false_or_eq_true lg with rfl | rfl
  · refine wp_seq_k fun K6 hK6 => ?_
    refine wp_seq_k fun K7 hK7 => ?_
    refine wp_region_lit ?_
    refine Kn.pure fh6 rfl rfl .none (Kn.ex_move fh6 (.tmp rfl)) fun fa7 fh7 => ?_
    clear fh6 fa6
    refine wpList_nil ?_
    refine hK7 _ _ ?_
    clear hK7 K7
    replace fh7 := fh7.cut (.cons (t := 21) rfl (.cons (t := 6) rfl (.cons (t := 0) rfl (.cons (t := 1) rfl .nil))))
    refine Kn.yes fh7 (.tmp rfl) ?_
    replace fh7 := fh7.cut (.cons (t := 6) rfl (.cons (t := 0) rfl (.cons (t := 1) rfl .nil)))
    obtain ⟨w2, l, hr, hl, hE, hb2⟩ := make_list w1 20001 (by omega)
    have hn := norm_no 1 (some ⟨w1.heap.size, 0, none⟩) 20001 l w2 hE (fun h => by have := h.len; omega)
    rw [wrongP_long l (by omega), hl] at hn
    unfold faultV at hn
    have HT2 := Lib.hid (HT1.out.on hb2)
    have HB2 := Lib.hid (HB1.out.trans (hb2.mono HB1.out.size))
    clear hl hE hb2
    refine wp_seq_k fun K8 hK8 => ?_
    refine wp_region_lit ?_
    refine Kn.known fh7 rfl rfl .none (Kn.ex_makeSlice fh7 .const .const) (show (Instr.makeSlice 22 (.int .i64 20001) (.int .i64 20001)).run Tryd.prog w1 = _ from hr) fun fa8 fh8 => ?_
    clear fh7 fa7
    refine Kn.pure fh8 rfl rfl .none (Kn.ex_assign fh8 (.tmp rfl)) fun fa9 fh9 => ?_
    clear fh8 fa8
    refine wpList_nil ?_
    refine hK8 _ _ ?_
    clear hK8 K8
    replace fh9 := fh9.cut (.cons (t := 7) rfl (.cons (t := 6) rfl (.cons (t := 0) rfl (.cons (t := 1) rfl .nil))))
    refine wp_seq_k fun K9 hK9 => ?_
    refine wp_region_lit ?_
    refine Kn.pure fh9 rfl rfl .none (Kn.ex_move fh9 (.tmp rfl)) fun fa10 fh10 => ?_
    clear fh9 fa9
    refine Kn.call fh10 rfl rfl .none (Kn.ex_call fh10 (.cons .const (.cons (.tmp rfl) .nil))) Tryd.call5 (hn) fun e w3 hp => ?_
    obtain ⟨rfl, hb3⟩ := hp
    refine ⟨_, rfl, fun fa11 fh11 => ?_⟩
    clear fh10 fa10
    refine Kn.pure fh11 rfl rfl .none (Kn.ex_move fh11 (.tmp rfl)) fun fa12 fh12 => ?_
    clear fh11 fa11
    refine Kn.pure fh12 rfl rfl .none (Kn.ex_extract fh12 (.tmp rfl) rfl) fun fa13 fh13 => ?_
    clear fh12 fa12
    refine Kn.pure fh13 rfl rfl .none (Kn.ex_extract fh13 (.tmp rfl) rfl) fun fa14 fh14 => ?_
    clear fh13 fa13
    refine Kn.pure fh14 rfl rfl .none (Kn.ex_assign fh14 (.tmp rfl)) fun fa15 fh15 => ?_
    clear fh14 fa14
    refine Kn.pure fh15 rfl rfl .none (Kn.ex_assign fh15 (.tmp rfl)) fun fa16 fh16 => ?_
    clear fh15 fa15
    refine wpList_nil ?_
    refine hK9 _ _ ?_
    clear hK9 K9
    replace fh16 := fh16.cut (.cons (t := 9) rfl (.cons (t := 8) rfl (.cons (t := 6) rfl (.cons (t := 0) rfl (.cons (t := 1) rfl .nil)))))
    have HT3 := Lib.hid (HT2.out.on hb3)
    have HB3 := Lib.hid (HB2.out.trans (hb3.mono HB2.out.size))
    have hc := Err.code_F 20000 10 w3 HT3.out
    unfold Err.faultV at hc
    clear hr hn hb3
    refine wp_seq_k fun K10 hK10 => ?_
    refine wp_region_lit ?_
    refine Kn.pure fh16 rfl rfl .none (Kn.ex_move fh16 (.tmp rfl)) fun fa17 fh17 => ?_
    clear fh16 fa16
    refine Kn.step fh17 rfl rfl .none (Kn.ex_len fh17 (.tmp rfl)) fun Ko hKo => ?_
    go_simp
    try go_bits
    refine hKo _ _ fun fa18 fh18 => ?_
    clear hKo Ko fh17 fa17
    refine Kn.step fh18 rfl rfl .none (Kn.ex_bin fh18 (.tmp rfl) .const) fun Ko hKo => ?_
    go_simp
    try go_bits
    refine hKo _ _ fun fa19 fh19 => ?_
    clear hKo Ko fh18 fa18
    refine Kn.pure fh19 rfl rfl .none (Kn.ex_move fh19 (.tmp rfl)) fun fa20 fh20 => ?_
    clear fh19 fa19
    refine Kn.pure fh20 rfl rfl (.some rfl rfl rfl) (Kn.ex_move fh20 (.tmp rfl)) fun fa21 fh21 => ?_
    clear fh20 fa20
    refine Kn.call fh21 rfl rfl (.some rfl rfl rfl) (Kn.ex_call fh21 (.cons (.tmp rfl) .nil)) Tryd.call6 (hc) fun e w4 hp => ?_
    obtain ⟨rfl, hb4⟩ := hp
    refine ⟨_, rfl, fun fa22 fh22 => ?_⟩
    clear fh21 fa21
    have hp := Err.place_F 20000 10 w4 (HT3.out.on hb4)
    unfold Err.faultV at hp
    have HB4 := Lib.hid (HB3.out.trans (hb4.mono HB3.out.size))
    clear hb4 hc
    refine Kn.step fh22 rfl rfl (.some rfl rfl rfl) (Kn.ex_bin fh22 (.tmp rfl) .const) fun Ko hKo => ?_
    go_simp
    try go_bits
    refine hKo _ _ fun fa23 fh23 => ?_
    clear hKo Ko fh22 fa22
    refine Kn.pure fh23 rfl rfl .none (Kn.ex_pick fh23 (.tmp rfl) (.tmp rfl)) fun fa24 fh24 => ?_
    clear fh23 fa23
    refine Kn.pure fh24 rfl rfl .none (Kn.ex_move fh24 (.tmp rfl)) fun fa25 fh25 => ?_
    clear fh24 fa24
    refine Kn.pure fh25 rfl rfl (.some rfl rfl rfl) (Kn.ex_move fh25 (.tmp rfl)) fun fa26 fh26 => ?_
    clear fh25 fa25
    refine Kn.call fh26 rfl rfl (.some rfl rfl rfl) (Kn.ex_call fh26 (.cons (.tmp rfl) .nil)) Tryd.call7 (hp) fun e w5 hp => ?_
    obtain ⟨rfl, hb5⟩ := hp
    refine ⟨_, rfl, fun fa27 fh27 => ?_⟩
    clear fh26 fa26
    refine Kn.step fh27 rfl rfl (.some rfl rfl rfl) (Kn.ex_bin fh27 (.tmp rfl) .const) fun Ko hKo => ?_
    go_simp
    try go_bits
    refine hKo _ _ fun fa28 fh28 => ?_
    clear hKo Ko fh27 fa27
    refine Kn.pure fh28 rfl rfl .none (Kn.ex_pick fh28 (.tmp rfl) (.tmp rfl)) fun fa29 fh29 => ?_
    clear fh28 fa28
    refine Kn.pure fh29 rfl rfl .none (Kn.ex_assign fh29 (.tmp rfl)) fun fa30 fh30 => ?_
    clear fh29 fa29
    refine wpList_nil ?_
    refine hK10 _ _ ?_
    clear hK10 K10
    replace fh30 := fh30.cut (.cons (t := 6) rfl (.cons (t := 0) rfl (.cons (t := 1) rfl .nil)))
    refine wp_ret ?_
    refine Kn.then_ret ?_
    exact Kn.ret1 fh30 rfl rfl ⟨by simp, HB4.out.trans (hb5.mono HB4.out.size)⟩
  refine wp_seq_k fun K6 hK6 => ?_
  refine wp_seq_k fun K7 hK7 => ?_
  refine wp_region_lit ?_
  refine Kn.pure fh6 rfl rfl .none (Kn.ex_move fh6 (.tmp rfl)) fun fa7 fh7 => ?_
  clear fh6 fa6
  refine wpList_nil ?_
  refine hK7 _ _ ?_
  clear hK7 K7
  replace fh7 := fh7.cut (.cons (t := 21) rfl (.cons (t := 6) rfl (.cons (t := 0) rfl (.cons (t := 1) rfl .nil))))
  refine Kn.no fh7 (.tmp rfl) ?_
  refine wp_skip ?_
  refine hK6 _ _ ?_
  clear hK6 K6
  replace fh7 := fh7.cut (.cons (t := 6) rfl (.cons (t := 0) rfl (.cons (t := 1) rfl .nil)))
  by_cases hg : Good n xs
  · have HG := Lib.hid hg
    have HW := Lib.hid ((wrongP_good n xs).2 hg)
    clear hg
    refine wp_seq_k fun K8 hK8 => ?_
    refine wp_region_lit ?_
    refine Kn.pure fh7 rfl rfl .none (Kn.ex_move fh7 (.tmp rfl)) fun fa8 fh8 => ?_
    clear fh7 fa7
    refine Kn.pure fh8 rfl rfl .none (Kn.ex_move fh8 (.tmp rfl)) fun fa9 fh9 => ?_
    clear fh8 fa8
    refine Kn.call fh9 rfl rfl .none (Kn.ex_call fh9 (.cons (.tmp rfl) (.cons (.tmp rfl) .nil))) Tryd.call5 (norm_yes n A ca xs w1 HA1.out HG.out) fun e w2 hp => ?_
    obtain ⟨A', n', c', ys, rfl, hn', hN, hE, hb2⟩ := hp
    refine ⟨_, rfl, fun fa10 fh10 => ?_⟩
    clear fh9 fa9
    refine Kn.pure fh10 rfl rfl .none (Kn.ex_move fh10 (.tmp rfl)) fun fa11 fh11 => ?_
    clear fh10 fa10
    refine Kn.pure fh11 rfl rfl .none (Kn.ex_extract fh11 (.tmp rfl) rfl) fun fa12 fh12 => ?_
    clear fh11 fa11
    refine Kn.pure fh12 rfl rfl .none (Kn.ex_extract fh12 (.tmp rfl) rfl) fun fa13 fh13 => ?_
    clear fh12 fa12
    refine Kn.pure fh13 rfl rfl .none (Kn.ex_assign fh13 (.tmp rfl)) fun fa14 fh14 => ?_
    clear fh13 fa13
    refine Kn.pure fh14 rfl rfl .none (Kn.ex_assign fh14 (.tmp rfl)) fun fa15 fh15 => ?_
    clear fh14 fa14
    refine wpList_nil ?_
    refine hK8 _ _ ?_
    clear hK8 K8
    replace fh15 := fh15.cut (.cons (t := 11) rfl (.cons (t := 10) rfl (.cons (t := 6) rfl (.cons (t := 0) rfl (.cons (t := 1) rfl .nil)))))
    subst hn'
    have hle := hN.len
    have HA2 := Lib.hid (HA1.out.on hb2)
    have HE2 := Lib.hid hE
    have HB2 := Lib.hid (HB1.out.trans (hb2.mono HB1.out.size))
    have HN := Lib.hid hN
    clear hE hb2 hN HA1 HB1 HT1
    refine wp_seq_k fun K9 hK9 => ?_
    refine wp_region_lit ?_
    refine Kn.pure fh15 rfl rfl .none (Kn.ex_move fh15 (.tmp rfl)) fun fa16 fh16 => ?_
    clear fh15 fa15
    refine Kn.pure fh16 rfl rfl .none (Kn.ex_move fh16 (.tmp rfl)) fun fa17 fh17 => ?_
    clear fh16 fa16
    refine Kn.call fh17 rfl rfl .none (Kn.ex_call fh17 (.cons (.tmp rfl) (.cons (.tmp rfl) .nil))) Tryd.call8 (check_yes n A ca xs w2 HA2.out HG.out) fun e w3 hp => ?_
    obtain ⟨rfl, hb3⟩ := hp
    refine ⟨_, rfl, fun fa18 fh18 => ?_⟩
    clear fh17 fa17
    refine Kn.pure fh18 rfl rfl .none (Kn.ex_assign fh18 (.tmp rfl)) fun fa19 fh19 => ?_
    clear fh18 fa18
    refine wpList_nil ?_
    refine hK9 _ _ ?_
    clear hK9 K9
    replace fh19 := fh19.cut (.cons (t := 12) rfl (.cons (t := 11) rfl (.cons (t := 10) rfl (.cons (t := 6) rfl (.cons (t := 0) rfl (.cons (t := 1) rfl .nil))))))
    have HA3 := Lib.hid (HA2.out.on hb3)
    have HE3 := Lib.hid (HE2.out.on hb3)
    have HB3 := Lib.hid (HB2.out.trans (hb3.mono HB2.out.size))
    have hw := wrong_p n A ca xs w3 HA3.out
    rw [HW.out] at hw
    clear hb3 HA2 HE2 HB2
    refine wp_seq_k fun K10 hK10 => ?_
    refine wp_region_lit ?_
    refine Kn.pure fh19 rfl rfl .none (Kn.ex_move fh19 (.tmp rfl)) fun fa20 fh20 => ?_
    clear fh19 fa19
    refine Kn.pure fh20 rfl rfl .none (Kn.ex_move fh20 (.tmp rfl)) fun fa21 fh21 => ?_
    clear fh20 fa20
    refine Kn.call fh21 rfl rfl .none (Kn.ex_call fh21 (.cons (.tmp rfl) (.cons (.tmp rfl) .nil))) Tryd.call9 (hw) fun e w4 hp => ?_
    obtain ⟨rfl, rfl⟩ := hp
    refine ⟨_, rfl, fun fa22 fh22 => ?_⟩
    clear fh21 fa21
    refine Kn.pure fh22 rfl rfl .none (Kn.ex_assign fh22 (.tmp rfl)) fun fa23 fh23 => ?_
    clear fh22 fa22
    refine wpList_nil ?_
    refine hK10 _ _ ?_
    clear hK10 K10
    replace fh23 := fh23.cut (.cons (t := 13) rfl (.cons (t := 12) rfl (.cons (t := 11) rfl (.cons (t := 10) rfl (.cons (t := 6) rfl (.cons (t := 0) rfl (.cons (t := 1) rfl .nil)))))))
    clear hw
    refine wp_seq_k fun K11 hK11 => ?_
    refine wp_seq_k fun K12 hK12 => ?_
    refine wp_region_lit ?_
    refine Kn.pure fh23 rfl rfl .none (Kn.ex_move fh23 (.tmp rfl)) fun fa24 fh24 => ?_
    clear fh23 fa23
    refine Kn.step fh24 rfl rfl .none (Kn.ex_bin fh24 (.tmp rfl) .const) fun Ko hKo => ?_
    go_simp
    try go_bits
    refine hKo _ _ fun fa25 fh25 => ?_
    clear hKo Ko fh24 fa24
    refine wpList_nil ?_
    refine hK12 _ _ ?_
    clear hK12 K12
    replace fh25 := fh25.cut (.cons (t := 54) rfl (.cons (t := 13) rfl (.cons (t := 12) rfl (.cons (t := 11) rfl (.cons (t := 10) rfl (.cons (t := 6) rfl (.cons (t := 0) rfl (.cons (t := 1) rfl .nil))))))))
    refine Kn.no fh25 (.tmp rfl) ?_
    refine wp_skip ?_
    refine hK11 _ _ ?_
    clear hK11 K11
    replace fh25 := fh25.cut (.cons (t := 12) rfl (.cons (t := 11) rfl (.cons (t := 10) rfl (.cons (t := 6) rfl (.cons (t := 0) rfl (.cons (t := 1) rfl .nil))))))
    refine wp_seq_k fun K13 hK13 => ?_
    refine wp_region_lit ?_
    refine Kn.pure fh25 rfl rfl .none (Kn.ex_move fh25 (.tmp rfl)) fun fa26 fh26 => ?_
    clear fh25 fa25
    refine Kn.pure fh26 rfl rfl .none (Kn.ex_move fh26 (.tmp rfl)) fun fa27 fh27 => ?_
    clear fh26 fa26
    refine Kn.call fh27 rfl rfl .none (Kn.ex_call fh27 (.cons (.tmp rfl) (.cons (.tmp rfl) .nil))) Tryd.call5 (norm_yes n A' c' ys w3 HE3.out (HN.out.good HG.out)) fun e w5 hp => ?_
    obtain ⟨A2, n2, c2, zs, rfl, hn2, hN2, hE5, hb5⟩ := hp
    refine ⟨_, rfl, fun fa28 fh28 => ?_⟩
    clear fh27 fa27
    refine Kn.pure fh28 rfl rfl .none (Kn.ex_move fh28 (.tmp rfl)) fun fa29 fh29 => ?_
    clear fh28 fa28
    refine Kn.pure fh29 rfl rfl .none (Kn.ex_extract fh29 (.tmp rfl) rfl) fun fa30 fh30 => ?_
    clear fh29 fa29
    refine Kn.pure fh30 rfl rfl .none (Kn.ex_extract fh30 (.tmp rfl) rfl) fun fa31 fh31 => ?_
    clear fh30 fa30
    refine Kn.pure fh31 rfl rfl .none (Kn.ex_assign fh31 (.tmp rfl)) fun fa32 fh32 => ?_
    clear fh31 fa31
    refine Kn.pure fh32 rfl rfl .none (Kn.ex_assign fh32 (.tmp rfl)) fun fa33 fh33 => ?_
    clear fh32 fa32
    refine wpList_nil ?_
    refine hK13 _ _ ?_
    clear hK13 K13
    replace fh33 := fh33.cut (.cons (t := 15) rfl (.cons (t := 14) rfl (.cons (t := 12) rfl (.cons (t := 11) rfl (.cons (t := 10) rfl (.cons (t := 6) rfl (.cons (t := 1) rfl .nil)))))))
    subst hn2
    obtain rfl : ys = zs := NormOf.unique ⟨HN.out.srt, fun _ => Iff.rfl⟩ hN2
    have HA5 := Lib.hid (HA3.out.on hb5)
    have HE5 := Lib.hid (HE3.out.on hb5)
    have HF5 := Lib.hid hE5
    have HB5 := Lib.hid (HB3.out.trans (hb5.mono HB3.out.size))
    have hr := refNorm_any A ca xs w5 (by omega) HA5.out
    unfold NormRet at hr
    clear hb5 hE5 hN2 HA3 HE3 HB3
    refine wp_seq_k fun K14 hK14 => ?_
    refine wp_region_lit ?_
    refine Kn.pure fh33 rfl rfl .none (Kn.ex_move fh33 (.tmp rfl)) fun fa34 fh34 => ?_
    clear fh33 fa33
    refine Kn.step fh34 rfl rfl .none (Kn.ex_bin fh34 (.tmp rfl) .const) fun Ko hKo => ?_
    go_simp
    try go_bits
    refine hKo _ _ fun fa35 fh35 => ?_
    clear hKo Ko fh34 fa34
    refine Kn.pure fh35 rfl rfl .none (Kn.ex_move fh35 (.tmp rfl)) fun fa36 fh36 => ?_
    clear fh35 fa35
    refine Kn.pure fh36 rfl rfl (.some rfl rfl rfl) (Kn.ex_move fh36 (.tmp rfl)) fun fa37 fh37 => ?_
    clear fh36 fa36
    refine Kn.step fh37 rfl rfl (.some rfl rfl rfl) (Kn.ex_bin fh37 (.tmp rfl) .const) fun Ko hKo => ?_
    go_simp
    try go_bits
    refine hKo _ _ fun fa38 fh38 => ?_
    clear hKo Ko fh37 fa37
    refine Kn.pure fh38 rfl rfl .none (Kn.ex_pick fh38 (.tmp rfl) (.tmp rfl)) fun fa39 fh39 => ?_
    clear fh38 fa38
    refine Kn.pure fh39 rfl rfl .none (Kn.ex_move fh39 (.tmp rfl)) fun fa40 fh40 => ?_
    clear fh39 fa39
    refine Kn.pure fh40 rfl rfl (.some rfl rfl rfl) (Kn.ex_move fh40 (.tmp rfl)) fun fa41 fh41 => ?_
    clear fh40 fa40
    refine Kn.pure fh41 rfl rfl (.some rfl rfl rfl) (Kn.ex_move fh41 (.tmp rfl)) fun fa42 fh42 => ?_
    clear fh41 fa41
    refine Kn.call fh42 rfl rfl (.some rfl rfl rfl) (Kn.ex_call fh42 (.cons (.tmp rfl) .nil)) Tryd.call11 (hr) fun e w6 hp => ?_
    obtain ⟨g, m, cap, zs, rfl, hm, hNz, hEz, hbz, hgz⟩ := hp
    refine ⟨_, rfl, fun fa43 fh43 => ?_⟩
    clear fh42 fa42
    subst hm
    obtain rfl : ys = zs := HN.out.unique hNz
    have HE6 := Lib.hid (HE5.out.on hbz)
    have HF6 := Lib.hid (HF5.out.on hbz)
    have HB6 := Lib.hid (HB5.out.trans (hbz.mono HB5.out.size))
    have hs1 := same_any A' (some ⟨g, 0, none⟩) c' cap ys ys w6 (by unfold maxLen; omega) (by unfold maxLen; omega) HE6.out hEz
    rw [decide_eq_true rfl] at hs1
    clear hNz hEz hbz hgz hr
    refine Kn.call fh43 rfl rfl (.some rfl rfl rfl) (Kn.ex_call fh43 (.cons (.tmp rfl) (.cons (.tmp rfl) .nil))) Tryd.call10 (hs1) fun e w7 hp => ?_
    obtain ⟨rfl, q1, rfl⟩ := hp
    refine ⟨_, rfl, fun fa44 fh44 => ?_⟩
    clear fh43 fa43
    have hs2 := edgesSame_any A' A2 c' c2 ys ys (w6.drewN q1) (by unfold maxLen; omega) (by unfold maxLen; omega) (HE6.out.drewN q1) (HF6.out.drewN q1)
    rw [decide_eq_true rfl] at hs2
    refine Kn.pure fh44 rfl rfl .none (Kn.ex_pick fh44 (.tmp rfl) (.tmp rfl)) fun fa45 fh45 => ?_
    clear fh44 fa44
    refine Kn.pure fh45 rfl rfl .none (Kn.ex_move fh45 (.tmp rfl)) fun fa46 fh46 => ?_
    clear fh45 fa45
    refine Kn.pure fh46 rfl rfl (.some rfl rfl rfl) (Kn.ex_move fh46 (.tmp rfl)) fun fa47 fh47 => ?_
    clear fh46 fa46
    refine Kn.step fh47 rfl rfl (.some rfl rfl rfl) (Kn.ex_bin fh47 (.tmp rfl) .const) fun Ko hKo => ?_
    go_simp
    try go_bits
    refine hKo _ _ fun fa48 fh48 => ?_
    clear hKo Ko fh47 fa47
    refine Kn.pure fh48 rfl rfl .none (Kn.ex_pick fh48 (.tmp rfl) (.tmp rfl)) fun fa49 fh49 => ?_
    clear fh48 fa48
    refine Kn.pure fh49 rfl rfl .none (Kn.ex_move fh49 (.tmp rfl)) fun fa50 fh50 => ?_
    clear fh49 fa49
    refine Kn.pure fh50 rfl rfl (.some rfl rfl rfl) (Kn.ex_move fh50 (.tmp rfl)) fun fa51 fh51 => ?_
    clear fh50 fa50
    refine Kn.pure fh51 rfl rfl (.some rfl rfl rfl) (Kn.ex_move fh51 (.tmp rfl)) fun fa52 fh52 => ?_
    clear fh51 fa51
    refine Kn.call fh52 rfl rfl (.some rfl rfl rfl) (Kn.ex_call fh52 (.cons (.tmp rfl) (.cons (.tmp rfl) .nil))) Tryd.call12 (hs2) fun e w8 hp => ?_
    obtain ⟨rfl, q2, rfl⟩ := hp
    refine ⟨_, rfl, fun fa53 fh53 => ?_⟩
    clear fh52 fa52
    refine Kn.pure fh53 rfl rfl .none (Kn.ex_pick fh53 (.tmp rfl) (.tmp rfl)) fun fa54 fh54 => ?_
    clear fh53 fa53
    refine Kn.pure fh54 rfl rfl .none (Kn.ex_assign fh54 (.tmp rfl)) fun fa55 fh55 => ?_
    clear fh54 fa54
    refine wpList_nil ?_
    refine hK14 _ _ ?_
    clear hK14 K14
    replace fh55 := fh55.cut (.cons (t := 6) rfl .nil)
    refine wp_ret ?_
    exact Kn.ret1 fh55 rfl rfl ⟨by simp, ⟨HB6.out.1, HB6.out.2, HB6.out.3, HB6.out.4, HB6.out.5⟩⟩
  have hp2 : wrongP n xs ≠ -2 := fun h => hg ((wrongP_good n xs).1 h)
  have hn := norm_no n A ca xs w1 HA1.out hg
  have hck : ∀ v, EIn v A xs → _ := fun v hv => check_no n A ca xs v hv hg
  have hw : ∀ v, EIn v A xs → _ := fun v hv => wrong_p n A ca xs v hv
  unfold faultV at hn hck
  generalize wrongP n xs = p at hp2 hn hck hw
  have q : (p != -2) = true := by simp [hp2]
  have HC := Lib.hid hck
  have HW := Lib.hid hw
  clear hp2 hck hw hg
  refine wp_seq_k fun K8 hK8 => ?_
  refine wp_region_lit ?_
  refine Kn.pure fh7 rfl rfl .none (Kn.ex_move fh7 (.tmp rfl)) fun fa8 fh8 => ?_
  clear fh7 fa7
  refine Kn.pure fh8 rfl rfl .none (Kn.ex_move fh8 (.tmp rfl)) fun fa9 fh9 => ?_
  clear fh8 fa8
  refine Kn.call fh9 rfl rfl .none (Kn.ex_call fh9 (.cons (.tmp rfl) (.cons (.tmp rfl) .nil))) Tryd.call5 (hn) fun e w2 hp => ?_
  obtain ⟨rfl, hb2⟩ := hp
  refine ⟨_, rfl, fun fa10 fh10 => ?_⟩
  clear fh9 fa9
  refine Kn.pure fh10 rfl rfl .none (Kn.ex_move fh10 (.tmp rfl)) fun fa11 fh11 => ?_
  clear fh10 fa10
  refine Kn.pure fh11 rfl rfl .none (Kn.ex_extract fh11 (.tmp rfl) rfl) fun fa12 fh12 => ?_
  clear fh11 fa11
  refine Kn.pure fh12 rfl rfl .none (Kn.ex_extract fh12 (.tmp rfl) rfl) fun fa13 fh13 => ?_
  clear fh12 fa12
  refine Kn.pure fh13 rfl rfl .none (Kn.ex_assign fh13 (.tmp rfl)) fun fa14 fh14 => ?_
  clear fh13 fa13
  refine Kn.pure fh14 rfl rfl .none (Kn.ex_assign fh14 (.tmp rfl)) fun fa15 fh15 => ?_
  clear fh14 fa14
  refine wpList_nil ?_
  refine hK8 _ _ ?_
  clear hK8 K8
  replace fh15 := fh15.cut (.cons (t := 11) rfl (.cons (t := 10) rfl (.cons (t := 6) rfl (.cons (t := 0) rfl (.cons (t := 1) rfl .nil)))))
  have HA2 := Lib.hid (HA1.out.on hb2)
  have HT2 := Lib.hid (HT1.out.on hb2)
  have HB2 := Lib.hid (HB1.out.trans (hb2.mono HB1.out.size))
  clear hn hb2 HA1 HT1 HB1
  refine wp_seq_k fun K9 hK9 => ?_
  refine wp_region_lit ?_
  refine Kn.pure fh15 rfl rfl .none (Kn.ex_move fh15 (.tmp rfl)) fun fa16 fh16 => ?_
  clear fh15 fa15
  refine Kn.pure fh16 rfl rfl .none (Kn.ex_move fh16 (.tmp rfl)) fun fa17 fh17 => ?_
  clear fh16 fa16
  refine Kn.call fh17 rfl rfl .none (Kn.ex_call fh17 (.cons (.tmp rfl) (.cons (.tmp rfl) .nil))) Tryd.call8 (HC.out w2 HA2.out) fun e w3 hp => ?_
  obtain ⟨rfl, hb3⟩ := hp
  refine ⟨_, rfl, fun fa18 fh18 => ?_⟩
  clear fh17 fa17
  refine Kn.pure fh18 rfl rfl .none (Kn.ex_assign fh18 (.tmp rfl)) fun fa19 fh19 => ?_
  clear fh18 fa18
  refine wpList_nil ?_
  refine hK9 _ _ ?_
  clear hK9 K9
  replace fh19 := fh19.cut (.cons (t := 12) rfl (.cons (t := 11) rfl (.cons (t := 10) rfl (.cons (t := 6) rfl (.cons (t := 0) rfl (.cons (t := 1) rfl .nil))))))
  have HA3 := Lib.hid (HA2.out.on hb3)
  have HT3 := Lib.hid (HT2.out.on hb3)
  have HB3 := Lib.hid (HB2.out.trans (hb3.mono HB2.out.size))
  clear hb3 HA2 HT2 HB2
  refine wp_seq_k fun K10 hK10 => ?_
  refine wp_region_lit ?_
  refine Kn.pure fh19 rfl rfl .none (Kn.ex_move fh19 (.tmp rfl)) fun fa20 fh20 => ?_
  clear fh19 fa19
  refine Kn.pure fh20 rfl rfl .none (Kn.ex_move fh20 (.tmp rfl)) fun fa21 fh21 => ?_
  clear fh20 fa20
  refine Kn.call fh21 rfl rfl .none (Kn.ex_call fh21 (.cons (.tmp rfl) (.cons (.tmp rfl) .nil))) Tryd.call9 (HW.out w3 HA3.out) fun e w4 hp => ?_
  obtain ⟨rfl, rfl⟩ := hp
  refine ⟨_, rfl, fun fa22 fh22 => ?_⟩
  clear fh21 fa21
  refine Kn.pure fh22 rfl rfl .none (Kn.ex_assign fh22 (.tmp rfl)) fun fa23 fh23 => ?_
  clear fh22 fa22
  refine wpList_nil ?_
  refine hK10 _ _ ?_
  clear hK10 K10
  replace fh23 := fh23.cut (.cons (t := 13) rfl (.cons (t := 12) rfl (.cons (t := 11) rfl (.cons (t := 10) rfl (.cons (t := 6) rfl (.cons (t := 0) rfl (.cons (t := 1) rfl .nil)))))))
  refine wp_seq_k fun K11 hK11 => ?_
  refine wp_seq_k fun K12 hK12 => ?_
  refine wp_region_lit ?_
  refine Kn.pure fh23 rfl rfl .none (Kn.ex_move fh23 (.tmp rfl)) fun fa24 fh24 => ?_
  clear fh23 fa23
  refine Kn.step fh24 rfl rfl .none (Kn.ex_bin fh24 (.tmp rfl) .const) fun Ko hKo => ?_
  go_simp
  try go_bits
  refine hKo _ _ fun fa25 fh25 => ?_
  clear hKo Ko fh24 fa24
  refine wpList_nil ?_
  refine hK12 _ _ ?_
  clear hK12 K12
  replace fh25 := fh25.cut (.cons (t := 54) rfl (.cons (t := 13) rfl (.cons (t := 12) rfl (.cons (t := 11) rfl (.cons (t := 10) rfl (.cons (t := 6) rfl (.cons (t := 0) rfl (.cons (t := 1) rfl .nil))))))))
  refine Kn.yes fh25 (.tmp rfl) ?_
  replace fh25 := fh25.cut (.cons (t := 13) rfl (.cons (t := 12) rfl (.cons (t := 11) rfl (.cons (t := 10) rfl (.cons (t := 6) rfl (.cons (t := 0) rfl (.cons (t := 1) rfl .nil)))))))
  have hc : ∀ v, Err.ErrTab v → _ := fun v hv => Err.code_F p 10 v hv
  have hp : ∀ v, Err.ErrTab v → _ := fun v hv => Err.place_F p 10 v hv
  unfold Err.faultV at hc hp
  have HC1 := Lib.hid hc
  have HP1 := Lib.hid hp
  clear hc hp
  refine wp_seq_k fun K13 hK13 => ?_
  refine wp_region_lit ?_
  refine Kn.pure fh25 rfl rfl .none (Kn.ex_move fh25 (.tmp rfl)) fun fa26 fh26 => ?_
  clear fh25 fa25
  refine Kn.step fh26 rfl rfl .none (Kn.ex_len fh26 (.tmp rfl)) fun Ko hKo => ?_
  go_simp
  try go_bits
  refine hKo _ _ fun fa27 fh27 => ?_
  clear hKo Ko fh26 fa26
  refine Kn.step fh27 rfl rfl .none (Kn.ex_bin fh27 (.tmp rfl) .const) fun Ko hKo => ?_
  go_simp
  try go_bits
  refine hKo _ _ fun fa28 fh28 => ?_
  clear hKo Ko fh27 fa27
  refine Kn.pure fh28 rfl rfl .none (Kn.ex_move fh28 (.tmp rfl)) fun fa29 fh29 => ?_
  clear fh28 fa28
  refine Kn.pure fh29 rfl rfl (.some rfl rfl rfl) (Kn.ex_move fh29 (.tmp rfl)) fun fa30 fh30 => ?_
  clear fh29 fa29
  refine Kn.call fh30 rfl rfl (.some rfl rfl rfl) (Kn.ex_call fh30 (.cons (.tmp rfl) .nil)) Tryd.call6 (HC1.out w3 HT3.out) fun e w4 hp => ?_
  obtain ⟨rfl, hb4⟩ := hp
  refine ⟨_, rfl, fun fa31 fh31 => ?_⟩
  clear fh30 fa30
  have HT4 := Lib.hid (HT3.out.on hb4)
  have HB4 := Lib.hid (HB3.out.trans (hb4.mono HB3.out.size))
  clear hb4 HT3 HB3
  refine Kn.step fh31 rfl rfl (.some rfl rfl rfl) (Kn.ex_bin fh31 (.tmp rfl) .const) fun Ko hKo => ?_
  go_simp
  try go_bits
  refine hKo _ _ fun fa32 fh32 => ?_
  clear hKo Ko fh31 fa31
  refine Kn.pure fh32 rfl rfl .none (Kn.ex_pick fh32 (.tmp rfl) (.tmp rfl)) fun fa33 fh33 => ?_
  clear fh32 fa32
  refine Kn.pure fh33 rfl rfl .none (Kn.ex_move fh33 (.tmp rfl)) fun fa34 fh34 => ?_
  clear fh33 fa33
  refine Kn.pure fh34 rfl rfl (.some rfl rfl rfl) (Kn.ex_move fh34 (.tmp rfl)) fun fa35 fh35 => ?_
  clear fh34 fa34
  refine Kn.call fh35 rfl rfl (.some rfl rfl rfl) (Kn.ex_call fh35 (.cons (.tmp rfl) .nil)) Tryd.call7 (HP1.out w4 HT4.out) fun e w5 hp => ?_
  obtain ⟨rfl, hb5⟩ := hp
  refine ⟨_, rfl, fun fa36 fh36 => ?_⟩
  clear fh35 fa35
  have HT5 := Lib.hid (HT4.out.on hb5)
  have HB5 := Lib.hid (HB4.out.trans (hb5.mono HB4.out.size))
  clear hb5 HT4 HB4
  refine Kn.pure fh36 rfl rfl (.some rfl rfl rfl) (Kn.ex_move fh36 (.tmp rfl)) fun fa37 fh37 => ?_
  clear fh36 fa36
  refine Kn.step fh37 rfl rfl (.some rfl rfl rfl) (Kn.ex_bin fh37 (.tmp rfl) (.tmp rfl)) fun Ko hKo => ?_
  go_simp
  try go_bits
  refine hKo _ _ fun fa38 fh38 => ?_
  clear hKo Ko fh37 fa37
  refine Kn.pure fh38 rfl rfl .none (Kn.ex_pick fh38 (.tmp rfl) (.tmp rfl)) fun fa39 fh39 => ?_
  clear fh38 fa38
  refine Kn.pure fh39 rfl rfl .none (Kn.ex_move fh39 (.tmp rfl)) fun fa40 fh40 => ?_
  clear fh39 fa39
  refine Kn.pure fh40 rfl rfl (.some rfl rfl rfl) (Kn.ex_move fh40 (.tmp rfl)) fun fa41 fh41 => ?_
  clear fh40 fa40
  refine Kn.call fh41 rfl rfl (.some rfl rfl rfl) (Kn.ex_call fh41 (.cons (.tmp rfl) .nil)) Tryd.call6 (HC1.out w5 HT5.out) fun e w6 hp => ?_
  obtain ⟨rfl, hb6⟩ := hp
  refine ⟨_, rfl, fun fa42 fh42 => ?_⟩
  clear fh41 fa41
  have HT6 := Lib.hid (HT5.out.on hb6)
  have HB6 := Lib.hid (HB5.out.trans (hb6.mono HB5.out.size))
  clear hb6 HT5 HB5
  refine Kn.step fh42 rfl rfl (.some rfl rfl rfl) (Kn.ex_bin fh42 (.tmp rfl) .const) fun Ko hKo => ?_
  go_simp
  try go_bits
  refine hKo _ _ fun fa43 fh43 => ?_
  clear hKo Ko fh42 fa42
  refine Kn.pure fh43 rfl rfl .none (Kn.ex_pick fh43 (.tmp rfl) (.tmp rfl)) fun fa44 fh44 => ?_
  clear fh43 fa43
  refine Kn.pure fh44 rfl rfl .none (Kn.ex_move fh44 (.tmp rfl)) fun fa45 fh45 => ?_
  clear fh44 fa44
  refine Kn.pure fh45 rfl rfl (.some rfl rfl rfl) (Kn.ex_move fh45 (.tmp rfl)) fun fa46 fh46 => ?_
  clear fh45 fa45
  refine Kn.call fh46 rfl rfl (.some rfl rfl rfl) (Kn.ex_call fh46 (.cons (.tmp rfl) .nil)) Tryd.call7 (HP1.out w6 HT6.out) fun e w7 hp => ?_
  obtain ⟨rfl, hb7⟩ := hp
  refine ⟨_, rfl, fun fa47 fh47 => ?_⟩
  clear fh46 fa46
  have HT7 := Lib.hid (HT6.out.on hb7)
  have HB7 := Lib.hid (HB6.out.trans (hb7.mono HB6.out.size))
  clear hb7 HT6 HB6
  refine Kn.pure fh47 rfl rfl (.some rfl rfl rfl) (Kn.ex_move fh47 (.tmp rfl)) fun fa48 fh48 => ?_
  clear fh47 fa47
  refine Kn.step fh48 rfl rfl (.some rfl rfl rfl) (Kn.ex_bin fh48 (.tmp rfl) (.tmp rfl)) fun Ko hKo => ?_
  go_simp
  try go_bits
  refine hKo _ _ fun fa49 fh49 => ?_
  clear hKo Ko fh48 fa48
  refine Kn.pure fh49 rfl rfl .none (Kn.ex_pick fh49 (.tmp rfl) (.tmp rfl)) fun fa50 fh50 => ?_
  clear fh49 fa49
  refine Kn.pure fh50 rfl rfl .none (Kn.ex_assign fh50 (.tmp rfl)) fun fa51 fh51 => ?_
  clear fh50 fa50
  refine wpList_nil ?_
  refine hK13 _ _ ?_
  clear hK13 K13
  replace fh51 := fh51.cut (.cons (t := 6) rfl (.cons (t := 12) rfl (.cons (t := 11) rfl (.cons (t := 10) rfl (.cons (t := 0) rfl (.cons (t := 1) rfl .nil))))))
  refine wp_ret ?_
  refine Kn.then_ret ?_
  exact Kn.ret1 fh51 rfl rfl ⟨by simp, HB7.out⟩

end Go.Proofs.YtnmpcendimdoeaaDoor.Edg
