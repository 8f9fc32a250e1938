/- The law EdgesTurns, walked (written by gen_turns.py). -/
import Derived.Test.YtnmpcendimdoeaaEdgV
import Derived.Test.YtnmpcendimdoeaaEdgD
namespace Go.Proofs.Ytnmpcendimdoeaa.Edg
open Go Go.RowKit Go.Lib


set_option maxRecDepth 100000 in
set_option maxHeartbeats 2000000 in
theorem turns_all (A B : Option Addr) (ca cb : Nat) (xs ys : List (Int × Int)) (v : Int) (w : World) (hx : xs.length ≤ maxLen) (hy : ys.length ≤ maxLen) (hA : EIn w A xs) (hB : EIn w B ys) :
    Calls Try.prog 3 #[.slice A xs.length ca, .slice B ys.length cb, .int .i64 v] w fun e w' => e = .returned (.bool true) ∧ Below w.heap.size w w' := by
  unfold maxLen at hx hy
  refine Kn.calls Try.func3 rfl Try.ntmps3 rfl (.cons (t := 0) rfl (.cons (t := 1) rfl (.cons (t := 2) rfl .nil))) fun fa0 fh0 => ?_
  refine wp_seq_k fun K1 hK1 => ?_
  refine wp_region_lit ?_
  refine Kn.pure fh0 rfl rfl .none (Kn.ex_assign fh0 .const) fun fa1 fh1 => ?_
  clear fh0 fa0
  refine wpList_nil ?_
  refine hK1 _ _ ?_
  clear hK1 K1
  refine wp_seq_k fun K2 hK2 => ?_
  refine wp_seq_k fun K3 hK3 => ?_
  refine wp_region_lit ?_
  refine Kn.call fh1 rfl rfl .none (Kn.ex_call fh1 .nil) Try.call6 (awake_any w) fun e w1 hp => ?_
  obtain ⟨rfl, hb1⟩ := hp
  refine ⟨_, rfl, fun fa2 fh2 => ?_⟩
  clear fh1 fa1
  refine Kn.step fh2 rfl rfl .none (Kn.ex_un fh2 (.tmp rfl)) fun Ko hKo => ?_
  go_simp
  try go_bits
  refine hKo _ _ fun fa3 fh3 => ?_
  clear hKo Ko fh2 fa2
  refine wpList_nil ?_
  refine hK3 _ _ ?_
  clear hK3 K3
  replace fh3 := fh3.cut (.cons (t := 13) rfl (.cons (t := 6) rfl (.cons (t := 0) rfl (.cons (t := 1) rfl (.cons (t := 2) rfl .nil)))))
  refine Kn.no fh3 (.tmp rfl) ?_
  refine wp_skip ?_
  refine hK2 _ _ ?_
  clear hK2 K2
  replace fh3 := fh3.cut (.cons (t := 6) rfl (.cons (t := 0) rfl (.cons (t := 1) rfl (.cons (t := 2) rfl .nil))))
  have HA1 := Lib.hid (hA.on hb1)
  have HC1 := Lib.hid (hB.on hb1)
  have HB1 := Lib.hid hb1
  clear hA hB hb1
  by_cases h1 : (200 : Int) < (xs.length : Int)
  · refine wp_seq_k fun K4 hK4 => ?_
    refine wp_seq_k fun K5 hK5 => ?_
    refine wp_region_lit ?_
    refine Kn.pure fh3 rfl rfl .none (Kn.ex_move fh3 (.tmp rfl)) fun fa4 fh4 => ?_
    clear fh3 fa3
    refine Kn.step fh4 rfl rfl .none (Kn.ex_len fh4 (.tmp rfl)) fun Ko hKo => ?_
    go_simp
    try go_bits
    refine hKo _ _ fun fa5 fh5 => ?_
    clear hKo Ko fh4 fa4
    refine Kn.step fh5 rfl rfl .none (Kn.ex_bin fh5 (.tmp rfl) .const) fun Ko hKo => ?_
    go_simp
    try go_bits
    refine hKo _ _ fun fa6 fh6 => ?_
    clear hKo Ko fh5 fa5
    refine Kn.pure fh6 rfl rfl .none (Kn.ex_move fh6 (.tmp rfl)) fun fa7 fh7 => ?_
    clear fh6 fa6
    refine Kn.skip fh7 rfl rfl (.some rfl rfl rfl) fun fa8 fh8 => ?_
    clear fh7 fa7
    refine Kn.skip fh8 rfl rfl (.some rfl rfl rfl) fun fa9 fh9 => ?_
    clear fh8 fa8
    refine Kn.skip fh9 rfl rfl (.some rfl rfl rfl) fun fa10 fh10 => ?_
    clear fh9 fa9
    refine Kn.pure fh10 rfl rfl .none (Kn.ex_pick fh10 (.tmp rfl) .const) fun fa11 fh11 => ?_
    clear fh10 fa10
    refine wpList_nil ?_
    refine hK5 _ _ ?_
    clear hK5 K5
    replace fh11 := fh11.cut (.cons (t := 21) rfl (.cons (t := 6) rfl (.cons (t := 0) rfl (.cons (t := 1) rfl (.cons (t := 2) rfl .nil)))))
    refine Kn.yes fh11 (.tmp rfl) ?_
    replace fh11 := fh11.cut (.cons (t := 6) rfl (.cons (t := 0) rfl (.cons (t := 1) rfl (.cons (t := 2) rfl .nil))))
    refine wp_seq_k fun K6 hK6 => ?_
    refine wp_region_lit ?_
    refine Kn.pure fh11 rfl rfl .none (Kn.ex_assign fh11 .const) fun fa12 fh12 => ?_
    clear fh11 fa11
    refine wpList_nil ?_
    refine hK6 _ _ ?_
    clear hK6 K6
    refine wp_ret ?_
    refine Kn.then_ret ?_
    exact Kn.ret1 fh12 rfl rfl ⟨rfl, HB1.out⟩
  by_cases h2 : (200 : Int) < (ys.length : Int)
  · refine wp_seq_k fun K4 hK4 => ?_
    refine wp_seq_k fun K5 hK5 => ?_
    refine wp_region_lit ?_
    refine Kn.pure fh3 rfl rfl .none (Kn.ex_move fh3 (.tmp rfl)) fun fa4 fh4 => ?_
    clear fh3 fa3
    refine Kn.step fh4 rfl rfl .none (Kn.ex_len fh4 (.tmp rfl)) fun Ko hKo => ?_
    go_simp
    try go_bits
    refine hKo _ _ fun fa5 fh5 => ?_
    clear hKo Ko fh4 fa4
    refine Kn.step fh5 rfl rfl .none (Kn.ex_bin fh5 (.tmp rfl) .const) fun Ko hKo => ?_
    go_simp
    try go_bits
    refine hKo _ _ fun fa6 fh6 => ?_
    clear hKo Ko fh5 fa5
    refine Kn.pure fh6 rfl rfl .none (Kn.ex_move fh6 (.tmp rfl)) fun fa7 fh7 => ?_
    clear fh6 fa6
    refine Kn.pure fh7 rfl rfl (.some rfl rfl rfl) (Kn.ex_move fh7 (.tmp rfl)) fun fa8 fh8 => ?_
    clear fh7 fa7
    refine Kn.step fh8 rfl rfl (.some rfl rfl rfl) (Kn.ex_len fh8 (.tmp rfl)) fun Ko hKo => ?_
    go_simp
    try go_bits
    refine hKo _ _ fun fa9 fh9 => ?_
    clear hKo Ko fh8 fa8
    refine Kn.step fh9 rfl rfl (.some rfl rfl rfl) (Kn.ex_bin fh9 (.tmp rfl) .const) fun Ko hKo => ?_
    go_simp
    try go_bits
    refine hKo _ _ fun fa10 fh10 => ?_
    clear hKo Ko fh9 fa9
    refine Kn.pure fh10 rfl rfl .none (Kn.ex_pick fh10 (.tmp rfl) (.tmp rfl)) fun fa11 fh11 => ?_
    clear fh10 fa10
    refine wpList_nil ?_
    refine hK5 _ _ ?_
    clear hK5 K5
    replace fh11 := fh11.cut (.cons (t := 21) rfl (.cons (t := 6) rfl (.cons (t := 0) rfl (.cons (t := 1) rfl (.cons (t := 2) rfl .nil)))))
    refine Kn.yes fh11 (.tmp rfl) ?_
    replace fh11 := fh11.cut (.cons (t := 6) rfl (.cons (t := 0) rfl (.cons (t := 1) rfl (.cons (t := 2) rfl .nil))))
    refine wp_seq_k fun K6 hK6 => ?_
    refine wp_region_lit ?_
    refine Kn.pure fh11 rfl rfl .none (Kn.ex_assign fh11 .const) fun fa12 fh12 => ?_
    clear fh11 fa11
    refine wpList_nil ?_
    refine hK6 _ _ ?_
    clear hK6 K6
    refine wp_ret ?_
    refine Kn.then_ret ?_
    exact Kn.ret1 fh12 rfl rfl ⟨rfl, HB1.out⟩
  refine wp_seq_k fun K4 hK4 => ?_
  refine wp_seq_k fun K5 hK5 => ?_
  refine wp_region_lit ?_
  refine Kn.pure fh3 rfl rfl .none (Kn.ex_move fh3 (.tmp rfl)) fun fa4 fh4 => ?_
  clear fh3 fa3
  refine Kn.step fh4 rfl rfl .none (Kn.ex_len fh4 (.tmp rfl)) fun Ko hKo => ?_
  go_simp
  try go_bits
  refine hKo _ _ fun fa5 fh5 => ?_
  clear hKo Ko fh4 fa4
  refine Kn.step fh5 rfl rfl .none (Kn.ex_bin fh5 (.tmp rfl) .const) fun Ko hKo => ?_
  go_simp
  try go_bits
  refine hKo _ _ fun fa6 fh6 => ?_
  clear hKo Ko fh5 fa5
  refine Kn.pure fh6 rfl rfl .none (Kn.ex_move fh6 (.tmp rfl)) fun fa7 fh7 => ?_
  clear fh6 fa6
  refine Kn.pure fh7 rfl rfl (.some rfl rfl rfl) (Kn.ex_move fh7 (.tmp rfl)) fun fa8 fh8 => ?_
  clear fh7 fa7
  refine Kn.step fh8 rfl rfl (.some rfl rfl rfl) (Kn.ex_len fh8 (.tmp rfl)) fun Ko hKo => ?_
  go_simp
  try go_bits
  refine hKo _ _ fun fa9 fh9 => ?_
  clear hKo Ko fh8 fa8
  refine Kn.step fh9 rfl rfl (.some rfl rfl rfl) (Kn.ex_bin fh9 (.tmp rfl) .const) fun Ko hKo => ?_
  go_simp
  try go_bits
  refine hKo _ _ fun fa10 fh10 => ?_
  clear hKo Ko fh9 fa9
  refine Kn.pure fh10 rfl rfl .none (Kn.ex_pick fh10 (.tmp rfl) (.tmp rfl)) fun fa11 fh11 => ?_
  clear fh10 fa10
  refine wpList_nil ?_
  refine hK5 _ _ ?_
  clear hK5 K5
  replace fh11 := fh11.cut (.cons (t := 21) rfl (.cons (t := 6) rfl (.cons (t := 0) rfl (.cons (t := 1) rfl (.cons (t := 2) rfl .nil)))))
  refine Kn.no fh11 (.tmp rfl) ?_
  refine wp_skip ?_
  refine hK4 _ _ ?_
  clear hK4 K4
  replace fh11 := fh11.cut (.cons (t := 6) rfl (.cons (t := 0) rfl (.cons (t := 1) rfl (.cons (t := 2) rfl .nil))))
  have hxs : xs.length ≤ 200 := by omega
  have hys : ys.length ≤ 200 := by omega
  clear h1 h2 hx hy
  refine wp_seq_k fun K6 hK6 => ?_
  refine wp_region_lit ?_
  refine Kn.pure fh11 rfl rfl .none (Kn.ex_move fh11 (.tmp rfl)) fun fa12 fh12 => ?_
  clear fh11 fa11
  refine Kn.call fh12 rfl rfl .none (Kn.ex_call fh12 (.cons (.tmp rfl) .nil)) Try.call7 (turned_any A ca xs w1 (by omega) HA1.out) fun e w2 hp => ?_
  obtain ⟨g, rfl, hg, hH, hb2⟩ := hp
  refine ⟨_, rfl, fun fa13 fh13 => ?_⟩
  clear fh12 fa12
  refine Kn.pure fh13 rfl rfl .none (Kn.ex_assign fh13 (.tmp rfl)) fun fa14 fh14 => ?_
  clear fh13 fa13
  refine wpList_nil ?_
  refine hK6 _ _ ?_
  clear hK6 K6
  replace fh14 := fh14.cut (.cons (t := 7) rfl (.cons (t := 6) rfl (.cons (t := 0) rfl (.cons (t := 1) rfl (.cons (t := 2) rfl .nil)))))
  have HT2 := Lib.hid hH
  have HA2 := Lib.hid (HA1.out.on hb2)
  have HC2 := Lib.hid (HC1.out.on hb2)
  have HB2 := Lib.hid (HB1.out.trans (hb2.mono HB1.out.size))
  clear hH hb2 HA1 HC1 HB1 hg
  have ht2 := turned_any (some ⟨g, 0, none⟩) xs.length (turn xs) w2 (by rw [turn_len]; omega) HT2.out.ein
  rw [turn_turn, turn_len] at ht2
  refine wp_seq_k fun K7 hK7 => ?_
  refine wp_seq_k fun K8 hK8 => ?_
  refine wp_region_lit ?_
  refine Kn.pure fh14 rfl rfl .none (Kn.ex_move fh14 (.tmp rfl)) fun fa15 fh15 => ?_
  clear fh14 fa14
  refine Kn.call fh15 rfl rfl .none (Kn.ex_call fh15 (.cons (.tmp rfl) .nil)) Try.call7 (ht2) fun e w3 hp => ?_
  obtain ⟨g2, rfl, hg2, hH3, hb3⟩ := hp
  refine ⟨_, rfl, fun fa16 fh16 => ?_⟩
  clear fh15 fa15
  have HT3 := Lib.hid (HT2.out.on hb3)
  have HA3 := Lib.hid (HA2.out.on hb3)
  have HC3 := Lib.hid (HC2.out.on hb3)
  have HB3 := Lib.hid (HB2.out.trans (hb3.mono HB2.out.size))
  have hs1 := same_any (some ⟨g2, 0, none⟩) A xs.length ca xs xs w3 (by unfold maxLen; omega) (by unfold maxLen; omega) hH3.ein HA3.out
  rw [decide_eq_true rfl] at hs1
  clear hH3 hb3 HT2 HA2 HC2 HB2 hg2 ht2
  refine Kn.pure fh16 rfl rfl .none (Kn.ex_move fh16 (.tmp rfl)) fun fa17 fh17 => ?_
  clear fh16 fa16
  refine Kn.call fh17 rfl rfl .none (Kn.ex_call fh17 (.cons (.tmp rfl) (.cons (.tmp rfl) .nil))) Try.call8 (hs1) fun e w4 hp => ?_
  obtain ⟨rfl, q1, rfl⟩ := hp
  refine ⟨_, rfl, fun fa18 fh18 => ?_⟩
  clear fh17 fa17
  refine Kn.step fh18 rfl rfl .none (Kn.ex_un fh18 (.tmp rfl)) fun Ko hKo => ?_
  go_simp
  try go_bits
  refine hKo _ _ fun fa19 fh19 => ?_
  clear hKo Ko fh18 fa18
  refine Kn.pure fh19 rfl rfl .none (Kn.ex_move fh19 (.tmp rfl)) fun fa20 fh20 => ?_
  clear fh19 fa19
  refine Kn.pure fh20 rfl rfl (.some rfl rfl rfl) (Kn.ex_move fh20 (.tmp rfl)) fun fa21 fh21 => ?_
  clear fh20 fa20
  refine Kn.pure fh21 rfl rfl (.some rfl rfl rfl) (Kn.ex_move fh21 (.tmp rfl)) fun fa22 fh22 => ?_
  clear fh21 fa21
  refine Kn.call fh22 rfl rfl (.some rfl rfl rfl) (Kn.ex_call fh22 (.cons (.tmp rfl) (.cons (.tmp rfl) .nil))) Try.call9 (edgesSame_any A B ca cb xs ys _ (by unfold maxLen; omega) (by unfold maxLen; omega) (HA3.out.drewN _) (HC3.out.drewN _)) fun e w5 hp => ?_
  obtain ⟨rfl, q2, rfl⟩ := hp
  refine ⟨_, rfl, fun fa23 fh23 => ?_⟩
  clear fh22 fa22
  refine Kn.pure fh23 rfl rfl (.some rfl rfl rfl) (Kn.ex_move fh23 (.tmp rfl)) fun fa24 fh24 => ?_
  clear fh23 fa23
  refine Kn.pure fh24 rfl rfl (.some rfl rfl rfl) (Kn.ex_move fh24 (.tmp rfl)) fun fa25 fh25 => ?_
  clear fh24 fa24
  refine Kn.call fh25 rfl rfl (.some rfl rfl rfl) (Kn.ex_call fh25 (.cons (.tmp rfl) (.cons (.tmp rfl) .nil))) Try.call8 (same_any A B ca cb xs ys _ (by unfold maxLen; omega) (by unfold maxLen; omega) ((HA3.out.drewN _).drewN _) ((HC3.out.drewN _).drewN _)) fun e w6 hp => ?_
  obtain ⟨rfl, q3, rfl⟩ := hp
  refine ⟨_, rfl, fun fa26 fh26 => ?_⟩
  clear fh25 fa25
  refine Kn.step fh26 rfl rfl (.some rfl rfl rfl) (Kn.ex_bin fh26 (.tmp rfl) (.tmp rfl)) fun Ko hKo => ?_
  go_simp
  try go_bits
  refine hKo _ _ fun fa27 fh27 => ?_
  clear hKo Ko fh26 fa26
  refine Kn.pure fh27 rfl rfl .none (Kn.ex_pick fh27 (.tmp rfl) (.tmp rfl)) fun fa28 fh28 => ?_
  clear fh27 fa27
  refine wpList_nil ?_
  refine hK8 _ _ ?_
  clear hK8 K8
  replace fh28 := fh28.cut (.cons (t := 37) rfl (.cons (t := 7) rfl (.cons (t := 6) rfl (.cons (t := 0) rfl (.cons (t := 2) rfl .nil)))))
  refine Kn.no fh28 (.tmp rfl) ?_
  refine wp_skip ?_
  refine hK7 _ _ ?_
  clear hK7 K7
  replace fh28 := fh28.cut (.cons (t := 7) rfl (.cons (t := 6) rfl (.cons (t := 0) rfl (.cons (t := 2) rfl .nil))))
  refine Kn.gen (fun u => EIn u A xs ∧ HoldE u g (turn xs) ∧ Below w.heap.size w u) ⟨HA3.out, HT3.out, ⟨HB3.out.1, HB3.out.2, HB3.out.3, HB3.out.4, HB3.out.5⟩⟩ fun w7 hu => ?_
  obtain ⟨hA7, hT7, hB7⟩ := hu
  have HA7 := Lib.hid hA7
  have HT7 := Lib.hid hT7
  have HB7 := Lib.hid hB7
  clear hA7 hT7 hB7 HA3 HC3 HT3 HB3 hs1
  refine wp_seq_k fun K9 hK9 => ?_
  refine wp_region_lit ?_
  refine Kn.pure fh28 rfl rfl .none (Kn.ex_assign fh28 .const) fun fa29 fh29 => ?_
  clear fh28 fa28
  refine Kn.pure fh29 rfl rfl .none (Kn.ex_assign fh29 .const) fun fa30 fh30 => ?_
  clear fh29 fa29
  refine wpList_nil ?_
  refine hK9 _ _ ?_
  clear hK9 K9
  refine wp_seq_k fun K10 hK10 => ?_
  refine wp_seq_k fun K11 hK11 => ?_
  refine wp_region_lit ?_
  refine Kn.pure fh30 rfl rfl .none (Kn.ex_move fh30 (.tmp rfl)) fun fa31 fh31 => ?_
  clear fh30 fa30
  refine Kn.step fh31 rfl rfl .none (Kn.ex_len fh31 (.tmp rfl)) fun Ko hKo => ?_
  go_simp
  try go_bits
  refine hKo _ _ fun fa32 fh32 => ?_
  clear hKo Ko fh31 fa31
  refine Kn.pure fh32 rfl rfl .none (Kn.ex_move fh32 .const) fun fa33 fh33 => ?_
  clear fh32 fa32
  refine wpList_nil ?_
  refine hK11 _ _ ?_
  clear hK11 K11
  refine wp_block ?_
  refine Kn.loop (fun m fr u => ∃ (k : Nat), Kn.Kn 71 [(40, .int .i64 (k : Int)), (8, .int .i64 (degU xs v k : Int)), (9, .int .i64 (degU xs v k : Int)), (38, .slice A xs.length ca), (39, .int .i64 (xs.length : Int)), (2, .int .i64 v), (7, .slice (some ⟨g, 0, none⟩) xs.length xs.length), (0, .slice A xs.length ca)] fr ∧ k + m = xs.length ∧ Hid (Below w7.heap.size w7 u)) xs.length ⟨0, fh33.cut (.cons (t := 40) rfl (.turn (t := 8) rfl rfl (.turn (t := 9) rfl rfl (.cons (t := 38) rfl (.cons (t := 39) rfl (.cons (t := 2) rfl (.cons (t := 7) rfl (.cons (t := 0) rfl .nil)))))))), by omega, Lib.hid (Below.refl _ _)⟩ ?_
  clear fh33 fa33
  intro m12 fa34 u hI Kl12 hKl12
  obtain ⟨k, fh34, hk, HB⟩ := hI
  by_cases hlt : k < xs.length
  · have hdk := degU_le xs v k
    obtain ⟨dk, hdd⟩ : ∃ d, degU xs v k = d := ⟨_, rfl⟩
    have HD := degU_succ xs v k hlt
    rw [hdd] at HD
    have HS := Lib.hid HD
    clear HD
    rw [hdd] at hdk fh34
    clear hdd
    obtain ⟨ba, oa, rfl, -, ca1, ca2⟩ := (HA7.out.on HB.out) k hlt
    have hte := turn_ed xs k hlt
    obtain ⟨x1, hx1⟩ : ∃ x, (ed xs k).1 = x := ⟨_, rfl⟩
    obtain ⟨x2, hx2⟩ : ∃ x, (ed xs k).2 = x := ⟨_, rfl⟩
    rw [hx1] at ca1
    rw [hx2] at ca2
    rw [hx1, hx2] at hte
    have HX : Hid ((ed xs k).1 = x1) := Lib.hid hx1
    have ct := ((HT7.out.on HB.out).on ((Below.refl _ u).alloc (Nat.le_refl _) (.cells #[.int .i64 x1, .int .i64 x2] 27))) k (by rw [turn_len]; exact hlt)
    rw [hte] at ct
    obtain ⟨⟨-, ct2⟩, -, -⟩ := ct
    have hgl : g < u.heap.size := Nat.lt_of_lt_of_le (HT7.out.lt (by rw [turn_len]; omega)) HB.out.size
    clear hx1 hx2 hte
    refine wp_seq_k fun K13 hK13 => ?_
    refine wp_region_lit ?_
    refine Kn.step fh34 rfl rfl .none (Kn.ex_bin fh34 (.tmp rfl) (.tmp rfl)) fun Ko hKo => ?_
    go_simp
    try go_bits
    refine hKo _ _ fun fa35 fh35 => ?_
    clear hKo Ko fh34 fa34
    refine wpList_nil ?_
    refine hK13 _ _ ?_
    clear hK13 K13
    refine wp_seq_k fun K14 hK14 => ?_
    refine Kn.yes fh35 (.tmp rfl) ?_
    refine wp_skip ?_
    refine hK14 _ _ ?_
    clear hK14 K14
    replace fh35 := fh35.cut (.cons (t := 40) rfl (.cons (t := 8) rfl (.cons (t := 9) rfl (.cons (t := 38) rfl (.cons (t := 39) rfl (.cons (t := 2) rfl (.cons (t := 7) rfl (.cons (t := 0) rfl .nil))))))))
    refine wp_seq_k fun K15 hK15 => ?_
    refine wp_block ?_
    refine wp_seq_k fun K16 hK16 => ?_
    refine wp_region_lit ?_
    refine Kn.pure fh35 rfl rfl .none (Kn.ex_move fh35 (.tmp rfl)) fun fa36 fh36 => ?_
    clear fh35 fa35
    refine Kn.step fh36 rfl rfl .none (Kn.ex_indexAddr fh36 (.tmp rfl) (.tmp rfl)) fun Ko hKo => ?_
    go_simp
    try go_bits
    refine hKo _ _ fun fa37 fh37 => ?_
    clear hKo Ko fh36 fa36
    refine Kn.step fh37 rfl rfl .none (Kn.ex_load fh37 (.tmp rfl)) fun Ko hKo => ?_
    go_simp
    try go_bits
    refine hKo _ _ fun fa38 fh38 => ?_
    clear hKo Ko fh37 fa37
    refine Kn.step fh38 rfl rfl .none Kn.ex_alloc fun Ko hKo => ?_
    go_simp
    try go_bits
    refine hKo _ _ fun fa39 fh39 => ?_
    clear hKo Ko fh38 fa38
    refine Kn.pure fh39 rfl rfl .none (Kn.ex_assign fh39 (.tmp rfl)) fun fa40 fh40 => ?_
    clear fh39 fa39
    refine Kn.stepU fh40 rfl .none (Kn.ex_store fh40 (.tmp rfl) (.tmp rfl)) fun Ko hKo => ?_
    go_simp
    try go_bits
    refine hKo _ ?_
    clear hKo Ko
    refine wpList_nil ?_
    refine hK16 _ _ ?_
    clear hK16 K16
    replace fh40 := fh40.cut (.cons (t := 10) rfl (.cons (t := 11) rfl (.cons (t := 40) rfl (.cons (t := 8) rfl (.cons (t := 9) rfl (.cons (t := 38) rfl (.cons (t := 39) rfl (.cons (t := 2) rfl (.cons (t := 7) rfl (.cons (t := 0) rfl .nil))))))))))
    by_cases e1 : x1 = v
    · have q1 : (x1 == v) = true := by simp [e1]
      have HS2 : Hid (degU xs v (k + 1) = dk + 1) := Lib.hid (by rw [HS.out, HX.out, if_pos e1])
      clear e1
      refine wp_seq_k fun K17 hK17 => ?_
      refine wp_seq_k fun K18 hK18 => ?_
      refine wp_region_lit ?_
      refine Kn.step fh40 rfl rfl .none (Kn.ex_fieldAddr fh40 (.tmp rfl)) fun Ko hKo => ?_
      go_simp
      try go_bits
      refine hKo _ _ fun fa41 fh41 => ?_
      clear hKo Ko fh40 fa40
      refine Kn.step fh41 rfl rfl .none (Kn.ex_load fh41 (.tmp rfl)) fun Ko hKo => ?_
      go_simp
      try go_bits
      refine hKo _ _ fun fa42 fh42 => ?_
      clear hKo Ko fh41 fa41
      refine Kn.pure fh42 rfl rfl .none (Kn.ex_move fh42 (.tmp rfl)) fun fa43 fh43 => ?_
      clear fh42 fa42
      refine Kn.step fh43 rfl rfl .none (Kn.ex_bin fh43 (.tmp rfl) (.tmp rfl)) fun Ko hKo => ?_
      go_simp
      try go_bits
      refine hKo _ _ fun fa44 fh44 => ?_
      clear hKo Ko fh43 fa43
      refine wpList_nil ?_
      refine hK18 _ _ ?_
      clear hK18 K18
      replace fh44 := fh44.cut (.cons (t := 48) rfl (.cons (t := 10) rfl (.cons (t := 40) rfl (.cons (t := 8) rfl (.cons (t := 9) rfl (.cons (t := 38) rfl (.cons (t := 39) rfl (.cons (t := 2) rfl (.cons (t := 7) rfl (.cons (t := 0) rfl .nil))))))))))
      refine Kn.yes fh44 (.tmp rfl) ?_
      replace fh44 := fh44.cut (.cons (t := 10) rfl (.cons (t := 40) rfl (.cons (t := 8) rfl (.cons (t := 9) rfl (.cons (t := 38) rfl (.cons (t := 39) rfl (.cons (t := 2) rfl (.cons (t := 7) rfl (.cons (t := 0) rfl .nil)))))))))
      refine wp_region_lit ?_
      refine Kn.pure fh44 rfl rfl .none (Kn.ex_move fh44 (.tmp rfl)) fun fa45 fh45 => ?_
      clear fh44 fa44
      refine Kn.step fh45 rfl rfl .none (Kn.ex_bin fh45 (.tmp rfl) .const) fun Ko hKo => ?_
      go_simp
      try go_bits
      refine hKo _ _ fun fa46 fh46 => ?_
      clear hKo Ko fh45 fa45
      refine Kn.pure fh46 rfl rfl .none (Kn.ex_assign fh46 (.tmp rfl)) fun fa47 fh47 => ?_
      clear fh46 fa46
      refine wpList_nil ?_
      refine hK17 _ _ ?_
      clear hK17 K17
      replace fh47 := fh47.cut (.cons (t := 8) rfl (.cons (t := 10) rfl (.cons (t := 40) rfl (.cons (t := 9) rfl (.cons (t := 38) rfl (.cons (t := 39) rfl (.cons (t := 2) rfl (.cons (t := 7) rfl (.cons (t := 0) rfl .nil)))))))))
      refine wp_seq_k fun K19 hK19 => ?_
      refine wp_region_lit ?_
      refine Kn.pure fh47 rfl rfl .none (Kn.ex_move fh47 (.tmp rfl)) fun fa48 fh48 => ?_
      clear fh47 fa47
      refine Kn.pure fh48 rfl rfl .none (Kn.ex_move fh48 (.tmp rfl)) fun fa49 fh49 => ?_
      clear fh48 fa48
      refine Kn.step fh49 rfl rfl .none (Kn.ex_indexAddr fh49 (.tmp rfl) (.tmp rfl)) fun Ko hKo => ?_
      go_simp
      try go_bits
      refine hKo _ _ fun fa50 fh50 => ?_
      clear hKo Ko fh49 fa49
      refine Kn.step fh50 rfl rfl .none (Kn.ex_fieldAddr fh50 (.tmp rfl)) fun Ko hKo => ?_
      go_simp
      try go_bits
      refine hKo _ _ fun fa51 fh51 => ?_
      clear hKo Ko fh50 fa50
      refine Kn.step fh51 rfl rfl .none (Kn.ex_load fh51 (.tmp rfl)) fun Ko hKo => ?_
      go_simp
      try go_bits
      refine hKo _ _ fun fa52 fh52 => ?_
      clear hKo Ko fh51 fa51
      refine Kn.pure fh52 rfl rfl .none (Kn.ex_move fh52 (.tmp rfl)) fun fa53 fh53 => ?_
      clear fh52 fa52
      refine Kn.step fh53 rfl rfl .none (Kn.ex_bin fh53 (.tmp rfl) (.tmp rfl)) fun Ko hKo => ?_
      go_simp
      try go_bits
      refine hKo _ _ fun fa54 fh54 => ?_
      clear hKo Ko fh53 fa53
      refine wpList_nil ?_
      refine hK19 _ _ ?_
      clear hK19 K19
      replace fh54 := fh54.cut (.cons (t := 57) rfl (.cons (t := 8) rfl (.cons (t := 40) rfl (.cons (t := 9) rfl (.cons (t := 38) rfl (.cons (t := 39) rfl (.cons (t := 2) rfl (.cons (t := 7) rfl (.cons (t := 0) rfl .nil)))))))))
      refine Kn.yes fh54 (.tmp rfl) ?_
      replace fh54 := fh54.cut (.cons (t := 8) rfl (.cons (t := 40) rfl (.cons (t := 9) rfl (.cons (t := 38) rfl (.cons (t := 39) rfl (.cons (t := 2) rfl (.cons (t := 7) rfl (.cons (t := 0) rfl .nil))))))))
      refine wp_region_lit ?_
      refine Kn.pure fh54 rfl rfl .none (Kn.ex_move fh54 (.tmp rfl)) fun fa55 fh55 => ?_
      clear fh54 fa54
      refine Kn.step fh55 rfl rfl .none (Kn.ex_bin fh55 (.tmp rfl) .const) fun Ko hKo => ?_
      go_simp
      try go_bits
      refine hKo _ _ fun fa56 fh56 => ?_
      clear hKo Ko fh55 fa55
      refine Kn.pure fh56 rfl rfl .none (Kn.ex_assign fh56 (.tmp rfl)) fun fa57 fh57 => ?_
      clear fh56 fa56
      refine wpList_nil ?_
      refine Kn.block_normal ?_
      refine hK15 _ _ ?_
      clear hK15 K15
      replace fh57 := fh57.cut (.cons (t := 9) rfl (.cons (t := 8) rfl (.cons (t := 40) rfl (.cons (t := 38) rfl (.cons (t := 39) rfl (.cons (t := 2) rfl (.cons (t := 7) rfl (.cons (t := 0) rfl .nil))))))))
      refine wp_region_lit ?_
      refine Kn.step fh57 rfl rfl .none (Kn.ex_bin fh57 (.tmp rfl) .const) fun Ko hKo => ?_
      go_simp
      try go_bits
      refine hKo _ _ fun fa58 fh58 => ?_
      clear hKo Ko fh57 fa57
      refine Kn.pure fh58 rfl rfl .none (Kn.ex_move fh58 (.tmp rfl)) fun fa59 fh59 => ?_
      clear fh58 fa58
      refine wpList_nil ?_
      replace fh59 := fh59.cut (.cons (t := 40) rfl (.cons (t := 9) rfl (.cons (t := 8) rfl (.cons (t := 38) rfl (.cons (t := 39) rfl (.cons (t := 2) rfl (.cons (t := 7) rfl (.cons (t := 0) rfl .nil))))))))
      exact hKl12 (m12 - 1) _ _ (by omega) ⟨k + 1, fh59.cut (.turn (t := 40) rfl (by go_num) (.turn (t := 8) rfl (by rw [HS2.out]; go_num) (.turn (t := 9) rfl (by rw [HS2.out]; go_num) (.cons (t := 38) rfl (.cons (t := 39) rfl (.cons (t := 2) rfl (.cons (t := 7) rfl (.cons (t := 0) rfl .nil)))))))), by omega, Lib.hid (HB.out.alloc HB.out.size _)⟩
    · have q1 : (x1 == v) = false := by simp [e1]
      have HS2 : Hid (degU xs v (k + 1) = dk) := Lib.hid (by rw [HS.out, HX.out, if_neg e1]; rfl)
      clear e1
      refine wp_seq_k fun K17 hK17 => ?_
      refine wp_seq_k fun K18 hK18 => ?_
      refine wp_region_lit ?_
      refine Kn.step fh40 rfl rfl .none (Kn.ex_fieldAddr fh40 (.tmp rfl)) fun Ko hKo => ?_
      go_simp
      try go_bits
      refine hKo _ _ fun fa41 fh41 => ?_
      clear hKo Ko fh40 fa40
      refine Kn.step fh41 rfl rfl .none (Kn.ex_load fh41 (.tmp rfl)) fun Ko hKo => ?_
      go_simp
      try go_bits
      refine hKo _ _ fun fa42 fh42 => ?_
      clear hKo Ko fh41 fa41
      refine Kn.pure fh42 rfl rfl .none (Kn.ex_move fh42 (.tmp rfl)) fun fa43 fh43 => ?_
      clear fh42 fa42
      refine Kn.step fh43 rfl rfl .none (Kn.ex_bin fh43 (.tmp rfl) (.tmp rfl)) fun Ko hKo => ?_
      go_simp
      try go_bits
      refine hKo _ _ fun fa44 fh44 => ?_
      clear hKo Ko fh43 fa43
      refine wpList_nil ?_
      refine hK18 _ _ ?_
      clear hK18 K18
      replace fh44 := fh44.cut (.cons (t := 48) rfl (.cons (t := 10) rfl (.cons (t := 40) rfl (.cons (t := 8) rfl (.cons (t := 9) rfl (.cons (t := 38) rfl (.cons (t := 39) rfl (.cons (t := 2) rfl (.cons (t := 7) rfl (.cons (t := 0) rfl .nil))))))))))
      refine Kn.no fh44 (.tmp rfl) ?_
      refine wp_skip ?_
      refine hK17 _ _ ?_
      clear hK17 K17
      replace fh44 := fh44.cut (.cons (t := 10) rfl (.cons (t := 40) rfl (.cons (t := 8) rfl (.cons (t := 9) rfl (.cons (t := 38) rfl (.cons (t := 39) rfl (.cons (t := 2) rfl (.cons (t := 7) rfl (.cons (t := 0) rfl .nil)))))))))
      refine wp_seq_k fun K19 hK19 => ?_
      refine wp_region_lit ?_
      refine Kn.pure fh44 rfl rfl .none (Kn.ex_move fh44 (.tmp rfl)) fun fa45 fh45 => ?_
      clear fh44 fa44
      refine Kn.pure fh45 rfl rfl .none (Kn.ex_move fh45 (.tmp rfl)) fun fa46 fh46 => ?_
      clear fh45 fa45
      refine Kn.step fh46 rfl rfl .none (Kn.ex_indexAddr fh46 (.tmp rfl) (.tmp rfl)) fun Ko hKo => ?_
      go_simp
      try go_bits
      refine hKo _ _ fun fa47 fh47 => ?_
      clear hKo Ko fh46 fa46
      refine Kn.step fh47 rfl rfl .none (Kn.ex_fieldAddr fh47 (.tmp rfl)) fun Ko hKo => ?_
      go_simp
      try go_bits
      refine hKo _ _ fun fa48 fh48 => ?_
      clear hKo Ko fh47 fa47
      refine Kn.step fh48 rfl rfl .none (Kn.ex_load fh48 (.tmp rfl)) fun Ko hKo => ?_
      go_simp
      try go_bits
      refine hKo _ _ fun fa49 fh49 => ?_
      clear hKo Ko fh48 fa48
      refine Kn.pure fh49 rfl rfl .none (Kn.ex_move fh49 (.tmp rfl)) fun fa50 fh50 => ?_
      clear fh49 fa49
      refine Kn.step fh50 rfl rfl .none (Kn.ex_bin fh50 (.tmp rfl) (.tmp rfl)) fun Ko hKo => ?_
      go_simp
      try go_bits
      refine hKo _ _ fun fa51 fh51 => ?_
      clear hKo Ko fh50 fa50
      refine wpList_nil ?_
      refine hK19 _ _ ?_
      clear hK19 K19
      replace fh51 := fh51.cut (.cons (t := 57) rfl (.cons (t := 40) rfl (.cons (t := 8) rfl (.cons (t := 9) rfl (.cons (t := 38) rfl (.cons (t := 39) rfl (.cons (t := 2) rfl (.cons (t := 7) rfl (.cons (t := 0) rfl .nil)))))))))
      refine Kn.no fh51 (.tmp rfl) ?_
      refine wp_skip ?_
      refine Kn.block_normal ?_
      refine hK15 _ _ ?_
      clear hK15 K15
      replace fh51 := fh51.cut (.cons (t := 40) rfl (.cons (t := 8) rfl (.cons (t := 9) rfl (.cons (t := 38) rfl (.cons (t := 39) rfl (.cons (t := 2) rfl (.cons (t := 7) rfl (.cons (t := 0) rfl .nil))))))))
      refine wp_region_lit ?_
      refine Kn.step fh51 rfl rfl .none (Kn.ex_bin fh51 (.tmp rfl) .const) fun Ko hKo => ?_
      go_simp
      try go_bits
      refine hKo _ _ fun fa52 fh52 => ?_
      clear hKo Ko fh51 fa51
      refine Kn.pure fh52 rfl rfl .none (Kn.ex_move fh52 (.tmp rfl)) fun fa53 fh53 => ?_
      clear fh52 fa52
      refine wpList_nil ?_
      replace fh53 := fh53.cut (.cons (t := 40) rfl (.cons (t := 8) rfl (.cons (t := 9) rfl (.cons (t := 38) rfl (.cons (t := 39) rfl (.cons (t := 2) rfl (.cons (t := 7) rfl (.cons (t := 0) rfl .nil))))))))
      exact hKl12 (m12 - 1) _ _ (by omega) ⟨k + 1, fh53.cut (.turn (t := 40) rfl (by go_num) (.turn (t := 8) rfl (by rw [HS2.out]) (.turn (t := 9) rfl (by rw [HS2.out]) (.cons (t := 38) rfl (.cons (t := 39) rfl (.cons (t := 2) rfl (.cons (t := 7) rfl (.cons (t := 0) rfl .nil)))))))), by omega, Lib.hid (HB.out.alloc HB.out.size _)⟩
  · obtain rfl : k = xs.length := by omega
    refine wp_seq_k fun K13 hK13 => ?_
    refine wp_region_lit ?_
    refine Kn.step fh34 rfl rfl .none (Kn.ex_bin fh34 (.tmp rfl) (.tmp rfl)) fun Ko hKo => ?_
    go_simp
    try go_bits
    refine hKo _ _ fun fa35 fh35 => ?_
    clear hKo Ko fh34 fa34
    refine wpList_nil ?_
    refine hK13 _ _ ?_
    clear hK13 K13
    refine wp_seq_k fun K14 hK14 => ?_
    refine Kn.no fh35 (.tmp rfl) ?_
    replace fh35 := fh35.cut (.cons (t := 40) rfl (.cons (t := 8) rfl (.cons (t := 9) rfl (.cons (t := 38) rfl (.cons (t := 39) rfl (.cons (t := 2) rfl (.cons (t := 7) rfl (.cons (t := 0) rfl .nil))))))))
    refine wp_exit ?_
    refine Kn.then_exit ?_
    clear hK14 K14
    refine Kn.then_exit ?_
    clear hKl12 Kl12
    refine Kn.block_exit ?_
    refine hK10 _ _ ?_
    clear hK10 K10
    replace fh35 := fh35.cut (.cons (t := 8) rfl (.cons (t := 9) rfl (.cons (t := 2) rfl (.cons (t := 0) rfl .nil))))
    refine wp_seq_k fun K15 hK15 => ?_
    refine wp_region_lit ?_
    refine Kn.pure fh35 rfl rfl .none (Kn.ex_move fh35 (.tmp rfl)) fun fa36 fh36 => ?_
    clear fh35 fa35
    refine Kn.pure fh36 rfl rfl .none (Kn.ex_move fh36 (.tmp rfl)) fun fa37 fh37 => ?_
    clear fh36 fa36
    refine Kn.call fh37 rfl rfl .none (Kn.ex_call fh37 (.cons (.tmp rfl) (.cons (.tmp rfl) .nil))) Try.call10 (degree_any A ca xs v u (by omega) (HA7.out.on HB.out)) fun e w8 hp => ?_
    obtain ⟨rfl, hb8⟩ := hp
    refine ⟨_, rfl, fun fa38 fh38 => ?_⟩
    clear fh37 fa37
    refine Kn.pure fh38 rfl rfl .none (Kn.ex_move fh38 (.tmp rfl)) fun fa39 fh39 => ?_
    clear fh38 fa38
    refine Kn.step fh39 rfl rfl .none (Kn.ex_bin fh39 (.tmp rfl) (.tmp rfl)) fun Ko hKo => ?_
    go_simp
    try go_bits
    refine hKo _ _ fun fa40 fh40 => ?_
    clear hKo Ko fh39 fa39
    refine Kn.pure fh40 rfl rfl .none (Kn.ex_move fh40 (.tmp rfl)) fun fa41 fh41 => ?_
    clear fh40 fa40
    refine Kn.pure fh41 rfl rfl (.some rfl rfl rfl) (Kn.ex_move fh41 (.tmp rfl)) fun fa42 fh42 => ?_
    clear fh41 fa41
    refine Kn.pure fh42 rfl rfl (.some rfl rfl rfl) (Kn.ex_move fh42 (.tmp rfl)) fun fa43 fh43 => ?_
    clear fh42 fa42
    refine Kn.step fh43 rfl rfl (.some rfl rfl rfl) (Kn.ex_bin fh43 (.tmp rfl) (.tmp rfl)) fun Ko hKo => ?_
    go_simp
    try go_bits
    refine hKo _ _ fun fa44 fh44 => ?_
    clear hKo Ko fh43 fa43
    refine Kn.pure fh44 rfl rfl .none (Kn.ex_pick fh44 (.tmp rfl) (.tmp rfl)) fun fa45 fh45 => ?_
    clear fh44 fa44
    refine Kn.pure fh45 rfl rfl .none (Kn.ex_assign fh45 (.tmp rfl)) fun fa46 fh46 => ?_
    clear fh45 fa45
    refine wpList_nil ?_
    refine hK15 _ _ ?_
    clear hK15 K15
    replace fh46 := fh46.cut (.cons (t := 6) rfl .nil)
    refine wp_ret ?_
    exact Kn.ret1 fh46 rfl rfl ⟨by simp, HB7.out.trans ((HB.out.trans (hb8.mono HB.out.size)).mono HB7.out.size)⟩

end Go.Proofs.Ytnmpcendimdoeaa.Edg
