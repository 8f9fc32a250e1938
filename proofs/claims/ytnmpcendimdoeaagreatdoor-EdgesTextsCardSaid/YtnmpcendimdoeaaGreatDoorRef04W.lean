/- The document's Number of layer 4 (edges) (written by gen_ref04w.py). -/
import Derived.Test.YtnmpcendimdoeaaGreatDoorEdgeKit
import Derived.Test.YtnmpcendimdoeaaGreatDoorDigMath
namespace Go.Proofs.YtnmpcendimdoeaaGreatDoor.Edg
open Go Go.RowKit Go.Lib Dig


set_option maxRecDepth 100000 in
set_option maxHeartbeats 2000000 in
theorem number_m (s : ByteArray) (ds : List UInt8) (L : Nat) (w : World) (hs : s.size ≤ 9223372036854775807) (hs0 : 0 < s.size) (h0 : s[0].toNat = 45) (hsLa : s.size ≤ L + 1) (hsLb : L + 1 ≤ s.size) (HM : Hid ((s.data.toList.head? == some 45) = true)) (HD : Hid (ds = if true then s.data.toList.tail else s.data.toList)) (HL : Hid (ds.length = L)) (HG : Hid (∀ k i (hk : k < ds.length) (hi : i = k + 1), ds[k] = s[i]'(by have := HL.out; omega))) :
    Calls Tryz.prog 21 #[.string s] w fun e w' => e = .returned (.tuple #[.int .i64 (numV s.data.toList), .bool (numB s.data.toList)]) ∧ w = w' := by
  refine Kn.calls Tryz.func21 rfl Tryz.ntmps21 rfl (.cons (t := 0) rfl .nil) fun fa0 fh0 => ?_
  refine wp_seq_k fun K1 hK1 => ?_
  refine wp_region_lit ?_
  refine Kn.pure fh0 rfl rfl .none (Kn.ex_assign fh0 .const) fun fa1 fh1 => ?_
  clear fh0 fa0
  refine Kn.pure fh1 rfl rfl .none (Kn.ex_assign fh1 .const) fun fa2 fh2 => ?_
  clear fh1 fa1
  refine wpList_nil ?_
  refine hK1 _ _ ?_
  clear hK1 K1
  refine wp_seq_k fun K2 hK2 => ?_
  refine wp_region_lit ?_
  refine Kn.pure fh2 rfl rfl .none (Kn.ex_assign fh2 .const) fun fa3 fh3 => ?_
  clear fh2 fa2
  refine wpList_nil ?_
  refine hK2 _ _ ?_
  clear hK2 K2
  refine wp_seq_k fun K3 hK3 => ?_
  refine wp_region_lit ?_
  refine Kn.pure fh3 rfl rfl .none (Kn.ex_move fh3 (.tmp rfl)) fun fa4 fh4 => ?_
  clear fh3 fa3
  refine Kn.step fh4 rfl rfl .none (Kn.ex_len fh4 (.tmp rfl)) fun Ko hKo => ?_
  go_simp
  try go_bits
  refine hKo _ _ fun fa5 fh5 => ?_
  clear hKo Ko fh4 fa4
  refine Kn.step fh5 rfl rfl .none (Kn.ex_bin fh5 (.tmp rfl) .const) fun Ko hKo => ?_
  go_simp
  try go_bits
  refine hKo _ _ fun fa6 fh6 => ?_
  clear hKo Ko fh5 fa5
  refine Kn.pure fh6 rfl rfl .none (Kn.ex_move fh6 (.tmp rfl)) fun fa7 fh7 => ?_
  clear fh6 fa6
  refine Kn.pure fh7 rfl rfl (.some rfl rfl rfl) (Kn.ex_move fh7 (.tmp rfl)) fun fa8 fh8 => ?_
  clear fh7 fa7
  refine Kn.step fh8 rfl rfl (.some rfl rfl rfl) (Kn.ex_index fh8 (.tmp rfl) .const) fun Ko hKo => ?_
  go_simp
  try go_bits
  refine hKo _ _ fun fa9 fh9 => ?_
  clear hKo Ko fh8 fa8
  have qe : (((s[0].toNat : Nat) : Int) == 45) = true := by rw [h0]; rfl
  refine Kn.step fh9 rfl rfl (.some rfl rfl rfl) (Kn.ex_bin fh9 (.tmp rfl) .const) fun Ko hKo => ?_
  go_simp
  try go_bits
  refine hKo _ _ fun fa10 fh10 => ?_
  clear hKo Ko fh9 fa9
  clear qe
  refine Kn.pure fh10 rfl rfl .none (Kn.ex_pick fh10 (.tmp rfl) (.tmp rfl)) fun fa11 fh11 => ?_
  clear fh10 fa10
  refine Kn.pure fh11 rfl rfl .none (Kn.ex_assign fh11 (.tmp rfl)) fun fa12 fh12 => ?_
  clear fh11 fa11
  refine wpList_nil ?_
  refine hK3 _ _ ?_
  clear hK3 K3
  replace fh12 := fh12.cut (.cons (t := 5) rfl (.cons (t := 4) rfl (.cons (t := 3) rfl (.cons (t := 2) rfl (.cons (t := 0) rfl .nil)))))
  refine wp_seq_k fun K4 hK4 => ?_
  refine wp_seq_k fun K5 hK5 => ?_
  refine wp_region_lit ?_
  refine Kn.pure fh12 rfl rfl .none (Kn.ex_move fh12 (.tmp rfl)) fun fa13 fh13 => ?_
  clear fh12 fa12
  refine wpList_nil ?_
  refine hK5 _ _ ?_
  clear hK5 K5
  refine Kn.yes fh13 (.tmp rfl) ?_
  replace fh13 := fh13.cut (.cons (t := 5) rfl (.cons (t := 4) rfl (.cons (t := 3) rfl (.cons (t := 2) rfl (.cons (t := 0) rfl .nil)))))
  refine wp_region_lit ?_
  refine Kn.pure fh13 rfl rfl .none (Kn.ex_assign fh13 .const) fun fa14 fh14 => ?_
  clear fh13 fa13
  refine wpList_nil ?_
  refine hK4 _ _ ?_
  clear hK4 K4
  have rl : (s.size : Int) - 1 = (L : Int) := by omega
  by_cases hL1 : L < 1
  · have hi1 : (L : Int) < 1 := by omega
    refine wp_seq_k fun K6 hK6 => ?_
    refine wp_seq_k fun K7 hK7 => ?_
    refine wp_region_lit ?_
    refine Kn.pure fh14 rfl rfl .none (Kn.ex_move fh14 (.tmp rfl)) fun fa15 fh15 => ?_
    clear fh14 fa14
    refine Kn.step fh15 rfl rfl .none (Kn.ex_len fh15 (.tmp rfl)) fun Ko hKo => ?_
    go_simp
    try go_bits
    refine hKo _ _ fun fa16 fh16 => ?_
    clear hKo Ko fh15 fa15
    refine Kn.pure fh16 rfl rfl .none (Kn.ex_move fh16 (.tmp rfl)) fun fa17 fh17 => ?_
    clear fh16 fa16
    refine Kn.step fh17 rfl rfl .none (Kn.ex_bin fh17 (.tmp rfl) (.tmp rfl)) fun Ko hKo => ?_
    go_simp
    try go_bits
    try simp only [rl]
    refine hKo _ _ fun fa18 fh18 => ?_
    clear hKo Ko fh17 fa17
    refine Kn.step fh18 rfl rfl .none (Kn.ex_bin fh18 (.tmp rfl) .const) fun Ko hKo => ?_
    go_simp
    try go_bits
    refine hKo _ _ fun fa19 fh19 => ?_
    clear hKo Ko fh18 fa18
    refine Kn.pure fh19 rfl rfl .none (Kn.ex_move fh19 (.tmp rfl)) fun fa20 fh20 => ?_
    clear fh19 fa19
    refine Kn.skip fh20 rfl rfl (.some rfl rfl rfl) fun fa21 fh21 => ?_
    clear fh20 fa20
    refine Kn.skip fh21 rfl rfl (.some rfl rfl rfl) fun fa22 fh22 => ?_
    clear fh21 fa21
    refine Kn.skip fh22 rfl rfl (.some rfl rfl rfl) fun fa23 fh23 => ?_
    clear fh22 fa22
    refine Kn.skip fh23 rfl rfl (.some rfl rfl rfl) fun fa24 fh24 => ?_
    clear fh23 fa23
    refine Kn.skip fh24 rfl rfl (.some rfl rfl rfl) fun fa25 fh25 => ?_
    clear fh24 fa24
    refine Kn.pure fh25 rfl rfl .none (Kn.ex_pick fh25 (.tmp rfl) .const) fun fa26 fh26 => ?_
    clear fh25 fa25
    refine wpList_nil ?_
    refine hK7 _ _ ?_
    clear hK7 K7
    replace fh26 := fh26.cut (.cons (t := 28) rfl (.cons (t := 4) rfl (.cons (t := 5) rfl (.cons (t := 3) rfl (.cons (t := 2) rfl (.cons (t := 0) rfl .nil))))))
    refine Kn.yes fh26 (.tmp rfl) ?_
    replace fh26 := fh26.cut (.cons (t := 4) rfl (.cons (t := 5) rfl (.cons (t := 3) rfl (.cons (t := 2) rfl (.cons (t := 0) rfl .nil)))))
    refine wp_seq_k fun K8 hK8 => ?_
    refine wp_region_lit ?_
    refine Kn.pure fh26 rfl rfl .none (Kn.ex_assign fh26 .const) fun fa27 fh27 => ?_
    clear fh26 fa26
    refine Kn.pure fh27 rfl rfl .none (Kn.ex_assign fh27 .const) fun fa28 fh28 => ?_
    clear fh27 fa27
    refine wpList_nil ?_
    refine hK8 _ _ ?_
    clear hK8 K8
    refine wp_ret ?_
    refine Kn.then_ret ?_
    have HO : Hid (okD true ds = false) := Lib.hid (by unfold okD; rw [decide_eq_false (by rw [HL.out]; omega)]; rfl)
    exact Kn.ret2 fh28 rfl rfl rfl ⟨by rw [(num_bad HM.out HD.out HO.out).1, (num_bad HM.out HD.out HO.out).2], rfl⟩
  by_cases hL9 : 9 < L
  · have hi1 : ¬ (L : Int) < 1 := by omega
    have hi9 : (9 : Int) < (L : Int) := by omega
    refine wp_seq_k fun K6 hK6 => ?_
    refine wp_seq_k fun K7 hK7 => ?_
    refine wp_region_lit ?_
    refine Kn.pure fh14 rfl rfl .none (Kn.ex_move fh14 (.tmp rfl)) fun fa15 fh15 => ?_
    clear fh14 fa14
    refine Kn.step fh15 rfl rfl .none (Kn.ex_len fh15 (.tmp rfl)) fun Ko hKo => ?_
    go_simp
    try go_bits
    refine hKo _ _ fun fa16 fh16 => ?_
    clear hKo Ko fh15 fa15
    refine Kn.pure fh16 rfl rfl .none (Kn.ex_move fh16 (.tmp rfl)) fun fa17 fh17 => ?_
    clear fh16 fa16
    refine Kn.step fh17 rfl rfl .none (Kn.ex_bin fh17 (.tmp rfl) (.tmp rfl)) fun Ko hKo => ?_
    go_simp
    try go_bits
    try simp only [rl]
    refine hKo _ _ fun fa18 fh18 => ?_
    clear hKo Ko fh17 fa17
    refine Kn.step fh18 rfl rfl .none (Kn.ex_bin fh18 (.tmp rfl) .const) fun Ko hKo => ?_
    go_simp
    try go_bits
    refine hKo _ _ fun fa19 fh19 => ?_
    clear hKo Ko fh18 fa18
    refine Kn.pure fh19 rfl rfl .none (Kn.ex_move fh19 (.tmp rfl)) fun fa20 fh20 => ?_
    clear fh19 fa19
    refine Kn.pure fh20 rfl rfl (.some rfl rfl rfl) (Kn.ex_move fh20 (.tmp rfl)) fun fa21 fh21 => ?_
    clear fh20 fa20
    refine Kn.step fh21 rfl rfl (.some rfl rfl rfl) (Kn.ex_len fh21 (.tmp rfl)) fun Ko hKo => ?_
    go_simp
    try go_bits
    refine hKo _ _ fun fa22 fh22 => ?_
    clear hKo Ko fh21 fa21
    refine Kn.pure fh22 rfl rfl (.some rfl rfl rfl) (Kn.ex_move fh22 (.tmp rfl)) fun fa23 fh23 => ?_
    clear fh22 fa22
    refine Kn.step fh23 rfl rfl (.some rfl rfl rfl) (Kn.ex_bin fh23 (.tmp rfl) (.tmp rfl)) fun Ko hKo => ?_
    go_simp
    try go_bits
    try simp only [rl]
    refine hKo _ _ fun fa24 fh24 => ?_
    clear hKo Ko fh23 fa23
    refine Kn.step fh24 rfl rfl (.some rfl rfl rfl) (Kn.ex_bin fh24 (.tmp rfl) .const) fun Ko hKo => ?_
    go_simp
    try go_bits
    refine hKo _ _ fun fa25 fh25 => ?_
    clear hKo Ko fh24 fa24
    refine Kn.pure fh25 rfl rfl .none (Kn.ex_pick fh25 (.tmp rfl) (.tmp rfl)) fun fa26 fh26 => ?_
    clear fh25 fa25
    refine wpList_nil ?_
    refine hK7 _ _ ?_
    clear hK7 K7
    replace fh26 := fh26.cut (.cons (t := 28) rfl (.cons (t := 4) rfl (.cons (t := 5) rfl (.cons (t := 3) rfl (.cons (t := 2) rfl (.cons (t := 0) rfl .nil))))))
    refine Kn.yes fh26 (.tmp rfl) ?_
    replace fh26 := fh26.cut (.cons (t := 4) rfl (.cons (t := 5) rfl (.cons (t := 3) rfl (.cons (t := 2) rfl (.cons (t := 0) rfl .nil)))))
    refine wp_seq_k fun K8 hK8 => ?_
    refine wp_region_lit ?_
    refine Kn.pure fh26 rfl rfl .none (Kn.ex_assign fh26 .const) fun fa27 fh27 => ?_
    clear fh26 fa26
    refine Kn.pure fh27 rfl rfl .none (Kn.ex_assign fh27 .const) fun fa28 fh28 => ?_
    clear fh27 fa27
    refine wpList_nil ?_
    refine hK8 _ _ ?_
    clear hK8 K8
    refine wp_ret ?_
    refine Kn.then_ret ?_
    have HO : Hid (okD true ds = false) := Lib.hid (by unfold okD; rw [decide_eq_false (show ¬ ds.length ≤ 9 by rw [HL.out]; omega)]; simp)
    exact Kn.ret2 fh28 rfl rfl rfl ⟨by rw [(num_bad HM.out HD.out HO.out).1, (num_bad HM.out HD.out HO.out).2], rfl⟩
  have hi1 : ¬ (L : Int) < 1 := by omega
  have hi9 : ¬ (9 : Int) < (L : Int) := by omega
  refine wp_seq_k fun K6 hK6 => ?_
  refine wp_seq_k fun K7 hK7 => ?_
  refine wp_region_lit ?_
  refine Kn.pure fh14 rfl rfl .none (Kn.ex_move fh14 (.tmp rfl)) fun fa15 fh15 => ?_
  clear fh14 fa14
  refine Kn.step fh15 rfl rfl .none (Kn.ex_len fh15 (.tmp rfl)) fun Ko hKo => ?_
  go_simp
  try go_bits
  refine hKo _ _ fun fa16 fh16 => ?_
  clear hKo Ko fh15 fa15
  refine Kn.pure fh16 rfl rfl .none (Kn.ex_move fh16 (.tmp rfl)) fun fa17 fh17 => ?_
  clear fh16 fa16
  refine Kn.step fh17 rfl rfl .none (Kn.ex_bin fh17 (.tmp rfl) (.tmp rfl)) fun Ko hKo => ?_
  go_simp
  try go_bits
  try simp only [rl]
  refine hKo _ _ fun fa18 fh18 => ?_
  clear hKo Ko fh17 fa17
  refine Kn.step fh18 rfl rfl .none (Kn.ex_bin fh18 (.tmp rfl) .const) fun Ko hKo => ?_
  go_simp
  try go_bits
  refine hKo _ _ fun fa19 fh19 => ?_
  clear hKo Ko fh18 fa18
  refine Kn.pure fh19 rfl rfl .none (Kn.ex_move fh19 (.tmp rfl)) fun fa20 fh20 => ?_
  clear fh19 fa19
  refine Kn.pure fh20 rfl rfl (.some rfl rfl rfl) (Kn.ex_move fh20 (.tmp rfl)) fun fa21 fh21 => ?_
  clear fh20 fa20
  refine Kn.step fh21 rfl rfl (.some rfl rfl rfl) (Kn.ex_len fh21 (.tmp rfl)) fun Ko hKo => ?_
  go_simp
  try go_bits
  refine hKo _ _ fun fa22 fh22 => ?_
  clear hKo Ko fh21 fa21
  refine Kn.pure fh22 rfl rfl (.some rfl rfl rfl) (Kn.ex_move fh22 (.tmp rfl)) fun fa23 fh23 => ?_
  clear fh22 fa22
  refine Kn.step fh23 rfl rfl (.some rfl rfl rfl) (Kn.ex_bin fh23 (.tmp rfl) (.tmp rfl)) fun Ko hKo => ?_
  go_simp
  try go_bits
  try simp only [rl]
  refine hKo _ _ fun fa24 fh24 => ?_
  clear hKo Ko fh23 fa23
  refine Kn.step fh24 rfl rfl (.some rfl rfl rfl) (Kn.ex_bin fh24 (.tmp rfl) .const) fun Ko hKo => ?_
  go_simp
  try go_bits
  refine hKo _ _ fun fa25 fh25 => ?_
  clear hKo Ko fh24 fa24
  refine Kn.pure fh25 rfl rfl .none (Kn.ex_pick fh25 (.tmp rfl) (.tmp rfl)) fun fa26 fh26 => ?_
  clear fh25 fa25
  refine wpList_nil ?_
  refine hK7 _ _ ?_
  clear hK7 K7
  replace fh26 := fh26.cut (.cons (t := 28) rfl (.cons (t := 4) rfl (.cons (t := 5) rfl (.cons (t := 3) rfl (.cons (t := 2) rfl (.cons (t := 0) rfl .nil))))))
  refine Kn.no fh26 (.tmp rfl) ?_
  refine wp_skip ?_
  refine hK6 _ _ ?_
  clear hK6 K6
  replace fh26 := fh26.cut (.cons (t := 4) rfl (.cons (t := 5) rfl (.cons (t := 3) rfl (.cons (t := 2) rfl (.cons (t := 0) rfl .nil)))))
  clear hi1 hi9
  refine wp_seq_k fun K8 hK8 => ?_
  refine wp_region_lit ?_
  refine Kn.pure fh26 rfl rfl .none (Kn.ex_assign fh26 .const) fun fa27 fh27 => ?_
  clear fh26 fa26
  refine wpList_nil ?_
  refine hK8 _ _ ?_
  clear hK8 K8
  refine wp_seq_k fun K9 hK9 => ?_
  refine wp_seq_k fun K10 hK10 => ?_
  refine wp_region_lit ?_
  refine Kn.pure fh27 rfl rfl .none (Kn.ex_move fh27 (.tmp rfl)) fun fa28 fh28 => ?_
  clear fh27 fa27
  refine Kn.pure fh28 rfl rfl .none (Kn.ex_assign fh28 (.tmp rfl)) fun fa29 fh29 => ?_
  clear fh28 fa28
  refine wpList_nil ?_
  refine hK10 _ _ ?_
  clear hK10 K10
  replace fh29 := fh29.cut (.cons (t := 7) rfl (.cons (t := 6) rfl (.cons (t := 4) rfl (.cons (t := 5) rfl (.cons (t := 3) rfl (.cons (t := 2) rfl (.cons (t := 0) rfl .nil)))))))
  refine wp_block ?_
  refine Kn.loop (fun m fr v => ∃ (i n k : Nat), Kn.Kn 72 [(7, .int .i64 (i : Int)), (6, .int .i64 (n : Int)), (0, .string s), (4, .int .i64 1), (5, .bool true)] fr ∧ i + m = s.size ∧ i ≤ k + 1 ∧ k + 1 ≤ i ∧ n < 1000000000 ∧ Hid (n = valD (ds.take k)) ∧ Hid ((ds.take k).all isD = true) ∧ w = v) L ⟨1, 0, 0, fh29.cut (.cons (t := 7) rfl (.cons (t := 6) rfl (.cons (t := 0) rfl (.cons (t := 4) rfl (.cons (t := 5) rfl .nil))))), by omega, by omega, by omega, by omega, Lib.hid rfl, Lib.hid rfl, rfl⟩ ?_
  clear fh29 fa29
  intro m11 fa30 v hI Kl11 hKl11
  obtain ⟨i, n, k, fh30, hi, hika, hikb, hn9, HV, HAl, rfl⟩ := hI
  by_cases hlt : i < s.size
  · obtain ⟨x, hx⟩ : ∃ x, s[i].toNat = x := ⟨_, rfl⟩
    have hx256 : x < 256 := by rw [← hx]; exact s[i].toNat_lt
    have hkd : k < ds.length := by rw [HL.out]; omega
    have HXd : Hid (ds[k] = s[i]) := Lib.hid (HG.out k i hkd (by omega))
    have HXn : Hid (s[i].toNat = x) := Lib.hid hx
    refine wp_seq_k fun K12 hK12 => ?_
    refine wp_seq_k fun K13 hK13 => ?_
    refine wp_region_lit ?_
    refine Kn.pure fh30 rfl rfl .none (Kn.ex_move fh30 (.tmp rfl)) fun fa31 fh31 => ?_
    clear fh30 fa30
    refine Kn.pure fh31 rfl rfl .none (Kn.ex_move fh31 (.tmp rfl)) fun fa32 fh32 => ?_
    clear fh31 fa31
    refine Kn.step fh32 rfl rfl .none (Kn.ex_len fh32 (.tmp rfl)) fun Ko hKo => ?_
    go_simp
    try go_bits
    refine hKo _ _ fun fa33 fh33 => ?_
    clear hKo Ko fh32 fa32
    refine Kn.step fh33 rfl rfl .none (Kn.ex_bin fh33 (.tmp rfl) (.tmp rfl)) fun Ko hKo => ?_
    go_simp
    try go_bits
    refine hKo _ _ fun fa34 fh34 => ?_
    clear hKo Ko fh33 fa33
    refine wpList_nil ?_
    refine hK13 _ _ ?_
    clear hK13 K13
    replace fh34 := fh34.cut (.cons (t := 33) rfl (.cons (t := 7) rfl (.cons (t := 6) rfl (.cons (t := 0) rfl (.cons (t := 4) rfl (.cons (t := 5) rfl .nil))))))
    refine Kn.yes fh34 (.tmp rfl) ?_
    refine wp_skip ?_
    refine hK12 _ _ ?_
    clear hK12 K12
    replace fh34 := fh34.cut (.cons (t := 7) rfl (.cons (t := 6) rfl (.cons (t := 0) rfl (.cons (t := 4) rfl (.cons (t := 5) rfl .nil)))))
    refine wp_seq_k fun K14 hK14 => ?_
    refine wp_block ?_
    by_cases hlo : x < 48
    · have hloi : (x : Int) < 48 := by omega
      refine wp_seq_k fun K15 hK15 => ?_
      refine wp_seq_k fun K16 hK16 => ?_
      refine wp_region_lit ?_
      refine Kn.pure fh34 rfl rfl .none (Kn.ex_move fh34 (.tmp rfl)) fun fa35 fh35 => ?_
      clear fh34 fa34
      refine Kn.pure fh35 rfl rfl .none (Kn.ex_move fh35 (.tmp rfl)) fun fa36 fh36 => ?_
      clear fh35 fa35
      refine Kn.step fh36 rfl rfl .none (Kn.ex_index fh36 (.tmp rfl) (.tmp rfl)) fun Ko hKo => ?_
      go_simp
      try go_bits
      refine hKo _ _ fun fa37 fh37 => ?_
      clear hKo Ko fh36 fa36
      refine Kn.step fh37 rfl rfl .none (Kn.ex_bin fh37 (.tmp rfl) .const) fun Ko hKo => ?_
      go_simp
      try go_bits
      refine hKo _ _ fun fa38 fh38 => ?_
      clear hKo Ko fh37 fa37
      refine Kn.pure fh38 rfl rfl .none (Kn.ex_move fh38 (.tmp rfl)) fun fa39 fh39 => ?_
      clear fh38 fa38
      refine Kn.skip fh39 rfl rfl (.some rfl rfl rfl) fun fa40 fh40 => ?_
      clear fh39 fa39
      refine Kn.skip fh40 rfl rfl (.some rfl rfl rfl) fun fa41 fh41 => ?_
      clear fh40 fa40
      refine Kn.skip fh41 rfl rfl (.some rfl rfl rfl) fun fa42 fh42 => ?_
      clear fh41 fa41
      refine Kn.skip fh42 rfl rfl (.some rfl rfl rfl) fun fa43 fh43 => ?_
      clear fh42 fa42
      refine Kn.pure fh43 rfl rfl .none (Kn.ex_pick fh43 (.tmp rfl) .const) fun fa44 fh44 => ?_
      clear fh43 fa43
      refine wpList_nil ?_
      refine hK16 _ _ ?_
      clear hK16 K16
      replace fh44 := fh44.cut (.cons (t := 45) rfl (.cons (t := 7) rfl (.cons (t := 6) rfl (.cons (t := 0) rfl (.cons (t := 4) rfl (.cons (t := 5) rfl .nil))))))
      refine Kn.yes fh44 (.tmp rfl) ?_
      replace fh44 := fh44.cut (.cons (t := 7) rfl (.cons (t := 6) rfl (.cons (t := 0) rfl (.cons (t := 4) rfl (.cons (t := 5) rfl .nil)))))
      refine wp_seq_k fun K17 hK17 => ?_
      refine wp_region_lit ?_
      refine Kn.pure fh44 rfl rfl .none (Kn.ex_assign fh44 .const) fun fa45 fh45 => ?_
      clear fh44 fa44
      refine Kn.pure fh45 rfl rfl .none (Kn.ex_assign fh45 .const) fun fa46 fh46 => ?_
      clear fh45 fa45
      refine wpList_nil ?_
      refine hK17 _ _ ?_
      clear hK17 K17
      refine wp_ret ?_
      refine Kn.then_ret ?_
      refine Kn.block_ret ?_
      refine Kn.then_ret ?_
      refine Kn.then_ret ?_
      refine Kn.block_ret ?_
      refine Kn.then_ret ?_
      have HO : Hid (okD true ds = false) := Lib.hid (by unfold okD; rw [show ds.all isD = false from (Bool.eq_false_iff.2 fun h => by have h1 := List.all_eq_true.1 h ds[k] (List.getElem_mem _); rw [HXd.out] at h1; simp [isD, HXn.out] at h1; omega)]; simp)
      exact Kn.ret2 fh46 rfl rfl rfl ⟨by rw [(num_bad HM.out HD.out HO.out).1, (num_bad HM.out HD.out HO.out).2], rfl⟩
    have hloi : ¬ (x : Int) < 48 := by omega
    by_cases hhi : 57 < x
    · have hhii : (57 : Int) < (x : Int) := by omega
      refine wp_seq_k fun K15 hK15 => ?_
      refine wp_seq_k fun K16 hK16 => ?_
      refine wp_region_lit ?_
      refine Kn.pure fh34 rfl rfl .none (Kn.ex_move fh34 (.tmp rfl)) fun fa35 fh35 => ?_
      clear fh34 fa34
      refine Kn.pure fh35 rfl rfl .none (Kn.ex_move fh35 (.tmp rfl)) fun fa36 fh36 => ?_
      clear fh35 fa35
      refine Kn.step fh36 rfl rfl .none (Kn.ex_index fh36 (.tmp rfl) (.tmp rfl)) fun Ko hKo => ?_
      go_simp
      try go_bits
      refine hKo _ _ fun fa37 fh37 => ?_
      clear hKo Ko fh36 fa36
      refine Kn.step fh37 rfl rfl .none (Kn.ex_bin fh37 (.tmp rfl) .const) fun Ko hKo => ?_
      go_simp
      try go_bits
      refine hKo _ _ fun fa38 fh38 => ?_
      clear hKo Ko fh37 fa37
      refine Kn.pure fh38 rfl rfl .none (Kn.ex_move fh38 (.tmp rfl)) fun fa39 fh39 => ?_
      clear fh38 fa38
      refine Kn.pure fh39 rfl rfl (.some rfl rfl rfl) (Kn.ex_move fh39 (.tmp rfl)) fun fa40 fh40 => ?_
      clear fh39 fa39
      refine Kn.pure fh40 rfl rfl (.some rfl rfl rfl) (Kn.ex_move fh40 (.tmp rfl)) fun fa41 fh41 => ?_
      clear fh40 fa40
      refine Kn.step fh41 rfl rfl (.some rfl rfl rfl) (Kn.ex_index fh41 (.tmp rfl) (.tmp rfl)) fun Ko hKo => ?_
      go_simp
      try go_bits
      refine hKo _ _ fun fa42 fh42 => ?_
      clear hKo Ko fh41 fa41
      refine Kn.step fh42 rfl rfl (.some rfl rfl rfl) (Kn.ex_bin fh42 (.tmp rfl) .const) fun Ko hKo => ?_
      go_simp
      try go_bits
      refine hKo _ _ fun fa43 fh43 => ?_
      clear hKo Ko fh42 fa42
      refine Kn.pure fh43 rfl rfl .none (Kn.ex_pick fh43 (.tmp rfl) (.tmp rfl)) fun fa44 fh44 => ?_
      clear fh43 fa43
      refine wpList_nil ?_
      refine hK16 _ _ ?_
      clear hK16 K16
      replace fh44 := fh44.cut (.cons (t := 45) rfl (.cons (t := 7) rfl (.cons (t := 6) rfl (.cons (t := 0) rfl (.cons (t := 4) rfl (.cons (t := 5) rfl .nil))))))
      refine Kn.yes fh44 (.tmp rfl) ?_
      replace fh44 := fh44.cut (.cons (t := 7) rfl (.cons (t := 6) rfl (.cons (t := 0) rfl (.cons (t := 4) rfl (.cons (t := 5) rfl .nil)))))
      refine wp_seq_k fun K17 hK17 => ?_
      refine wp_region_lit ?_
      refine Kn.pure fh44 rfl rfl .none (Kn.ex_assign fh44 .const) fun fa45 fh45 => ?_
      clear fh44 fa44
      refine Kn.pure fh45 rfl rfl .none (Kn.ex_assign fh45 .const) fun fa46 fh46 => ?_
      clear fh45 fa45
      refine wpList_nil ?_
      refine hK17 _ _ ?_
      clear hK17 K17
      refine wp_ret ?_
      refine Kn.then_ret ?_
      refine Kn.block_ret ?_
      refine Kn.then_ret ?_
      refine Kn.then_ret ?_
      refine Kn.block_ret ?_
      refine Kn.then_ret ?_
      have HO : Hid (okD true ds = false) := Lib.hid (by unfold okD; rw [show ds.all isD = false from (Bool.eq_false_iff.2 fun h => by have h1 := List.all_eq_true.1 h ds[k] (List.getElem_mem _); rw [HXd.out] at h1; simp [isD, HXn.out] at h1; omega)]; simp)
      exact Kn.ret2 fh46 rfl rfl rfl ⟨by rw [(num_bad HM.out HD.out HO.out).1, (num_bad HM.out HD.out HO.out).2], rfl⟩
    have hhii : ¬ (57 : Int) < (x : Int) := by omega
    refine wp_seq_k fun K15 hK15 => ?_
    refine wp_seq_k fun K16 hK16 => ?_
    refine wp_region_lit ?_
    refine Kn.pure fh34 rfl rfl .none (Kn.ex_move fh34 (.tmp rfl)) fun fa35 fh35 => ?_
    clear fh34 fa34
    refine Kn.pure fh35 rfl rfl .none (Kn.ex_move fh35 (.tmp rfl)) fun fa36 fh36 => ?_
    clear fh35 fa35
    refine Kn.step fh36 rfl rfl .none (Kn.ex_index fh36 (.tmp rfl) (.tmp rfl)) fun Ko hKo => ?_
    go_simp
    try go_bits
    refine hKo _ _ fun fa37 fh37 => ?_
    clear hKo Ko fh36 fa36
    refine Kn.step fh37 rfl rfl .none (Kn.ex_bin fh37 (.tmp rfl) .const) fun Ko hKo => ?_
    go_simp
    try go_bits
    refine hKo _ _ fun fa38 fh38 => ?_
    clear hKo Ko fh37 fa37
    refine Kn.pure fh38 rfl rfl .none (Kn.ex_move fh38 (.tmp rfl)) fun fa39 fh39 => ?_
    clear fh38 fa38
    refine Kn.pure fh39 rfl rfl (.some rfl rfl rfl) (Kn.ex_move fh39 (.tmp rfl)) fun fa40 fh40 => ?_
    clear fh39 fa39
    refine Kn.pure fh40 rfl rfl (.some rfl rfl rfl) (Kn.ex_move fh40 (.tmp rfl)) fun fa41 fh41 => ?_
    clear fh40 fa40
    refine Kn.step fh41 rfl rfl (.some rfl rfl rfl) (Kn.ex_index fh41 (.tmp rfl) (.tmp rfl)) fun Ko hKo => ?_
    go_simp
    try go_bits
    refine hKo _ _ fun fa42 fh42 => ?_
    clear hKo Ko fh41 fa41
    refine Kn.step fh42 rfl rfl (.some rfl rfl rfl) (Kn.ex_bin fh42 (.tmp rfl) .const) fun Ko hKo => ?_
    go_simp
    try go_bits
    refine hKo _ _ fun fa43 fh43 => ?_
    clear hKo Ko fh42 fa42
    refine Kn.pure fh43 rfl rfl .none (Kn.ex_pick fh43 (.tmp rfl) (.tmp rfl)) fun fa44 fh44 => ?_
    clear fh43 fa43
    refine wpList_nil ?_
    refine hK16 _ _ ?_
    clear hK16 K16
    replace fh44 := fh44.cut (.cons (t := 45) rfl (.cons (t := 7) rfl (.cons (t := 6) rfl (.cons (t := 0) rfl (.cons (t := 4) rfl (.cons (t := 5) rfl .nil))))))
    refine Kn.no fh44 (.tmp rfl) ?_
    refine wp_skip ?_
    refine hK15 _ _ ?_
    clear hK15 K15
    replace fh44 := fh44.cut (.cons (t := 7) rfl (.cons (t := 6) rfl (.cons (t := 0) rfl (.cons (t := 4) rfl (.cons (t := 5) rfl .nil)))))
    obtain ⟨t, ht⟩ : ∃ t, 10 * n = t := ⟨_, rfl⟩
    obtain ⟨u, hu⟩ : ∃ u, t + x = u := ⟨_, rfl⟩
    obtain ⟨n', hn'⟩ : ∃ y, u - 48 = y := ⟨_, rfl⟩
    have a1 : 10 * (n : Int) = (t : Int) := by omega
    have a2 : (t : Int) + (x : Int) = (u : Int) := by omega
    have a3 : (u : Int) - 48 = (n' : Int) := by omega
    have l1 : t ≤ 10000000000 := by omega
    have l2 : u ≤ 10000000300 := by omega
    have l3 : n' ≤ 10000000300 := by omega
    have HT : Hid (ds.take (k + 1) = ds.take k ++ [s[i]]) := Lib.hid (by rw [List.take_succ_eq_append_getElem hkd, HXd.out])
    have HV2 : Hid (n' = valD (ds.take (k + 1))) := Lib.hid (by rw [HT.out, valD_snoc, ← HV.out, HXn.out]; omega)
    have HA2 : Hid ((ds.take (k + 1)).all isD = true) := Lib.hid (by rw [HT.out, List.all_append, HAl.out]; simp [isD, HXn.out]; omega)
    have hn2 : n' < 1000000000 := by
      have h1 := valD_lt (k + 1) (ds.take (k + 1)) (by rw [List.length_take]; omega) HA2.out
      rw [← HV2.out] at h1
      have h2 : 10 ^ (k + 1) ≤ 10 ^ 9 := Nat.pow_le_pow_right (by omega) (by rw [HL.out] at hkd; omega)
      omega
    clear ht hu hn'
    refine wp_region_lit ?_
    refine Kn.pure fh44 rfl rfl .none (Kn.ex_move fh44 (.tmp rfl)) fun fa45 fh45 => ?_
    clear fh44 fa44
    refine Kn.step fh45 rfl rfl .none (Kn.ex_bin fh45 .const (.tmp rfl)) fun Ko hKo => ?_
    go_simp
    try go_bits
    try simp only [a1]
    refine hKo _ _ fun fa46 fh46 => ?_
    clear hKo Ko fh45 fa45
    refine Kn.pure fh46 rfl rfl .none (Kn.ex_move fh46 (.tmp rfl)) fun fa47 fh47 => ?_
    clear fh46 fa46
    refine Kn.pure fh47 rfl rfl .none (Kn.ex_move fh47 (.tmp rfl)) fun fa48 fh48 => ?_
    clear fh47 fa47
    refine Kn.step fh48 rfl rfl .none (Kn.ex_index fh48 (.tmp rfl) (.tmp rfl)) fun Ko hKo => ?_
    go_simp
    try go_bits
    refine hKo _ _ fun fa49 fh49 => ?_
    clear hKo Ko fh48 fa48
    refine Kn.step fh49 rfl rfl .none (Kn.ex_convert fh49 (.tmp rfl)) fun Ko hKo => ?_
    go_simp
    try go_bits
    refine hKo _ _ fun fa50 fh50 => ?_
    clear hKo Ko fh49 fa49
    refine Kn.step fh50 rfl rfl .none (Kn.ex_bin fh50 (.tmp rfl) (.tmp rfl)) fun Ko hKo => ?_
    go_simp
    try go_bits
    try simp only [a2]
    refine hKo _ _ fun fa51 fh51 => ?_
    clear hKo Ko fh50 fa50
    refine Kn.step fh51 rfl rfl .none (Kn.ex_bin fh51 (.tmp rfl) .const) fun Ko hKo => ?_
    go_simp
    try go_bits
    try simp only [a3]
    refine hKo _ _ fun fa52 fh52 => ?_
    clear hKo Ko fh51 fa51
    refine Kn.pure fh52 rfl rfl .none (Kn.ex_assign fh52 (.tmp rfl)) fun fa53 fh53 => ?_
    clear fh52 fa52
    refine wpList_nil ?_
    refine Kn.block_normal ?_
    refine hK14 _ _ ?_
    clear hK14 K14
    replace fh53 := fh53.cut (.cons (t := 6) rfl (.cons (t := 7) rfl (.cons (t := 0) rfl (.cons (t := 4) rfl (.cons (t := 5) rfl .nil)))))
    clear a1 a2 a3 hx
    refine wp_region_lit ?_
    refine Kn.pure fh53 rfl rfl .none (Kn.ex_move fh53 (.tmp rfl)) fun fa54 fh54 => ?_
    clear fh53 fa53
    refine Kn.step fh54 rfl rfl .none (Kn.ex_bin fh54 (.tmp rfl) .const) fun Ko hKo => ?_
    go_simp
    try go_bits
    refine hKo _ _ fun fa55 fh55 => ?_
    clear hKo Ko fh54 fa54
    refine Kn.pure fh55 rfl rfl .none (Kn.ex_assign fh55 (.tmp rfl)) fun fa56 fh56 => ?_
    clear fh55 fa55
    refine wpList_nil ?_
    replace fh56 := fh56.cut (.cons (t := 7) rfl (.cons (t := 6) rfl (.cons (t := 0) rfl (.cons (t := 4) rfl (.cons (t := 5) rfl .nil)))))
    exact hKl11 (m11 - 1) _ _ (by omega) ⟨i + 1, n', k + 1, fh56.cut (.turn (t := 7) rfl (by go_num) (.cons (t := 6) rfl (.cons (t := 0) rfl (.cons (t := 4) rfl (.cons (t := 5) rfl .nil))))), by omega, by omega, by omega, hn2, HV2, HA2, rfl⟩
  have hkL : k = L := by omega
  have HKd : Hid (ds.take k = ds) := Lib.hid (List.take_of_length_le (by rw [HL.out]; omega))
  rw [HKd.out] at HV HAl
  refine wp_seq_k fun K12 hK12 => ?_
  refine wp_seq_k fun K13 hK13 => ?_
  refine wp_region_lit ?_
  refine Kn.pure fh30 rfl rfl .none (Kn.ex_move fh30 (.tmp rfl)) fun fa31 fh31 => ?_
  clear fh30 fa30
  refine Kn.pure fh31 rfl rfl .none (Kn.ex_move fh31 (.tmp rfl)) fun fa32 fh32 => ?_
  clear fh31 fa31
  refine Kn.step fh32 rfl rfl .none (Kn.ex_len fh32 (.tmp rfl)) fun Ko hKo => ?_
  go_simp
  try go_bits
  refine hKo _ _ fun fa33 fh33 => ?_
  clear hKo Ko fh32 fa32
  refine Kn.step fh33 rfl rfl .none (Kn.ex_bin fh33 (.tmp rfl) (.tmp rfl)) fun Ko hKo => ?_
  go_simp
  try go_bits
  refine hKo _ _ fun fa34 fh34 => ?_
  clear hKo Ko fh33 fa33
  refine wpList_nil ?_
  refine hK13 _ _ ?_
  clear hK13 K13
  replace fh34 := fh34.cut (.cons (t := 33) rfl (.cons (t := 7) rfl (.cons (t := 6) rfl (.cons (t := 0) rfl (.cons (t := 4) rfl (.cons (t := 5) rfl .nil))))))
  refine Kn.no fh34 (.tmp rfl) ?_
  replace fh34 := fh34.cut (.cons (t := 7) rfl (.cons (t := 6) rfl (.cons (t := 0) rfl (.cons (t := 4) rfl (.cons (t := 5) rfl .nil)))))
  refine wp_exit ?_
  refine Kn.then_exit ?_
  clear hK12 K12
  refine Kn.then_exit ?_
  clear hKl11 Kl11
  refine Kn.block_exit ?_
  refine hK9 _ _ ?_
  clear hK9 K9
  replace fh34 := fh34.cut (.cons (t := 6) rfl (.cons (t := 0) rfl (.cons (t := 4) rfl (.cons (t := 5) rfl .nil))))
  obtain ⟨x, hx⟩ : ∃ x, s[1].toNat = x := ⟨_, rfl⟩
  have HXd : Hid (ds.head? = some s[1]) := Lib.hid (by rw [List.head?_eq_getElem?, List.getElem?_eq_getElem (show 0 < ds.length by rw [HL.out]; omega), HG.out 0 1 (by rw [HL.out]; omega) (by omega)])
  have HXn : Hid (s[1].toNat = x) := Lib.hid hx
  have hat : (1 : Int) < (s.size : Int) := by omega
  by_cases h48 : x = 48
  · have q48 : ((x : Int) == 48) = true := beq_iff_eq.2 (by omega)
    have HH : Hid ((ds.head? == some 48) = true) := Lib.hid (by rw [HXd.out]; simp; exact UInt8.toNat_inj.1 (by rw [HXn.out, h48]; rfl))
    clear h48
    by_cases hL2 : 1 < L
    · have hL2i : (1 : Int) < (L : Int) := by omega
      refine wp_seq_k fun K14 hK14 => ?_
      refine wp_seq_k fun K15 hK15 => ?_
      refine wp_region_lit ?_
      refine Kn.pure fh34 rfl rfl .none (Kn.ex_move fh34 (.tmp rfl)) fun fa35 fh35 => ?_
      clear fh34 fa34
      refine Kn.pure fh35 rfl rfl .none (Kn.ex_move fh35 (.tmp rfl)) fun fa36 fh36 => ?_
      clear fh35 fa35
      refine Kn.step fh36 rfl rfl .none (Kn.ex_index fh36 (.tmp rfl) (.tmp rfl)) fun Ko hKo => ?_
      go_simp
      try go_bits
      refine hKo _ _ fun fa37 fh37 => ?_
      clear hKo Ko fh36 fa36
      refine Kn.step fh37 rfl rfl .none (Kn.ex_bin fh37 (.tmp rfl) .const) fun Ko hKo => ?_
      go_simp
      try go_bits
      refine hKo _ _ fun fa38 fh38 => ?_
      clear hKo Ko fh37 fa37
      refine Kn.pure fh38 rfl rfl .none (Kn.ex_move fh38 (.tmp rfl)) fun fa39 fh39 => ?_
      clear fh38 fa38
      refine Kn.pure fh39 rfl rfl (.some rfl rfl rfl) (Kn.ex_move fh39 (.tmp rfl)) fun fa40 fh40 => ?_
      clear fh39 fa39
      refine Kn.step fh40 rfl rfl (.some rfl rfl rfl) (Kn.ex_len fh40 (.tmp rfl)) fun Ko hKo => ?_
      go_simp
      try go_bits
      refine hKo _ _ fun fa41 fh41 => ?_
      clear hKo Ko fh40 fa40
      refine Kn.pure fh41 rfl rfl (.some rfl rfl rfl) (Kn.ex_move fh41 (.tmp rfl)) fun fa42 fh42 => ?_
      clear fh41 fa41
      refine Kn.step fh42 rfl rfl (.some rfl rfl rfl) (Kn.ex_bin fh42 (.tmp rfl) (.tmp rfl)) fun Ko hKo => ?_
      go_simp
      try go_bits
      try simp only [rl]
      refine hKo _ _ fun fa43 fh43 => ?_
      clear hKo Ko fh42 fa42
      refine Kn.step fh43 rfl rfl (.some rfl rfl rfl) (Kn.ex_bin fh43 (.tmp rfl) .const) fun Ko hKo => ?_
      go_simp
      try go_bits
      refine hKo _ _ fun fa44 fh44 => ?_
      clear hKo Ko fh43 fa43
      refine Kn.pure fh44 rfl rfl (.some rfl rfl rfl) (Kn.ex_move fh44 (.tmp rfl)) fun fa45 fh45 => ?_
      clear fh44 fa44
      refine Kn.skip fh45 rfl rfl (.some rfl rfl rfl) fun fa46 fh46 => ?_
      clear fh45 fa45
      refine Kn.pure fh46 rfl rfl (.some rfl rfl rfl) (Kn.ex_pick fh46 (.tmp rfl) .const) fun fa47 fh47 => ?_
      clear fh46 fa46
      refine Kn.pure fh47 rfl rfl .none (Kn.ex_pick fh47 (.tmp rfl) (.tmp rfl)) fun fa48 fh48 => ?_
      clear fh47 fa47
      refine wpList_nil ?_
      refine hK15 _ _ ?_
      clear hK15 K15
      replace fh48 := fh48.cut (.cons (t := 67) rfl (.cons (t := 6) rfl (.cons (t := 5) rfl .nil)))
      refine Kn.yes fh48 (.tmp rfl) ?_
      replace fh48 := fh48.cut (.cons (t := 6) rfl (.cons (t := 5) rfl .nil))
      refine wp_seq_k fun K16 hK16 => ?_
      refine wp_region_lit ?_
      refine Kn.pure fh48 rfl rfl .none (Kn.ex_assign fh48 .const) fun fa49 fh49 => ?_
      clear fh48 fa48
      refine Kn.pure fh49 rfl rfl .none (Kn.ex_assign fh49 .const) fun fa50 fh50 => ?_
      clear fh49 fa49
      refine wpList_nil ?_
      refine hK16 _ _ ?_
      clear hK16 K16
      refine wp_ret ?_
      refine Kn.then_ret ?_
      have HO : Hid (okD true ds = false) := Lib.hid (by unfold okD; rw [HH.out, decide_eq_true (show 1 < ds.length by rw [HL.out]; omega)]; simp)
      exact Kn.ret2 fh50 rfl rfl rfl ⟨by rw [(num_bad HM.out HD.out HO.out).1, (num_bad HM.out HD.out HO.out).2], rfl⟩
    have hL2i : ¬ (1 : Int) < (L : Int) := by omega
    refine wp_seq_k fun K14 hK14 => ?_
    refine wp_seq_k fun K15 hK15 => ?_
    refine wp_region_lit ?_
    refine Kn.pure fh34 rfl rfl .none (Kn.ex_move fh34 (.tmp rfl)) fun fa35 fh35 => ?_
    clear fh34 fa34
    refine Kn.pure fh35 rfl rfl .none (Kn.ex_move fh35 (.tmp rfl)) fun fa36 fh36 => ?_
    clear fh35 fa35
    refine Kn.step fh36 rfl rfl .none (Kn.ex_index fh36 (.tmp rfl) (.tmp rfl)) fun Ko hKo => ?_
    go_simp
    try go_bits
    refine hKo _ _ fun fa37 fh37 => ?_
    clear hKo Ko fh36 fa36
    refine Kn.step fh37 rfl rfl .none (Kn.ex_bin fh37 (.tmp rfl) .const) fun Ko hKo => ?_
    go_simp
    try go_bits
    refine hKo _ _ fun fa38 fh38 => ?_
    clear hKo Ko fh37 fa37
    refine Kn.pure fh38 rfl rfl .none (Kn.ex_move fh38 (.tmp rfl)) fun fa39 fh39 => ?_
    clear fh38 fa38
    refine Kn.pure fh39 rfl rfl (.some rfl rfl rfl) (Kn.ex_move fh39 (.tmp rfl)) fun fa40 fh40 => ?_
    clear fh39 fa39
    refine Kn.step fh40 rfl rfl (.some rfl rfl rfl) (Kn.ex_len fh40 (.tmp rfl)) fun Ko hKo => ?_
    go_simp
    try go_bits
    refine hKo _ _ fun fa41 fh41 => ?_
    clear hKo Ko fh40 fa40
    refine Kn.pure fh41 rfl rfl (.some rfl rfl rfl) (Kn.ex_move fh41 (.tmp rfl)) fun fa42 fh42 => ?_
    clear fh41 fa41
    refine Kn.step fh42 rfl rfl (.some rfl rfl rfl) (Kn.ex_bin fh42 (.tmp rfl) (.tmp rfl)) fun Ko hKo => ?_
    go_simp
    try go_bits
    try simp only [rl]
    refine hKo _ _ fun fa43 fh43 => ?_
    clear hKo Ko fh42 fa42
    refine Kn.step fh43 rfl rfl (.some rfl rfl rfl) (Kn.ex_bin fh43 (.tmp rfl) .const) fun Ko hKo => ?_
    go_simp
    try go_bits
    refine hKo _ _ fun fa44 fh44 => ?_
    clear hKo Ko fh43 fa43
    refine Kn.pure fh44 rfl rfl (.some rfl rfl rfl) (Kn.ex_move fh44 (.tmp rfl)) fun fa45 fh45 => ?_
    clear fh44 fa44
    refine Kn.pure fh45 rfl rfl (.some rfl rfl rfl) (Kn.ex_move fh45 (.tmp rfl)) fun fa46 fh46 => ?_
    clear fh45 fa45
    refine Kn.pure fh46 rfl rfl (.some rfl rfl rfl) (Kn.ex_pick fh46 (.tmp rfl) (.tmp rfl)) fun fa47 fh47 => ?_
    clear fh46 fa46
    refine Kn.pure fh47 rfl rfl .none (Kn.ex_pick fh47 (.tmp rfl) (.tmp rfl)) fun fa48 fh48 => ?_
    clear fh47 fa47
    refine wpList_nil ?_
    refine hK15 _ _ ?_
    clear hK15 K15
    replace fh48 := fh48.cut (.cons (t := 67) rfl (.cons (t := 6) rfl (.cons (t := 5) rfl .nil)))
    refine Kn.yes fh48 (.tmp rfl) ?_
    replace fh48 := fh48.cut (.cons (t := 6) rfl (.cons (t := 5) rfl .nil))
    refine wp_seq_k fun K16 hK16 => ?_
    refine wp_region_lit ?_
    refine Kn.pure fh48 rfl rfl .none (Kn.ex_assign fh48 .const) fun fa49 fh49 => ?_
    clear fh48 fa48
    refine Kn.pure fh49 rfl rfl .none (Kn.ex_assign fh49 .const) fun fa50 fh50 => ?_
    clear fh49 fa49
    refine wpList_nil ?_
    refine hK16 _ _ ?_
    clear hK16 K16
    refine wp_ret ?_
    refine Kn.then_ret ?_
    have HO : Hid (okD true ds = false) := Lib.hid (by unfold okD; rw [HH.out]; simp)
    exact Kn.ret2 fh50 rfl rfl rfl ⟨by rw [(num_bad HM.out HD.out HO.out).1, (num_bad HM.out HD.out HO.out).2], rfl⟩
  have q48 : ((x : Int) == 48) = false := beq_eq_false_iff_ne.2 (by omega)
  have HH : Hid ((ds.head? == some 48) = false) := Lib.hid (by rw [HXd.out]; simp; intro e; exact h48 (by rw [← HXn.out, e]; rfl))
  refine wp_seq_k fun K14 hK14 => ?_
  refine wp_seq_k fun K15 hK15 => ?_
  refine wp_region_lit ?_
  refine Kn.pure fh34 rfl rfl .none (Kn.ex_move fh34 (.tmp rfl)) fun fa35 fh35 => ?_
  clear fh34 fa34
  refine Kn.pure fh35 rfl rfl .none (Kn.ex_move fh35 (.tmp rfl)) fun fa36 fh36 => ?_
  clear fh35 fa35
  refine Kn.step fh36 rfl rfl .none (Kn.ex_index fh36 (.tmp rfl) (.tmp rfl)) fun Ko hKo => ?_
  go_simp
  try go_bits
  refine hKo _ _ fun fa37 fh37 => ?_
  clear hKo Ko fh36 fa36
  refine Kn.step fh37 rfl rfl .none (Kn.ex_bin fh37 (.tmp rfl) .const) fun Ko hKo => ?_
  go_simp
  try go_bits
  refine hKo _ _ fun fa38 fh38 => ?_
  clear hKo Ko fh37 fa37
  refine Kn.pure fh38 rfl rfl .none (Kn.ex_move fh38 (.tmp rfl)) fun fa39 fh39 => ?_
  clear fh38 fa38
  refine Kn.skip fh39 rfl rfl (.some rfl rfl rfl) fun fa40 fh40 => ?_
  clear fh39 fa39
  refine Kn.skip fh40 rfl rfl (.some rfl rfl rfl) fun fa41 fh41 => ?_
  clear fh40 fa40
  refine Kn.skip fh41 rfl rfl (.some rfl rfl rfl) fun fa42 fh42 => ?_
  clear fh41 fa41
  refine Kn.skip fh42 rfl rfl (.some rfl rfl rfl) fun fa43 fh43 => ?_
  clear fh42 fa42
  refine Kn.skip fh43 rfl rfl (.some rfl rfl rfl) fun fa44 fh44 => ?_
  clear fh43 fa43
  refine Kn.skip fh44 rfl rfl (.some rfl rfl rfl) fun fa45 fh45 => ?_
  clear fh44 fa44
  refine Kn.skip fh45 rfl rfl (.gone rfl rfl) fun fa46 fh46 => ?_
  clear fh45 fa45
  refine Kn.skip fh46 rfl rfl (.some rfl rfl rfl) fun fa47 fh47 => ?_
  clear fh46 fa46
  refine Kn.pure fh47 rfl rfl .none (Kn.ex_pick fh47 (.tmp rfl) .const) fun fa48 fh48 => ?_
  clear fh47 fa47
  refine wpList_nil ?_
  refine hK15 _ _ ?_
  clear hK15 K15
  replace fh48 := fh48.cut (.cons (t := 67) rfl (.cons (t := 6) rfl (.cons (t := 5) rfl .nil)))
  refine Kn.no fh48 (.tmp rfl) ?_
  refine wp_skip ?_
  refine hK14 _ _ ?_
  clear hK14 K14
  replace fh48 := fh48.cut (.cons (t := 6) rfl (.cons (t := 5) rfl .nil))
  refine wp_seq_k fun K16 hK16 => ?_
  refine wp_seq_k fun K17 hK17 => ?_
  refine wp_region_lit ?_
  refine Kn.pure fh48 rfl rfl .none (Kn.ex_move fh48 (.tmp rfl)) fun fa49 fh49 => ?_
  clear fh48 fa48
  refine wpList_nil ?_
  refine hK17 _ _ ?_
  clear hK17 K17
  replace fh49 := fh49.cut (.cons (t := 68) rfl (.cons (t := 6) rfl .nil))
  refine Kn.yes fh49 (.tmp rfl) ?_
  replace fh49 := fh49.cut (.cons (t := 6) rfl .nil)
  refine wp_region_lit ?_
  refine Kn.pure fh49 rfl rfl .none (Kn.ex_move fh49 (.tmp rfl)) fun fa50 fh50 => ?_
  clear fh49 fa49
  refine Kn.step fh50 rfl rfl .none (Kn.ex_bin fh50 .const (.tmp rfl)) fun Ko hKo => ?_
  go_simp
  try go_bits
  refine hKo _ _ fun fa51 fh51 => ?_
  clear hKo Ko fh50 fa50
  refine Kn.pure fh51 rfl rfl .none (Kn.ex_assign fh51 (.tmp rfl)) fun fa52 fh52 => ?_
  clear fh51 fa51
  refine wpList_nil ?_
  refine hK16 _ _ ?_
  clear hK16 K16
  replace fh52 := fh52.cut (.cons (t := 6) rfl .nil)
  refine wp_seq_k fun K18 hK18 => ?_
  refine wp_region_lit ?_
  refine Kn.pure fh52 rfl rfl .none (Kn.ex_move fh52 (.tmp rfl)) fun fa53 fh53 => ?_
  clear fh52 fa52
  refine Kn.pure fh53 rfl rfl .none (Kn.ex_assign fh53 (.tmp rfl)) fun fa54 fh54 => ?_
  clear fh53 fa53
  refine Kn.pure fh54 rfl rfl .none (Kn.ex_assign fh54 .const) fun fa55 fh55 => ?_
  clear fh54 fa54
  refine wpList_nil ?_
  refine hK18 _ _ ?_
  clear hK18 K18
  replace fh55 := fh55.cut (.cons (t := 3) rfl (.cons (t := 2) rfl .nil))
  refine wp_ret ?_
  have HO : Hid (okD true ds = true) := Lib.hid (by unfold okD; rw [HAl.out, HH.out, decide_eq_true (show 1 ≤ ds.length by rw [HL.out]; omega), decide_eq_true (show ds.length ≤ 9 by rw [HL.out]; omega)]; simp)
  exact Kn.ret2 fh55 rfl rfl rfl ⟨by rw [(num_ok HM.out HD.out HO.out).1, (num_ok HM.out HD.out HO.out).2, ← HV.out]; simp, rfl⟩

set_option maxRecDepth 100000 in
set_option maxHeartbeats 2000000 in
theorem number_e (s : ByteArray) (ds : List UInt8) (L : Nat) (w : World) (hs : s.size ≤ 9223372036854775807) (hs0 : ¬ 0 < s.size) (hsLa : s.size ≤ L + 0) (hsLb : L + 0 ≤ s.size) (HM : Hid ((s.data.toList.head? == some 45) = false)) (HD : Hid (ds = if false then s.data.toList.tail else s.data.toList)) (HL : Hid (ds.length = L)) (HG : Hid (∀ k i (hk : k < ds.length) (hi : i = k + 0), ds[k] = s[i]'(by have := HL.out; omega))) :
    Calls Tryz.prog 21 #[.string s] w fun e w' => e = .returned (.tuple #[.int .i64 (numV s.data.toList), .bool (numB s.data.toList)]) ∧ w = w' := by
  refine Kn.calls Tryz.func21 rfl Tryz.ntmps21 rfl (.cons (t := 0) rfl .nil) fun fa0 fh0 => ?_
  refine wp_seq_k fun K1 hK1 => ?_
  refine wp_region_lit ?_
  refine Kn.pure fh0 rfl rfl .none (Kn.ex_assign fh0 .const) fun fa1 fh1 => ?_
  clear fh0 fa0
  refine Kn.pure fh1 rfl rfl .none (Kn.ex_assign fh1 .const) fun fa2 fh2 => ?_
  clear fh1 fa1
  refine wpList_nil ?_
  refine hK1 _ _ ?_
  clear hK1 K1
  refine wp_seq_k fun K2 hK2 => ?_
  refine wp_region_lit ?_
  refine Kn.pure fh2 rfl rfl .none (Kn.ex_assign fh2 .const) fun fa3 fh3 => ?_
  clear fh2 fa2
  refine wpList_nil ?_
  refine hK2 _ _ ?_
  clear hK2 K2
  refine wp_seq_k fun K3 hK3 => ?_
  refine wp_region_lit ?_
  refine Kn.pure fh3 rfl rfl .none (Kn.ex_move fh3 (.tmp rfl)) fun fa4 fh4 => ?_
  clear fh3 fa3
  refine Kn.step fh4 rfl rfl .none (Kn.ex_len fh4 (.tmp rfl)) fun Ko hKo => ?_
  go_simp
  try go_bits
  refine hKo _ _ fun fa5 fh5 => ?_
  clear hKo Ko fh4 fa4
  refine Kn.step fh5 rfl rfl .none (Kn.ex_bin fh5 (.tmp rfl) .const) fun Ko hKo => ?_
  go_simp
  try go_bits
  refine hKo _ _ fun fa6 fh6 => ?_
  clear hKo Ko fh5 fa5
  refine Kn.pure fh6 rfl rfl .none (Kn.ex_move fh6 (.tmp rfl)) fun fa7 fh7 => ?_
  clear fh6 fa6
  refine Kn.skip fh7 rfl rfl (.some rfl rfl rfl) fun fa8 fh8 => ?_
  clear fh7 fa7
  refine Kn.skip fh8 rfl rfl (.some rfl rfl rfl) fun fa9 fh9 => ?_
  clear fh8 fa8
  refine Kn.skip fh9 rfl rfl (.some rfl rfl rfl) fun fa10 fh10 => ?_
  clear fh9 fa9
  refine Kn.pure fh10 rfl rfl .none (Kn.ex_pick fh10 (.tmp rfl) .const) fun fa11 fh11 => ?_
  clear fh10 fa10
  refine Kn.pure fh11 rfl rfl .none (Kn.ex_assign fh11 (.tmp rfl)) fun fa12 fh12 => ?_
  clear fh11 fa11
  refine wpList_nil ?_
  refine hK3 _ _ ?_
  clear hK3 K3
  replace fh12 := fh12.cut (.cons (t := 5) rfl (.cons (t := 4) rfl (.cons (t := 3) rfl (.cons (t := 2) rfl (.cons (t := 0) rfl .nil)))))
  refine wp_seq_k fun K4 hK4 => ?_
  refine wp_seq_k fun K5 hK5 => ?_
  refine wp_region_lit ?_
  refine Kn.pure fh12 rfl rfl .none (Kn.ex_move fh12 (.tmp rfl)) fun fa13 fh13 => ?_
  clear fh12 fa12
  refine wpList_nil ?_
  refine hK5 _ _ ?_
  clear hK5 K5
  refine Kn.no fh13 (.tmp rfl) ?_
  refine wp_skip ?_
  refine hK4 _ _ ?_
  clear hK4 K4
  replace fh13 := fh13.cut (.cons (t := 5) rfl (.cons (t := 4) rfl (.cons (t := 3) rfl (.cons (t := 2) rfl (.cons (t := 0) rfl .nil)))))
  have hi1 : (s.size : Int) < 1 := by omega
  refine wp_seq_k fun K6 hK6 => ?_
  refine wp_seq_k fun K7 hK7 => ?_
  refine wp_region_lit ?_
  refine Kn.pure fh13 rfl rfl .none (Kn.ex_move fh13 (.tmp rfl)) fun fa14 fh14 => ?_
  clear fh13 fa13
  refine Kn.step fh14 rfl rfl .none (Kn.ex_len fh14 (.tmp rfl)) fun Ko hKo => ?_
  go_simp
  try go_bits
  refine hKo _ _ fun fa15 fh15 => ?_
  clear hKo Ko fh14 fa14
  refine Kn.pure fh15 rfl rfl .none (Kn.ex_move fh15 (.tmp rfl)) fun fa16 fh16 => ?_
  clear fh15 fa15
  refine Kn.step fh16 rfl rfl .none (Kn.ex_bin fh16 (.tmp rfl) (.tmp rfl)) fun Ko hKo => ?_
  go_simp
  try go_bits
  refine hKo _ _ fun fa17 fh17 => ?_
  clear hKo Ko fh16 fa16
  refine Kn.step fh17 rfl rfl .none (Kn.ex_bin fh17 (.tmp rfl) .const) fun Ko hKo => ?_
  go_simp
  try go_bits
  refine hKo _ _ fun fa18 fh18 => ?_
  clear hKo Ko fh17 fa17
  refine Kn.pure fh18 rfl rfl .none (Kn.ex_move fh18 (.tmp rfl)) fun fa19 fh19 => ?_
  clear fh18 fa18
  refine Kn.skip fh19 rfl rfl (.some rfl rfl rfl) fun fa20 fh20 => ?_
  clear fh19 fa19
  refine Kn.skip fh20 rfl rfl (.some rfl rfl rfl) fun fa21 fh21 => ?_
  clear fh20 fa20
  refine Kn.skip fh21 rfl rfl (.some rfl rfl rfl) fun fa22 fh22 => ?_
  clear fh21 fa21
  refine Kn.skip fh22 rfl rfl (.some rfl rfl rfl) fun fa23 fh23 => ?_
  clear fh22 fa22
  refine Kn.skip fh23 rfl rfl (.some rfl rfl rfl) fun fa24 fh24 => ?_
  clear fh23 fa23
  refine Kn.pure fh24 rfl rfl .none (Kn.ex_pick fh24 (.tmp rfl) .const) fun fa25 fh25 => ?_
  clear fh24 fa24
  refine wpList_nil ?_
  refine hK7 _ _ ?_
  clear hK7 K7
  replace fh25 := fh25.cut (.cons (t := 28) rfl (.cons (t := 5) rfl (.cons (t := 4) rfl (.cons (t := 3) rfl (.cons (t := 2) rfl (.cons (t := 0) rfl .nil))))))
  refine Kn.yes fh25 (.tmp rfl) ?_
  replace fh25 := fh25.cut (.cons (t := 5) rfl (.cons (t := 4) rfl (.cons (t := 3) rfl (.cons (t := 2) rfl (.cons (t := 0) rfl .nil)))))
  refine wp_seq_k fun K8 hK8 => ?_
  refine wp_region_lit ?_
  refine Kn.pure fh25 rfl rfl .none (Kn.ex_assign fh25 .const) fun fa26 fh26 => ?_
  clear fh25 fa25
  refine Kn.pure fh26 rfl rfl .none (Kn.ex_assign fh26 .const) fun fa27 fh27 => ?_
  clear fh26 fa26
  refine wpList_nil ?_
  refine hK8 _ _ ?_
  clear hK8 K8
  refine wp_ret ?_
  refine Kn.then_ret ?_
  have HO : Hid (okD false ds = false) := Lib.hid (by unfold okD; rw [decide_eq_false (by rw [HL.out]; omega)]; rfl)
  exact Kn.ret2 fh27 rfl rfl rfl ⟨by rw [(num_bad HM.out HD.out HO.out).1, (num_bad HM.out HD.out HO.out).2], rfl⟩

set_option maxRecDepth 100000 in
set_option maxHeartbeats 2000000 in
theorem number_n (s : ByteArray) (ds : List UInt8) (L : Nat) (w : World) (hs : s.size ≤ 9223372036854775807) (hs0 : 0 < s.size) (h0 : s[0].toNat ≠ 45) (hsLa : s.size ≤ L + 0) (hsLb : L + 0 ≤ s.size) (HM : Hid ((s.data.toList.head? == some 45) = false)) (HD : Hid (ds = if false then s.data.toList.tail else s.data.toList)) (HL : Hid (ds.length = L)) (HG : Hid (∀ k i (hk : k < ds.length) (hi : i = k + 0), ds[k] = s[i]'(by have := HL.out; omega))) :
    Calls Tryz.prog 21 #[.string s] w fun e w' => e = .returned (.tuple #[.int .i64 (numV s.data.toList), .bool (numB s.data.toList)]) ∧ w = w' := by
  refine Kn.calls Tryz.func21 rfl Tryz.ntmps21 rfl (.cons (t := 0) rfl .nil) fun fa0 fh0 => ?_
  refine wp_seq_k fun K1 hK1 => ?_
  refine wp_region_lit ?_
  refine Kn.pure fh0 rfl rfl .none (Kn.ex_assign fh0 .const) fun fa1 fh1 => ?_
  clear fh0 fa0
  refine Kn.pure fh1 rfl rfl .none (Kn.ex_assign fh1 .const) fun fa2 fh2 => ?_
  clear fh1 fa1
  refine wpList_nil ?_
  refine hK1 _ _ ?_
  clear hK1 K1
  refine wp_seq_k fun K2 hK2 => ?_
  refine wp_region_lit ?_
  refine Kn.pure fh2 rfl rfl .none (Kn.ex_assign fh2 .const) fun fa3 fh3 => ?_
  clear fh2 fa2
  refine wpList_nil ?_
  refine hK2 _ _ ?_
  clear hK2 K2
  refine wp_seq_k fun K3 hK3 => ?_
  refine wp_region_lit ?_
  refine Kn.pure fh3 rfl rfl .none (Kn.ex_move fh3 (.tmp rfl)) fun fa4 fh4 => ?_
  clear fh3 fa3
  refine Kn.step fh4 rfl rfl .none (Kn.ex_len fh4 (.tmp rfl)) fun Ko hKo => ?_
  go_simp
  try go_bits
  refine hKo _ _ fun fa5 fh5 => ?_
  clear hKo Ko fh4 fa4
  refine Kn.step fh5 rfl rfl .none (Kn.ex_bin fh5 (.tmp rfl) .const) fun Ko hKo => ?_
  go_simp
  try go_bits
  refine hKo _ _ fun fa6 fh6 => ?_
  clear hKo Ko fh5 fa5
  refine Kn.pure fh6 rfl rfl .none (Kn.ex_move fh6 (.tmp rfl)) fun fa7 fh7 => ?_
  clear fh6 fa6
  refine Kn.pure fh7 rfl rfl (.some rfl rfl rfl) (Kn.ex_move fh7 (.tmp rfl)) fun fa8 fh8 => ?_
  clear fh7 fa7
  refine Kn.step fh8 rfl rfl (.some rfl rfl rfl) (Kn.ex_index fh8 (.tmp rfl) .const) fun Ko hKo => ?_
  go_simp
  try go_bits
  refine hKo _ _ fun fa9 fh9 => ?_
  clear hKo Ko fh8 fa8
  have qe : (((s[0].toNat : Nat) : Int) == 45) = false := beq_eq_false_iff_ne.2 (by omega)
  refine Kn.step fh9 rfl rfl (.some rfl rfl rfl) (Kn.ex_bin fh9 (.tmp rfl) .const) fun Ko hKo => ?_
  go_simp
  try go_bits
  refine hKo _ _ fun fa10 fh10 => ?_
  clear hKo Ko fh9 fa9
  clear qe
  refine Kn.pure fh10 rfl rfl .none (Kn.ex_pick fh10 (.tmp rfl) (.tmp rfl)) fun fa11 fh11 => ?_
  clear fh10 fa10
  refine Kn.pure fh11 rfl rfl .none (Kn.ex_assign fh11 (.tmp rfl)) fun fa12 fh12 => ?_
  clear fh11 fa11
  refine wpList_nil ?_
  refine hK3 _ _ ?_
  clear hK3 K3
  replace fh12 := fh12.cut (.cons (t := 5) rfl (.cons (t := 4) rfl (.cons (t := 3) rfl (.cons (t := 2) rfl (.cons (t := 0) rfl .nil)))))
  refine wp_seq_k fun K4 hK4 => ?_
  refine wp_seq_k fun K5 hK5 => ?_
  refine wp_region_lit ?_
  refine Kn.pure fh12 rfl rfl .none (Kn.ex_move fh12 (.tmp rfl)) fun fa13 fh13 => ?_
  clear fh12 fa12
  refine wpList_nil ?_
  refine hK5 _ _ ?_
  clear hK5 K5
  refine Kn.no fh13 (.tmp rfl) ?_
  refine wp_skip ?_
  refine hK4 _ _ ?_
  clear hK4 K4
  replace fh13 := fh13.cut (.cons (t := 5) rfl (.cons (t := 4) rfl (.cons (t := 3) rfl (.cons (t := 2) rfl (.cons (t := 0) rfl .nil)))))
  by_cases hL1 : L < 1
  · have hi1 : (s.size : Int) < 1 := by omega
    refine wp_seq_k fun K6 hK6 => ?_
    refine wp_seq_k fun K7 hK7 => ?_
    refine wp_region_lit ?_
    refine Kn.pure fh13 rfl rfl .none (Kn.ex_move fh13 (.tmp rfl)) fun fa14 fh14 => ?_
    clear fh13 fa13
    refine Kn.step fh14 rfl rfl .none (Kn.ex_len fh14 (.tmp rfl)) fun Ko hKo => ?_
    go_simp
    try go_bits
    refine hKo _ _ fun fa15 fh15 => ?_
    clear hKo Ko fh14 fa14
    refine Kn.pure fh15 rfl rfl .none (Kn.ex_move fh15 (.tmp rfl)) fun fa16 fh16 => ?_
    clear fh15 fa15
    refine Kn.step fh16 rfl rfl .none (Kn.ex_bin fh16 (.tmp rfl) (.tmp rfl)) fun Ko hKo => ?_
    go_simp
    try go_bits
    refine hKo _ _ fun fa17 fh17 => ?_
    clear hKo Ko fh16 fa16
    refine Kn.step fh17 rfl rfl .none (Kn.ex_bin fh17 (.tmp rfl) .const) fun Ko hKo => ?_
    go_simp
    try go_bits
    refine hKo _ _ fun fa18 fh18 => ?_
    clear hKo Ko fh17 fa17
    refine Kn.pure fh18 rfl rfl .none (Kn.ex_move fh18 (.tmp rfl)) fun fa19 fh19 => ?_
    clear fh18 fa18
    refine Kn.skip fh19 rfl rfl (.some rfl rfl rfl) fun fa20 fh20 => ?_
    clear fh19 fa19
    refine Kn.skip fh20 rfl rfl (.some rfl rfl rfl) fun fa21 fh21 => ?_
    clear fh20 fa20
    refine Kn.skip fh21 rfl rfl (.some rfl rfl rfl) fun fa22 fh22 => ?_
    clear fh21 fa21
    refine Kn.skip fh22 rfl rfl (.some rfl rfl rfl) fun fa23 fh23 => ?_
    clear fh22 fa22
    refine Kn.skip fh23 rfl rfl (.some rfl rfl rfl) fun fa24 fh24 => ?_
    clear fh23 fa23
    refine Kn.pure fh24 rfl rfl .none (Kn.ex_pick fh24 (.tmp rfl) .const) fun fa25 fh25 => ?_
    clear fh24 fa24
    refine wpList_nil ?_
    refine hK7 _ _ ?_
    clear hK7 K7
    replace fh25 := fh25.cut (.cons (t := 28) rfl (.cons (t := 5) rfl (.cons (t := 4) rfl (.cons (t := 3) rfl (.cons (t := 2) rfl (.cons (t := 0) rfl .nil))))))
    refine Kn.yes fh25 (.tmp rfl) ?_
    replace fh25 := fh25.cut (.cons (t := 5) rfl (.cons (t := 4) rfl (.cons (t := 3) rfl (.cons (t := 2) rfl (.cons (t := 0) rfl .nil)))))
    refine wp_seq_k fun K8 hK8 => ?_
    refine wp_region_lit ?_
    refine Kn.pure fh25 rfl rfl .none (Kn.ex_assign fh25 .const) fun fa26 fh26 => ?_
    clear fh25 fa25
    refine Kn.pure fh26 rfl rfl .none (Kn.ex_assign fh26 .const) fun fa27 fh27 => ?_
    clear fh26 fa26
    refine wpList_nil ?_
    refine hK8 _ _ ?_
    clear hK8 K8
    refine wp_ret ?_
    refine Kn.then_ret ?_
    have HO : Hid (okD false ds = false) := Lib.hid (by unfold okD; rw [decide_eq_false (by rw [HL.out]; omega)]; rfl)
    exact Kn.ret2 fh27 rfl rfl rfl ⟨by rw [(num_bad HM.out HD.out HO.out).1, (num_bad HM.out HD.out HO.out).2], rfl⟩
  by_cases hL9 : 9 < L
  · have hi1 : ¬ (s.size : Int) < 1 := by omega
    have hi9 : (9 : Int) < (s.size : Int) := by omega
    refine wp_seq_k fun K6 hK6 => ?_
    refine wp_seq_k fun K7 hK7 => ?_
    refine wp_region_lit ?_
    refine Kn.pure fh13 rfl rfl .none (Kn.ex_move fh13 (.tmp rfl)) fun fa14 fh14 => ?_
    clear fh13 fa13
    refine Kn.step fh14 rfl rfl .none (Kn.ex_len fh14 (.tmp rfl)) fun Ko hKo => ?_
    go_simp
    try go_bits
    refine hKo _ _ fun fa15 fh15 => ?_
    clear hKo Ko fh14 fa14
    refine Kn.pure fh15 rfl rfl .none (Kn.ex_move fh15 (.tmp rfl)) fun fa16 fh16 => ?_
    clear fh15 fa15
    refine Kn.step fh16 rfl rfl .none (Kn.ex_bin fh16 (.tmp rfl) (.tmp rfl)) fun Ko hKo => ?_
    go_simp
    try go_bits
    refine hKo _ _ fun fa17 fh17 => ?_
    clear hKo Ko fh16 fa16
    refine Kn.step fh17 rfl rfl .none (Kn.ex_bin fh17 (.tmp rfl) .const) fun Ko hKo => ?_
    go_simp
    try go_bits
    refine hKo _ _ fun fa18 fh18 => ?_
    clear hKo Ko fh17 fa17
    refine Kn.pure fh18 rfl rfl .none (Kn.ex_move fh18 (.tmp rfl)) fun fa19 fh19 => ?_
    clear fh18 fa18
    refine Kn.pure fh19 rfl rfl (.some rfl rfl rfl) (Kn.ex_move fh19 (.tmp rfl)) fun fa20 fh20 => ?_
    clear fh19 fa19
    refine Kn.step fh20 rfl rfl (.some rfl rfl rfl) (Kn.ex_len fh20 (.tmp rfl)) fun Ko hKo => ?_
    go_simp
    try go_bits
    refine hKo _ _ fun fa21 fh21 => ?_
    clear hKo Ko fh20 fa20
    refine Kn.pure fh21 rfl rfl (.some rfl rfl rfl) (Kn.ex_move fh21 (.tmp rfl)) fun fa22 fh22 => ?_
    clear fh21 fa21
    refine Kn.step fh22 rfl rfl (.some rfl rfl rfl) (Kn.ex_bin fh22 (.tmp rfl) (.tmp rfl)) fun Ko hKo => ?_
    go_simp
    try go_bits
    refine hKo _ _ fun fa23 fh23 => ?_
    clear hKo Ko fh22 fa22
    refine Kn.step fh23 rfl rfl (.some rfl rfl rfl) (Kn.ex_bin fh23 (.tmp rfl) .const) fun Ko hKo => ?_
    go_simp
    try go_bits
    refine hKo _ _ fun fa24 fh24 => ?_
    clear hKo Ko fh23 fa23
    refine Kn.pure fh24 rfl rfl .none (Kn.ex_pick fh24 (.tmp rfl) (.tmp rfl)) fun fa25 fh25 => ?_
    clear fh24 fa24
    refine wpList_nil ?_
    refine hK7 _ _ ?_
    clear hK7 K7
    replace fh25 := fh25.cut (.cons (t := 28) rfl (.cons (t := 5) rfl (.cons (t := 4) rfl (.cons (t := 3) rfl (.cons (t := 2) rfl (.cons (t := 0) rfl .nil))))))
    refine Kn.yes fh25 (.tmp rfl) ?_
    replace fh25 := fh25.cut (.cons (t := 5) rfl (.cons (t := 4) rfl (.cons (t := 3) rfl (.cons (t := 2) rfl (.cons (t := 0) rfl .nil)))))
    refine wp_seq_k fun K8 hK8 => ?_
    refine wp_region_lit ?_
    refine Kn.pure fh25 rfl rfl .none (Kn.ex_assign fh25 .const) fun fa26 fh26 => ?_
    clear fh25 fa25
    refine Kn.pure fh26 rfl rfl .none (Kn.ex_assign fh26 .const) fun fa27 fh27 => ?_
    clear fh26 fa26
    refine wpList_nil ?_
    refine hK8 _ _ ?_
    clear hK8 K8
    refine wp_ret ?_
    refine Kn.then_ret ?_
    have HO : Hid (okD false ds = false) := Lib.hid (by unfold okD; rw [decide_eq_false (show ¬ ds.length ≤ 9 by rw [HL.out]; omega)]; simp)
    exact Kn.ret2 fh27 rfl rfl rfl ⟨by rw [(num_bad HM.out HD.out HO.out).1, (num_bad HM.out HD.out HO.out).2], rfl⟩
  have hi1 : ¬ (s.size : Int) < 1 := by omega
  have hi9 : ¬ (9 : Int) < (s.size : Int) := by omega
  refine wp_seq_k fun K6 hK6 => ?_
  refine wp_seq_k fun K7 hK7 => ?_
  refine wp_region_lit ?_
  refine Kn.pure fh13 rfl rfl .none (Kn.ex_move fh13 (.tmp rfl)) fun fa14 fh14 => ?_
  clear fh13 fa13
  refine Kn.step fh14 rfl rfl .none (Kn.ex_len fh14 (.tmp rfl)) fun Ko hKo => ?_
  go_simp
  try go_bits
  refine hKo _ _ fun fa15 fh15 => ?_
  clear hKo Ko fh14 fa14
  refine Kn.pure fh15 rfl rfl .none (Kn.ex_move fh15 (.tmp rfl)) fun fa16 fh16 => ?_
  clear fh15 fa15
  refine Kn.step fh16 rfl rfl .none (Kn.ex_bin fh16 (.tmp rfl) (.tmp rfl)) fun Ko hKo => ?_
  go_simp
  try go_bits
  refine hKo _ _ fun fa17 fh17 => ?_
  clear hKo Ko fh16 fa16
  refine Kn.step fh17 rfl rfl .none (Kn.ex_bin fh17 (.tmp rfl) .const) fun Ko hKo => ?_
  go_simp
  try go_bits
  refine hKo _ _ fun fa18 fh18 => ?_
  clear hKo Ko fh17 fa17
  refine Kn.pure fh18 rfl rfl .none (Kn.ex_move fh18 (.tmp rfl)) fun fa19 fh19 => ?_
  clear fh18 fa18
  refine Kn.pure fh19 rfl rfl (.some rfl rfl rfl) (Kn.ex_move fh19 (.tmp rfl)) fun fa20 fh20 => ?_
  clear fh19 fa19
  refine Kn.step fh20 rfl rfl (.some rfl rfl rfl) (Kn.ex_len fh20 (.tmp rfl)) fun Ko hKo => ?_
  go_simp
  try go_bits
  refine hKo _ _ fun fa21 fh21 => ?_
  clear hKo Ko fh20 fa20
  refine Kn.pure fh21 rfl rfl (.some rfl rfl rfl) (Kn.ex_move fh21 (.tmp rfl)) fun fa22 fh22 => ?_
  clear fh21 fa21
  refine Kn.step fh22 rfl rfl (.some rfl rfl rfl) (Kn.ex_bin fh22 (.tmp rfl) (.tmp rfl)) fun Ko hKo => ?_
  go_simp
  try go_bits
  refine hKo _ _ fun fa23 fh23 => ?_
  clear hKo Ko fh22 fa22
  refine Kn.step fh23 rfl rfl (.some rfl rfl rfl) (Kn.ex_bin fh23 (.tmp rfl) .const) fun Ko hKo => ?_
  go_simp
  try go_bits
  refine hKo _ _ fun fa24 fh24 => ?_
  clear hKo Ko fh23 fa23
  refine Kn.pure fh24 rfl rfl .none (Kn.ex_pick fh24 (.tmp rfl) (.tmp rfl)) fun fa25 fh25 => ?_
  clear fh24 fa24
  refine wpList_nil ?_
  refine hK7 _ _ ?_
  clear hK7 K7
  replace fh25 := fh25.cut (.cons (t := 28) rfl (.cons (t := 5) rfl (.cons (t := 4) rfl (.cons (t := 3) rfl (.cons (t := 2) rfl (.cons (t := 0) rfl .nil))))))
  refine Kn.no fh25 (.tmp rfl) ?_
  refine wp_skip ?_
  refine hK6 _ _ ?_
  clear hK6 K6
  replace fh25 := fh25.cut (.cons (t := 5) rfl (.cons (t := 4) rfl (.cons (t := 3) rfl (.cons (t := 2) rfl (.cons (t := 0) rfl .nil)))))
  clear hi1 hi9
  refine wp_seq_k fun K8 hK8 => ?_
  refine wp_region_lit ?_
  refine Kn.pure fh25 rfl rfl .none (Kn.ex_assign fh25 .const) fun fa26 fh26 => ?_
  clear fh25 fa25
  refine wpList_nil ?_
  refine hK8 _ _ ?_
  clear hK8 K8
  refine wp_seq_k fun K9 hK9 => ?_
  refine wp_seq_k fun K10 hK10 => ?_
  refine wp_region_lit ?_
  refine Kn.pure fh26 rfl rfl .none (Kn.ex_move fh26 (.tmp rfl)) fun fa27 fh27 => ?_
  clear fh26 fa26
  refine Kn.pure fh27 rfl rfl .none (Kn.ex_assign fh27 (.tmp rfl)) fun fa28 fh28 => ?_
  clear fh27 fa27
  refine wpList_nil ?_
  refine hK10 _ _ ?_
  clear hK10 K10
  replace fh28 := fh28.cut (.cons (t := 7) rfl (.cons (t := 6) rfl (.cons (t := 5) rfl (.cons (t := 4) rfl (.cons (t := 3) rfl (.cons (t := 2) rfl (.cons (t := 0) rfl .nil)))))))
  refine wp_block ?_
  refine Kn.loop (fun m fr v => ∃ (i n k : Nat), Kn.Kn 72 [(7, .int .i64 (i : Int)), (6, .int .i64 (n : Int)), (0, .string s), (4, .int .i64 0), (5, .bool false)] fr ∧ i + m = s.size ∧ i ≤ k + 0 ∧ k + 0 ≤ i ∧ n < 1000000000 ∧ Hid (n = valD (ds.take k)) ∧ Hid ((ds.take k).all isD = true) ∧ w = v) L ⟨0, 0, 0, fh28.cut (.cons (t := 7) rfl (.cons (t := 6) rfl (.cons (t := 0) rfl (.cons (t := 4) rfl (.cons (t := 5) rfl .nil))))), by omega, by omega, by omega, by omega, Lib.hid rfl, Lib.hid rfl, rfl⟩ ?_
  clear fh28 fa28
  intro m11 fa29 v hI Kl11 hKl11
  obtain ⟨i, n, k, fh29, hi, hika, hikb, hn9, HV, HAl, rfl⟩ := hI
  by_cases hlt : i < s.size
  · obtain ⟨x, hx⟩ : ∃ x, s[i].toNat = x := ⟨_, rfl⟩
    have hx256 : x < 256 := by rw [← hx]; exact s[i].toNat_lt
    have hkd : k < ds.length := by rw [HL.out]; omega
    have HXd : Hid (ds[k] = s[i]) := Lib.hid (HG.out k i hkd (by omega))
    have HXn : Hid (s[i].toNat = x) := Lib.hid hx
    refine wp_seq_k fun K12 hK12 => ?_
    refine wp_seq_k fun K13 hK13 => ?_
    refine wp_region_lit ?_
    refine Kn.pure fh29 rfl rfl .none (Kn.ex_move fh29 (.tmp rfl)) fun fa30 fh30 => ?_
    clear fh29 fa29
    refine Kn.pure fh30 rfl rfl .none (Kn.ex_move fh30 (.tmp rfl)) fun fa31 fh31 => ?_
    clear fh30 fa30
    refine Kn.step fh31 rfl rfl .none (Kn.ex_len fh31 (.tmp rfl)) fun Ko hKo => ?_
    go_simp
    try go_bits
    refine hKo _ _ fun fa32 fh32 => ?_
    clear hKo Ko fh31 fa31
    refine Kn.step fh32 rfl rfl .none (Kn.ex_bin fh32 (.tmp rfl) (.tmp rfl)) fun Ko hKo => ?_
    go_simp
    try go_bits
    refine hKo _ _ fun fa33 fh33 => ?_
    clear hKo Ko fh32 fa32
    refine wpList_nil ?_
    refine hK13 _ _ ?_
    clear hK13 K13
    replace fh33 := fh33.cut (.cons (t := 33) rfl (.cons (t := 7) rfl (.cons (t := 6) rfl (.cons (t := 0) rfl (.cons (t := 4) rfl (.cons (t := 5) rfl .nil))))))
    refine Kn.yes fh33 (.tmp rfl) ?_
    refine wp_skip ?_
    refine hK12 _ _ ?_
    clear hK12 K12
    replace fh33 := fh33.cut (.cons (t := 7) rfl (.cons (t := 6) rfl (.cons (t := 0) rfl (.cons (t := 4) rfl (.cons (t := 5) rfl .nil)))))
    refine wp_seq_k fun K14 hK14 => ?_
    refine wp_block ?_
    by_cases hlo : x < 48
    · have hloi : (x : Int) < 48 := by omega
      refine wp_seq_k fun K15 hK15 => ?_
      refine wp_seq_k fun K16 hK16 => ?_
      refine wp_region_lit ?_
      refine Kn.pure fh33 rfl rfl .none (Kn.ex_move fh33 (.tmp rfl)) fun fa34 fh34 => ?_
      clear fh33 fa33
      refine Kn.pure fh34 rfl rfl .none (Kn.ex_move fh34 (.tmp rfl)) fun fa35 fh35 => ?_
      clear fh34 fa34
      refine Kn.step fh35 rfl rfl .none (Kn.ex_index fh35 (.tmp rfl) (.tmp rfl)) fun Ko hKo => ?_
      go_simp
      try go_bits
      refine hKo _ _ fun fa36 fh36 => ?_
      clear hKo Ko fh35 fa35
      refine Kn.step fh36 rfl rfl .none (Kn.ex_bin fh36 (.tmp rfl) .const) fun Ko hKo => ?_
      go_simp
      try go_bits
      refine hKo _ _ fun fa37 fh37 => ?_
      clear hKo Ko fh36 fa36
      refine Kn.pure fh37 rfl rfl .none (Kn.ex_move fh37 (.tmp rfl)) fun fa38 fh38 => ?_
      clear fh37 fa37
      refine Kn.skip fh38 rfl rfl (.some rfl rfl rfl) fun fa39 fh39 => ?_
      clear fh38 fa38
      refine Kn.skip fh39 rfl rfl (.some rfl rfl rfl) fun fa40 fh40 => ?_
      clear fh39 fa39
      refine Kn.skip fh40 rfl rfl (.some rfl rfl rfl) fun fa41 fh41 => ?_
      clear fh40 fa40
      refine Kn.skip fh41 rfl rfl (.some rfl rfl rfl) fun fa42 fh42 => ?_
      clear fh41 fa41
      refine Kn.pure fh42 rfl rfl .none (Kn.ex_pick fh42 (.tmp rfl) .const) fun fa43 fh43 => ?_
      clear fh42 fa42
      refine wpList_nil ?_
      refine hK16 _ _ ?_
      clear hK16 K16
      replace fh43 := fh43.cut (.cons (t := 45) rfl (.cons (t := 7) rfl (.cons (t := 6) rfl (.cons (t := 0) rfl (.cons (t := 4) rfl (.cons (t := 5) rfl .nil))))))
      refine Kn.yes fh43 (.tmp rfl) ?_
      replace fh43 := fh43.cut (.cons (t := 7) rfl (.cons (t := 6) rfl (.cons (t := 0) rfl (.cons (t := 4) rfl (.cons (t := 5) rfl .nil)))))
      refine wp_seq_k fun K17 hK17 => ?_
      refine wp_region_lit ?_
      refine Kn.pure fh43 rfl rfl .none (Kn.ex_assign fh43 .const) fun fa44 fh44 => ?_
      clear fh43 fa43
      refine Kn.pure fh44 rfl rfl .none (Kn.ex_assign fh44 .const) fun fa45 fh45 => ?_
      clear fh44 fa44
      refine wpList_nil ?_
      refine hK17 _ _ ?_
      clear hK17 K17
      refine wp_ret ?_
      refine Kn.then_ret ?_
      refine Kn.block_ret ?_
      refine Kn.then_ret ?_
      refine Kn.then_ret ?_
      refine Kn.block_ret ?_
      refine Kn.then_ret ?_
      have HO : Hid (okD false ds = false) := Lib.hid (by unfold okD; rw [show ds.all isD = false from (Bool.eq_false_iff.2 fun h => by have h1 := List.all_eq_true.1 h ds[k] (List.getElem_mem _); rw [HXd.out] at h1; simp [isD, HXn.out] at h1; omega)]; simp)
      exact Kn.ret2 fh45 rfl rfl rfl ⟨by rw [(num_bad HM.out HD.out HO.out).1, (num_bad HM.out HD.out HO.out).2], rfl⟩
    have hloi : ¬ (x : Int) < 48 := by omega
    by_cases hhi : 57 < x
    · have hhii : (57 : Int) < (x : Int) := by omega
      refine wp_seq_k fun K15 hK15 => ?_
      refine wp_seq_k fun K16 hK16 => ?_
      refine wp_region_lit ?_
      refine Kn.pure fh33 rfl rfl .none (Kn.ex_move fh33 (.tmp rfl)) fun fa34 fh34 => ?_
      clear fh33 fa33
      refine Kn.pure fh34 rfl rfl .none (Kn.ex_move fh34 (.tmp rfl)) fun fa35 fh35 => ?_
      clear fh34 fa34
      refine Kn.step fh35 rfl rfl .none (Kn.ex_index fh35 (.tmp rfl) (.tmp rfl)) fun Ko hKo => ?_
      go_simp
      try go_bits
      refine hKo _ _ fun fa36 fh36 => ?_
      clear hKo Ko fh35 fa35
      refine Kn.step fh36 rfl rfl .none (Kn.ex_bin fh36 (.tmp rfl) .const) fun Ko hKo => ?_
      go_simp
      try go_bits
      refine hKo _ _ fun fa37 fh37 => ?_
      clear hKo Ko fh36 fa36
      refine Kn.pure fh37 rfl rfl .none (Kn.ex_move fh37 (.tmp rfl)) fun fa38 fh38 => ?_
      clear fh37 fa37
      refine Kn.pure fh38 rfl rfl (.some rfl rfl rfl) (Kn.ex_move fh38 (.tmp rfl)) fun fa39 fh39 => ?_
      clear fh38 fa38
      refine Kn.pure fh39 rfl rfl (.some rfl rfl rfl) (Kn.ex_move fh39 (.tmp rfl)) fun fa40 fh40 => ?_
      clear fh39 fa39
      refine Kn.step fh40 rfl rfl (.some rfl rfl rfl) (Kn.ex_index fh40 (.tmp rfl) (.tmp rfl)) fun Ko hKo => ?_
      go_simp
      try go_bits
      refine hKo _ _ fun fa41 fh41 => ?_
      clear hKo Ko fh40 fa40
      refine Kn.step fh41 rfl rfl (.some rfl rfl rfl) (Kn.ex_bin fh41 (.tmp rfl) .const) fun Ko hKo => ?_
      go_simp
      try go_bits
      refine hKo _ _ fun fa42 fh42 => ?_
      clear hKo Ko fh41 fa41
      refine Kn.pure fh42 rfl rfl .none (Kn.ex_pick fh42 (.tmp rfl) (.tmp rfl)) fun fa43 fh43 => ?_
      clear fh42 fa42
      refine wpList_nil ?_
      refine hK16 _ _ ?_
      clear hK16 K16
      replace fh43 := fh43.cut (.cons (t := 45) rfl (.cons (t := 7) rfl (.cons (t := 6) rfl (.cons (t := 0) rfl (.cons (t := 4) rfl (.cons (t := 5) rfl .nil))))))
      refine Kn.yes fh43 (.tmp rfl) ?_
      replace fh43 := fh43.cut (.cons (t := 7) rfl (.cons (t := 6) rfl (.cons (t := 0) rfl (.cons (t := 4) rfl (.cons (t := 5) rfl .nil)))))
      refine wp_seq_k fun K17 hK17 => ?_
      refine wp_region_lit ?_
      refine Kn.pure fh43 rfl rfl .none (Kn.ex_assign fh43 .const) fun fa44 fh44 => ?_
      clear fh43 fa43
      refine Kn.pure fh44 rfl rfl .none (Kn.ex_assign fh44 .const) fun fa45 fh45 => ?_
      clear fh44 fa44
      refine wpList_nil ?_
      refine hK17 _ _ ?_
      clear hK17 K17
      refine wp_ret ?_
      refine Kn.then_ret ?_
      refine Kn.block_ret ?_
      refine Kn.then_ret ?_
      refine Kn.then_ret ?_
      refine Kn.block_ret ?_
      refine Kn.then_ret ?_
      have HO : Hid (okD false ds = false) := Lib.hid (by unfold okD; rw [show ds.all isD = false from (Bool.eq_false_iff.2 fun h => by have h1 := List.all_eq_true.1 h ds[k] (List.getElem_mem _); rw [HXd.out] at h1; simp [isD, HXn.out] at h1; omega)]; simp)
      exact Kn.ret2 fh45 rfl rfl rfl ⟨by rw [(num_bad HM.out HD.out HO.out).1, (num_bad HM.out HD.out HO.out).2], rfl⟩
    have hhii : ¬ (57 : Int) < (x : Int) := by omega
    refine wp_seq_k fun K15 hK15 => ?_
    refine wp_seq_k fun K16 hK16 => ?_
    refine wp_region_lit ?_
    refine Kn.pure fh33 rfl rfl .none (Kn.ex_move fh33 (.tmp rfl)) fun fa34 fh34 => ?_
    clear fh33 fa33
    refine Kn.pure fh34 rfl rfl .none (Kn.ex_move fh34 (.tmp rfl)) fun fa35 fh35 => ?_
    clear fh34 fa34
    refine Kn.step fh35 rfl rfl .none (Kn.ex_index fh35 (.tmp rfl) (.tmp rfl)) fun Ko hKo => ?_
    go_simp
    try go_bits
    refine hKo _ _ fun fa36 fh36 => ?_
    clear hKo Ko fh35 fa35
    refine Kn.step fh36 rfl rfl .none (Kn.ex_bin fh36 (.tmp rfl) .const) fun Ko hKo => ?_
    go_simp
    try go_bits
    refine hKo _ _ fun fa37 fh37 => ?_
    clear hKo Ko fh36 fa36
    refine Kn.pure fh37 rfl rfl .none (Kn.ex_move fh37 (.tmp rfl)) fun fa38 fh38 => ?_
    clear fh37 fa37
    refine Kn.pure fh38 rfl rfl (.some rfl rfl rfl) (Kn.ex_move fh38 (.tmp rfl)) fun fa39 fh39 => ?_
    clear fh38 fa38
    refine Kn.pure fh39 rfl rfl (.some rfl rfl rfl) (Kn.ex_move fh39 (.tmp rfl)) fun fa40 fh40 => ?_
    clear fh39 fa39
    refine Kn.step fh40 rfl rfl (.some rfl rfl rfl) (Kn.ex_index fh40 (.tmp rfl) (.tmp rfl)) fun Ko hKo => ?_
    go_simp
    try go_bits
    refine hKo _ _ fun fa41 fh41 => ?_
    clear hKo Ko fh40 fa40
    refine Kn.step fh41 rfl rfl (.some rfl rfl rfl) (Kn.ex_bin fh41 (.tmp rfl) .const) fun Ko hKo => ?_
    go_simp
    try go_bits
    refine hKo _ _ fun fa42 fh42 => ?_
    clear hKo Ko fh41 fa41
    refine Kn.pure fh42 rfl rfl .none (Kn.ex_pick fh42 (.tmp rfl) (.tmp rfl)) fun fa43 fh43 => ?_
    clear fh42 fa42
    refine wpList_nil ?_
    refine hK16 _ _ ?_
    clear hK16 K16
    replace fh43 := fh43.cut (.cons (t := 45) rfl (.cons (t := 7) rfl (.cons (t := 6) rfl (.cons (t := 0) rfl (.cons (t := 4) rfl (.cons (t := 5) rfl .nil))))))
    refine Kn.no fh43 (.tmp rfl) ?_
    refine wp_skip ?_
    refine hK15 _ _ ?_
    clear hK15 K15
    replace fh43 := fh43.cut (.cons (t := 7) rfl (.cons (t := 6) rfl (.cons (t := 0) rfl (.cons (t := 4) rfl (.cons (t := 5) rfl .nil)))))
    obtain ⟨t, ht⟩ : ∃ t, 10 * n = t := ⟨_, rfl⟩
    obtain ⟨u, hu⟩ : ∃ u, t + x = u := ⟨_, rfl⟩
    obtain ⟨n', hn'⟩ : ∃ y, u - 48 = y := ⟨_, rfl⟩
    have a1 : 10 * (n : Int) = (t : Int) := by omega
    have a2 : (t : Int) + (x : Int) = (u : Int) := by omega
    have a3 : (u : Int) - 48 = (n' : Int) := by omega
    have l1 : t ≤ 10000000000 := by omega
    have l2 : u ≤ 10000000300 := by omega
    have l3 : n' ≤ 10000000300 := by omega
    have HT : Hid (ds.take (k + 1) = ds.take k ++ [s[i]]) := Lib.hid (by rw [List.take_succ_eq_append_getElem hkd, HXd.out])
    have HV2 : Hid (n' = valD (ds.take (k + 1))) := Lib.hid (by rw [HT.out, valD_snoc, ← HV.out, HXn.out]; omega)
    have HA2 : Hid ((ds.take (k + 1)).all isD = true) := Lib.hid (by rw [HT.out, List.all_append, HAl.out]; simp [isD, HXn.out]; omega)
    have hn2 : n' < 1000000000 := by
      have h1 := valD_lt (k + 1) (ds.take (k + 1)) (by rw [List.length_take]; omega) HA2.out
      rw [← HV2.out] at h1
      have h2 : 10 ^ (k + 1) ≤ 10 ^ 9 := Nat.pow_le_pow_right (by omega) (by rw [HL.out] at hkd; omega)
      omega
    clear ht hu hn'
    refine wp_region_lit ?_
    refine Kn.pure fh43 rfl rfl .none (Kn.ex_move fh43 (.tmp rfl)) fun fa44 fh44 => ?_
    clear fh43 fa43
    refine Kn.step fh44 rfl rfl .none (Kn.ex_bin fh44 .const (.tmp rfl)) fun Ko hKo => ?_
    go_simp
    try go_bits
    try simp only [a1]
    refine hKo _ _ fun fa45 fh45 => ?_
    clear hKo Ko fh44 fa44
    refine Kn.pure fh45 rfl rfl .none (Kn.ex_move fh45 (.tmp rfl)) fun fa46 fh46 => ?_
    clear fh45 fa45
    refine Kn.pure fh46 rfl rfl .none (Kn.ex_move fh46 (.tmp rfl)) fun fa47 fh47 => ?_
    clear fh46 fa46
    refine Kn.step fh47 rfl rfl .none (Kn.ex_index fh47 (.tmp rfl) (.tmp rfl)) fun Ko hKo => ?_
    go_simp
    try go_bits
    refine hKo _ _ fun fa48 fh48 => ?_
    clear hKo Ko fh47 fa47
    refine Kn.step fh48 rfl rfl .none (Kn.ex_convert fh48 (.tmp rfl)) fun Ko hKo => ?_
    go_simp
    try go_bits
    refine hKo _ _ fun fa49 fh49 => ?_
    clear hKo Ko fh48 fa48
    refine Kn.step fh49 rfl rfl .none (Kn.ex_bin fh49 (.tmp rfl) (.tmp rfl)) fun Ko hKo => ?_
    go_simp
    try go_bits
    try simp only [a2]
    refine hKo _ _ fun fa50 fh50 => ?_
    clear hKo Ko fh49 fa49
    refine Kn.step fh50 rfl rfl .none (Kn.ex_bin fh50 (.tmp rfl) .const) fun Ko hKo => ?_
    go_simp
    try go_bits
    try simp only [a3]
    refine hKo _ _ fun fa51 fh51 => ?_
    clear hKo Ko fh50 fa50
    refine Kn.pure fh51 rfl rfl .none (Kn.ex_assign fh51 (.tmp rfl)) fun fa52 fh52 => ?_
    clear fh51 fa51
    refine wpList_nil ?_
    refine Kn.block_normal ?_
    refine hK14 _ _ ?_
    clear hK14 K14
    replace fh52 := fh52.cut (.cons (t := 6) rfl (.cons (t := 7) rfl (.cons (t := 0) rfl (.cons (t := 4) rfl (.cons (t := 5) rfl .nil)))))
    clear a1 a2 a3 hx
    refine wp_region_lit ?_
    refine Kn.pure fh52 rfl rfl .none (Kn.ex_move fh52 (.tmp rfl)) fun fa53 fh53 => ?_
    clear fh52 fa52
    refine Kn.step fh53 rfl rfl .none (Kn.ex_bin fh53 (.tmp rfl) .const) fun Ko hKo => ?_
    go_simp
    try go_bits
    refine hKo _ _ fun fa54 fh54 => ?_
    clear hKo Ko fh53 fa53
    refine Kn.pure fh54 rfl rfl .none (Kn.ex_assign fh54 (.tmp rfl)) fun fa55 fh55 => ?_
    clear fh54 fa54
    refine wpList_nil ?_
    replace fh55 := fh55.cut (.cons (t := 7) rfl (.cons (t := 6) rfl (.cons (t := 0) rfl (.cons (t := 4) rfl (.cons (t := 5) rfl .nil)))))
    exact hKl11 (m11 - 1) _ _ (by omega) ⟨i + 1, n', k + 1, fh55.cut (.turn (t := 7) rfl (by go_num) (.cons (t := 6) rfl (.cons (t := 0) rfl (.cons (t := 4) rfl (.cons (t := 5) rfl .nil))))), by omega, by omega, by omega, hn2, HV2, HA2, rfl⟩
  have hkL : k = L := by omega
  have HKd : Hid (ds.take k = ds) := Lib.hid (List.take_of_length_le (by rw [HL.out]; omega))
  rw [HKd.out] at HV HAl
  refine wp_seq_k fun K12 hK12 => ?_
  refine wp_seq_k fun K13 hK13 => ?_
  refine wp_region_lit ?_
  refine Kn.pure fh29 rfl rfl .none (Kn.ex_move fh29 (.tmp rfl)) fun fa30 fh30 => ?_
  clear fh29 fa29
  refine Kn.pure fh30 rfl rfl .none (Kn.ex_move fh30 (.tmp rfl)) fun fa31 fh31 => ?_
  clear fh30 fa30
  refine Kn.step fh31 rfl rfl .none (Kn.ex_len fh31 (.tmp rfl)) fun Ko hKo => ?_
  go_simp
  try go_bits
  refine hKo _ _ fun fa32 fh32 => ?_
  clear hKo Ko fh31 fa31
  refine Kn.step fh32 rfl rfl .none (Kn.ex_bin fh32 (.tmp rfl) (.tmp rfl)) fun Ko hKo => ?_
  go_simp
  try go_bits
  refine hKo _ _ fun fa33 fh33 => ?_
  clear hKo Ko fh32 fa32
  refine wpList_nil ?_
  refine hK13 _ _ ?_
  clear hK13 K13
  replace fh33 := fh33.cut (.cons (t := 33) rfl (.cons (t := 7) rfl (.cons (t := 6) rfl (.cons (t := 0) rfl (.cons (t := 4) rfl (.cons (t := 5) rfl .nil))))))
  refine Kn.no fh33 (.tmp rfl) ?_
  replace fh33 := fh33.cut (.cons (t := 7) rfl (.cons (t := 6) rfl (.cons (t := 0) rfl (.cons (t := 4) rfl (.cons (t := 5) rfl .nil)))))
  refine wp_exit ?_
  refine Kn.then_exit ?_
  clear hK12 K12
  refine Kn.then_exit ?_
  clear hKl11 Kl11
  refine Kn.block_exit ?_
  refine hK9 _ _ ?_
  clear hK9 K9
  replace fh33 := fh33.cut (.cons (t := 6) rfl (.cons (t := 0) rfl (.cons (t := 4) rfl (.cons (t := 5) rfl .nil))))
  obtain ⟨x, hx⟩ : ∃ x, s[0].toNat = x := ⟨_, rfl⟩
  have HXd : Hid (ds.head? = some s[0]) := Lib.hid (by rw [List.head?_eq_getElem?, List.getElem?_eq_getElem (show 0 < ds.length by rw [HL.out]; omega), HG.out 0 0 (by rw [HL.out]; omega) (by omega)])
  have HXn : Hid (s[0].toNat = x) := Lib.hid hx
  have hat : (0 : Int) < (s.size : Int) := by omega
  by_cases h48 : x = 48
  · have q48 : ((x : Int) == 48) = true := beq_iff_eq.2 (by omega)
    have HH : Hid ((ds.head? == some 48) = true) := Lib.hid (by rw [HXd.out]; simp; exact UInt8.toNat_inj.1 (by rw [HXn.out, h48]; rfl))
    clear h48
    by_cases hL2 : 1 < L
    · have hL2i : (1 : Int) < (s.size : Int) := by omega
      refine wp_seq_k fun K14 hK14 => ?_
      refine wp_seq_k fun K15 hK15 => ?_
      refine wp_region_lit ?_
      refine Kn.pure fh33 rfl rfl .none (Kn.ex_move fh33 (.tmp rfl)) fun fa34 fh34 => ?_
      clear fh33 fa33
      refine Kn.pure fh34 rfl rfl .none (Kn.ex_move fh34 (.tmp rfl)) fun fa35 fh35 => ?_
      clear fh34 fa34
      refine Kn.step fh35 rfl rfl .none (Kn.ex_index fh35 (.tmp rfl) (.tmp rfl)) fun Ko hKo => ?_
      go_simp
      try go_bits
      refine hKo _ _ fun fa36 fh36 => ?_
      clear hKo Ko fh35 fa35
      refine Kn.step fh36 rfl rfl .none (Kn.ex_bin fh36 (.tmp rfl) .const) fun Ko hKo => ?_
      go_simp
      try go_bits
      refine hKo _ _ fun fa37 fh37 => ?_
      clear hKo Ko fh36 fa36
      refine Kn.pure fh37 rfl rfl .none (Kn.ex_move fh37 (.tmp rfl)) fun fa38 fh38 => ?_
      clear fh37 fa37
      refine Kn.pure fh38 rfl rfl (.some rfl rfl rfl) (Kn.ex_move fh38 (.tmp rfl)) fun fa39 fh39 => ?_
      clear fh38 fa38
      refine Kn.step fh39 rfl rfl (.some rfl rfl rfl) (Kn.ex_len fh39 (.tmp rfl)) fun Ko hKo => ?_
      go_simp
      try go_bits
      refine hKo _ _ fun fa40 fh40 => ?_
      clear hKo Ko fh39 fa39
      refine Kn.pure fh40 rfl rfl (.some rfl rfl rfl) (Kn.ex_move fh40 (.tmp rfl)) fun fa41 fh41 => ?_
      clear fh40 fa40
      refine Kn.step fh41 rfl rfl (.some rfl rfl rfl) (Kn.ex_bin fh41 (.tmp rfl) (.tmp rfl)) fun Ko hKo => ?_
      go_simp
      try go_bits
      refine hKo _ _ fun fa42 fh42 => ?_
      clear hKo Ko fh41 fa41
      refine Kn.step fh42 rfl rfl (.some rfl rfl rfl) (Kn.ex_bin fh42 (.tmp rfl) .const) fun Ko hKo => ?_
      go_simp
      try go_bits
      refine hKo _ _ fun fa43 fh43 => ?_
      clear hKo Ko fh42 fa42
      refine Kn.pure fh43 rfl rfl (.some rfl rfl rfl) (Kn.ex_move fh43 (.tmp rfl)) fun fa44 fh44 => ?_
      clear fh43 fa43
      refine Kn.skip fh44 rfl rfl (.some rfl rfl rfl) fun fa45 fh45 => ?_
      clear fh44 fa44
      refine Kn.pure fh45 rfl rfl (.some rfl rfl rfl) (Kn.ex_pick fh45 (.tmp rfl) .const) fun fa46 fh46 => ?_
      clear fh45 fa45
      refine Kn.pure fh46 rfl rfl .none (Kn.ex_pick fh46 (.tmp rfl) (.tmp rfl)) fun fa47 fh47 => ?_
      clear fh46 fa46
      refine wpList_nil ?_
      refine hK15 _ _ ?_
      clear hK15 K15
      replace fh47 := fh47.cut (.cons (t := 67) rfl (.cons (t := 6) rfl (.cons (t := 5) rfl .nil)))
      refine Kn.yes fh47 (.tmp rfl) ?_
      replace fh47 := fh47.cut (.cons (t := 6) rfl (.cons (t := 5) rfl .nil))
      refine wp_seq_k fun K16 hK16 => ?_
      refine wp_region_lit ?_
      refine Kn.pure fh47 rfl rfl .none (Kn.ex_assign fh47 .const) fun fa48 fh48 => ?_
      clear fh47 fa47
      refine Kn.pure fh48 rfl rfl .none (Kn.ex_assign fh48 .const) fun fa49 fh49 => ?_
      clear fh48 fa48
      refine wpList_nil ?_
      refine hK16 _ _ ?_
      clear hK16 K16
      refine wp_ret ?_
      refine Kn.then_ret ?_
      have HO : Hid (okD false ds = false) := Lib.hid (by unfold okD; rw [HH.out, decide_eq_true (show 1 < ds.length by rw [HL.out]; omega)]; simp)
      exact Kn.ret2 fh49 rfl rfl rfl ⟨by rw [(num_bad HM.out HD.out HO.out).1, (num_bad HM.out HD.out HO.out).2], rfl⟩
    have hL2i : ¬ (1 : Int) < (s.size : Int) := by omega
    refine wp_seq_k fun K14 hK14 => ?_
    refine wp_seq_k fun K15 hK15 => ?_
    refine wp_region_lit ?_
    refine Kn.pure fh33 rfl rfl .none (Kn.ex_move fh33 (.tmp rfl)) fun fa34 fh34 => ?_
    clear fh33 fa33
    refine Kn.pure fh34 rfl rfl .none (Kn.ex_move fh34 (.tmp rfl)) fun fa35 fh35 => ?_
    clear fh34 fa34
    refine Kn.step fh35 rfl rfl .none (Kn.ex_index fh35 (.tmp rfl) (.tmp rfl)) fun Ko hKo => ?_
    go_simp
    try go_bits
    refine hKo _ _ fun fa36 fh36 => ?_
    clear hKo Ko fh35 fa35
    refine Kn.step fh36 rfl rfl .none (Kn.ex_bin fh36 (.tmp rfl) .const) fun Ko hKo => ?_
    go_simp
    try go_bits
    refine hKo _ _ fun fa37 fh37 => ?_
    clear hKo Ko fh36 fa36
    refine Kn.pure fh37 rfl rfl .none (Kn.ex_move fh37 (.tmp rfl)) fun fa38 fh38 => ?_
    clear fh37 fa37
    refine Kn.pure fh38 rfl rfl (.some rfl rfl rfl) (Kn.ex_move fh38 (.tmp rfl)) fun fa39 fh39 => ?_
    clear fh38 fa38
    refine Kn.step fh39 rfl rfl (.some rfl rfl rfl) (Kn.ex_len fh39 (.tmp rfl)) fun Ko hKo => ?_
    go_simp
    try go_bits
    refine hKo _ _ fun fa40 fh40 => ?_
    clear hKo Ko fh39 fa39
    refine Kn.pure fh40 rfl rfl (.some rfl rfl rfl) (Kn.ex_move fh40 (.tmp rfl)) fun fa41 fh41 => ?_
    clear fh40 fa40
    refine Kn.step fh41 rfl rfl (.some rfl rfl rfl) (Kn.ex_bin fh41 (.tmp rfl) (.tmp rfl)) fun Ko hKo => ?_
    go_simp
    try go_bits
    refine hKo _ _ fun fa42 fh42 => ?_
    clear hKo Ko fh41 fa41
    refine Kn.step fh42 rfl rfl (.some rfl rfl rfl) (Kn.ex_bin fh42 (.tmp rfl) .const) fun Ko hKo => ?_
    go_simp
    try go_bits
    refine hKo _ _ fun fa43 fh43 => ?_
    clear hKo Ko fh42 fa42
    refine Kn.pure fh43 rfl rfl (.some rfl rfl rfl) (Kn.ex_move fh43 (.tmp rfl)) fun fa44 fh44 => ?_
    clear fh43 fa43
    refine Kn.pure fh44 rfl rfl (.some rfl rfl rfl) (Kn.ex_move fh44 (.tmp rfl)) fun fa45 fh45 => ?_
    clear fh44 fa44
    refine Kn.pure fh45 rfl rfl (.some rfl rfl rfl) (Kn.ex_pick fh45 (.tmp rfl) (.tmp rfl)) fun fa46 fh46 => ?_
    clear fh45 fa45
    refine Kn.pure fh46 rfl rfl .none (Kn.ex_pick fh46 (.tmp rfl) (.tmp rfl)) fun fa47 fh47 => ?_
    clear fh46 fa46
    refine wpList_nil ?_
    refine hK15 _ _ ?_
    clear hK15 K15
    replace fh47 := fh47.cut (.cons (t := 67) rfl (.cons (t := 6) rfl (.cons (t := 5) rfl .nil)))
    refine Kn.no fh47 (.tmp rfl) ?_
    refine wp_skip ?_
    refine hK14 _ _ ?_
    clear hK14 K14
    replace fh47 := fh47.cut (.cons (t := 6) rfl (.cons (t := 5) rfl .nil))
    refine wp_seq_k fun K16 hK16 => ?_
    refine wp_seq_k fun K17 hK17 => ?_
    refine wp_region_lit ?_
    refine Kn.pure fh47 rfl rfl .none (Kn.ex_move fh47 (.tmp rfl)) fun fa48 fh48 => ?_
    clear fh47 fa47
    refine wpList_nil ?_
    refine hK17 _ _ ?_
    clear hK17 K17
    replace fh48 := fh48.cut (.cons (t := 68) rfl (.cons (t := 6) rfl .nil))
    refine Kn.no fh48 (.tmp rfl) ?_
    refine wp_skip ?_
    refine hK16 _ _ ?_
    clear hK16 K16
    replace fh48 := fh48.cut (.cons (t := 6) rfl .nil)
    refine wp_seq_k fun K18 hK18 => ?_
    refine wp_region_lit ?_
    refine Kn.pure fh48 rfl rfl .none (Kn.ex_move fh48 (.tmp rfl)) fun fa49 fh49 => ?_
    clear fh48 fa48
    refine Kn.pure fh49 rfl rfl .none (Kn.ex_assign fh49 (.tmp rfl)) fun fa50 fh50 => ?_
    clear fh49 fa49
    refine Kn.pure fh50 rfl rfl .none (Kn.ex_assign fh50 .const) fun fa51 fh51 => ?_
    clear fh50 fa50
    refine wpList_nil ?_
    refine hK18 _ _ ?_
    clear hK18 K18
    replace fh51 := fh51.cut (.cons (t := 3) rfl (.cons (t := 2) rfl .nil))
    refine wp_ret ?_
    have HO : Hid (okD false ds = true) := Lib.hid (by unfold okD; rw [HAl.out, decide_eq_true (show 1 ≤ ds.length by rw [HL.out]; omega), decide_eq_true (show ds.length ≤ 9 by rw [HL.out]; omega), decide_eq_false (show ¬ 1 < ds.length by rw [HL.out]; omega)]; simp)
    exact Kn.ret2 fh51 rfl rfl rfl ⟨by rw [(num_ok HM.out HD.out HO.out).1, (num_ok HM.out HD.out HO.out).2, ← HV.out]; simp, rfl⟩
  have q48 : ((x : Int) == 48) = false := beq_eq_false_iff_ne.2 (by omega)
  have HH : Hid ((ds.head? == some 48) = false) := Lib.hid (by rw [HXd.out]; simp; intro e; exact h48 (by rw [← HXn.out, e]; rfl))
  refine wp_seq_k fun K14 hK14 => ?_
  refine wp_seq_k fun K15 hK15 => ?_
  refine wp_region_lit ?_
  refine Kn.pure fh33 rfl rfl .none (Kn.ex_move fh33 (.tmp rfl)) fun fa34 fh34 => ?_
  clear fh33 fa33
  refine Kn.pure fh34 rfl rfl .none (Kn.ex_move fh34 (.tmp rfl)) fun fa35 fh35 => ?_
  clear fh34 fa34
  refine Kn.step fh35 rfl rfl .none (Kn.ex_index fh35 (.tmp rfl) (.tmp rfl)) fun Ko hKo => ?_
  go_simp
  try go_bits
  refine hKo _ _ fun fa36 fh36 => ?_
  clear hKo Ko fh35 fa35
  refine Kn.step fh36 rfl rfl .none (Kn.ex_bin fh36 (.tmp rfl) .const) fun Ko hKo => ?_
  go_simp
  try go_bits
  refine hKo _ _ fun fa37 fh37 => ?_
  clear hKo Ko fh36 fa36
  refine Kn.pure fh37 rfl rfl .none (Kn.ex_move fh37 (.tmp rfl)) fun fa38 fh38 => ?_
  clear fh37 fa37
  refine Kn.skip fh38 rfl rfl (.some rfl rfl rfl) fun fa39 fh39 => ?_
  clear fh38 fa38
  refine Kn.skip fh39 rfl rfl (.some rfl rfl rfl) fun fa40 fh40 => ?_
  clear fh39 fa39
  refine Kn.skip fh40 rfl rfl (.some rfl rfl rfl) fun fa41 fh41 => ?_
  clear fh40 fa40
  refine Kn.skip fh41 rfl rfl (.some rfl rfl rfl) fun fa42 fh42 => ?_
  clear fh41 fa41
  refine Kn.skip fh42 rfl rfl (.some rfl rfl rfl) fun fa43 fh43 => ?_
  clear fh42 fa42
  refine Kn.skip fh43 rfl rfl (.some rfl rfl rfl) fun fa44 fh44 => ?_
  clear fh43 fa43
  refine Kn.skip fh44 rfl rfl (.gone rfl rfl) fun fa45 fh45 => ?_
  clear fh44 fa44
  refine Kn.skip fh45 rfl rfl (.some rfl rfl rfl) fun fa46 fh46 => ?_
  clear fh45 fa45
  refine Kn.pure fh46 rfl rfl .none (Kn.ex_pick fh46 (.tmp rfl) .const) fun fa47 fh47 => ?_
  clear fh46 fa46
  refine wpList_nil ?_
  refine hK15 _ _ ?_
  clear hK15 K15
  replace fh47 := fh47.cut (.cons (t := 67) rfl (.cons (t := 6) rfl (.cons (t := 5) rfl .nil)))
  refine Kn.no fh47 (.tmp rfl) ?_
  refine wp_skip ?_
  refine hK14 _ _ ?_
  clear hK14 K14
  replace fh47 := fh47.cut (.cons (t := 6) rfl (.cons (t := 5) rfl .nil))
  refine wp_seq_k fun K16 hK16 => ?_
  refine wp_seq_k fun K17 hK17 => ?_
  refine wp_region_lit ?_
  refine Kn.pure fh47 rfl rfl .none (Kn.ex_move fh47 (.tmp rfl)) fun fa48 fh48 => ?_
  clear fh47 fa47
  refine wpList_nil ?_
  refine hK17 _ _ ?_
  clear hK17 K17
  replace fh48 := fh48.cut (.cons (t := 68) rfl (.cons (t := 6) rfl .nil))
  refine Kn.no fh48 (.tmp rfl) ?_
  refine wp_skip ?_
  refine hK16 _ _ ?_
  clear hK16 K16
  replace fh48 := fh48.cut (.cons (t := 6) rfl .nil)
  refine wp_seq_k fun K18 hK18 => ?_
  refine wp_region_lit ?_
  refine Kn.pure fh48 rfl rfl .none (Kn.ex_move fh48 (.tmp rfl)) fun fa49 fh49 => ?_
  clear fh48 fa48
  refine Kn.pure fh49 rfl rfl .none (Kn.ex_assign fh49 (.tmp rfl)) fun fa50 fh50 => ?_
  clear fh49 fa49
  refine Kn.pure fh50 rfl rfl .none (Kn.ex_assign fh50 .const) fun fa51 fh51 => ?_
  clear fh50 fa50
  refine wpList_nil ?_
  refine hK18 _ _ ?_
  clear hK18 K18
  replace fh51 := fh51.cut (.cons (t := 3) rfl (.cons (t := 2) rfl .nil))
  refine wp_ret ?_
  have HO : Hid (okD false ds = true) := Lib.hid (by unfold okD; rw [HAl.out, HH.out, decide_eq_true (show 1 ≤ ds.length by rw [HL.out]; omega), decide_eq_true (show ds.length ≤ 9 by rw [HL.out]; omega)]; simp)
  exact Kn.ret2 fh51 rfl rfl rfl ⟨by rw [(num_ok HM.out HD.out HO.out).1, (num_ok HM.out HD.out HO.out).2, ← HV.out]; simp, rfl⟩

theorem head_s (s : ByteArray) (h : 0 < s.size) : s.data.toList.head? = some s[0] := by
  rw [List.head?_eq_getElem?, List.getElem?_eq_getElem (show 0 < s.data.toList.length from h)]; rfl
theorem number_any (s : ByteArray) (w : World) (hs : s.size ≤ 9223372036854775807) :
    Calls Tryz.prog 21 #[.string s] w fun e w' => e = .returned (.tuple #[.int .i64 (numV s.data.toList), .bool (numB s.data.toList)]) ∧ w = w' := by
  by_cases h : 0 < s.size
  · by_cases h0 : s[0].toNat = 45
    · refine number_m s s.data.toList.tail (s.size - 1) w hs h h0 (by omega) (by omega) (Lib.hid ?_) (Lib.hid rfl) (Lib.hid (by rw [List.length_tail]; rfl)) (Lib.hid (fun k i hk hi => ?_))
      · rw [head_s s h, show s[0] = 45 from UInt8.toNat_inj.1 (by rw [h0]; rfl)]; rfl
      · subst hi; rw [List.getElem_tail]; rfl
    · refine number_n s s.data.toList s.size w hs h h0 (by omega) (by omega) (Lib.hid ?_) (Lib.hid rfl) (Lib.hid rfl) (Lib.hid (fun k i hk hi => ?_))
      · rw [head_s s h]
        cases e : (some s[0] == some (45 : UInt8)) with
        | false => rfl
        | true => exact absurd (by have := beq_iff_eq.1 e; simp at this; rw [this]; rfl) h0
      · obtain rfl : i = k := by omega
        rfl
  · have hz : s.data.toList = [] := List.eq_nil_of_length_eq_zero (by show s.size = 0; omega)
    refine number_e s s.data.toList 0 w hs h (by omega) (by omega) (Lib.hid (by rw [hz]; rfl)) (Lib.hid rfl) (Lib.hid (by rw [hz]; rfl)) (Lib.hid (fun k i hk hi => ?_))
    rw [hz] at hk; simp at hk

end Go.Proofs.YtnmpcendimdoeaaGreatDoor.Edg
