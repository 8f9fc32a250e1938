/- The law CsrCounts, walked (written by gen_counts.py). -/
import Derived.Test.YtinjecaanjeapaaCsrW
namespace Go.Proofs.Ytinjecaanjeapaa.Csr
open Go Go.RowKit Go.Lib Edg Num


set_option maxRecDepth 100000 in
set_option maxHeartbeats 2000000 in
theorem counts_all (n : Int) (A : Option Addr) (ca : Nat) (xs : List (Int × Int)) (w : World) (hx : xs.length ≤ maxLen) (hA : EIn w A xs) :
    Calls Try.prog 4 #[.int .i64 n, .slice A xs.length ca] w fun e w' => e = .returned (.bool true) ∧ Below w.heap.size w w' := by
  unfold maxLen at hx
  refine Kn.calls Try.func4 rfl Try.ntmps4 rfl (.cons (t := 0) rfl (.cons (t := 1) rfl .nil)) fun fa0 fh0 => ?_
  refine wp_seq_k fun K1 hK1 => ?_
  refine wp_region_lit ?_
  refine Kn.pure fh0 rfl rfl .none (Kn.ex_assign fh0 .const) fun fa1 fh1 => ?_
  clear fh0 fa0
  refine wpList_nil ?_
  refine hK1 _ _ ?_
  clear hK1 K1
  refine wp_seq_k fun K2 hK2 => ?_
  refine wp_seq_k fun K3 hK3 => ?_
  refine wp_region_lit ?_
  refine Kn.call fh1 rfl rfl .none (Kn.ex_call fh1 .nil) Try.call5 (awake5 w) fun e w1 hp => ?_
  obtain ⟨rfl, hb1⟩ := hp
  refine ⟨_, rfl, fun fa2 fh2 => ?_⟩
  clear fh1 fa1
  refine Kn.step fh2 rfl rfl .none (Kn.ex_un fh2 (.tmp rfl)) fun Ko hKo => ?_
  go_simp
  try go_bits
  refine hKo _ _ fun fa3 fh3 => ?_
  clear hKo Ko fh2 fa2
  refine wpList_nil ?_
  refine hK3 _ _ ?_
  clear hK3 K3
  replace fh3 := fh3.cut (.cons (t := 16) rfl (.cons (t := 4) rfl (.cons (t := 0) rfl (.cons (t := 1) rfl .nil))))
  refine Kn.no fh3 (.tmp rfl) ?_
  refine wp_skip ?_
  refine hK2 _ _ ?_
  clear hK2 K2
  replace fh3 := fh3.cut (.cons (t := 4) rfl (.cons (t := 0) rfl (.cons (t := 1) rfl .nil)))
  have HA1 := Lib.hid (hA.on hb1)
  have HB1 := Lib.hid hb1
  clear hA hb1
  by_cases h1 : (200 : Int) < (xs.length : Int)
  · refine wp_seq_k fun K4 hK4 => ?_
    refine wp_seq_k fun K5 hK5 => ?_
    refine wp_region_lit ?_
    refine Kn.pure fh3 rfl rfl .none (Kn.ex_move fh3 (.tmp rfl)) fun fa4 fh4 => ?_
    clear fh3 fa3
    refine Kn.step fh4 rfl rfl .none (Kn.ex_len fh4 (.tmp rfl)) fun Ko hKo => ?_
    go_simp
    try go_bits
    refine hKo _ _ fun fa5 fh5 => ?_
    clear hKo Ko fh4 fa4
    refine Kn.step fh5 rfl rfl .none (Kn.ex_bin fh5 (.tmp rfl) .const) fun Ko hKo => ?_
    go_simp
    try go_bits
    refine hKo _ _ fun fa6 fh6 => ?_
    clear hKo Ko fh5 fa5
    refine wpList_nil ?_
    refine hK5 _ _ ?_
    clear hK5 K5
    replace fh6 := fh6.cut (.cons (t := 19) rfl (.cons (t := 4) rfl (.cons (t := 0) rfl (.cons (t := 1) rfl .nil))))
    refine Kn.yes fh6 (.tmp rfl) ?_
    replace fh6 := fh6.cut (.cons (t := 4) rfl (.cons (t := 0) rfl (.cons (t := 1) rfl .nil)))
    refine wp_seq_k fun K6 hK6 => ?_
    refine wp_region_lit ?_
    refine Kn.pure fh6 rfl rfl .none (Kn.ex_assign fh6 .const) fun fa7 fh7 => ?_
    clear fh6 fa6
    refine wpList_nil ?_
    refine hK6 _ _ ?_
    clear hK6 K6
    refine wp_ret ?_
    refine Kn.then_ret ?_
    exact Kn.ret1 fh7 rfl rfl ⟨rfl, HB1.out⟩
  refine wp_seq_k fun K4 hK4 => ?_
  refine wp_seq_k fun K5 hK5 => ?_
  refine wp_region_lit ?_
  refine Kn.pure fh3 rfl rfl .none (Kn.ex_move fh3 (.tmp rfl)) fun fa4 fh4 => ?_
  clear fh3 fa3
  refine Kn.step fh4 rfl rfl .none (Kn.ex_len fh4 (.tmp rfl)) fun Ko hKo => ?_
  go_simp
  try go_bits
  refine hKo _ _ fun fa5 fh5 => ?_
  clear hKo Ko fh4 fa4
  refine Kn.step fh5 rfl rfl .none (Kn.ex_bin fh5 (.tmp rfl) .const) fun Ko hKo => ?_
  go_simp
  try go_bits
  refine hKo _ _ fun fa6 fh6 => ?_
  clear hKo Ko fh5 fa5
  refine wpList_nil ?_
  refine hK5 _ _ ?_
  clear hK5 K5
  replace fh6 := fh6.cut (.cons (t := 19) rfl (.cons (t := 4) rfl (.cons (t := 0) rfl (.cons (t := 1) rfl .nil))))
  refine Kn.no fh6 (.tmp rfl) ?_
  refine wp_skip ?_
  refine hK4 _ _ ?_
  clear hK4 K4
  replace fh6 := fh6.cut (.cons (t := 4) rfl (.cons (t := 0) rfl (.cons (t := 1) rfl .nil)))
  have hxs : xs.length ≤ 200 := by omega
  clear h1 hx
  by_cases hg : Edg.Good n xs
  · obtain ⟨N, rfl⟩ := Int.eq_ofNat_of_zero_le hg.lo
    have hbu := build_yes N A ca xs w1 HA1.out hg
    refine wp_seq_k fun K6 hK6 => ?_
    refine wp_region_lit ?_
    refine Kn.pure fh6 rfl rfl .none (Kn.ex_move fh6 (.tmp rfl)) fun fa7 fh7 => ?_
    clear fh6 fa6
    refine Kn.pure fh7 rfl rfl .none (Kn.ex_move fh7 (.tmp rfl)) fun fa8 fh8 => ?_
    clear fh7 fa7
    refine Kn.call fh8 rfl rfl .none (Kn.ex_call fh8 (.cons (.tmp rfl) (.cons (.tmp rfl) .nil))) Try.call6 (hbu) fun e w2 hp => ?_
    obtain ⟨g, ys, rfl, hNo, hR, hb2⟩ := hp
    refine ⟨_, rfl, fun fa9 fh9 => ?_⟩
    clear fh8 fa8
    refine Kn.pure fh9 rfl rfl .none (Kn.ex_move fh9 (.tmp rfl)) fun fa10 fh10 => ?_
    clear fh9 fa9
    refine Kn.pure fh10 rfl rfl .none (Kn.ex_extract fh10 (.tmp rfl) rfl) fun fa11 fh11 => ?_
    clear fh10 fa10
    refine Kn.pure fh11 rfl rfl .none (Kn.ex_extract fh11 (.tmp rfl) rfl) fun fa12 fh12 => ?_
    clear fh11 fa11
    refine Kn.pure fh12 rfl rfl .none (Kn.ex_assign fh12 (.tmp rfl)) fun fa13 fh13 => ?_
    clear fh12 fa12
    refine Kn.pure fh13 rfl rfl .none (Kn.ex_assign fh13 (.tmp rfl)) fun fa14 fh14 => ?_
    clear fh13 fa13
    refine wpList_nil ?_
    refine hK6 _ _ ?_
    clear hK6 K6
    replace fh14 := fh14.cut (.cons (t := 6) rfl (.cons (t := 5) rfl (.cons (t := 4) rfl (.cons (t := 0) rfl .nil))))
    have hN4 := hR.hi
    have hL4 := hR.len
    have HR := Lib.hid hR
    have HB2 := Lib.hid (HB1.out.trans (hb2.mono HB1.out.size))
    clear hR hb2 HA1 HB1 hg hNo hbu
    refine wp_seq_k fun K7 hK7 => ?_
    refine wp_seq_k fun K8 hK8 => ?_
    refine wp_region_lit ?_
    refine Kn.pure fh14 rfl rfl .none (Kn.ex_move fh14 (.tmp rfl)) fun fa15 fh15 => ?_
    clear fh14 fa14
    refine Kn.step fh15 rfl rfl .none (Kn.ex_bin fh15 (.tmp rfl) .const) fun Ko hKo => ?_
    go_simp
    try go_bits
    refine hKo _ _ fun fa16 fh16 => ?_
    clear hKo Ko fh15 fa15
    refine wpList_nil ?_
    refine hK8 _ _ ?_
    clear hK8 K8
    replace fh16 := fh16.cut (.cons (t := 27) rfl (.cons (t := 5) rfl (.cons (t := 4) rfl (.cons (t := 0) rfl .nil))))
    refine Kn.no fh16 (.tmp rfl) ?_
    refine wp_skip ?_
    refine hK7 _ _ ?_
    clear hK7 K7
    replace fh16 := fh16.cut (.cons (t := 5) rfl (.cons (t := 4) rfl (.cons (t := 0) rfl .nil)))
    refine wp_seq_k fun K9 hK9 => ?_
    refine wp_region_lit ?_
    refine Kn.pure fh16 rfl rfl .none (Kn.ex_assign fh16 .const) fun fa17 fh17 => ?_
    clear fh16 fa16
    refine wpList_nil ?_
    refine hK9 _ _ ?_
    clear hK9 K9
    refine wp_seq_k fun K10 hK10 => ?_
    refine wp_seq_k fun K11 hK11 => ?_
    refine wp_region_lit ?_
    refine Kn.pure fh17 rfl rfl .none (Kn.ex_assign fh17 .const) fun fa18 fh18 => ?_
    clear fh17 fa17
    refine wpList_nil ?_
    refine hK11 _ _ ?_
    clear hK11 K11
    refine wp_block ?_
    refine Kn.loop (fun m fr u => ∃ (k : Nat), Kn.Kn 104 [(8, .int .i64 (k : Int)), (7, .int .i64 (bgn ys (k : Int) : Int)), (0, .int .i64 (N : Int)), (5, .pointer (some ⟨g, 0, none⟩))] fr ∧ k + m = N ∧ Hid (Below w2.heap.size w2 u)) N ⟨0, fh18.cut (.turn (t := 8) rfl rfl (.turn (t := 7) rfl (by rw [show bgn ys ((0 : Nat) : Int) = 0 from bgn_0 HR.out.good]; rfl) (.cons (t := 0) rfl (.cons (t := 5) rfl .nil)))), by omega, Lib.hid (Below.refl _ _)⟩ ?_
    clear fh18 fa18
    intro m12 fa19 u hI Kl12 hKl12
    obtain ⟨k, fh19, hk, HB⟩ := hI
    by_cases hlt : k < N
    · have HRu := Lib.hid (HR.out.on HB.out)
      have ht := targets_in k u _ g N ys HRu.out hlt
      have hd := fun v h => degree_in k v w1.heap.size g N ys h hlt
      have hbg := fun v h => begin_in k v w1.heap.size g N ys h (by omega)
      have hha := fun t v h => has_in k t v w1.heap.size g N ys h hlt
      have hup := trg_up HR.out.srt (k : Int)
      have hsu := bgn_next ys (k : Int)
      have hle := bgn_le ys (k : Int)
      have hle1 := bgn_le ys ((k : Int) + 1)
      generalize trg ys (k : Int) = ts at ht hd hha hup hsu
      obtain ⟨b, hb⟩ : ∃ b, bgn ys (k : Int) = b := ⟨_, rfl⟩
      rw [hb] at hbg hsu hle fh19
      have hts : ts.length ≤ 20000 := by omega
      have HD := Lib.hid hd
      have HG := Lib.hid hbg
      have HH := Lib.hid hha
      have HU := Lib.hid hup
      have HSu := Lib.hid hsu
      clear hd hbg hha hup hsu hb hle1
      refine wp_seq_k fun K13 hK13 => ?_
      refine wp_seq_k fun K14 hK14 => ?_
      refine wp_region_lit ?_
      refine Kn.pure fh19 rfl rfl .none (Kn.ex_move fh19 (.tmp rfl)) fun fa20 fh20 => ?_
      clear fh19 fa19
      refine Kn.pure fh20 rfl rfl .none (Kn.ex_move fh20 (.tmp rfl)) fun fa21 fh21 => ?_
      clear fh20 fa20
      refine Kn.step fh21 rfl rfl .none (Kn.ex_bin fh21 (.tmp rfl) (.tmp rfl)) fun Ko hKo => ?_
      go_simp
      try go_bits
      refine hKo _ _ fun fa22 fh22 => ?_
      clear hKo Ko fh21 fa21
      refine wpList_nil ?_
      refine hK14 _ _ ?_
      clear hK14 K14
      replace fh22 := fh22.cut (.cons (t := 30) rfl (.cons (t := 8) rfl (.cons (t := 7) rfl (.cons (t := 0) rfl (.cons (t := 5) rfl .nil)))))
      refine Kn.yes fh22 (.tmp rfl) ?_
      refine wp_skip ?_
      refine hK13 _ _ ?_
      clear hK13 K13
      replace fh22 := fh22.cut (.cons (t := 8) rfl (.cons (t := 7) rfl (.cons (t := 0) rfl (.cons (t := 5) rfl .nil))))
      refine wp_seq_k fun K15 hK15 => ?_
      refine wp_block ?_
      refine wp_seq_k fun K16 hK16 => ?_
      refine wp_region_lit ?_
      refine Kn.pure fh22 rfl rfl .none (Kn.ex_move fh22 (.tmp rfl)) fun fa23 fh23 => ?_
      clear fh22 fa22
      refine Kn.pure fh23 rfl rfl .none (Kn.ex_move fh23 (.tmp rfl)) fun fa24 fh24 => ?_
      clear fh23 fa23
      refine Kn.call fh24 rfl rfl .none (Kn.ex_call fh24 (.cons (.tmp rfl) (.cons (.tmp rfl) .nil))) Try.call9 (ht) fun e w3 hp => ?_
      obtain ⟨A', n', c', rfl, hO, hb3⟩ := hp
      refine ⟨_, rfl, fun fa25 fh25 => ?_⟩
      clear fh24 fa24
      refine Kn.pure fh25 rfl rfl .none (Kn.ex_move fh25 (.tmp rfl)) fun fa26 fh26 => ?_
      clear fh25 fa25
      refine Kn.pure fh26 rfl rfl .none (Kn.ex_extract fh26 (.tmp rfl) rfl) fun fa27 fh27 => ?_
      clear fh26 fa26
      refine Kn.pure fh27 rfl rfl .none (Kn.ex_extract fh27 (.tmp rfl) rfl) fun fa28 fh28 => ?_
      clear fh27 fa27
      refine Kn.pure fh28 rfl rfl .none (Kn.ex_assign fh28 (.tmp rfl)) fun fa29 fh29 => ?_
      clear fh28 fa28
      refine Kn.pure fh29 rfl rfl .none (Kn.ex_assign fh29 (.tmp rfl)) fun fa30 fh30 => ?_
      clear fh29 fa29
      refine wpList_nil ?_
      refine hK16 _ _ ?_
      clear hK16 K16
      replace fh30 := fh30.cut (.cons (t := 10) rfl (.cons (t := 9) rfl (.cons (t := 8) rfl (.cons (t := 7) rfl (.cons (t := 0) rfl (.cons (t := 5) rfl .nil))))))
      have hn' := hO.1
      subst hn'
      have HI3 := Lib.hid hO.iin
      have HR3 := Lib.hid (HRu.out.on hb3)
      have HB3 := Lib.hid (HB.out.trans (hb3.mono HB.out.size))
      clear ht hO hb3
      refine wp_seq_k fun K17 hK17 => ?_
      refine wp_region_lit ?_
      refine Kn.pure fh30 rfl rfl .none (Kn.ex_move fh30 (.tmp rfl)) fun fa31 fh31 => ?_
      clear fh30 fa30
      refine Kn.pure fh31 rfl rfl .none (Kn.ex_move fh31 (.tmp rfl)) fun fa32 fh32 => ?_
      clear fh31 fa31
      refine Kn.call fh32 rfl rfl .none (Kn.ex_call fh32 (.cons (.tmp rfl) (.cons (.tmp rfl) .nil))) Try.call10 (HD.out w3 HR3.out) fun e w4 hp => ?_
      obtain ⟨rfl, q, rfl⟩ := hp
      refine ⟨_, rfl, fun fa33 fh33 => ?_⟩
      clear fh32 fa32
      refine Kn.pure fh33 rfl rfl .none (Kn.ex_move fh33 (.tmp rfl)) fun fa34 fh34 => ?_
      clear fh33 fa33
      refine Kn.pure fh34 rfl rfl .none (Kn.ex_extract fh34 (.tmp rfl) rfl) fun fa35 fh35 => ?_
      clear fh34 fa34
      refine Kn.pure fh35 rfl rfl .none (Kn.ex_extract fh35 (.tmp rfl) rfl) fun fa36 fh36 => ?_
      clear fh35 fa35
      refine Kn.pure fh36 rfl rfl .none (Kn.ex_assign fh36 (.tmp rfl)) fun fa37 fh37 => ?_
      clear fh36 fa36
      refine Kn.pure fh37 rfl rfl .none (Kn.ex_assign fh37 (.tmp rfl)) fun fa38 fh38 => ?_
      clear fh37 fa37
      refine wpList_nil ?_
      refine hK17 _ _ ?_
      clear hK17 K17
      replace fh38 := fh38.cut (.cons (t := 12) rfl (.cons (t := 11) rfl (.cons (t := 10) rfl (.cons (t := 9) rfl (.cons (t := 8) rfl (.cons (t := 7) rfl (.cons (t := 0) rfl (.cons (t := 5) rfl .nil))))))))
      refine wp_seq_k fun K18 hK18 => ?_
      refine wp_seq_k fun K19 hK19 => ?_
      refine wp_region_lit ?_
      refine Kn.pure fh38 rfl rfl .none (Kn.ex_move fh38 (.tmp rfl)) fun fa39 fh39 => ?_
      clear fh38 fa38
      refine Kn.step fh39 rfl rfl .none (Kn.ex_bin fh39 (.tmp rfl) .const) fun Ko hKo => ?_
      go_simp
      try go_bits
      refine hKo _ _ fun fa40 fh40 => ?_
      clear hKo Ko fh39 fa39
      refine Kn.pure fh40 rfl rfl .none (Kn.ex_move fh40 (.tmp rfl)) fun fa41 fh41 => ?_
      clear fh40 fa40
      refine Kn.pure fh41 rfl rfl (.some rfl rfl rfl) (Kn.ex_move fh41 (.tmp rfl)) fun fa42 fh42 => ?_
      clear fh41 fa41
      refine Kn.step fh42 rfl rfl (.some rfl rfl rfl) (Kn.ex_bin fh42 (.tmp rfl) .const) fun Ko hKo => ?_
      go_simp
      try go_bits
      refine hKo _ _ fun fa43 fh43 => ?_
      clear hKo Ko fh42 fa42
      refine Kn.pure fh43 rfl rfl .none (Kn.ex_pick fh43 (.tmp rfl) (.tmp rfl)) fun fa44 fh44 => ?_
      clear fh43 fa43
      refine Kn.pure fh44 rfl rfl .none (Kn.ex_move fh44 (.tmp rfl)) fun fa45 fh45 => ?_
      clear fh44 fa44
      refine Kn.pure fh45 rfl rfl (.some rfl rfl rfl) (Kn.ex_move fh45 (.tmp rfl)) fun fa46 fh46 => ?_
      clear fh45 fa45
      refine Kn.pure fh46 rfl rfl (.some rfl rfl rfl) (Kn.ex_move fh46 (.tmp rfl)) fun fa47 fh47 => ?_
      clear fh46 fa46
      refine Kn.step fh47 rfl rfl (.some rfl rfl rfl) (Kn.ex_len fh47 (.tmp rfl)) fun Ko hKo => ?_
      go_simp
      try go_bits
      refine hKo _ _ fun fa48 fh48 => ?_
      clear hKo Ko fh47 fa47
      refine Kn.step fh48 rfl rfl (.some rfl rfl rfl) (Kn.ex_bin fh48 (.tmp rfl) (.tmp rfl)) fun Ko hKo => ?_
      go_simp
      try go_bits
      refine hKo _ _ fun fa49 fh49 => ?_
      clear hKo Ko fh48 fa48
      refine Kn.pure fh49 rfl rfl .none (Kn.ex_pick fh49 (.tmp rfl) (.tmp rfl)) fun fa50 fh50 => ?_
      clear fh49 fa49
      refine Kn.pure fh50 rfl rfl .none (Kn.ex_move fh50 (.tmp rfl)) fun fa51 fh51 => ?_
      clear fh50 fa50
      refine Kn.pure fh51 rfl rfl (.some rfl rfl rfl) (Kn.ex_move fh51 (.tmp rfl)) fun fa52 fh52 => ?_
      clear fh51 fa51
      refine Kn.pure fh52 rfl rfl (.some rfl rfl rfl) (Kn.ex_move fh52 (.tmp rfl)) fun fa53 fh53 => ?_
      clear fh52 fa52
      refine Kn.call fh53 rfl rfl (.some rfl rfl rfl) (Kn.ex_call fh53 (.cons (.tmp rfl) (.cons (.tmp rfl) .nil))) Try.call11 (HG.out _ (HR3.out.drewN q)) fun e w4 hp => ?_
      obtain ⟨rfl, rfl⟩ := hp
      refine ⟨_, rfl, fun fa54 fh54 => ?_⟩
      clear fh53 fa53
      refine Kn.pure fh54 rfl rfl (.some rfl rfl rfl) (Kn.ex_move fh54 (.tmp rfl)) fun fa55 fh55 => ?_
      clear fh54 fa54
      refine Kn.step fh55 rfl rfl (.some rfl rfl rfl) (Kn.ex_bin fh55 (.tmp rfl) (.tmp rfl)) fun Ko hKo => ?_
      go_simp
      try go_bits
      refine hKo _ _ fun fa56 fh56 => ?_
      clear hKo Ko fh55 fa55
      refine Kn.pure fh56 rfl rfl .none (Kn.ex_pick fh56 (.tmp rfl) (.tmp rfl)) fun fa57 fh57 => ?_
      clear fh56 fa56
      refine wpList_nil ?_
      refine hK19 _ _ ?_
      clear hK19 K19
      replace fh57 := fh57.cut (.cons (t := 63) rfl (.cons (t := 11) rfl (.cons (t := 9) rfl (.cons (t := 8) rfl (.cons (t := 7) rfl (.cons (t := 0) rfl (.cons (t := 5) rfl .nil)))))))
      refine Kn.no fh57 (.tmp rfl) ?_
      refine wp_skip ?_
      refine hK18 _ _ ?_
      clear hK18 K18
      replace fh57 := fh57.cut (.cons (t := 11) rfl (.cons (t := 9) rfl (.cons (t := 8) rfl (.cons (t := 7) rfl (.cons (t := 0) rfl (.cons (t := 5) rfl .nil))))))
      obtain ⟨b', hb'⟩ : ∃ b', b + ts.length = b' := ⟨_, rfl⟩
      have rb : (b : Int) + (ts.length : Int) = (b' : Int) := by omega
      have HSb : Hid (bgn ys ((k : Int) + 1) = b') := Lib.hid (by rw [HSu.out, hb'])
      clear hb'
      refine wp_seq_k fun K20 hK20 => ?_
      refine wp_region_lit ?_
      refine Kn.pure fh57 rfl rfl .none (Kn.ex_move fh57 (.tmp rfl)) fun fa58 fh58 => ?_
      clear fh57 fa57
      refine Kn.pure fh58 rfl rfl .none (Kn.ex_move fh58 (.tmp rfl)) fun fa59 fh59 => ?_
      clear fh58 fa58
      refine Kn.step fh59 rfl rfl .none (Kn.ex_bin fh59 (.tmp rfl) (.tmp rfl)) fun Ko hKo => ?_
      go_simp
      try go_bits
      try rw [rb]
      refine hKo _ _ fun fa60 fh60 => ?_
      clear hKo Ko fh59 fa59
      refine Kn.pure fh60 rfl rfl .none (Kn.ex_assign fh60 (.tmp rfl)) fun fa61 fh61 => ?_
      clear fh60 fa60
      refine wpList_nil ?_
      refine hK20 _ _ ?_
      clear hK20 K20
      replace fh61 := fh61.cut (.cons (t := 7) rfl (.cons (t := 9) rfl (.cons (t := 8) rfl (.cons (t := 0) rfl (.cons (t := 5) rfl .nil)))))
      clear rb
      refine wp_seq_k fun K21 hK21 => ?_
      refine wp_region_lit ?_
      refine Kn.pure fh61 rfl rfl .none (Kn.ex_move fh61 (.tmp rfl)) fun fa62 fh62 => ?_
      clear fh61 fa61
      refine Kn.step fh62 rfl rfl .none (Kn.ex_len fh62 (.tmp rfl)) fun Ko hKo => ?_
      go_simp
      try go_bits
      refine hKo _ _ fun fa63 fh63 => ?_
      clear hKo Ko fh62 fa62
      refine Kn.pure fh63 rfl rfl .none (Kn.ex_move fh63 .const) fun fa64 fh64 => ?_
      clear fh63 fa63
      refine wpList_nil ?_
      refine hK21 _ _ ?_
      clear hK21 K21
      refine wp_block ?_
      refine Kn.loop (fun m fr v => ∃ (j q : Nat), Kn.Kn 104 [(69, .int .i64 (j : Int)), (68, .int .i64 (ts.length : Int)), (67, .slice A' ts.length c'), (9, .slice A' ts.length c'), (5, .pointer (some ⟨g, 0, none⟩)), (8, .int .i64 (k : Int)), (7, .int .i64 (b' : Int)), (0, .int .i64 (N : Int))] fr ∧ j + m = ts.length ∧ v = w3.drewN q) ts.length ⟨0, q, fh64.cut (.turn (t := 69) rfl rfl (.cons (t := 68) rfl (.cons (t := 67) rfl (.cons (t := 9) rfl (.cons (t := 5) rfl (.cons (t := 8) rfl (.cons (t := 7) rfl (.cons (t := 0) rfl .nil)))))))), by omega, rfl⟩ ?_
      clear fh64 fa64
      intro m22 fa65 v hI Kl22 hKl22
      obtain ⟨j, q, fh65, hj, rfl⟩ := hI
      by_cases hjl : j < ts.length
      · obtain ⟨ba, oa, rfl, -, cj⟩ := HI3.out j hjl
        obtain ⟨x, hx⟩ : ∃ x, nt ts j = x := ⟨_, rfl⟩
        have hmem : x ∈ ts := by rw [← hx, nt_at _ _ hjl]; exact List.getElem_mem _
        have hhx := HH.out x (w3.drewN q) (HR3.out.drewN q)
        rw [decide_eq_true hmem] at hhx
        rw [hx] at cj
        have HX := Lib.hid hx
        clear hx hmem
        refine wp_seq_k fun K23 hK23 => ?_
        refine wp_region_lit ?_
        refine Kn.step fh65 rfl rfl .none (Kn.ex_bin fh65 (.tmp rfl) (.tmp rfl)) fun Ko hKo => ?_
        go_simp
        try go_bits
        refine hKo _ _ fun fa66 fh66 => ?_
        clear hKo Ko fh65 fa65
        refine wpList_nil ?_
        refine hK23 _ _ ?_
        clear hK23 K23
        refine wp_seq_k fun K24 hK24 => ?_
        refine Kn.yes fh66 (.tmp rfl) ?_
        refine wp_skip ?_
        refine hK24 _ _ ?_
        clear hK24 K24
        replace fh66 := fh66.cut (.cons (t := 69) rfl (.cons (t := 68) rfl (.cons (t := 67) rfl (.cons (t := 9) rfl (.cons (t := 5) rfl (.cons (t := 8) rfl (.cons (t := 7) rfl (.cons (t := 0) rfl .nil))))))))
        refine wp_seq_k fun K25 hK25 => ?_
        refine wp_block ?_
        refine wp_seq_k fun K26 hK26 => ?_
        refine wp_region_lit ?_
        refine Kn.pure fh66 rfl rfl .none (Kn.ex_move fh66 (.tmp rfl)) fun fa67 fh67 => ?_
        clear fh66 fa66
        refine Kn.step fh67 rfl rfl .none (Kn.ex_indexAddr fh67 (.tmp rfl) (.tmp rfl)) fun Ko hKo => ?_
        go_simp
        try go_bits
        refine hKo _ _ fun fa68 fh68 => ?_
        clear hKo Ko fh67 fa67
        refine Kn.step fh68 rfl rfl .none (Kn.ex_load fh68 (.tmp rfl)) fun Ko hKo => ?_
        go_simp
        try go_bits
        refine hKo _ _ fun fa69 fh69 => ?_
        clear hKo Ko fh68 fa68
        refine Kn.pure fh69 rfl rfl .none (Kn.ex_assign fh69 (.tmp rfl)) fun fa70 fh70 => ?_
        clear fh69 fa69
        refine Kn.pure fh70 rfl rfl .none (Kn.ex_assign fh70 (.tmp rfl)) fun fa71 fh71 => ?_
        clear fh70 fa70
        refine wpList_nil ?_
        refine hK26 _ _ ?_
        clear hK26 K26
        replace fh71 := fh71.cut (.cons (t := 14) rfl (.cons (t := 13) rfl (.cons (t := 69) rfl (.cons (t := 68) rfl (.cons (t := 67) rfl (.cons (t := 9) rfl (.cons (t := 5) rfl (.cons (t := 8) rfl (.cons (t := 7) rfl (.cons (t := 0) rfl .nil))))))))))
        clear cj
        by_cases hj0 : j = 0
        · have hji : ¬ (0 : Int) < (j : Int) := by omega
          have hji2 : ¬ 0 < j := by omega
          clear hj0
          refine wp_seq_k fun K27 hK27 => ?_
          refine wp_region_lit ?_
          refine Kn.pure fh71 rfl rfl .none (Kn.ex_move fh71 (.tmp rfl)) fun fa72 fh72 => ?_
          clear fh71 fa71
          refine Kn.pure fh72 rfl rfl .none (Kn.ex_move fh72 (.tmp rfl)) fun fa73 fh73 => ?_
          clear fh72 fa72
          refine Kn.pure fh73 rfl rfl .none (Kn.ex_move fh73 (.tmp rfl)) fun fa74 fh74 => ?_
          clear fh73 fa73
          refine Kn.call fh74 rfl rfl .none (Kn.ex_call fh74 (.cons (.tmp rfl) (.cons (.tmp rfl) (.cons (.tmp rfl) .nil)))) Try.call12 (hhx) fun e w5 hp => ?_
          obtain ⟨rfl, q2, rfl⟩ := hp
          refine ⟨_, rfl, fun fa75 fh75 => ?_⟩
          clear fh74 fa74
          refine Kn.step fh75 rfl rfl .none (Kn.ex_un fh75 (.tmp rfl)) fun Ko hKo => ?_
          go_simp
          try go_bits
          refine hKo _ _ fun fa76 fh76 => ?_
          clear hKo Ko fh75 fa75
          refine Kn.pure fh76 rfl rfl .none (Kn.ex_move fh76 (.tmp rfl)) fun fa77 fh77 => ?_
          clear fh76 fa76
          refine Kn.pure fh77 rfl rfl (.some rfl rfl rfl) (Kn.ex_move fh77 (.tmp rfl)) fun fa78 fh78 => ?_
          clear fh77 fa77
          refine Kn.step fh78 rfl rfl (.some rfl rfl rfl) (Kn.ex_bin fh78 (.tmp rfl) .const) fun Ko hKo => ?_
          go_simp
          try go_bits
          refine hKo _ _ fun fa79 fh79 => ?_
          clear hKo Ko fh78 fa78
          refine Kn.pure fh79 rfl rfl (.some rfl rfl rfl) (Kn.ex_move fh79 (.tmp rfl)) fun fa80 fh80 => ?_
          clear fh79 fa79
          refine Kn.skip fh80 rfl rfl (.some rfl rfl rfl) fun fa81 fh81 => ?_
          clear fh80 fa80
          refine Kn.skip fh81 rfl rfl (.some rfl rfl rfl) fun fa82 fh82 => ?_
          clear fh81 fa81
          refine Kn.skip fh82 rfl rfl (.some rfl rfl rfl) fun fa83 fh83 => ?_
          clear fh82 fa82
          refine Kn.skip fh83 rfl rfl (.some rfl rfl rfl) fun fa84 fh84 => ?_
          clear fh83 fa83
          refine Kn.skip fh84 rfl rfl (.some rfl rfl rfl) fun fa85 fh85 => ?_
          clear fh84 fa84
          refine Kn.skip fh85 rfl rfl (.some rfl rfl rfl) fun fa86 fh86 => ?_
          clear fh85 fa85
          refine Kn.skip fh86 rfl rfl (.some rfl rfl rfl) fun fa87 fh87 => ?_
          clear fh86 fa86
          refine Kn.pure fh87 rfl rfl (.some rfl rfl rfl) (Kn.ex_pick fh87 (.tmp rfl) .const) fun fa88 fh88 => ?_
          clear fh87 fa87
          refine Kn.pure fh88 rfl rfl .none (Kn.ex_pick fh88 (.tmp rfl) (.tmp rfl)) fun fa89 fh89 => ?_
          clear fh88 fa88
          refine wpList_nil ?_
          refine hK27 _ _ ?_
          clear hK27 K27
          replace fh89 := fh89.cut (.cons (t := 91) rfl (.cons (t := 69) rfl (.cons (t := 68) rfl (.cons (t := 67) rfl (.cons (t := 9) rfl (.cons (t := 5) rfl (.cons (t := 8) rfl (.cons (t := 7) rfl (.cons (t := 0) rfl .nil)))))))))
          refine Kn.no fh89 (.tmp rfl) ?_
          refine wp_skip ?_
          refine Kn.block_normal ?_
          refine hK25 _ _ ?_
          clear hK25 K25
          replace fh89 := fh89.cut (.cons (t := 69) rfl (.cons (t := 68) rfl (.cons (t := 67) rfl (.cons (t := 9) rfl (.cons (t := 5) rfl (.cons (t := 8) rfl (.cons (t := 7) rfl (.cons (t := 0) rfl .nil))))))))
          clear hhx
          refine wp_region_lit ?_
          refine Kn.step fh89 rfl rfl .none (Kn.ex_bin fh89 (.tmp rfl) .const) fun Ko hKo => ?_
          go_simp
          try go_bits
          refine hKo _ _ fun fa90 fh90 => ?_
          clear hKo Ko fh89 fa89
          refine Kn.pure fh90 rfl rfl .none (Kn.ex_move fh90 (.tmp rfl)) fun fa91 fh91 => ?_
          clear fh90 fa90
          refine wpList_nil ?_
          replace fh91 := fh91.cut (.cons (t := 69) rfl (.cons (t := 68) rfl (.cons (t := 67) rfl (.cons (t := 9) rfl (.cons (t := 5) rfl (.cons (t := 8) rfl (.cons (t := 7) rfl (.cons (t := 0) rfl .nil))))))))
          exact hKl22 (m22 - 1) _ _ (by omega) ⟨j + 1, q + q2, fh91.cut (.turn (t := 69) rfl (by go_num) (.cons (t := 68) rfl (.cons (t := 67) rfl (.cons (t := 9) rfl (.cons (t := 5) rfl (.cons (t := 8) rfl (.cons (t := 7) rfl (.cons (t := 0) rfl .nil)))))))), by omega, rfl⟩
        obtain ⟨i, hi⟩ : ∃ i, j = i + 1 := ⟨j - 1, by omega⟩
        have hji : (0 : Int) < (j : Int) := by omega
        have hji2 : 0 < j := by omega
        have rj : (j : Int) - 1 = (i : Int) := by omega
        have hil : i < ts.length := by omega
        have ci := IIn.cells HI3.out hil
        obtain ⟨y, hy⟩ : ∃ y, nt ts i = y := ⟨_, rfl⟩
        rw [hy] at ci
        have hyx : ¬ x ≤ y := by
          have := List.pairwise_iff_getElem.1 HU.out i j hil hjl (by omega)
          rw [← nt_at ts i hil, ← nt_at ts j hjl, hy, HX.out] at this
          omega
        have HJ := Lib.hid hi
        clear hy hi
        refine wp_seq_k fun K27 hK27 => ?_
        refine wp_region_lit ?_
        refine Kn.pure fh71 rfl rfl .none (Kn.ex_move fh71 (.tmp rfl)) fun fa72 fh72 => ?_
        clear fh71 fa71
        refine Kn.pure fh72 rfl rfl .none (Kn.ex_move fh72 (.tmp rfl)) fun fa73 fh73 => ?_
        clear fh72 fa72
        refine Kn.pure fh73 rfl rfl .none (Kn.ex_move fh73 (.tmp rfl)) fun fa74 fh74 => ?_
        clear fh73 fa73
        refine Kn.call fh74 rfl rfl .none (Kn.ex_call fh74 (.cons (.tmp rfl) (.cons (.tmp rfl) (.cons (.tmp rfl) .nil)))) Try.call12 (hhx) fun e w5 hp => ?_
        obtain ⟨rfl, q2, rfl⟩ := hp
        refine ⟨_, rfl, fun fa75 fh75 => ?_⟩
        clear fh74 fa74
        refine Kn.step fh75 rfl rfl .none (Kn.ex_un fh75 (.tmp rfl)) fun Ko hKo => ?_
        go_simp
        try go_bits
        refine hKo _ _ fun fa76 fh76 => ?_
        clear hKo Ko fh75 fa75
        refine Kn.pure fh76 rfl rfl .none (Kn.ex_move fh76 (.tmp rfl)) fun fa77 fh77 => ?_
        clear fh76 fa76
        refine Kn.pure fh77 rfl rfl (.some rfl rfl rfl) (Kn.ex_move fh77 (.tmp rfl)) fun fa78 fh78 => ?_
        clear fh77 fa77
        refine Kn.step fh78 rfl rfl (.some rfl rfl rfl) (Kn.ex_bin fh78 (.tmp rfl) .const) fun Ko hKo => ?_
        go_simp
        try go_bits
        refine hKo _ _ fun fa79 fh79 => ?_
        clear hKo Ko fh78 fa78
        refine Kn.pure fh79 rfl rfl (.some rfl rfl rfl) (Kn.ex_move fh79 (.tmp rfl)) fun fa80 fh80 => ?_
        clear fh79 fa79
        refine Kn.pure fh80 rfl rfl (.some rfl rfl rfl) (Kn.ex_move fh80 (.tmp rfl)) fun fa81 fh81 => ?_
        clear fh80 fa80
        refine Kn.pure fh81 rfl rfl (.some rfl rfl rfl) (Kn.ex_move fh81 (.tmp rfl)) fun fa82 fh82 => ?_
        clear fh81 fa81
        refine Kn.step fh82 rfl rfl (.some rfl rfl rfl) (Kn.ex_bin fh82 (.tmp rfl) .const) fun Ko hKo => ?_
        go_simp
        try go_bits
        try simp only [rj]
        refine hKo _ _ fun fa83 fh83 => ?_
        clear hKo Ko fh82 fa82
        refine Kn.step fh83 rfl rfl (.some rfl rfl rfl) (Kn.ex_indexAddr fh83 (.tmp rfl) (.tmp rfl)) fun Ko hKo => ?_
        go_simp
        try go_bits
        refine hKo _ _ fun fa84 fh84 => ?_
        clear hKo Ko fh83 fa83
        refine Kn.step fh84 rfl rfl (.some rfl rfl rfl) (Kn.ex_load fh84 (.tmp rfl)) fun Ko hKo => ?_
        go_simp
        try go_bits
        refine hKo _ _ fun fa85 fh85 => ?_
        clear hKo Ko fh84 fa84
        refine Kn.pure fh85 rfl rfl (.some rfl rfl rfl) (Kn.ex_move fh85 (.tmp rfl)) fun fa86 fh86 => ?_
        clear fh85 fa85
        refine Kn.step fh86 rfl rfl (.some rfl rfl rfl) (Kn.ex_bin fh86 (.tmp rfl) (.tmp rfl)) fun Ko hKo => ?_
        go_simp
        try go_bits
        refine hKo _ _ fun fa87 fh87 => ?_
        clear hKo Ko fh86 fa86
        refine Kn.pure fh87 rfl rfl (.some rfl rfl rfl) (Kn.ex_pick fh87 (.tmp rfl) (.tmp rfl)) fun fa88 fh88 => ?_
        clear fh87 fa87
        refine Kn.pure fh88 rfl rfl .none (Kn.ex_pick fh88 (.tmp rfl) (.tmp rfl)) fun fa89 fh89 => ?_
        clear fh88 fa88
        refine wpList_nil ?_
        refine hK27 _ _ ?_
        clear hK27 K27
        replace fh89 := fh89.cut (.cons (t := 91) rfl (.cons (t := 69) rfl (.cons (t := 68) rfl (.cons (t := 67) rfl (.cons (t := 9) rfl (.cons (t := 5) rfl (.cons (t := 8) rfl (.cons (t := 7) rfl (.cons (t := 0) rfl .nil)))))))))
        refine Kn.no fh89 (.tmp rfl) ?_
        refine wp_skip ?_
        refine Kn.block_normal ?_
        refine hK25 _ _ ?_
        clear hK25 K25
        replace fh89 := fh89.cut (.cons (t := 69) rfl (.cons (t := 68) rfl (.cons (t := 67) rfl (.cons (t := 9) rfl (.cons (t := 5) rfl (.cons (t := 8) rfl (.cons (t := 7) rfl (.cons (t := 0) rfl .nil))))))))
        clear hhx
        refine wp_region_lit ?_
        refine Kn.step fh89 rfl rfl .none (Kn.ex_bin fh89 (.tmp rfl) .const) fun Ko hKo => ?_
        go_simp
        try go_bits
        refine hKo _ _ fun fa90 fh90 => ?_
        clear hKo Ko fh89 fa89
        refine Kn.pure fh90 rfl rfl .none (Kn.ex_move fh90 (.tmp rfl)) fun fa91 fh91 => ?_
        clear fh90 fa90
        refine wpList_nil ?_
        replace fh91 := fh91.cut (.cons (t := 69) rfl (.cons (t := 68) rfl (.cons (t := 67) rfl (.cons (t := 9) rfl (.cons (t := 5) rfl (.cons (t := 8) rfl (.cons (t := 7) rfl (.cons (t := 0) rfl .nil))))))))
        exact hKl22 (m22 - 1) _ _ (by omega) ⟨j + 1, q + q2, fh91.cut (.turn (t := 69) rfl (by go_num) (.cons (t := 68) rfl (.cons (t := 67) rfl (.cons (t := 9) rfl (.cons (t := 5) rfl (.cons (t := 8) rfl (.cons (t := 7) rfl (.cons (t := 0) rfl .nil)))))))), by omega, rfl⟩
      · obtain rfl : j = ts.length := by omega
        refine wp_seq_k fun K23 hK23 => ?_
        refine wp_region_lit ?_
        refine Kn.step fh65 rfl rfl .none (Kn.ex_bin fh65 (.tmp rfl) (.tmp rfl)) fun Ko hKo => ?_
        go_simp
        try go_bits
        refine hKo _ _ fun fa66 fh66 => ?_
        clear hKo Ko fh65 fa65
        refine wpList_nil ?_
        refine hK23 _ _ ?_
        clear hK23 K23
        refine wp_seq_k fun K24 hK24 => ?_
        refine Kn.no fh66 (.tmp rfl) ?_
        replace fh66 := fh66.cut (.cons (t := 69) rfl (.cons (t := 68) rfl (.cons (t := 67) rfl (.cons (t := 9) rfl (.cons (t := 5) rfl (.cons (t := 8) rfl (.cons (t := 7) rfl (.cons (t := 0) rfl .nil))))))))
        refine wp_exit ?_
        refine Kn.then_exit ?_
        clear hK24 K24
        refine Kn.then_exit ?_
        clear hKl22 Kl22
        refine Kn.block_exit ?_
        refine Kn.block_normal ?_
        refine hK15 _ _ ?_
        clear hK15 K15
        replace fh66 := fh66.cut (.cons (t := 5) rfl (.cons (t := 8) rfl (.cons (t := 7) rfl (.cons (t := 0) rfl .nil))))
        refine wp_region_lit ?_
        refine Kn.pure fh66 rfl rfl .none (Kn.ex_move fh66 (.tmp rfl)) fun fa67 fh67 => ?_
        clear fh66 fa66
        refine Kn.step fh67 rfl rfl .none (Kn.ex_bin fh67 (.tmp rfl) .const) fun Ko hKo => ?_
        go_simp
        try go_bits
        refine hKo _ _ fun fa68 fh68 => ?_
        clear hKo Ko fh67 fa67
        refine Kn.pure fh68 rfl rfl .none (Kn.ex_assign fh68 (.tmp rfl)) fun fa69 fh69 => ?_
        clear fh68 fa68
        refine wpList_nil ?_
        replace fh69 := fh69.cut (.cons (t := 8) rfl (.cons (t := 5) rfl (.cons (t := 7) rfl (.cons (t := 0) rfl .nil))))
        exact hKl12 (m12 - 1) _ _ (by omega) ⟨k + 1, fh69.cut (.turn (t := 8) rfl (by go_num) (.turn (t := 7) rfl (by rw [← HSb.out]; rfl) (.cons (t := 0) rfl (.cons (t := 5) rfl .nil)))), by omega, Lib.hid (HB3.out.trans ⟨rfl, rfl, rfl, Nat.le_refl _, fun _ _ => rfl⟩)⟩
    · obtain rfl : k = N := by omega
      have hE := edges_any u _ g k ys (HR.out.on HB.out)
      have hG := begin_in k u _ g k ys (HR.out.on HB.out) (Nat.le_refl _)
      rw [bgn_N HR.out.good] at hG fh19
      refine wp_seq_k fun K13 hK13 => ?_
      refine wp_seq_k fun K14 hK14 => ?_
      refine wp_region_lit ?_
      refine Kn.pure fh19 rfl rfl .none (Kn.ex_move fh19 (.tmp rfl)) fun fa20 fh20 => ?_
      clear fh19 fa19
      refine Kn.pure fh20 rfl rfl .none (Kn.ex_move fh20 (.tmp rfl)) fun fa21 fh21 => ?_
      clear fh20 fa20
      refine Kn.step fh21 rfl rfl .none (Kn.ex_bin fh21 (.tmp rfl) (.tmp rfl)) fun Ko hKo => ?_
      go_simp
      try go_bits
      refine hKo _ _ fun fa22 fh22 => ?_
      clear hKo Ko fh21 fa21
      refine wpList_nil ?_
      refine hK14 _ _ ?_
      clear hK14 K14
      replace fh22 := fh22.cut (.cons (t := 30) rfl (.cons (t := 8) rfl (.cons (t := 7) rfl (.cons (t := 0) rfl (.cons (t := 5) rfl .nil)))))
      refine Kn.no fh22 (.tmp rfl) ?_
      replace fh22 := fh22.cut (.cons (t := 8) rfl (.cons (t := 7) rfl (.cons (t := 0) rfl (.cons (t := 5) rfl .nil))))
      refine wp_exit ?_
      refine Kn.then_exit ?_
      clear hK13 K13
      refine Kn.then_exit ?_
      clear hKl12 Kl12
      refine Kn.block_exit ?_
      refine hK10 _ _ ?_
      clear hK10 K10
      replace fh22 := fh22.cut (.cons (t := 7) rfl (.cons (t := 0) rfl (.cons (t := 5) rfl .nil)))
      refine wp_seq_k fun K15 hK15 => ?_
      refine wp_region_lit ?_
      refine Kn.pure fh22 rfl rfl .none (Kn.ex_move fh22 (.tmp rfl)) fun fa23 fh23 => ?_
      clear fh22 fa22
      refine Kn.pure fh23 rfl rfl .none (Kn.ex_move fh23 (.tmp rfl)) fun fa24 fh24 => ?_
      clear fh23 fa23
      refine Kn.call fh24 rfl rfl .none (Kn.ex_call fh24 (.cons (.tmp rfl) .nil)) Try.call13 (hE) fun e w4 hp => ?_
      obtain ⟨rfl, rfl⟩ := hp
      refine ⟨_, rfl, fun fa25 fh25 => ?_⟩
      clear fh24 fa24
      refine Kn.step fh25 rfl rfl .none (Kn.ex_bin fh25 (.tmp rfl) (.tmp rfl)) fun Ko hKo => ?_
      go_simp
      try go_bits
      refine hKo _ _ fun fa26 fh26 => ?_
      clear hKo Ko fh25 fa25
      refine Kn.pure fh26 rfl rfl .none (Kn.ex_move fh26 (.tmp rfl)) fun fa27 fh27 => ?_
      clear fh26 fa26
      refine Kn.pure fh27 rfl rfl (.some rfl rfl rfl) (Kn.ex_move fh27 (.tmp rfl)) fun fa28 fh28 => ?_
      clear fh27 fa27
      refine Kn.pure fh28 rfl rfl (.some rfl rfl rfl) (Kn.ex_move fh28 (.tmp rfl)) fun fa29 fh29 => ?_
      clear fh28 fa28
      refine Kn.call fh29 rfl rfl (.some rfl rfl rfl) (Kn.ex_call fh29 (.cons (.tmp rfl) (.cons (.tmp rfl) .nil))) Try.call11 (hG) fun e w5 hp => ?_
      obtain ⟨rfl, rfl⟩ := hp
      refine ⟨_, rfl, fun fa30 fh30 => ?_⟩
      clear fh29 fa29
      refine Kn.pure fh30 rfl rfl (.some rfl rfl rfl) (Kn.ex_move fh30 (.tmp rfl)) fun fa31 fh31 => ?_
      clear fh30 fa30
      refine Kn.step fh31 rfl rfl (.some rfl rfl rfl) (Kn.ex_bin fh31 (.tmp rfl) (.tmp rfl)) fun Ko hKo => ?_
      go_simp
      try go_bits
      refine hKo _ _ fun fa32 fh32 => ?_
      clear hKo Ko fh31 fa31
      refine Kn.pure fh32 rfl rfl .none (Kn.ex_pick fh32 (.tmp rfl) (.tmp rfl)) fun fa33 fh33 => ?_
      clear fh32 fa32
      refine Kn.pure fh33 rfl rfl .none (Kn.ex_assign fh33 (.tmp rfl)) fun fa34 fh34 => ?_
      clear fh33 fa33
      refine wpList_nil ?_
      refine hK15 _ _ ?_
      clear hK15 K15
      replace fh34 := fh34.cut (.cons (t := 4) rfl .nil)
      refine wp_ret ?_
      exact Kn.ret1 fh34 rfl rfl ⟨by simp, HB2.out.trans (HB.out.mono HB2.out.size)⟩
  · have hn := build_no n A ca xs w1 HA1.out hg
    unfold faultV at hn
    refine wp_seq_k fun K6 hK6 => ?_
    refine wp_region_lit ?_
    refine Kn.pure fh6 rfl rfl .none (Kn.ex_move fh6 (.tmp rfl)) fun fa7 fh7 => ?_
    clear fh6 fa6
    refine Kn.pure fh7 rfl rfl .none (Kn.ex_move fh7 (.tmp rfl)) fun fa8 fh8 => ?_
    clear fh7 fa7
    refine Kn.call fh8 rfl rfl .none (Kn.ex_call fh8 (.cons (.tmp rfl) (.cons (.tmp rfl) .nil))) Try.call6 (hn) fun e w2 hp => ?_
    obtain ⟨rfl, hb2⟩ := hp
    refine ⟨_, rfl, fun fa9 fh9 => ?_⟩
    clear fh8 fa8
    refine Kn.pure fh9 rfl rfl .none (Kn.ex_move fh9 (.tmp rfl)) fun fa10 fh10 => ?_
    clear fh9 fa9
    refine Kn.pure fh10 rfl rfl .none (Kn.ex_extract fh10 (.tmp rfl) rfl) fun fa11 fh11 => ?_
    clear fh10 fa10
    refine Kn.pure fh11 rfl rfl .none (Kn.ex_extract fh11 (.tmp rfl) rfl) fun fa12 fh12 => ?_
    clear fh11 fa11
    refine Kn.pure fh12 rfl rfl .none (Kn.ex_assign fh12 (.tmp rfl)) fun fa13 fh13 => ?_
    clear fh12 fa12
    refine Kn.pure fh13 rfl rfl .none (Kn.ex_assign fh13 (.tmp rfl)) fun fa14 fh14 => ?_
    clear fh13 fa13
    refine wpList_nil ?_
    refine hK6 _ _ ?_
    clear hK6 K6
    replace fh14 := fh14.cut (.cons (t := 6) rfl (.cons (t := 5) rfl (.cons (t := 4) rfl (.cons (t := 0) rfl .nil))))
    refine wp_seq_k fun K7 hK7 => ?_
    refine wp_seq_k fun K8 hK8 => ?_
    refine wp_region_lit ?_
    refine Kn.pure fh14 rfl rfl .none (Kn.ex_move fh14 (.tmp rfl)) fun fa15 fh15 => ?_
    clear fh14 fa14
    refine Kn.step fh15 rfl rfl .none (Kn.ex_bin fh15 (.tmp rfl) .const) fun Ko hKo => ?_
    go_simp
    try go_bits
    refine hKo _ _ fun fa16 fh16 => ?_
    clear hKo Ko fh15 fa15
    refine wpList_nil ?_
    refine hK8 _ _ ?_
    clear hK8 K8
    replace fh16 := fh16.cut (.cons (t := 27) rfl (.cons (t := 5) rfl (.cons (t := 4) rfl (.cons (t := 0) rfl .nil))))
    refine Kn.yes fh16 (.tmp rfl) ?_
    replace fh16 := fh16.cut (.cons (t := 5) rfl (.cons (t := 4) rfl (.cons (t := 0) rfl .nil)))
    refine wp_seq_k fun K9 hK9 => ?_
    refine wp_region_lit ?_
    refine Kn.pure fh16 rfl rfl .none (Kn.ex_assign fh16 .const) fun fa17 fh17 => ?_
    clear fh16 fa16
    refine wpList_nil ?_
    refine hK9 _ _ ?_
    clear hK9 K9
    refine wp_ret ?_
    refine Kn.then_ret ?_
    exact Kn.ret1 fh17 rfl rfl ⟨rfl, HB1.out.trans (hb2.mono HB1.out.size)⟩

end Go.Proofs.Ytinjecaanjeapaa.Csr
