/- The law CsrRows, walked (written by gen_crows.py). -/
import Derived.Test.YtinjecaanjeapaaDoorCsrW
import Derived.Test.YtinjecaanjeapaaDoorRef04N
import Derived.Test.YtinjecaanjeapaaDoorErrCode
namespace Go.Proofs.YtinjecaanjeapaaDoor.Csr
open Go Go.RowKit Go.Lib Edg Num


set_option maxRecDepth 100000 in
set_option maxHeartbeats 2000000 in
theorem rows_all (n : Int) (A : Option Addr) (ca : Nat) (xs : List (Int × Int)) (v t : Int) (w : World) (hT : Err.ErrTab w) (hx : xs.length ≤ maxLen) (hA : EIn w A xs) :
    Calls Tryd.prog 3 #[.int .i64 n, .slice A xs.length ca, .agg #[.int .i64 v, .int .i64 t]] w fun e w' => e = .returned (.bool true) ∧ Below w.heap.size w w' := by
  unfold maxLen at hx
  refine Kn.calls Tryd.func3 rfl Tryd.ntmps3 rfl (.cons (t := 0) rfl (.cons (t := 1) rfl (.cons (t := 2) rfl .nil))) fun fa0 fh0 => ?_
  refine wp_seq_k fun K1 hK1 => ?_
  refine wp_region_lit ?_
  refine Kn.step fh0 rfl rfl .none (Kn.ex_box fh0 (.tmp rfl)) fun Ko hKo => ?_
  go_simp
  try go_bits
  refine hKo _ _ fun fa1 fh1 => ?_
  clear hKo Ko fh0 fa0
  refine Kn.pure fh1 rfl rfl .none (Kn.ex_assign fh1 .const) fun fa2 fh2 => ?_
  clear fh1 fa1
  refine wpList_nil ?_
  refine hK1 _ _ ?_
  clear hK1 K1
  replace fh2 := fh2.cut (.cons (t := 6) rfl (.cons (t := 5) rfl (.cons (t := 0) rfl (.cons (t := 1) rfl .nil))))
  refine Kn.gen (fun u => u.cell? ⟨w.heap.size, 0, none⟩ = some (.int .i64 v) ∧ u.cell? ⟨w.heap.size, 1, none⟩ = some (.int .i64 t) ∧ Below w.heap.size w u ∧ w.heap.size < u.heap.size) ⟨(St.St.new _ _ _).cell 0 rfl, (St.St.new _ _ _).cell 1 rfl, (Below.refl _ w).alloc (Nat.le_refl _) _, by simp⟩ fun w0 hu => ?_
  obtain ⟨cv, ct, hb0, hlt0⟩ := hu
  refine wp_seq_k fun K2 hK2 => ?_
  refine wp_seq_k fun K3 hK3 => ?_
  refine wp_region_lit ?_
  refine Kn.call fh2 rfl rfl .none (Kn.ex_call fh2 .nil) Tryd.call5 (awake5 w0) fun e w1 hp => ?_
  obtain ⟨rfl, hb1⟩ := hp
  refine ⟨_, rfl, fun fa3 fh3 => ?_⟩
  clear fh2 fa2
  refine Kn.step fh3 rfl rfl .none (Kn.ex_un fh3 (.tmp rfl)) fun Ko hKo => ?_
  go_simp
  try go_bits
  refine hKo _ _ fun fa4 fh4 => ?_
  clear hKo Ko fh3 fa3
  refine wpList_nil ?_
  refine hK3 _ _ ?_
  clear hK3 K3
  replace fh4 := fh4.cut (.cons (t := 19) rfl (.cons (t := 6) rfl (.cons (t := 5) rfl (.cons (t := 0) rfl (.cons (t := 1) rfl .nil)))))
  refine Kn.no fh4 (.tmp rfl) ?_
  refine wp_skip ?_
  refine hK2 _ _ ?_
  clear hK2 K2
  replace fh4 := fh4.cut (.cons (t := 6) rfl (.cons (t := 5) rfl (.cons (t := 0) rfl (.cons (t := 1) rfl .nil))))
  replace cv := (hb1.cell (p := ⟨w.heap.size, 0, none⟩) hlt0).trans cv
  replace ct := (hb1.cell (p := ⟨w.heap.size, 1, none⟩) hlt0).trans ct
  have hb01 := hb0.trans (hb1.mono hb0.size)
  clear hb0 hb1 hlt0
  refine wp_seq_k fun K4 hK4 => ?_
  refine Kn.still (by kernel_rfl) (by kernel_rfl) ?_
  refine Kn.sstep fh4 rfl rfl .none (Kn.ex_indexAddr fh4 (.tmp rfl) .const) fun Ko hKo => ?_
  go_simp
  try go_bits
  refine hKo _ fun fa5 fh5 => ?_
  clear hKo Ko fh4 fa4
  refine Kn.sstep fh5 rfl rfl .none (Kn.ex_load fh5 (.tmp rfl)) fun Ko hKo => ?_
  go_simp
  try go_bits
  refine hKo _ fun fa6 fh6 => ?_
  clear hKo Ko fh5 fa5
  refine Kn.sstep fh6 rfl rfl .none (Kn.ex_indexAddr fh6 (.tmp rfl) .const) fun Ko hKo => ?_
  go_simp
  try go_bits
  refine hKo _ fun fa7 fh7 => ?_
  clear hKo Ko fh6 fa6
  refine Kn.sstep fh7 rfl rfl .none (Kn.ex_load fh7 (.tmp rfl)) fun Ko hKo => ?_
  go_simp
  try go_bits
  refine hKo _ fun fa8 fh8 => ?_
  clear hKo Ko fh7 fa7
  refine Kn.spure fh8 rfl rfl .none (Kn.ex_assign fh8 (.tmp rfl)) fun fa9 fh9 => ?_
  clear fh8 fa8
  refine Kn.spure fh9 rfl rfl .none (Kn.ex_assign fh9 (.tmp rfl)) fun fa10 fh10 => ?_
  clear fh9 fa9
  refine wpStill_nil ?_
  refine hK4 _ _ ?_
  clear hK4 K4
  replace fh10 := fh10.cut (.cons (t := 8) rfl (.cons (t := 7) rfl (.cons (t := 6) rfl (.cons (t := 0) rfl (.cons (t := 1) rfl .nil)))))
  refine Kn.gen (fun u => EIn u A xs ∧ Err.ErrTab u ∧ Below w.heap.size w u) ⟨(hA.on hb01).drew, hT.on hb01.drew, hb01.drew⟩ fun w2 hu => ?_
  obtain ⟨hA2, hT2, hB2⟩ := hu
  have HA2 := Lib.hid hA2
  have HT2 := Lib.hid hT2
  have HB2 := Lib.hid hB2
  clear cv ct hb01 hA hT hA2 hT2 hB2 w1 w0
  by_cases h1 : (200 : Int) < (xs.length : Int)
  · refine wp_seq_k fun K5 hK5 => ?_
    refine wp_seq_k fun K6 hK6 => ?_
    refine wp_region_lit ?_
    refine Kn.pure fh10 rfl rfl .none (Kn.ex_move fh10 (.tmp rfl)) fun fa11 fh11 => ?_
    clear fh10 fa10
    refine Kn.step fh11 rfl rfl .none (Kn.ex_len fh11 (.tmp rfl)) fun Ko hKo => ?_
    go_simp
    try go_bits
    refine hKo _ _ fun fa12 fh12 => ?_
    clear hKo Ko fh11 fa11
    refine Kn.step fh12 rfl rfl .none (Kn.ex_bin fh12 (.tmp rfl) .const) fun Ko hKo => ?_
    go_simp
    try go_bits
    refine hKo _ _ fun fa13 fh13 => ?_
    clear hKo Ko fh12 fa12
    refine wpList_nil ?_
    refine hK6 _ _ ?_
    clear hK6 K6
    replace fh13 := fh13.cut (.cons (t := 26) rfl (.cons (t := 8) rfl (.cons (t := 7) rfl (.cons (t := 6) rfl (.cons (t := 0) rfl (.cons (t := 1) rfl .nil))))))
    refine Kn.yes fh13 (.tmp rfl) ?_
    replace fh13 := fh13.cut (.cons (t := 8) rfl (.cons (t := 7) rfl (.cons (t := 6) rfl (.cons (t := 0) rfl (.cons (t := 1) rfl .nil)))))
    refine wp_seq_k fun K7 hK7 => ?_
    refine wp_region_lit ?_
    refine Kn.pure fh13 rfl rfl .none (Kn.ex_assign fh13 .const) fun fa14 fh14 => ?_
    clear fh13 fa13
    refine wpList_nil ?_
    refine hK7 _ _ ?_
    clear hK7 K7
    refine wp_ret ?_
    refine Kn.then_ret ?_
    exact Kn.ret1 fh14 rfl rfl ⟨rfl, HB2.out⟩
  refine wp_seq_k fun K5 hK5 => ?_
  refine wp_seq_k fun K6 hK6 => ?_
  refine wp_region_lit ?_
  refine Kn.pure fh10 rfl rfl .none (Kn.ex_move fh10 (.tmp rfl)) fun fa11 fh11 => ?_
  clear fh10 fa10
  refine Kn.step fh11 rfl rfl .none (Kn.ex_len fh11 (.tmp rfl)) fun Ko hKo => ?_
  go_simp
  try go_bits
  refine hKo _ _ fun fa12 fh12 => ?_
  clear hKo Ko fh11 fa11
  refine Kn.step fh12 rfl rfl .none (Kn.ex_bin fh12 (.tmp rfl) .const) fun Ko hKo => ?_
  go_simp
  try go_bits
  refine hKo _ _ fun fa13 fh13 => ?_
  clear hKo Ko fh12 fa12
  refine wpList_nil ?_
  refine hK6 _ _ ?_
  clear hK6 K6
  replace fh13 := fh13.cut (.cons (t := 26) rfl (.cons (t := 8) rfl (.cons (t := 7) rfl (.cons (t := 6) rfl (.cons (t := 0) rfl (.cons (t := 1) rfl .nil))))))
  refine Kn.no fh13 (.tmp rfl) ?_
  refine wp_skip ?_
  refine hK5 _ _ ?_
  clear hK5 K5
  replace fh13 := fh13.cut (.cons (t := 8) rfl (.cons (t := 7) rfl (.cons (t := 6) rfl (.cons (t := 0) rfl (.cons (t := 1) rfl .nil)))))
  have hxs : xs.length ≤ 200 := by omega
  clear h1 hx
  by_cases hg : Edg.Good n xs
  · obtain ⟨N, rfl⟩ := Int.eq_ofNat_of_zero_le hg.lo
    have hbu := build_yes N A ca xs w2 HA2.out hg
    refine wp_seq_k fun K7 hK7 => ?_
    refine wp_region_lit ?_
    refine Kn.pure fh13 rfl rfl .none (Kn.ex_move fh13 (.tmp rfl)) fun fa14 fh14 => ?_
    clear fh13 fa13
    refine Kn.pure fh14 rfl rfl .none (Kn.ex_move fh14 (.tmp rfl)) fun fa15 fh15 => ?_
    clear fh14 fa14
    refine Kn.call fh15 rfl rfl .none (Kn.ex_call fh15 (.cons (.tmp rfl) (.cons (.tmp rfl) .nil))) Tryd.call6 (hbu) fun e w3 hp => ?_
    obtain ⟨g, ys, rfl, hNo, hR, hb3⟩ := hp
    refine ⟨_, rfl, fun fa16 fh16 => ?_⟩
    clear fh15 fa15
    refine Kn.pure fh16 rfl rfl .none (Kn.ex_move fh16 (.tmp rfl)) fun fa17 fh17 => ?_
    clear fh16 fa16
    refine Kn.pure fh17 rfl rfl .none (Kn.ex_extract fh17 (.tmp rfl) rfl) fun fa18 fh18 => ?_
    clear fh17 fa17
    refine Kn.pure fh18 rfl rfl .none (Kn.ex_extract fh18 (.tmp rfl) rfl) fun fa19 fh19 => ?_
    clear fh18 fa18
    refine Kn.pure fh19 rfl rfl .none (Kn.ex_assign fh19 (.tmp rfl)) fun fa20 fh20 => ?_
    clear fh19 fa19
    refine Kn.pure fh20 rfl rfl .none (Kn.ex_assign fh20 (.tmp rfl)) fun fa21 fh21 => ?_
    clear fh20 fa20
    refine wpList_nil ?_
    refine hK7 _ _ ?_
    clear hK7 K7
    replace fh21 := fh21.cut (.cons (t := 10) rfl (.cons (t := 9) rfl (.cons (t := 8) rfl (.cons (t := 7) rfl (.cons (t := 6) rfl (.cons (t := 0) rfl (.cons (t := 1) rfl .nil)))))))
    have hN4 := hR.hi
    have hL4 := hR.len
    have HR3 := Lib.hid hR
    have HN := Lib.hid hNo
    have HA3 := Lib.hid (HA2.out.on hb3)
    have HT3 := Lib.hid (HT2.out.on hb3)
    have HB3 := Lib.hid (HB2.out.trans (hb3.mono HB2.out.size))
    have hw := wrong_p (N : Int) A ca xs w3 HA3.out
    rw [(wrongP_good (N : Int) xs).2 hg] at hw
    clear hR hNo hb3 HA2 HT2 HB2 hbu hg
    refine wp_seq_k fun K8 hK8 => ?_
    refine wp_seq_k fun K9 hK9 => ?_
    refine wp_region_lit ?_
    refine Kn.pure fh21 rfl rfl .none (Kn.ex_move fh21 (.tmp rfl)) fun fa22 fh22 => ?_
    clear fh21 fa21
    refine Kn.pure fh22 rfl rfl .none (Kn.ex_move fh22 (.tmp rfl)) fun fa23 fh23 => ?_
    clear fh22 fa22
    refine Kn.call fh23 rfl rfl .none (Kn.ex_call fh23 (.cons (.tmp rfl) (.cons (.tmp rfl) .nil))) Tryd.call7 (hw) fun e w4 hp => ?_
    obtain ⟨rfl, rfl⟩ := hp
    refine ⟨_, rfl, fun fa24 fh24 => ?_⟩
    clear fh23 fa23
    refine Kn.pure fh24 rfl rfl .none (Kn.ex_assign fh24 (.tmp rfl)) fun fa25 fh25 => ?_
    clear fh24 fa24
    refine wpList_nil ?_
    refine hK9 _ _ ?_
    clear hK9 K9
    replace fh25 := fh25.cut (.cons (t := 11) rfl (.cons (t := 10) rfl (.cons (t := 9) rfl (.cons (t := 8) rfl (.cons (t := 7) rfl (.cons (t := 6) rfl (.cons (t := 0) rfl (.cons (t := 1) rfl .nil))))))))
    clear hw
    have hr := refNorm_any A ca xs w3 (by omega) HA3.out
    unfold NormRet at hr
    refine wp_seq_k fun K10 hK10 => ?_
    refine wp_region_lit ?_
    refine Kn.pure fh25 rfl rfl .none (Kn.ex_move fh25 (.tmp rfl)) fun fa26 fh26 => ?_
    clear fh25 fa25
    refine Kn.step fh26 rfl rfl .none (Kn.ex_bin fh26 (.tmp rfl) .const) fun Ko hKo => ?_
    go_simp
    try go_bits
    refine hKo _ _ fun fa27 fh27 => ?_
    clear hKo Ko fh26 fa26
    refine wpList_nil ?_
    refine hK10 _ _ ?_
    clear hK10 K10
    replace fh27 := fh27.cut (.cons (t := 37) rfl (.cons (t := 11) rfl (.cons (t := 10) rfl (.cons (t := 9) rfl (.cons (t := 8) rfl (.cons (t := 7) rfl (.cons (t := 6) rfl (.cons (t := 0) rfl (.cons (t := 1) rfl .nil)))))))))
    refine Kn.no fh27 (.tmp rfl) ?_
    refine wp_skip ?_
    refine hK8 _ _ ?_
    clear hK8 K8
    replace fh27 := fh27.cut (.cons (t := 10) rfl (.cons (t := 9) rfl (.cons (t := 8) rfl (.cons (t := 7) rfl (.cons (t := 6) rfl (.cons (t := 0) rfl (.cons (t := 1) rfl .nil)))))))
    refine wp_seq_k fun K11 hK11 => ?_
    refine wp_region_lit ?_
    refine Kn.pure fh27 rfl rfl .none (Kn.ex_move fh27 (.tmp rfl)) fun fa28 fh28 => ?_
    clear fh27 fa27
    refine Kn.call fh28 rfl rfl .none (Kn.ex_call fh28 (.cons (.tmp rfl) .nil)) Tryd.call10 (hr) fun e w4 hp => ?_
    obtain ⟨gz, m, cap, zs, rfl, hm, hNz, hEz, hb4, hgz⟩ := hp
    refine ⟨_, rfl, fun fa29 fh29 => ?_⟩
    clear fh28 fa28
    refine Kn.pure fh29 rfl rfl .none (Kn.ex_assign fh29 (.tmp rfl)) fun fa30 fh30 => ?_
    clear fh29 fa29
    refine wpList_nil ?_
    refine hK11 _ _ ?_
    clear hK11 K11
    replace fh30 := fh30.cut (.cons (t := 12) rfl (.cons (t := 10) rfl (.cons (t := 9) rfl (.cons (t := 8) rfl (.cons (t := 7) rfl (.cons (t := 6) rfl (.cons (t := 0) rfl .nil)))))))
    subst hm
    obtain rfl : ys = zs := HN.out.unique hNz
    have HE4 := Lib.hid hEz
    have HR4 := Lib.hid (HR3.out.on hb4)
    have HT4 := Lib.hid (HT3.out.on hb4)
    have HB4 := Lib.hid (HB3.out.trans (hb4.mono HB3.out.size))
    have hno := nodes_any w4 _ g N ys HR4.out
    have hed := edges_any w4 _ g N ys HR4.out
    have hli := list_any w4 _ g N ys HR4.out
    clear hr hNz hEz hb4 hgz HR3 HT3 HB3 HA3
    refine wp_seq_k fun K12 hK12 => ?_
    refine wp_seq_k fun K13 hK13 => ?_
    refine wp_region_lit ?_
    refine Kn.pure fh30 rfl rfl .none (Kn.ex_move fh30 (.tmp rfl)) fun fa31 fh31 => ?_
    clear fh30 fa30
    refine Kn.step fh31 rfl rfl .none (Kn.ex_bin fh31 (.tmp rfl) .const) fun Ko hKo => ?_
    go_simp
    try go_bits
    refine hKo _ _ fun fa32 fh32 => ?_
    clear hKo Ko fh31 fa31
    refine Kn.pure fh32 rfl rfl .none (Kn.ex_move fh32 (.tmp rfl)) fun fa33 fh33 => ?_
    clear fh32 fa32
    refine Kn.pure fh33 rfl rfl (.some rfl rfl rfl) (Kn.ex_move fh33 (.tmp rfl)) fun fa34 fh34 => ?_
    clear fh33 fa33
    refine Kn.call fh34 rfl rfl (.some rfl rfl rfl) (Kn.ex_call fh34 (.cons (.tmp rfl) .nil)) Tryd.call11 (hno) fun e w5 hp => ?_
    obtain ⟨rfl, rfl⟩ := hp
    refine ⟨_, rfl, fun fa35 fh35 => ?_⟩
    clear fh34 fa34
    refine Kn.pure fh35 rfl rfl (.some rfl rfl rfl) (Kn.ex_move fh35 (.tmp rfl)) fun fa36 fh36 => ?_
    clear fh35 fa35
    refine Kn.step fh36 rfl rfl (.some rfl rfl rfl) (Kn.ex_bin fh36 (.tmp rfl) (.tmp rfl)) fun Ko hKo => ?_
    go_simp
    try go_bits
    refine hKo _ _ fun fa37 fh37 => ?_
    clear hKo Ko fh36 fa36
    refine Kn.pure fh37 rfl rfl .none (Kn.ex_pick fh37 (.tmp rfl) (.tmp rfl)) fun fa38 fh38 => ?_
    clear fh37 fa37
    refine Kn.pure fh38 rfl rfl .none (Kn.ex_move fh38 (.tmp rfl)) fun fa39 fh39 => ?_
    clear fh38 fa38
    refine Kn.pure fh39 rfl rfl (.some rfl rfl rfl) (Kn.ex_move fh39 (.tmp rfl)) fun fa40 fh40 => ?_
    clear fh39 fa39
    refine Kn.call fh40 rfl rfl (.some rfl rfl rfl) (Kn.ex_call fh40 (.cons (.tmp rfl) .nil)) Tryd.call12 (hed) fun e w5 hp => ?_
    obtain ⟨rfl, rfl⟩ := hp
    refine ⟨_, rfl, fun fa41 fh41 => ?_⟩
    clear fh40 fa40
    refine Kn.pure fh41 rfl rfl (.some rfl rfl rfl) (Kn.ex_move fh41 (.tmp rfl)) fun fa42 fh42 => ?_
    clear fh41 fa41
    refine Kn.step fh42 rfl rfl (.some rfl rfl rfl) (Kn.ex_len fh42 (.tmp rfl)) fun Ko hKo => ?_
    go_simp
    try go_bits
    refine hKo _ _ fun fa43 fh43 => ?_
    clear hKo Ko fh42 fa42
    refine Kn.step fh43 rfl rfl (.some rfl rfl rfl) (Kn.ex_bin fh43 (.tmp rfl) (.tmp rfl)) fun Ko hKo => ?_
    go_simp
    try go_bits
    refine hKo _ _ fun fa44 fh44 => ?_
    clear hKo Ko fh43 fa43
    refine Kn.pure fh44 rfl rfl .none (Kn.ex_pick fh44 (.tmp rfl) (.tmp rfl)) fun fa45 fh45 => ?_
    clear fh44 fa44
    refine Kn.pure fh45 rfl rfl .none (Kn.ex_move fh45 (.tmp rfl)) fun fa46 fh46 => ?_
    clear fh45 fa45
    refine Kn.pure fh46 rfl rfl (.some rfl rfl rfl) (Kn.ex_move fh46 (.tmp rfl)) fun fa47 fh47 => ?_
    clear fh46 fa46
    refine Kn.call fh47 rfl rfl (.some rfl rfl rfl) (Kn.ex_call fh47 (.cons (.tmp rfl) .nil)) Tryd.call14 (hli) fun e w5 hp => ?_
    obtain ⟨gl, nl, cl, rfl, hO, hb5⟩ := hp
    refine ⟨_, rfl, fun fa48 fh48 => ?_⟩
    clear fh47 fa47
    have hnl := hO.1
    subst hnl
    have HE5 := Lib.hid (HE4.out.on hb5)
    have HR5 := Lib.hid (HR4.out.on hb5)
    have HT5 := Lib.hid (HT4.out.on hb5)
    have HB5 := Lib.hid (HB4.out.trans (hb5.mono HB4.out.size))
    have hs := same_any (some ⟨gl, 0, none⟩) (some ⟨gz, 0, none⟩) cl cap ys ys w5 (by unfold maxLen; omega) (by unfold maxLen; omega) hO.ein HE5.out
    rw [decide_eq_true rfl] at hs
    clear hO hb5 hno hed hli HE4 HR4 HT4 HB4
    refine Kn.pure fh48 rfl rfl (.some rfl rfl rfl) (Kn.ex_move fh48 (.tmp rfl)) fun fa49 fh49 => ?_
    clear fh48 fa48
    refine Kn.call fh49 rfl rfl (.some rfl rfl rfl) (Kn.ex_call fh49 (.cons (.tmp rfl) (.cons (.tmp rfl) .nil))) Tryd.call13 (hs) fun e w6 hp => ?_
    obtain ⟨rfl, q1, rfl⟩ := hp
    refine ⟨_, rfl, fun fa50 fh50 => ?_⟩
    clear fh49 fa49
    refine Kn.step fh50 rfl rfl (.some rfl rfl rfl) (Kn.ex_un fh50 (.tmp rfl)) fun Ko hKo => ?_
    go_simp
    try go_bits
    refine hKo _ _ fun fa51 fh51 => ?_
    clear hKo Ko fh50 fa50
    refine Kn.pure fh51 rfl rfl .none (Kn.ex_pick fh51 (.tmp rfl) (.tmp rfl)) fun fa52 fh52 => ?_
    clear fh51 fa51
    refine wpList_nil ?_
    refine hK13 _ _ ?_
    clear hK13 K13
    replace fh52 := fh52.cut (.cons (t := 74) rfl (.cons (t := 12) rfl (.cons (t := 9) rfl (.cons (t := 8) rfl (.cons (t := 7) rfl (.cons (t := 6) rfl (.cons (t := 0) rfl .nil)))))))
    refine Kn.no fh52 (.tmp rfl) ?_
    refine wp_skip ?_
    refine hK12 _ _ ?_
    clear hK12 K12
    replace fh52 := fh52.cut (.cons (t := 12) rfl (.cons (t := 9) rfl (.cons (t := 8) rfl (.cons (t := 7) rfl (.cons (t := 6) rfl (.cons (t := 0) rfl .nil))))))
    refine Kn.gen (fun u => EIn u (some ⟨gz, 0, none⟩) ys ∧ Rep u w2.heap.size g N ys ∧ Err.ErrTab u ∧ Below w.heap.size w u) ⟨HE5.out, ⟨HR5.out.srt, HR5.out.good, HR5.out.mem⟩, HT5.out, ⟨HB5.out.1, HB5.out.2, HB5.out.3, HB5.out.4, HB5.out.5⟩⟩ fun w7 hu => ?_
    obtain ⟨hE7, hR7, hT7, hB7⟩ := hu
    have HE7 := Lib.hid hE7
    have HR7 := Lib.hid hR7
    have HT7 := Lib.hid hT7
    have HB7 := Lib.hid hB7
    clear hE7 hR7 hT7 hB7 HE5 HR5 HT5 HB5 hs w5
    have hbe := fun u h => begin_any v u w2.heap.size g N ys h
    have hrb := fun u h => refBegin_any (some ⟨gz, 0, none⟩) cap ys v u (by omega) h
    have HBe := Lib.hid hbe
    have HRb := Lib.hid hrb
    clear hbe hrb
    by_cases hv : v < 0 ∨ (N : Int) ≤ v
    · have ht := targets_bad v w7 _ g N ys HR7.out hv
      have hd := degree_bad v w7 _ g N ys HR7.out hv
      have hh := fun u h => has_bad v t u w2.heap.size g N ys h hv
      unfold errV at ht hd
      have HH := Lib.hid hh
      clear hh
      refine wp_seq_k fun K14 hK14 => ?_
      refine wp_region_lit ?_
      refine Kn.pure fh52 rfl rfl .none (Kn.ex_move fh52 (.tmp rfl)) fun fa53 fh53 => ?_
      clear fh52 fa52
      refine Kn.pure fh53 rfl rfl .none (Kn.ex_move fh53 (.tmp rfl)) fun fa54 fh54 => ?_
      clear fh53 fa53
      refine Kn.call fh54 rfl rfl .none (Kn.ex_call fh54 (.cons (.tmp rfl) (.cons (.tmp rfl) .nil))) Tryd.call15 (ht) fun e w8 hp => ?_
      obtain ⟨rfl, rfl⟩ := hp
      refine ⟨_, rfl, fun fa55 fh55 => ?_⟩
      clear fh54 fa54
      refine Kn.pure fh55 rfl rfl .none (Kn.ex_move fh55 (.tmp rfl)) fun fa56 fh56 => ?_
      clear fh55 fa55
      refine Kn.pure fh56 rfl rfl .none (Kn.ex_extract fh56 (.tmp rfl) rfl) fun fa57 fh57 => ?_
      clear fh56 fa56
      refine Kn.pure fh57 rfl rfl .none (Kn.ex_extract fh57 (.tmp rfl) rfl) fun fa58 fh58 => ?_
      clear fh57 fa57
      refine Kn.pure fh58 rfl rfl .none (Kn.ex_assign fh58 (.tmp rfl)) fun fa59 fh59 => ?_
      clear fh58 fa58
      refine Kn.pure fh59 rfl rfl .none (Kn.ex_assign fh59 (.tmp rfl)) fun fa60 fh60 => ?_
      clear fh59 fa59
      refine wpList_nil ?_
      refine hK14 _ _ ?_
      clear hK14 K14
      replace fh60 := fh60.cut (.cons (t := 14) rfl (.cons (t := 13) rfl (.cons (t := 12) rfl (.cons (t := 9) rfl (.cons (t := 8) rfl (.cons (t := 7) rfl (.cons (t := 6) rfl (.cons (t := 0) rfl .nil))))))))
      refine wp_seq_k fun K15 hK15 => ?_
      refine wp_region_lit ?_
      refine Kn.pure fh60 rfl rfl .none (Kn.ex_move fh60 (.tmp rfl)) fun fa61 fh61 => ?_
      clear fh60 fa60
      refine Kn.pure fh61 rfl rfl .none (Kn.ex_move fh61 (.tmp rfl)) fun fa62 fh62 => ?_
      clear fh61 fa61
      refine Kn.call fh62 rfl rfl .none (Kn.ex_call fh62 (.cons (.tmp rfl) (.cons (.tmp rfl) .nil))) Tryd.call16 (hd) fun e w8 hp => ?_
      obtain ⟨rfl, rfl⟩ := hp
      refine ⟨_, rfl, fun fa63 fh63 => ?_⟩
      clear fh62 fa62
      refine Kn.pure fh63 rfl rfl .none (Kn.ex_move fh63 (.tmp rfl)) fun fa64 fh64 => ?_
      clear fh63 fa63
      refine Kn.pure fh64 rfl rfl .none (Kn.ex_extract fh64 (.tmp rfl) rfl) fun fa65 fh65 => ?_
      clear fh64 fa64
      refine Kn.pure fh65 rfl rfl .none (Kn.ex_extract fh65 (.tmp rfl) rfl) fun fa66 fh66 => ?_
      clear fh65 fa65
      refine Kn.pure fh66 rfl rfl .none (Kn.ex_assign fh66 (.tmp rfl)) fun fa67 fh67 => ?_
      clear fh66 fa66
      refine Kn.pure fh67 rfl rfl .none (Kn.ex_assign fh67 (.tmp rfl)) fun fa68 fh68 => ?_
      clear fh67 fa67
      refine wpList_nil ?_
      refine hK15 _ _ ?_
      clear hK15 K15
      replace fh68 := fh68.cut (.cons (t := 16) rfl (.cons (t := 15) rfl (.cons (t := 14) rfl (.cons (t := 13) rfl (.cons (t := 12) rfl (.cons (t := 9) rfl (.cons (t := 8) rfl (.cons (t := 7) rfl (.cons (t := 6) rfl (.cons (t := 0) rfl .nil))))))))))
      clear ht hd
      have hc := fun u h => Err.code_E 2 u h
      unfold Err.errnoV at hc
      have HC := Lib.hid hc
      clear hc
      by_cases hv0 : v < 0
      · refine wp_seq_k fun K16 hK16 => ?_
        refine wp_seq_k fun K17 hK17 => ?_
        refine wp_region_lit ?_
        refine Kn.pure fh68 rfl rfl .none (Kn.ex_move fh68 (.tmp rfl)) fun fa69 fh69 => ?_
        clear fh68 fa68
        refine Kn.step fh69 rfl rfl .none (Kn.ex_bin fh69 (.tmp rfl) .const) fun Ko hKo => ?_
        go_simp
        try go_bits
        refine hKo _ _ fun fa70 fh70 => ?_
        clear hKo Ko fh69 fa69
        refine Kn.pure fh70 rfl rfl .none (Kn.ex_move fh70 (.tmp rfl)) fun fa71 fh71 => ?_
        clear fh70 fa70
        refine Kn.skip fh71 rfl rfl (.some rfl rfl rfl) fun fa72 fh72 => ?_
        clear fh71 fa71
        refine Kn.skip fh72 rfl rfl (.some rfl rfl rfl) fun fa73 fh73 => ?_
        clear fh72 fa72
        refine Kn.skip fh73 rfl rfl (.some rfl rfl rfl) fun fa74 fh74 => ?_
        clear fh73 fa73
        refine Kn.pure fh74 rfl rfl .none (Kn.ex_pick fh74 (.tmp rfl) .const) fun fa75 fh75 => ?_
        clear fh74 fa74
        refine wpList_nil ?_
        refine hK17 _ _ ?_
        clear hK17 K17
        replace fh75 := fh75.cut (.cons (t := 93) rfl (.cons (t := 16) rfl (.cons (t := 15) rfl (.cons (t := 14) rfl (.cons (t := 13) rfl (.cons (t := 12) rfl (.cons (t := 9) rfl (.cons (t := 8) rfl (.cons (t := 7) rfl (.cons (t := 6) rfl (.cons (t := 0) rfl .nil)))))))))))
        refine Kn.yes fh75 (.tmp rfl) ?_
        replace fh75 := fh75.cut (.cons (t := 16) rfl (.cons (t := 15) rfl (.cons (t := 14) rfl (.cons (t := 13) rfl (.cons (t := 12) rfl (.cons (t := 9) rfl (.cons (t := 8) rfl (.cons (t := 7) rfl (.cons (t := 6) rfl (.cons (t := 0) rfl .nil))))))))))
        refine wp_seq_k fun K18 hK18 => ?_
        refine wp_region_lit ?_
        refine Kn.pure fh75 rfl rfl .none (Kn.ex_move fh75 (.tmp rfl)) fun fa76 fh76 => ?_
        clear fh75 fa75
        refine Kn.step fh76 rfl rfl .none (Kn.ex_len fh76 (.tmp rfl)) fun Ko hKo => ?_
        go_simp
        try go_bits
        refine hKo _ _ fun fa77 fh77 => ?_
        clear hKo Ko fh76 fa76
        refine Kn.step fh77 rfl rfl .none (Kn.ex_bin fh77 (.tmp rfl) .const) fun Ko hKo => ?_
        go_simp
        try go_bits
        refine hKo _ _ fun fa78 fh78 => ?_
        clear hKo Ko fh77 fa77
        refine Kn.pure fh78 rfl rfl .none (Kn.ex_move fh78 (.tmp rfl)) fun fa79 fh79 => ?_
        clear fh78 fa78
        refine Kn.pure fh79 rfl rfl (.some rfl rfl rfl) (Kn.ex_move fh79 (.tmp rfl)) fun fa80 fh80 => ?_
        clear fh79 fa79
        refine Kn.step fh80 rfl rfl (.some rfl rfl rfl) (Kn.ex_bin fh80 (.tmp rfl) .const) fun Ko hKo => ?_
        go_simp
        try go_bits
        refine hKo _ _ fun fa81 fh81 => ?_
        clear hKo Ko fh80 fa80
        refine Kn.pure fh81 rfl rfl .none (Kn.ex_pick fh81 (.tmp rfl) (.tmp rfl)) fun fa82 fh82 => ?_
        clear fh81 fa81
        refine Kn.pure fh82 rfl rfl .none (Kn.ex_move fh82 (.tmp rfl)) fun fa83 fh83 => ?_
        clear fh82 fa82
        refine Kn.pure fh83 rfl rfl (.some rfl rfl rfl) (Kn.ex_move fh83 (.tmp rfl)) fun fa84 fh84 => ?_
        clear fh83 fa83
        refine Kn.call fh84 rfl rfl (.some rfl rfl rfl) (Kn.ex_call fh84 (.cons (.tmp rfl) .nil)) Tryd.call8 (HC.out w7 HT7.out) fun e w8 hp => ?_
        obtain ⟨rfl, hb8⟩ := hp
        refine ⟨_, rfl, fun fa85 fh85 => ?_⟩
        clear fh84 fa84
        have HE8 := Lib.hid (HE7.out.on hb8)
        have HR8 := Lib.hid (HR7.out.on hb8)
        have HT8 := Lib.hid (HT7.out.on hb8)
        have HB8 := Lib.hid (HB7.out.trans (hb8.mono HB7.out.size))
        clear hb8 HE7 HR7 HT7 HB7
        refine Kn.step fh85 rfl rfl (.some rfl rfl rfl) (Kn.ex_bin fh85 (.tmp rfl) .const) fun Ko hKo => ?_
        go_simp
        try go_bits
        refine hKo _ _ fun fa86 fh86 => ?_
        clear hKo Ko fh85 fa85
        refine Kn.pure fh86 rfl rfl .none (Kn.ex_pick fh86 (.tmp rfl) (.tmp rfl)) fun fa87 fh87 => ?_
        clear fh86 fa86
        refine Kn.pure fh87 rfl rfl .none (Kn.ex_move fh87 (.tmp rfl)) fun fa88 fh88 => ?_
        clear fh87 fa87
        refine Kn.pure fh88 rfl rfl (.some rfl rfl rfl) (Kn.ex_move fh88 (.tmp rfl)) fun fa89 fh89 => ?_
        clear fh88 fa88
        refine Kn.call fh89 rfl rfl (.some rfl rfl rfl) (Kn.ex_call fh89 (.cons (.tmp rfl) .nil)) Tryd.call8 (HC.out w8 HT8.out) fun e w9 hp => ?_
        obtain ⟨rfl, hb9⟩ := hp
        refine ⟨_, rfl, fun fa90 fh90 => ?_⟩
        clear fh89 fa89
        have HE9 := Lib.hid (HE8.out.on hb9)
        have HR9 := Lib.hid (HR8.out.on hb9)
        have HB9 := Lib.hid (HB8.out.trans (hb9.mono HB8.out.size))
        clear hb9 HE8 HR8 HT8 HB8
        refine Kn.step fh90 rfl rfl (.some rfl rfl rfl) (Kn.ex_bin fh90 (.tmp rfl) .const) fun Ko hKo => ?_
        go_simp
        try go_bits
        refine hKo _ _ fun fa91 fh91 => ?_
        clear hKo Ko fh90 fa90
        refine Kn.pure fh91 rfl rfl .none (Kn.ex_pick fh91 (.tmp rfl) (.tmp rfl)) fun fa92 fh92 => ?_
        clear fh91 fa91
        refine Kn.pure fh92 rfl rfl .none (Kn.ex_move fh92 (.tmp rfl)) fun fa93 fh93 => ?_
        clear fh92 fa92
        refine Kn.pure fh93 rfl rfl (.some rfl rfl rfl) (Kn.ex_move fh93 (.tmp rfl)) fun fa94 fh94 => ?_
        clear fh93 fa93
        refine Kn.pure fh94 rfl rfl (.some rfl rfl rfl) (Kn.ex_move fh94 (.tmp rfl)) fun fa95 fh95 => ?_
        clear fh94 fa94
        refine Kn.pure fh95 rfl rfl (.some rfl rfl rfl) (Kn.ex_move fh95 (.tmp rfl)) fun fa96 fh96 => ?_
        clear fh95 fa95
        refine Kn.call fh96 rfl rfl (.some rfl rfl rfl) (Kn.ex_call fh96 (.cons (.tmp rfl) (.cons (.tmp rfl) (.cons (.tmp rfl) .nil)))) Tryd.call17 (HH.out w9 HR9.out) fun e wc hp => ?_
        obtain ⟨rfl, rfl⟩ := hp
        refine ⟨_, rfl, fun fa97 fh97 => ?_⟩
        clear fh96 fa96
        refine Kn.pure fh97 rfl rfl .none (Kn.ex_pick fh97 (.tmp rfl) (.tmp rfl)) fun fa98 fh98 => ?_
        clear fh97 fa97
        refine wpList_nil ?_
        refine hK18 _ _ ?_
        clear hK18 K18
        replace fh98 := fh98.cut (.cons (t := 116) rfl (.cons (t := 12) rfl (.cons (t := 9) rfl (.cons (t := 7) rfl (.cons (t := 6) rfl (.cons (t := 0) rfl .nil))))))
        refine Kn.no fh98 (.tmp rfl) ?_
        refine wp_skip ?_
        refine hK16 _ _ ?_
        clear hK16 K16
        replace fh98 := fh98.cut (.cons (t := 12) rfl (.cons (t := 9) rfl (.cons (t := 7) rfl (.cons (t := 6) rfl (.cons (t := 0) rfl .nil)))))
        refine wp_seq_k fun K19 hK19 => ?_
        refine wp_seq_k fun K20 hK20 => ?_
        refine wp_region_lit ?_
        refine Kn.pure fh98 rfl rfl .none (Kn.ex_move fh98 (.tmp rfl)) fun fa99 fh99 => ?_
        clear fh98 fa98
        refine Kn.step fh99 rfl rfl .none (Kn.ex_bin fh99 (.tmp rfl) .const) fun Ko hKo => ?_
        go_simp
        try go_bits
        refine hKo _ _ fun fa100 fh100 => ?_
        clear hKo Ko fh99 fa99
        refine Kn.pure fh100 rfl rfl .none (Kn.ex_move fh100 (.tmp rfl)) fun fa101 fh101 => ?_
        clear fh100 fa100
        refine Kn.skip fh101 rfl rfl (.some rfl rfl rfl) fun fa102 fh102 => ?_
        clear fh101 fa101
        refine Kn.skip fh102 rfl rfl (.some rfl rfl rfl) fun fa103 fh103 => ?_
        clear fh102 fa102
        refine Kn.skip fh103 rfl rfl (.some rfl rfl rfl) fun fa104 fh104 => ?_
        clear fh103 fa103
        refine Kn.pure fh104 rfl rfl .none (Kn.ex_pick fh104 (.tmp rfl) .const) fun fa105 fh105 => ?_
        clear fh104 fa104
        refine wpList_nil ?_
        refine hK20 _ _ ?_
        clear hK20 K20
        replace fh105 := fh105.cut (.cons (t := 154) rfl (.cons (t := 12) rfl (.cons (t := 9) rfl (.cons (t := 7) rfl (.cons (t := 6) rfl .nil)))))
        refine Kn.yes fh105 (.tmp rfl) ?_
        replace fh105 := fh105.cut (.cons (t := 12) rfl (.cons (t := 9) rfl (.cons (t := 7) rfl (.cons (t := 6) rfl .nil))))
        have hbe := HBe.out w9 HR9.out
        rw [bgI, if_pos (.inl hv0)] at hbe
        refine wp_seq_k fun K21 hK21 => ?_
        refine wp_region_lit ?_
        refine Kn.pure fh105 rfl rfl .none (Kn.ex_move fh105 (.tmp rfl)) fun fa106 fh106 => ?_
        clear fh105 fa105
        refine Kn.pure fh106 rfl rfl .none (Kn.ex_move fh106 (.tmp rfl)) fun fa107 fh107 => ?_
        clear fh106 fa106
        refine Kn.call fh107 rfl rfl .none (Kn.ex_call fh107 (.cons (.tmp rfl) (.cons (.tmp rfl) .nil))) Tryd.call21 (hbe) fun e wa hp => ?_
        obtain ⟨rfl, rfl⟩ := hp
        refine ⟨_, rfl, fun fa108 fh108 => ?_⟩
        clear fh107 fa107
        refine Kn.step fh108 rfl rfl .none (Kn.ex_bin fh108 (.tmp rfl) .const) fun Ko hKo => ?_
        go_simp
        try go_bits
        refine hKo _ _ fun fa109 fh109 => ?_
        clear hKo Ko fh108 fa108
        refine Kn.pure fh109 rfl rfl .none (Kn.ex_assign fh109 (.tmp rfl)) fun fa110 fh110 => ?_
        clear fh109 fa109
        refine wpList_nil ?_
        refine hK21 _ _ ?_
        clear hK21 K21
        replace fh110 := fh110.cut (.cons (t := 6) rfl (.cons (t := 12) rfl (.cons (t := 9) rfl (.cons (t := 7) rfl .nil))))
        refine wp_ret ?_
        refine Kn.then_ret ?_
        exact Kn.ret1 fh110 rfl rfl ⟨rfl, HB9.out⟩
      have hv1 : (N : Int) ≤ v := by omega
      clear hv
      refine wp_seq_k fun K16 hK16 => ?_
      refine wp_seq_k fun K17 hK17 => ?_
      refine wp_region_lit ?_
      refine Kn.pure fh68 rfl rfl .none (Kn.ex_move fh68 (.tmp rfl)) fun fa69 fh69 => ?_
      clear fh68 fa68
      refine Kn.step fh69 rfl rfl .none (Kn.ex_bin fh69 (.tmp rfl) .const) fun Ko hKo => ?_
      go_simp
      try go_bits
      refine hKo _ _ fun fa70 fh70 => ?_
      clear hKo Ko fh69 fa69
      refine Kn.pure fh70 rfl rfl .none (Kn.ex_move fh70 (.tmp rfl)) fun fa71 fh71 => ?_
      clear fh70 fa70
      refine Kn.pure fh71 rfl rfl (.some rfl rfl rfl) (Kn.ex_move fh71 (.tmp rfl)) fun fa72 fh72 => ?_
      clear fh71 fa71
      refine Kn.pure fh72 rfl rfl (.some rfl rfl rfl) (Kn.ex_move fh72 (.tmp rfl)) fun fa73 fh73 => ?_
      clear fh72 fa72
      refine Kn.step fh73 rfl rfl (.some rfl rfl rfl) (Kn.ex_bin fh73 (.tmp rfl) (.tmp rfl)) fun Ko hKo => ?_
      go_simp
      try go_bits
      refine hKo _ _ fun fa74 fh74 => ?_
      clear hKo Ko fh73 fa73
      refine Kn.pure fh74 rfl rfl .none (Kn.ex_pick fh74 (.tmp rfl) (.tmp rfl)) fun fa75 fh75 => ?_
      clear fh74 fa74
      refine wpList_nil ?_
      refine hK17 _ _ ?_
      clear hK17 K17
      replace fh75 := fh75.cut (.cons (t := 93) rfl (.cons (t := 16) rfl (.cons (t := 15) rfl (.cons (t := 14) rfl (.cons (t := 13) rfl (.cons (t := 12) rfl (.cons (t := 9) rfl (.cons (t := 8) rfl (.cons (t := 7) rfl (.cons (t := 6) rfl (.cons (t := 0) rfl .nil)))))))))))
      refine Kn.yes fh75 (.tmp rfl) ?_
      replace fh75 := fh75.cut (.cons (t := 16) rfl (.cons (t := 15) rfl (.cons (t := 14) rfl (.cons (t := 13) rfl (.cons (t := 12) rfl (.cons (t := 9) rfl (.cons (t := 8) rfl (.cons (t := 7) rfl (.cons (t := 6) rfl (.cons (t := 0) rfl .nil))))))))))
      refine wp_seq_k fun K18 hK18 => ?_
      refine wp_region_lit ?_
      refine Kn.pure fh75 rfl rfl .none (Kn.ex_move fh75 (.tmp rfl)) fun fa76 fh76 => ?_
      clear fh75 fa75
      refine Kn.step fh76 rfl rfl .none (Kn.ex_len fh76 (.tmp rfl)) fun Ko hKo => ?_
      go_simp
      try go_bits
      refine hKo _ _ fun fa77 fh77 => ?_
      clear hKo Ko fh76 fa76
      refine Kn.step fh77 rfl rfl .none (Kn.ex_bin fh77 (.tmp rfl) .const) fun Ko hKo => ?_
      go_simp
      try go_bits
      refine hKo _ _ fun fa78 fh78 => ?_
      clear hKo Ko fh77 fa77
      refine Kn.pure fh78 rfl rfl .none (Kn.ex_move fh78 (.tmp rfl)) fun fa79 fh79 => ?_
      clear fh78 fa78
      refine Kn.pure fh79 rfl rfl (.some rfl rfl rfl) (Kn.ex_move fh79 (.tmp rfl)) fun fa80 fh80 => ?_
      clear fh79 fa79
      refine Kn.step fh80 rfl rfl (.some rfl rfl rfl) (Kn.ex_bin fh80 (.tmp rfl) .const) fun Ko hKo => ?_
      go_simp
      try go_bits
      refine hKo _ _ fun fa81 fh81 => ?_
      clear hKo Ko fh80 fa80
      refine Kn.pure fh81 rfl rfl .none (Kn.ex_pick fh81 (.tmp rfl) (.tmp rfl)) fun fa82 fh82 => ?_
      clear fh81 fa81
      refine Kn.pure fh82 rfl rfl .none (Kn.ex_move fh82 (.tmp rfl)) fun fa83 fh83 => ?_
      clear fh82 fa82
      refine Kn.pure fh83 rfl rfl (.some rfl rfl rfl) (Kn.ex_move fh83 (.tmp rfl)) fun fa84 fh84 => ?_
      clear fh83 fa83
      refine Kn.call fh84 rfl rfl (.some rfl rfl rfl) (Kn.ex_call fh84 (.cons (.tmp rfl) .nil)) Tryd.call8 (HC.out w7 HT7.out) fun e w8 hp => ?_
      obtain ⟨rfl, hb8⟩ := hp
      refine ⟨_, rfl, fun fa85 fh85 => ?_⟩
      clear fh84 fa84
      have HE8 := Lib.hid (HE7.out.on hb8)
      have HR8 := Lib.hid (HR7.out.on hb8)
      have HT8 := Lib.hid (HT7.out.on hb8)
      have HB8 := Lib.hid (HB7.out.trans (hb8.mono HB7.out.size))
      clear hb8 HE7 HR7 HT7 HB7
      refine Kn.step fh85 rfl rfl (.some rfl rfl rfl) (Kn.ex_bin fh85 (.tmp rfl) .const) fun Ko hKo => ?_
      go_simp
      try go_bits
      refine hKo _ _ fun fa86 fh86 => ?_
      clear hKo Ko fh85 fa85
      refine Kn.pure fh86 rfl rfl .none (Kn.ex_pick fh86 (.tmp rfl) (.tmp rfl)) fun fa87 fh87 => ?_
      clear fh86 fa86
      refine Kn.pure fh87 rfl rfl .none (Kn.ex_move fh87 (.tmp rfl)) fun fa88 fh88 => ?_
      clear fh87 fa87
      refine Kn.pure fh88 rfl rfl (.some rfl rfl rfl) (Kn.ex_move fh88 (.tmp rfl)) fun fa89 fh89 => ?_
      clear fh88 fa88
      refine Kn.call fh89 rfl rfl (.some rfl rfl rfl) (Kn.ex_call fh89 (.cons (.tmp rfl) .nil)) Tryd.call8 (HC.out w8 HT8.out) fun e w9 hp => ?_
      obtain ⟨rfl, hb9⟩ := hp
      refine ⟨_, rfl, fun fa90 fh90 => ?_⟩
      clear fh89 fa89
      have HE9 := Lib.hid (HE8.out.on hb9)
      have HR9 := Lib.hid (HR8.out.on hb9)
      have HB9 := Lib.hid (HB8.out.trans (hb9.mono HB8.out.size))
      clear hb9 HE8 HR8 HT8 HB8
      refine Kn.step fh90 rfl rfl (.some rfl rfl rfl) (Kn.ex_bin fh90 (.tmp rfl) .const) fun Ko hKo => ?_
      go_simp
      try go_bits
      refine hKo _ _ fun fa91 fh91 => ?_
      clear hKo Ko fh90 fa90
      refine Kn.pure fh91 rfl rfl .none (Kn.ex_pick fh91 (.tmp rfl) (.tmp rfl)) fun fa92 fh92 => ?_
      clear fh91 fa91
      refine Kn.pure fh92 rfl rfl .none (Kn.ex_move fh92 (.tmp rfl)) fun fa93 fh93 => ?_
      clear fh92 fa92
      refine Kn.pure fh93 rfl rfl (.some rfl rfl rfl) (Kn.ex_move fh93 (.tmp rfl)) fun fa94 fh94 => ?_
      clear fh93 fa93
      refine Kn.pure fh94 rfl rfl (.some rfl rfl rfl) (Kn.ex_move fh94 (.tmp rfl)) fun fa95 fh95 => ?_
      clear fh94 fa94
      refine Kn.pure fh95 rfl rfl (.some rfl rfl rfl) (Kn.ex_move fh95 (.tmp rfl)) fun fa96 fh96 => ?_
      clear fh95 fa95
      refine Kn.call fh96 rfl rfl (.some rfl rfl rfl) (Kn.ex_call fh96 (.cons (.tmp rfl) (.cons (.tmp rfl) (.cons (.tmp rfl) .nil)))) Tryd.call17 (HH.out w9 HR9.out) fun e wc hp => ?_
      obtain ⟨rfl, rfl⟩ := hp
      refine ⟨_, rfl, fun fa97 fh97 => ?_⟩
      clear fh96 fa96
      refine Kn.pure fh97 rfl rfl .none (Kn.ex_pick fh97 (.tmp rfl) (.tmp rfl)) fun fa98 fh98 => ?_
      clear fh97 fa97
      refine wpList_nil ?_
      refine hK18 _ _ ?_
      clear hK18 K18
      replace fh98 := fh98.cut (.cons (t := 116) rfl (.cons (t := 12) rfl (.cons (t := 9) rfl (.cons (t := 7) rfl (.cons (t := 6) rfl (.cons (t := 0) rfl .nil))))))
      refine Kn.no fh98 (.tmp rfl) ?_
      refine wp_skip ?_
      refine hK16 _ _ ?_
      clear hK16 K16
      replace fh98 := fh98.cut (.cons (t := 12) rfl (.cons (t := 9) rfl (.cons (t := 7) rfl (.cons (t := 6) rfl (.cons (t := 0) rfl .nil)))))
      by_cases hv2 : (N : Int) < v
      · refine wp_seq_k fun K19 hK19 => ?_
        refine wp_seq_k fun K20 hK20 => ?_
        refine wp_region_lit ?_
        refine Kn.pure fh98 rfl rfl .none (Kn.ex_move fh98 (.tmp rfl)) fun fa99 fh99 => ?_
        clear fh98 fa98
        refine Kn.step fh99 rfl rfl .none (Kn.ex_bin fh99 (.tmp rfl) .const) fun Ko hKo => ?_
        go_simp
        try go_bits
        refine hKo _ _ fun fa100 fh100 => ?_
        clear hKo Ko fh99 fa99
        refine Kn.pure fh100 rfl rfl .none (Kn.ex_move fh100 (.tmp rfl)) fun fa101 fh101 => ?_
        clear fh100 fa100
        refine Kn.pure fh101 rfl rfl (.some rfl rfl rfl) (Kn.ex_move fh101 (.tmp rfl)) fun fa102 fh102 => ?_
        clear fh101 fa101
        refine Kn.pure fh102 rfl rfl (.some rfl rfl rfl) (Kn.ex_move fh102 (.tmp rfl)) fun fa103 fh103 => ?_
        clear fh102 fa102
        refine Kn.step fh103 rfl rfl (.some rfl rfl rfl) (Kn.ex_bin fh103 (.tmp rfl) (.tmp rfl)) fun Ko hKo => ?_
        go_simp
        try go_bits
        refine hKo _ _ fun fa104 fh104 => ?_
        clear hKo Ko fh103 fa103
        refine Kn.pure fh104 rfl rfl .none (Kn.ex_pick fh104 (.tmp rfl) (.tmp rfl)) fun fa105 fh105 => ?_
        clear fh104 fa104
        refine wpList_nil ?_
        refine hK20 _ _ ?_
        clear hK20 K20
        replace fh105 := fh105.cut (.cons (t := 154) rfl (.cons (t := 12) rfl (.cons (t := 9) rfl (.cons (t := 7) rfl (.cons (t := 6) rfl .nil)))))
        refine Kn.yes fh105 (.tmp rfl) ?_
        replace fh105 := fh105.cut (.cons (t := 12) rfl (.cons (t := 9) rfl (.cons (t := 7) rfl (.cons (t := 6) rfl .nil))))
        have hbe := HBe.out w9 HR9.out
        rw [bgI, if_pos (.inr hv2)] at hbe
        refine wp_seq_k fun K21 hK21 => ?_
        refine wp_region_lit ?_
        refine Kn.pure fh105 rfl rfl .none (Kn.ex_move fh105 (.tmp rfl)) fun fa106 fh106 => ?_
        clear fh105 fa105
        refine Kn.pure fh106 rfl rfl .none (Kn.ex_move fh106 (.tmp rfl)) fun fa107 fh107 => ?_
        clear fh106 fa106
        refine Kn.call fh107 rfl rfl .none (Kn.ex_call fh107 (.cons (.tmp rfl) (.cons (.tmp rfl) .nil))) Tryd.call21 (hbe) fun e wa hp => ?_
        obtain ⟨rfl, rfl⟩ := hp
        refine ⟨_, rfl, fun fa108 fh108 => ?_⟩
        clear fh107 fa107
        refine Kn.step fh108 rfl rfl .none (Kn.ex_bin fh108 (.tmp rfl) .const) fun Ko hKo => ?_
        go_simp
        try go_bits
        refine hKo _ _ fun fa109 fh109 => ?_
        clear hKo Ko fh108 fa108
        refine Kn.pure fh109 rfl rfl .none (Kn.ex_assign fh109 (.tmp rfl)) fun fa110 fh110 => ?_
        clear fh109 fa109
        refine wpList_nil ?_
        refine hK21 _ _ ?_
        clear hK21 K21
        replace fh110 := fh110.cut (.cons (t := 6) rfl (.cons (t := 12) rfl (.cons (t := 9) rfl (.cons (t := 7) rfl .nil))))
        refine wp_ret ?_
        refine Kn.then_ret ?_
        exact Kn.ret1 fh110 rfl rfl ⟨rfl, HB9.out⟩
      refine wp_seq_k fun K19 hK19 => ?_
      refine wp_seq_k fun K20 hK20 => ?_
      refine wp_region_lit ?_
      refine Kn.pure fh98 rfl rfl .none (Kn.ex_move fh98 (.tmp rfl)) fun fa99 fh99 => ?_
      clear fh98 fa98
      refine Kn.step fh99 rfl rfl .none (Kn.ex_bin fh99 (.tmp rfl) .const) fun Ko hKo => ?_
      go_simp
      try go_bits
      refine hKo _ _ fun fa100 fh100 => ?_
      clear hKo Ko fh99 fa99
      refine Kn.pure fh100 rfl rfl .none (Kn.ex_move fh100 (.tmp rfl)) fun fa101 fh101 => ?_
      clear fh100 fa100
      refine Kn.pure fh101 rfl rfl (.some rfl rfl rfl) (Kn.ex_move fh101 (.tmp rfl)) fun fa102 fh102 => ?_
      clear fh101 fa101
      refine Kn.pure fh102 rfl rfl (.some rfl rfl rfl) (Kn.ex_move fh102 (.tmp rfl)) fun fa103 fh103 => ?_
      clear fh102 fa102
      refine Kn.step fh103 rfl rfl (.some rfl rfl rfl) (Kn.ex_bin fh103 (.tmp rfl) (.tmp rfl)) fun Ko hKo => ?_
      go_simp
      try go_bits
      refine hKo _ _ fun fa104 fh104 => ?_
      clear hKo Ko fh103 fa103
      refine Kn.pure fh104 rfl rfl .none (Kn.ex_pick fh104 (.tmp rfl) (.tmp rfl)) fun fa105 fh105 => ?_
      clear fh104 fa104
      refine wpList_nil ?_
      refine hK20 _ _ ?_
      clear hK20 K20
      replace fh105 := fh105.cut (.cons (t := 154) rfl (.cons (t := 12) rfl (.cons (t := 9) rfl (.cons (t := 7) rfl (.cons (t := 6) rfl .nil)))))
      refine Kn.no fh105 (.tmp rfl) ?_
      refine wp_skip ?_
      refine hK19 _ _ ?_
      clear hK19 K19
      replace fh105 := fh105.cut (.cons (t := 12) rfl (.cons (t := 9) rfl (.cons (t := 7) rfl (.cons (t := 6) rfl .nil))))
      have hbe := HBe.out w9 HR9.out
      have hrb := HRb.out w9 HE9.out
      rw [bgI, if_neg (by omega)] at hbe
      refine wp_seq_k fun K21 hK21 => ?_
      refine wp_region_lit ?_
      refine Kn.pure fh105 rfl rfl .none (Kn.ex_move fh105 (.tmp rfl)) fun fa106 fh106 => ?_
      clear fh105 fa105
      refine Kn.pure fh106 rfl rfl .none (Kn.ex_move fh106 (.tmp rfl)) fun fa107 fh107 => ?_
      clear fh106 fa106
      refine Kn.call fh107 rfl rfl .none (Kn.ex_call fh107 (.cons (.tmp rfl) (.cons (.tmp rfl) .nil))) Tryd.call21 (hbe) fun e wa hp => ?_
      obtain ⟨rfl, rfl⟩ := hp
      refine ⟨_, rfl, fun fa108 fh108 => ?_⟩
      clear fh107 fa107
      refine Kn.pure fh108 rfl rfl .none (Kn.ex_move fh108 (.tmp rfl)) fun fa109 fh109 => ?_
      clear fh108 fa108
      refine Kn.pure fh109 rfl rfl .none (Kn.ex_move fh109 (.tmp rfl)) fun fa110 fh110 => ?_
      clear fh109 fa109
      refine Kn.call fh110 rfl rfl .none (Kn.ex_call fh110 (.cons (.tmp rfl) (.cons (.tmp rfl) .nil))) Tryd.call22 (hrb) fun e wb hp => ?_
      obtain ⟨rfl, rfl⟩ := hp
      refine ⟨_, rfl, fun fa111 fh111 => ?_⟩
      clear fh110 fa110
      refine Kn.step fh111 rfl rfl .none (Kn.ex_bin fh111 (.tmp rfl) (.tmp rfl)) fun Ko hKo => ?_
      go_simp
      try go_bits
      refine hKo _ _ fun fa112 fh112 => ?_
      clear hKo Ko fh111 fa111
      refine Kn.pure fh112 rfl rfl .none (Kn.ex_assign fh112 (.tmp rfl)) fun fa113 fh113 => ?_
      clear fh112 fa112
      refine wpList_nil ?_
      refine hK21 _ _ ?_
      clear hK21 K21
      replace fh113 := fh113.cut (.cons (t := 6) rfl .nil)
      refine wp_ret ?_
      exact Kn.ret1 fh113 rfl rfl ⟨by simp, HB9.out⟩
    obtain ⟨k, rfl⟩ := Int.eq_ofNat_of_zero_le (show 0 ≤ v by omega)
    have hk : k < N := by omega
    have p0 : ¬ (k : Int) < 0 := by omega
    have p1 : ¬ (N : Int) ≤ (k : Int) := by omega
    have p2 : ¬ (N : Int) < (k : Int) := by omega
    have p3 : ¬ N ≤ k := by omega
    have p4 : ¬ N < k := by omega
    have ht := targets_in k w7 _ g N ys HR7.out hk
    have hd := fun u h => degree_in k u w2.heap.size g N ys h hk
    have hh := fun u h => has_in k t u w2.heap.size g N ys h hk
    have hrt := fun u h => refTargets_any (some ⟨gz, 0, none⟩) cap ys (k : Int) u (by omega) h
    have htl := trg_len ys (k : Int)
    generalize trg ys (k : Int) = ts at ht hd hh hrt htl
    have htl2 : ts.length ≤ 20000 := by omega
    have HD := Lib.hid hd
    have HH := Lib.hid hh
    have HRT := Lib.hid hrt
    clear hd hh hrt hv htl
    refine wp_seq_k fun K14 hK14 => ?_
    refine wp_region_lit ?_
    refine Kn.pure fh52 rfl rfl .none (Kn.ex_move fh52 (.tmp rfl)) fun fa53 fh53 => ?_
    clear fh52 fa52
    refine Kn.pure fh53 rfl rfl .none (Kn.ex_move fh53 (.tmp rfl)) fun fa54 fh54 => ?_
    clear fh53 fa53
    refine Kn.call fh54 rfl rfl .none (Kn.ex_call fh54 (.cons (.tmp rfl) (.cons (.tmp rfl) .nil))) Tryd.call15 (ht) fun e w8 hp => ?_
    obtain ⟨A8, n8, c8, rfl, hO, hb8⟩ := hp
    refine ⟨_, rfl, fun fa55 fh55 => ?_⟩
    clear fh54 fa54
    refine Kn.pure fh55 rfl rfl .none (Kn.ex_move fh55 (.tmp rfl)) fun fa56 fh56 => ?_
    clear fh55 fa55
    refine Kn.pure fh56 rfl rfl .none (Kn.ex_extract fh56 (.tmp rfl) rfl) fun fa57 fh57 => ?_
    clear fh56 fa56
    refine Kn.pure fh57 rfl rfl .none (Kn.ex_extract fh57 (.tmp rfl) rfl) fun fa58 fh58 => ?_
    clear fh57 fa57
    refine Kn.pure fh58 rfl rfl .none (Kn.ex_assign fh58 (.tmp rfl)) fun fa59 fh59 => ?_
    clear fh58 fa58
    refine Kn.pure fh59 rfl rfl .none (Kn.ex_assign fh59 (.tmp rfl)) fun fa60 fh60 => ?_
    clear fh59 fa59
    refine wpList_nil ?_
    refine hK14 _ _ ?_
    clear hK14 K14
    replace fh60 := fh60.cut (.cons (t := 14) rfl (.cons (t := 13) rfl (.cons (t := 12) rfl (.cons (t := 9) rfl (.cons (t := 8) rfl (.cons (t := 7) rfl (.cons (t := 6) rfl (.cons (t := 0) rfl .nil))))))))
    have hn8 := hO.1
    subst hn8
    have HI8 := Lib.hid hO.iin
    have HE8 := Lib.hid (HE7.out.on hb8)
    have HR8 := Lib.hid (HR7.out.on hb8)
    have HB8 := Lib.hid (HB7.out.trans (hb8.mono HB7.out.size))
    clear hO hb8 HE7 HR7 HT7 HB7 ht
    refine wp_seq_k fun K15 hK15 => ?_
    refine wp_region_lit ?_
    refine Kn.pure fh60 rfl rfl .none (Kn.ex_move fh60 (.tmp rfl)) fun fa61 fh61 => ?_
    clear fh60 fa60
    refine Kn.pure fh61 rfl rfl .none (Kn.ex_move fh61 (.tmp rfl)) fun fa62 fh62 => ?_
    clear fh61 fa61
    refine Kn.call fh62 rfl rfl .none (Kn.ex_call fh62 (.cons (.tmp rfl) (.cons (.tmp rfl) .nil))) Tryd.call16 (HD.out w8 HR8.out) fun e w9 hp => ?_
    obtain ⟨rfl, q2, rfl⟩ := hp
    refine ⟨_, rfl, fun fa63 fh63 => ?_⟩
    clear fh62 fa62
    refine Kn.pure fh63 rfl rfl .none (Kn.ex_move fh63 (.tmp rfl)) fun fa64 fh64 => ?_
    clear fh63 fa63
    refine Kn.pure fh64 rfl rfl .none (Kn.ex_extract fh64 (.tmp rfl) rfl) fun fa65 fh65 => ?_
    clear fh64 fa64
    refine Kn.pure fh65 rfl rfl .none (Kn.ex_extract fh65 (.tmp rfl) rfl) fun fa66 fh66 => ?_
    clear fh65 fa65
    refine Kn.pure fh66 rfl rfl .none (Kn.ex_assign fh66 (.tmp rfl)) fun fa67 fh67 => ?_
    clear fh66 fa66
    refine Kn.pure fh67 rfl rfl .none (Kn.ex_assign fh67 (.tmp rfl)) fun fa68 fh68 => ?_
    clear fh67 fa67
    refine wpList_nil ?_
    refine hK15 _ _ ?_
    clear hK15 K15
    replace fh68 := fh68.cut (.cons (t := 16) rfl (.cons (t := 15) rfl (.cons (t := 14) rfl (.cons (t := 13) rfl (.cons (t := 12) rfl (.cons (t := 9) rfl (.cons (t := 8) rfl (.cons (t := 7) rfl (.cons (t := 6) rfl (.cons (t := 0) rfl .nil))))))))))
    refine wp_seq_k fun K16 hK16 => ?_
    refine wp_seq_k fun K17 hK17 => ?_
    refine wp_region_lit ?_
    refine Kn.pure fh68 rfl rfl .none (Kn.ex_move fh68 (.tmp rfl)) fun fa69 fh69 => ?_
    clear fh68 fa68
    refine Kn.step fh69 rfl rfl .none (Kn.ex_bin fh69 (.tmp rfl) .const) fun Ko hKo => ?_
    go_simp
    try go_bits
    refine hKo _ _ fun fa70 fh70 => ?_
    clear hKo Ko fh69 fa69
    refine Kn.pure fh70 rfl rfl .none (Kn.ex_move fh70 (.tmp rfl)) fun fa71 fh71 => ?_
    clear fh70 fa70
    refine Kn.pure fh71 rfl rfl (.some rfl rfl rfl) (Kn.ex_move fh71 (.tmp rfl)) fun fa72 fh72 => ?_
    clear fh71 fa71
    refine Kn.pure fh72 rfl rfl (.some rfl rfl rfl) (Kn.ex_move fh72 (.tmp rfl)) fun fa73 fh73 => ?_
    clear fh72 fa72
    refine Kn.step fh73 rfl rfl (.some rfl rfl rfl) (Kn.ex_bin fh73 (.tmp rfl) (.tmp rfl)) fun Ko hKo => ?_
    go_simp
    try go_bits
    refine hKo _ _ fun fa74 fh74 => ?_
    clear hKo Ko fh73 fa73
    refine Kn.pure fh74 rfl rfl .none (Kn.ex_pick fh74 (.tmp rfl) (.tmp rfl)) fun fa75 fh75 => ?_
    clear fh74 fa74
    refine wpList_nil ?_
    refine hK17 _ _ ?_
    clear hK17 K17
    replace fh75 := fh75.cut (.cons (t := 93) rfl (.cons (t := 16) rfl (.cons (t := 15) rfl (.cons (t := 14) rfl (.cons (t := 13) rfl (.cons (t := 12) rfl (.cons (t := 9) rfl (.cons (t := 8) rfl (.cons (t := 7) rfl (.cons (t := 6) rfl (.cons (t := 0) rfl .nil)))))))))))
    refine Kn.no fh75 (.tmp rfl) ?_
    replace fh75 := fh75.cut (.cons (t := 16) rfl (.cons (t := 15) rfl (.cons (t := 14) rfl (.cons (t := 13) rfl (.cons (t := 12) rfl (.cons (t := 9) rfl (.cons (t := 8) rfl (.cons (t := 7) rfl (.cons (t := 6) rfl (.cons (t := 0) rfl .nil))))))))))
    refine wp_seq_k fun K18 hK18 => ?_
    refine wp_region_lit ?_
    refine Kn.pure fh75 rfl rfl .none (Kn.ex_move fh75 (.tmp rfl)) fun fa76 fh76 => ?_
    clear fh75 fa75
    refine Kn.pure fh76 rfl rfl .none (Kn.ex_move fh76 (.tmp rfl)) fun fa77 fh77 => ?_
    clear fh76 fa76
    refine Kn.call fh77 rfl rfl .none (Kn.ex_call fh77 (.cons (.tmp rfl) (.cons (.tmp rfl) .nil))) Tryd.call18 (HRT.out (w8.drewN q2) (HE8.out.drewN q2)) fun e w9 hp => ?_
    obtain ⟨gt, nt', ct, rfl, hO9, hb9⟩ := hp
    refine ⟨_, rfl, fun fa78 fh78 => ?_⟩
    clear fh77 fa77
    refine Kn.pure fh78 rfl rfl .none (Kn.ex_assign fh78 (.tmp rfl)) fun fa79 fh79 => ?_
    clear fh78 fa78
    refine wpList_nil ?_
    refine hK18 _ _ ?_
    clear hK18 K18
    replace fh79 := fh79.cut (.cons (t := 17) rfl (.cons (t := 16) rfl (.cons (t := 15) rfl (.cons (t := 14) rfl (.cons (t := 13) rfl (.cons (t := 12) rfl (.cons (t := 9) rfl (.cons (t := 8) rfl (.cons (t := 7) rfl (.cons (t := 6) rfl (.cons (t := 0) rfl .nil)))))))))))
    have hn9 := hO9.1
    subst hn9
    have hbq : Below w8.heap.size w8 w9 := (below_of_drew ⟨q2, rfl⟩).trans hb9
    have HI9 := Lib.hid (HI8.out.on hbq)
    have HJ9 := Lib.hid hO9.iin
    have HE9 := Lib.hid (HE8.out.on hbq)
    have HR9 := Lib.hid (HR8.out.on hbq)
    have HB9 := Lib.hid (HB8.out.trans (hbq.mono HB8.out.size))
    have hi := refInts_any A8 (some ⟨gt, 0, none⟩) c8 ct ts ts w9 (by unfold maxLen; omega) (by unfold maxLen; omega) HI9.out HJ9.out
    rw [decide_eq_true rfl] at hi
    have hrh := fun u h => refHas_any (some ⟨gt, 0, none⟩) ct ts t u (by unfold maxLen; omega) h
    have hh2 := HH.out
    clear HH
    generalize decide (t ∈ ts) = bb at hh2 hrh
    have HH := Lib.hid hh2
    have HRH := Lib.hid hrh
    clear hrh hh2 hO9 hb9 hbq
    refine wp_seq_k fun K19 hK19 => ?_
    refine wp_region_lit ?_
    refine Kn.pure fh79 rfl rfl .none (Kn.ex_move fh79 (.tmp rfl)) fun fa80 fh80 => ?_
    clear fh79 fa79
    refine Kn.step fh80 rfl rfl .none (Kn.ex_bin fh80 (.tmp rfl) .const) fun Ko hKo => ?_
    go_simp
    try go_bits
    refine hKo _ _ fun fa81 fh81 => ?_
    clear hKo Ko fh80 fa80
    refine Kn.pure fh81 rfl rfl .none (Kn.ex_move fh81 (.tmp rfl)) fun fa82 fh82 => ?_
    clear fh81 fa81
    refine Kn.pure fh82 rfl rfl (.some rfl rfl rfl) (Kn.ex_move fh82 (.tmp rfl)) fun fa83 fh83 => ?_
    clear fh82 fa82
    refine Kn.step fh83 rfl rfl (.some rfl rfl rfl) (Kn.ex_bin fh83 (.tmp rfl) .const) fun Ko hKo => ?_
    go_simp
    try go_bits
    refine hKo _ _ fun fa84 fh84 => ?_
    clear hKo Ko fh83 fa83
    refine Kn.pure fh84 rfl rfl .none (Kn.ex_pick fh84 (.tmp rfl) (.tmp rfl)) fun fa85 fh85 => ?_
    clear fh84 fa84
    refine Kn.pure fh85 rfl rfl .none (Kn.ex_move fh85 (.tmp rfl)) fun fa86 fh86 => ?_
    clear fh85 fa85
    refine Kn.pure fh86 rfl rfl (.some rfl rfl rfl) (Kn.ex_move fh86 (.tmp rfl)) fun fa87 fh87 => ?_
    clear fh86 fa86
    refine Kn.pure fh87 rfl rfl (.some rfl rfl rfl) (Kn.ex_move fh87 (.tmp rfl)) fun fa88 fh88 => ?_
    clear fh87 fa87
    refine Kn.call fh88 rfl rfl (.some rfl rfl rfl) (Kn.ex_call fh88 (.cons (.tmp rfl) (.cons (.tmp rfl) .nil))) Tryd.call19 (hi) fun e wa hp => ?_
    obtain ⟨rfl, q3, rfl⟩ := hp
    refine ⟨_, rfl, fun fa89 fh89 => ?_⟩
    clear fh88 fa88
    refine Kn.step fh89 rfl rfl (.some rfl rfl rfl) (Kn.ex_un fh89 (.tmp rfl)) fun Ko hKo => ?_
    go_simp
    try go_bits
    refine hKo _ _ fun fa90 fh90 => ?_
    clear hKo Ko fh89 fa89
    refine Kn.pure fh90 rfl rfl .none (Kn.ex_pick fh90 (.tmp rfl) (.tmp rfl)) fun fa91 fh91 => ?_
    clear fh90 fa90
    refine Kn.pure fh91 rfl rfl .none (Kn.ex_move fh91 (.tmp rfl)) fun fa92 fh92 => ?_
    clear fh91 fa91
    refine Kn.pure fh92 rfl rfl (.some rfl rfl rfl) (Kn.ex_move fh92 (.tmp rfl)) fun fa93 fh93 => ?_
    clear fh92 fa92
    refine Kn.pure fh93 rfl rfl (.some rfl rfl rfl) (Kn.ex_move fh93 (.tmp rfl)) fun fa94 fh94 => ?_
    clear fh93 fa93
    refine Kn.step fh94 rfl rfl (.some rfl rfl rfl) (Kn.ex_len fh94 (.tmp rfl)) fun Ko hKo => ?_
    go_simp
    try go_bits
    refine hKo _ _ fun fa95 fh95 => ?_
    clear hKo Ko fh94 fa94
    refine Kn.step fh95 rfl rfl (.some rfl rfl rfl) (Kn.ex_bin fh95 (.tmp rfl) (.tmp rfl)) fun Ko hKo => ?_
    go_simp
    try go_bits
    refine hKo _ _ fun fa96 fh96 => ?_
    clear hKo Ko fh95 fa95
    refine Kn.pure fh96 rfl rfl .none (Kn.ex_pick fh96 (.tmp rfl) (.tmp rfl)) fun fa97 fh97 => ?_
    clear fh96 fa96
    refine Kn.pure fh97 rfl rfl .none (Kn.ex_move fh97 (.tmp rfl)) fun fa98 fh98 => ?_
    clear fh97 fa97
    refine Kn.pure fh98 rfl rfl (.some rfl rfl rfl) (Kn.ex_move fh98 (.tmp rfl)) fun fa99 fh99 => ?_
    clear fh98 fa98
    refine Kn.pure fh99 rfl rfl (.some rfl rfl rfl) (Kn.ex_move fh99 (.tmp rfl)) fun fa100 fh100 => ?_
    clear fh99 fa99
    refine Kn.pure fh100 rfl rfl (.some rfl rfl rfl) (Kn.ex_move fh100 (.tmp rfl)) fun fa101 fh101 => ?_
    clear fh100 fa100
    refine Kn.call fh101 rfl rfl (.some rfl rfl rfl) (Kn.ex_call fh101 (.cons (.tmp rfl) (.cons (.tmp rfl) (.cons (.tmp rfl) .nil)))) Tryd.call17 (HH.out (w9.drewN q3) (HR9.out.drewN q3)) fun e wb hp => ?_
    obtain ⟨rfl, q4, rfl⟩ := hp
    refine ⟨_, rfl, fun fa102 fh102 => ?_⟩
    clear fh101 fa101
    refine Kn.pure fh102 rfl rfl (.some rfl rfl rfl) (Kn.ex_move fh102 (.tmp rfl)) fun fa103 fh103 => ?_
    clear fh102 fa102
    refine Kn.pure fh103 rfl rfl (.some rfl rfl rfl) (Kn.ex_move fh103 (.tmp rfl)) fun fa104 fh104 => ?_
    clear fh103 fa103
    refine Kn.call fh104 rfl rfl (.some rfl rfl rfl) (Kn.ex_call fh104 (.cons (.tmp rfl) (.cons (.tmp rfl) .nil))) Tryd.call20 (HRH.out ((w9.drewN q3).drewN q4) ((HJ9.out.drewN q3).drewN q4)) fun e wc hp => ?_
    obtain ⟨rfl, rfl⟩ := hp
    refine ⟨_, rfl, fun fa105 fh105 => ?_⟩
    clear fh104 fa104
    refine Kn.step fh105 rfl rfl (.some rfl rfl rfl) (Kn.ex_bin fh105 (.tmp rfl) (.tmp rfl)) fun Ko hKo => ?_
    go_simp
    try go_bits
    refine hKo _ _ fun fa106 fh106 => ?_
    clear hKo Ko fh105 fa105
    refine Kn.pure fh106 rfl rfl .none (Kn.ex_pick fh106 (.tmp rfl) (.tmp rfl)) fun fa107 fh107 => ?_
    clear fh106 fa106
    refine wpList_nil ?_
    refine hK19 _ _ ?_
    clear hK19 K19
    replace fh107 := fh107.cut (.cons (t := 147) rfl (.cons (t := 12) rfl (.cons (t := 9) rfl (.cons (t := 7) rfl (.cons (t := 6) rfl (.cons (t := 0) rfl .nil))))))
    refine Kn.no fh107 (.tmp rfl) ?_
    refine wp_skip ?_
    refine hK16 _ _ ?_
    clear hK16 K16
    replace fh107 := fh107.cut (.cons (t := 12) rfl (.cons (t := 9) rfl (.cons (t := 7) rfl (.cons (t := 6) rfl (.cons (t := 0) rfl .nil)))))
    refine Kn.gen (fun u => EIn u (some ⟨gz, 0, none⟩) ys ∧ Rep u w2.heap.size g N ys ∧ Below w.heap.size w u) ⟨HE9.out, ⟨HR9.out.srt, HR9.out.good, HR9.out.mem⟩, ⟨HB9.out.1, HB9.out.2, HB9.out.3, HB9.out.4, HB9.out.5⟩⟩ fun w10 hu => ?_
    obtain ⟨hE10, hR10, hB10⟩ := hu
    have HE10 := Lib.hid hE10
    have HR10 := Lib.hid hR10
    have HB10 := Lib.hid hB10
    clear hE10 hR10 hB10 hi
    refine wp_seq_k fun K20 hK20 => ?_
    refine wp_seq_k fun K21 hK21 => ?_
    refine wp_region_lit ?_
    refine Kn.pure fh107 rfl rfl .none (Kn.ex_move fh107 (.tmp rfl)) fun fa108 fh108 => ?_
    clear fh107 fa107
    refine Kn.step fh108 rfl rfl .none (Kn.ex_bin fh108 (.tmp rfl) .const) fun Ko hKo => ?_
    go_simp
    try go_bits
    refine hKo _ _ fun fa109 fh109 => ?_
    clear hKo Ko fh108 fa108
    refine Kn.pure fh109 rfl rfl .none (Kn.ex_move fh109 (.tmp rfl)) fun fa110 fh110 => ?_
    clear fh109 fa109
    refine Kn.pure fh110 rfl rfl (.some rfl rfl rfl) (Kn.ex_move fh110 (.tmp rfl)) fun fa111 fh111 => ?_
    clear fh110 fa110
    refine Kn.pure fh111 rfl rfl (.some rfl rfl rfl) (Kn.ex_move fh111 (.tmp rfl)) fun fa112 fh112 => ?_
    clear fh111 fa111
    refine Kn.step fh112 rfl rfl (.some rfl rfl rfl) (Kn.ex_bin fh112 (.tmp rfl) (.tmp rfl)) fun Ko hKo => ?_
    go_simp
    try go_bits
    refine hKo _ _ fun fa113 fh113 => ?_
    clear hKo Ko fh112 fa112
    refine Kn.pure fh113 rfl rfl .none (Kn.ex_pick fh113 (.tmp rfl) (.tmp rfl)) fun fa114 fh114 => ?_
    clear fh113 fa113
    refine wpList_nil ?_
    refine hK21 _ _ ?_
    clear hK21 K21
    replace fh114 := fh114.cut (.cons (t := 154) rfl (.cons (t := 12) rfl (.cons (t := 9) rfl (.cons (t := 7) rfl (.cons (t := 6) rfl .nil)))))
    refine Kn.no fh114 (.tmp rfl) ?_
    refine wp_skip ?_
    refine hK20 _ _ ?_
    clear hK20 K20
    replace fh114 := fh114.cut (.cons (t := 12) rfl (.cons (t := 9) rfl (.cons (t := 7) rfl (.cons (t := 6) rfl .nil))))
    have hbe := HBe.out w10 HR10.out
    have hrb := HRb.out w10 HE10.out
    rw [bgI, if_neg (by omega)] at hbe
    refine wp_seq_k fun K22 hK22 => ?_
    refine wp_region_lit ?_
    refine Kn.pure fh114 rfl rfl .none (Kn.ex_move fh114 (.tmp rfl)) fun fa115 fh115 => ?_
    clear fh114 fa114
    refine Kn.pure fh115 rfl rfl .none (Kn.ex_move fh115 (.tmp rfl)) fun fa116 fh116 => ?_
    clear fh115 fa115
    refine Kn.call fh116 rfl rfl .none (Kn.ex_call fh116 (.cons (.tmp rfl) (.cons (.tmp rfl) .nil))) Tryd.call21 (hbe) fun e wa hp => ?_
    obtain ⟨rfl, rfl⟩ := hp
    refine ⟨_, rfl, fun fa117 fh117 => ?_⟩
    clear fh116 fa116
    refine Kn.pure fh117 rfl rfl .none (Kn.ex_move fh117 (.tmp rfl)) fun fa118 fh118 => ?_
    clear fh117 fa117
    refine Kn.pure fh118 rfl rfl .none (Kn.ex_move fh118 (.tmp rfl)) fun fa119 fh119 => ?_
    clear fh118 fa118
    refine Kn.call fh119 rfl rfl .none (Kn.ex_call fh119 (.cons (.tmp rfl) (.cons (.tmp rfl) .nil))) Tryd.call22 (hrb) fun e wb hp => ?_
    obtain ⟨rfl, rfl⟩ := hp
    refine ⟨_, rfl, fun fa120 fh120 => ?_⟩
    clear fh119 fa119
    refine Kn.step fh120 rfl rfl .none (Kn.ex_bin fh120 (.tmp rfl) (.tmp rfl)) fun Ko hKo => ?_
    go_simp
    try go_bits
    refine hKo _ _ fun fa121 fh121 => ?_
    clear hKo Ko fh120 fa120
    refine Kn.pure fh121 rfl rfl .none (Kn.ex_assign fh121 (.tmp rfl)) fun fa122 fh122 => ?_
    clear fh121 fa121
    refine wpList_nil ?_
    refine hK22 _ _ ?_
    clear hK22 K22
    replace fh122 := fh122.cut (.cons (t := 6) rfl .nil)
    refine wp_ret ?_
    exact Kn.ret1 fh122 rfl rfl ⟨by simp, HB10.out⟩
  have hp2 : wrongP n xs ≠ -2 := fun h => hg ((wrongP_good n xs).1 h)
  have hn := build_no n A ca xs w2 HA2.out hg
  have hw : ∀ u, EIn u A xs → _ := fun u hu => wrong_p n A ca xs u hu
  unfold faultV at hn
  generalize wrongP n xs = p at hp2 hn hw
  have q : (p != -2) = true := by simp [hp2]
  have HW := Lib.hid hw
  clear hp2 hw hg
  refine wp_seq_k fun K7 hK7 => ?_
  refine wp_region_lit ?_
  refine Kn.pure fh13 rfl rfl .none (Kn.ex_move fh13 (.tmp rfl)) fun fa14 fh14 => ?_
  clear fh13 fa13
  refine Kn.pure fh14 rfl rfl .none (Kn.ex_move fh14 (.tmp rfl)) fun fa15 fh15 => ?_
  clear fh14 fa14
  refine Kn.call fh15 rfl rfl .none (Kn.ex_call fh15 (.cons (.tmp rfl) (.cons (.tmp rfl) .nil))) Tryd.call6 (hn) fun e w3 hp => ?_
  obtain ⟨rfl, hb3⟩ := hp
  refine ⟨_, rfl, fun fa16 fh16 => ?_⟩
  clear fh15 fa15
  refine Kn.pure fh16 rfl rfl .none (Kn.ex_move fh16 (.tmp rfl)) fun fa17 fh17 => ?_
  clear fh16 fa16
  refine Kn.pure fh17 rfl rfl .none (Kn.ex_extract fh17 (.tmp rfl) rfl) fun fa18 fh18 => ?_
  clear fh17 fa17
  refine Kn.pure fh18 rfl rfl .none (Kn.ex_extract fh18 (.tmp rfl) rfl) fun fa19 fh19 => ?_
  clear fh18 fa18
  refine Kn.pure fh19 rfl rfl .none (Kn.ex_assign fh19 (.tmp rfl)) fun fa20 fh20 => ?_
  clear fh19 fa19
  refine Kn.pure fh20 rfl rfl .none (Kn.ex_assign fh20 (.tmp rfl)) fun fa21 fh21 => ?_
  clear fh20 fa20
  refine wpList_nil ?_
  refine hK7 _ _ ?_
  clear hK7 K7
  replace fh21 := fh21.cut (.cons (t := 10) rfl (.cons (t := 9) rfl (.cons (t := 8) rfl (.cons (t := 7) rfl (.cons (t := 6) rfl (.cons (t := 0) rfl (.cons (t := 1) rfl .nil)))))))
  have HA3 := Lib.hid (HA2.out.on hb3)
  have HT3 := Lib.hid (HT2.out.on hb3)
  have HB3 := Lib.hid (HB2.out.trans (hb3.mono HB2.out.size))
  clear hn hb3 HA2 HT2 HB2
  refine wp_seq_k fun K8 hK8 => ?_
  refine wp_seq_k fun K9 hK9 => ?_
  refine wp_region_lit ?_
  refine Kn.pure fh21 rfl rfl .none (Kn.ex_move fh21 (.tmp rfl)) fun fa22 fh22 => ?_
  clear fh21 fa21
  refine Kn.pure fh22 rfl rfl .none (Kn.ex_move fh22 (.tmp rfl)) fun fa23 fh23 => ?_
  clear fh22 fa22
  refine Kn.call fh23 rfl rfl .none (Kn.ex_call fh23 (.cons (.tmp rfl) (.cons (.tmp rfl) .nil))) Tryd.call7 (HW.out w3 HA3.out) fun e w4 hp => ?_
  obtain ⟨rfl, rfl⟩ := hp
  refine ⟨_, rfl, fun fa24 fh24 => ?_⟩
  clear fh23 fa23
  refine Kn.pure fh24 rfl rfl .none (Kn.ex_assign fh24 (.tmp rfl)) fun fa25 fh25 => ?_
  clear fh24 fa24
  refine wpList_nil ?_
  refine hK9 _ _ ?_
  clear hK9 K9
  replace fh25 := fh25.cut (.cons (t := 11) rfl (.cons (t := 10) rfl (.cons (t := 9) rfl (.cons (t := 8) rfl (.cons (t := 7) rfl (.cons (t := 6) rfl (.cons (t := 0) rfl (.cons (t := 1) rfl .nil))))))))
  refine wp_seq_k fun K10 hK10 => ?_
  refine wp_region_lit ?_
  refine Kn.pure fh25 rfl rfl .none (Kn.ex_move fh25 (.tmp rfl)) fun fa26 fh26 => ?_
  clear fh25 fa25
  refine Kn.step fh26 rfl rfl .none (Kn.ex_bin fh26 (.tmp rfl) .const) fun Ko hKo => ?_
  go_simp
  try go_bits
  refine hKo _ _ fun fa27 fh27 => ?_
  clear hKo Ko fh26 fa26
  refine wpList_nil ?_
  refine hK10 _ _ ?_
  clear hK10 K10
  replace fh27 := fh27.cut (.cons (t := 37) rfl (.cons (t := 11) rfl (.cons (t := 10) rfl (.cons (t := 9) rfl (.cons (t := 8) rfl (.cons (t := 7) rfl (.cons (t := 6) rfl (.cons (t := 0) rfl (.cons (t := 1) rfl .nil)))))))))
  refine Kn.yes fh27 (.tmp rfl) ?_
  replace fh27 := fh27.cut (.cons (t := 11) rfl (.cons (t := 10) rfl (.cons (t := 9) rfl (.cons (t := 8) rfl (.cons (t := 7) rfl (.cons (t := 6) rfl (.cons (t := 0) rfl (.cons (t := 1) rfl .nil))))))))
  have hc := Err.code_F p 10 w3 HT3.out
  have hp : ∀ v, Err.ErrTab v → _ := fun v hv => Err.place_F p 10 v hv
  unfold Err.faultV at hc hp
  have HP1 := Lib.hid hp
  clear hp
  refine wp_seq_k fun K11 hK11 => ?_
  refine wp_region_lit ?_
  refine Kn.pure fh27 rfl rfl .none (Kn.ex_move fh27 (.tmp rfl)) fun fa28 fh28 => ?_
  clear fh27 fa27
  refine Kn.step fh28 rfl rfl .none (Kn.ex_bin fh28 (.tmp rfl) .const) fun Ko hKo => ?_
  go_simp
  try go_bits
  refine hKo _ _ fun fa29 fh29 => ?_
  clear hKo Ko fh28 fa28
  refine Kn.pure fh29 rfl rfl .none (Kn.ex_move fh29 (.tmp rfl)) fun fa30 fh30 => ?_
  clear fh29 fa29
  refine Kn.pure fh30 rfl rfl (.some rfl rfl rfl) (Kn.ex_move fh30 (.tmp rfl)) fun fa31 fh31 => ?_
  clear fh30 fa30
  refine Kn.call fh31 rfl rfl (.some rfl rfl rfl) (Kn.ex_call fh31 (.cons (.tmp rfl) .nil)) Tryd.call8 (hc) fun e w4 hp => ?_
  obtain ⟨rfl, hb4⟩ := hp
  refine ⟨_, rfl, fun fa32 fh32 => ?_⟩
  clear fh31 fa31
  have HT4 := Lib.hid (HT3.out.on hb4)
  have HB4 := Lib.hid (HB3.out.trans (hb4.mono HB3.out.size))
  clear hb4 hc
  refine Kn.step fh32 rfl rfl (.some rfl rfl rfl) (Kn.ex_bin fh32 (.tmp rfl) .const) fun Ko hKo => ?_
  go_simp
  try go_bits
  refine hKo _ _ fun fa33 fh33 => ?_
  clear hKo Ko fh32 fa32
  refine Kn.pure fh33 rfl rfl .none (Kn.ex_pick fh33 (.tmp rfl) (.tmp rfl)) fun fa34 fh34 => ?_
  clear fh33 fa33
  refine Kn.pure fh34 rfl rfl .none (Kn.ex_move fh34 (.tmp rfl)) fun fa35 fh35 => ?_
  clear fh34 fa34
  refine Kn.pure fh35 rfl rfl (.some rfl rfl rfl) (Kn.ex_move fh35 (.tmp rfl)) fun fa36 fh36 => ?_
  clear fh35 fa35
  refine Kn.call fh36 rfl rfl (.some rfl rfl rfl) (Kn.ex_call fh36 (.cons (.tmp rfl) .nil)) Tryd.call9 (HP1.out w4 HT4.out) fun e w5 hp => ?_
  obtain ⟨rfl, hb5⟩ := hp
  refine ⟨_, rfl, fun fa37 fh37 => ?_⟩
  clear fh36 fa36
  refine Kn.pure fh37 rfl rfl (.some rfl rfl rfl) (Kn.ex_move fh37 (.tmp rfl)) fun fa38 fh38 => ?_
  clear fh37 fa37
  refine Kn.step fh38 rfl rfl (.some rfl rfl rfl) (Kn.ex_bin fh38 (.tmp rfl) (.tmp rfl)) fun Ko hKo => ?_
  go_simp
  try go_bits
  refine hKo _ _ fun fa39 fh39 => ?_
  clear hKo Ko fh38 fa38
  refine Kn.pure fh39 rfl rfl .none (Kn.ex_pick fh39 (.tmp rfl) (.tmp rfl)) fun fa40 fh40 => ?_
  clear fh39 fa39
  refine Kn.pure fh40 rfl rfl .none (Kn.ex_assign fh40 (.tmp rfl)) fun fa41 fh41 => ?_
  clear fh40 fa40
  refine wpList_nil ?_
  refine hK11 _ _ ?_
  clear hK11 K11
  replace fh41 := fh41.cut (.cons (t := 6) rfl (.cons (t := 10) rfl (.cons (t := 9) rfl (.cons (t := 8) rfl (.cons (t := 7) rfl (.cons (t := 0) rfl (.cons (t := 1) rfl .nil)))))))
  refine wp_ret ?_
  refine Kn.then_ret ?_
  exact Kn.ret1 fh41 rfl rfl ⟨by simp, HB4.out.trans (hb5.mono HB4.out.size)⟩

end Go.Proofs.YtinjecaanjeapaaDoor.Csr
