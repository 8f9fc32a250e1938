/- Loop 6 of the document's digest (written by gen_refsum.py). -/
import Derived.Test.YteciidnjikcimaaDoorSumS
namespace Go.Proofs.YteciidnjikcimaaDoor.Sha
open Go.RowKit Go.Lib

set_option maxRecDepth 100000 in
set_option maxHeartbeats 4000000 in
theorem lp6 (w0 v : World) (fa0 : Act) (v1 v12 : Value) (A n2 g2 cap2 gh caph gw capw : Nat) (Hm PL W : List Nat) (Q : Exit → Act → World → Prop) (hP : ∀ d v c b w, Q (.panic c) (b.put d v) w → Q (.panic c) b w)
    (fh0 : Kn.Kn 354 [(16, .int .i64 16), (14, .slice (some ⟨gw, 0, none⟩) 16 capw), (13, .int .i64 (A : Int)), (12, v12), (7, .slice (some ⟨g2, 0, none⟩) n2 cap2), (1, v1)] fa0)
    (HWl : Hid (W.length = 64)) (HWb : Hid (∀ i, wd W i < 4294967296)) (HWhi : Hid (∀ i, 16 ≤ i → i < 64 → wd W i = nextW W i))
    (hS : Ws w0 v gw capw (W.take 16) gh caph Hm g2 cap2 PL)
    (hQ : ∀ a v gw capw, Kn.Kn 354 [(14, .slice (some ⟨gw, 0, none⟩) 64 capw), (13, .int .i64 (A : Int)), (12, v12), (7, .slice (some ⟨g2, 0, none⟩) n2 cap2), (1, v1)] a → Ws w0 v gw capw W gh caph Hm g2 cap2 PL → Q .normal a v) :
    (Code.block 10 (.loop (bodyS 5))).wp Tryd.prog Q fa0 v := by
  refine wp_block ?_
  refine Kn.loop (fun m a v => ∃ (k gw capw : Nat), Kn.Kn 354 [(16, .int .i64 (k : Int)), (14, .slice (some ⟨gw, 0, none⟩) k capw), (13, .int .i64 (A : Int)), (12, v12), (7, .slice (some ⟨g2, 0, none⟩) n2 cap2), (1, v1)] a ∧ k + m = 64 ∧ 16 ≤ k ∧ Hid (Ws w0 v gw capw (W.take k) gh caph Hm g2 cap2 PL)) 48 ⟨16, gw, capw, fh0.cut (.cons (t := 16) rfl (.cons (t := 14) rfl (.cons (t := 13) rfl (.cons (t := 12) rfl (.cons (t := 7) rfl (.cons (t := 1) rfl .nil)))))), by omega, by omega, Lib.hid hS⟩ ?_
  clear fh0 fa0
  intro m fa1 v hI Kl1 hKl1
  conv => arg 2; whnf
  obtain ⟨k, gw, capw, fh1, hk, hk16, HS⟩ := hI
  clear hS
  by_cases hlt : k < 64
  · refine wp_seq_k fun K2 hK2 => ?_
    refine wp_seq_k fun K3 hK3 => ?_
    refine wp_region_lit ?_
    refine Kn.pure fh1 rfl rfl .none (Kn.ex_move fh1 (.tmp rfl)) fun fa2 fh2 => ?_
    clear fh1 fa1
    have qd : decide ((k : Int) < 64) = true := decide_eq_true (by omega)
    refine Kn.step fh2 rfl rfl .none (Kn.ex_bin fh2 (.tmp rfl) .const) fun Ko hKo => ?_
    go_simp
    try go_bits
    refine hKo _ _ fun fa3 fh3 => ?_
    clear hKo Ko fh2 fa2
    clear qd
    refine wpList_nil ?_
    refine hK3 _ _ ?_
    clear hK3 K3
    replace fh3 := fh3.cut (.cons (t := 129) rfl (.cons (t := 16) rfl (.cons (t := 14) rfl (.cons (t := 13) rfl (.cons (t := 12) rfl (.cons (t := 7) rfl (.cons (t := 1) rfl .nil)))))))
    refine Kn.yes fh3 (.tmp rfl) ?_
    refine wp_skip ?_
    refine hK2 _ _ ?_
    clear hK2 K2
    replace fh3 := fh3.cut (.cons (t := 16) rfl (.cons (t := 14) rfl (.cons (t := 13) rfl (.cons (t := 12) rfl (.cons (t := 7) rfl (.cons (t := 1) rfl .nil))))))
    refine wp_seq_k fun K4 hK4 => ?_
    refine wp_block ?_
    obtain ⟨i0, hi0⟩ : ∃ a, k = a + 16 := ⟨k - 16, by omega⟩
    have HI0 := Lib.hid hi0
    have r16 : (k : Int) - 16 = (i0 : Int) := by omega
    have hi0k : i0 < k := by omega
    have hcl : ∀ j, j < k → v.cell? ⟨gw, j, none⟩ = some (.int .i64 ((wd W j : Nat) : Int)) := fun j hj => by
      rw [HS.out.ow.cell (by rw [List.length_take, HWl.out]; omega), wd_take _ _ _ hj]
    obtain ⟨i1, hi1⟩ : ∃ i, i0 + 1 = i := ⟨_, rfl⟩
    have r15 : (k : Int) - 15 = (i1 : Int) := by omega
    have hi1k : i1 < k := by omega
    obtain ⟨i9, hi9⟩ : ∃ i, i0 + 9 = i := ⟨_, rfl⟩
    have r7 : (k : Int) - 7 = (i9 : Int) := by omega
    have hi9k : i9 < k := by omega
    obtain ⟨i14, hi14⟩ : ∃ i, i0 + 14 = i := ⟨_, rfl⟩
    have r2 : (k : Int) - 2 = (i14 : Int) := by omega
    have hi14k : i14 < k := by omega
    have c0 := hcl i0 (by omega)
    have b0 := HWb.out i0
    obtain ⟨x0, hx0⟩ : ∃ x, wd W i0 = x := ⟨_, rfl⟩
    rw [hx0] at c0 b0
    have c1 := hcl i1 (by omega)
    have b1 := HWb.out i1
    obtain ⟨x1, hx1⟩ : ∃ x, wd W i1 = x := ⟨_, rfl⟩
    rw [hx1] at c1 b1
    have c9 := hcl i9 (by omega)
    have b9 := HWb.out i9
    obtain ⟨x9, hx9⟩ : ∃ x, wd W i9 = x := ⟨_, rfl⟩
    rw [hx9] at c9 b9
    have c14 := hcl i14 (by omega)
    have b14 := HWb.out i14
    obtain ⟨x14, hx14⟩ : ∃ x, wd W i14 = x := ⟨_, rfl⟩
    rw [hx14] at c14 b14
    have HY : Hid (wd W k = (x0 + sg0 x1 + x9 + sg1 x14) % 4294967296) := Lib.hid (by rw [HWhi.out k hk16 hlt, HI0.out, next_eq, hi1, hi9, hi14, hx0, hx1, hx9, hx14])
    clear hcl hx0 hx1 hx9 hx14 hi0 hi1 hi9 hi14 HI0
    refine wp_seq_k fun K5 hK5 => ?_
    refine Kn.still (by kernel_rfl) (by kernel_rfl) ?_
    refine Kn.spure fh3 rfl rfl .none (Kn.ex_move fh3 (.tmp rfl)) fun fa4 fh4 => ?_
    clear fh3 fa3
    refine Kn.spure fh4 rfl rfl .none (Kn.ex_move fh4 (.tmp rfl)) fun fa5 fh5 => ?_
    clear fh4 fa4
    refine Kn.sstep fh5 rfl rfl .none (Kn.ex_bin fh5 (.tmp rfl) .const) fun Ko hKo => ?_
    go_simp
    try go_bits
    refine hKo _ fun fa6 fh6 => ?_
    clear hKo Ko fh5 fa5
    refine Kn.sstep fh6 rfl rfl .none (Kn.ex_indexAddr fh6 (.tmp rfl) (.tmp rfl)) fun Ko hKo => ?_
    go_simp
    try go_bits
    refine hKo _ fun fa7 fh7 => ?_
    clear hKo Ko fh6 fa6
    refine Kn.sstep fh7 rfl rfl .none (Kn.ex_load fh7 (.tmp rfl)) fun Ko hKo => ?_
    go_simp
    try go_bits
    refine hKo _ fun fa8 fh8 => ?_
    clear hKo Ko fh7 fa7
    refine Kn.spure fh8 rfl rfl .none (Kn.ex_move fh8 (.tmp rfl)) fun fa9 fh9 => ?_
    clear fh8 fa8
    refine Kn.spure fh9 rfl rfl .none (Kn.ex_move fh9 (.tmp rfl)) fun fa10 fh10 => ?_
    clear fh9 fa9
    refine Kn.sstep fh10 rfl rfl .none (Kn.ex_bin fh10 (.tmp rfl) .const) fun Ko hKo => ?_
    go_simp
    try go_bits
    refine hKo _ fun fa11 fh11 => ?_
    clear hKo Ko fh10 fa10
    refine Kn.sstep fh11 rfl rfl .none (Kn.ex_indexAddr fh11 (.tmp rfl) (.tmp rfl)) fun Ko hKo => ?_
    go_simp
    try go_bits
    refine hKo _ fun fa12 fh12 => ?_
    clear hKo Ko fh11 fa11
    refine Kn.sstep fh12 rfl rfl .none (Kn.ex_load fh12 (.tmp rfl)) fun Ko hKo => ?_
    go_simp
    try go_bits
    refine hKo _ fun fa13 fh13 => ?_
    clear hKo Ko fh12 fa12
    refine Kn.spure fh13 rfl rfl .none (Kn.ex_assign fh13 (.tmp rfl)) fun fa14 fh14 => ?_
    clear fh13 fa13
    refine Kn.spure fh14 rfl rfl .none (Kn.ex_assign fh14 (.tmp rfl)) fun fa15 fh15 => ?_
    clear fh14 fa14
    refine wpStill_nil ?_
    refine hK5 _ _ ?_
    clear hK5 K5
    replace fh15 := fh15.cut (.cons (t := 18) rfl (.cons (t := 17) rfl (.cons (t := 16) rfl (.cons (t := 14) rfl (.cons (t := 13) rfl (.cons (t := 12) rfl (.cons (t := 7) rfl (.cons (t := 1) rfl .nil))))))))
    obtain ⟨ya, hya, bya⟩ := rotN x1 7 (by omega) b1
    obtain ⟨yb, hyb, byb⟩ := rotN x1 18 (by omega) b1
    obtain ⟨yc, hyc⟩ : ∃ y, x1 / 8 = y := ⟨_, rfl⟩
    have byc : yc < 4294967296 := by omega
    obtain ⟨yd, hyd, byd, jd⟩ := xorN ya yb bya byb
    obtain ⟨s0, hye, bs0, je⟩ := xorN yd yc byd byc
    have Hs0 : Hid (sg0 x1 = s0) := Lib.hid (by rw [sg0, hya, hyb, hyc, hyd, hye])
    have Hya := Lib.hid hya
    have Hyb := Lib.hid hyb
    have Hyc := Lib.hid hyc
    clear hya hyb hyc hyd hye
    refine wp_seq_k fun K6 hK6 => ?_
    refine wp_region_lit ?_
    refine Kn.pure fh15 rfl rfl .none (Kn.ex_move fh15 (.tmp rfl)) fun fa16 fh16 => ?_
    clear fh15 fa15
    refine Kn.call fh16 rfl rfl .none (Kn.ex_call fh16 (.cons (.tmp rfl) (.cons .const .nil))) Tryd.call25 (turn_l x1 7 7 ya _ b1 rfl (by omega) Hya.out) fun e wx hp => ?_
    obtain ⟨rfl, q1, rfl⟩ := hp
    refine ⟨_, rfl, fun fa17 fh17 => ?_⟩
    clear fh16 fa16
    refine Kn.pure fh17 rfl rfl .none (Kn.ex_move fh17 (.tmp rfl)) fun fa18 fh18 => ?_
    clear fh17 fa17
    refine Kn.call fh18 rfl rfl .none (Kn.ex_call fh18 (.cons (.tmp rfl) (.cons .const .nil))) Tryd.call25 (turn_l x1 18 18 yb _ b1 rfl (by omega) Hyb.out) fun e wx hp => ?_
    obtain ⟨rfl, q2, rfl⟩ := hp
    refine ⟨_, rfl, fun fa19 fh19 => ?_⟩
    clear fh18 fa18
    refine Kn.step fh19 rfl rfl .none (Kn.ex_bin fh19 (.tmp rfl) (.tmp rfl)) fun Ko hKo => ?_
    go_simp
    try go_bits
    refine hKo _ _ fun fa20 fh20 => ?_
    clear hKo Ko fh19 fa19
    refine Kn.pure fh20 rfl rfl .none (Kn.ex_move fh20 (.tmp rfl)) fun fa21 fh21 => ?_
    clear fh20 fa20
    refine Kn.call fh21 rfl rfl .none (Kn.ex_call fh21 (.cons (.tmp rfl) (.cons .const .nil))) Tryd.call26 (half3 x1 yc _ b1 Hyc.out) fun e wx hp => ?_
    obtain ⟨rfl, rfl⟩ := hp
    refine ⟨_, rfl, fun fa22 fh22 => ?_⟩
    clear fh21 fa21
    refine Kn.step fh22 rfl rfl .none (Kn.ex_bin fh22 (.tmp rfl) (.tmp rfl)) fun Ko hKo => ?_
    go_simp
    try go_bits
    refine hKo _ _ fun fa23 fh23 => ?_
    clear hKo Ko fh22 fa22
    refine Kn.pure fh23 rfl rfl .none (Kn.ex_assign fh23 (.tmp rfl)) fun fa24 fh24 => ?_
    clear fh23 fa23
    refine wpList_nil ?_
    refine hK6 _ _ ?_
    clear hK6 K6
    replace fh24 := fh24.cut (.cons (t := 19) rfl (.cons (t := 18) rfl (.cons (t := 16) rfl (.cons (t := 14) rfl (.cons (t := 13) rfl (.cons (t := 12) rfl (.cons (t := 7) rfl (.cons (t := 1) rfl .nil))))))))
    clear jd je Hya Hyb Hyc bya byb byc byd
    obtain ⟨ya, hya, bya⟩ := rotN x14 17 (by omega) b14
    obtain ⟨yb, hyb, byb⟩ := rotN x14 19 (by omega) b14
    obtain ⟨yc, hyc⟩ : ∃ y, x14 / 1024 = y := ⟨_, rfl⟩
    have byc : yc < 4294967296 := by omega
    obtain ⟨yd, hyd, byd, jd⟩ := xorN ya yb bya byb
    obtain ⟨s1, hye, bs1, je⟩ := xorN yd yc byd byc
    have Hs1 : Hid (sg1 x14 = s1) := Lib.hid (by rw [sg1, hya, hyb, hyc, hyd, hye])
    have Hya := Lib.hid hya
    have Hyb := Lib.hid hyb
    have Hyc := Lib.hid hyc
    clear hya hyb hyc hyd hye
    refine wp_seq_k fun K7 hK7 => ?_
    refine wp_region_lit ?_
    refine Kn.pure fh24 rfl rfl .none (Kn.ex_move fh24 (.tmp rfl)) fun fa25 fh25 => ?_
    clear fh24 fa24
    refine Kn.call fh25 rfl rfl .none (Kn.ex_call fh25 (.cons (.tmp rfl) (.cons .const .nil))) Tryd.call25 (turn_l x14 17 17 ya _ b14 rfl (by omega) Hya.out) fun e wx hp => ?_
    obtain ⟨rfl, q3, rfl⟩ := hp
    refine ⟨_, rfl, fun fa26 fh26 => ?_⟩
    clear fh25 fa25
    refine Kn.pure fh26 rfl rfl .none (Kn.ex_move fh26 (.tmp rfl)) fun fa27 fh27 => ?_
    clear fh26 fa26
    refine Kn.call fh27 rfl rfl .none (Kn.ex_call fh27 (.cons (.tmp rfl) (.cons .const .nil))) Tryd.call25 (turn_l x14 19 19 yb _ b14 rfl (by omega) Hyb.out) fun e wx hp => ?_
    obtain ⟨rfl, q4, rfl⟩ := hp
    refine ⟨_, rfl, fun fa28 fh28 => ?_⟩
    clear fh27 fa27
    refine Kn.step fh28 rfl rfl .none (Kn.ex_bin fh28 (.tmp rfl) (.tmp rfl)) fun Ko hKo => ?_
    go_simp
    try go_bits
    refine hKo _ _ fun fa29 fh29 => ?_
    clear hKo Ko fh28 fa28
    refine Kn.pure fh29 rfl rfl .none (Kn.ex_move fh29 (.tmp rfl)) fun fa30 fh30 => ?_
    clear fh29 fa29
    refine Kn.call fh30 rfl rfl .none (Kn.ex_call fh30 (.cons (.tmp rfl) (.cons .const .nil))) Tryd.call26 (half10 x14 yc _ b14 Hyc.out) fun e wx hp => ?_
    obtain ⟨rfl, rfl⟩ := hp
    refine ⟨_, rfl, fun fa31 fh31 => ?_⟩
    clear fh30 fa30
    refine Kn.step fh31 rfl rfl .none (Kn.ex_bin fh31 (.tmp rfl) (.tmp rfl)) fun Ko hKo => ?_
    go_simp
    try go_bits
    refine hKo _ _ fun fa32 fh32 => ?_
    clear hKo Ko fh31 fa31
    refine Kn.pure fh32 rfl rfl .none (Kn.ex_assign fh32 (.tmp rfl)) fun fa33 fh33 => ?_
    clear fh32 fa32
    refine wpList_nil ?_
    refine hK7 _ _ ?_
    clear hK7 K7
    replace fh33 := fh33.cut (.cons (t := 20) rfl (.cons (t := 19) rfl (.cons (t := 16) rfl (.cons (t := 14) rfl (.cons (t := 13) rfl (.cons (t := 12) rfl (.cons (t := 7) rfl (.cons (t := 1) rfl .nil))))))))
    clear jd je Hya Hyb Hyc bya byb byc byd
    refine Kn.gen (fun u => Ws w0 u gw capw (W.take k) gh caph Hm g2 cap2 PL ∧ u.cell? ⟨gw, i0, none⟩ = some (.int .i64 (x0 : Int)) ∧ u.cell? ⟨gw, i9, none⟩ = some (.int .i64 (x9 : Int))) ⟨HS.out.drewN _, c0, c9⟩ fun u ⟨hSu, d0, d9⟩ => ?_
    clear c0 c1 c9 c14
    obtain ⟨z1, hz1⟩ : ∃ z, x0 + s0 = z := ⟨_, rfl⟩
    obtain ⟨z2, hz2⟩ : ∃ z, z1 + x9 = z := ⟨_, rfl⟩
    obtain ⟨z3, hz3⟩ : ∃ z, z2 + s1 = z := ⟨_, rfl⟩
    obtain ⟨y, hy⟩ : ∃ y, z3 % 4294967296 = y := ⟨_, rfl⟩
    have a1 : (x0 : Int) + (s0 : Int) = (z1 : Int) := by omega
    have a2 : (z1 : Int) + (x9 : Int) = (z2 : Int) := by omega
    have a3 : (z2 : Int) + (s1 : Int) = (z3 : Int) := by omega
    have a4 : (z3 : Int) % 4294967296 = (y : Int) := by omega
    have l1 : z1 < 18000000000 := by omega
    have l2 : z2 < 18000000000 := by omega
    have l3 : z3 < 18000000000 := by omega
    have HYY : Hid (wd W k = y) := Lib.hid (by rw [HY.out, Hs0.out, Hs1.out, hz1, hz2, hz3, hy])
    clear hz1 hz2 hz3 hy HY HS
    obtain ⟨gn, capn, vn, hrun, hown, hbel, hkep⟩ := push1 w0 u.drew 32 gw capw k y (W.take k) hSu.ow.drew (by rw [List.length_take, HWl.out]; omega) (below_drew hSu.old) (by omega)
    have HN := Lib.hid (hSu.drew.push hown hbel hkep)
    clear hown hbel hkep hSu
    refine Sha.knPush 16 (by kernel_rfl) fh33 (by kernel_rfl) rfl rfl rfl rfl rfl (fun _ _ _ _ _ h => hP _ _ _ _ _ h) rfl rfl fun fa34 fh34 => ?_
    clear fh33 fa33
    refine Kn.spure fh34 rfl rfl .none (Kn.ex_move fh34 (.tmp rfl)) fun fa35 fh35 => ?_
    clear fh34 fa34
    refine Kn.spure fh35 rfl rfl .none (Kn.ex_move fh35 (.tmp rfl)) fun fa36 fh36 => ?_
    clear fh35 fa35
    refine Kn.sstep fh36 rfl rfl .none (Kn.ex_bin fh36 (.tmp rfl) .const) fun Ko hKo => ?_
    go_simp
    try go_bits
    refine hKo _ fun fa37 fh37 => ?_
    clear hKo Ko fh36 fa36
    refine Kn.sstep fh37 rfl rfl .none (Kn.ex_indexAddr fh37 (.tmp rfl) (.tmp rfl)) fun Ko hKo => ?_
    go_simp
    try go_bits
    refine hKo _ fun fa38 fh38 => ?_
    clear hKo Ko fh37 fa37
    refine Kn.sstep fh38 rfl rfl .none (Kn.ex_load fh38 (.tmp rfl)) fun Ko hKo => ?_
    go_simp
    try go_bits
    refine hKo _ fun fa39 fh39 => ?_
    clear hKo Ko fh38 fa38
    refine Kn.spure fh39 rfl rfl .none (Kn.ex_move fh39 (.tmp rfl)) fun fa40 fh40 => ?_
    clear fh39 fa39
    refine Kn.sstep fh40 rfl rfl .none (Kn.ex_bin fh40 (.tmp rfl) (.tmp rfl)) fun Ko hKo => ?_
    go_simp
    try go_bits
    refine hKo _ fun fa41 fh41 => ?_
    clear hKo Ko fh40 fa40
    refine Kn.spure fh41 rfl rfl .none (Kn.ex_move fh41 (.tmp rfl)) fun fa42 fh42 => ?_
    clear fh41 fa41
    refine Kn.spure fh42 rfl rfl .none (Kn.ex_move fh42 (.tmp rfl)) fun fa43 fh43 => ?_
    clear fh42 fa42
    refine Kn.sstep fh43 rfl rfl .none (Kn.ex_bin fh43 (.tmp rfl) .const) fun Ko hKo => ?_
    go_simp
    try go_bits
    refine hKo _ fun fa44 fh44 => ?_
    clear hKo Ko fh43 fa43
    refine Kn.sstep fh44 rfl rfl .none (Kn.ex_indexAddr fh44 (.tmp rfl) (.tmp rfl)) fun Ko hKo => ?_
    go_simp
    try go_bits
    refine hKo _ fun fa45 fh45 => ?_
    clear hKo Ko fh44 fa44
    refine Kn.sstep fh45 rfl rfl .none (Kn.ex_load fh45 (.tmp rfl)) fun Ko hKo => ?_
    go_simp
    try go_bits
    refine hKo _ fun fa46 fh46 => ?_
    clear hKo Ko fh45 fa45
    refine Kn.sstep fh46 rfl rfl .none (Kn.ex_bin fh46 (.tmp rfl) (.tmp rfl)) fun Ko hKo => ?_
    go_simp
    try go_bits
    refine hKo _ fun fa47 fh47 => ?_
    clear hKo Ko fh46 fa46
    refine Kn.spure fh47 rfl rfl .none (Kn.ex_move fh47 (.tmp rfl)) fun fa48 fh48 => ?_
    clear fh47 fa47
    refine Kn.sstep fh48 rfl rfl .none (Kn.ex_bin fh48 (.tmp rfl) (.tmp rfl)) fun Ko hKo => ?_
    go_simp
    try go_bits
    refine hKo _ fun fa49 fh49 => ?_
    clear hKo Ko fh48 fa48
    refine Kn.sstep fh49 rfl rfl .none (Kn.ex_bin fh49 (.tmp rfl) .const) fun Ko hKo => ?_
    go_simp
    try go_bits
    refine hKo _ fun fa50 fh50 => ?_
    clear hKo Ko fh49 fa49
    refine wpStill_nil ?_
    refine Kn.step fh50 rfl rfl .none (Kn.ex_buildSlice fh50 (.cons (.tmp rfl) .nil)) fun Ko hKo => ?_
    go_simp
    try go_bits
    refine hKo _ _ fun fa51 fh51 => ?_
    clear hKo Ko fh50 fa50
    refine Kn.known fh51 rfl rfl .none (Kn.ex_append fh51 (.cons (.tmp rfl) (.cons (.tmp rfl) .nil))) hrun fun fa52 fh52 => ?_
    clear fh51 fa51
    clear hrun
    refine Kn.pure fh52 rfl rfl .none (Kn.ex_assign fh52 (.tmp rfl)) fun fa53 fh53 => ?_
    clear fh52 fa52
    refine wpList_nil ?_
    refine Kn.block_normal ?_
    refine hK4 _ _ ?_
    clear hK4 K4
    replace fh53 := fh53.cut (.cons (t := 14) rfl (.cons (t := 16) rfl (.cons (t := 13) rfl (.cons (t := 12) rfl (.cons (t := 7) rfl (.cons (t := 1) rfl .nil))))))
    clear d0 d9 a1 a2 a3 a4 r16 r15 r7 r2
    refine wp_region_lit ?_
    refine Kn.pure fh53 rfl rfl .none (Kn.ex_move fh53 (.tmp rfl)) fun fa54 fh54 => ?_
    clear fh53 fa53
    refine Kn.step fh54 rfl rfl .none (Kn.ex_bin fh54 (.tmp rfl) .const) fun Ko hKo => ?_
    go_simp
    try go_bits
    refine hKo _ _ fun fa55 fh55 => ?_
    clear hKo Ko fh54 fa54
    refine Kn.pure fh55 rfl rfl .none (Kn.ex_assign fh55 (.tmp rfl)) fun fa56 fh56 => ?_
    clear fh55 fa55
    refine wpList_nil ?_
    replace fh56 := fh56.cut (.cons (t := 16) rfl (.cons (t := 14) rfl (.cons (t := 13) rfl (.cons (t := 12) rfl (.cons (t := 7) rfl (.cons (t := 1) rfl .nil))))))
    exact hKl1 (m - 1) _ _ (by omega) ⟨k + 1, gn, capn, fh56.cut (.turn (t := 16) rfl (by go_num) (.cons (t := 14) rfl (.cons (t := 13) rfl (.cons (t := 12) rfl (.cons (t := 7) rfl (.cons (t := 1) rfl .nil)))))), by omega, by omega, Lib.hid (by rw [take_snoc' W k (by rw [HWl.out]; omega), HYY.out]; exact HN.out)⟩
  · obtain rfl : k = 64 := by omega
    refine wp_seq_k fun K2 hK2 => ?_
    refine wp_seq_k fun K3 hK3 => ?_
    refine wp_region_lit ?_
    refine Kn.pure fh1 rfl rfl .none (Kn.ex_move fh1 (.tmp rfl)) fun fa2 fh2 => ?_
    clear fh1 fa1
    have qd : decide (((64 : Nat) : Int) < 64) = false := decide_eq_false (by omega)
    refine Kn.step fh2 rfl rfl .none (Kn.ex_bin fh2 (.tmp rfl) .const) fun Ko hKo => ?_
    go_simp
    try go_bits
    refine hKo _ _ fun fa3 fh3 => ?_
    clear hKo Ko fh2 fa2
    clear qd
    refine wpList_nil ?_
    refine hK3 _ _ ?_
    clear hK3 K3
    replace fh3 := fh3.cut (.cons (t := 129) rfl (.cons (t := 16) rfl (.cons (t := 14) rfl (.cons (t := 13) rfl (.cons (t := 12) rfl (.cons (t := 7) rfl (.cons (t := 1) rfl .nil)))))))
    refine Kn.no fh3 (.tmp rfl) ?_
    replace fh3 := fh3.cut (.cons (t := 16) rfl (.cons (t := 14) rfl (.cons (t := 13) rfl (.cons (t := 12) rfl (.cons (t := 7) rfl (.cons (t := 1) rfl .nil))))))
    refine wp_exit ?_
    refine Kn.then_exit ?_
    clear hK2 K2
    refine Kn.then_exit ?_
    clear hKl1 Kl1
    refine Kn.block_exit ?_
    replace fh3 := fh3.cut (.cons (t := 14) rfl (.cons (t := 13) rfl (.cons (t := 12) rfl (.cons (t := 7) rfl (.cons (t := 1) rfl .nil)))))
    exact hQ _ _ gw capw fh3 (by have := HS.out; rwa [List.take_of_length_le (by rw [HWl.out]; exact Nat.le_refl _)] at this)
end Go.Proofs.YteciidnjikcimaaDoor.Sha
