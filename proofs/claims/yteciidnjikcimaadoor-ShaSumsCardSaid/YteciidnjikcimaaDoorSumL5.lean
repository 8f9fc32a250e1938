/- Loop 5 of the document's digest (written by gen_refsum.py). -/
import Derived.Test.YteciidnjikcimaaDoorSumS
namespace Go.Proofs.YteciidnjikcimaaDoor.Sha
open Go.RowKit Go.Lib

set_option maxRecDepth 100000 in
set_option maxHeartbeats 4000000 in
theorem lp5 (w0 v : World) (fa0 : Act) (v1 v12 : Value) (A n2 g2 cap2 gh caph gw capw : Nat) (r : List UInt8) (Hm PL W : List Nat) (Q : Exit → Act → World → Prop) (hP : ∀ d v c b w, Q (.panic c) (b.put d v) w → Q (.panic c) b w)
    (fh0 : Kn.Kn 354 [(15, .int .i64 0), (14, .slice (some ⟨gw, 0, none⟩) 0 capw), (13, .int .i64 (A : Int)), (12, v12), (7, .slice (some ⟨g2, 0, none⟩) n2 cap2), (1, v1)] fa0)
    (hA : A + 64 ≤ n2) (hn : n2 ≤ 600) (HPL : Hid (PL.length = n2)) (HWl : Hid (W.length = 64)) (HWlo : Hid (∀ i, i < 16 → wd W i = be4 r i)) (HBt : Hid (∀ j, j < 64 → wd PL (A + j) = bt r j))
    (hS : Ws w0 v gw capw [] gh caph Hm g2 cap2 PL)
    (hQ : ∀ a v gw capw, Kn.Kn 354 [(14, .slice (some ⟨gw, 0, none⟩) 16 capw), (13, .int .i64 (A : Int)), (12, v12), (7, .slice (some ⟨g2, 0, none⟩) n2 cap2), (1, v1)] a → Ws w0 v gw capw (W.take 16) gh caph Hm g2 cap2 PL → Q .normal a v) :
    (Code.block 8 (.loop (bodyS 4))).wp Tryd.prog Q fa0 v := by
  refine wp_block ?_
  refine Kn.loop (fun m a v => ∃ (k gw capw : Nat), Kn.Kn 354 [(15, .int .i64 (k : Int)), (14, .slice (some ⟨gw, 0, none⟩) k capw), (13, .int .i64 (A : Int)), (12, v12), (7, .slice (some ⟨g2, 0, none⟩) n2 cap2), (1, v1)] a ∧ k + m = 16 ∧ Hid (Ws w0 v gw capw (W.take k) gh caph Hm g2 cap2 PL)) 16 ⟨0, gw, capw, fh0.cut (.cons (t := 15) rfl (.cons (t := 14) rfl (.cons (t := 13) rfl (.cons (t := 12) rfl (.cons (t := 7) rfl (.cons (t := 1) rfl .nil)))))), rfl, Lib.hid (by rw [List.take_zero]; exact hS)⟩ ?_
  clear fh0 fa0
  intro m fa1 v hI Kl1 hKl1
  conv => arg 2; whnf
  obtain ⟨k, gw, capw, fh1, hk, HS⟩ := hI
  clear hS
  by_cases hlt : k < 16
  · refine wp_seq_k fun K2 hK2 => ?_
    refine wp_seq_k fun K3 hK3 => ?_
    refine wp_region_lit ?_
    refine Kn.pure fh1 rfl rfl .none (Kn.ex_move fh1 (.tmp rfl)) fun fa2 fh2 => ?_
    clear fh1 fa1
    have qd : decide ((k : Int) < 16) = true := decide_eq_true (by omega)
    refine Kn.step fh2 rfl rfl .none (Kn.ex_bin fh2 (.tmp rfl) .const) fun Ko hKo => ?_
    go_simp
    try go_bits
    refine hKo _ _ fun fa3 fh3 => ?_
    clear hKo Ko fh2 fa2
    clear qd
    refine wpList_nil ?_
    refine hK3 _ _ ?_
    clear hK3 K3
    replace fh3 := fh3.cut (.cons (t := 85) rfl (.cons (t := 15) rfl (.cons (t := 14) rfl (.cons (t := 13) rfl (.cons (t := 12) rfl (.cons (t := 7) rfl (.cons (t := 1) rfl .nil)))))))
    refine Kn.yes fh3 (.tmp rfl) ?_
    refine wp_skip ?_
    refine hK2 _ _ ?_
    clear hK2 K2
    replace fh3 := fh3.cut (.cons (t := 15) rfl (.cons (t := 14) rfl (.cons (t := 13) rfl (.cons (t := 12) rfl (.cons (t := 7) rfl (.cons (t := 1) rfl .nil))))))
    refine wp_seq_k fun K4 hK4 => ?_
    refine wp_block ?_
    have hcl : ∀ j, j < 4 → v.cell? ⟨g2, A + 4 * k + j, none⟩ = some (.int .i64 ((bt r (4 * k + j) : Nat) : Int)) := fun j hj => by
      rw [HS.out.ob.cell (by rw [HPL.out]; omega), Nat.add_assoc A, HBt.out _ (by omega)]
    obtain ⟨i0, hi0⟩ : ∃ i, A + 4 * k = i := ⟨_, rfl⟩
    rw [hi0] at hcl
    have j0 : (A : Int) + 4 * (k : Int) = (i0 : Int) := by omega
    have hi0b : i0 + 3 < n2 := by omega
    have HI0 := Lib.hid hi0
    clear hi0
    obtain ⟨i1, hi1⟩ : ∃ i, i0 + 1 = i := ⟨_, rfl⟩
    have j1 : (i0 : Int) + 1 = (i1 : Int) := by omega
    have hi1b : i1 < n2 := by omega
    obtain ⟨i2, hi2⟩ : ∃ i, i0 + 2 = i := ⟨_, rfl⟩
    have j2 : (i0 : Int) + 2 = (i2 : Int) := by omega
    have hi2b : i2 < n2 := by omega
    obtain ⟨i3, hi3⟩ : ∃ i, i0 + 3 = i := ⟨_, rfl⟩
    have j3 : (i0 : Int) + 3 = (i3 : Int) := by omega
    have hi3b : i3 < n2 := by omega
    have hi0c : i0 < n2 := by omega
    obtain ⟨x0, hx0⟩ : ∃ x, bt r (4 * k + 0) = x := ⟨_, rfl⟩
    have c0 := hcl 0 (by omega)
    have b0 := bt_lt r (4 * k + 0)
    rw [hx0] at c0 b0
    rw [Nat.add_zero] at c0
    obtain ⟨x1, hx1⟩ : ∃ x, bt r (4 * k + 1) = x := ⟨_, rfl⟩
    have c1 := hcl 1 (by omega)
    have b1 := bt_lt r (4 * k + 1)
    rw [hx1] at c1 b1
    rw [hi1] at c1
    obtain ⟨x2, hx2⟩ : ∃ x, bt r (4 * k + 2) = x := ⟨_, rfl⟩
    have c2 := hcl 2 (by omega)
    have b2 := bt_lt r (4 * k + 2)
    rw [hx2] at c2 b2
    rw [hi2] at c2
    obtain ⟨x3, hx3⟩ : ∃ x, bt r (4 * k + 3) = x := ⟨_, rfl⟩
    have c3 := hcl 3 (by omega)
    have b3 := bt_lt r (4 * k + 3)
    rw [hx3] at c3 b3
    rw [hi3] at c3
    have HY : Hid (wd W k = x0 * 16777216 + x1 * 65536 + x2 * 256 + x3) := Lib.hid (by rw [HWlo.out k hlt, be4, ← hx0, ← hx1, ← hx2, ← hx3]; rfl)
    clear hcl hx0 hx1 hx2 hx3 hi1 hi2 hi3
    obtain ⟨y, hy⟩ : ∃ y, x0 * 16777216 + x1 * 65536 + x2 * 256 + x3 = y := ⟨_, rfl⟩
    rw [hy] at HY
    have hyi : (x0 : Int) * 16777216 + (x1 : Int) * 65536 + (x2 : Int) * 256 + (x3 : Int) = (y : Int) := by omega
    have hyb : y < 4294967296 := by omega
    have HHy := Lib.hid hy
    clear hy
    obtain ⟨gn, capn, vn, hrun, hown, hbel, hkep⟩ := push1 w0 v.drew 32 gw capw k y (W.take k) HS.out.ow.drew (by rw [List.length_take, HWl.out]; omega) (below_drew HS.out.old) (by omega)
    have HN := Lib.hid (HS.out.drew.push hown hbel hkep)
    clear hown hbel hkep
    refine Sha.knPush 37 (by kernel_rfl) fh3 (by kernel_rfl) rfl rfl rfl rfl rfl (fun _ _ _ _ _ h => hP _ _ _ _ _ h) rfl rfl fun fa4 fh4 => ?_
    clear fh3 fa3
    refine Kn.spure fh4 rfl rfl .none (Kn.ex_move fh4 (.tmp rfl)) fun fa5 fh5 => ?_
    clear fh4 fa4
    refine Kn.spure fh5 rfl rfl .none (Kn.ex_move fh5 (.tmp rfl)) fun fa6 fh6 => ?_
    clear fh5 fa5
    refine Kn.spure fh6 rfl rfl .none (Kn.ex_move fh6 (.tmp rfl)) fun fa7 fh7 => ?_
    clear fh6 fa6
    refine Kn.sstep fh7 rfl rfl .none (Kn.ex_bin fh7 .const (.tmp rfl)) fun Ko hKo => ?_
    go_simp
    try go_bits
    refine hKo _ fun fa8 fh8 => ?_
    clear hKo Ko fh7 fa7
    refine Kn.sstep fh8 rfl rfl .none (Kn.ex_bin fh8 (.tmp rfl) (.tmp rfl)) fun Ko hKo => ?_
    go_simp
    try go_bits
    refine hKo _ fun fa9 fh9 => ?_
    clear hKo Ko fh8 fa8
    refine Kn.sstep fh9 rfl rfl .none (Kn.ex_indexAddr fh9 (.tmp rfl) (.tmp rfl)) fun Ko hKo => ?_
    go_simp
    try go_bits
    refine hKo _ fun fa10 fh10 => ?_
    clear hKo Ko fh9 fa9
    refine Kn.sstep fh10 rfl rfl .none (Kn.ex_load fh10 (.tmp rfl)) fun Ko hKo => ?_
    go_simp
    try go_bits
    refine hKo _ fun fa11 fh11 => ?_
    clear hKo Ko fh10 fa10
    refine Kn.sstep fh11 rfl rfl .none (Kn.ex_bin fh11 (.tmp rfl) .const) fun Ko hKo => ?_
    go_simp
    try go_bits
    refine hKo _ fun fa12 fh12 => ?_
    clear hKo Ko fh11 fa11
    refine Kn.spure fh12 rfl rfl .none (Kn.ex_move fh12 (.tmp rfl)) fun fa13 fh13 => ?_
    clear fh12 fa12
    refine Kn.spure fh13 rfl rfl .none (Kn.ex_move fh13 (.tmp rfl)) fun fa14 fh14 => ?_
    clear fh13 fa13
    refine Kn.spure fh14 rfl rfl .none (Kn.ex_move fh14 (.tmp rfl)) fun fa15 fh15 => ?_
    clear fh14 fa14
    refine Kn.sstep fh15 rfl rfl .none (Kn.ex_bin fh15 .const (.tmp rfl)) fun Ko hKo => ?_
    go_simp
    try go_bits
    refine hKo _ fun fa16 fh16 => ?_
    clear hKo Ko fh15 fa15
    refine Kn.sstep fh16 rfl rfl .none (Kn.ex_bin fh16 (.tmp rfl) (.tmp rfl)) fun Ko hKo => ?_
    go_simp
    try go_bits
    refine hKo _ fun fa17 fh17 => ?_
    clear hKo Ko fh16 fa16
    refine Kn.sstep fh17 rfl rfl .none (Kn.ex_bin fh17 (.tmp rfl) .const) fun Ko hKo => ?_
    go_simp
    try go_bits
    refine hKo _ fun fa18 fh18 => ?_
    clear hKo Ko fh17 fa17
    refine Kn.sstep fh18 rfl rfl .none (Kn.ex_indexAddr fh18 (.tmp rfl) (.tmp rfl)) fun Ko hKo => ?_
    go_simp
    try go_bits
    refine hKo _ fun fa19 fh19 => ?_
    clear hKo Ko fh18 fa18
    refine Kn.sstep fh19 rfl rfl .none (Kn.ex_load fh19 (.tmp rfl)) fun Ko hKo => ?_
    go_simp
    try go_bits
    refine hKo _ fun fa20 fh20 => ?_
    clear hKo Ko fh19 fa19
    refine Kn.sstep fh20 rfl rfl .none (Kn.ex_bin fh20 (.tmp rfl) .const) fun Ko hKo => ?_
    go_simp
    try go_bits
    refine hKo _ fun fa21 fh21 => ?_
    clear hKo Ko fh20 fa20
    refine Kn.sstep fh21 rfl rfl .none (Kn.ex_bin fh21 (.tmp rfl) (.tmp rfl)) fun Ko hKo => ?_
    go_simp
    try go_bits
    refine hKo _ fun fa22 fh22 => ?_
    clear hKo Ko fh21 fa21
    refine Kn.spure fh22 rfl rfl .none (Kn.ex_move fh22 (.tmp rfl)) fun fa23 fh23 => ?_
    clear fh22 fa22
    refine Kn.spure fh23 rfl rfl .none (Kn.ex_move fh23 (.tmp rfl)) fun fa24 fh24 => ?_
    clear fh23 fa23
    refine Kn.spure fh24 rfl rfl .none (Kn.ex_move fh24 (.tmp rfl)) fun fa25 fh25 => ?_
    clear fh24 fa24
    refine Kn.sstep fh25 rfl rfl .none (Kn.ex_bin fh25 .const (.tmp rfl)) fun Ko hKo => ?_
    go_simp
    try go_bits
    refine hKo _ fun fa26 fh26 => ?_
    clear hKo Ko fh25 fa25
    refine Kn.sstep fh26 rfl rfl .none (Kn.ex_bin fh26 (.tmp rfl) (.tmp rfl)) fun Ko hKo => ?_
    go_simp
    try go_bits
    refine hKo _ fun fa27 fh27 => ?_
    clear hKo Ko fh26 fa26
    refine Kn.sstep fh27 rfl rfl .none (Kn.ex_bin fh27 (.tmp rfl) .const) fun Ko hKo => ?_
    go_simp
    try go_bits
    refine hKo _ fun fa28 fh28 => ?_
    clear hKo Ko fh27 fa27
    refine Kn.sstep fh28 rfl rfl .none (Kn.ex_indexAddr fh28 (.tmp rfl) (.tmp rfl)) fun Ko hKo => ?_
    go_simp
    try go_bits
    refine hKo _ fun fa29 fh29 => ?_
    clear hKo Ko fh28 fa28
    refine Kn.sstep fh29 rfl rfl .none (Kn.ex_load fh29 (.tmp rfl)) fun Ko hKo => ?_
    go_simp
    try go_bits
    refine hKo _ fun fa30 fh30 => ?_
    clear hKo Ko fh29 fa29
    refine Kn.sstep fh30 rfl rfl .none (Kn.ex_bin fh30 (.tmp rfl) .const) fun Ko hKo => ?_
    go_simp
    try go_bits
    refine hKo _ fun fa31 fh31 => ?_
    clear hKo Ko fh30 fa30
    refine Kn.sstep fh31 rfl rfl .none (Kn.ex_bin fh31 (.tmp rfl) (.tmp rfl)) fun Ko hKo => ?_
    go_simp
    try go_bits
    refine hKo _ fun fa32 fh32 => ?_
    clear hKo Ko fh31 fa31
    refine Kn.spure fh32 rfl rfl .none (Kn.ex_move fh32 (.tmp rfl)) fun fa33 fh33 => ?_
    clear fh32 fa32
    refine Kn.spure fh33 rfl rfl .none (Kn.ex_move fh33 (.tmp rfl)) fun fa34 fh34 => ?_
    clear fh33 fa33
    refine Kn.spure fh34 rfl rfl .none (Kn.ex_move fh34 (.tmp rfl)) fun fa35 fh35 => ?_
    clear fh34 fa34
    refine Kn.sstep fh35 rfl rfl .none (Kn.ex_bin fh35 .const (.tmp rfl)) fun Ko hKo => ?_
    go_simp
    try go_bits
    refine hKo _ fun fa36 fh36 => ?_
    clear hKo Ko fh35 fa35
    refine Kn.sstep fh36 rfl rfl .none (Kn.ex_bin fh36 (.tmp rfl) (.tmp rfl)) fun Ko hKo => ?_
    go_simp
    try go_bits
    refine hKo _ fun fa37 fh37 => ?_
    clear hKo Ko fh36 fa36
    refine Kn.sstep fh37 rfl rfl .none (Kn.ex_bin fh37 (.tmp rfl) .const) fun Ko hKo => ?_
    go_simp
    try go_bits
    refine hKo _ fun fa38 fh38 => ?_
    clear hKo Ko fh37 fa37
    refine Kn.sstep fh38 rfl rfl .none (Kn.ex_indexAddr fh38 (.tmp rfl) (.tmp rfl)) fun Ko hKo => ?_
    go_simp
    try go_bits
    refine hKo _ fun fa39 fh39 => ?_
    clear hKo Ko fh38 fa38
    refine Kn.sstep fh39 rfl rfl .none (Kn.ex_load fh39 (.tmp rfl)) fun Ko hKo => ?_
    go_simp
    try go_bits
    refine hKo _ fun fa40 fh40 => ?_
    clear hKo Ko fh39 fa39
    refine Kn.sstep fh40 rfl rfl .none (Kn.ex_bin fh40 (.tmp rfl) (.tmp rfl)) fun Ko hKo => ?_
    go_simp
    try go_bits
    refine hKo _ fun fa41 fh41 => ?_
    clear hKo Ko fh40 fa40
    refine wpStill_nil ?_
    refine Kn.step fh41 rfl rfl .none (Kn.ex_buildSlice fh41 (.cons (.tmp rfl) .nil)) fun Ko hKo => ?_
    go_simp
    try go_bits
    refine hKo _ _ fun fa42 fh42 => ?_
    clear hKo Ko fh41 fa41
    refine Kn.known fh42 rfl rfl .none (Kn.ex_append fh42 (.cons (.tmp rfl) (.cons (.tmp rfl) .nil))) hrun fun fa43 fh43 => ?_
    clear fh42 fa42
    clear hrun
    refine Kn.pure fh43 rfl rfl .none (Kn.ex_assign fh43 (.tmp rfl)) fun fa44 fh44 => ?_
    clear fh43 fa43
    refine wpList_nil ?_
    refine Kn.block_normal ?_
    refine hK4 _ _ ?_
    clear hK4 K4
    replace fh44 := fh44.cut (.cons (t := 14) rfl (.cons (t := 15) rfl (.cons (t := 13) rfl (.cons (t := 12) rfl (.cons (t := 7) rfl (.cons (t := 1) rfl .nil))))))
    clear c0 c1 c2 c3 j0 j1 j2 j3 hyi
    refine wp_region_lit ?_
    refine Kn.pure fh44 rfl rfl .none (Kn.ex_move fh44 (.tmp rfl)) fun fa45 fh45 => ?_
    clear fh44 fa44
    refine Kn.step fh45 rfl rfl .none (Kn.ex_bin fh45 (.tmp rfl) .const) fun Ko hKo => ?_
    go_simp
    try go_bits
    refine hKo _ _ fun fa46 fh46 => ?_
    clear hKo Ko fh45 fa45
    refine Kn.pure fh46 rfl rfl .none (Kn.ex_assign fh46 (.tmp rfl)) fun fa47 fh47 => ?_
    clear fh46 fa46
    refine wpList_nil ?_
    replace fh47 := fh47.cut (.cons (t := 15) rfl (.cons (t := 14) rfl (.cons (t := 13) rfl (.cons (t := 12) rfl (.cons (t := 7) rfl (.cons (t := 1) rfl .nil))))))
    exact hKl1 (m - 1) _ _ (by omega) ⟨k + 1, gn, capn, fh47.cut (.turn (t := 15) rfl (by go_num) (.cons (t := 14) rfl (.cons (t := 13) rfl (.cons (t := 12) rfl (.cons (t := 7) rfl (.cons (t := 1) rfl .nil)))))), by omega, Lib.hid (by rw [take_snoc' W k (by rw [HWl.out]; omega), HY.out]; exact HN.out)⟩
  · obtain rfl : k = 16 := by omega
    refine wp_seq_k fun K2 hK2 => ?_
    refine wp_seq_k fun K3 hK3 => ?_
    refine wp_region_lit ?_
    refine Kn.pure fh1 rfl rfl .none (Kn.ex_move fh1 (.tmp rfl)) fun fa2 fh2 => ?_
    clear fh1 fa1
    have qd : decide (((16 : Nat) : Int) < 16) = false := decide_eq_false (by omega)
    refine Kn.step fh2 rfl rfl .none (Kn.ex_bin fh2 (.tmp rfl) .const) fun Ko hKo => ?_
    go_simp
    try go_bits
    refine hKo _ _ fun fa3 fh3 => ?_
    clear hKo Ko fh2 fa2
    clear qd
    refine wpList_nil ?_
    refine hK3 _ _ ?_
    clear hK3 K3
    replace fh3 := fh3.cut (.cons (t := 85) rfl (.cons (t := 15) rfl (.cons (t := 14) rfl (.cons (t := 13) rfl (.cons (t := 12) rfl (.cons (t := 7) rfl (.cons (t := 1) rfl .nil)))))))
    refine Kn.no fh3 (.tmp rfl) ?_
    replace fh3 := fh3.cut (.cons (t := 15) rfl (.cons (t := 14) rfl (.cons (t := 13) rfl (.cons (t := 12) rfl (.cons (t := 7) rfl (.cons (t := 1) rfl .nil))))))
    refine wp_exit ?_
    refine Kn.then_exit ?_
    clear hK2 K2
    refine Kn.then_exit ?_
    clear hKl1 Kl1
    refine Kn.block_exit ?_
    replace fh3 := fh3.cut (.cons (t := 14) rfl (.cons (t := 13) rfl (.cons (t := 12) rfl (.cons (t := 7) rfl (.cons (t := 1) rfl .nil)))))
    exact hQ _ _ gw capw fh3 HS.out
end Go.Proofs.YteciidnjikcimaaDoor.Sha
