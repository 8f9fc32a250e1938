/- Contracts of the program's csr: List (written by gen_csrc.py). -/
import Derived.Test.YtinjecaanjeapaaDoorCsrB
import Derived.Laws.MakeOwn
namespace Go.Proofs.YtinjecaanjeapaaDoor.Csr
open Go Go.RowKit Go.Lib Edg Num

/-- A slice of no edges, with room. -/
theorem make0 (w : World) (n : Nat) (hn : n ≤ 100000) :
    ∃ w', (Instr.makeSlice 22 (.int .i64 0) (.int .i64 (n : Int))).run Tryd.prog w = .ok (.slice (some ⟨w.heap.size, 0, none⟩) 0 n) w' ∧ OwnE w' w.heap.size (some ⟨w.heap.size, 0, none⟩) 0 n [] ∧ Below w.heap.size w w' := by
  have hb : eI.bytes = 16 := by kernel_rfl
  obtain ⟨w', h1, h2, h3⟩ := run_make_own (P := Tryd.prog) w w.heap.size 22 51 eI (.agg #[.int .i64 0, .int .i64 0]) 2 Tryd.underlying22 (by kernel_rfl) (by kernel_rfl) (by kernel_rfl) .i64 .i64 n (by rw [hb]; omega) (by unfold maxLen; omega) (Nat.le_refl _)
  exact ⟨w', h1, ⟨rfl, h2⟩, (Below.refl _ w).grown h3 (Nat.le_refl _) (by intro k hk; cases hk)⟩

set_option maxRecDepth 100000 in
set_option maxHeartbeats 2000000 in
theorem list_nil (w : World) : Calls Tryd.prog 14 #[.pointer none] w fun e w' => ∃ A, e = .returned (.slice A 0 0) ∧ Below w.heap.size w w' := by
  refine Kn.calls Tryd.func14 rfl Tryd.ntmps14 rfl (.cons (t := 0) rfl .nil) fun fa0 fh0 => ?_
  refine wp_seq_k fun K1 hK1 => ?_
  refine wp_region_lit ?_
  refine Kn.pure fh0 rfl rfl .none (Kn.ex_assign fh0 .const) fun fa1 fh1 => ?_
  clear fh0 fa0
  refine wpList_nil ?_
  refine hK1 _ _ ?_
  clear hK1 K1
  obtain ⟨w1, hr1, hO1, hb1⟩ := make0 w 0 (by omega)
  refine wp_seq_k fun K2 hK2 => ?_
  refine wp_region_lit ?_
  refine Kn.pure fh1 rfl rfl .none (Kn.ex_move fh1 (.tmp rfl)) fun fa2 fh2 => ?_
  clear fh1 fa1
  refine Kn.call fh2 rfl rfl .none (Kn.ex_call fh2 (.cons (.tmp rfl) .nil)) Tryd.call12 (edges_nil w) fun e w0 hp => ?_
  obtain ⟨rfl, rfl⟩ := hp
  refine ⟨_, rfl, fun fa3 fh3 => ?_⟩
  clear fh2 fa2
  refine Kn.known fh3 rfl rfl .none (Kn.ex_makeSlice fh3 .const (.tmp rfl)) hr1 fun fa4 fh4 => ?_
  clear fh3 fa3
  refine Kn.pure fh4 rfl rfl .none (Kn.ex_assign fh4 (.tmp rfl)) fun fa5 fh5 => ?_
  clear fh4 fa4
  refine wpList_nil ?_
  refine hK2 _ _ ?_
  clear hK2 K2
  replace fh5 := fh5.cut (.cons (t := 3) rfl (.cons (t := 2) rfl (.cons (t := 0) rfl .nil)))
  clear hr1
  have HB := Lib.hid hb1
  clear hb1 hO1
  refine wp_seq_k fun K3 hK3 => ?_
  refine wp_seq_k fun K4 hK4 => ?_
  refine wp_region_lit ?_
  refine Kn.pure fh5 rfl rfl .none (Kn.ex_move fh5 (.tmp rfl)) fun fa6 fh6 => ?_
  clear fh5 fa5
  refine Kn.call fh6 rfl rfl .none (Kn.ex_call fh6 (.cons (.tmp rfl) .nil)) Tryd.call11 (nodes_nil w1) fun e w2 hp => ?_
  obtain ⟨rfl, rfl⟩ := hp
  refine ⟨_, rfl, fun fa7 fh7 => ?_⟩
  clear fh6 fa6
  refine Kn.pure fh7 rfl rfl .none (Kn.ex_move fh7 .const) fun fa8 fh8 => ?_
  clear fh7 fa7
  refine wpList_nil ?_
  refine hK4 _ _ ?_
  clear hK4 K4
  replace fh8 := fh8.cut (.cons (t := 12) rfl (.cons (t := 11) rfl (.cons (t := 3) rfl (.cons (t := 2) rfl (.cons (t := 0) rfl .nil)))))
  refine wp_block ?_
  refine Kn.loop (fun m fr u => ∃ (_ : Unit), Kn.Kn 41 [(12, .int .i64 0), (11, .int .i64 0), (3, .slice (some ⟨w.heap.size, 0, none⟩) 0 0)] fr ∧ m = 0 ∧ w1 = u) 0 ⟨(), fh8.cut (.cons (t := 12) rfl (.cons (t := 11) rfl (.cons (t := 3) rfl .nil))), rfl, rfl⟩ ?_
  clear fh8 fa8
  intro m5 fa9 u hI Kl5 hKl5
  obtain ⟨_, fh9, hm, rfl⟩ := hI
  refine wp_seq_k fun K6 hK6 => ?_
  refine wp_region_lit ?_
  refine Kn.step fh9 rfl rfl .none (Kn.ex_bin fh9 (.tmp rfl) (.tmp rfl)) fun Ko hKo => ?_
  go_simp
  try go_bits
  refine hKo _ _ fun fa10 fh10 => ?_
  clear hKo Ko fh9 fa9
  refine wpList_nil ?_
  refine hK6 _ _ ?_
  clear hK6 K6
  refine wp_seq_k fun K7 hK7 => ?_
  refine Kn.no fh10 (.tmp rfl) ?_
  replace fh10 := fh10.cut (.cons (t := 12) rfl (.cons (t := 11) rfl (.cons (t := 3) rfl .nil)))
  refine wp_exit ?_
  refine Kn.then_exit ?_
  clear hK7 K7
  refine Kn.then_exit ?_
  clear hKl5 Kl5
  refine Kn.block_exit ?_
  refine hK3 _ _ ?_
  clear hK3 K3
  replace fh10 := fh10.cut (.cons (t := 3) rfl .nil)
  refine wp_seq_k fun K8 hK8 => ?_
  refine wp_region_lit ?_
  refine Kn.pure fh10 rfl rfl .none (Kn.ex_move fh10 (.tmp rfl)) fun fa11 fh11 => ?_
  clear fh10 fa10
  refine Kn.pure fh11 rfl rfl .none (Kn.ex_assign fh11 (.tmp rfl)) fun fa12 fh12 => ?_
  clear fh11 fa11
  refine wpList_nil ?_
  refine hK8 _ _ ?_
  clear hK8 K8
  replace fh12 := fh12.cut (.cons (t := 2) rfl .nil)
  refine wp_ret ?_
  exact Kn.ret1 fh12 rfl rfl ⟨_, rfl, HB.out⟩

set_option maxRecDepth 100000 in
set_option maxHeartbeats 2000000 in
theorem list_any (w : World) (B g N : Nat) (ys : List (Int × Int)) (hR : Rep w B g N ys) : Calls Tryd.prog 14 #[.pointer (some ⟨g, 0, none⟩)] w fun e w' => ∃ gl n cap, e = .returned (.slice (some ⟨gl, 0, none⟩) n cap) ∧ OwnE w' w.heap.size (some ⟨gl, 0, none⟩) n cap ys ∧ Below w.heap.size w w' := by
  refine Kn.calls Tryd.func14 rfl Tryd.ntmps14 rfl (.cons (t := 0) rfl .nil) fun fa0 fh0 => ?_
  refine wp_seq_k fun K1 hK1 => ?_
  refine wp_region_lit ?_
  refine Kn.pure fh0 rfl rfl .none (Kn.ex_assign fh0 .const) fun fa1 fh1 => ?_
  clear fh0 fa0
  refine wpList_nil ?_
  refine hK1 _ _ ?_
  clear hK1 K1
  have hN := hR.hi
  have hL := hR.len
  obtain ⟨w1, hr1, hO1, hb1⟩ := make0 w ys.length (by omega)
  obtain ⟨gb, gt, -, -, hS, -, hT⟩ := hR.mem
  have HS := Lib.hid hS
  have HT := Lib.hid hT
  have HR := Lib.hid hR
  have he := edges_any w B g N ys hR
  clear hR hS hT
  refine wp_seq_k fun K2 hK2 => ?_
  refine wp_region_lit ?_
  refine Kn.pure fh1 rfl rfl .none (Kn.ex_move fh1 (.tmp rfl)) fun fa2 fh2 => ?_
  clear fh1 fa1
  refine Kn.call fh2 rfl rfl .none (Kn.ex_call fh2 (.cons (.tmp rfl) .nil)) Tryd.call12 (he) fun e w0 hp => ?_
  obtain ⟨rfl, rfl⟩ := hp
  refine ⟨_, rfl, fun fa3 fh3 => ?_⟩
  clear fh2 fa2
  refine Kn.known fh3 rfl rfl .none (Kn.ex_makeSlice fh3 .const (.tmp rfl)) hr1 fun fa4 fh4 => ?_
  clear fh3 fa3
  refine Kn.pure fh4 rfl rfl .none (Kn.ex_assign fh4 (.tmp rfl)) fun fa5 fh5 => ?_
  clear fh4 fa4
  refine wpList_nil ?_
  refine hK2 _ _ ?_
  clear hK2 K2
  replace fh5 := fh5.cut (.cons (t := 3) rfl (.cons (t := 2) rfl (.cons (t := 0) rfl .nil)))
  clear hr1 he
  have HB1 := Lib.hid hb1
  have HO1 := Lib.hid hO1
  clear hb1 hO1
  refine wp_seq_k fun K3 hK3 => ?_
  refine wp_seq_k fun K4 hK4 => ?_
  refine wp_region_lit ?_
  refine Kn.pure fh5 rfl rfl .none (Kn.ex_move fh5 (.tmp rfl)) fun fa6 fh6 => ?_
  clear fh5 fa5
  refine Kn.call fh6 rfl rfl .none (Kn.ex_call fh6 (.cons (.tmp rfl) .nil)) Tryd.call11 (nodes_any w1 B g N ys (HR.out.on HB1.out)) fun e w2 hp => ?_
  obtain ⟨rfl, rfl⟩ := hp
  refine ⟨_, rfl, fun fa7 fh7 => ?_⟩
  clear fh6 fa6
  refine Kn.pure fh7 rfl rfl .none (Kn.ex_move fh7 .const) fun fa8 fh8 => ?_
  clear fh7 fa7
  refine wpList_nil ?_
  refine hK4 _ _ ?_
  clear hK4 K4
  replace fh8 := fh8.cut (.cons (t := 12) rfl (.cons (t := 11) rfl (.cons (t := 3) rfl (.cons (t := 2) rfl (.cons (t := 0) rfl .nil)))))
  refine wp_block ?_
  refine Kn.loop (fun m fr u => ∃ (k gl n cap : Nat), Kn.Kn 41 [(12, .int .i64 (k : Int)), (11, .int .i64 (N : Int)), (3, .slice (some ⟨gl, 0, none⟩) n cap), (0, .pointer (some ⟨g, 0, none⟩))] fr ∧ k + m = N ∧ Hid (Below w.heap.size w u) ∧ Hid (OwnE u w.heap.size (some ⟨gl, 0, none⟩) n cap (ys.take (bgn ys (k : Int))))) N ⟨0, w.heap.size, 0, ys.length, fh8.cut (.turn (t := 12) rfl rfl (.cons (t := 11) rfl (.cons (t := 3) rfl (.cons (t := 0) rfl .nil)))), by omega, HB1, Lib.hid (by rw [show bgn ys ((0 : Nat) : Int) = 0 from bgn_0 HR.out.good]; exact HO1.out)⟩ ?_
  clear fh8 fa8
  intro m5 fa9 u hI Kl5 hKl5
  obtain ⟨k, gl, n, cap, fh9, hk, HB, HO⟩ := hI
  by_cases hlt : k < N
  · have c1 := (HS.out.on HB.out).cell 1 rfl
    have HRu := Lib.hid (HR.out.on HB.out)
    have r1 : (k : Int) + 1 = ((k + 1 : Nat) : Int) := by omega
    have hC1 := fun v h => begin_in k v B g N ys h (by omega)
    have hC2 := fun v h => begin_in (k + 1) v B g N ys h (by omega)
    have hn : bgn ys ((k + 1 : Nat) : Int) = bgn ys (k : Int) + (trg ys (k : Int)).length := by rw [← r1]; exact bgn_next ys (k : Int)
    have hle := bgn_le ys ((k + 1 : Nat) : Int)
    have hE : ∀ i, i < (trg ys (k : Int)).length → ed ys (bgn ys (k : Int) + i) = ((k : Int), nt (trg ys (k : Int)) i) := fun i hi => ed_row HR.out.srt (k : Int) i hi
    have hA : ∀ i, i < (trg ys (k : Int)).length → nt (trg ys (k : Int)) i = nt (tgs ys) (bgn ys (k : Int) + i) := fun i hi => trg_at HR.out.srt (k : Int) i hi
    have hO := HO.out
    clear HO
    obtain ⟨k1, hk1⟩ : ∃ k1, k + 1 = k1 := ⟨_, rfl⟩
    rw [hk1] at hC2 hn hle r1
    obtain ⟨b, hb⟩ : ∃ b, bgn ys (k : Int) = b := ⟨_, rfl⟩
    obtain ⟨c, hc⟩ : ∃ c, bgn ys (k1 : Int) = c := ⟨_, rfl⟩
    rw [hb] at hC1 hn hE hA hO
    rw [hc] at hC2 hn hle
    generalize trg ys (k : Int) = ts at hn hE hA
    obtain ⟨o, cc, hsl, ho⟩ := sliceI gt ys.length b c u.drew (by omega) hle (by omega)
    rw [show c - b = ts.length by omega] at hsl
    have HOo := Lib.hid ho
    have HBC := Lib.hid hc
    have htl : ts.length ≤ 20000 := by omega
    have HC1 := Lib.hid hC1
    have HC2 := Lib.hid hC2
    have HE := Lib.hid hE
    have HA := Lib.hid hA
    have HO := Lib.hid hO
    have HN := Lib.hid hn
    have HK := Lib.hid hk1
    clear hb hc ho hn hC1 hC2 hE hA hO hk1
    refine wp_seq_k fun K6 hK6 => ?_
    refine wp_region_lit ?_
    refine Kn.step fh9 rfl rfl .none (Kn.ex_bin fh9 (.tmp rfl) (.tmp rfl)) fun Ko hKo => ?_
    go_simp
    try go_bits
    refine hKo _ _ fun fa10 fh10 => ?_
    clear hKo Ko fh9 fa9
    refine wpList_nil ?_
    refine hK6 _ _ ?_
    clear hK6 K6
    refine wp_seq_k fun K7 hK7 => ?_
    refine Kn.yes fh10 (.tmp rfl) ?_
    refine wp_skip ?_
    refine hK7 _ _ ?_
    clear hK7 K7
    replace fh10 := fh10.cut (.cons (t := 12) rfl (.cons (t := 11) rfl (.cons (t := 3) rfl (.cons (t := 0) rfl .nil))))
    refine wp_seq_k fun K8 hK8 => ?_
    refine wp_block ?_
    refine wp_seq_k fun K9 hK9 => ?_
    refine wp_region_lit ?_
    refine Kn.pure fh10 rfl rfl .none (Kn.ex_move fh10 (.tmp rfl)) fun fa11 fh11 => ?_
    clear fh10 fa10
    refine Kn.pure fh11 rfl rfl .none (Kn.ex_assign fh11 (.tmp rfl)) fun fa12 fh12 => ?_
    clear fh11 fa11
    refine wpList_nil ?_
    refine hK9 _ _ ?_
    clear hK9 K9
    replace fh12 := fh12.cut (.cons (t := 4) rfl (.cons (t := 12) rfl (.cons (t := 11) rfl (.cons (t := 3) rfl (.cons (t := 0) rfl .nil)))))
    refine wp_seq_k fun K10 hK10 => ?_
    refine Kn.still (by kernel_rfl) (by kernel_rfl) ?_
    refine Kn.spure fh12 rfl rfl .none (Kn.ex_move fh12 (.tmp rfl)) fun fa13 fh13 => ?_
    clear fh12 fa12
    refine Kn.spure fh13 rfl rfl .none (Kn.ex_nilCheck fh13 (.tmp rfl)) fun fa14 fh14 => ?_
    clear fh13 fa13
    refine Kn.sstep fh14 rfl rfl .none (Kn.ex_fieldAddr fh14 (.tmp rfl)) fun Ko hKo => ?_
    go_simp
    try go_bits
    refine hKo _ fun fa15 fh15 => ?_
    clear hKo Ko fh14 fa14
    refine Kn.sstep fh15 rfl rfl .none (Kn.ex_load fh15 (.tmp rfl)) fun Ko hKo => ?_
    go_simp
    try go_bits
    refine hKo _ fun fa16 fh16 => ?_
    clear hKo Ko fh15 fa15
    refine Kn.spure fh16 rfl rfl .none (Kn.ex_move fh16 (.tmp rfl)) fun fa17 fh17 => ?_
    clear fh16 fa16
    refine Kn.spure fh17 rfl rfl .none (Kn.ex_move fh17 (.tmp rfl)) fun fa18 fh18 => ?_
    clear fh17 fa17
    refine Kn.scall fh18 rfl rfl .none (Kn.ex_call fh18 (.cons (.tmp rfl) (.cons (.tmp rfl) .nil))) Tryd.call21 (HC1.out _ (HRu.out.drewN 1)) fun fa19 fh19 => ?_
    clear fh18 fa18
    refine Kn.spure fh19 rfl rfl .none (Kn.ex_move fh19 (.tmp rfl)) fun fa20 fh20 => ?_
    clear fh19 fa19
    refine Kn.spure fh20 rfl rfl .none (Kn.ex_move fh20 (.tmp rfl)) fun fa21 fh21 => ?_
    clear fh20 fa20
    refine Kn.sstep fh21 rfl rfl .none (Kn.ex_bin fh21 (.tmp rfl) .const) fun Ko hKo => ?_
    go_simp
    try go_bits
    try rw [r1]
    refine hKo _ fun fa22 fh22 => ?_
    clear hKo Ko fh21 fa21
    refine Kn.scall fh22 rfl rfl .none (Kn.ex_call fh22 (.cons (.tmp rfl) (.cons (.tmp rfl) .nil))) Tryd.call21 (HC2.out _ (HRu.out.drewN 1)) fun fa23 fh23 => ?_
    clear fh22 fa22
    refine Kn.sstep fh23 rfl rfl .none (Kn.ex_sliceLH fh23 (.tmp rfl) (.tmp rfl) (.tmp rfl)) fun Ko hKo => ?_
    rw [hsl]
    refine hKo _ fun fa24 fh24 => ?_
    clear hKo Ko fh23 fa23
    refine Kn.sstep fh24 rfl rfl .none (Kn.ex_len fh24 (.tmp rfl)) fun Ko hKo => ?_
    go_simp
    try go_bits
    refine hKo _ fun fa25 fh25 => ?_
    clear hKo Ko fh24 fa24
    refine Kn.spure fh25 rfl rfl .none (Kn.ex_move fh25 .const) fun fa26 fh26 => ?_
    clear fh25 fa25
    refine wpStill_nil ?_
    refine hK10 _ _ ?_
    clear hK10 K10
    replace fh26 := fh26.cut (.cons (t := 28) rfl (.cons (t := 27) rfl (.cons (t := 26) rfl (.cons (t := 4) rfl (.cons (t := 12) rfl (.cons (t := 11) rfl (.cons (t := 3) rfl (.cons (t := 0) rfl .nil))))))))
    clear hsl c1
    refine wp_block ?_
    refine Kn.loop (fun m fr v => ∃ (j gl2 n2 cap2 : Nat), Kn.Kn 41 [(28, .int .i64 (j : Int)), (27, .int .i64 (ts.length : Int)), (26, .slice (some ⟨gt, o, none⟩) ts.length cc), (3, .slice (some ⟨gl2, 0, none⟩) n2 cap2), (4, .int .i64 (k : Int)), (12, .int .i64 (k : Int)), (11, .int .i64 (N : Int)), (0, .pointer (some ⟨g, 0, none⟩))] fr ∧ j + m = ts.length ∧ Hid (Below w.heap.size w v) ∧ Hid (OwnE v w.heap.size (some ⟨gl2, 0, none⟩) n2 cap2 (ys.take (b + j)))) ts.length ⟨0, gl, n, cap, fh26.cut (.turn (t := 28) rfl rfl (.cons (t := 27) rfl (.cons (t := 26) rfl (.cons (t := 3) rfl (.cons (t := 4) rfl (.cons (t := 12) rfl (.cons (t := 11) rfl (.cons (t := 0) rfl .nil)))))))), by omega, Lib.hid HB.out.drew, HO⟩ ?_
    clear fh26 fa26
    intro m11 fa27 v hI Kl11 hKl11
    obtain ⟨j, gl2, n2, cap2, fh27, hj, HBv, HOv⟩ := hI
    by_cases hjl : j < ts.length
    · have hbj : b + j < ys.length := by have := HN.out; omega
      have hoo := HOo.out (by have := HN.out; omega)
      subst hoo
      have cj := ((HT.out.on HBv.out) (o + j) (by rw [tgs_len]; exact hbj)).1
      rw [← HA.out j hjl] at cj
      have hed := HE.out j hjl
      obtain ⟨x, hx⟩ : ∃ x, nt ts j = x := ⟨_, rfl⟩
      rw [hx] at cj hed
      have hn2 : n2 ≤ 100000 := by have := HOv.out.1; rw [List.length_take] at this; omega
      obtain ⟨g', c', v2, hrun, hown, hbel, -⟩ := Edg.push1 w v 22 (some ⟨gl2, 0, none⟩) n2 cap2 (ys.take (o + j)) ((k : Int), x) HOv.out HBv.out hn2
      rw [← hed, ← take_ed ys (o + j) hbj] at hown
      have HO2 := Lib.hid hown
      have HB2 := Lib.hid hbel
      clear hown hbel hx hed
      refine wp_seq_k fun K12 hK12 => ?_
      refine wp_region_lit ?_
      refine Kn.step fh27 rfl rfl .none (Kn.ex_bin fh27 (.tmp rfl) (.tmp rfl)) fun Ko hKo => ?_
      go_simp
      try go_bits
      refine hKo _ _ fun fa28 fh28 => ?_
      clear hKo Ko fh27 fa27
      refine wpList_nil ?_
      refine hK12 _ _ ?_
      clear hK12 K12
      refine wp_seq_k fun K13 hK13 => ?_
      refine Kn.yes fh28 (.tmp rfl) ?_
      refine wp_skip ?_
      refine hK13 _ _ ?_
      clear hK13 K13
      replace fh28 := fh28.cut (.cons (t := 28) rfl (.cons (t := 27) rfl (.cons (t := 26) rfl (.cons (t := 3) rfl (.cons (t := 4) rfl (.cons (t := 12) rfl (.cons (t := 11) rfl (.cons (t := 0) rfl .nil))))))))
      refine wp_seq_k fun K14 hK14 => ?_
      refine wp_block ?_
      refine wp_seq_k fun K15 hK15 => ?_
      refine wp_region_lit ?_
      refine Kn.step fh28 rfl rfl .none (Kn.ex_indexAddr fh28 (.tmp rfl) (.tmp rfl)) fun Ko hKo => ?_
      go_simp
      try go_bits
      refine hKo _ _ fun fa29 fh29 => ?_
      clear hKo Ko fh28 fa28
      refine Kn.step fh29 rfl rfl .none (Kn.ex_load fh29 (.tmp rfl)) fun Ko hKo => ?_
      go_simp
      try go_bits
      refine hKo _ _ fun fa30 fh30 => ?_
      clear hKo Ko fh29 fa29
      refine Kn.pure fh30 rfl rfl .none (Kn.ex_assign fh30 (.tmp rfl)) fun fa31 fh31 => ?_
      clear fh30 fa30
      refine wpList_nil ?_
      refine hK15 _ _ ?_
      clear hK15 K15
      replace fh31 := fh31.cut (.cons (t := 6) rfl (.cons (t := 28) rfl (.cons (t := 27) rfl (.cons (t := 26) rfl (.cons (t := 3) rfl (.cons (t := 4) rfl (.cons (t := 12) rfl (.cons (t := 11) rfl (.cons (t := 0) rfl .nil)))))))))
      clear cj
      refine wp_region_lit ?_
      refine Kn.pure fh31 rfl rfl .none (Kn.ex_move fh31 (.tmp rfl)) fun fa32 fh32 => ?_
      clear fh31 fa31
      refine Kn.pure fh32 rfl rfl .none (Kn.ex_move fh32 (.tmp rfl)) fun fa33 fh33 => ?_
      clear fh32 fa32
      refine Kn.pure fh33 rfl rfl .none (Kn.ex_move fh33 (.tmp rfl)) fun fa34 fh34 => ?_
      clear fh33 fa33
      refine Kn.step fh34 rfl rfl .none (Kn.ex_build fh34 (.cons (.tmp rfl) (.cons (.tmp rfl) .nil))) fun Ko hKo => ?_
      go_simp
      try go_bits
      refine hKo _ _ fun fa35 fh35 => ?_
      clear hKo Ko fh34 fa34
      refine Kn.step fh35 rfl rfl .none (Kn.ex_buildSlice fh35 (.cons (.tmp rfl) .nil)) fun Ko hKo => ?_
      go_simp
      try go_bits
      refine hKo _ _ fun fa36 fh36 => ?_
      clear hKo Ko fh35 fa35
      refine Kn.known fh36 rfl rfl .none (Kn.ex_append fh36 (.cons (.tmp rfl) (.cons (.tmp rfl) .nil))) hrun fun fa37 fh37 => ?_
      clear fh36 fa36
      refine Kn.pure fh37 rfl rfl .none (Kn.ex_assign fh37 (.tmp rfl)) fun fa38 fh38 => ?_
      clear fh37 fa37
      refine wpList_nil ?_
      refine Kn.block_normal ?_
      refine hK14 _ _ ?_
      clear hK14 K14
      replace fh38 := fh38.cut (.cons (t := 3) rfl (.cons (t := 28) rfl (.cons (t := 27) rfl (.cons (t := 26) rfl (.cons (t := 4) rfl (.cons (t := 12) rfl (.cons (t := 11) rfl (.cons (t := 0) rfl .nil))))))))
      clear hrun
      refine wp_region_lit ?_
      refine Kn.step fh38 rfl rfl .none (Kn.ex_bin fh38 (.tmp rfl) .const) fun Ko hKo => ?_
      go_simp
      try go_bits
      refine hKo _ _ fun fa39 fh39 => ?_
      clear hKo Ko fh38 fa38
      refine Kn.pure fh39 rfl rfl .none (Kn.ex_move fh39 (.tmp rfl)) fun fa40 fh40 => ?_
      clear fh39 fa39
      refine wpList_nil ?_
      replace fh40 := fh40.cut (.cons (t := 28) rfl (.cons (t := 3) rfl (.cons (t := 27) rfl (.cons (t := 26) rfl (.cons (t := 4) rfl (.cons (t := 12) rfl (.cons (t := 11) rfl (.cons (t := 0) rfl .nil))))))))
      exact hKl11 (m11 - 1) _ _ (by omega) ⟨j + 1, g', n2 + 1, c', fh40.cut (.turn (t := 28) rfl (by go_num) (.cons (t := 27) rfl (.cons (t := 26) rfl (.cons (t := 3) rfl (.cons (t := 4) rfl (.cons (t := 12) rfl (.cons (t := 11) rfl (.cons (t := 0) rfl .nil)))))))), by omega, HB2, HO2⟩
    · obtain rfl : j = ts.length := by omega
      refine wp_seq_k fun K12 hK12 => ?_
      refine wp_region_lit ?_
      refine Kn.step fh27 rfl rfl .none (Kn.ex_bin fh27 (.tmp rfl) (.tmp rfl)) fun Ko hKo => ?_
      go_simp
      try go_bits
      refine hKo _ _ fun fa28 fh28 => ?_
      clear hKo Ko fh27 fa27
      refine wpList_nil ?_
      refine hK12 _ _ ?_
      clear hK12 K12
      refine wp_seq_k fun K13 hK13 => ?_
      refine Kn.no fh28 (.tmp rfl) ?_
      replace fh28 := fh28.cut (.cons (t := 28) rfl (.cons (t := 27) rfl (.cons (t := 26) rfl (.cons (t := 3) rfl (.cons (t := 4) rfl (.cons (t := 12) rfl (.cons (t := 11) rfl (.cons (t := 0) rfl .nil))))))))
      refine wp_exit ?_
      refine Kn.then_exit ?_
      clear hK13 K13
      refine Kn.then_exit ?_
      clear hKl11 Kl11
      refine Kn.block_exit ?_
      refine Kn.block_normal ?_
      refine hK8 _ _ ?_
      clear hK8 K8
      replace fh28 := fh28.cut (.cons (t := 3) rfl (.cons (t := 12) rfl (.cons (t := 11) rfl (.cons (t := 0) rfl .nil))))
      refine wp_region_lit ?_
      refine Kn.step fh28 rfl rfl .none (Kn.ex_bin fh28 (.tmp rfl) .const) fun Ko hKo => ?_
      go_simp
      try go_bits
      refine hKo _ _ fun fa29 fh29 => ?_
      clear hKo Ko fh28 fa28
      refine Kn.pure fh29 rfl rfl .none (Kn.ex_move fh29 (.tmp rfl)) fun fa30 fh30 => ?_
      clear fh29 fa29
      refine wpList_nil ?_
      replace fh30 := fh30.cut (.cons (t := 12) rfl (.cons (t := 3) rfl (.cons (t := 11) rfl (.cons (t := 0) rfl .nil))))
      exact hKl5 (m5 - 1) _ _ (by omega) ⟨k1, gl2, n2, cap2, fh30.cut (.turn (t := 12) rfl (by rw [← r1]) (.cons (t := 11) rfl (.cons (t := 3) rfl (.cons (t := 0) rfl .nil)))), by have := HK.out; omega, HBv, Lib.hid (by rw [HBC.out, HN.out]; exact HOv.out)⟩
  · obtain rfl : k = N := by omega
    refine wp_seq_k fun K6 hK6 => ?_
    refine wp_region_lit ?_
    refine Kn.step fh9 rfl rfl .none (Kn.ex_bin fh9 (.tmp rfl) (.tmp rfl)) fun Ko hKo => ?_
    go_simp
    try go_bits
    refine hKo _ _ fun fa10 fh10 => ?_
    clear hKo Ko fh9 fa9
    refine wpList_nil ?_
    refine hK6 _ _ ?_
    clear hK6 K6
    refine wp_seq_k fun K7 hK7 => ?_
    refine Kn.no fh10 (.tmp rfl) ?_
    replace fh10 := fh10.cut (.cons (t := 12) rfl (.cons (t := 11) rfl (.cons (t := 3) rfl (.cons (t := 0) rfl .nil))))
    refine wp_exit ?_
    refine Kn.then_exit ?_
    clear hK7 K7
    refine Kn.then_exit ?_
    clear hKl5 Kl5
    refine Kn.block_exit ?_
    refine hK3 _ _ ?_
    clear hK3 K3
    replace fh10 := fh10.cut (.cons (t := 3) rfl .nil)
    refine wp_seq_k fun K8 hK8 => ?_
    refine wp_region_lit ?_
    refine Kn.pure fh10 rfl rfl .none (Kn.ex_move fh10 (.tmp rfl)) fun fa11 fh11 => ?_
    clear fh10 fa10
    refine Kn.pure fh11 rfl rfl .none (Kn.ex_assign fh11 (.tmp rfl)) fun fa12 fh12 => ?_
    clear fh11 fa11
    refine wpList_nil ?_
    refine hK8 _ _ ?_
    clear hK8 K8
    replace fh12 := fh12.cut (.cons (t := 2) rfl .nil)
    refine wp_ret ?_
    exact Kn.ret1 fh12 rfl rfl ⟨gl, n, cap, rfl, by have := HO.out; rwa [bgn_N HR.out.good, List.take_length] at this, HB.out⟩

end Go.Proofs.YtinjecaanjeapaaDoor.Csr
