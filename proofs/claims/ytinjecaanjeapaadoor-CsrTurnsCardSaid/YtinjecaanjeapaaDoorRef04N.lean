/- The document's Norm of layer 4 (edges) (written by gen_ref04n.py). -/
import Derived.Test.YtinjecaanjeapaaDoorRef04
namespace Go.Proofs.YtinjecaanjeapaaDoor.Edg
open Go Go.RowKit Go.Lib

/-- Normalised edges are answered; nothing old has turned. -/
def NormRet (w : World) (xs : List (Int × Int)) (e : Ending) (w' : World) : Prop := ∃ g n cap ys, e = .returned (.slice (some ⟨g, 0, none⟩) n cap) ∧ n = ys.length ∧ NormOf xs ys ∧ EIn w' (some ⟨g, 0, none⟩) ys ∧ Below w.heap.size w w' ∧ w.heap.size ≤ g
set_option maxRecDepth 100000 in
set_option maxHeartbeats 4000000 in
theorem refNorm_any (A : Option Addr) (c : Nat) (xs : List (Int × Int)) (w : World) (hx : xs.length ≤ 30000) (hA : EIn w A xs) : Calls Tryd.prog 10 #[.slice A xs.length c] w (NormRet w xs) := by
  have HA := Lib.hid hA
  clear hA
  refine Kn.calls Tryd.func10 rfl Tryd.ntmps10 rfl (.cons (t := 0) rfl .nil) fun fa0 fh0 => ?_
  refine wp_seq_k fun K1 hK1 => ?_
  refine wp_region_lit ?_
  refine Kn.pure fh0 rfl rfl .none (Kn.ex_assign fh0 .const) fun fa1 fh1 => ?_
  clear fh0 fa0
  refine wpList_nil ?_
  refine hK1 _ _ ?_
  clear hK1 K1
  refine wp_seq_k fun K2 hK2 => ?_
  refine wp_region_lit ?_
  refine Kn.step fh1 rfl rfl .none (Kn.ex_buildSlice fh1 .nil) fun Ko hKo => ?_
  go_simp
  try go_bits
  refine hKo _ _ fun fa2 fh2 => ?_
  clear hKo Ko fh1 fa1
  refine Kn.pure fh2 rfl rfl .none (Kn.ex_assign fh2 (.tmp rfl)) fun fa3 fh3 => ?_
  clear fh2 fa2
  refine wpList_nil ?_
  refine hK2 _ _ ?_
  clear hK2 K2
  replace fh3 := fh3.cut (.cons (t := 3) rfl (.cons (t := 2) rfl (.cons (t := 0) rfl .nil)))
  refine wp_seq_k fun K3 hK3 => ?_
  refine wp_seq_k fun K4 hK4 => ?_
  refine wp_region_lit ?_
  refine Kn.pure fh3 rfl rfl .none (Kn.ex_assign fh3 .const) fun fa4 fh4 => ?_
  clear fh3 fa3
  refine wpList_nil ?_
  refine hK4 _ _ ?_
  clear hK4 K4
  refine wp_block ?_
  refine Kn.loop (fun m fr v => ∃ (k g n cap : Nat) (ys : List (Int × Int)), Kn.Kn 85 [(4, .int .i64 (k : Int)), (3, .slice (some ⟨g, 0, none⟩) n cap), (0, .slice A xs.length c)] fr ∧ k + m = xs.length ∧ n ≤ k ∧ Hid (OwnE v w.heap.size (some ⟨g, 0, none⟩) n cap ys) ∧ Hid (NormOf (xs.take k) ys) ∧ Hid (Below w.heap.size w v)) xs.length ⟨0, w.heap.size, 0, 0, [], fh4.cut (.cons (t := 4) rfl (.cons (t := 3) rfl (.cons (t := 0) rfl .nil))), by omega, by omega, Lib.hid (OwnE.new w _ (Nat.le_refl _)), Lib.hid ⟨List.Pairwise.nil, fun e => by simp⟩, Lib.hid ((Below.refl _ _).alloc (Nat.le_refl _) _)⟩ ?_
  clear fh4 fa4
  intro m5 fa5 v hI Kl5 hKl5
  obtain ⟨k, g, n, cap, ys, fh5, hk, hnk, HO, HN, HB⟩ := hI
  by_cases hlt : k < xs.length
  · refine wp_seq_k fun K6 hK6 => ?_
    refine wp_seq_k fun K7 hK7 => ?_
    refine wp_region_lit ?_
    refine Kn.pure fh5 rfl rfl .none (Kn.ex_move fh5 (.tmp rfl)) fun fa6 fh6 => ?_
    clear fh5 fa5
    refine Kn.pure fh6 rfl rfl .none (Kn.ex_move fh6 (.tmp rfl)) fun fa7 fh7 => ?_
    clear fh6 fa6
    refine Kn.step fh7 rfl rfl .none (Kn.ex_len fh7 (.tmp rfl)) fun Ko hKo => ?_
    go_simp
    try go_bits
    refine hKo _ _ fun fa8 fh8 => ?_
    clear hKo Ko fh7 fa7
    refine Kn.step fh8 rfl rfl .none (Kn.ex_bin fh8 (.tmp rfl) (.tmp rfl)) fun Ko hKo => ?_
    go_simp
    try go_bits
    refine hKo _ _ fun fa9 fh9 => ?_
    clear hKo Ko fh8 fa8
    refine wpList_nil ?_
    refine hK7 _ _ ?_
    clear hK7 K7
    replace fh9 := fh9.cut (.cons (t := 13) rfl (.cons (t := 4) rfl (.cons (t := 3) rfl (.cons (t := 0) rfl .nil))))
    refine Kn.yes fh9 (.tmp rfl) ?_
    refine wp_skip ?_
    refine hK6 _ _ ?_
    clear hK6 K6
    replace fh9 := fh9.cut (.cons (t := 4) rfl (.cons (t := 3) rfl (.cons (t := 0) rfl .nil)))
    refine wp_seq_k fun K8 hK8 => ?_
    refine wp_block ?_
    obtain ⟨bx, ox, rfl, hbx, -, -⟩ := HA.out k hlt
    obtain ⟨x1, hx1⟩ : ∃ x, (ed xs k).1 = x := ⟨_, rfl⟩
    obtain ⟨x2, hx2⟩ : ∃ x, (ed xs k).2 = x := ⟨_, rfl⟩
    have HX : Hid (ed xs k = (x1, x2)) := Lib.hid (by rw [← hx1, ← hx2])
    have HC : Hid (∀ u, Below w.heap.size w u → u.cell? ⟨bx, ox + k * 2, none⟩ = some (.int .i64 x1) ∧ u.cell? ⟨bx, ox + k * 2 + 1, none⟩ = some (.int .i64 x2)) := Lib.hid (fun u hu => by
      have := (HA.out.on hu).cells hlt
      rw [hx1, hx2] at this; exact this)
    clear hx1 hx2
    refine wp_seq_k fun K9 hK9 => ?_
    refine wp_region_lit ?_
    refine Kn.pure fh9 rfl rfl .none (Kn.ex_assign fh9 .const) fun fa10 fh10 => ?_
    clear fh9 fa9
    refine wpList_nil ?_
    refine hK9 _ _ ?_
    clear hK9 K9
    refine wp_seq_k fun K10 hK10 => ?_
    refine Kn.join (fun fr u => ∃ (a : Nat), Kn.Kn 85 [(5, .int .i64 (a : Int)), (4, .int .i64 (k : Int)), (3, .slice (some ⟨g, 0, none⟩) n cap), (0, .slice (some ⟨bx, ox, none⟩) xs.length c)] fr ∧ a ≤ n ∧ Hid (∀ i, i < a → lessB (ed ys i) (x1, x2) = true) ∧ Hid (a < n → lessB (ed ys a) (x1, x2) = false) ∧ Hid (Below v.heap.size v u)) ?_ ?_
    · refine wp_block ?_
      refine Kn.loop (fun m fr u => ∃ (a : Nat), Kn.Kn 85 [(5, .int .i64 (a : Int)), (4, .int .i64 (k : Int)), (3, .slice (some ⟨g, 0, none⟩) n cap), (0, .slice (some ⟨bx, ox, none⟩) xs.length c)] fr ∧ a + m = n ∧ Hid (∀ i, i < a → lessB (ed ys i) (x1, x2) = true) ∧ Hid (Below v.heap.size v u)) n ⟨0, fh10.cut (.cons (t := 5) rfl (.cons (t := 4) rfl (.cons (t := 3) rfl (.cons (t := 0) rfl .nil)))), by omega, Lib.hid (fun i hi => absurd hi (by omega)), Lib.hid (Below.refl _ _)⟩ ?_
      clear fh10 fa10
      intro m11 fa11 u hI Kl11 hKl11
      obtain ⟨a, fh11, ha, HLs, HB2⟩ := hI
      by_cases hlt2 : a < n
      · have hBu := HB.out.trans (HB2.out.mono HB.out.size)
        have HBu := Lib.hid hBu
        obtain ⟨c1, c2⟩ := HC.out u hBu
        have hyl : a < ys.length := by rw [← HO.out.1]; exact hlt2
        obtain ⟨d1, d2⟩ := ((HO.out.on HB2.out).ein).cells hyl
        obtain ⟨y1, hy1⟩ : ∃ x, (ed ys a).1 = x := ⟨_, rfl⟩
        obtain ⟨y2, hy2⟩ : ∃ x, (ed ys a).2 = x := ⟨_, rfl⟩
        rw [hy1] at d1
        rw [hy2] at d2
        rw [Nat.zero_add] at d1 d2
        have HY : Hid (ed ys a = (y1, y2)) := Lib.hid (by rw [← hy1, ← hy2])
        clear hy1 hy2 hBu
        by_cases hl : lessB (y1, y2) (x1, x2) = true
        · refine wp_seq_k fun K12 hK12 => ?_
          refine wp_seq_k fun K13 hK13 => ?_
          refine Kn.tail 13 (by kernel_rfl) (by kernel_rfl) rfl rfl ?_
          refine Kn.spure fh11 rfl rfl .none (Kn.ex_move fh11 (.tmp rfl)) fun fa12 fh12 => ?_
          clear fh11 fa11
          refine Kn.spure fh12 rfl rfl .none (Kn.ex_move fh12 (.tmp rfl)) fun fa13 fh13 => ?_
          clear fh12 fa12
          refine Kn.sstep fh13 rfl rfl .none (Kn.ex_len fh13 (.tmp rfl)) fun Ko hKo => ?_
          go_simp
          try go_bits
          refine hKo _ fun fa14 fh14 => ?_
          clear hKo Ko fh13 fa13
          refine Kn.sstep fh14 rfl rfl .none (Kn.ex_bin fh14 (.tmp rfl) (.tmp rfl)) fun Ko hKo => ?_
          go_simp
          try go_bits
          refine hKo _ fun fa15 fh15 => ?_
          clear hKo Ko fh14 fa14
          refine Kn.spure fh15 rfl rfl .none (Kn.ex_move fh15 (.tmp rfl)) fun fa16 fh16 => ?_
          clear fh15 fa15
          refine Kn.spure fh16 rfl rfl (.some rfl rfl rfl) (Kn.ex_move fh16 (.tmp rfl)) fun fa17 fh17 => ?_
          clear fh16 fa16
          refine Kn.spure fh17 rfl rfl (.some rfl rfl rfl) (Kn.ex_move fh17 (.tmp rfl)) fun fa18 fh18 => ?_
          clear fh17 fa17
          refine Kn.sstep fh18 rfl rfl (.some rfl rfl rfl) (Kn.ex_indexAddr fh18 (.tmp rfl) (.tmp rfl)) fun Ko hKo => ?_
          go_simp
          try go_bits
          refine hKo _ fun fa19 fh19 => ?_
          clear hKo Ko fh18 fa18
          refine Kn.sstep fh19 rfl rfl (.some rfl rfl rfl) (Kn.ex_load fh19 (.tmp rfl)) fun Ko hKo => ?_
          go_simp
          try go_bits
          refine hKo _ fun fa20 fh20 => ?_
          clear hKo Ko fh19 fa19
          refine Kn.spure fh20 rfl rfl (.some rfl rfl rfl) (Kn.ex_move fh20 (.tmp rfl)) fun fa21 fh21 => ?_
          clear fh20 fa20
          refine Kn.spure fh21 rfl rfl (.some rfl rfl rfl) (Kn.ex_move fh21 (.tmp rfl)) fun fa22 fh22 => ?_
          clear fh21 fa21
          refine Kn.sstep fh22 rfl rfl (.some rfl rfl rfl) (Kn.ex_indexAddr fh22 (.tmp rfl) (.tmp rfl)) fun Ko hKo => ?_
          go_simp
          try go_bits
          refine hKo _ fun fa23 fh23 => ?_
          clear hKo Ko fh22 fa22
          refine Kn.sstep fh23 rfl rfl (.some rfl rfl rfl) (Kn.ex_load fh23 (.tmp rfl)) fun Ko hKo => ?_
          go_simp
          try go_bits
          refine hKo _ fun fa24 fh24 => ?_
          clear hKo Ko fh23 fa23
          refine wpStill_nil ?_
          refine Kn.call fh24 rfl rfl (.some rfl rfl rfl) (Kn.ex_call fh24 (.cons (.tmp rfl) (.cons (.tmp rfl) .nil))) Tryd.call28 (less_any (y1, y2) (x1, x2) _) fun e u2 hp => ?_
          obtain ⟨rfl, hb⟩ := hp
          refine ⟨_, rfl, fun fa25 fh25 => ?_⟩
          clear fh24 fa24
          rw [hl] at fh25
          have HB3 := Lib.hid (HB2.out.trans ((show Below u.heap.size u u2 from Own.undrew hb).mono HB2.out.size))
          clear hb
          refine Kn.pure fh25 rfl rfl .none (Kn.ex_pick fh25 (.tmp rfl) (.tmp rfl)) fun fa26 fh26 => ?_
          clear fh25 fa25
          refine wpList_nil ?_
          refine hK13 _ _ ?_
          clear hK13 K13
          replace fh26 := fh26.cut (.cons (t := 30) rfl (.cons (t := 5) rfl (.cons (t := 4) rfl (.cons (t := 3) rfl (.cons (t := 0) rfl .nil)))))
          refine Kn.yes fh26 (.tmp rfl) ?_
          refine wp_skip ?_
          refine hK12 _ _ ?_
          clear hK12 K12
          replace fh26 := fh26.cut (.cons (t := 5) rfl (.cons (t := 4) rfl (.cons (t := 3) rfl (.cons (t := 0) rfl .nil))))
          refine wp_block ?_
          refine wp_region_lit ?_
          refine Kn.pure fh26 rfl rfl .none (Kn.ex_move fh26 (.tmp rfl)) fun fa27 fh27 => ?_
          clear fh26 fa26
          refine Kn.step fh27 rfl rfl .none (Kn.ex_bin fh27 (.tmp rfl) .const) fun Ko hKo => ?_
          go_simp
          try go_bits
          refine hKo _ _ fun fa28 fh28 => ?_
          clear hKo Ko fh27 fa27
          refine Kn.pure fh28 rfl rfl .none (Kn.ex_assign fh28 (.tmp rfl)) fun fa29 fh29 => ?_
          clear fh28 fa28
          refine wpList_nil ?_
          refine Kn.block_normal ?_
          replace fh29 := fh29.cut (.cons (t := 5) rfl (.cons (t := 4) rfl (.cons (t := 3) rfl (.cons (t := 0) rfl .nil))))
          exact hKl11 (m11 - 1) _ _ (by omega) ⟨a + 1, fh29.cut (.turn (t := 5) rfl (by go_num) (.cons (t := 4) rfl (.cons (t := 3) rfl (.cons (t := 0) rfl .nil)))), by omega, Lib.hid (fun i hi => by rcases Nat.lt_or_ge i a with h | h; exact HLs.out i h; rw [show i = a by omega, HY.out]; exact hl), HB3⟩
        · have hl0 : lessB (y1, y2) (x1, x2) = false := by simpa using hl
          clear hl
          refine wp_seq_k fun K12 hK12 => ?_
          refine wp_seq_k fun K13 hK13 => ?_
          refine Kn.tail 13 (by kernel_rfl) (by kernel_rfl) rfl rfl ?_
          refine Kn.spure fh11 rfl rfl .none (Kn.ex_move fh11 (.tmp rfl)) fun fa12 fh12 => ?_
          clear fh11 fa11
          refine Kn.spure fh12 rfl rfl .none (Kn.ex_move fh12 (.tmp rfl)) fun fa13 fh13 => ?_
          clear fh12 fa12
          refine Kn.sstep fh13 rfl rfl .none (Kn.ex_len fh13 (.tmp rfl)) fun Ko hKo => ?_
          go_simp
          try go_bits
          refine hKo _ fun fa14 fh14 => ?_
          clear hKo Ko fh13 fa13
          refine Kn.sstep fh14 rfl rfl .none (Kn.ex_bin fh14 (.tmp rfl) (.tmp rfl)) fun Ko hKo => ?_
          go_simp
          try go_bits
          refine hKo _ fun fa15 fh15 => ?_
          clear hKo Ko fh14 fa14
          refine Kn.spure fh15 rfl rfl .none (Kn.ex_move fh15 (.tmp rfl)) fun fa16 fh16 => ?_
          clear fh15 fa15
          refine Kn.spure fh16 rfl rfl (.some rfl rfl rfl) (Kn.ex_move fh16 (.tmp rfl)) fun fa17 fh17 => ?_
          clear fh16 fa16
          refine Kn.spure fh17 rfl rfl (.some rfl rfl rfl) (Kn.ex_move fh17 (.tmp rfl)) fun fa18 fh18 => ?_
          clear fh17 fa17
          refine Kn.sstep fh18 rfl rfl (.some rfl rfl rfl) (Kn.ex_indexAddr fh18 (.tmp rfl) (.tmp rfl)) fun Ko hKo => ?_
          go_simp
          try go_bits
          refine hKo _ fun fa19 fh19 => ?_
          clear hKo Ko fh18 fa18
          refine Kn.sstep fh19 rfl rfl (.some rfl rfl rfl) (Kn.ex_load fh19 (.tmp rfl)) fun Ko hKo => ?_
          go_simp
          try go_bits
          refine hKo _ fun fa20 fh20 => ?_
          clear hKo Ko fh19 fa19
          refine Kn.spure fh20 rfl rfl (.some rfl rfl rfl) (Kn.ex_move fh20 (.tmp rfl)) fun fa21 fh21 => ?_
          clear fh20 fa20
          refine Kn.spure fh21 rfl rfl (.some rfl rfl rfl) (Kn.ex_move fh21 (.tmp rfl)) fun fa22 fh22 => ?_
          clear fh21 fa21
          refine Kn.sstep fh22 rfl rfl (.some rfl rfl rfl) (Kn.ex_indexAddr fh22 (.tmp rfl) (.tmp rfl)) fun Ko hKo => ?_
          go_simp
          try go_bits
          refine hKo _ fun fa23 fh23 => ?_
          clear hKo Ko fh22 fa22
          refine Kn.sstep fh23 rfl rfl (.some rfl rfl rfl) (Kn.ex_load fh23 (.tmp rfl)) fun Ko hKo => ?_
          go_simp
          try go_bits
          refine hKo _ fun fa24 fh24 => ?_
          clear hKo Ko fh23 fa23
          refine wpStill_nil ?_
          refine Kn.call fh24 rfl rfl (.some rfl rfl rfl) (Kn.ex_call fh24 (.cons (.tmp rfl) (.cons (.tmp rfl) .nil))) Tryd.call28 (less_any (y1, y2) (x1, x2) _) fun e u2 hp => ?_
          obtain ⟨rfl, hb⟩ := hp
          refine ⟨_, rfl, fun fa25 fh25 => ?_⟩
          clear fh24 fa24
          rw [hl0] at fh25
          have HB3 := Lib.hid (HB2.out.trans ((show Below u.heap.size u u2 from Own.undrew hb).mono HB2.out.size))
          clear hb
          refine Kn.pure fh25 rfl rfl .none (Kn.ex_pick fh25 (.tmp rfl) (.tmp rfl)) fun fa26 fh26 => ?_
          clear fh25 fa25
          refine wpList_nil ?_
          refine hK13 _ _ ?_
          clear hK13 K13
          replace fh26 := fh26.cut (.cons (t := 30) rfl (.cons (t := 5) rfl (.cons (t := 4) rfl (.cons (t := 3) rfl (.cons (t := 0) rfl .nil)))))
          refine Kn.no fh26 (.tmp rfl) ?_
          replace fh26 := fh26.cut (.cons (t := 5) rfl (.cons (t := 4) rfl (.cons (t := 3) rfl (.cons (t := 0) rfl .nil))))
          refine wp_exit ?_
          refine Kn.then_exit ?_
          clear hK12 K12
          refine Kn.then_exit ?_
          clear hKl11 Kl11
          refine Kn.block_exit ?_
          exact ⟨a, fh26.cut (.cons (t := 5) rfl (.cons (t := 4) rfl (.cons (t := 3) rfl (.cons (t := 0) rfl .nil)))), by omega, HLs, Lib.hid (fun _ => by rw [HY.out]; exact hl0), HB3⟩
      · refine wp_seq_k fun K12 hK12 => ?_
        refine wp_seq_k fun K13 hK13 => ?_
        refine Kn.tail 13 (by kernel_rfl) (by kernel_rfl) rfl rfl ?_
        refine Kn.spure fh11 rfl rfl .none (Kn.ex_move fh11 (.tmp rfl)) fun fa12 fh12 => ?_
        clear fh11 fa11
        refine Kn.spure fh12 rfl rfl .none (Kn.ex_move fh12 (.tmp rfl)) fun fa13 fh13 => ?_
        clear fh12 fa12
        refine Kn.sstep fh13 rfl rfl .none (Kn.ex_len fh13 (.tmp rfl)) fun Ko hKo => ?_
        go_simp
        try go_bits
        refine hKo _ fun fa14 fh14 => ?_
        clear hKo Ko fh13 fa13
        refine Kn.sstep fh14 rfl rfl .none (Kn.ex_bin fh14 (.tmp rfl) (.tmp rfl)) fun Ko hKo => ?_
        go_simp
        try go_bits
        refine hKo _ fun fa15 fh15 => ?_
        clear hKo Ko fh14 fa14
        refine Kn.spure fh15 rfl rfl .none (Kn.ex_move fh15 (.tmp rfl)) fun fa16 fh16 => ?_
        clear fh15 fa15
        refine Kn.sskip fh16 rfl rfl (.some rfl rfl rfl) fun fa17 fh17 => ?_
        clear fh16 fa16
        refine Kn.sskip fh17 rfl rfl (.some rfl rfl rfl) fun fa18 fh18 => ?_
        clear fh17 fa17
        refine Kn.sskip fh18 rfl rfl (.some rfl rfl rfl) fun fa19 fh19 => ?_
        clear fh18 fa18
        refine Kn.sskip fh19 rfl rfl (.some rfl rfl rfl) fun fa20 fh20 => ?_
        clear fh19 fa19
        refine Kn.sskip fh20 rfl rfl (.some rfl rfl rfl) fun fa21 fh21 => ?_
        clear fh20 fa20
        refine Kn.sskip fh21 rfl rfl (.some rfl rfl rfl) fun fa22 fh22 => ?_
        clear fh21 fa21
        refine Kn.sskip fh22 rfl rfl (.some rfl rfl rfl) fun fa23 fh23 => ?_
        clear fh22 fa22
        refine Kn.sskip fh23 rfl rfl (.some rfl rfl rfl) fun fa24 fh24 => ?_
        clear fh23 fa23
        refine wpStill_nil ?_
        refine Kn.skip fh24 rfl rfl (.some rfl rfl rfl) fun fa25 fh25 => ?_
        clear fh24 fa24
        refine Kn.pure fh25 rfl rfl .none (Kn.ex_pick fh25 (.tmp rfl) .const) fun fa26 fh26 => ?_
        clear fh25 fa25
        refine wpList_nil ?_
        refine hK13 _ _ ?_
        clear hK13 K13
        replace fh26 := fh26.cut (.cons (t := 30) rfl (.cons (t := 5) rfl (.cons (t := 4) rfl (.cons (t := 3) rfl (.cons (t := 0) rfl .nil)))))
        refine Kn.no fh26 (.tmp rfl) ?_
        replace fh26 := fh26.cut (.cons (t := 5) rfl (.cons (t := 4) rfl (.cons (t := 3) rfl (.cons (t := 0) rfl .nil))))
        refine wp_exit ?_
        refine Kn.then_exit ?_
        clear hK12 K12
        refine Kn.then_exit ?_
        clear hKl11 Kl11
        refine Kn.block_exit ?_
        exact ⟨a, fh26.cut (.cons (t := 5) rfl (.cons (t := 4) rfl (.cons (t := 3) rfl (.cons (t := 0) rfl .nil)))), by omega, HLs, Lib.hid (fun h => absurd h hlt2), Lib.hid (Own.below_drew HB2.out)⟩
    clear fh10 fa10
    intro fa11 u hJ
    obtain ⟨a, fh11, han, HLs, HNl, HB2⟩ := hJ
    refine hK10 _ _ ?_
    clear hK10 K10
    have hBu := HB.out.trans (HB2.out.mono HB.out.size)
    have HBu := Lib.hid hBu
    have HOu := Lib.hid (HO.out.on HB2.out)
    obtain ⟨c1, c2⟩ := HC.out u hBu
    clear hBu HO
    by_cases hq : a < n ∧ lessB (x1, x2) (ed ys a) = false
    · obtain ⟨han2, hq2⟩ := hq
      have hyl : a < ys.length := by rw [← HOu.out.1]; exact han2
      obtain ⟨d1, d2⟩ := HOu.out.ein.cells hyl
      have HE : Hid (ed ys a = (x1, x2)) := Lib.hid (less_eq (HNl.out han2) hq2)
      obtain ⟨y1, hy1⟩ : ∃ x, (ed ys a).1 = x := ⟨_, rfl⟩
      obtain ⟨y2, hy2⟩ : ∃ x, (ed ys a).2 = x := ⟨_, rfl⟩
      have hl0 : lessB (x1, x2) (y1, y2) = false := by rw [← hy1, ← hy2]; exact hq2
      rw [hy1] at d1
      rw [hy2] at d2
      rw [Nat.zero_add] at d1 d2
      clear hy1 hy2 hq2
      refine wp_seq_k fun K11 hK11 => ?_
      refine wp_seq_k fun K12 hK12 => ?_
      refine Kn.tail 13 (by kernel_rfl) (by kernel_rfl) rfl rfl ?_
      refine Kn.spure fh11 rfl rfl .none (Kn.ex_move fh11 (.tmp rfl)) fun fa12 fh12 => ?_
      clear fh11 fa11
      refine Kn.spure fh12 rfl rfl .none (Kn.ex_move fh12 (.tmp rfl)) fun fa13 fh13 => ?_
      clear fh12 fa12
      refine Kn.sstep fh13 rfl rfl .none (Kn.ex_len fh13 (.tmp rfl)) fun Ko hKo => ?_
      go_simp
      try go_bits
      refine hKo _ fun fa14 fh14 => ?_
      clear hKo Ko fh13 fa13
      refine Kn.sstep fh14 rfl rfl .none (Kn.ex_bin fh14 (.tmp rfl) (.tmp rfl)) fun Ko hKo => ?_
      go_simp
      try go_bits
      refine hKo _ fun fa15 fh15 => ?_
      clear hKo Ko fh14 fa14
      refine Kn.spure fh15 rfl rfl .none (Kn.ex_move fh15 (.tmp rfl)) fun fa16 fh16 => ?_
      clear fh15 fa15
      refine Kn.spure fh16 rfl rfl (.some rfl rfl rfl) (Kn.ex_move fh16 (.tmp rfl)) fun fa17 fh17 => ?_
      clear fh16 fa16
      refine Kn.spure fh17 rfl rfl (.some rfl rfl rfl) (Kn.ex_move fh17 (.tmp rfl)) fun fa18 fh18 => ?_
      clear fh17 fa17
      refine Kn.sstep fh18 rfl rfl (.some rfl rfl rfl) (Kn.ex_indexAddr fh18 (.tmp rfl) (.tmp rfl)) fun Ko hKo => ?_
      go_simp
      try go_bits
      refine hKo _ fun fa19 fh19 => ?_
      clear hKo Ko fh18 fa18
      refine Kn.sstep fh19 rfl rfl (.some rfl rfl rfl) (Kn.ex_load fh19 (.tmp rfl)) fun Ko hKo => ?_
      go_simp
      try go_bits
      refine hKo _ fun fa20 fh20 => ?_
      clear hKo Ko fh19 fa19
      refine Kn.spure fh20 rfl rfl (.some rfl rfl rfl) (Kn.ex_move fh20 (.tmp rfl)) fun fa21 fh21 => ?_
      clear fh20 fa20
      refine Kn.spure fh21 rfl rfl (.some rfl rfl rfl) (Kn.ex_move fh21 (.tmp rfl)) fun fa22 fh22 => ?_
      clear fh21 fa21
      refine Kn.sstep fh22 rfl rfl (.some rfl rfl rfl) (Kn.ex_indexAddr fh22 (.tmp rfl) (.tmp rfl)) fun Ko hKo => ?_
      go_simp
      try go_bits
      refine hKo _ fun fa23 fh23 => ?_
      clear hKo Ko fh22 fa22
      refine Kn.sstep fh23 rfl rfl (.some rfl rfl rfl) (Kn.ex_load fh23 (.tmp rfl)) fun Ko hKo => ?_
      go_simp
      try go_bits
      refine hKo _ fun fa24 fh24 => ?_
      clear hKo Ko fh23 fa23
      refine wpStill_nil ?_
      refine Kn.call fh24 rfl rfl (.some rfl rfl rfl) (Kn.ex_call fh24 (.cons (.tmp rfl) (.cons (.tmp rfl) .nil))) Tryd.call28 (less_any (x1, x2) (y1, y2) _) fun e u2 hp => ?_
      obtain ⟨rfl, hb⟩ := hp
      refine ⟨_, rfl, fun fa25 fh25 => ?_⟩
      clear fh24 fa24
      rw [hl0] at fh25
      have HB3 := Lib.hid (HBu.out.trans ((show Below u.heap.size u u2 from Own.undrew hb).mono HBu.out.size))
      have HO3 := Lib.hid (HOu.out.on (show Below u.heap.size u u2 from Own.undrew hb))
      clear hb
      refine Kn.step fh25 rfl rfl (.some rfl rfl rfl) (Kn.ex_un fh25 (.tmp rfl)) fun Ko hKo => ?_
      go_simp
      try go_bits
      refine hKo _ _ fun fa26 fh26 => ?_
      clear hKo Ko fh25 fa25
      refine Kn.pure fh26 rfl rfl .none (Kn.ex_pick fh26 (.tmp rfl) (.tmp rfl)) fun fa27 fh27 => ?_
      clear fh26 fa26
      refine wpList_nil ?_
      refine hK12 _ _ ?_
      clear hK12 K12
      replace fh27 := fh27.cut (.cons (t := 48) rfl (.cons (t := 5) rfl (.cons (t := 4) rfl (.cons (t := 3) rfl (.cons (t := 0) rfl .nil)))))
      refine Kn.yes fh27 (.tmp rfl) ?_
      replace fh27 := fh27.cut (.cons (t := 5) rfl (.cons (t := 4) rfl (.cons (t := 3) rfl (.cons (t := 0) rfl .nil))))
      refine wp_exit ?_
      refine Kn.then_exit ?_
      clear hK11 K11
      refine Kn.block_exit ?_
      refine hK8 _ _ ?_
      clear hK8 K8
      replace fh27 := fh27.cut (.cons (t := 4) rfl (.cons (t := 3) rfl (.cons (t := 0) rfl .nil)))
      refine wp_region_lit ?_
      refine Kn.pure fh27 rfl rfl .none (Kn.ex_move fh27 (.tmp rfl)) fun fa28 fh28 => ?_
      clear fh27 fa27
      refine Kn.step fh28 rfl rfl .none (Kn.ex_bin fh28 (.tmp rfl) .const) fun Ko hKo => ?_
      go_simp
      try go_bits
      refine hKo _ _ fun fa29 fh29 => ?_
      clear hKo Ko fh28 fa28
      refine Kn.pure fh29 rfl rfl .none (Kn.ex_assign fh29 (.tmp rfl)) fun fa30 fh30 => ?_
      clear fh29 fa29
      refine wpList_nil ?_
      replace fh30 := fh30.cut (.cons (t := 4) rfl (.cons (t := 3) rfl (.cons (t := 0) rfl .nil)))
      exact hKl5 (m5 - 1) _ _ (by omega) ⟨k + 1, g, n, cap, ys, fh30.cut (.turn (t := 4) rfl (by go_num) (.cons (t := 3) rfl (.cons (t := 0) rfl .nil))), by omega, by omega, HO3, Lib.hid ⟨HN.out.srt, fun e => by rw [take_ed _ _ hlt, List.mem_append, List.mem_singleton, HN.out.mem e, HX.out]; exact ⟨.inl, fun h => h.elim id (fun h => by rw [h, ← HN.out.mem, ← HE.out, ed_at _ _ hyl]; exact List.getElem_mem _)⟩⟩, HB3⟩
    have HG : Hid (∀ b ∈ ys.drop a, lessB (x1, x2) b = true) := Lib.hid (srt_drop HN.out.srt (fun hk' => by
      rw [← ed_at ys a hk']
      cases h : lessB (x1, x2) (ed ys a) with
      | true => rfl
      | false => exact absurd ⟨by rw [HOu.out.1]; exact hk', h⟩ hq))
    by_cases han2 : a < n
    · have hyl : a < ys.length := by rw [← HOu.out.1]; exact han2
      obtain ⟨d1, d2⟩ := HOu.out.ein.cells hyl
      obtain ⟨y1, hy1⟩ : ∃ x, (ed ys a).1 = x := ⟨_, rfl⟩
      obtain ⟨y2, hy2⟩ : ∃ x, (ed ys a).2 = x := ⟨_, rfl⟩
      have hl1 : lessB (x1, x2) (y1, y2) = true := by
        cases h : lessB (x1, x2) (y1, y2) with
        | true => rfl
        | false => exact absurd ⟨han2, by rw [show ed ys a = (y1, y2) by rw [← hy1, ← hy2]]; exact h⟩ hq
      rw [hy1] at d1
      rw [hy2] at d2
      rw [Nat.zero_add] at d1 d2
      clear hy1 hy2
      refine wp_seq_k fun K11 hK11 => ?_
      refine wp_seq_k fun K12 hK12 => ?_
      refine Kn.tail 13 (by kernel_rfl) (by kernel_rfl) rfl rfl ?_
      refine Kn.spure fh11 rfl rfl .none (Kn.ex_move fh11 (.tmp rfl)) fun fa12 fh12 => ?_
      clear fh11 fa11
      refine Kn.spure fh12 rfl rfl .none (Kn.ex_move fh12 (.tmp rfl)) fun fa13 fh13 => ?_
      clear fh12 fa12
      refine Kn.sstep fh13 rfl rfl .none (Kn.ex_len fh13 (.tmp rfl)) fun Ko hKo => ?_
      go_simp
      try go_bits
      refine hKo _ fun fa14 fh14 => ?_
      clear hKo Ko fh13 fa13
      refine Kn.sstep fh14 rfl rfl .none (Kn.ex_bin fh14 (.tmp rfl) (.tmp rfl)) fun Ko hKo => ?_
      go_simp
      try go_bits
      refine hKo _ fun fa15 fh15 => ?_
      clear hKo Ko fh14 fa14
      refine Kn.spure fh15 rfl rfl .none (Kn.ex_move fh15 (.tmp rfl)) fun fa16 fh16 => ?_
      clear fh15 fa15
      refine Kn.spure fh16 rfl rfl (.some rfl rfl rfl) (Kn.ex_move fh16 (.tmp rfl)) fun fa17 fh17 => ?_
      clear fh16 fa16
      refine Kn.spure fh17 rfl rfl (.some rfl rfl rfl) (Kn.ex_move fh17 (.tmp rfl)) fun fa18 fh18 => ?_
      clear fh17 fa17
      refine Kn.sstep fh18 rfl rfl (.some rfl rfl rfl) (Kn.ex_indexAddr fh18 (.tmp rfl) (.tmp rfl)) fun Ko hKo => ?_
      go_simp
      try go_bits
      refine hKo _ fun fa19 fh19 => ?_
      clear hKo Ko fh18 fa18
      refine Kn.sstep fh19 rfl rfl (.some rfl rfl rfl) (Kn.ex_load fh19 (.tmp rfl)) fun Ko hKo => ?_
      go_simp
      try go_bits
      refine hKo _ fun fa20 fh20 => ?_
      clear hKo Ko fh19 fa19
      refine Kn.spure fh20 rfl rfl (.some rfl rfl rfl) (Kn.ex_move fh20 (.tmp rfl)) fun fa21 fh21 => ?_
      clear fh20 fa20
      refine Kn.spure fh21 rfl rfl (.some rfl rfl rfl) (Kn.ex_move fh21 (.tmp rfl)) fun fa22 fh22 => ?_
      clear fh21 fa21
      refine Kn.sstep fh22 rfl rfl (.some rfl rfl rfl) (Kn.ex_indexAddr fh22 (.tmp rfl) (.tmp rfl)) fun Ko hKo => ?_
      go_simp
      try go_bits
      refine hKo _ fun fa23 fh23 => ?_
      clear hKo Ko fh22 fa22
      refine Kn.sstep fh23 rfl rfl (.some rfl rfl rfl) (Kn.ex_load fh23 (.tmp rfl)) fun Ko hKo => ?_
      go_simp
      try go_bits
      refine hKo _ fun fa24 fh24 => ?_
      clear hKo Ko fh23 fa23
      refine wpStill_nil ?_
      refine Kn.call fh24 rfl rfl (.some rfl rfl rfl) (Kn.ex_call fh24 (.cons (.tmp rfl) (.cons (.tmp rfl) .nil))) Tryd.call28 (less_any (x1, x2) (y1, y2) _) fun e u2 hp => ?_
      obtain ⟨rfl, hb⟩ := hp
      refine ⟨_, rfl, fun fa25 fh25 => ?_⟩
      clear fh24 fa24
      rw [hl1] at fh25
      have HB3 := Lib.hid (HBu.out.trans ((show Below u.heap.size u u2 from Own.undrew hb).mono HBu.out.size))
      have HO3 := Lib.hid (HOu.out.on (show Below u.heap.size u u2 from Own.undrew hb))
      clear hb
      refine Kn.step fh25 rfl rfl (.some rfl rfl rfl) (Kn.ex_un fh25 (.tmp rfl)) fun Ko hKo => ?_
      go_simp
      try go_bits
      refine hKo _ _ fun fa26 fh26 => ?_
      clear hKo Ko fh25 fa25
      refine Kn.pure fh26 rfl rfl .none (Kn.ex_pick fh26 (.tmp rfl) (.tmp rfl)) fun fa27 fh27 => ?_
      clear fh26 fa26
      refine wpList_nil ?_
      refine hK12 _ _ ?_
      clear hK12 K12
      replace fh27 := fh27.cut (.cons (t := 48) rfl (.cons (t := 5) rfl (.cons (t := 4) rfl (.cons (t := 3) rfl (.cons (t := 0) rfl .nil)))))
      refine Kn.no fh27 (.tmp rfl) ?_
      refine wp_skip ?_
      refine hK11 _ _ ?_
      clear hK11 K11
      replace fh27 := fh27.cut (.cons (t := 5) rfl (.cons (t := 4) rfl (.cons (t := 3) rfl (.cons (t := 0) rfl .nil))))
      clear d1 d2
      clear HBu HOu c1 c2 HB HB2
      have HXr : Hid (Below w.heap.size w u2) := HB3
      clear HB3
      refine wp_seq_k fun K13 hK13 => ?_
      refine wp_region_lit ?_
      refine Kn.step fh27 rfl rfl .none (Kn.ex_buildSlice fh27 .nil) fun Ko hKo => ?_
      go_simp
      try go_bits
      refine hKo _ _ fun fa28 fh28 => ?_
      clear hKo Ko fh27 fa27
      refine Kn.pure fh28 rfl rfl .none (Kn.ex_assign fh28 (.tmp rfl)) fun fa29 fh29 => ?_
      clear fh28 fa28
      refine wpList_nil ?_
      refine hK13 _ _ ?_
      clear hK13 K13
      replace fh29 := fh29.cut (.cons (t := 6) rfl (.cons (t := 5) rfl (.cons (t := 4) rfl (.cons (t := 3) rfl (.cons (t := 0) rfl .nil)))))
      refine wp_seq_k fun K14 hK14 => ?_
      refine wp_seq_k fun K15 hK15 => ?_
      refine wp_region_lit ?_
      refine Kn.pure fh29 rfl rfl .none (Kn.ex_assign fh29 .const) fun fa30 fh30 => ?_
      clear fh29 fa29
      refine wpList_nil ?_
      refine hK15 _ _ ?_
      clear hK15 K15
      refine wp_block ?_
      refine Kn.loop (fun m fr v => ∃ (j h q ch : Nat), Kn.Kn 85 [(7, .int .i64 (j : Int)), (6, .slice (some ⟨h, 0, none⟩) q ch), (5, .int .i64 (a : Int)), (4, .int .i64 (k : Int)), (3, .slice (some ⟨g, 0, none⟩) n cap), (0, .slice (some ⟨bx, ox, none⟩) xs.length c)] fr ∧ j + m = a ∧ q = j ∧ h ≠ g ∧ Hid (OwnE v w.heap.size (some ⟨h, 0, none⟩) q ch (ys.take j)) ∧ Hid (OwnE v w.heap.size (some ⟨g, 0, none⟩) n cap ys) ∧ Hid (Below w.heap.size w v)) a ⟨0, u2.heap.size, 0, 0, fh30.cut (.cons (t := 7) rfl (.cons (t := 6) rfl (.cons (t := 5) rfl (.cons (t := 4) rfl (.cons (t := 3) rfl (.cons (t := 0) rfl .nil)))))), by omega, rfl, (Nat.ne_of_gt HO3.out.lt), Lib.hid (OwnE.new u2 _ HXr.out.size), Lib.hid (HO3.out.alloc _), Lib.hid (HXr.out.alloc HXr.out.size _)⟩ ?_
      clear fh30 fa30
      intro m16 fa31 v hI Kl16 hKl16
      obtain ⟨j, h, q, ch, fh31, hj, hqj, hhg, HH, HO4, HB4⟩ := hI
      clear HO3 HXr
      by_cases hja : j < a
      · refine wp_seq_k fun K17 hK17 => ?_
        refine wp_seq_k fun K18 hK18 => ?_
        refine wp_region_lit ?_
        refine Kn.pure fh31 rfl rfl .none (Kn.ex_move fh31 (.tmp rfl)) fun fa32 fh32 => ?_
        clear fh31 fa31
        refine Kn.pure fh32 rfl rfl .none (Kn.ex_move fh32 (.tmp rfl)) fun fa33 fh33 => ?_
        clear fh32 fa32
        refine Kn.step fh33 rfl rfl .none (Kn.ex_bin fh33 (.tmp rfl) (.tmp rfl)) fun Ko hKo => ?_
        go_simp
        try go_bits
        refine hKo _ _ fun fa34 fh34 => ?_
        clear hKo Ko fh33 fa33
        refine wpList_nil ?_
        refine hK18 _ _ ?_
        clear hK18 K18
        replace fh34 := fh34.cut (.cons (t := 52) rfl (.cons (t := 7) rfl (.cons (t := 6) rfl (.cons (t := 5) rfl (.cons (t := 4) rfl (.cons (t := 3) rfl (.cons (t := 0) rfl .nil)))))))
        refine Kn.yes fh34 (.tmp rfl) ?_
        refine wp_skip ?_
        refine hK17 _ _ ?_
        clear hK17 K17
        replace fh34 := fh34.cut (.cons (t := 7) rfl (.cons (t := 6) rfl (.cons (t := 5) rfl (.cons (t := 4) rfl (.cons (t := 3) rfl (.cons (t := 0) rfl .nil))))))
        refine wp_seq_k fun K19 hK19 => ?_
        refine wp_block ?_
        have hjl : j < ys.length := by rw [← HO4.out.1]; omega
        obtain ⟨d1, d2⟩ := HO4.out.ein.cells hjl
        obtain ⟨y1, hy1⟩ : ∃ x, (ed ys j).1 = x := ⟨_, rfl⟩
        obtain ⟨y2, hy2⟩ : ∃ x, (ed ys j).2 = x := ⟨_, rfl⟩
        rw [hy1] at d1
        rw [hy2] at d2
        rw [Nat.zero_add] at d1 d2
        have HY : Hid (ys.take (j + 1) = ys.take j ++ [(y1, y2)]) := Lib.hid (by rw [take_ed _ _ hjl, ← hy1, ← hy2])
        clear hy1 hy2
        have hjn : j < n := by omega
        obtain ⟨h', ch', v', hrun, hown, hbel, hkep⟩ := push1 w v 22 (some ⟨h, 0, none⟩) q ch (ys.take j) (y1, y2) HH.out HB4.out (by omega)
        have HH2 := Lib.hid hown
        rw [← HY.out] at HH2
        have HO5 := Lib.hid ((HO4.out.alloc (.cells #[.int .i64 y1, .int .i64 y2] 51)).kept hkep (.inr (by simp [Value.ownBlock]; exact Ne.symm hhg)))
        have hh' : h' ≠ g := by
          have := HO4.out.lt
          rcases hkep.at' with e | e
          · simp [Value.ownBlock] at e; omega
          · simp at e; omega
        have HB5 := Lib.hid hbel
        clear hown hbel hkep
        refine wp_region_lit ?_
        refine Kn.pure fh34 rfl rfl .none (Kn.ex_move fh34 (.tmp rfl)) fun fa35 fh35 => ?_
        clear fh34 fa34
        refine Kn.pure fh35 rfl rfl .none (Kn.ex_move fh35 (.tmp rfl)) fun fa36 fh36 => ?_
        clear fh35 fa35
        refine Kn.pure fh36 rfl rfl .none (Kn.ex_move fh36 (.tmp rfl)) fun fa37 fh37 => ?_
        clear fh36 fa36
        refine Kn.step fh37 rfl rfl .none (Kn.ex_indexAddr fh37 (.tmp rfl) (.tmp rfl)) fun Ko hKo => ?_
        go_simp
        try go_bits
        refine hKo _ _ fun fa38 fh38 => ?_
        clear hKo Ko fh37 fa37
        refine Kn.step fh38 rfl rfl .none (Kn.ex_load fh38 (.tmp rfl)) fun Ko hKo => ?_
        go_simp
        try go_bits
        refine hKo _ _ fun fa39 fh39 => ?_
        clear hKo Ko fh38 fa38
        refine Kn.step fh39 rfl rfl .none (Kn.ex_buildSlice fh39 (.cons (.tmp rfl) .nil)) fun Ko hKo => ?_
        go_simp
        try go_bits
        refine hKo _ _ fun fa40 fh40 => ?_
        clear hKo Ko fh39 fa39
        refine Kn.known fh40 rfl rfl .none (Kn.ex_append fh40 (.cons (.tmp rfl) (.cons (.tmp rfl) .nil))) hrun fun fa41 fh41 => ?_
        clear fh40 fa40
        clear hrun
        refine Kn.pure fh41 rfl rfl .none (Kn.ex_assign fh41 (.tmp rfl)) fun fa42 fh42 => ?_
        clear fh41 fa41
        refine wpList_nil ?_
        refine Kn.block_normal ?_
        refine hK19 _ _ ?_
        clear hK19 K19
        replace fh42 := fh42.cut (.cons (t := 6) rfl (.cons (t := 7) rfl (.cons (t := 5) rfl (.cons (t := 4) rfl (.cons (t := 3) rfl (.cons (t := 0) rfl .nil))))))
        clear d1 d2
        refine wp_region_lit ?_
        refine Kn.pure fh42 rfl rfl .none (Kn.ex_move fh42 (.tmp rfl)) fun fa43 fh43 => ?_
        clear fh42 fa42
        refine Kn.step fh43 rfl rfl .none (Kn.ex_bin fh43 (.tmp rfl) .const) fun Ko hKo => ?_
        go_simp
        try go_bits
        refine hKo _ _ fun fa44 fh44 => ?_
        clear hKo Ko fh43 fa43
        refine Kn.pure fh44 rfl rfl .none (Kn.ex_assign fh44 (.tmp rfl)) fun fa45 fh45 => ?_
        clear fh44 fa44
        refine wpList_nil ?_
        replace fh45 := fh45.cut (.cons (t := 7) rfl (.cons (t := 6) rfl (.cons (t := 5) rfl (.cons (t := 4) rfl (.cons (t := 3) rfl (.cons (t := 0) rfl .nil))))))
        exact hKl16 (m16 - 1) _ _ (by omega) ⟨j + 1, h', q + 1, ch', fh45.cut (.turn (t := 7) rfl (by go_num) (.cons (t := 6) rfl (.cons (t := 5) rfl (.cons (t := 4) rfl (.cons (t := 3) rfl (.cons (t := 0) rfl .nil)))))), by omega, by omega, hh', HH2, HO5, HB5⟩
      obtain rfl : j = a := by omega
      refine wp_seq_k fun K17 hK17 => ?_
      refine wp_seq_k fun K18 hK18 => ?_
      refine wp_region_lit ?_
      refine Kn.pure fh31 rfl rfl .none (Kn.ex_move fh31 (.tmp rfl)) fun fa32 fh32 => ?_
      clear fh31 fa31
      refine Kn.pure fh32 rfl rfl .none (Kn.ex_move fh32 (.tmp rfl)) fun fa33 fh33 => ?_
      clear fh32 fa32
      refine Kn.step fh33 rfl rfl .none (Kn.ex_bin fh33 (.tmp rfl) (.tmp rfl)) fun Ko hKo => ?_
      go_simp
      try go_bits
      refine hKo _ _ fun fa34 fh34 => ?_
      clear hKo Ko fh33 fa33
      refine wpList_nil ?_
      refine hK18 _ _ ?_
      clear hK18 K18
      replace fh34 := fh34.cut (.cons (t := 52) rfl (.cons (t := 7) rfl (.cons (t := 6) rfl (.cons (t := 5) rfl (.cons (t := 4) rfl (.cons (t := 3) rfl (.cons (t := 0) rfl .nil)))))))
      refine Kn.no fh34 (.tmp rfl) ?_
      replace fh34 := fh34.cut (.cons (t := 7) rfl (.cons (t := 6) rfl (.cons (t := 5) rfl (.cons (t := 4) rfl (.cons (t := 3) rfl (.cons (t := 0) rfl .nil))))))
      refine wp_exit ?_
      refine Kn.then_exit ?_
      clear hK17 K17
      refine Kn.then_exit ?_
      clear hKl16 Kl16
      refine Kn.block_exit ?_
      refine hK14 _ _ ?_
      clear hK14 K14
      replace fh34 := fh34.cut (.cons (t := 6) rfl (.cons (t := 5) rfl (.cons (t := 4) rfl (.cons (t := 3) rfl (.cons (t := 0) rfl .nil)))))
      obtain ⟨c1, c2⟩ := HC.out v HB4.out
      obtain ⟨h', ch', v', hrun, hown, hbel, hkep⟩ := push1 w v 22 (some ⟨h, 0, none⟩) q ch (ys.take j) (x1, x2) HH.out HB4.out (by omega)
      have HH2 := Lib.hid hown
      have HO5 := Lib.hid ((HO4.out.alloc (.cells #[.int .i64 x1, .int .i64 x2] 51)).kept hkep (.inr (by simp [Value.ownBlock]; exact Ne.symm hhg)))
      have hh' : h' ≠ g := by
        have := HO4.out.lt
        rcases hkep.at' with e | e
        · simp [Value.ownBlock] at e; omega
        · simp at e; omega
      have HB5 := Lib.hid hbel
      clear hown hbel hkep HH HO4 HB4
      refine wp_seq_k fun K19 hK19 => ?_
      refine wp_region_lit ?_
      refine Kn.pure fh34 rfl rfl .none (Kn.ex_move fh34 (.tmp rfl)) fun fa35 fh35 => ?_
      clear fh34 fa34
      refine Kn.pure fh35 rfl rfl .none (Kn.ex_move fh35 (.tmp rfl)) fun fa36 fh36 => ?_
      clear fh35 fa35
      refine Kn.pure fh36 rfl rfl .none (Kn.ex_move fh36 (.tmp rfl)) fun fa37 fh37 => ?_
      clear fh36 fa36
      refine Kn.step fh37 rfl rfl .none (Kn.ex_indexAddr fh37 (.tmp rfl) (.tmp rfl)) fun Ko hKo => ?_
      go_simp
      try go_bits
      refine hKo _ _ fun fa38 fh38 => ?_
      clear hKo Ko fh37 fa37
      refine Kn.step fh38 rfl rfl .none (Kn.ex_load fh38 (.tmp rfl)) fun Ko hKo => ?_
      go_simp
      try go_bits
      refine hKo _ _ fun fa39 fh39 => ?_
      clear hKo Ko fh38 fa38
      refine Kn.step fh39 rfl rfl .none (Kn.ex_buildSlice fh39 (.cons (.tmp rfl) .nil)) fun Ko hKo => ?_
      go_simp
      try go_bits
      refine hKo _ _ fun fa40 fh40 => ?_
      clear hKo Ko fh39 fa39
      refine Kn.known fh40 rfl rfl .none (Kn.ex_append fh40 (.cons (.tmp rfl) (.cons (.tmp rfl) .nil))) hrun fun fa41 fh41 => ?_
      clear fh40 fa40
      clear hrun
      refine Kn.pure fh41 rfl rfl .none (Kn.ex_assign fh41 (.tmp rfl)) fun fa42 fh42 => ?_
      clear fh41 fa41
      refine wpList_nil ?_
      refine hK19 _ _ ?_
      clear hK19 K19
      replace fh42 := fh42.cut (.cons (t := 6) rfl (.cons (t := 5) rfl (.cons (t := 4) rfl (.cons (t := 3) rfl (.cons (t := 0) rfl .nil)))))
      clear c1 c2
      refine wp_seq_k fun K20 hK20 => ?_
      refine wp_seq_k fun K21 hK21 => ?_
      refine wp_region_lit ?_
      refine Kn.pure fh42 rfl rfl .none (Kn.ex_move fh42 (.tmp rfl)) fun fa43 fh43 => ?_
      clear fh42 fa42
      refine Kn.pure fh43 rfl rfl .none (Kn.ex_assign fh43 (.tmp rfl)) fun fa44 fh44 => ?_
      clear fh43 fa43
      refine wpList_nil ?_
      refine hK21 _ _ ?_
      clear hK21 K21
      replace fh44 := fh44.cut (.cons (t := 8) rfl (.cons (t := 6) rfl (.cons (t := 4) rfl (.cons (t := 3) rfl (.cons (t := 0) rfl .nil)))))
      refine wp_block ?_
      refine Kn.loop (fun m fr v => ∃ (i h q ch : Nat), Kn.Kn 85 [(8, .int .i64 (i : Int)), (6, .slice (some ⟨h, 0, none⟩) q ch), (4, .int .i64 (k : Int)), (3, .slice (some ⟨g, 0, none⟩) n cap), (0, .slice (some ⟨bx, ox, none⟩) xs.length c)] fr ∧ i + m = n ∧ j ≤ i ∧ q = i + 1 ∧ h ≠ g ∧ Hid (OwnE v w.heap.size (some ⟨h, 0, none⟩) q ch (ys.take j ++ [(x1, x2)] ++ (ys.take i).drop j)) ∧ Hid (OwnE v w.heap.size (some ⟨g, 0, none⟩) n cap ys) ∧ Hid (Below w.heap.size w v)) (n - j) ⟨j, h', q + 1, ch', fh44.cut (.cons (t := 8) rfl (.cons (t := 6) rfl (.cons (t := 4) rfl (.cons (t := 3) rfl (.cons (t := 0) rfl .nil))))), by omega, Nat.le_refl _, by omega, hh', Lib.hid (by rw [List.drop_of_length_le (by rw [List.length_take]; omega), List.append_nil]; exact HH2.out), HO5, HB5⟩ ?_
      clear fh44 fa44
      intro m22 fa45 v hI Kl22 hKl22
      obtain ⟨i, h, q, ch, fh45, hi, hji, hqi, hhg, HH, HO4, HB4⟩ := hI
      clear HH2 HO5 HB5 hh'
      by_cases hin : i < n
      · refine wp_seq_k fun K23 hK23 => ?_
        refine wp_seq_k fun K24 hK24 => ?_
        refine wp_region_lit ?_
        refine Kn.pure fh45 rfl rfl .none (Kn.ex_move fh45 (.tmp rfl)) fun fa46 fh46 => ?_
        clear fh45 fa45
        refine Kn.pure fh46 rfl rfl .none (Kn.ex_move fh46 (.tmp rfl)) fun fa47 fh47 => ?_
        clear fh46 fa46
        refine Kn.step fh47 rfl rfl .none (Kn.ex_len fh47 (.tmp rfl)) fun Ko hKo => ?_
        go_simp
        try go_bits
        refine hKo _ _ fun fa48 fh48 => ?_
        clear hKo Ko fh47 fa47
        refine Kn.step fh48 rfl rfl .none (Kn.ex_bin fh48 (.tmp rfl) (.tmp rfl)) fun Ko hKo => ?_
        go_simp
        try go_bits
        refine hKo _ _ fun fa49 fh49 => ?_
        clear hKo Ko fh48 fa48
        refine wpList_nil ?_
        refine hK24 _ _ ?_
        clear hK24 K24
        replace fh49 := fh49.cut (.cons (t := 73) rfl (.cons (t := 8) rfl (.cons (t := 6) rfl (.cons (t := 4) rfl (.cons (t := 3) rfl (.cons (t := 0) rfl .nil))))))
        refine Kn.yes fh49 (.tmp rfl) ?_
        refine wp_skip ?_
        refine hK23 _ _ ?_
        clear hK23 K23
        replace fh49 := fh49.cut (.cons (t := 8) rfl (.cons (t := 6) rfl (.cons (t := 4) rfl (.cons (t := 3) rfl (.cons (t := 0) rfl .nil)))))
        refine wp_seq_k fun K25 hK25 => ?_
        refine wp_block ?_
        have hjl : i < ys.length := by rw [← HO4.out.1]; omega
        obtain ⟨d1, d2⟩ := HO4.out.ein.cells hjl
        obtain ⟨y1, hy1⟩ : ∃ x, (ed ys i).1 = x := ⟨_, rfl⟩
        obtain ⟨y2, hy2⟩ : ∃ x, (ed ys i).2 = x := ⟨_, rfl⟩
        rw [hy1] at d1
        rw [hy2] at d2
        rw [Nat.zero_add] at d1 d2
        have HY : Hid (ys.take j ++ [(x1, x2)] ++ (ys.take (i + 1)).drop j = ys.take j ++ [(x1, x2)] ++ (ys.take i).drop j ++ [(y1, y2)]) := Lib.hid (by
          rw [take_ed _ _ hjl, show ed ys i = (y1, y2) by rw [← hy1, ← hy2], List.drop_append_of_le_length (by rw [List.length_take]; omega), List.append_assoc, List.append_assoc, List.append_assoc])
        clear hy1 hy2
        obtain ⟨h', ch', v', hrun, hown, hbel, hkep⟩ := push1 w v 22 (some ⟨h, 0, none⟩) q ch (ys.take j ++ [(x1, x2)] ++ (ys.take i).drop j) (y1, y2) HH.out HB4.out (by omega)
        have HH2 := Lib.hid hown
        rw [← HY.out] at HH2
        have HO5 := Lib.hid ((HO4.out.alloc (.cells #[.int .i64 y1, .int .i64 y2] 51)).kept hkep (.inr (by simp [Value.ownBlock]; exact Ne.symm hhg)))
        have hh' : h' ≠ g := by
          have := HO4.out.lt
          rcases hkep.at' with e | e
          · simp [Value.ownBlock] at e; omega
          · simp at e; omega
        have HB5 := Lib.hid hbel
        clear hown hbel hkep
        refine wp_region_lit ?_
        refine Kn.pure fh49 rfl rfl .none (Kn.ex_move fh49 (.tmp rfl)) fun fa50 fh50 => ?_
        clear fh49 fa49
        refine Kn.pure fh50 rfl rfl .none (Kn.ex_move fh50 (.tmp rfl)) fun fa51 fh51 => ?_
        clear fh50 fa50
        refine Kn.pure fh51 rfl rfl .none (Kn.ex_move fh51 (.tmp rfl)) fun fa52 fh52 => ?_
        clear fh51 fa51
        refine Kn.step fh52 rfl rfl .none (Kn.ex_indexAddr fh52 (.tmp rfl) (.tmp rfl)) fun Ko hKo => ?_
        go_simp
        try go_bits
        refine hKo _ _ fun fa53 fh53 => ?_
        clear hKo Ko fh52 fa52
        refine Kn.step fh53 rfl rfl .none (Kn.ex_load fh53 (.tmp rfl)) fun Ko hKo => ?_
        go_simp
        try go_bits
        refine hKo _ _ fun fa54 fh54 => ?_
        clear hKo Ko fh53 fa53
        refine Kn.step fh54 rfl rfl .none (Kn.ex_buildSlice fh54 (.cons (.tmp rfl) .nil)) fun Ko hKo => ?_
        go_simp
        try go_bits
        refine hKo _ _ fun fa55 fh55 => ?_
        clear hKo Ko fh54 fa54
        refine Kn.known fh55 rfl rfl .none (Kn.ex_append fh55 (.cons (.tmp rfl) (.cons (.tmp rfl) .nil))) hrun fun fa56 fh56 => ?_
        clear fh55 fa55
        clear hrun
        refine Kn.pure fh56 rfl rfl .none (Kn.ex_assign fh56 (.tmp rfl)) fun fa57 fh57 => ?_
        clear fh56 fa56
        refine wpList_nil ?_
        refine Kn.block_normal ?_
        refine hK25 _ _ ?_
        clear hK25 K25
        replace fh57 := fh57.cut (.cons (t := 6) rfl (.cons (t := 8) rfl (.cons (t := 4) rfl (.cons (t := 3) rfl (.cons (t := 0) rfl .nil)))))
        clear d1 d2
        refine wp_region_lit ?_
        refine Kn.pure fh57 rfl rfl .none (Kn.ex_move fh57 (.tmp rfl)) fun fa58 fh58 => ?_
        clear fh57 fa57
        refine Kn.step fh58 rfl rfl .none (Kn.ex_bin fh58 (.tmp rfl) .const) fun Ko hKo => ?_
        go_simp
        try go_bits
        refine hKo _ _ fun fa59 fh59 => ?_
        clear hKo Ko fh58 fa58
        refine Kn.pure fh59 rfl rfl .none (Kn.ex_assign fh59 (.tmp rfl)) fun fa60 fh60 => ?_
        clear fh59 fa59
        refine wpList_nil ?_
        replace fh60 := fh60.cut (.cons (t := 8) rfl (.cons (t := 6) rfl (.cons (t := 4) rfl (.cons (t := 3) rfl (.cons (t := 0) rfl .nil)))))
        exact hKl22 (m22 - 1) _ _ (by omega) ⟨i + 1, h', q + 1, ch', fh60.cut (.turn (t := 8) rfl (by go_num) (.cons (t := 6) rfl (.cons (t := 4) rfl (.cons (t := 3) rfl (.cons (t := 0) rfl .nil))))), by omega, by omega, by omega, hh', HH2, HO5, HB5⟩
      obtain rfl : i = n := by omega
      refine wp_seq_k fun K23 hK23 => ?_
      refine wp_seq_k fun K24 hK24 => ?_
      refine wp_region_lit ?_
      refine Kn.pure fh45 rfl rfl .none (Kn.ex_move fh45 (.tmp rfl)) fun fa46 fh46 => ?_
      clear fh45 fa45
      refine Kn.pure fh46 rfl rfl .none (Kn.ex_move fh46 (.tmp rfl)) fun fa47 fh47 => ?_
      clear fh46 fa46
      refine Kn.step fh47 rfl rfl .none (Kn.ex_len fh47 (.tmp rfl)) fun Ko hKo => ?_
      go_simp
      try go_bits
      refine hKo _ _ fun fa48 fh48 => ?_
      clear hKo Ko fh47 fa47
      refine Kn.step fh48 rfl rfl .none (Kn.ex_bin fh48 (.tmp rfl) (.tmp rfl)) fun Ko hKo => ?_
      go_simp
      try go_bits
      refine hKo _ _ fun fa49 fh49 => ?_
      clear hKo Ko fh48 fa48
      refine wpList_nil ?_
      refine hK24 _ _ ?_
      clear hK24 K24
      replace fh49 := fh49.cut (.cons (t := 73) rfl (.cons (t := 8) rfl (.cons (t := 6) rfl (.cons (t := 4) rfl (.cons (t := 3) rfl (.cons (t := 0) rfl .nil))))))
      refine Kn.no fh49 (.tmp rfl) ?_
      replace fh49 := fh49.cut (.cons (t := 8) rfl (.cons (t := 6) rfl (.cons (t := 4) rfl (.cons (t := 3) rfl (.cons (t := 0) rfl .nil)))))
      refine wp_exit ?_
      refine Kn.then_exit ?_
      clear hK23 K23
      refine Kn.then_exit ?_
      clear hKl22 Kl22
      refine Kn.block_exit ?_
      refine hK20 _ _ ?_
      clear hK20 K20
      replace fh49 := fh49.cut (.cons (t := 6) rfl (.cons (t := 4) rfl (.cons (t := 3) rfl (.cons (t := 0) rfl .nil))))
      have HF : Hid (ys.take j ++ [(x1, x2)] ++ (ys.take i).drop j = ys.take j ++ (x1, x2) :: ys.drop j) := Lib.hid (by have e : ys.take i = ys := List.take_of_length_le (by rw [← HO4.out.1]; exact Nat.le_refl _); rw [e]; simp)
      rw [HF.out] at HH
      refine wp_region_lit ?_
      refine Kn.pure fh49 rfl rfl .none (Kn.ex_move fh49 (.tmp rfl)) fun fa50 fh50 => ?_
      clear fh49 fa49
      refine Kn.pure fh50 rfl rfl .none (Kn.ex_assign fh50 (.tmp rfl)) fun fa51 fh51 => ?_
      clear fh50 fa50
      refine wpList_nil ?_
      refine Kn.block_normal ?_
      refine hK8 _ _ ?_
      clear hK8 K8
      replace fh51 := fh51.cut (.cons (t := 3) rfl (.cons (t := 4) rfl (.cons (t := 0) rfl .nil)))
      refine wp_region_lit ?_
      refine Kn.pure fh51 rfl rfl .none (Kn.ex_move fh51 (.tmp rfl)) fun fa52 fh52 => ?_
      clear fh51 fa51
      refine Kn.step fh52 rfl rfl .none (Kn.ex_bin fh52 (.tmp rfl) .const) fun Ko hKo => ?_
      go_simp
      try go_bits
      refine hKo _ _ fun fa53 fh53 => ?_
      clear hKo Ko fh52 fa52
      refine Kn.pure fh53 rfl rfl .none (Kn.ex_assign fh53 (.tmp rfl)) fun fa54 fh54 => ?_
      clear fh53 fa53
      refine wpList_nil ?_
      replace fh54 := fh54.cut (.cons (t := 4) rfl (.cons (t := 3) rfl (.cons (t := 0) rfl .nil)))
      exact hKl5 (m5 - 1) _ _ (by omega) ⟨k + 1, h, q, ch, _, fh54.cut (.turn (t := 4) rfl (by go_num) (.cons (t := 3) rfl (.cons (t := 0) rfl .nil))), by omega, by omega, HH, Lib.hid ⟨srt_put HN.out.srt (fun b hb => by obtain ⟨p, hp, rfl⟩ := List.mem_take_iff_getElem.1 hb; have := HLs.out p (by omega); rwa [ed_at _ _ (by omega)] at this) HG.out, fun e => by rw [mem_put, take_ed _ _ hlt, List.mem_append, List.mem_singleton, HX.out, HN.out.mem e]; exact Or.comm⟩, HB4⟩
    · refine wp_seq_k fun K11 hK11 => ?_
      refine wp_seq_k fun K12 hK12 => ?_
      refine Kn.tail 13 (by kernel_rfl) (by kernel_rfl) rfl rfl ?_
      refine Kn.spure fh11 rfl rfl .none (Kn.ex_move fh11 (.tmp rfl)) fun fa12 fh12 => ?_
      clear fh11 fa11
      refine Kn.spure fh12 rfl rfl .none (Kn.ex_move fh12 (.tmp rfl)) fun fa13 fh13 => ?_
      clear fh12 fa12
      refine Kn.sstep fh13 rfl rfl .none (Kn.ex_len fh13 (.tmp rfl)) fun Ko hKo => ?_
      go_simp
      try go_bits
      refine hKo _ fun fa14 fh14 => ?_
      clear hKo Ko fh13 fa13
      refine Kn.sstep fh14 rfl rfl .none (Kn.ex_bin fh14 (.tmp rfl) (.tmp rfl)) fun Ko hKo => ?_
      go_simp
      try go_bits
      refine hKo _ fun fa15 fh15 => ?_
      clear hKo Ko fh14 fa14
      refine Kn.spure fh15 rfl rfl .none (Kn.ex_move fh15 (.tmp rfl)) fun fa16 fh16 => ?_
      clear fh15 fa15
      refine Kn.sskip fh16 rfl rfl (.some rfl rfl rfl) fun fa17 fh17 => ?_
      clear fh16 fa16
      refine Kn.sskip fh17 rfl rfl (.some rfl rfl rfl) fun fa18 fh18 => ?_
      clear fh17 fa17
      refine Kn.sskip fh18 rfl rfl (.some rfl rfl rfl) fun fa19 fh19 => ?_
      clear fh18 fa18
      refine Kn.sskip fh19 rfl rfl (.some rfl rfl rfl) fun fa20 fh20 => ?_
      clear fh19 fa19
      refine Kn.sskip fh20 rfl rfl (.some rfl rfl rfl) fun fa21 fh21 => ?_
      clear fh20 fa20
      refine Kn.sskip fh21 rfl rfl (.some rfl rfl rfl) fun fa22 fh22 => ?_
      clear fh21 fa21
      refine Kn.sskip fh22 rfl rfl (.some rfl rfl rfl) fun fa23 fh23 => ?_
      clear fh22 fa22
      refine Kn.sskip fh23 rfl rfl (.some rfl rfl rfl) fun fa24 fh24 => ?_
      clear fh23 fa23
      refine wpStill_nil ?_
      refine Kn.skip fh24 rfl rfl (.some rfl rfl rfl) fun fa25 fh25 => ?_
      clear fh24 fa24
      refine Kn.skip fh25 rfl rfl (.some rfl rfl rfl) fun fa26 fh26 => ?_
      clear fh25 fa25
      refine Kn.pure fh26 rfl rfl .none (Kn.ex_pick fh26 (.tmp rfl) .const) fun fa27 fh27 => ?_
      clear fh26 fa26
      refine wpList_nil ?_
      refine hK12 _ _ ?_
      clear hK12 K12
      replace fh27 := fh27.cut (.cons (t := 48) rfl (.cons (t := 5) rfl (.cons (t := 4) rfl (.cons (t := 3) rfl (.cons (t := 0) rfl .nil)))))
      refine Kn.no fh27 (.tmp rfl) ?_
      refine wp_skip ?_
      refine hK11 _ _ ?_
      clear hK11 K11
      replace fh27 := fh27.cut (.cons (t := 5) rfl (.cons (t := 4) rfl (.cons (t := 3) rfl (.cons (t := 0) rfl .nil))))
      refine Kn.gen (fun u2 => Below u.heap.size u u2) (Own.below_drew (Below.refl _ _)) fun u2 hb => ?_
      have HB3 := Lib.hid (HBu.out.trans (hb.mono HBu.out.size))
      have HO3 := Lib.hid (HOu.out.on hb)
      clear hb
      clear HBu HOu c1 c2 HB HB2
      have HXr : Hid (Below w.heap.size w u2) := HB3
      clear HB3
      refine wp_seq_k fun K13 hK13 => ?_
      refine wp_region_lit ?_
      refine Kn.step fh27 rfl rfl .none (Kn.ex_buildSlice fh27 .nil) fun Ko hKo => ?_
      go_simp
      try go_bits
      refine hKo _ _ fun fa28 fh28 => ?_
      clear hKo Ko fh27 fa27
      refine Kn.pure fh28 rfl rfl .none (Kn.ex_assign fh28 (.tmp rfl)) fun fa29 fh29 => ?_
      clear fh28 fa28
      refine wpList_nil ?_
      refine hK13 _ _ ?_
      clear hK13 K13
      replace fh29 := fh29.cut (.cons (t := 6) rfl (.cons (t := 5) rfl (.cons (t := 4) rfl (.cons (t := 3) rfl (.cons (t := 0) rfl .nil)))))
      refine wp_seq_k fun K14 hK14 => ?_
      refine wp_seq_k fun K15 hK15 => ?_
      refine wp_region_lit ?_
      refine Kn.pure fh29 rfl rfl .none (Kn.ex_assign fh29 .const) fun fa30 fh30 => ?_
      clear fh29 fa29
      refine wpList_nil ?_
      refine hK15 _ _ ?_
      clear hK15 K15
      refine wp_block ?_
      refine Kn.loop (fun m fr v => ∃ (j h q ch : Nat), Kn.Kn 85 [(7, .int .i64 (j : Int)), (6, .slice (some ⟨h, 0, none⟩) q ch), (5, .int .i64 (a : Int)), (4, .int .i64 (k : Int)), (3, .slice (some ⟨g, 0, none⟩) n cap), (0, .slice (some ⟨bx, ox, none⟩) xs.length c)] fr ∧ j + m = a ∧ q = j ∧ h ≠ g ∧ Hid (OwnE v w.heap.size (some ⟨h, 0, none⟩) q ch (ys.take j)) ∧ Hid (OwnE v w.heap.size (some ⟨g, 0, none⟩) n cap ys) ∧ Hid (Below w.heap.size w v)) a ⟨0, u2.heap.size, 0, 0, fh30.cut (.cons (t := 7) rfl (.cons (t := 6) rfl (.cons (t := 5) rfl (.cons (t := 4) rfl (.cons (t := 3) rfl (.cons (t := 0) rfl .nil)))))), by omega, rfl, (Nat.ne_of_gt HO3.out.lt), Lib.hid (OwnE.new u2 _ HXr.out.size), Lib.hid (HO3.out.alloc _), Lib.hid (HXr.out.alloc HXr.out.size _)⟩ ?_
      clear fh30 fa30
      intro m16 fa31 v hI Kl16 hKl16
      obtain ⟨j, h, q, ch, fh31, hj, hqj, hhg, HH, HO4, HB4⟩ := hI
      clear HO3 HXr
      by_cases hja : j < a
      · refine wp_seq_k fun K17 hK17 => ?_
        refine wp_seq_k fun K18 hK18 => ?_
        refine wp_region_lit ?_
        refine Kn.pure fh31 rfl rfl .none (Kn.ex_move fh31 (.tmp rfl)) fun fa32 fh32 => ?_
        clear fh31 fa31
        refine Kn.pure fh32 rfl rfl .none (Kn.ex_move fh32 (.tmp rfl)) fun fa33 fh33 => ?_
        clear fh32 fa32
        refine Kn.step fh33 rfl rfl .none (Kn.ex_bin fh33 (.tmp rfl) (.tmp rfl)) fun Ko hKo => ?_
        go_simp
        try go_bits
        refine hKo _ _ fun fa34 fh34 => ?_
        clear hKo Ko fh33 fa33
        refine wpList_nil ?_
        refine hK18 _ _ ?_
        clear hK18 K18
        replace fh34 := fh34.cut (.cons (t := 52) rfl (.cons (t := 7) rfl (.cons (t := 6) rfl (.cons (t := 5) rfl (.cons (t := 4) rfl (.cons (t := 3) rfl (.cons (t := 0) rfl .nil)))))))
        refine Kn.yes fh34 (.tmp rfl) ?_
        refine wp_skip ?_
        refine hK17 _ _ ?_
        clear hK17 K17
        replace fh34 := fh34.cut (.cons (t := 7) rfl (.cons (t := 6) rfl (.cons (t := 5) rfl (.cons (t := 4) rfl (.cons (t := 3) rfl (.cons (t := 0) rfl .nil))))))
        refine wp_seq_k fun K19 hK19 => ?_
        refine wp_block ?_
        have hjl : j < ys.length := by rw [← HO4.out.1]; omega
        obtain ⟨d1, d2⟩ := HO4.out.ein.cells hjl
        obtain ⟨y1, hy1⟩ : ∃ x, (ed ys j).1 = x := ⟨_, rfl⟩
        obtain ⟨y2, hy2⟩ : ∃ x, (ed ys j).2 = x := ⟨_, rfl⟩
        rw [hy1] at d1
        rw [hy2] at d2
        rw [Nat.zero_add] at d1 d2
        have HY : Hid (ys.take (j + 1) = ys.take j ++ [(y1, y2)]) := Lib.hid (by rw [take_ed _ _ hjl, ← hy1, ← hy2])
        clear hy1 hy2
        have hjn : j < n := by omega
        obtain ⟨h', ch', v', hrun, hown, hbel, hkep⟩ := push1 w v 22 (some ⟨h, 0, none⟩) q ch (ys.take j) (y1, y2) HH.out HB4.out (by omega)
        have HH2 := Lib.hid hown
        rw [← HY.out] at HH2
        have HO5 := Lib.hid ((HO4.out.alloc (.cells #[.int .i64 y1, .int .i64 y2] 51)).kept hkep (.inr (by simp [Value.ownBlock]; exact Ne.symm hhg)))
        have hh' : h' ≠ g := by
          have := HO4.out.lt
          rcases hkep.at' with e | e
          · simp [Value.ownBlock] at e; omega
          · simp at e; omega
        have HB5 := Lib.hid hbel
        clear hown hbel hkep
        refine wp_region_lit ?_
        refine Kn.pure fh34 rfl rfl .none (Kn.ex_move fh34 (.tmp rfl)) fun fa35 fh35 => ?_
        clear fh34 fa34
        refine Kn.pure fh35 rfl rfl .none (Kn.ex_move fh35 (.tmp rfl)) fun fa36 fh36 => ?_
        clear fh35 fa35
        refine Kn.pure fh36 rfl rfl .none (Kn.ex_move fh36 (.tmp rfl)) fun fa37 fh37 => ?_
        clear fh36 fa36
        refine Kn.step fh37 rfl rfl .none (Kn.ex_indexAddr fh37 (.tmp rfl) (.tmp rfl)) fun Ko hKo => ?_
        go_simp
        try go_bits
        refine hKo _ _ fun fa38 fh38 => ?_
        clear hKo Ko fh37 fa37
        refine Kn.step fh38 rfl rfl .none (Kn.ex_load fh38 (.tmp rfl)) fun Ko hKo => ?_
        go_simp
        try go_bits
        refine hKo _ _ fun fa39 fh39 => ?_
        clear hKo Ko fh38 fa38
        refine Kn.step fh39 rfl rfl .none (Kn.ex_buildSlice fh39 (.cons (.tmp rfl) .nil)) fun Ko hKo => ?_
        go_simp
        try go_bits
        refine hKo _ _ fun fa40 fh40 => ?_
        clear hKo Ko fh39 fa39
        refine Kn.known fh40 rfl rfl .none (Kn.ex_append fh40 (.cons (.tmp rfl) (.cons (.tmp rfl) .nil))) hrun fun fa41 fh41 => ?_
        clear fh40 fa40
        clear hrun
        refine Kn.pure fh41 rfl rfl .none (Kn.ex_assign fh41 (.tmp rfl)) fun fa42 fh42 => ?_
        clear fh41 fa41
        refine wpList_nil ?_
        refine Kn.block_normal ?_
        refine hK19 _ _ ?_
        clear hK19 K19
        replace fh42 := fh42.cut (.cons (t := 6) rfl (.cons (t := 7) rfl (.cons (t := 5) rfl (.cons (t := 4) rfl (.cons (t := 3) rfl (.cons (t := 0) rfl .nil))))))
        clear d1 d2
        refine wp_region_lit ?_
        refine Kn.pure fh42 rfl rfl .none (Kn.ex_move fh42 (.tmp rfl)) fun fa43 fh43 => ?_
        clear fh42 fa42
        refine Kn.step fh43 rfl rfl .none (Kn.ex_bin fh43 (.tmp rfl) .const) fun Ko hKo => ?_
        go_simp
        try go_bits
        refine hKo _ _ fun fa44 fh44 => ?_
        clear hKo Ko fh43 fa43
        refine Kn.pure fh44 rfl rfl .none (Kn.ex_assign fh44 (.tmp rfl)) fun fa45 fh45 => ?_
        clear fh44 fa44
        refine wpList_nil ?_
        replace fh45 := fh45.cut (.cons (t := 7) rfl (.cons (t := 6) rfl (.cons (t := 5) rfl (.cons (t := 4) rfl (.cons (t := 3) rfl (.cons (t := 0) rfl .nil))))))
        exact hKl16 (m16 - 1) _ _ (by omega) ⟨j + 1, h', q + 1, ch', fh45.cut (.turn (t := 7) rfl (by go_num) (.cons (t := 6) rfl (.cons (t := 5) rfl (.cons (t := 4) rfl (.cons (t := 3) rfl (.cons (t := 0) rfl .nil)))))), by omega, by omega, hh', HH2, HO5, HB5⟩
      obtain rfl : j = a := by omega
      refine wp_seq_k fun K17 hK17 => ?_
      refine wp_seq_k fun K18 hK18 => ?_
      refine wp_region_lit ?_
      refine Kn.pure fh31 rfl rfl .none (Kn.ex_move fh31 (.tmp rfl)) fun fa32 fh32 => ?_
      clear fh31 fa31
      refine Kn.pure fh32 rfl rfl .none (Kn.ex_move fh32 (.tmp rfl)) fun fa33 fh33 => ?_
      clear fh32 fa32
      refine Kn.step fh33 rfl rfl .none (Kn.ex_bin fh33 (.tmp rfl) (.tmp rfl)) fun Ko hKo => ?_
      go_simp
      try go_bits
      refine hKo _ _ fun fa34 fh34 => ?_
      clear hKo Ko fh33 fa33
      refine wpList_nil ?_
      refine hK18 _ _ ?_
      clear hK18 K18
      replace fh34 := fh34.cut (.cons (t := 52) rfl (.cons (t := 7) rfl (.cons (t := 6) rfl (.cons (t := 5) rfl (.cons (t := 4) rfl (.cons (t := 3) rfl (.cons (t := 0) rfl .nil)))))))
      refine Kn.no fh34 (.tmp rfl) ?_
      replace fh34 := fh34.cut (.cons (t := 7) rfl (.cons (t := 6) rfl (.cons (t := 5) rfl (.cons (t := 4) rfl (.cons (t := 3) rfl (.cons (t := 0) rfl .nil))))))
      refine wp_exit ?_
      refine Kn.then_exit ?_
      clear hK17 K17
      refine Kn.then_exit ?_
      clear hKl16 Kl16
      refine Kn.block_exit ?_
      refine hK14 _ _ ?_
      clear hK14 K14
      replace fh34 := fh34.cut (.cons (t := 6) rfl (.cons (t := 5) rfl (.cons (t := 4) rfl (.cons (t := 3) rfl (.cons (t := 0) rfl .nil)))))
      obtain ⟨c1, c2⟩ := HC.out v HB4.out
      obtain ⟨h', ch', v', hrun, hown, hbel, hkep⟩ := push1 w v 22 (some ⟨h, 0, none⟩) q ch (ys.take j) (x1, x2) HH.out HB4.out (by omega)
      have HH2 := Lib.hid hown
      have HO5 := Lib.hid ((HO4.out.alloc (.cells #[.int .i64 x1, .int .i64 x2] 51)).kept hkep (.inr (by simp [Value.ownBlock]; exact Ne.symm hhg)))
      have hh' : h' ≠ g := by
        have := HO4.out.lt
        rcases hkep.at' with e | e
        · simp [Value.ownBlock] at e; omega
        · simp at e; omega
      have HB5 := Lib.hid hbel
      clear hown hbel hkep HH HO4 HB4
      refine wp_seq_k fun K19 hK19 => ?_
      refine wp_region_lit ?_
      refine Kn.pure fh34 rfl rfl .none (Kn.ex_move fh34 (.tmp rfl)) fun fa35 fh35 => ?_
      clear fh34 fa34
      refine Kn.pure fh35 rfl rfl .none (Kn.ex_move fh35 (.tmp rfl)) fun fa36 fh36 => ?_
      clear fh35 fa35
      refine Kn.pure fh36 rfl rfl .none (Kn.ex_move fh36 (.tmp rfl)) fun fa37 fh37 => ?_
      clear fh36 fa36
      refine Kn.step fh37 rfl rfl .none (Kn.ex_indexAddr fh37 (.tmp rfl) (.tmp rfl)) fun Ko hKo => ?_
      go_simp
      try go_bits
      refine hKo _ _ fun fa38 fh38 => ?_
      clear hKo Ko fh37 fa37
      refine Kn.step fh38 rfl rfl .none (Kn.ex_load fh38 (.tmp rfl)) fun Ko hKo => ?_
      go_simp
      try go_bits
      refine hKo _ _ fun fa39 fh39 => ?_
      clear hKo Ko fh38 fa38
      refine Kn.step fh39 rfl rfl .none (Kn.ex_buildSlice fh39 (.cons (.tmp rfl) .nil)) fun Ko hKo => ?_
      go_simp
      try go_bits
      refine hKo _ _ fun fa40 fh40 => ?_
      clear hKo Ko fh39 fa39
      refine Kn.known fh40 rfl rfl .none (Kn.ex_append fh40 (.cons (.tmp rfl) (.cons (.tmp rfl) .nil))) hrun fun fa41 fh41 => ?_
      clear fh40 fa40
      clear hrun
      refine Kn.pure fh41 rfl rfl .none (Kn.ex_assign fh41 (.tmp rfl)) fun fa42 fh42 => ?_
      clear fh41 fa41
      refine wpList_nil ?_
      refine hK19 _ _ ?_
      clear hK19 K19
      replace fh42 := fh42.cut (.cons (t := 6) rfl (.cons (t := 5) rfl (.cons (t := 4) rfl (.cons (t := 3) rfl (.cons (t := 0) rfl .nil)))))
      clear c1 c2
      refine wp_seq_k fun K20 hK20 => ?_
      refine wp_seq_k fun K21 hK21 => ?_
      refine wp_region_lit ?_
      refine Kn.pure fh42 rfl rfl .none (Kn.ex_move fh42 (.tmp rfl)) fun fa43 fh43 => ?_
      clear fh42 fa42
      refine Kn.pure fh43 rfl rfl .none (Kn.ex_assign fh43 (.tmp rfl)) fun fa44 fh44 => ?_
      clear fh43 fa43
      refine wpList_nil ?_
      refine hK21 _ _ ?_
      clear hK21 K21
      replace fh44 := fh44.cut (.cons (t := 8) rfl (.cons (t := 6) rfl (.cons (t := 4) rfl (.cons (t := 3) rfl (.cons (t := 0) rfl .nil)))))
      refine wp_block ?_
      refine Kn.loop (fun m fr v => ∃ (i h q ch : Nat), Kn.Kn 85 [(8, .int .i64 (i : Int)), (6, .slice (some ⟨h, 0, none⟩) q ch), (4, .int .i64 (k : Int)), (3, .slice (some ⟨g, 0, none⟩) n cap), (0, .slice (some ⟨bx, ox, none⟩) xs.length c)] fr ∧ i + m = n ∧ j ≤ i ∧ q = i + 1 ∧ h ≠ g ∧ Hid (OwnE v w.heap.size (some ⟨h, 0, none⟩) q ch (ys.take j ++ [(x1, x2)] ++ (ys.take i).drop j)) ∧ Hid (OwnE v w.heap.size (some ⟨g, 0, none⟩) n cap ys) ∧ Hid (Below w.heap.size w v)) (n - j) ⟨j, h', q + 1, ch', fh44.cut (.cons (t := 8) rfl (.cons (t := 6) rfl (.cons (t := 4) rfl (.cons (t := 3) rfl (.cons (t := 0) rfl .nil))))), by omega, Nat.le_refl _, by omega, hh', Lib.hid (by rw [List.drop_of_length_le (by rw [List.length_take]; omega), List.append_nil]; exact HH2.out), HO5, HB5⟩ ?_
      clear fh44 fa44
      intro m22 fa45 v hI Kl22 hKl22
      obtain ⟨i, h, q, ch, fh45, hi, hji, hqi, hhg, HH, HO4, HB4⟩ := hI
      clear HH2 HO5 HB5 hh'
      by_cases hin : i < n
      · refine wp_seq_k fun K23 hK23 => ?_
        refine wp_seq_k fun K24 hK24 => ?_
        refine wp_region_lit ?_
        refine Kn.pure fh45 rfl rfl .none (Kn.ex_move fh45 (.tmp rfl)) fun fa46 fh46 => ?_
        clear fh45 fa45
        refine Kn.pure fh46 rfl rfl .none (Kn.ex_move fh46 (.tmp rfl)) fun fa47 fh47 => ?_
        clear fh46 fa46
        refine Kn.step fh47 rfl rfl .none (Kn.ex_len fh47 (.tmp rfl)) fun Ko hKo => ?_
        go_simp
        try go_bits
        refine hKo _ _ fun fa48 fh48 => ?_
        clear hKo Ko fh47 fa47
        refine Kn.step fh48 rfl rfl .none (Kn.ex_bin fh48 (.tmp rfl) (.tmp rfl)) fun Ko hKo => ?_
        go_simp
        try go_bits
        refine hKo _ _ fun fa49 fh49 => ?_
        clear hKo Ko fh48 fa48
        refine wpList_nil ?_
        refine hK24 _ _ ?_
        clear hK24 K24
        replace fh49 := fh49.cut (.cons (t := 73) rfl (.cons (t := 8) rfl (.cons (t := 6) rfl (.cons (t := 4) rfl (.cons (t := 3) rfl (.cons (t := 0) rfl .nil))))))
        refine Kn.yes fh49 (.tmp rfl) ?_
        refine wp_skip ?_
        refine hK23 _ _ ?_
        clear hK23 K23
        replace fh49 := fh49.cut (.cons (t := 8) rfl (.cons (t := 6) rfl (.cons (t := 4) rfl (.cons (t := 3) rfl (.cons (t := 0) rfl .nil)))))
        refine wp_seq_k fun K25 hK25 => ?_
        refine wp_block ?_
        have hjl : i < ys.length := by rw [← HO4.out.1]; omega
        obtain ⟨d1, d2⟩ := HO4.out.ein.cells hjl
        obtain ⟨y1, hy1⟩ : ∃ x, (ed ys i).1 = x := ⟨_, rfl⟩
        obtain ⟨y2, hy2⟩ : ∃ x, (ed ys i).2 = x := ⟨_, rfl⟩
        rw [hy1] at d1
        rw [hy2] at d2
        rw [Nat.zero_add] at d1 d2
        have HY : Hid (ys.take j ++ [(x1, x2)] ++ (ys.take (i + 1)).drop j = ys.take j ++ [(x1, x2)] ++ (ys.take i).drop j ++ [(y1, y2)]) := Lib.hid (by
          rw [take_ed _ _ hjl, show ed ys i = (y1, y2) by rw [← hy1, ← hy2], List.drop_append_of_le_length (by rw [List.length_take]; omega), List.append_assoc, List.append_assoc, List.append_assoc])
        clear hy1 hy2
        obtain ⟨h', ch', v', hrun, hown, hbel, hkep⟩ := push1 w v 22 (some ⟨h, 0, none⟩) q ch (ys.take j ++ [(x1, x2)] ++ (ys.take i).drop j) (y1, y2) HH.out HB4.out (by omega)
        have HH2 := Lib.hid hown
        rw [← HY.out] at HH2
        have HO5 := Lib.hid ((HO4.out.alloc (.cells #[.int .i64 y1, .int .i64 y2] 51)).kept hkep (.inr (by simp [Value.ownBlock]; exact Ne.symm hhg)))
        have hh' : h' ≠ g := by
          have := HO4.out.lt
          rcases hkep.at' with e | e
          · simp [Value.ownBlock] at e; omega
          · simp at e; omega
        have HB5 := Lib.hid hbel
        clear hown hbel hkep
        refine wp_region_lit ?_
        refine Kn.pure fh49 rfl rfl .none (Kn.ex_move fh49 (.tmp rfl)) fun fa50 fh50 => ?_
        clear fh49 fa49
        refine Kn.pure fh50 rfl rfl .none (Kn.ex_move fh50 (.tmp rfl)) fun fa51 fh51 => ?_
        clear fh50 fa50
        refine Kn.pure fh51 rfl rfl .none (Kn.ex_move fh51 (.tmp rfl)) fun fa52 fh52 => ?_
        clear fh51 fa51
        refine Kn.step fh52 rfl rfl .none (Kn.ex_indexAddr fh52 (.tmp rfl) (.tmp rfl)) fun Ko hKo => ?_
        go_simp
        try go_bits
        refine hKo _ _ fun fa53 fh53 => ?_
        clear hKo Ko fh52 fa52
        refine Kn.step fh53 rfl rfl .none (Kn.ex_load fh53 (.tmp rfl)) fun Ko hKo => ?_
        go_simp
        try go_bits
        refine hKo _ _ fun fa54 fh54 => ?_
        clear hKo Ko fh53 fa53
        refine Kn.step fh54 rfl rfl .none (Kn.ex_buildSlice fh54 (.cons (.tmp rfl) .nil)) fun Ko hKo => ?_
        go_simp
        try go_bits
        refine hKo _ _ fun fa55 fh55 => ?_
        clear hKo Ko fh54 fa54
        refine Kn.known fh55 rfl rfl .none (Kn.ex_append fh55 (.cons (.tmp rfl) (.cons (.tmp rfl) .nil))) hrun fun fa56 fh56 => ?_
        clear fh55 fa55
        clear hrun
        refine Kn.pure fh56 rfl rfl .none (Kn.ex_assign fh56 (.tmp rfl)) fun fa57 fh57 => ?_
        clear fh56 fa56
        refine wpList_nil ?_
        refine Kn.block_normal ?_
        refine hK25 _ _ ?_
        clear hK25 K25
        replace fh57 := fh57.cut (.cons (t := 6) rfl (.cons (t := 8) rfl (.cons (t := 4) rfl (.cons (t := 3) rfl (.cons (t := 0) rfl .nil)))))
        clear d1 d2
        refine wp_region_lit ?_
        refine Kn.pure fh57 rfl rfl .none (Kn.ex_move fh57 (.tmp rfl)) fun fa58 fh58 => ?_
        clear fh57 fa57
        refine Kn.step fh58 rfl rfl .none (Kn.ex_bin fh58 (.tmp rfl) .const) fun Ko hKo => ?_
        go_simp
        try go_bits
        refine hKo _ _ fun fa59 fh59 => ?_
        clear hKo Ko fh58 fa58
        refine Kn.pure fh59 rfl rfl .none (Kn.ex_assign fh59 (.tmp rfl)) fun fa60 fh60 => ?_
        clear fh59 fa59
        refine wpList_nil ?_
        replace fh60 := fh60.cut (.cons (t := 8) rfl (.cons (t := 6) rfl (.cons (t := 4) rfl (.cons (t := 3) rfl (.cons (t := 0) rfl .nil)))))
        exact hKl22 (m22 - 1) _ _ (by omega) ⟨i + 1, h', q + 1, ch', fh60.cut (.turn (t := 8) rfl (by go_num) (.cons (t := 6) rfl (.cons (t := 4) rfl (.cons (t := 3) rfl (.cons (t := 0) rfl .nil))))), by omega, by omega, by omega, hh', HH2, HO5, HB5⟩
      obtain rfl : i = n := by omega
      refine wp_seq_k fun K23 hK23 => ?_
      refine wp_seq_k fun K24 hK24 => ?_
      refine wp_region_lit ?_
      refine Kn.pure fh45 rfl rfl .none (Kn.ex_move fh45 (.tmp rfl)) fun fa46 fh46 => ?_
      clear fh45 fa45
      refine Kn.pure fh46 rfl rfl .none (Kn.ex_move fh46 (.tmp rfl)) fun fa47 fh47 => ?_
      clear fh46 fa46
      refine Kn.step fh47 rfl rfl .none (Kn.ex_len fh47 (.tmp rfl)) fun Ko hKo => ?_
      go_simp
      try go_bits
      refine hKo _ _ fun fa48 fh48 => ?_
      clear hKo Ko fh47 fa47
      refine Kn.step fh48 rfl rfl .none (Kn.ex_bin fh48 (.tmp rfl) (.tmp rfl)) fun Ko hKo => ?_
      go_simp
      try go_bits
      refine hKo _ _ fun fa49 fh49 => ?_
      clear hKo Ko fh48 fa48
      refine wpList_nil ?_
      refine hK24 _ _ ?_
      clear hK24 K24
      replace fh49 := fh49.cut (.cons (t := 73) rfl (.cons (t := 8) rfl (.cons (t := 6) rfl (.cons (t := 4) rfl (.cons (t := 3) rfl (.cons (t := 0) rfl .nil))))))
      refine Kn.no fh49 (.tmp rfl) ?_
      replace fh49 := fh49.cut (.cons (t := 8) rfl (.cons (t := 6) rfl (.cons (t := 4) rfl (.cons (t := 3) rfl (.cons (t := 0) rfl .nil)))))
      refine wp_exit ?_
      refine Kn.then_exit ?_
      clear hK23 K23
      refine Kn.then_exit ?_
      clear hKl22 Kl22
      refine Kn.block_exit ?_
      refine hK20 _ _ ?_
      clear hK20 K20
      replace fh49 := fh49.cut (.cons (t := 6) rfl (.cons (t := 4) rfl (.cons (t := 3) rfl (.cons (t := 0) rfl .nil))))
      have HF : Hid (ys.take j ++ [(x1, x2)] ++ (ys.take i).drop j = ys.take j ++ (x1, x2) :: ys.drop j) := Lib.hid (by have e : ys.take i = ys := List.take_of_length_le (by rw [← HO4.out.1]; exact Nat.le_refl _); rw [e]; simp)
      rw [HF.out] at HH
      refine wp_region_lit ?_
      refine Kn.pure fh49 rfl rfl .none (Kn.ex_move fh49 (.tmp rfl)) fun fa50 fh50 => ?_
      clear fh49 fa49
      refine Kn.pure fh50 rfl rfl .none (Kn.ex_assign fh50 (.tmp rfl)) fun fa51 fh51 => ?_
      clear fh50 fa50
      refine wpList_nil ?_
      refine Kn.block_normal ?_
      refine hK8 _ _ ?_
      clear hK8 K8
      replace fh51 := fh51.cut (.cons (t := 3) rfl (.cons (t := 4) rfl (.cons (t := 0) rfl .nil)))
      refine wp_region_lit ?_
      refine Kn.pure fh51 rfl rfl .none (Kn.ex_move fh51 (.tmp rfl)) fun fa52 fh52 => ?_
      clear fh51 fa51
      refine Kn.step fh52 rfl rfl .none (Kn.ex_bin fh52 (.tmp rfl) .const) fun Ko hKo => ?_
      go_simp
      try go_bits
      refine hKo _ _ fun fa53 fh53 => ?_
      clear hKo Ko fh52 fa52
      refine Kn.pure fh53 rfl rfl .none (Kn.ex_assign fh53 (.tmp rfl)) fun fa54 fh54 => ?_
      clear fh53 fa53
      refine wpList_nil ?_
      replace fh54 := fh54.cut (.cons (t := 4) rfl (.cons (t := 3) rfl (.cons (t := 0) rfl .nil)))
      exact hKl5 (m5 - 1) _ _ (by omega) ⟨k + 1, h, q, ch, _, fh54.cut (.turn (t := 4) rfl (by go_num) (.cons (t := 3) rfl (.cons (t := 0) rfl .nil))), by omega, by omega, HH, Lib.hid ⟨srt_put HN.out.srt (fun b hb => by obtain ⟨p, hp, rfl⟩ := List.mem_take_iff_getElem.1 hb; have := HLs.out p (by omega); rwa [ed_at _ _ (by omega)] at this) HG.out, fun e => by rw [mem_put, take_ed _ _ hlt, List.mem_append, List.mem_singleton, HX.out, HN.out.mem e]; exact Or.comm⟩, HB4⟩
  · obtain rfl : k = xs.length := by omega
    refine wp_seq_k fun K6 hK6 => ?_
    refine wp_seq_k fun K7 hK7 => ?_
    refine wp_region_lit ?_
    refine Kn.pure fh5 rfl rfl .none (Kn.ex_move fh5 (.tmp rfl)) fun fa6 fh6 => ?_
    clear fh5 fa5
    refine Kn.pure fh6 rfl rfl .none (Kn.ex_move fh6 (.tmp rfl)) fun fa7 fh7 => ?_
    clear fh6 fa6
    refine Kn.step fh7 rfl rfl .none (Kn.ex_len fh7 (.tmp rfl)) fun Ko hKo => ?_
    go_simp
    try go_bits
    refine hKo _ _ fun fa8 fh8 => ?_
    clear hKo Ko fh7 fa7
    refine Kn.step fh8 rfl rfl .none (Kn.ex_bin fh8 (.tmp rfl) (.tmp rfl)) fun Ko hKo => ?_
    go_simp
    try go_bits
    refine hKo _ _ fun fa9 fh9 => ?_
    clear hKo Ko fh8 fa8
    refine wpList_nil ?_
    refine hK7 _ _ ?_
    clear hK7 K7
    replace fh9 := fh9.cut (.cons (t := 13) rfl (.cons (t := 4) rfl (.cons (t := 3) rfl (.cons (t := 0) rfl .nil))))
    refine Kn.no fh9 (.tmp rfl) ?_
    replace fh9 := fh9.cut (.cons (t := 4) rfl (.cons (t := 3) rfl (.cons (t := 0) rfl .nil)))
    refine wp_exit ?_
    refine Kn.then_exit ?_
    clear hK6 K6
    refine Kn.then_exit ?_
    clear hKl5 Kl5
    refine Kn.block_exit ?_
    refine hK3 _ _ ?_
    clear hK3 K3
    replace fh9 := fh9.cut (.cons (t := 3) rfl .nil)
    refine wp_seq_k fun K8 hK8 => ?_
    refine wp_region_lit ?_
    refine Kn.pure fh9 rfl rfl .none (Kn.ex_move fh9 (.tmp rfl)) fun fa10 fh10 => ?_
    clear fh9 fa9
    refine Kn.pure fh10 rfl rfl .none (Kn.ex_assign fh10 (.tmp rfl)) fun fa11 fh11 => ?_
    clear fh10 fa10
    refine wpList_nil ?_
    refine hK8 _ _ ?_
    clear hK8 K8
    replace fh11 := fh11.cut (.cons (t := 2) rfl .nil)
    refine wp_ret ?_
    exact Kn.ret1 fh11 rfl rfl ⟨g, n, cap, ys, rfl, HO.out.1, by have := HN.out; rwa [List.take_length] at this, HO.out.ein, HB.out, HO.out.ge⟩
end Go.Proofs.YtinjecaanjeapaaDoor.Edg
