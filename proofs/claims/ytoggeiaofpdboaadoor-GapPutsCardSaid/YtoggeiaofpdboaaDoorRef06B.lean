/- The document's answers of layer 6 (gap): Get, Wrong, May (written by gen_ref06b.py). -/
import Derived.Test.YtoggeiaofpdboaaDoorRef06
namespace Go.Proofs.YtoggeiaofpdboaaDoor.Gap
open Go Go.RowKit Go.Lib Oct Num

theorem iin_setRow {w : World} {g k n c B : Nat} {l : List Int} (h : OwnI w B (some ⟨g, 0, none⟩) n c l) (hk : g ≠ k) (xs : Array Value) : IIn (w.setRow k xs) (some ⟨g, 0, none⟩) l := fun i hi => by
  obtain ⟨b, o, e, hlt, h1⟩ := h.iin i hi
  cases e
  exact ⟨g, 0, rfl, by simpa using hlt, (cell_setRow_other w k xs _ hk).trans h1⟩
/-- A row is answered, or the error's number and its place. -/
def GRet (w : World) (p : Int) (r : (Int × Int) ⊕ (List Int × Int)) (e : Ending) (w' : World) : Prop := Below w.heap.size w w' ∧ ((∃ x a, r = .inl (x, a) ∧ e = .returned (rv none 0 0 p x a)) ∨ ∃ l nx A c, r = .inr (l, nx) ∧ e = .returned (rv A l.length c nx 0 0) ∧ IIn w' A l)

set_option maxRecDepth 100000 in
set_option maxHeartbeats 2000000 in
theorem get_g (s : ByteArray) (p N v : Int) (w : World) (hs : s.size ≤ 1000000000) (hN : N ≤ 4096) (hv0 : 0 ≤ v) (hv1 : v < N) :
    Calls Tryd.prog 19 #[.string s, .int .i64 p, .int .i64 N, .int .i64 v] w (GRet w p (gtG s p N v)) := by
  refine Kn.calls Tryd.func19 rfl Tryd.ntmps19 rfl (.cons (t := 0) rfl (.cons (t := 1) rfl (.cons (t := 2) rfl (.cons (t := 3) rfl .nil)))) fun fa0 fh0 => ?_
  refine wp_seq_k fun K1 hK1 => ?_
  refine wp_region_lit ?_
  refine Kn.step fh0 rfl rfl .none Kn.ex_alloc fun Ko hKo => ?_
  go_simp
  try go_bits
  refine hKo _ _ fun fa1 fh1 => ?_
  clear hKo Ko fh0 fa0
  refine wpList_nil ?_
  refine hK1 _ _ ?_
  clear hK1 K1
  refine Kn.gen (fun v => St.St v w.heap.size 46 #[.slice none 0 0, .int .i64 0, .int .i64 0, .int .i64 0] ∧ Below w.heap.size w v) ⟨St.St.new _ _ _, (Below.refl _ w).alloc (Nat.le_refl _) _⟩ fun v0 hvv => ?_
  obtain ⟨hS0, hb0⟩ := hvv
  have HS0 := Lib.hid hS0
  have HB0 := Lib.hid hb0
  clear hS0 hb0
  have hr := count_g s p N v0 hs
  rcases hg : cnt s p N with ⟨x, nx, e, a⟩
  rw [hg] at hr
  unfold gv at hr
  have HR := Lib.hid hg
  clear hg
  refine wp_seq_k fun K2 hK2 => ?_
  refine wp_region_lit ?_
  refine Kn.pure fh1 rfl rfl .none (Kn.ex_move fh1 (.tmp rfl)) fun fa2 fh2 => ?_
  clear fh1 fa1
  refine Kn.pure fh2 rfl rfl .none (Kn.ex_move fh2 (.tmp rfl)) fun fa3 fh3 => ?_
  clear fh2 fa2
  refine Kn.pure fh3 rfl rfl .none (Kn.ex_move fh3 (.tmp rfl)) fun fa4 fh4 => ?_
  clear fh3 fa3
  refine Kn.call fh4 rfl rfl .none (Kn.ex_call fh4 (.cons (.tmp rfl) (.cons (.tmp rfl) (.cons (.tmp rfl) .nil)))) Tryd.call17 (hr) fun e u1 hp => ?_
  obtain ⟨rfl, hb1⟩ := hp
  refine ⟨_, rfl, fun fa5 fh5 => ?_⟩
  clear fh4 fa4
  have HS1 := Lib.hid (HS0.out.on hb1)
  have HB1 := Lib.hid (HB0.out.trans (hb1.mono HB0.out.size))
  clear hb1 hr
  refine Kn.step fh5 rfl rfl .none Kn.ex_alloc fun Ko hKo => ?_
  go_simp
  try go_bits
  refine hKo _ _ fun fa6 fh6 => ?_
  clear hKo Ko fh5 fa5
  refine Kn.stepU fh6 rfl .none (Kn.ex_store fh6 (.tmp rfl) (.tmp rfl)) fun Ko hKo => ?_
  go_simp
  try go_bits
  refine hKo _ ?_
  clear hKo Ko
  refine wpList_nil ?_
  refine hK2 _ _ ?_
  clear hK2 K2
  replace fh6 := fh6.cut (.cons (t := 9) rfl (.cons (t := 8) rfl (.cons (t := 0) rfl (.cons (t := 1) rfl (.cons (t := 2) rfl (.cons (t := 3) rfl .nil))))))
  refine Kn.gen (fun v => St.St v u1.heap.size 43 #[.int .i64 x, .int .i64 nx, .int .i64 e, .int .i64 a] ∧ Below u1.heap.size u1 v) ⟨St.St.new _ _ _, (Below.refl _ u1).alloc (Nat.le_refl _) _⟩ fun v1 hvv => ?_
  obtain ⟨hG, hbv⟩ := hvv
  have HS2 := Lib.hid (HS1.out.on hbv)
  have HB2 := Lib.hid (HB1.out.trans (hbv.mono HB1.out.size))
  generalize u1.heap.size = gg at hG fh6
  clear hbv
  have HG := Lib.hid hG
  clear hG
  by_cases he : e = 0
  · subst he
    obtain ⟨hx0, hxN⟩ := cnt_ok HR.out
    obtain ⟨hx1, hp0, hpn, hns, ha0, -⟩ := rdG_ok hx0
    obtain ⟨X, rfl⟩ := Int.eq_ofNat_of_zero_le hx1.1
    have hXN : X ≤ 4096 := by omega
    have HR2 : Hid (gtG s p N v = gtF s N X true v nx) := Lib.hid (by unfold gtG; rw [HR.out]; simp)
    clear hx0 hxN hx1 ha0
    have c2 := HG.out.cell 2 rfl
    refine wp_seq_k fun K3 hK3 => ?_
    refine wp_seq_k fun K4 hK4 => ?_
    refine wp_region_lit ?_
    refine Kn.step fh6 rfl rfl .none (Kn.ex_fieldAddr fh6 (.tmp rfl)) fun Ko hKo => ?_
    go_simp
    try go_bits
    refine hKo _ _ fun fa7 fh7 => ?_
    clear hKo Ko fh6 fa6
    refine Kn.step fh7 rfl rfl .none (Kn.ex_load fh7 (.tmp rfl)) fun Ko hKo => ?_
    go_simp
    try go_bits
    refine hKo _ _ fun fa8 fh8 => ?_
    clear hKo Ko fh7 fa7
    refine Kn.step fh8 rfl rfl .none (Kn.ex_bin fh8 (.tmp rfl) .const) fun Ko hKo => ?_
    go_simp
    try go_bits
    refine hKo _ _ fun fa9 fh9 => ?_
    clear hKo Ko fh8 fa8
    refine wpList_nil ?_
    refine hK4 _ _ ?_
    clear hK4 K4
    replace fh9 := fh9.cut (.cons (t := 21) rfl (.cons (t := 9) rfl (.cons (t := 8) rfl (.cons (t := 0) rfl (.cons (t := 1) rfl (.cons (t := 2) rfl (.cons (t := 3) rfl .nil)))))))
    refine Kn.no fh9 (.tmp rfl) ?_
    refine wp_skip ?_
    refine hK3 _ _ ?_
    clear hK3 K3
    replace fh9 := fh9.cut (.cons (t := 9) rfl (.cons (t := 8) rfl (.cons (t := 0) rfl (.cons (t := 1) rfl (.cons (t := 2) rfl (.cons (t := 3) rfl .nil))))))
    clear c2
    refine wp_seq_k fun K5 hK5 => ?_
    refine wp_region_lit ?_
    refine Kn.step fh9 rfl rfl .none (Kn.ex_buildSlice fh9 .nil) fun Ko hKo => ?_
    go_simp
    try go_bits
    refine hKo _ _ fun fa10 fh10 => ?_
    clear hKo Ko fh9 fa9
    refine Kn.pure fh10 rfl rfl .none (Kn.ex_assign fh10 (.tmp rfl)) fun fa11 fh11 => ?_
    clear fh10 fa10
    refine wpList_nil ?_
    refine hK5 _ _ ?_
    clear hK5 K5
    replace fh11 := fh11.cut (.cons (t := 10) rfl (.cons (t := 9) rfl (.cons (t := 8) rfl (.cons (t := 0) rfl (.cons (t := 1) rfl (.cons (t := 2) rfl (.cons (t := 3) rfl .nil)))))))
    refine Kn.gen (fun u => OwnI u w.heap.size (some ⟨v1.heap.size, 0, none⟩) 0 0 [] ∧ Below v1.heap.size v1 u) ⟨OwnI.new v1 _ HB2.out.size, (Below.refl _ v1).alloc (Nat.le_refl _) _⟩ fun v2 hvv => ?_
    obtain ⟨hO, hbv⟩ := hvv
    have HS3 := Lib.hid (HS2.out.on hbv)
    have HG3 := Lib.hid (HG.out.on hbv)
    have HB3 := Lib.hid (HB2.out.trans (hbv.mono HB2.out.size))
    have HO3 := Lib.hid hO
    have hgg : v1.heap.size ≠ gg := Nat.ne_of_gt HG.out.lt
    have hgw : v1.heap.size ≠ w.heap.size := Nat.ne_of_gt HS2.out.lt
    generalize v1.heap.size = gr at hO HO3 hgg hgw fh11
    clear hbv hO HS2 HG HB2
    have c1 := HG3.out.cell 1 rfl
    refine wp_seq_k fun K6 hK6 => ?_
    refine Kn.still (by kernel_rfl) (by kernel_rfl) ?_
    refine Kn.spure fh11 rfl rfl .none (Kn.ex_move fh11 (.tmp rfl)) fun fa12 fh12 => ?_
    clear fh11 fa11
    refine Kn.sstep fh12 rfl rfl .none (Kn.ex_fieldAddr fh12 (.tmp rfl)) fun Ko hKo => ?_
    go_simp
    try go_bits
    refine hKo _ fun fa13 fh13 => ?_
    clear hKo Ko fh12 fa12
    refine Kn.sstep fh13 rfl rfl .none (Kn.ex_load fh13 (.tmp rfl)) fun Ko hKo => ?_
    go_simp
    try go_bits
    refine hKo _ fun fa14 fh14 => ?_
    clear hKo Ko fh13 fa13
    refine Kn.spure fh14 rfl rfl .none (Kn.ex_assign fh14 (.tmp rfl)) fun fa15 fh15 => ?_
    clear fh14 fa14
    refine Kn.spure fh15 rfl rfl .none (Kn.ex_assign fh15 (.tmp rfl)) fun fa16 fh16 => ?_
    clear fh15 fa15
    refine wpStill_nil ?_
    refine hK6 _ _ ?_
    clear hK6 K6
    replace fh16 := fh16.cut (.cons (t := 12) rfl (.cons (t := 11) rfl (.cons (t := 10) rfl (.cons (t := 9) rfl (.cons (t := 8) rfl (.cons (t := 0) rfl (.cons (t := 1) rfl (.cons (t := 2) rfl .nil))))))))
    clear c1
    refine wp_seq_k fun K7 hK7 => ?_
    refine wp_seq_k fun K8 hK8 => ?_
    refine wp_region_lit ?_
    refine Kn.pure fh16 rfl rfl .none (Kn.ex_assign fh16 .const) fun fa17 fh17 => ?_
    clear fh16 fa16
    refine wpList_nil ?_
    refine hK8 _ _ ?_
    clear hK8 K8
    refine wp_block ?_
    refine Kn.loop (fun m fr u => ∃ (i k g n c : Nat) (n1 now : Int) (done : List Int), Kn.Kn 81 [(13, .int .i64 (i : Int)), (12, .int .i64 n1), (11, .int .i64 now), (10, .slice (some ⟨g, 0, none⟩) n c), (9, .pointer (some ⟨gg, 0, none⟩)), (8, .pointer (some ⟨w.heap.size, 0, none⟩)), (0, .string s), (1, .int .i64 p), (2, .int .i64 N)] fr ∧ k ≤ m ∧ i + k = X ∧ (0 ≤ n1 ∧ n1 ≤ s.size) ∧ (0 ≤ now ∧ now < N) ∧ n = i ∧ (g ≠ gg ∧ g ≠ w.heap.size) ∧ Hid (GotYet s N k (decide (i = 0)) now n1 done (gtG s p N v)) ∧ Hid (OwnI u w.heap.size (some ⟨g, 0, none⟩) n c done) ∧ Hid (St.St u gg 43 #[.int .i64 (X : Int), .int .i64 nx, .int .i64 0, .int .i64 a]) ∧ Hid (St.St u w.heap.size 46 #[.slice none 0 0, .int .i64 0, .int .i64 0, .int .i64 0]) ∧ Hid (Below w.heap.size w u)) X ⟨0, X, gr, 0, 0, nx, v, [], fh17.cut (.turn (t := 13) rfl rfl (.cons (t := 12) rfl (.cons (t := 11) rfl (.cons (t := 10) rfl (.cons (t := 9) rfl (.cons (t := 8) rfl (.cons (t := 0) rfl (.cons (t := 1) rfl (.cons (t := 2) rfl .nil))))))))), Nat.le_refl _, by omega, ⟨by omega, hns⟩, ⟨hv0, hv1⟩, rfl, ⟨hgg, hgw⟩, Lib.hid (by rw [HR2.out]; exact GotYet.start), Lib.hid (HO3.out.drew), Lib.hid (HG3.out.drew), Lib.hid (HS3.out.drew), Lib.hid (Own.below_drew HB3.out)⟩ ?_
    clear fh17 fa17
    intro m9 fa18 u hI Kl9 hKl9
    obtain ⟨i, k, g, n, c, n1, now, done, fh18, hkm, hik, hn1, hnow, hni, hgne, HT, HO4, HG4, HS4, HB4⟩ := hI
    clear HO3 HG3 HS3 HB3 hgg hgw
    have HNI := Lib.hid hni
    have hnb : n ≤ 4096 := by omega
    clear hni
    have c0 := HG4.out.cell 0 rfl
    rcases k with _ | k
    · obtain rfl : i = X := by omega
      have HF : Hid (gtG s p N v = .inr (done, n1)) := Lib.hid HT.out.done
      have hnl := HO4.out.1
      have HI2 := Lib.hid (iin_setRow HO4.out hgne.2)
      subst hnl
      refine wp_seq_k fun K10 hK10 => ?_
      refine wp_seq_k fun K11 hK11 => ?_
      refine wp_region_lit ?_
      refine Kn.pure fh18 rfl rfl .none (Kn.ex_move fh18 (.tmp rfl)) fun fa19 fh19 => ?_
      clear fh18 fa18
      refine Kn.step fh19 rfl rfl .none (Kn.ex_fieldAddr fh19 (.tmp rfl)) fun Ko hKo => ?_
      go_simp
      try go_bits
      refine hKo _ _ fun fa20 fh20 => ?_
      clear hKo Ko fh19 fa19
      refine Kn.step fh20 rfl rfl .none (Kn.ex_load fh20 (.tmp rfl)) fun Ko hKo => ?_
      go_simp
      try go_bits
      refine hKo _ _ fun fa21 fh21 => ?_
      clear hKo Ko fh20 fa20
      refine Kn.step fh21 rfl rfl .none (Kn.ex_bin fh21 (.tmp rfl) (.tmp rfl)) fun Ko hKo => ?_
      go_simp
      try go_bits
      refine hKo _ _ fun fa22 fh22 => ?_
      clear hKo Ko fh21 fa21
      refine wpList_nil ?_
      refine hK11 _ _ ?_
      clear hK11 K11
      replace fh22 := fh22.cut (.cons (t := 35) rfl (.cons (t := 13) rfl (.cons (t := 12) rfl (.cons (t := 11) rfl (.cons (t := 10) rfl (.cons (t := 9) rfl (.cons (t := 8) rfl (.cons (t := 0) rfl (.cons (t := 1) rfl (.cons (t := 2) rfl .nil))))))))))
      refine Kn.no fh22 (.tmp rfl) ?_
      replace fh22 := fh22.cut (.cons (t := 13) rfl (.cons (t := 12) rfl (.cons (t := 11) rfl (.cons (t := 10) rfl (.cons (t := 9) rfl (.cons (t := 8) rfl (.cons (t := 0) rfl (.cons (t := 1) rfl (.cons (t := 2) rfl .nil)))))))))
      refine wp_exit ?_
      refine Kn.then_exit ?_
      clear hK10 K10
      refine Kn.then_exit ?_
      clear hKl9 Kl9
      refine Kn.block_exit ?_
      refine hK7 _ _ ?_
      clear hK7 K7
      replace fh22 := fh22.cut (.cons (t := 12) rfl (.cons (t := 10) rfl (.cons (t := 8) rfl .nil)))
      obtain ⟨hst, hS2, hB2⟩ := HS4.out.store (P := Tryd.prog) (cells := #[.slice (some ⟨g, 0, none⟩) done.length c, .int .i64 n1, .int .i64 0, .int .i64 0]) (by kernel_rfl) rfl (by simp [Value.oneCell'])
      refine wp_seq_k fun K12 hK12 => ?_
      refine wp_region_lit ?_
      refine Kn.pure fh22 rfl rfl .none (Kn.ex_move fh22 (.tmp rfl)) fun fa23 fh23 => ?_
      clear fh22 fa22
      refine Kn.pure fh23 rfl rfl .none (Kn.ex_move fh23 (.tmp rfl)) fun fa24 fh24 => ?_
      clear fh23 fa23
      refine Kn.step fh24 rfl rfl .none (Kn.ex_build fh24 (.cons (.tmp rfl) (.cons (.tmp rfl) .nil))) fun Ko hKo => ?_
      go_simp
      try go_bits
      refine hKo _ _ fun fa25 fh25 => ?_
      clear hKo Ko fh24 fa24
      refine Kn.stepU fh25 rfl .none (Kn.ex_store fh25 (.tmp rfl) (.tmp rfl)) fun Ko hKo => ?_
      rw [hst]
      refine hKo _ ?_
      clear hKo Ko
      refine wpList_nil ?_
      refine hK12 _ _ ?_
      clear hK12 K12
      replace fh25 := fh25.cut (.cons (t := 8) rfl .nil)
      refine wp_ret ?_
      exact Kn.retS fh25 rfl rfl hS2 Tryd.underlying46 rfl (by kernel_rfl) ⟨HB4.out.trans (hB2 _ (Nat.le_refl _)), .inr ⟨_, _, _, _, HF.out, rfl, HI2.out _⟩⟩
    have hilt : i < X := by omega
    refine wp_seq_k fun K10 hK10 => ?_
    refine wp_seq_k fun K11 hK11 => ?_
    refine wp_region_lit ?_
    refine Kn.pure fh18 rfl rfl .none (Kn.ex_move fh18 (.tmp rfl)) fun fa19 fh19 => ?_
    clear fh18 fa18
    refine Kn.step fh19 rfl rfl .none (Kn.ex_fieldAddr fh19 (.tmp rfl)) fun Ko hKo => ?_
    go_simp
    try go_bits
    refine hKo _ _ fun fa20 fh20 => ?_
    clear hKo Ko fh19 fa19
    refine Kn.step fh20 rfl rfl .none (Kn.ex_load fh20 (.tmp rfl)) fun Ko hKo => ?_
    go_simp
    try go_bits
    refine hKo _ _ fun fa21 fh21 => ?_
    clear hKo Ko fh20 fa20
    refine Kn.step fh21 rfl rfl .none (Kn.ex_bin fh21 (.tmp rfl) (.tmp rfl)) fun Ko hKo => ?_
    go_simp
    try go_bits
    refine hKo _ _ fun fa22 fh22 => ?_
    clear hKo Ko fh21 fa21
    refine wpList_nil ?_
    refine hK11 _ _ ?_
    clear hK11 K11
    replace fh22 := fh22.cut (.cons (t := 35) rfl (.cons (t := 13) rfl (.cons (t := 12) rfl (.cons (t := 11) rfl (.cons (t := 10) rfl (.cons (t := 9) rfl (.cons (t := 8) rfl (.cons (t := 0) rfl (.cons (t := 1) rfl (.cons (t := 2) rfl .nil))))))))))
    refine Kn.yes fh22 (.tmp rfl) ?_
    refine wp_skip ?_
    refine hK10 _ _ ?_
    clear hK10 K10
    replace fh22 := fh22.cut (.cons (t := 13) rfl (.cons (t := 12) rfl (.cons (t := 11) rfl (.cons (t := 10) rfl (.cons (t := 9) rfl (.cons (t := 8) rfl (.cons (t := 0) rfl (.cons (t := 1) rfl (.cons (t := 2) rfl .nil)))))))))
    refine wp_seq_k fun K12 hK12 => ?_
    refine wp_block ?_
    clear c0
    have hr := readShort_g s n1 u hs
    rcases hg : rdG s n1 with ⟨y, n2, e2, a2⟩
    rw [hg] at hr
    unfold gv at hr
    have HG2 := Lib.hid hg
    clear hg
    refine wp_seq_k fun K13 hK13 => ?_
    refine wp_region_lit ?_
    refine Kn.pure fh22 rfl rfl .none (Kn.ex_move fh22 (.tmp rfl)) fun fa23 fh23 => ?_
    clear fh22 fa22
    refine Kn.pure fh23 rfl rfl .none (Kn.ex_move fh23 (.tmp rfl)) fun fa24 fh24 => ?_
    clear fh23 fa23
    refine Kn.call fh24 rfl rfl .none (Kn.ex_call fh24 (.cons (.tmp rfl) (.cons (.tmp rfl) .nil))) Tryd.call31 (hr) fun e u1 hp => ?_
    obtain ⟨rfl, hb1⟩ := hp
    refine ⟨_, rfl, fun fa25 fh25 => ?_⟩
    clear fh24 fa24
    have HS5 := Lib.hid (HS4.out.on hb1)
    have HG5 := Lib.hid (HG4.out.on hb1)
    have HO5 := Lib.hid (HO4.out.on hb1)
    have HB5 := Lib.hid (HB4.out.trans (hb1.mono HB4.out.size))
    clear hb1 hr HS4 HG4 HB4 HO4
    refine Kn.step fh25 rfl rfl .none Kn.ex_alloc fun Ko hKo => ?_
    go_simp
    try go_bits
    refine hKo _ _ fun fa26 fh26 => ?_
    clear hKo Ko fh25 fa25
    refine Kn.stepU fh26 rfl .none (Kn.ex_store fh26 (.tmp rfl) (.tmp rfl)) fun Ko hKo => ?_
    go_simp
    try go_bits
    refine hKo _ ?_
    clear hKo Ko
    refine wpList_nil ?_
    refine hK13 _ _ ?_
    clear hK13 K13
    replace fh26 := fh26.cut (.cons (t := 14) rfl (.cons (t := 13) rfl (.cons (t := 12) rfl (.cons (t := 11) rfl (.cons (t := 10) rfl (.cons (t := 9) rfl (.cons (t := 8) rfl (.cons (t := 0) rfl (.cons (t := 1) rfl (.cons (t := 2) rfl .nil))))))))))
    refine Kn.gen (fun v => St.St v u1.heap.size 43 #[.int .i64 y, .int .i64 n2, .int .i64 e2, .int .i64 a2] ∧ Below u1.heap.size u1 v) ⟨St.St.new _ _ _, (Below.refl _ u1).alloc (Nat.le_refl _) _⟩ fun v3 hvv => ?_
    obtain ⟨hG, hbv⟩ := hvv
    have HS6 := Lib.hid (HS5.out.on hbv)
    have HG6 := Lib.hid (HG5.out.on hbv)
    have HO6 := Lib.hid (HO5.out.on hbv)
    have HB6 := Lib.hid (HB5.out.trans (hbv.mono HB5.out.size))
    have hg2r : u1.heap.size ≠ g := Nat.ne_of_gt HO5.out.lt
    generalize u1.heap.size = g2 at hG hg2r fh26
    have c0 := hG.cell 0 rfl
    have c1 := hG.cell 1 rfl
    have c2 := hG.cell 2 rfl
    have c3 := hG.cell 3 rfl
    have HX6 := Lib.hid hG
    clear hbv hG HS5 HG5 HB5 HO5
    by_cases he : e2 = 0
    · subst he
      obtain ⟨⟨hy0, hy1⟩, h1, h2, h3, -⟩ := rdG_ok HG2.out
      refine wp_seq_k fun K14 hK14 => ?_
      refine wp_seq_k fun K15 hK15 => ?_
      refine wp_region_lit ?_
      refine Kn.step fh26 rfl rfl .none (Kn.ex_fieldAddr fh26 (.tmp rfl)) fun Ko hKo => ?_
      go_simp
      try go_bits
      refine hKo _ _ fun fa27 fh27 => ?_
      clear hKo Ko fh26 fa26
      refine Kn.step fh27 rfl rfl .none (Kn.ex_load fh27 (.tmp rfl)) fun Ko hKo => ?_
      go_simp
      try go_bits
      refine hKo _ _ fun fa28 fh28 => ?_
      clear hKo Ko fh27 fa27
      refine Kn.step fh28 rfl rfl .none (Kn.ex_bin fh28 (.tmp rfl) .const) fun Ko hKo => ?_
      go_simp
      try go_bits
      refine hKo _ _ fun fa29 fh29 => ?_
      clear hKo Ko fh28 fa28
      refine wpList_nil ?_
      refine hK15 _ _ ?_
      clear hK15 K15
      replace fh29 := fh29.cut (.cons (t := 43) rfl (.cons (t := 14) rfl (.cons (t := 13) rfl (.cons (t := 12) rfl (.cons (t := 11) rfl (.cons (t := 10) rfl (.cons (t := 9) rfl (.cons (t := 8) rfl (.cons (t := 0) rfl (.cons (t := 1) rfl (.cons (t := 2) rfl .nil)))))))))))
      refine Kn.no fh29 (.tmp rfl) ?_
      refine wp_skip ?_
      refine hK14 _ _ ?_
      clear hK14 K14
      replace fh29 := fh29.cut (.cons (t := 14) rfl (.cons (t := 13) rfl (.cons (t := 12) rfl (.cons (t := 11) rfl (.cons (t := 10) rfl (.cons (t := 9) rfl (.cons (t := 8) rfl (.cons (t := 0) rfl (.cons (t := 1) rfl (.cons (t := 2) rfl .nil))))))))))
      by_cases hi0 : i = 0
      · have qi : ((i : Int) == 0) = true := by rw [beq_iff_eq]; omega
        have hbk := refBack_any y v3 hy0 hy1
        obtain ⟨b, hb⟩ : ∃ b, bkI y = b := ⟨_, rfl⟩
        have hbb : -72057594037927936 ≤ b ∧ b ≤ 72057594037927936 := by rw [← hb]; unfold bkI; split <;> omega
        rw [hb] at hbk
        obtain ⟨t, ht⟩ : ∃ t, now + b = t := ⟨_, rfl⟩
        have HY : Hid ((if decide (i = 0) then now + bkI y else now + y + 1) = t) := Lib.hid (by rw [decide_eq_true hi0, hb, ← ht]; rfl)
        have htb : -72057594037927936 ≤ t ∧ t ≤ 72057594037932032 := by omega
        clear hi0
        refine wp_seq_k fun K16 hK16 => ?_
        refine wp_seq_k fun K17 hK17 => ?_
        refine wp_region_lit ?_
        refine Kn.pure fh29 rfl rfl .none (Kn.ex_move fh29 (.tmp rfl)) fun fa30 fh30 => ?_
        clear fh29 fa29
        refine Kn.step fh30 rfl rfl .none (Kn.ex_bin fh30 (.tmp rfl) .const) fun Ko hKo => ?_
        go_simp
        try go_bits
        refine hKo _ _ fun fa31 fh31 => ?_
        clear hKo Ko fh30 fa30
        refine wpList_nil ?_
        refine hK17 _ _ ?_
        clear hK17 K17
        replace fh31 := fh31.cut (.cons (t := 51) rfl (.cons (t := 14) rfl (.cons (t := 13) rfl (.cons (t := 12) rfl (.cons (t := 11) rfl (.cons (t := 10) rfl (.cons (t := 9) rfl (.cons (t := 8) rfl (.cons (t := 0) rfl (.cons (t := 1) rfl (.cons (t := 2) rfl .nil)))))))))))
        refine Kn.yes fh31 (.tmp rfl) ?_
        replace fh31 := fh31.cut (.cons (t := 14) rfl (.cons (t := 13) rfl (.cons (t := 12) rfl (.cons (t := 11) rfl (.cons (t := 10) rfl (.cons (t := 9) rfl (.cons (t := 8) rfl (.cons (t := 0) rfl (.cons (t := 1) rfl (.cons (t := 2) rfl .nil))))))))))
        refine wp_region_lit ?_
        refine Kn.pure fh31 rfl rfl .none (Kn.ex_move fh31 (.tmp rfl)) fun fa32 fh32 => ?_
        clear fh31 fa31
        refine Kn.step fh32 rfl rfl .none (Kn.ex_fieldAddr fh32 (.tmp rfl)) fun Ko hKo => ?_
        go_simp
        try go_bits
        refine hKo _ _ fun fa33 fh33 => ?_
        clear hKo Ko fh32 fa32
        refine Kn.step fh33 rfl rfl .none (Kn.ex_load fh33 (.tmp rfl)) fun Ko hKo => ?_
        go_simp
        try go_bits
        refine hKo _ _ fun fa34 fh34 => ?_
        clear hKo Ko fh33 fa33
        refine Kn.call fh34 rfl rfl .none (Kn.ex_call fh34 (.cons (.tmp rfl) .nil)) Tryd.call32 (hbk) fun e v4 hp => ?_
        obtain ⟨rfl, rfl⟩ := hp
        refine ⟨_, rfl, fun fa35 fh35 => ?_⟩
        clear fh34 fa34
        refine Kn.step fh35 rfl rfl .none (Kn.ex_bin fh35 (.tmp rfl) (.tmp rfl)) fun Ko hKo => ?_
        go_simp
        try go_bits
        try rw [ht]
        try go_simp
        try go_bits
        refine hKo _ _ fun fa36 fh36 => ?_
        clear hKo Ko fh35 fa35
        refine Kn.pure fh36 rfl rfl .none (Kn.ex_assign fh36 (.tmp rfl)) fun fa37 fh37 => ?_
        clear fh36 fa36
        refine wpList_nil ?_
        refine hK16 _ _ ?_
        clear hK16 K16
        replace fh37 := fh37.cut (.cons (t := 11) rfl (.cons (t := 14) rfl (.cons (t := 13) rfl (.cons (t := 12) rfl (.cons (t := 10) rfl (.cons (t := 9) rfl (.cons (t := 8) rfl (.cons (t := 0) rfl (.cons (t := 1) rfl (.cons (t := 2) rfl .nil))))))))))
        clear qi hbk ht hb hbb
        clear c2 c3
        by_cases ht0 : t < 0
        · refine wp_seq_k fun K18 hK18 => ?_
          refine wp_seq_k fun K19 hK19 => ?_
          refine wp_region_lit ?_
          refine Kn.pure fh37 rfl rfl .none (Kn.ex_move fh37 (.tmp rfl)) fun fa38 fh38 => ?_
          clear fh37 fa37
          refine Kn.step fh38 rfl rfl .none (Kn.ex_bin fh38 (.tmp rfl) .const) fun Ko hKo => ?_
          go_simp
          try go_bits
          refine hKo _ _ fun fa39 fh39 => ?_
          clear hKo Ko fh38 fa38
          refine Kn.pure fh39 rfl rfl .none (Kn.ex_move fh39 (.tmp rfl)) fun fa40 fh40 => ?_
          clear fh39 fa39
          refine Kn.skip fh40 rfl rfl (.some rfl rfl rfl) fun fa41 fh41 => ?_
          clear fh40 fa40
          refine Kn.skip fh41 rfl rfl (.some rfl rfl rfl) fun fa42 fh42 => ?_
          clear fh41 fa41
          refine Kn.skip fh42 rfl rfl (.some rfl rfl rfl) fun fa43 fh43 => ?_
          clear fh42 fa42
          refine Kn.pure fh43 rfl rfl .none (Kn.ex_pick fh43 (.tmp rfl) .const) fun fa44 fh44 => ?_
          clear fh43 fa43
          refine wpList_nil ?_
          refine hK19 _ _ ?_
          clear hK19 K19
          replace fh44 := fh44.cut (.cons (t := 68) rfl (.cons (t := 11) rfl (.cons (t := 14) rfl (.cons (t := 13) rfl (.cons (t := 12) rfl (.cons (t := 10) rfl (.cons (t := 9) rfl (.cons (t := 8) rfl (.cons (t := 0) rfl (.cons (t := 1) rfl (.cons (t := 2) rfl .nil)))))))))))
          refine Kn.yes fh44 (.tmp rfl) ?_
          replace fh44 := fh44.cut (.cons (t := 11) rfl (.cons (t := 14) rfl (.cons (t := 13) rfl (.cons (t := 12) rfl (.cons (t := 10) rfl (.cons (t := 9) rfl (.cons (t := 8) rfl (.cons (t := 0) rfl (.cons (t := 1) rfl (.cons (t := 2) rfl .nil))))))))))
          obtain ⟨hst, hS2, hB2⟩ := HS6.out.store (P := Tryd.prog) (cells := #[.slice none 0 0, .int .i64 p, .int .i64 4, .int .i64 n1]) (by kernel_rfl) rfl (by simp [Value.oneCell'])
          refine wp_seq_k fun K20 hK20 => ?_
          refine wp_region_lit ?_
          refine Kn.pure fh44 rfl rfl .none (Kn.ex_move fh44 (.tmp rfl)) fun fa45 fh45 => ?_
          clear fh44 fa44
          refine Kn.pure fh45 rfl rfl .none (Kn.ex_move fh45 (.tmp rfl)) fun fa46 fh46 => ?_
          clear fh45 fa45
          refine Kn.step fh46 rfl rfl .none (Kn.ex_build fh46 (.cons (.tmp rfl) (.cons .const (.cons (.tmp rfl) .nil)))) fun Ko hKo => ?_
          go_simp
          try go_bits
          refine hKo _ _ fun fa47 fh47 => ?_
          clear hKo Ko fh46 fa46
          refine Kn.stepU fh47 rfl .none (Kn.ex_store fh47 (.tmp rfl) (.tmp rfl)) fun Ko hKo => ?_
          rw [hst]
          refine hKo _ ?_
          clear hKo Ko
          refine wpList_nil ?_
          refine hK20 _ _ ?_
          clear hK20 K20
          replace fh47 := fh47.cut (.cons (t := 11) rfl (.cons (t := 14) rfl (.cons (t := 13) rfl (.cons (t := 12) rfl (.cons (t := 10) rfl (.cons (t := 9) rfl (.cons (t := 8) rfl (.cons (t := 0) rfl (.cons (t := 1) rfl (.cons (t := 2) rfl .nil))))))))))
          refine wp_ret ?_
          refine Kn.then_ret ?_
          refine Kn.block_ret ?_
          refine Kn.then_ret ?_
          refine Kn.then_ret ?_
          refine Kn.block_ret ?_
          refine Kn.then_ret ?_
          exact Kn.retS fh47 rfl rfl hS2 Tryd.underlying46 rfl (by kernel_rfl) ⟨HB6.out.trans (hB2 _ (Nat.le_refl _)), .inl ⟨_, _, HT.out.out HG2.out (by rw [HY.out]; exact .inl ht0), rfl⟩⟩
        by_cases htN : N ≤ t
        · refine wp_seq_k fun K18 hK18 => ?_
          refine wp_seq_k fun K19 hK19 => ?_
          refine wp_region_lit ?_
          refine Kn.pure fh37 rfl rfl .none (Kn.ex_move fh37 (.tmp rfl)) fun fa38 fh38 => ?_
          clear fh37 fa37
          refine Kn.step fh38 rfl rfl .none (Kn.ex_bin fh38 (.tmp rfl) .const) fun Ko hKo => ?_
          go_simp
          try go_bits
          refine hKo _ _ fun fa39 fh39 => ?_
          clear hKo Ko fh38 fa38
          refine Kn.pure fh39 rfl rfl .none (Kn.ex_move fh39 (.tmp rfl)) fun fa40 fh40 => ?_
          clear fh39 fa39
          refine Kn.pure fh40 rfl rfl (.some rfl rfl rfl) (Kn.ex_move fh40 (.tmp rfl)) fun fa41 fh41 => ?_
          clear fh40 fa40
          refine Kn.pure fh41 rfl rfl (.some rfl rfl rfl) (Kn.ex_move fh41 (.tmp rfl)) fun fa42 fh42 => ?_
          clear fh41 fa41
          refine Kn.step fh42 rfl rfl (.some rfl rfl rfl) (Kn.ex_bin fh42 (.tmp rfl) (.tmp rfl)) fun Ko hKo => ?_
          go_simp
          try go_bits
          refine hKo _ _ fun fa43 fh43 => ?_
          clear hKo Ko fh42 fa42
          refine Kn.pure fh43 rfl rfl .none (Kn.ex_pick fh43 (.tmp rfl) (.tmp rfl)) fun fa44 fh44 => ?_
          clear fh43 fa43
          refine wpList_nil ?_
          refine hK19 _ _ ?_
          clear hK19 K19
          replace fh44 := fh44.cut (.cons (t := 68) rfl (.cons (t := 11) rfl (.cons (t := 14) rfl (.cons (t := 13) rfl (.cons (t := 12) rfl (.cons (t := 10) rfl (.cons (t := 9) rfl (.cons (t := 8) rfl (.cons (t := 0) rfl (.cons (t := 1) rfl (.cons (t := 2) rfl .nil)))))))))))
          refine Kn.yes fh44 (.tmp rfl) ?_
          replace fh44 := fh44.cut (.cons (t := 11) rfl (.cons (t := 14) rfl (.cons (t := 13) rfl (.cons (t := 12) rfl (.cons (t := 10) rfl (.cons (t := 9) rfl (.cons (t := 8) rfl (.cons (t := 0) rfl (.cons (t := 1) rfl (.cons (t := 2) rfl .nil))))))))))
          obtain ⟨hst, hS2, hB2⟩ := HS6.out.store (P := Tryd.prog) (cells := #[.slice none 0 0, .int .i64 p, .int .i64 4, .int .i64 n1]) (by kernel_rfl) rfl (by simp [Value.oneCell'])
          refine wp_seq_k fun K20 hK20 => ?_
          refine wp_region_lit ?_
          refine Kn.pure fh44 rfl rfl .none (Kn.ex_move fh44 (.tmp rfl)) fun fa45 fh45 => ?_
          clear fh44 fa44
          refine Kn.pure fh45 rfl rfl .none (Kn.ex_move fh45 (.tmp rfl)) fun fa46 fh46 => ?_
          clear fh45 fa45
          refine Kn.step fh46 rfl rfl .none (Kn.ex_build fh46 (.cons (.tmp rfl) (.cons .const (.cons (.tmp rfl) .nil)))) fun Ko hKo => ?_
          go_simp
          try go_bits
          refine hKo _ _ fun fa47 fh47 => ?_
          clear hKo Ko fh46 fa46
          refine Kn.stepU fh47 rfl .none (Kn.ex_store fh47 (.tmp rfl) (.tmp rfl)) fun Ko hKo => ?_
          rw [hst]
          refine hKo _ ?_
          clear hKo Ko
          refine wpList_nil ?_
          refine hK20 _ _ ?_
          clear hK20 K20
          replace fh47 := fh47.cut (.cons (t := 11) rfl (.cons (t := 14) rfl (.cons (t := 13) rfl (.cons (t := 12) rfl (.cons (t := 10) rfl (.cons (t := 9) rfl (.cons (t := 8) rfl (.cons (t := 0) rfl (.cons (t := 1) rfl (.cons (t := 2) rfl .nil))))))))))
          refine wp_ret ?_
          refine Kn.then_ret ?_
          refine Kn.block_ret ?_
          refine Kn.then_ret ?_
          refine Kn.then_ret ?_
          refine Kn.block_ret ?_
          refine Kn.then_ret ?_
          exact Kn.retS fh47 rfl rfl hS2 Tryd.underlying46 rfl (by kernel_rfl) ⟨HB6.out.trans (hB2 _ (Nat.le_refl _)), .inl ⟨_, _, HT.out.out HG2.out (by rw [HY.out]; exact .inr htN), rfl⟩⟩
        have HT2 : Hid (GotYet s N k (decide (i + 1 = 0)) t n2 (done ++ [t]) (gtG s p N v)) := Lib.hid (by rw [decide_eq_false (by omega)]; exact HT.out.next HG2.out t HY.out (by omega))
        obtain ⟨g', c', u3, hrun, hown, hbel, hkep⟩ := Num.push1 w v3 22 (some ⟨g, 0, none⟩) n c done t HO6.out HB6.out (by omega)
        have hgl6 := HG6.out.lt
        have hsl6 := HS6.out.lt
        have HG7 := Lib.hid ((HG6.out.alloc (.cells #[.int .i64 t] 3)).kept hkep (fun h => by simp [Value.ownBlock] at h; exact hgne.1 h.symm))
        have HS7 := Lib.hid ((HS6.out.alloc (.cells #[.int .i64 t] 3)).kept hkep (fun h => by simp [Value.ownBlock] at h; exact hgne.2 h.symm))
        have HX7 := Lib.hid ((HX6.out.alloc (.cells #[.int .i64 t] 3)).kept hkep (fun h => by simp [Value.ownBlock] at h; exact hg2r h))
        have hg7 : g' ≠ gg ∧ g' ≠ w.heap.size := by
          rcases hkep.at' with e | e
          · simp [Value.ownBlock] at e; omega
          · simp at e; omega
        have HO7 := Lib.hid hown
        have HB7 := Lib.hid hbel
        have HN7 : Hid (n + 1 = i + 1) := Lib.hid (by have := HNI.out; omega)
        clear hown hbel hkep hgl6 hsl6
        refine wp_seq_k fun K18 hK18 => ?_
        refine wp_seq_k fun K19 hK19 => ?_
        refine wp_region_lit ?_
        refine Kn.pure fh37 rfl rfl .none (Kn.ex_move fh37 (.tmp rfl)) fun fa38 fh38 => ?_
        clear fh37 fa37
        refine Kn.step fh38 rfl rfl .none (Kn.ex_bin fh38 (.tmp rfl) .const) fun Ko hKo => ?_
        go_simp
        try go_bits
        refine hKo _ _ fun fa39 fh39 => ?_
        clear hKo Ko fh38 fa38
        refine Kn.pure fh39 rfl rfl .none (Kn.ex_move fh39 (.tmp rfl)) fun fa40 fh40 => ?_
        clear fh39 fa39
        refine Kn.pure fh40 rfl rfl (.some rfl rfl rfl) (Kn.ex_move fh40 (.tmp rfl)) fun fa41 fh41 => ?_
        clear fh40 fa40
        refine Kn.pure fh41 rfl rfl (.some rfl rfl rfl) (Kn.ex_move fh41 (.tmp rfl)) fun fa42 fh42 => ?_
        clear fh41 fa41
        refine Kn.step fh42 rfl rfl (.some rfl rfl rfl) (Kn.ex_bin fh42 (.tmp rfl) (.tmp rfl)) fun Ko hKo => ?_
        go_simp
        try go_bits
        refine hKo _ _ fun fa43 fh43 => ?_
        clear hKo Ko fh42 fa42
        refine Kn.pure fh43 rfl rfl .none (Kn.ex_pick fh43 (.tmp rfl) (.tmp rfl)) fun fa44 fh44 => ?_
        clear fh43 fa43
        refine wpList_nil ?_
        refine hK19 _ _ ?_
        clear hK19 K19
        replace fh44 := fh44.cut (.cons (t := 68) rfl (.cons (t := 11) rfl (.cons (t := 14) rfl (.cons (t := 13) rfl (.cons (t := 12) rfl (.cons (t := 10) rfl (.cons (t := 9) rfl (.cons (t := 8) rfl (.cons (t := 0) rfl (.cons (t := 1) rfl (.cons (t := 2) rfl .nil)))))))))))
        refine Kn.no fh44 (.tmp rfl) ?_
        refine wp_skip ?_
        refine hK18 _ _ ?_
        clear hK18 K18
        replace fh44 := fh44.cut (.cons (t := 11) rfl (.cons (t := 14) rfl (.cons (t := 13) rfl (.cons (t := 12) rfl (.cons (t := 10) rfl (.cons (t := 9) rfl (.cons (t := 8) rfl (.cons (t := 0) rfl (.cons (t := 1) rfl (.cons (t := 2) rfl .nil))))))))))
        clear c0 c1
        refine wp_seq_k fun K20 hK20 => ?_
        refine wp_region_lit ?_
        refine Kn.pure fh44 rfl rfl .none (Kn.ex_move fh44 (.tmp rfl)) fun fa45 fh45 => ?_
        clear fh44 fa44
        refine Kn.pure fh45 rfl rfl .none (Kn.ex_move fh45 (.tmp rfl)) fun fa46 fh46 => ?_
        clear fh45 fa45
        refine Kn.step fh46 rfl rfl .none (Kn.ex_buildSlice fh46 (.cons (.tmp rfl) .nil)) fun Ko hKo => ?_
        go_simp
        try go_bits
        refine hKo _ _ fun fa47 fh47 => ?_
        clear hKo Ko fh46 fa46
        refine Kn.known fh47 rfl rfl .none (Kn.ex_append fh47 (.cons (.tmp rfl) (.cons (.tmp rfl) .nil))) hrun fun fa48 fh48 => ?_
        clear fh47 fa47
        clear hrun
        refine Kn.pure fh48 rfl rfl .none (Kn.ex_assign fh48 (.tmp rfl)) fun fa49 fh49 => ?_
        clear fh48 fa48
        refine wpList_nil ?_
        refine hK20 _ _ ?_
        clear hK20 K20
        replace fh49 := fh49.cut (.cons (t := 10) rfl (.cons (t := 11) rfl (.cons (t := 14) rfl (.cons (t := 13) rfl (.cons (t := 12) rfl (.cons (t := 9) rfl (.cons (t := 8) rfl (.cons (t := 0) rfl (.cons (t := 1) rfl (.cons (t := 2) rfl .nil))))))))))
        have c1 := HX7.out.cell 1 rfl
        refine wp_region_lit ?_
        refine Kn.step fh49 rfl rfl .none (Kn.ex_fieldAddr fh49 (.tmp rfl)) fun Ko hKo => ?_
        go_simp
        try go_bits
        refine hKo _ _ fun fa50 fh50 => ?_
        clear hKo Ko fh49 fa49
        refine Kn.step fh50 rfl rfl .none (Kn.ex_load fh50 (.tmp rfl)) fun Ko hKo => ?_
        go_simp
        try go_bits
        refine hKo _ _ fun fa51 fh51 => ?_
        clear hKo Ko fh50 fa50
        refine Kn.pure fh51 rfl rfl .none (Kn.ex_assign fh51 (.tmp rfl)) fun fa52 fh52 => ?_
        clear fh51 fa51
        refine wpList_nil ?_
        refine Kn.block_normal ?_
        refine hK12 _ _ ?_
        clear hK12 K12
        replace fh52 := fh52.cut (.cons (t := 12) rfl (.cons (t := 10) rfl (.cons (t := 11) rfl (.cons (t := 13) rfl (.cons (t := 9) rfl (.cons (t := 8) rfl (.cons (t := 0) rfl (.cons (t := 1) rfl (.cons (t := 2) rfl .nil)))))))))
        clear c1
        refine wp_region_lit ?_
        refine Kn.pure fh52 rfl rfl .none (Kn.ex_move fh52 (.tmp rfl)) fun fa53 fh53 => ?_
        clear fh52 fa52
        refine Kn.step fh53 rfl rfl .none (Kn.ex_bin fh53 (.tmp rfl) .const) fun Ko hKo => ?_
        go_simp
        try go_bits
        refine hKo _ _ fun fa54 fh54 => ?_
        clear hKo Ko fh53 fa53
        refine Kn.pure fh54 rfl rfl .none (Kn.ex_assign fh54 (.tmp rfl)) fun fa55 fh55 => ?_
        clear fh54 fa54
        refine wpList_nil ?_
        replace fh55 := fh55.cut (.cons (t := 13) rfl (.cons (t := 12) rfl (.cons (t := 10) rfl (.cons (t := 11) rfl (.cons (t := 9) rfl (.cons (t := 8) rfl (.cons (t := 0) rfl (.cons (t := 1) rfl (.cons (t := 2) rfl .nil)))))))))
        exact hKl9 (m9 - 1) _ _ (by omega) ⟨i + 1, k, g', n + 1, c', n2, t, _, fh55.cut (.turn (t := 13) rfl (by go_num) (.cons (t := 12) rfl (.cons (t := 11) rfl (.cons (t := 10) rfl (.cons (t := 9) rfl (.cons (t := 8) rfl (.cons (t := 0) rfl (.cons (t := 1) rfl (.cons (t := 2) rfl .nil))))))))), by omega, by omega, ⟨by omega, h3⟩, ⟨by omega, by omega⟩, HN7.out, hg7, HT2, HO7, HG7, HS7, HB7⟩
      have qi : ((i : Int) == 0) = false := by rw [beq_eq_false_iff_ne]; omega
      obtain ⟨t0, ht0⟩ : ∃ t, now + y = t := ⟨_, rfl⟩
      obtain ⟨t, ht⟩ : ∃ t, t0 + 1 = t := ⟨_, rfl⟩
      have HY : Hid ((if decide (i = 0) then now + bkI y else now + y + 1) = t) := Lib.hid (by rw [decide_eq_false hi0, ht0, ht]; rfl)
      have htb : -72057594037927936 ≤ t ∧ t ≤ 72057594037932033 := by omega
      have htb0 : -72057594037927936 ≤ t0 ∧ t0 ≤ 72057594037932032 := by omega
      clear hi0
      refine wp_seq_k fun K16 hK16 => ?_
      refine wp_seq_k fun K17 hK17 => ?_
      refine wp_region_lit ?_
      refine Kn.pure fh29 rfl rfl .none (Kn.ex_move fh29 (.tmp rfl)) fun fa30 fh30 => ?_
      clear fh29 fa29
      refine Kn.step fh30 rfl rfl .none (Kn.ex_bin fh30 (.tmp rfl) .const) fun Ko hKo => ?_
      go_simp
      try go_bits
      refine hKo _ _ fun fa31 fh31 => ?_
      clear hKo Ko fh30 fa30
      refine wpList_nil ?_
      refine hK17 _ _ ?_
      clear hK17 K17
      replace fh31 := fh31.cut (.cons (t := 51) rfl (.cons (t := 14) rfl (.cons (t := 13) rfl (.cons (t := 12) rfl (.cons (t := 11) rfl (.cons (t := 10) rfl (.cons (t := 9) rfl (.cons (t := 8) rfl (.cons (t := 0) rfl (.cons (t := 1) rfl (.cons (t := 2) rfl .nil)))))))))))
      refine Kn.no fh31 (.tmp rfl) ?_
      replace fh31 := fh31.cut (.cons (t := 14) rfl (.cons (t := 13) rfl (.cons (t := 12) rfl (.cons (t := 11) rfl (.cons (t := 10) rfl (.cons (t := 9) rfl (.cons (t := 8) rfl (.cons (t := 0) rfl (.cons (t := 1) rfl (.cons (t := 2) rfl .nil))))))))))
      refine wp_region_lit ?_
      refine Kn.pure fh31 rfl rfl .none (Kn.ex_move fh31 (.tmp rfl)) fun fa32 fh32 => ?_
      clear fh31 fa31
      refine Kn.step fh32 rfl rfl .none (Kn.ex_fieldAddr fh32 (.tmp rfl)) fun Ko hKo => ?_
      go_simp
      try go_bits
      refine hKo _ _ fun fa33 fh33 => ?_
      clear hKo Ko fh32 fa32
      refine Kn.step fh33 rfl rfl .none (Kn.ex_load fh33 (.tmp rfl)) fun Ko hKo => ?_
      go_simp
      try go_bits
      refine hKo _ _ fun fa34 fh34 => ?_
      clear hKo Ko fh33 fa33
      refine Kn.step fh34 rfl rfl .none (Kn.ex_bin fh34 (.tmp rfl) (.tmp rfl)) fun Ko hKo => ?_
      go_simp
      try go_bits
      try rw [ht0]
      try go_simp
      try go_bits
      refine hKo _ _ fun fa35 fh35 => ?_
      clear hKo Ko fh34 fa34
      refine Kn.step fh35 rfl rfl .none (Kn.ex_bin fh35 (.tmp rfl) .const) fun Ko hKo => ?_
      go_simp
      try go_bits
      try rw [ht]
      try go_simp
      try go_bits
      refine hKo _ _ fun fa36 fh36 => ?_
      clear hKo Ko fh35 fa35
      refine Kn.pure fh36 rfl rfl .none (Kn.ex_assign fh36 (.tmp rfl)) fun fa37 fh37 => ?_
      clear fh36 fa36
      refine wpList_nil ?_
      refine hK16 _ _ ?_
      clear hK16 K16
      replace fh37 := fh37.cut (.cons (t := 11) rfl (.cons (t := 14) rfl (.cons (t := 13) rfl (.cons (t := 12) rfl (.cons (t := 10) rfl (.cons (t := 9) rfl (.cons (t := 8) rfl (.cons (t := 0) rfl (.cons (t := 1) rfl (.cons (t := 2) rfl .nil))))))))))
      clear qi ht ht0 htb0
      clear c2 c3
      by_cases ht0 : t < 0
      · refine wp_seq_k fun K18 hK18 => ?_
        refine wp_seq_k fun K19 hK19 => ?_
        refine wp_region_lit ?_
        refine Kn.pure fh37 rfl rfl .none (Kn.ex_move fh37 (.tmp rfl)) fun fa38 fh38 => ?_
        clear fh37 fa37
        refine Kn.step fh38 rfl rfl .none (Kn.ex_bin fh38 (.tmp rfl) .const) fun Ko hKo => ?_
        go_simp
        try go_bits
        refine hKo _ _ fun fa39 fh39 => ?_
        clear hKo Ko fh38 fa38
        refine Kn.pure fh39 rfl rfl .none (Kn.ex_move fh39 (.tmp rfl)) fun fa40 fh40 => ?_
        clear fh39 fa39
        refine Kn.skip fh40 rfl rfl (.some rfl rfl rfl) fun fa41 fh41 => ?_
        clear fh40 fa40
        refine Kn.skip fh41 rfl rfl (.some rfl rfl rfl) fun fa42 fh42 => ?_
        clear fh41 fa41
        refine Kn.skip fh42 rfl rfl (.some rfl rfl rfl) fun fa43 fh43 => ?_
        clear fh42 fa42
        refine Kn.pure fh43 rfl rfl .none (Kn.ex_pick fh43 (.tmp rfl) .const) fun fa44 fh44 => ?_
        clear fh43 fa43
        refine wpList_nil ?_
        refine hK19 _ _ ?_
        clear hK19 K19
        replace fh44 := fh44.cut (.cons (t := 68) rfl (.cons (t := 11) rfl (.cons (t := 14) rfl (.cons (t := 13) rfl (.cons (t := 12) rfl (.cons (t := 10) rfl (.cons (t := 9) rfl (.cons (t := 8) rfl (.cons (t := 0) rfl (.cons (t := 1) rfl (.cons (t := 2) rfl .nil)))))))))))
        refine Kn.yes fh44 (.tmp rfl) ?_
        replace fh44 := fh44.cut (.cons (t := 11) rfl (.cons (t := 14) rfl (.cons (t := 13) rfl (.cons (t := 12) rfl (.cons (t := 10) rfl (.cons (t := 9) rfl (.cons (t := 8) rfl (.cons (t := 0) rfl (.cons (t := 1) rfl (.cons (t := 2) rfl .nil))))))))))
        obtain ⟨hst, hS2, hB2⟩ := HS6.out.store (P := Tryd.prog) (cells := #[.slice none 0 0, .int .i64 p, .int .i64 4, .int .i64 n1]) (by kernel_rfl) rfl (by simp [Value.oneCell'])
        refine wp_seq_k fun K20 hK20 => ?_
        refine wp_region_lit ?_
        refine Kn.pure fh44 rfl rfl .none (Kn.ex_move fh44 (.tmp rfl)) fun fa45 fh45 => ?_
        clear fh44 fa44
        refine Kn.pure fh45 rfl rfl .none (Kn.ex_move fh45 (.tmp rfl)) fun fa46 fh46 => ?_
        clear fh45 fa45
        refine Kn.step fh46 rfl rfl .none (Kn.ex_build fh46 (.cons (.tmp rfl) (.cons .const (.cons (.tmp rfl) .nil)))) fun Ko hKo => ?_
        go_simp
        try go_bits
        refine hKo _ _ fun fa47 fh47 => ?_
        clear hKo Ko fh46 fa46
        refine Kn.stepU fh47 rfl .none (Kn.ex_store fh47 (.tmp rfl) (.tmp rfl)) fun Ko hKo => ?_
        rw [hst]
        refine hKo _ ?_
        clear hKo Ko
        refine wpList_nil ?_
        refine hK20 _ _ ?_
        clear hK20 K20
        replace fh47 := fh47.cut (.cons (t := 11) rfl (.cons (t := 14) rfl (.cons (t := 13) rfl (.cons (t := 12) rfl (.cons (t := 10) rfl (.cons (t := 9) rfl (.cons (t := 8) rfl (.cons (t := 0) rfl (.cons (t := 1) rfl (.cons (t := 2) rfl .nil))))))))))
        refine wp_ret ?_
        refine Kn.then_ret ?_
        refine Kn.block_ret ?_
        refine Kn.then_ret ?_
        refine Kn.then_ret ?_
        refine Kn.block_ret ?_
        refine Kn.then_ret ?_
        exact Kn.retS fh47 rfl rfl hS2 Tryd.underlying46 rfl (by kernel_rfl) ⟨HB6.out.trans (hB2 _ (Nat.le_refl _)), .inl ⟨_, _, HT.out.out HG2.out (by rw [HY.out]; exact .inl ht0), rfl⟩⟩
      by_cases htN : N ≤ t
      · refine wp_seq_k fun K18 hK18 => ?_
        refine wp_seq_k fun K19 hK19 => ?_
        refine wp_region_lit ?_
        refine Kn.pure fh37 rfl rfl .none (Kn.ex_move fh37 (.tmp rfl)) fun fa38 fh38 => ?_
        clear fh37 fa37
        refine Kn.step fh38 rfl rfl .none (Kn.ex_bin fh38 (.tmp rfl) .const) fun Ko hKo => ?_
        go_simp
        try go_bits
        refine hKo _ _ fun fa39 fh39 => ?_
        clear hKo Ko fh38 fa38
        refine Kn.pure fh39 rfl rfl .none (Kn.ex_move fh39 (.tmp rfl)) fun fa40 fh40 => ?_
        clear fh39 fa39
        refine Kn.pure fh40 rfl rfl (.some rfl rfl rfl) (Kn.ex_move fh40 (.tmp rfl)) fun fa41 fh41 => ?_
        clear fh40 fa40
        refine Kn.pure fh41 rfl rfl (.some rfl rfl rfl) (Kn.ex_move fh41 (.tmp rfl)) fun fa42 fh42 => ?_
        clear fh41 fa41
        refine Kn.step fh42 rfl rfl (.some rfl rfl rfl) (Kn.ex_bin fh42 (.tmp rfl) (.tmp rfl)) fun Ko hKo => ?_
        go_simp
        try go_bits
        refine hKo _ _ fun fa43 fh43 => ?_
        clear hKo Ko fh42 fa42
        refine Kn.pure fh43 rfl rfl .none (Kn.ex_pick fh43 (.tmp rfl) (.tmp rfl)) fun fa44 fh44 => ?_
        clear fh43 fa43
        refine wpList_nil ?_
        refine hK19 _ _ ?_
        clear hK19 K19
        replace fh44 := fh44.cut (.cons (t := 68) rfl (.cons (t := 11) rfl (.cons (t := 14) rfl (.cons (t := 13) rfl (.cons (t := 12) rfl (.cons (t := 10) rfl (.cons (t := 9) rfl (.cons (t := 8) rfl (.cons (t := 0) rfl (.cons (t := 1) rfl (.cons (t := 2) rfl .nil)))))))))))
        refine Kn.yes fh44 (.tmp rfl) ?_
        replace fh44 := fh44.cut (.cons (t := 11) rfl (.cons (t := 14) rfl (.cons (t := 13) rfl (.cons (t := 12) rfl (.cons (t := 10) rfl (.cons (t := 9) rfl (.cons (t := 8) rfl (.cons (t := 0) rfl (.cons (t := 1) rfl (.cons (t := 2) rfl .nil))))))))))
        obtain ⟨hst, hS2, hB2⟩ := HS6.out.store (P := Tryd.prog) (cells := #[.slice none 0 0, .int .i64 p, .int .i64 4, .int .i64 n1]) (by kernel_rfl) rfl (by simp [Value.oneCell'])
        refine wp_seq_k fun K20 hK20 => ?_
        refine wp_region_lit ?_
        refine Kn.pure fh44 rfl rfl .none (Kn.ex_move fh44 (.tmp rfl)) fun fa45 fh45 => ?_
        clear fh44 fa44
        refine Kn.pure fh45 rfl rfl .none (Kn.ex_move fh45 (.tmp rfl)) fun fa46 fh46 => ?_
        clear fh45 fa45
        refine Kn.step fh46 rfl rfl .none (Kn.ex_build fh46 (.cons (.tmp rfl) (.cons .const (.cons (.tmp rfl) .nil)))) fun Ko hKo => ?_
        go_simp
        try go_bits
        refine hKo _ _ fun fa47 fh47 => ?_
        clear hKo Ko fh46 fa46
        refine Kn.stepU fh47 rfl .none (Kn.ex_store fh47 (.tmp rfl) (.tmp rfl)) fun Ko hKo => ?_
        rw [hst]
        refine hKo _ ?_
        clear hKo Ko
        refine wpList_nil ?_
        refine hK20 _ _ ?_
        clear hK20 K20
        replace fh47 := fh47.cut (.cons (t := 11) rfl (.cons (t := 14) rfl (.cons (t := 13) rfl (.cons (t := 12) rfl (.cons (t := 10) rfl (.cons (t := 9) rfl (.cons (t := 8) rfl (.cons (t := 0) rfl (.cons (t := 1) rfl (.cons (t := 2) rfl .nil))))))))))
        refine wp_ret ?_
        refine Kn.then_ret ?_
        refine Kn.block_ret ?_
        refine Kn.then_ret ?_
        refine Kn.then_ret ?_
        refine Kn.block_ret ?_
        refine Kn.then_ret ?_
        exact Kn.retS fh47 rfl rfl hS2 Tryd.underlying46 rfl (by kernel_rfl) ⟨HB6.out.trans (hB2 _ (Nat.le_refl _)), .inl ⟨_, _, HT.out.out HG2.out (by rw [HY.out]; exact .inr htN), rfl⟩⟩
      have HT2 : Hid (GotYet s N k (decide (i + 1 = 0)) t n2 (done ++ [t]) (gtG s p N v)) := Lib.hid (by rw [decide_eq_false (by omega)]; exact HT.out.next HG2.out t HY.out (by omega))
      obtain ⟨g', c', u3, hrun, hown, hbel, hkep⟩ := Num.push1 w v3 22 (some ⟨g, 0, none⟩) n c done t HO6.out HB6.out (by omega)
      have hgl6 := HG6.out.lt
      have hsl6 := HS6.out.lt
      have HG7 := Lib.hid ((HG6.out.alloc (.cells #[.int .i64 t] 3)).kept hkep (fun h => by simp [Value.ownBlock] at h; exact hgne.1 h.symm))
      have HS7 := Lib.hid ((HS6.out.alloc (.cells #[.int .i64 t] 3)).kept hkep (fun h => by simp [Value.ownBlock] at h; exact hgne.2 h.symm))
      have HX7 := Lib.hid ((HX6.out.alloc (.cells #[.int .i64 t] 3)).kept hkep (fun h => by simp [Value.ownBlock] at h; exact hg2r h))
      have hg7 : g' ≠ gg ∧ g' ≠ w.heap.size := by
        rcases hkep.at' with e | e
        · simp [Value.ownBlock] at e; omega
        · simp at e; omega
      have HO7 := Lib.hid hown
      have HB7 := Lib.hid hbel
      have HN7 : Hid (n + 1 = i + 1) := Lib.hid (by have := HNI.out; omega)
      clear hown hbel hkep hgl6 hsl6
      refine wp_seq_k fun K18 hK18 => ?_
      refine wp_seq_k fun K19 hK19 => ?_
      refine wp_region_lit ?_
      refine Kn.pure fh37 rfl rfl .none (Kn.ex_move fh37 (.tmp rfl)) fun fa38 fh38 => ?_
      clear fh37 fa37
      refine Kn.step fh38 rfl rfl .none (Kn.ex_bin fh38 (.tmp rfl) .const) fun Ko hKo => ?_
      go_simp
      try go_bits
      refine hKo _ _ fun fa39 fh39 => ?_
      clear hKo Ko fh38 fa38
      refine Kn.pure fh39 rfl rfl .none (Kn.ex_move fh39 (.tmp rfl)) fun fa40 fh40 => ?_
      clear fh39 fa39
      refine Kn.pure fh40 rfl rfl (.some rfl rfl rfl) (Kn.ex_move fh40 (.tmp rfl)) fun fa41 fh41 => ?_
      clear fh40 fa40
      refine Kn.pure fh41 rfl rfl (.some rfl rfl rfl) (Kn.ex_move fh41 (.tmp rfl)) fun fa42 fh42 => ?_
      clear fh41 fa41
      refine Kn.step fh42 rfl rfl (.some rfl rfl rfl) (Kn.ex_bin fh42 (.tmp rfl) (.tmp rfl)) fun Ko hKo => ?_
      go_simp
      try go_bits
      refine hKo _ _ fun fa43 fh43 => ?_
      clear hKo Ko fh42 fa42
      refine Kn.pure fh43 rfl rfl .none (Kn.ex_pick fh43 (.tmp rfl) (.tmp rfl)) fun fa44 fh44 => ?_
      clear fh43 fa43
      refine wpList_nil ?_
      refine hK19 _ _ ?_
      clear hK19 K19
      replace fh44 := fh44.cut (.cons (t := 68) rfl (.cons (t := 11) rfl (.cons (t := 14) rfl (.cons (t := 13) rfl (.cons (t := 12) rfl (.cons (t := 10) rfl (.cons (t := 9) rfl (.cons (t := 8) rfl (.cons (t := 0) rfl (.cons (t := 1) rfl (.cons (t := 2) rfl .nil)))))))))))
      refine Kn.no fh44 (.tmp rfl) ?_
      refine wp_skip ?_
      refine hK18 _ _ ?_
      clear hK18 K18
      replace fh44 := fh44.cut (.cons (t := 11) rfl (.cons (t := 14) rfl (.cons (t := 13) rfl (.cons (t := 12) rfl (.cons (t := 10) rfl (.cons (t := 9) rfl (.cons (t := 8) rfl (.cons (t := 0) rfl (.cons (t := 1) rfl (.cons (t := 2) rfl .nil))))))))))
      clear c0 c1
      refine wp_seq_k fun K20 hK20 => ?_
      refine wp_region_lit ?_
      refine Kn.pure fh44 rfl rfl .none (Kn.ex_move fh44 (.tmp rfl)) fun fa45 fh45 => ?_
      clear fh44 fa44
      refine Kn.pure fh45 rfl rfl .none (Kn.ex_move fh45 (.tmp rfl)) fun fa46 fh46 => ?_
      clear fh45 fa45
      refine Kn.step fh46 rfl rfl .none (Kn.ex_buildSlice fh46 (.cons (.tmp rfl) .nil)) fun Ko hKo => ?_
      go_simp
      try go_bits
      refine hKo _ _ fun fa47 fh47 => ?_
      clear hKo Ko fh46 fa46
      refine Kn.known fh47 rfl rfl .none (Kn.ex_append fh47 (.cons (.tmp rfl) (.cons (.tmp rfl) .nil))) hrun fun fa48 fh48 => ?_
      clear fh47 fa47
      clear hrun
      refine Kn.pure fh48 rfl rfl .none (Kn.ex_assign fh48 (.tmp rfl)) fun fa49 fh49 => ?_
      clear fh48 fa48
      refine wpList_nil ?_
      refine hK20 _ _ ?_
      clear hK20 K20
      replace fh49 := fh49.cut (.cons (t := 10) rfl (.cons (t := 11) rfl (.cons (t := 14) rfl (.cons (t := 13) rfl (.cons (t := 12) rfl (.cons (t := 9) rfl (.cons (t := 8) rfl (.cons (t := 0) rfl (.cons (t := 1) rfl (.cons (t := 2) rfl .nil))))))))))
      have c1 := HX7.out.cell 1 rfl
      refine wp_region_lit ?_
      refine Kn.step fh49 rfl rfl .none (Kn.ex_fieldAddr fh49 (.tmp rfl)) fun Ko hKo => ?_
      go_simp
      try go_bits
      refine hKo _ _ fun fa50 fh50 => ?_
      clear hKo Ko fh49 fa49
      refine Kn.step fh50 rfl rfl .none (Kn.ex_load fh50 (.tmp rfl)) fun Ko hKo => ?_
      go_simp
      try go_bits
      refine hKo _ _ fun fa51 fh51 => ?_
      clear hKo Ko fh50 fa50
      refine Kn.pure fh51 rfl rfl .none (Kn.ex_assign fh51 (.tmp rfl)) fun fa52 fh52 => ?_
      clear fh51 fa51
      refine wpList_nil ?_
      refine Kn.block_normal ?_
      refine hK12 _ _ ?_
      clear hK12 K12
      replace fh52 := fh52.cut (.cons (t := 12) rfl (.cons (t := 10) rfl (.cons (t := 11) rfl (.cons (t := 13) rfl (.cons (t := 9) rfl (.cons (t := 8) rfl (.cons (t := 0) rfl (.cons (t := 1) rfl (.cons (t := 2) rfl .nil)))))))))
      clear c1
      refine wp_region_lit ?_
      refine Kn.pure fh52 rfl rfl .none (Kn.ex_move fh52 (.tmp rfl)) fun fa53 fh53 => ?_
      clear fh52 fa52
      refine Kn.step fh53 rfl rfl .none (Kn.ex_bin fh53 (.tmp rfl) .const) fun Ko hKo => ?_
      go_simp
      try go_bits
      refine hKo _ _ fun fa54 fh54 => ?_
      clear hKo Ko fh53 fa53
      refine Kn.pure fh54 rfl rfl .none (Kn.ex_assign fh54 (.tmp rfl)) fun fa55 fh55 => ?_
      clear fh54 fa54
      refine wpList_nil ?_
      replace fh55 := fh55.cut (.cons (t := 13) rfl (.cons (t := 12) rfl (.cons (t := 10) rfl (.cons (t := 11) rfl (.cons (t := 9) rfl (.cons (t := 8) rfl (.cons (t := 0) rfl (.cons (t := 1) rfl (.cons (t := 2) rfl .nil)))))))))
      exact hKl9 (m9 - 1) _ _ (by omega) ⟨i + 1, k, g', n + 1, c', n2, t, _, fh55.cut (.turn (t := 13) rfl (by go_num) (.cons (t := 12) rfl (.cons (t := 11) rfl (.cons (t := 10) rfl (.cons (t := 9) rfl (.cons (t := 8) rfl (.cons (t := 0) rfl (.cons (t := 1) rfl (.cons (t := 2) rfl .nil))))))))), by omega, by omega, ⟨by omega, h3⟩, ⟨by omega, by omega⟩, HN7.out, hg7, HT2, HO7, HG7, HS7, HB7⟩
    have qe : (e2 != 0) = true := by simp [he]
    have HF : Hid (gtG s p N v = .inl (e2, a2)) := Lib.hid (HT.out.bad HG2.out he)
    clear he
    refine wp_seq_k fun K14 hK14 => ?_
    refine wp_seq_k fun K15 hK15 => ?_
    refine wp_region_lit ?_
    refine Kn.step fh26 rfl rfl .none (Kn.ex_fieldAddr fh26 (.tmp rfl)) fun Ko hKo => ?_
    go_simp
    try go_bits
    refine hKo _ _ fun fa27 fh27 => ?_
    clear hKo Ko fh26 fa26
    refine Kn.step fh27 rfl rfl .none (Kn.ex_load fh27 (.tmp rfl)) fun Ko hKo => ?_
    go_simp
    try go_bits
    refine hKo _ _ fun fa28 fh28 => ?_
    clear hKo Ko fh27 fa27
    refine Kn.step fh28 rfl rfl .none (Kn.ex_bin fh28 (.tmp rfl) .const) fun Ko hKo => ?_
    go_simp
    try go_bits
    refine hKo _ _ fun fa29 fh29 => ?_
    clear hKo Ko fh28 fa28
    refine wpList_nil ?_
    refine hK15 _ _ ?_
    clear hK15 K15
    replace fh29 := fh29.cut (.cons (t := 43) rfl (.cons (t := 14) rfl (.cons (t := 13) rfl (.cons (t := 12) rfl (.cons (t := 11) rfl (.cons (t := 10) rfl (.cons (t := 9) rfl (.cons (t := 8) rfl (.cons (t := 0) rfl (.cons (t := 1) rfl (.cons (t := 2) rfl .nil)))))))))))
    refine Kn.yes fh29 (.tmp rfl) ?_
    replace fh29 := fh29.cut (.cons (t := 14) rfl (.cons (t := 13) rfl (.cons (t := 12) rfl (.cons (t := 11) rfl (.cons (t := 10) rfl (.cons (t := 9) rfl (.cons (t := 8) rfl (.cons (t := 0) rfl (.cons (t := 1) rfl (.cons (t := 2) rfl .nil))))))))))
    obtain ⟨hst, hS2, hB2⟩ := HS6.out.store (P := Tryd.prog) (cells := #[.slice none 0 0, .int .i64 p, .int .i64 e2, .int .i64 a2]) (by kernel_rfl) rfl (by simp [Value.oneCell'])
    refine wp_seq_k fun K16 hK16 => ?_
    refine wp_region_lit ?_
    refine Kn.pure fh29 rfl rfl .none (Kn.ex_move fh29 (.tmp rfl)) fun fa30 fh30 => ?_
    clear fh29 fa29
    refine Kn.step fh30 rfl rfl .none (Kn.ex_fieldAddr fh30 (.tmp rfl)) fun Ko hKo => ?_
    go_simp
    try go_bits
    refine hKo _ _ fun fa31 fh31 => ?_
    clear hKo Ko fh30 fa30
    refine Kn.step fh31 rfl rfl .none (Kn.ex_load fh31 (.tmp rfl)) fun Ko hKo => ?_
    go_simp
    try go_bits
    refine hKo _ _ fun fa32 fh32 => ?_
    clear hKo Ko fh31 fa31
    refine Kn.step fh32 rfl rfl .none (Kn.ex_fieldAddr fh32 (.tmp rfl)) fun Ko hKo => ?_
    go_simp
    try go_bits
    refine hKo _ _ fun fa33 fh33 => ?_
    clear hKo Ko fh32 fa32
    refine Kn.step fh33 rfl rfl .none (Kn.ex_load fh33 (.tmp rfl)) fun Ko hKo => ?_
    go_simp
    try go_bits
    refine hKo _ _ fun fa34 fh34 => ?_
    clear hKo Ko fh33 fa33
    refine Kn.step fh34 rfl rfl .none (Kn.ex_build fh34 (.cons (.tmp rfl) (.cons (.tmp rfl) (.cons (.tmp rfl) .nil)))) fun Ko hKo => ?_
    go_simp
    try go_bits
    refine hKo _ _ fun fa35 fh35 => ?_
    clear hKo Ko fh34 fa34
    refine Kn.stepU fh35 rfl .none (Kn.ex_store fh35 (.tmp rfl) (.tmp rfl)) fun Ko hKo => ?_
    rw [hst]
    refine hKo _ ?_
    clear hKo Ko
    refine wpList_nil ?_
    refine hK16 _ _ ?_
    clear hK16 K16
    replace fh35 := fh35.cut (.cons (t := 14) rfl (.cons (t := 13) rfl (.cons (t := 12) rfl (.cons (t := 11) rfl (.cons (t := 10) rfl (.cons (t := 9) rfl (.cons (t := 8) rfl (.cons (t := 0) rfl (.cons (t := 1) rfl (.cons (t := 2) rfl .nil))))))))))
    refine wp_ret ?_
    refine Kn.then_ret ?_
    refine Kn.block_ret ?_
    refine Kn.then_ret ?_
    refine Kn.then_ret ?_
    refine Kn.block_ret ?_
    refine Kn.then_ret ?_
    exact Kn.retS fh35 rfl rfl hS2 Tryd.underlying46 rfl (by kernel_rfl) ⟨HB6.out.trans (hB2 _ (Nat.le_refl _)), .inl ⟨_, _, HF.out, rfl⟩⟩
  have qe : (e != 0) = true := by simp [he]
  have HF : Hid (gtG s p N v = .inl (e, a)) := Lib.hid (by unfold gtG; rw [HR.out, if_neg he])
  have c2 := HG.out.cell 2 rfl
  have c3 := HG.out.cell 3 rfl
  clear he
  refine wp_seq_k fun K3 hK3 => ?_
  refine wp_seq_k fun K4 hK4 => ?_
  refine wp_region_lit ?_
  refine Kn.step fh6 rfl rfl .none (Kn.ex_fieldAddr fh6 (.tmp rfl)) fun Ko hKo => ?_
  go_simp
  try go_bits
  refine hKo _ _ fun fa7 fh7 => ?_
  clear hKo Ko fh6 fa6
  refine Kn.step fh7 rfl rfl .none (Kn.ex_load fh7 (.tmp rfl)) fun Ko hKo => ?_
  go_simp
  try go_bits
  refine hKo _ _ fun fa8 fh8 => ?_
  clear hKo Ko fh7 fa7
  refine Kn.step fh8 rfl rfl .none (Kn.ex_bin fh8 (.tmp rfl) .const) fun Ko hKo => ?_
  go_simp
  try go_bits
  refine hKo _ _ fun fa9 fh9 => ?_
  clear hKo Ko fh8 fa8
  refine wpList_nil ?_
  refine hK4 _ _ ?_
  clear hK4 K4
  replace fh9 := fh9.cut (.cons (t := 21) rfl (.cons (t := 9) rfl (.cons (t := 8) rfl (.cons (t := 0) rfl (.cons (t := 1) rfl (.cons (t := 2) rfl (.cons (t := 3) rfl .nil)))))))
  refine Kn.yes fh9 (.tmp rfl) ?_
  replace fh9 := fh9.cut (.cons (t := 9) rfl (.cons (t := 8) rfl (.cons (t := 0) rfl (.cons (t := 1) rfl (.cons (t := 2) rfl (.cons (t := 3) rfl .nil))))))
  obtain ⟨hst, hS2, hB2⟩ := HS2.out.store (P := Tryd.prog) (cells := #[.slice none 0 0, .int .i64 p, .int .i64 e, .int .i64 a]) (by kernel_rfl) rfl (by simp [Value.oneCell'])
  refine wp_seq_k fun K5 hK5 => ?_
  refine wp_region_lit ?_
  refine Kn.pure fh9 rfl rfl .none (Kn.ex_move fh9 (.tmp rfl)) fun fa10 fh10 => ?_
  clear fh9 fa9
  refine Kn.step fh10 rfl rfl .none (Kn.ex_fieldAddr fh10 (.tmp rfl)) fun Ko hKo => ?_
  go_simp
  try go_bits
  refine hKo _ _ fun fa11 fh11 => ?_
  clear hKo Ko fh10 fa10
  refine Kn.step fh11 rfl rfl .none (Kn.ex_load fh11 (.tmp rfl)) fun Ko hKo => ?_
  go_simp
  try go_bits
  refine hKo _ _ fun fa12 fh12 => ?_
  clear hKo Ko fh11 fa11
  refine Kn.step fh12 rfl rfl .none (Kn.ex_fieldAddr fh12 (.tmp rfl)) fun Ko hKo => ?_
  go_simp
  try go_bits
  refine hKo _ _ fun fa13 fh13 => ?_
  clear hKo Ko fh12 fa12
  refine Kn.step fh13 rfl rfl .none (Kn.ex_load fh13 (.tmp rfl)) fun Ko hKo => ?_
  go_simp
  try go_bits
  refine hKo _ _ fun fa14 fh14 => ?_
  clear hKo Ko fh13 fa13
  refine Kn.step fh14 rfl rfl .none (Kn.ex_build fh14 (.cons (.tmp rfl) (.cons (.tmp rfl) (.cons (.tmp rfl) .nil)))) fun Ko hKo => ?_
  go_simp
  try go_bits
  refine hKo _ _ fun fa15 fh15 => ?_
  clear hKo Ko fh14 fa14
  refine Kn.stepU fh15 rfl .none (Kn.ex_store fh15 (.tmp rfl) (.tmp rfl)) fun Ko hKo => ?_
  rw [hst]
  refine hKo _ ?_
  clear hKo Ko
  refine wpList_nil ?_
  refine hK5 _ _ ?_
  clear hK5 K5
  replace fh15 := fh15.cut (.cons (t := 9) rfl (.cons (t := 8) rfl (.cons (t := 0) rfl (.cons (t := 1) rfl (.cons (t := 2) rfl (.cons (t := 3) rfl .nil))))))
  refine wp_ret ?_
  refine Kn.then_ret ?_
  exact Kn.retS fh15 rfl rfl hS2 Tryd.underlying46 rfl (by kernel_rfl) ⟨HB2.out.trans (hB2 _ (Nat.le_refl _)), .inl ⟨_, _, HF.out, rfl⟩⟩

set_option maxRecDepth 100000 in
set_option maxHeartbeats 2000000 in
theorem may_a (N v : Int) (w : World) (h1 : N < 0) :
    Calls Tryd.prog 8 #[.int .i64 N, .int .i64 v] w fun e w' => e = .returned (.int .i64 1) ∧ w = w' := by
  refine Kn.calls Tryd.func8 rfl Tryd.ntmps8 rfl (.cons (t := 0) rfl (.cons (t := 1) rfl .nil)) fun fa0 fh0 => ?_
  refine wp_seq_k fun K1 hK1 => ?_
  refine wp_region_lit ?_
  refine Kn.pure fh0 rfl rfl .none (Kn.ex_assign fh0 .const) fun fa1 fh1 => ?_
  clear fh0 fa0
  refine wpList_nil ?_
  refine hK1 _ _ ?_
  clear hK1 K1
  refine wp_seq_k fun K2 hK2 => ?_
  refine wp_seq_k fun K3 hK3 => ?_
  refine wp_region_lit ?_
  refine Kn.pure fh1 rfl rfl .none (Kn.ex_move fh1 (.tmp rfl)) fun fa2 fh2 => ?_
  clear fh1 fa1
  refine Kn.step fh2 rfl rfl .none (Kn.ex_bin fh2 (.tmp rfl) .const) fun Ko hKo => ?_
  go_simp
  try go_bits
  refine hKo _ _ fun fa3 fh3 => ?_
  clear hKo Ko fh2 fa2
  refine Kn.pure fh3 rfl rfl .none (Kn.ex_move fh3 (.tmp rfl)) fun fa4 fh4 => ?_
  clear fh3 fa3
  refine Kn.skip fh4 rfl rfl (.some rfl rfl rfl) fun fa5 fh5 => ?_
  clear fh4 fa4
  refine Kn.skip fh5 rfl rfl (.some rfl rfl rfl) fun fa6 fh6 => ?_
  clear fh5 fa5
  refine Kn.pure fh6 rfl rfl .none (Kn.ex_pick fh6 (.tmp rfl) .const) fun fa7 fh7 => ?_
  clear fh6 fa6
  refine wpList_nil ?_
  refine hK3 _ _ ?_
  clear hK3 K3
  replace fh7 := fh7.cut (.cons (t := 10) rfl (.cons (t := 4) rfl (.cons (t := 0) rfl (.cons (t := 1) rfl .nil))))
  refine Kn.yes fh7 (.tmp rfl) ?_
  replace fh7 := fh7.cut (.cons (t := 4) rfl (.cons (t := 0) rfl (.cons (t := 1) rfl .nil)))
  refine wp_seq_k fun K4 hK4 => ?_
  refine wp_region_lit ?_
  refine Kn.pure fh7 rfl rfl .none (Kn.ex_assign fh7 .const) fun fa8 fh8 => ?_
  clear fh7 fa7
  refine wpList_nil ?_
  refine hK4 _ _ ?_
  clear hK4 K4
  refine wp_ret ?_
  refine Kn.then_ret ?_
  exact Kn.ret1 fh8 rfl rfl ⟨rfl, rfl⟩

set_option maxRecDepth 100000 in
set_option maxHeartbeats 2000000 in
theorem may_b (N v : Int) (w : World) (h1 : ¬ N < 0) (h2 : 4096 < N) :
    Calls Tryd.prog 8 #[.int .i64 N, .int .i64 v] w fun e w' => e = .returned (.int .i64 1) ∧ w = w' := by
  refine Kn.calls Tryd.func8 rfl Tryd.ntmps8 rfl (.cons (t := 0) rfl (.cons (t := 1) rfl .nil)) fun fa0 fh0 => ?_
  refine wp_seq_k fun K1 hK1 => ?_
  refine wp_region_lit ?_
  refine Kn.pure fh0 rfl rfl .none (Kn.ex_assign fh0 .const) fun fa1 fh1 => ?_
  clear fh0 fa0
  refine wpList_nil ?_
  refine hK1 _ _ ?_
  clear hK1 K1
  refine wp_seq_k fun K2 hK2 => ?_
  refine wp_seq_k fun K3 hK3 => ?_
  refine wp_region_lit ?_
  refine Kn.pure fh1 rfl rfl .none (Kn.ex_move fh1 (.tmp rfl)) fun fa2 fh2 => ?_
  clear fh1 fa1
  refine Kn.step fh2 rfl rfl .none (Kn.ex_bin fh2 (.tmp rfl) .const) fun Ko hKo => ?_
  go_simp
  try go_bits
  refine hKo _ _ fun fa3 fh3 => ?_
  clear hKo Ko fh2 fa2
  refine Kn.pure fh3 rfl rfl .none (Kn.ex_move fh3 (.tmp rfl)) fun fa4 fh4 => ?_
  clear fh3 fa3
  refine Kn.pure fh4 rfl rfl (.some rfl rfl rfl) (Kn.ex_move fh4 (.tmp rfl)) fun fa5 fh5 => ?_
  clear fh4 fa4
  refine Kn.step fh5 rfl rfl (.some rfl rfl rfl) (Kn.ex_bin fh5 (.tmp rfl) .const) fun Ko hKo => ?_
  go_simp
  try go_bits
  refine hKo _ _ fun fa6 fh6 => ?_
  clear hKo Ko fh5 fa5
  refine Kn.pure fh6 rfl rfl .none (Kn.ex_pick fh6 (.tmp rfl) (.tmp rfl)) fun fa7 fh7 => ?_
  clear fh6 fa6
  refine wpList_nil ?_
  refine hK3 _ _ ?_
  clear hK3 K3
  replace fh7 := fh7.cut (.cons (t := 10) rfl (.cons (t := 4) rfl (.cons (t := 0) rfl (.cons (t := 1) rfl .nil))))
  refine Kn.yes fh7 (.tmp rfl) ?_
  replace fh7 := fh7.cut (.cons (t := 4) rfl (.cons (t := 0) rfl (.cons (t := 1) rfl .nil)))
  refine wp_seq_k fun K4 hK4 => ?_
  refine wp_region_lit ?_
  refine Kn.pure fh7 rfl rfl .none (Kn.ex_assign fh7 .const) fun fa8 fh8 => ?_
  clear fh7 fa7
  refine wpList_nil ?_
  refine hK4 _ _ ?_
  clear hK4 K4
  refine wp_ret ?_
  refine Kn.then_ret ?_
  exact Kn.ret1 fh8 rfl rfl ⟨rfl, rfl⟩

set_option maxRecDepth 100000 in
set_option maxHeartbeats 2000000 in
theorem may_c (N v : Int) (w : World) (h1 : ¬ N < 0) (h2 : ¬ 4096 < N) (h3 : v < 0) :
    Calls Tryd.prog 8 #[.int .i64 N, .int .i64 v] w fun e w' => e = .returned (.int .i64 2) ∧ w = w' := by
  refine Kn.calls Tryd.func8 rfl Tryd.ntmps8 rfl (.cons (t := 0) rfl (.cons (t := 1) rfl .nil)) fun fa0 fh0 => ?_
  refine wp_seq_k fun K1 hK1 => ?_
  refine wp_region_lit ?_
  refine Kn.pure fh0 rfl rfl .none (Kn.ex_assign fh0 .const) fun fa1 fh1 => ?_
  clear fh0 fa0
  refine wpList_nil ?_
  refine hK1 _ _ ?_
  clear hK1 K1
  refine wp_seq_k fun K2 hK2 => ?_
  refine wp_seq_k fun K3 hK3 => ?_
  refine wp_region_lit ?_
  refine Kn.pure fh1 rfl rfl .none (Kn.ex_move fh1 (.tmp rfl)) fun fa2 fh2 => ?_
  clear fh1 fa1
  refine Kn.step fh2 rfl rfl .none (Kn.ex_bin fh2 (.tmp rfl) .const) fun Ko hKo => ?_
  go_simp
  try go_bits
  refine hKo _ _ fun fa3 fh3 => ?_
  clear hKo Ko fh2 fa2
  refine Kn.pure fh3 rfl rfl .none (Kn.ex_move fh3 (.tmp rfl)) fun fa4 fh4 => ?_
  clear fh3 fa3
  refine Kn.pure fh4 rfl rfl (.some rfl rfl rfl) (Kn.ex_move fh4 (.tmp rfl)) fun fa5 fh5 => ?_
  clear fh4 fa4
  refine Kn.step fh5 rfl rfl (.some rfl rfl rfl) (Kn.ex_bin fh5 (.tmp rfl) .const) fun Ko hKo => ?_
  go_simp
  try go_bits
  refine hKo _ _ fun fa6 fh6 => ?_
  clear hKo Ko fh5 fa5
  refine Kn.pure fh6 rfl rfl .none (Kn.ex_pick fh6 (.tmp rfl) (.tmp rfl)) fun fa7 fh7 => ?_
  clear fh6 fa6
  refine wpList_nil ?_
  refine hK3 _ _ ?_
  clear hK3 K3
  replace fh7 := fh7.cut (.cons (t := 10) rfl (.cons (t := 4) rfl (.cons (t := 0) rfl (.cons (t := 1) rfl .nil))))
  refine Kn.no fh7 (.tmp rfl) ?_
  refine wp_skip ?_
  refine hK2 _ _ ?_
  clear hK2 K2
  replace fh7 := fh7.cut (.cons (t := 4) rfl (.cons (t := 0) rfl (.cons (t := 1) rfl .nil)))
  refine wp_seq_k fun K4 hK4 => ?_
  refine wp_seq_k fun K5 hK5 => ?_
  refine wp_region_lit ?_
  refine Kn.pure fh7 rfl rfl .none (Kn.ex_move fh7 (.tmp rfl)) fun fa8 fh8 => ?_
  clear fh7 fa7
  refine Kn.step fh8 rfl rfl .none (Kn.ex_bin fh8 (.tmp rfl) .const) fun Ko hKo => ?_
  go_simp
  try go_bits
  refine hKo _ _ fun fa9 fh9 => ?_
  clear hKo Ko fh8 fa8
  refine Kn.pure fh9 rfl rfl .none (Kn.ex_move fh9 (.tmp rfl)) fun fa10 fh10 => ?_
  clear fh9 fa9
  refine Kn.skip fh10 rfl rfl (.some rfl rfl rfl) fun fa11 fh11 => ?_
  clear fh10 fa10
  refine Kn.skip fh11 rfl rfl (.some rfl rfl rfl) fun fa12 fh12 => ?_
  clear fh11 fa11
  refine Kn.skip fh12 rfl rfl (.some rfl rfl rfl) fun fa13 fh13 => ?_
  clear fh12 fa12
  refine Kn.pure fh13 rfl rfl .none (Kn.ex_pick fh13 (.tmp rfl) .const) fun fa14 fh14 => ?_
  clear fh13 fa13
  refine wpList_nil ?_
  refine hK5 _ _ ?_
  clear hK5 K5
  replace fh14 := fh14.cut (.cons (t := 17) rfl (.cons (t := 4) rfl .nil))
  refine Kn.yes fh14 (.tmp rfl) ?_
  replace fh14 := fh14.cut (.cons (t := 4) rfl .nil)
  refine wp_seq_k fun K6 hK6 => ?_
  refine wp_region_lit ?_
  refine Kn.pure fh14 rfl rfl .none (Kn.ex_assign fh14 .const) fun fa15 fh15 => ?_
  clear fh14 fa14
  refine wpList_nil ?_
  refine hK6 _ _ ?_
  clear hK6 K6
  refine wp_ret ?_
  refine Kn.then_ret ?_
  exact Kn.ret1 fh15 rfl rfl ⟨rfl, rfl⟩

set_option maxRecDepth 100000 in
set_option maxHeartbeats 2000000 in
theorem may_d (N v : Int) (w : World) (h1 : ¬ N < 0) (h2 : ¬ 4096 < N) (h3 : ¬ v < 0) (h4 : N ≤ v) :
    Calls Tryd.prog 8 #[.int .i64 N, .int .i64 v] w fun e w' => e = .returned (.int .i64 2) ∧ w = w' := by
  refine Kn.calls Tryd.func8 rfl Tryd.ntmps8 rfl (.cons (t := 0) rfl (.cons (t := 1) rfl .nil)) fun fa0 fh0 => ?_
  refine wp_seq_k fun K1 hK1 => ?_
  refine wp_region_lit ?_
  refine Kn.pure fh0 rfl rfl .none (Kn.ex_assign fh0 .const) fun fa1 fh1 => ?_
  clear fh0 fa0
  refine wpList_nil ?_
  refine hK1 _ _ ?_
  clear hK1 K1
  refine wp_seq_k fun K2 hK2 => ?_
  refine wp_seq_k fun K3 hK3 => ?_
  refine wp_region_lit ?_
  refine Kn.pure fh1 rfl rfl .none (Kn.ex_move fh1 (.tmp rfl)) fun fa2 fh2 => ?_
  clear fh1 fa1
  refine Kn.step fh2 rfl rfl .none (Kn.ex_bin fh2 (.tmp rfl) .const) fun Ko hKo => ?_
  go_simp
  try go_bits
  refine hKo _ _ fun fa3 fh3 => ?_
  clear hKo Ko fh2 fa2
  refine Kn.pure fh3 rfl rfl .none (Kn.ex_move fh3 (.tmp rfl)) fun fa4 fh4 => ?_
  clear fh3 fa3
  refine Kn.pure fh4 rfl rfl (.some rfl rfl rfl) (Kn.ex_move fh4 (.tmp rfl)) fun fa5 fh5 => ?_
  clear fh4 fa4
  refine Kn.step fh5 rfl rfl (.some rfl rfl rfl) (Kn.ex_bin fh5 (.tmp rfl) .const) fun Ko hKo => ?_
  go_simp
  try go_bits
  refine hKo _ _ fun fa6 fh6 => ?_
  clear hKo Ko fh5 fa5
  refine Kn.pure fh6 rfl rfl .none (Kn.ex_pick fh6 (.tmp rfl) (.tmp rfl)) fun fa7 fh7 => ?_
  clear fh6 fa6
  refine wpList_nil ?_
  refine hK3 _ _ ?_
  clear hK3 K3
  replace fh7 := fh7.cut (.cons (t := 10) rfl (.cons (t := 4) rfl (.cons (t := 0) rfl (.cons (t := 1) rfl .nil))))
  refine Kn.no fh7 (.tmp rfl) ?_
  refine wp_skip ?_
  refine hK2 _ _ ?_
  clear hK2 K2
  replace fh7 := fh7.cut (.cons (t := 4) rfl (.cons (t := 0) rfl (.cons (t := 1) rfl .nil)))
  refine wp_seq_k fun K4 hK4 => ?_
  refine wp_seq_k fun K5 hK5 => ?_
  refine wp_region_lit ?_
  refine Kn.pure fh7 rfl rfl .none (Kn.ex_move fh7 (.tmp rfl)) fun fa8 fh8 => ?_
  clear fh7 fa7
  refine Kn.step fh8 rfl rfl .none (Kn.ex_bin fh8 (.tmp rfl) .const) fun Ko hKo => ?_
  go_simp
  try go_bits
  refine hKo _ _ fun fa9 fh9 => ?_
  clear hKo Ko fh8 fa8
  refine Kn.pure fh9 rfl rfl .none (Kn.ex_move fh9 (.tmp rfl)) fun fa10 fh10 => ?_
  clear fh9 fa9
  refine Kn.pure fh10 rfl rfl (.some rfl rfl rfl) (Kn.ex_move fh10 (.tmp rfl)) fun fa11 fh11 => ?_
  clear fh10 fa10
  refine Kn.pure fh11 rfl rfl (.some rfl rfl rfl) (Kn.ex_move fh11 (.tmp rfl)) fun fa12 fh12 => ?_
  clear fh11 fa11
  refine Kn.step fh12 rfl rfl (.some rfl rfl rfl) (Kn.ex_bin fh12 (.tmp rfl) (.tmp rfl)) fun Ko hKo => ?_
  go_simp
  try go_bits
  refine hKo _ _ fun fa13 fh13 => ?_
  clear hKo Ko fh12 fa12
  refine Kn.pure fh13 rfl rfl .none (Kn.ex_pick fh13 (.tmp rfl) (.tmp rfl)) fun fa14 fh14 => ?_
  clear fh13 fa13
  refine wpList_nil ?_
  refine hK5 _ _ ?_
  clear hK5 K5
  replace fh14 := fh14.cut (.cons (t := 17) rfl (.cons (t := 4) rfl .nil))
  refine Kn.yes fh14 (.tmp rfl) ?_
  replace fh14 := fh14.cut (.cons (t := 4) rfl .nil)
  refine wp_seq_k fun K6 hK6 => ?_
  refine wp_region_lit ?_
  refine Kn.pure fh14 rfl rfl .none (Kn.ex_assign fh14 .const) fun fa15 fh15 => ?_
  clear fh14 fa14
  refine wpList_nil ?_
  refine hK6 _ _ ?_
  clear hK6 K6
  refine wp_ret ?_
  refine Kn.then_ret ?_
  exact Kn.ret1 fh15 rfl rfl ⟨rfl, rfl⟩

set_option maxRecDepth 100000 in
set_option maxHeartbeats 2000000 in
theorem may_e (N v : Int) (w : World) (h1 : ¬ N < 0) (h2 : ¬ 4096 < N) (h3 : ¬ v < 0) (h4 : ¬ N ≤ v) :
    Calls Tryd.prog 8 #[.int .i64 N, .int .i64 v] w fun e w' => e = .returned (.int .i64 0) ∧ w = w' := by
  refine Kn.calls Tryd.func8 rfl Tryd.ntmps8 rfl (.cons (t := 0) rfl (.cons (t := 1) rfl .nil)) fun fa0 fh0 => ?_
  refine wp_seq_k fun K1 hK1 => ?_
  refine wp_region_lit ?_
  refine Kn.pure fh0 rfl rfl .none (Kn.ex_assign fh0 .const) fun fa1 fh1 => ?_
  clear fh0 fa0
  refine wpList_nil ?_
  refine hK1 _ _ ?_
  clear hK1 K1
  refine wp_seq_k fun K2 hK2 => ?_
  refine wp_seq_k fun K3 hK3 => ?_
  refine wp_region_lit ?_
  refine Kn.pure fh1 rfl rfl .none (Kn.ex_move fh1 (.tmp rfl)) fun fa2 fh2 => ?_
  clear fh1 fa1
  refine Kn.step fh2 rfl rfl .none (Kn.ex_bin fh2 (.tmp rfl) .const) fun Ko hKo => ?_
  go_simp
  try go_bits
  refine hKo _ _ fun fa3 fh3 => ?_
  clear hKo Ko fh2 fa2
  refine Kn.pure fh3 rfl rfl .none (Kn.ex_move fh3 (.tmp rfl)) fun fa4 fh4 => ?_
  clear fh3 fa3
  refine Kn.pure fh4 rfl rfl (.some rfl rfl rfl) (Kn.ex_move fh4 (.tmp rfl)) fun fa5 fh5 => ?_
  clear fh4 fa4
  refine Kn.step fh5 rfl rfl (.some rfl rfl rfl) (Kn.ex_bin fh5 (.tmp rfl) .const) fun Ko hKo => ?_
  go_simp
  try go_bits
  refine hKo _ _ fun fa6 fh6 => ?_
  clear hKo Ko fh5 fa5
  refine Kn.pure fh6 rfl rfl .none (Kn.ex_pick fh6 (.tmp rfl) (.tmp rfl)) fun fa7 fh7 => ?_
  clear fh6 fa6
  refine wpList_nil ?_
  refine hK3 _ _ ?_
  clear hK3 K3
  replace fh7 := fh7.cut (.cons (t := 10) rfl (.cons (t := 4) rfl (.cons (t := 0) rfl (.cons (t := 1) rfl .nil))))
  refine Kn.no fh7 (.tmp rfl) ?_
  refine wp_skip ?_
  refine hK2 _ _ ?_
  clear hK2 K2
  replace fh7 := fh7.cut (.cons (t := 4) rfl (.cons (t := 0) rfl (.cons (t := 1) rfl .nil)))
  refine wp_seq_k fun K4 hK4 => ?_
  refine wp_seq_k fun K5 hK5 => ?_
  refine wp_region_lit ?_
  refine Kn.pure fh7 rfl rfl .none (Kn.ex_move fh7 (.tmp rfl)) fun fa8 fh8 => ?_
  clear fh7 fa7
  refine Kn.step fh8 rfl rfl .none (Kn.ex_bin fh8 (.tmp rfl) .const) fun Ko hKo => ?_
  go_simp
  try go_bits
  refine hKo _ _ fun fa9 fh9 => ?_
  clear hKo Ko fh8 fa8
  refine Kn.pure fh9 rfl rfl .none (Kn.ex_move fh9 (.tmp rfl)) fun fa10 fh10 => ?_
  clear fh9 fa9
  refine Kn.pure fh10 rfl rfl (.some rfl rfl rfl) (Kn.ex_move fh10 (.tmp rfl)) fun fa11 fh11 => ?_
  clear fh10 fa10
  refine Kn.pure fh11 rfl rfl (.some rfl rfl rfl) (Kn.ex_move fh11 (.tmp rfl)) fun fa12 fh12 => ?_
  clear fh11 fa11
  refine Kn.step fh12 rfl rfl (.some rfl rfl rfl) (Kn.ex_bin fh12 (.tmp rfl) (.tmp rfl)) fun Ko hKo => ?_
  go_simp
  try go_bits
  refine hKo _ _ fun fa13 fh13 => ?_
  clear hKo Ko fh12 fa12
  refine Kn.pure fh13 rfl rfl .none (Kn.ex_pick fh13 (.tmp rfl) (.tmp rfl)) fun fa14 fh14 => ?_
  clear fh13 fa13
  refine wpList_nil ?_
  refine hK5 _ _ ?_
  clear hK5 K5
  replace fh14 := fh14.cut (.cons (t := 17) rfl (.cons (t := 4) rfl .nil))
  refine Kn.no fh14 (.tmp rfl) ?_
  refine wp_skip ?_
  refine hK4 _ _ ?_
  clear hK4 K4
  replace fh14 := fh14.cut (.cons (t := 4) rfl .nil)
  refine wp_seq_k fun K6 hK6 => ?_
  refine wp_region_lit ?_
  refine Kn.pure fh14 rfl rfl .none (Kn.ex_assign fh14 .const) fun fa15 fh15 => ?_
  clear fh14 fa14
  refine wpList_nil ?_
  refine hK6 _ _ ?_
  clear hK6 K6
  refine wp_ret ?_
  exact Kn.ret1 fh15 rfl rfl ⟨rfl, rfl⟩

/-- The error's number of a number of nodes, and of one of them. -/
def mayI (N v : Int) : Int := if N < 0 ∨ 4096 < N then 1 else if v < 0 ∨ N ≤ v then 2 else 0
theorem may_any (N v : Int) (w : World) : Calls Tryd.prog 8 #[.int .i64 N, .int .i64 v] w fun e w' => e = .returned (.int .i64 (mayI N v)) ∧ w = w' := by
  unfold mayI
  by_cases h1 : N < 0
  · rw [if_pos (.inl h1)]; exact may_a N v w h1
  by_cases h2 : 4096 < N
  · rw [if_pos (.inr h2)]; exact may_b N v w h1 h2
  rw [if_neg (by omega)]
  by_cases h3 : v < 0
  · rw [if_pos (.inl h3)]; exact may_c N v w h1 h2 h3
  by_cases h4 : N ≤ v
  · rw [if_pos (.inr h4)]; exact may_d N v w h1 h2 h3 h4
  rw [if_neg (by omega)]; exact may_e N v w h1 h2 h3 h4

set_option maxRecDepth 100000 in
set_option maxHeartbeats 2000000 in
theorem wrongT_any (N : Int) (A : Option Addr) (ca f : Nat) (l : List Int) (w : World) (hl : l.length ≤ 1000000) (hA : IIn w A l) (hG : ∀ i, i < f → ¬ badT N l i) (hB : f < l.length → badT N l f) :
    Calls Tryd.prog 11 #[.int .i64 N, .slice A l.length ca] w fun e w' => e = .returned (.int .i64 (if f < l.length then (f : Int) else -1)) ∧ ∃ q, w' = w.drewN q := by
  have HA := Lib.hid hA
  have HGd := Lib.hid hG
  have HBd := Lib.hid hB
  clear hA hG hB
  refine Kn.calls Tryd.func11 rfl Tryd.ntmps11 rfl (.cons (t := 0) rfl (.cons (t := 1) rfl .nil)) fun fa0 fh0 => ?_
  refine wp_seq_k fun K1 hK1 => ?_
  refine wp_region_lit ?_
  refine Kn.pure fh0 rfl rfl .none (Kn.ex_assign fh0 .const) fun fa1 fh1 => ?_
  clear fh0 fa0
  refine wpList_nil ?_
  refine hK1 _ _ ?_
  clear hK1 K1
  refine wp_seq_k fun K2 hK2 => ?_
  refine wp_seq_k fun K3 hK3 => ?_
  refine wp_region_lit ?_
  refine Kn.pure fh1 rfl rfl .none (Kn.ex_assign fh1 .const) fun fa2 fh2 => ?_
  clear fh1 fa1
  refine wpList_nil ?_
  refine hK3 _ _ ?_
  clear hK3 K3
  refine wp_block ?_
  refine Kn.loop (fun m fr u => ∃ (k q : Nat), Kn.Kn 42 [(5, .int .i64 (k : Int)), (0, .int .i64 N), (1, .slice A l.length ca)] fr ∧ k + m = l.length ∧ k ≤ f ∧ u = w.drewN q) l.length ⟨0, 0, fh2.cut (.turn (t := 5) rfl rfl (.cons (t := 0) rfl (.cons (t := 1) rfl .nil))), by omega, Nat.zero_le _, rfl⟩ ?_
  clear fh2 fa2
  intro m4 fa3 u hI Kl4 hKl4
  obtain ⟨k, q, fh3, hk, hkf, rfl⟩ := hI
  by_cases hlt : k < l.length
  · obtain ⟨ba, oa, rfl, -, ca1⟩ := HA.out k hlt
    obtain ⟨x, hx⟩ : ∃ x, nt l k = x := ⟨_, rfl⟩
    rw [hx] at ca1
    have HX : Hid (l.getD k 0 = x) := Lib.hid hx
    clear hx
    refine wp_seq_k fun K5 hK5 => ?_
    refine wp_seq_k fun K6 hK6 => ?_
    refine wp_region_lit ?_
    refine Kn.pure fh3 rfl rfl .none (Kn.ex_move fh3 (.tmp rfl)) fun fa4 fh4 => ?_
    clear fh3 fa3
    refine Kn.pure fh4 rfl rfl .none (Kn.ex_move fh4 (.tmp rfl)) fun fa5 fh5 => ?_
    clear fh4 fa4
    refine Kn.step fh5 rfl rfl .none (Kn.ex_len fh5 (.tmp rfl)) fun Ko hKo => ?_
    go_simp
    try go_bits
    refine hKo _ _ fun fa6 fh6 => ?_
    clear hKo Ko fh5 fa5
    refine Kn.step fh6 rfl rfl .none (Kn.ex_bin fh6 (.tmp rfl) (.tmp rfl)) fun Ko hKo => ?_
    go_simp
    try go_bits
    refine hKo _ _ fun fa7 fh7 => ?_
    clear hKo Ko fh6 fa6
    refine wpList_nil ?_
    refine hK6 _ _ ?_
    clear hK6 K6
    replace fh7 := fh7.cut (.cons (t := 9) rfl (.cons (t := 5) rfl (.cons (t := 0) rfl (.cons (t := 1) rfl .nil))))
    refine Kn.yes fh7 (.tmp rfl) ?_
    refine wp_skip ?_
    refine hK5 _ _ ?_
    clear hK5 K5
    replace fh7 := fh7.cut (.cons (t := 5) rfl (.cons (t := 0) rfl (.cons (t := 1) rfl .nil)))
    refine wp_seq_k fun K7 hK7 => ?_
    refine wp_block ?_
    by_cases e1 : x < 0
    · have HF : Hid (f = k) := Lib.hid (by rcases Nat.lt_or_ge k f with h | h; exact absurd (Or.inl (by rw [HX.out]; exact e1)) (HGd.out k h); omega)
      refine wp_seq_k fun K8 hK8 => ?_
      refine Kn.still (by kernel_rfl) (by kernel_rfl) ?_
      refine Kn.spure fh7 rfl rfl .none (Kn.ex_move fh7 (.tmp rfl)) fun fa8 fh8 => ?_
      clear fh7 fa7
      refine Kn.spure fh8 rfl rfl .none (Kn.ex_move fh8 (.tmp rfl)) fun fa9 fh9 => ?_
      clear fh8 fa8
      refine Kn.sstep fh9 rfl rfl .none (Kn.ex_indexAddr fh9 (.tmp rfl) (.tmp rfl)) fun Ko hKo => ?_
      go_simp
      try go_bits
      refine hKo _ fun fa10 fh10 => ?_
      clear hKo Ko fh9 fa9
      refine Kn.sstep fh10 rfl rfl .none (Kn.ex_load fh10 (.tmp rfl)) fun Ko hKo => ?_
      go_simp
      try go_bits
      refine hKo _ fun fa11 fh11 => ?_
      clear hKo Ko fh10 fa10
      refine Kn.sstep fh11 rfl rfl .none (Kn.ex_bin fh11 (.tmp rfl) .const) fun Ko hKo => ?_
      go_simp
      try go_bits
      refine hKo _ fun fa12 fh12 => ?_
      clear hKo Ko fh11 fa11
      refine Kn.spure fh12 rfl rfl .none (Kn.ex_move fh12 (.tmp rfl)) fun fa13 fh13 => ?_
      clear fh12 fa12
      refine Kn.sskip fh13 rfl rfl (.some rfl rfl rfl) fun fa14 fh14 => ?_
      clear fh13 fa13
      refine Kn.sskip fh14 rfl rfl (.some rfl rfl rfl) fun fa15 fh15 => ?_
      clear fh14 fa14
      refine Kn.sskip fh15 rfl rfl (.some rfl rfl rfl) fun fa16 fh16 => ?_
      clear fh15 fa15
      refine Kn.sskip fh16 rfl rfl (.some rfl rfl rfl) fun fa17 fh17 => ?_
      clear fh16 fa16
      refine Kn.sskip fh17 rfl rfl (.some rfl rfl rfl) fun fa18 fh18 => ?_
      clear fh17 fa17
      refine Kn.sskip fh18 rfl rfl (.some rfl rfl rfl) fun fa19 fh19 => ?_
      clear fh18 fa18
      refine Kn.spure fh19 rfl rfl .none (Kn.ex_pick fh19 (.tmp rfl) .const) fun fa20 fh20 => ?_
      clear fh19 fa19
      refine Kn.spure fh20 rfl rfl .none (Kn.ex_move fh20 (.tmp rfl)) fun fa21 fh21 => ?_
      clear fh20 fa20
      refine Kn.sskip fh21 rfl rfl (.some rfl rfl rfl) fun fa22 fh22 => ?_
      clear fh21 fa21
      refine Kn.sskip fh22 rfl rfl (.some rfl rfl rfl) fun fa23 fh23 => ?_
      clear fh22 fa22
      refine Kn.sskip fh23 rfl rfl (.some rfl rfl rfl) fun fa24 fh24 => ?_
      clear fh23 fa23
      refine Kn.sskip fh24 rfl rfl (.gone rfl rfl) fun fa25 fh25 => ?_
      clear fh24 fa24
      refine Kn.sskip fh25 rfl rfl (.gone rfl rfl) fun fa26 fh26 => ?_
      clear fh25 fa25
      refine Kn.sskip fh26 rfl rfl (.gone rfl rfl) fun fa27 fh27 => ?_
      clear fh26 fa26
      refine Kn.sskip fh27 rfl rfl (.gone rfl rfl) fun fa28 fh28 => ?_
      clear fh27 fa27
      refine Kn.sskip fh28 rfl rfl (.gone rfl rfl) fun fa29 fh29 => ?_
      clear fh28 fa28
      refine Kn.sskip fh29 rfl rfl (.gone rfl rfl) fun fa30 fh30 => ?_
      clear fh29 fa29
      refine Kn.sskip fh30 rfl rfl (.gone rfl rfl) fun fa31 fh31 => ?_
      clear fh30 fa30
      refine Kn.sskip fh31 rfl rfl (.gone rfl rfl) fun fa32 fh32 => ?_
      clear fh31 fa31
      refine Kn.sskip fh32 rfl rfl (.gone rfl rfl) fun fa33 fh33 => ?_
      clear fh32 fa32
      refine Kn.sskip fh33 rfl rfl (.gone rfl rfl) fun fa34 fh34 => ?_
      clear fh33 fa33
      refine Kn.sskip fh34 rfl rfl (.some rfl rfl rfl) fun fa35 fh35 => ?_
      clear fh34 fa34
      refine Kn.spure fh35 rfl rfl .none (Kn.ex_pick fh35 (.tmp rfl) .const) fun fa36 fh36 => ?_
      clear fh35 fa35
      refine wpStill_nil ?_
      refine hK8 _ _ ?_
      clear hK8 K8
      replace fh36 := fh36.cut (.cons (t := 40) rfl (.cons (t := 5) rfl (.cons (t := 0) rfl (.cons (t := 1) rfl .nil))))
      refine Kn.yes fh36 (.tmp rfl) ?_
      replace fh36 := fh36.cut (.cons (t := 5) rfl (.cons (t := 0) rfl (.cons (t := 1) rfl .nil)))
      refine wp_seq_k fun K9 hK9 => ?_
      refine wp_region_lit ?_
      refine Kn.pure fh36 rfl rfl .none (Kn.ex_move fh36 (.tmp rfl)) fun fa37 fh37 => ?_
      clear fh36 fa36
      refine Kn.pure fh37 rfl rfl .none (Kn.ex_assign fh37 (.tmp rfl)) fun fa38 fh38 => ?_
      clear fh37 fa37
      refine wpList_nil ?_
      refine hK9 _ _ ?_
      clear hK9 K9
      replace fh38 := fh38.cut (.cons (t := 4) rfl (.cons (t := 5) rfl (.cons (t := 0) rfl (.cons (t := 1) rfl .nil))))
      refine wp_ret ?_
      refine Kn.block_ret ?_
      refine Kn.then_ret ?_
      refine Kn.then_ret ?_
      refine Kn.block_ret ?_
      refine Kn.then_ret ?_
      exact Kn.ret1 fh38 rfl rfl ⟨by rw [HF.out, if_pos hlt], q + 1, rfl⟩
    by_cases e2 : N ≤ x
    · have HF : Hid (f = k) := Lib.hid (by rcases Nat.lt_or_ge k f with h | h; exact absurd (Or.inr (.inl (by rw [HX.out]; exact e2))) (HGd.out k h); omega)
      refine wp_seq_k fun K8 hK8 => ?_
      refine Kn.still (by kernel_rfl) (by kernel_rfl) ?_
      refine Kn.spure fh7 rfl rfl .none (Kn.ex_move fh7 (.tmp rfl)) fun fa8 fh8 => ?_
      clear fh7 fa7
      refine Kn.spure fh8 rfl rfl .none (Kn.ex_move fh8 (.tmp rfl)) fun fa9 fh9 => ?_
      clear fh8 fa8
      refine Kn.sstep fh9 rfl rfl .none (Kn.ex_indexAddr fh9 (.tmp rfl) (.tmp rfl)) fun Ko hKo => ?_
      go_simp
      try go_bits
      refine hKo _ fun fa10 fh10 => ?_
      clear hKo Ko fh9 fa9
      refine Kn.sstep fh10 rfl rfl .none (Kn.ex_load fh10 (.tmp rfl)) fun Ko hKo => ?_
      go_simp
      try go_bits
      refine hKo _ fun fa11 fh11 => ?_
      clear hKo Ko fh10 fa10
      refine Kn.sstep fh11 rfl rfl .none (Kn.ex_bin fh11 (.tmp rfl) .const) fun Ko hKo => ?_
      go_simp
      try go_bits
      refine hKo _ fun fa12 fh12 => ?_
      clear hKo Ko fh11 fa11
      refine Kn.spure fh12 rfl rfl .none (Kn.ex_move fh12 (.tmp rfl)) fun fa13 fh13 => ?_
      clear fh12 fa12
      refine Kn.spure fh13 rfl rfl (.some rfl rfl rfl) (Kn.ex_move fh13 (.tmp rfl)) fun fa14 fh14 => ?_
      clear fh13 fa13
      refine Kn.spure fh14 rfl rfl (.some rfl rfl rfl) (Kn.ex_move fh14 (.tmp rfl)) fun fa15 fh15 => ?_
      clear fh14 fa14
      refine Kn.sstep fh15 rfl rfl (.some rfl rfl rfl) (Kn.ex_indexAddr fh15 (.tmp rfl) (.tmp rfl)) fun Ko hKo => ?_
      go_simp
      try go_bits
      refine hKo _ fun fa16 fh16 => ?_
      clear hKo Ko fh15 fa15
      refine Kn.sstep fh16 rfl rfl (.some rfl rfl rfl) (Kn.ex_load fh16 (.tmp rfl)) fun Ko hKo => ?_
      go_simp
      try go_bits
      refine hKo _ fun fa17 fh17 => ?_
      clear hKo Ko fh16 fa16
      refine Kn.spure fh17 rfl rfl (.some rfl rfl rfl) (Kn.ex_move fh17 (.tmp rfl)) fun fa18 fh18 => ?_
      clear fh17 fa17
      refine Kn.sstep fh18 rfl rfl (.some rfl rfl rfl) (Kn.ex_bin fh18 (.tmp rfl) (.tmp rfl)) fun Ko hKo => ?_
      go_simp
      try go_bits
      refine hKo _ fun fa19 fh19 => ?_
      clear hKo Ko fh18 fa18
      refine Kn.spure fh19 rfl rfl .none (Kn.ex_pick fh19 (.tmp rfl) (.tmp rfl)) fun fa20 fh20 => ?_
      clear fh19 fa19
      refine Kn.spure fh20 rfl rfl .none (Kn.ex_move fh20 (.tmp rfl)) fun fa21 fh21 => ?_
      clear fh20 fa20
      refine Kn.sskip fh21 rfl rfl (.some rfl rfl rfl) fun fa22 fh22 => ?_
      clear fh21 fa21
      refine Kn.sskip fh22 rfl rfl (.some rfl rfl rfl) fun fa23 fh23 => ?_
      clear fh22 fa22
      refine Kn.sskip fh23 rfl rfl (.some rfl rfl rfl) fun fa24 fh24 => ?_
      clear fh23 fa23
      refine Kn.sskip fh24 rfl rfl (.gone rfl rfl) fun fa25 fh25 => ?_
      clear fh24 fa24
      refine Kn.sskip fh25 rfl rfl (.gone rfl rfl) fun fa26 fh26 => ?_
      clear fh25 fa25
      refine Kn.sskip fh26 rfl rfl (.gone rfl rfl) fun fa27 fh27 => ?_
      clear fh26 fa26
      refine Kn.sskip fh27 rfl rfl (.gone rfl rfl) fun fa28 fh28 => ?_
      clear fh27 fa27
      refine Kn.sskip fh28 rfl rfl (.gone rfl rfl) fun fa29 fh29 => ?_
      clear fh28 fa28
      refine Kn.sskip fh29 rfl rfl (.gone rfl rfl) fun fa30 fh30 => ?_
      clear fh29 fa29
      refine Kn.sskip fh30 rfl rfl (.gone rfl rfl) fun fa31 fh31 => ?_
      clear fh30 fa30
      refine Kn.sskip fh31 rfl rfl (.gone rfl rfl) fun fa32 fh32 => ?_
      clear fh31 fa31
      refine Kn.sskip fh32 rfl rfl (.gone rfl rfl) fun fa33 fh33 => ?_
      clear fh32 fa32
      refine Kn.sskip fh33 rfl rfl (.gone rfl rfl) fun fa34 fh34 => ?_
      clear fh33 fa33
      refine Kn.sskip fh34 rfl rfl (.some rfl rfl rfl) fun fa35 fh35 => ?_
      clear fh34 fa34
      refine Kn.spure fh35 rfl rfl .none (Kn.ex_pick fh35 (.tmp rfl) .const) fun fa36 fh36 => ?_
      clear fh35 fa35
      refine wpStill_nil ?_
      refine hK8 _ _ ?_
      clear hK8 K8
      replace fh36 := fh36.cut (.cons (t := 40) rfl (.cons (t := 5) rfl (.cons (t := 0) rfl (.cons (t := 1) rfl .nil))))
      refine Kn.yes fh36 (.tmp rfl) ?_
      replace fh36 := fh36.cut (.cons (t := 5) rfl (.cons (t := 0) rfl (.cons (t := 1) rfl .nil)))
      refine wp_seq_k fun K9 hK9 => ?_
      refine wp_region_lit ?_
      refine Kn.pure fh36 rfl rfl .none (Kn.ex_move fh36 (.tmp rfl)) fun fa37 fh37 => ?_
      clear fh36 fa36
      refine Kn.pure fh37 rfl rfl .none (Kn.ex_assign fh37 (.tmp rfl)) fun fa38 fh38 => ?_
      clear fh37 fa37
      refine wpList_nil ?_
      refine hK9 _ _ ?_
      clear hK9 K9
      replace fh38 := fh38.cut (.cons (t := 4) rfl (.cons (t := 5) rfl (.cons (t := 0) rfl (.cons (t := 1) rfl .nil))))
      refine wp_ret ?_
      refine Kn.block_ret ?_
      refine Kn.then_ret ?_
      refine Kn.then_ret ?_
      refine Kn.block_ret ?_
      refine Kn.then_ret ?_
      exact Kn.ret1 fh38 rfl rfl ⟨by rw [HF.out, if_pos hlt], q + 1, rfl⟩
    by_cases hk0 : k = 0
    · have hki : ¬ (0 : Int) < (k : Int) := by omega
      have hki2 : ¬ 0 < k := by omega
      clear hk0
      have hkf2 : k + 1 ≤ f := by
        rcases Nat.lt_or_ge k f with h | h
        · exact h
        · have e : f = k := by omega
          subst e
          exfalso
          rcases HBd.out hlt with h1 | h1 | h1
          · rw [HX.out] at h1; omega
          · rw [HX.out] at h1; omega
          · omega
      refine wp_seq_k fun K8 hK8 => ?_
      refine Kn.still (by kernel_rfl) (by kernel_rfl) ?_
      refine Kn.spure fh7 rfl rfl .none (Kn.ex_move fh7 (.tmp rfl)) fun fa8 fh8 => ?_
      clear fh7 fa7
      refine Kn.spure fh8 rfl rfl .none (Kn.ex_move fh8 (.tmp rfl)) fun fa9 fh9 => ?_
      clear fh8 fa8
      refine Kn.sstep fh9 rfl rfl .none (Kn.ex_indexAddr fh9 (.tmp rfl) (.tmp rfl)) fun Ko hKo => ?_
      go_simp
      try go_bits
      refine hKo _ fun fa10 fh10 => ?_
      clear hKo Ko fh9 fa9
      refine Kn.sstep fh10 rfl rfl .none (Kn.ex_load fh10 (.tmp rfl)) fun Ko hKo => ?_
      go_simp
      try go_bits
      refine hKo _ fun fa11 fh11 => ?_
      clear hKo Ko fh10 fa10
      refine Kn.sstep fh11 rfl rfl .none (Kn.ex_bin fh11 (.tmp rfl) .const) fun Ko hKo => ?_
      go_simp
      try go_bits
      refine hKo _ fun fa12 fh12 => ?_
      clear hKo Ko fh11 fa11
      refine Kn.spure fh12 rfl rfl .none (Kn.ex_move fh12 (.tmp rfl)) fun fa13 fh13 => ?_
      clear fh12 fa12
      refine Kn.spure fh13 rfl rfl (.some rfl rfl rfl) (Kn.ex_move fh13 (.tmp rfl)) fun fa14 fh14 => ?_
      clear fh13 fa13
      refine Kn.spure fh14 rfl rfl (.some rfl rfl rfl) (Kn.ex_move fh14 (.tmp rfl)) fun fa15 fh15 => ?_
      clear fh14 fa14
      refine Kn.sstep fh15 rfl rfl (.some rfl rfl rfl) (Kn.ex_indexAddr fh15 (.tmp rfl) (.tmp rfl)) fun Ko hKo => ?_
      go_simp
      try go_bits
      refine hKo _ fun fa16 fh16 => ?_
      clear hKo Ko fh15 fa15
      refine Kn.sstep fh16 rfl rfl (.some rfl rfl rfl) (Kn.ex_load fh16 (.tmp rfl)) fun Ko hKo => ?_
      go_simp
      try go_bits
      refine hKo _ fun fa17 fh17 => ?_
      clear hKo Ko fh16 fa16
      refine Kn.spure fh17 rfl rfl (.some rfl rfl rfl) (Kn.ex_move fh17 (.tmp rfl)) fun fa18 fh18 => ?_
      clear fh17 fa17
      refine Kn.sstep fh18 rfl rfl (.some rfl rfl rfl) (Kn.ex_bin fh18 (.tmp rfl) (.tmp rfl)) fun Ko hKo => ?_
      go_simp
      try go_bits
      refine hKo _ fun fa19 fh19 => ?_
      clear hKo Ko fh18 fa18
      refine Kn.spure fh19 rfl rfl .none (Kn.ex_pick fh19 (.tmp rfl) (.tmp rfl)) fun fa20 fh20 => ?_
      clear fh19 fa19
      refine Kn.spure fh20 rfl rfl .none (Kn.ex_move fh20 (.tmp rfl)) fun fa21 fh21 => ?_
      clear fh20 fa20
      refine Kn.spure fh21 rfl rfl (.some rfl rfl rfl) (Kn.ex_move fh21 (.tmp rfl)) fun fa22 fh22 => ?_
      clear fh21 fa21
      refine Kn.sstep fh22 rfl rfl (.some rfl rfl rfl) (Kn.ex_bin fh22 (.tmp rfl) .const) fun Ko hKo => ?_
      go_simp
      try go_bits
      refine hKo _ fun fa23 fh23 => ?_
      clear hKo Ko fh22 fa22
      refine Kn.spure fh23 rfl rfl (.some rfl rfl rfl) (Kn.ex_move fh23 (.tmp rfl)) fun fa24 fh24 => ?_
      clear fh23 fa23
      refine Kn.sskip fh24 rfl rfl (.some rfl rfl rfl) fun fa25 fh25 => ?_
      clear fh24 fa24
      refine Kn.sskip fh25 rfl rfl (.some rfl rfl rfl) fun fa26 fh26 => ?_
      clear fh25 fa25
      refine Kn.sskip fh26 rfl rfl (.some rfl rfl rfl) fun fa27 fh27 => ?_
      clear fh26 fa26
      refine Kn.sskip fh27 rfl rfl (.some rfl rfl rfl) fun fa28 fh28 => ?_
      clear fh27 fa27
      refine Kn.sskip fh28 rfl rfl (.some rfl rfl rfl) fun fa29 fh29 => ?_
      clear fh28 fa28
      refine Kn.sskip fh29 rfl rfl (.some rfl rfl rfl) fun fa30 fh30 => ?_
      clear fh29 fa29
      refine Kn.sskip fh30 rfl rfl (.some rfl rfl rfl) fun fa31 fh31 => ?_
      clear fh30 fa30
      refine Kn.sskip fh31 rfl rfl (.some rfl rfl rfl) fun fa32 fh32 => ?_
      clear fh31 fa31
      refine Kn.sskip fh32 rfl rfl (.some rfl rfl rfl) fun fa33 fh33 => ?_
      clear fh32 fa32
      refine Kn.sskip fh33 rfl rfl (.some rfl rfl rfl) fun fa34 fh34 => ?_
      clear fh33 fa33
      refine Kn.spure fh34 rfl rfl (.some rfl rfl rfl) (Kn.ex_pick fh34 (.tmp rfl) .const) fun fa35 fh35 => ?_
      clear fh34 fa34
      refine Kn.spure fh35 rfl rfl .none (Kn.ex_pick fh35 (.tmp rfl) (.tmp rfl)) fun fa36 fh36 => ?_
      clear fh35 fa35
      refine wpStill_nil ?_
      refine hK8 _ _ ?_
      clear hK8 K8
      replace fh36 := fh36.cut (.cons (t := 40) rfl (.cons (t := 5) rfl (.cons (t := 0) rfl (.cons (t := 1) rfl .nil))))
      refine Kn.no fh36 (.tmp rfl) ?_
      refine wp_skip ?_
      refine Kn.block_normal ?_
      refine hK7 _ _ ?_
      clear hK7 K7
      replace fh36 := fh36.cut (.cons (t := 5) rfl (.cons (t := 0) rfl (.cons (t := 1) rfl .nil)))
      refine wp_region_lit ?_
      refine Kn.pure fh36 rfl rfl .none (Kn.ex_move fh36 (.tmp rfl)) fun fa37 fh37 => ?_
      clear fh36 fa36
      refine Kn.step fh37 rfl rfl .none (Kn.ex_bin fh37 (.tmp rfl) .const) fun Ko hKo => ?_
      go_simp
      try go_bits
      refine hKo _ _ fun fa38 fh38 => ?_
      clear hKo Ko fh37 fa37
      refine Kn.pure fh38 rfl rfl .none (Kn.ex_assign fh38 (.tmp rfl)) fun fa39 fh39 => ?_
      clear fh38 fa38
      refine wpList_nil ?_
      replace fh39 := fh39.cut (.cons (t := 5) rfl (.cons (t := 0) rfl (.cons (t := 1) rfl .nil)))
      exact hKl4 (m4 - 1) _ _ (by omega) ⟨k + 1, q + 1, fh39.cut (.turn (t := 5) rfl (by go_num) (.cons (t := 0) rfl (.cons (t := 1) rfl .nil))), by omega, hkf2, rfl⟩
    obtain ⟨j, hj⟩ : ∃ j, k = j + 1 := ⟨k - 1, by omega⟩
    have hki : (0 : Int) < (k : Int) := by omega
    have hki2 : 0 < k := by omega
    have rj : (k : Int) - 1 = (j : Int) := by omega
    have hjl : j < l.length := by omega
    have cb1 := IIn.cells HA.out hjl
    obtain ⟨y, hy⟩ : ∃ y, nt l j = y := ⟨_, rfl⟩
    rw [hy] at cb1
    have HY : Hid (l.getD (k - 1) 0 = y) := Lib.hid (by rw [hj]; exact hy)
    have HJ := Lib.hid hj
    clear hy hj
    by_cases e3 : x ≤ y
    · have HF : Hid (f = k) := Lib.hid (by rcases Nat.lt_or_ge k f with h | h; exact absurd (Or.inr (.inr ⟨by omega, by rw [HX.out, HY.out]; exact e3⟩)) (HGd.out k h); omega)
      refine wp_seq_k fun K8 hK8 => ?_
      refine Kn.still (by kernel_rfl) (by kernel_rfl) ?_
      refine Kn.spure fh7 rfl rfl .none (Kn.ex_move fh7 (.tmp rfl)) fun fa8 fh8 => ?_
      clear fh7 fa7
      refine Kn.spure fh8 rfl rfl .none (Kn.ex_move fh8 (.tmp rfl)) fun fa9 fh9 => ?_
      clear fh8 fa8
      refine Kn.sstep fh9 rfl rfl .none (Kn.ex_indexAddr fh9 (.tmp rfl) (.tmp rfl)) fun Ko hKo => ?_
      go_simp
      try go_bits
      refine hKo _ fun fa10 fh10 => ?_
      clear hKo Ko fh9 fa9
      refine Kn.sstep fh10 rfl rfl .none (Kn.ex_load fh10 (.tmp rfl)) fun Ko hKo => ?_
      go_simp
      try go_bits
      refine hKo _ fun fa11 fh11 => ?_
      clear hKo Ko fh10 fa10
      refine Kn.sstep fh11 rfl rfl .none (Kn.ex_bin fh11 (.tmp rfl) .const) fun Ko hKo => ?_
      go_simp
      try go_bits
      refine hKo _ fun fa12 fh12 => ?_
      clear hKo Ko fh11 fa11
      refine Kn.spure fh12 rfl rfl .none (Kn.ex_move fh12 (.tmp rfl)) fun fa13 fh13 => ?_
      clear fh12 fa12
      refine Kn.spure fh13 rfl rfl (.some rfl rfl rfl) (Kn.ex_move fh13 (.tmp rfl)) fun fa14 fh14 => ?_
      clear fh13 fa13
      refine Kn.spure fh14 rfl rfl (.some rfl rfl rfl) (Kn.ex_move fh14 (.tmp rfl)) fun fa15 fh15 => ?_
      clear fh14 fa14
      refine Kn.sstep fh15 rfl rfl (.some rfl rfl rfl) (Kn.ex_indexAddr fh15 (.tmp rfl) (.tmp rfl)) fun Ko hKo => ?_
      go_simp
      try go_bits
      refine hKo _ fun fa16 fh16 => ?_
      clear hKo Ko fh15 fa15
      refine Kn.sstep fh16 rfl rfl (.some rfl rfl rfl) (Kn.ex_load fh16 (.tmp rfl)) fun Ko hKo => ?_
      go_simp
      try go_bits
      refine hKo _ fun fa17 fh17 => ?_
      clear hKo Ko fh16 fa16
      refine Kn.spure fh17 rfl rfl (.some rfl rfl rfl) (Kn.ex_move fh17 (.tmp rfl)) fun fa18 fh18 => ?_
      clear fh17 fa17
      refine Kn.sstep fh18 rfl rfl (.some rfl rfl rfl) (Kn.ex_bin fh18 (.tmp rfl) (.tmp rfl)) fun Ko hKo => ?_
      go_simp
      try go_bits
      refine hKo _ fun fa19 fh19 => ?_
      clear hKo Ko fh18 fa18
      refine Kn.spure fh19 rfl rfl .none (Kn.ex_pick fh19 (.tmp rfl) (.tmp rfl)) fun fa20 fh20 => ?_
      clear fh19 fa19
      refine Kn.spure fh20 rfl rfl .none (Kn.ex_move fh20 (.tmp rfl)) fun fa21 fh21 => ?_
      clear fh20 fa20
      refine Kn.spure fh21 rfl rfl (.some rfl rfl rfl) (Kn.ex_move fh21 (.tmp rfl)) fun fa22 fh22 => ?_
      clear fh21 fa21
      refine Kn.sstep fh22 rfl rfl (.some rfl rfl rfl) (Kn.ex_bin fh22 (.tmp rfl) .const) fun Ko hKo => ?_
      go_simp
      try go_bits
      refine hKo _ fun fa23 fh23 => ?_
      clear hKo Ko fh22 fa22
      refine Kn.spure fh23 rfl rfl (.some rfl rfl rfl) (Kn.ex_move fh23 (.tmp rfl)) fun fa24 fh24 => ?_
      clear fh23 fa23
      refine Kn.spure fh24 rfl rfl (.some rfl rfl rfl) (Kn.ex_move fh24 (.tmp rfl)) fun fa25 fh25 => ?_
      clear fh24 fa24
      refine Kn.spure fh25 rfl rfl (.some rfl rfl rfl) (Kn.ex_move fh25 (.tmp rfl)) fun fa26 fh26 => ?_
      clear fh25 fa25
      refine Kn.sstep fh26 rfl rfl (.some rfl rfl rfl) (Kn.ex_indexAddr fh26 (.tmp rfl) (.tmp rfl)) fun Ko hKo => ?_
      go_simp
      try go_bits
      refine hKo _ fun fa27 fh27 => ?_
      clear hKo Ko fh26 fa26
      refine Kn.sstep fh27 rfl rfl (.some rfl rfl rfl) (Kn.ex_load fh27 (.tmp rfl)) fun Ko hKo => ?_
      go_simp
      try go_bits
      refine hKo _ fun fa28 fh28 => ?_
      clear hKo Ko fh27 fa27
      refine Kn.spure fh28 rfl rfl (.some rfl rfl rfl) (Kn.ex_move fh28 (.tmp rfl)) fun fa29 fh29 => ?_
      clear fh28 fa28
      refine Kn.spure fh29 rfl rfl (.some rfl rfl rfl) (Kn.ex_move fh29 (.tmp rfl)) fun fa30 fh30 => ?_
      clear fh29 fa29
      refine Kn.sstep fh30 rfl rfl (.some rfl rfl rfl) (Kn.ex_bin fh30 (.tmp rfl) .const) fun Ko hKo => ?_
      go_simp
      try go_bits
      try simp only [rj]
      refine hKo _ fun fa31 fh31 => ?_
      clear hKo Ko fh30 fa30
      refine Kn.sstep fh31 rfl rfl (.some rfl rfl rfl) (Kn.ex_indexAddr fh31 (.tmp rfl) (.tmp rfl)) fun Ko hKo => ?_
      go_simp
      try go_bits
      refine hKo _ fun fa32 fh32 => ?_
      clear hKo Ko fh31 fa31
      refine Kn.sstep fh32 rfl rfl (.some rfl rfl rfl) (Kn.ex_load fh32 (.tmp rfl)) fun Ko hKo => ?_
      go_simp
      try go_bits
      refine hKo _ fun fa33 fh33 => ?_
      clear hKo Ko fh32 fa32
      refine Kn.sstep fh33 rfl rfl (.some rfl rfl rfl) (Kn.ex_bin fh33 (.tmp rfl) (.tmp rfl)) fun Ko hKo => ?_
      go_simp
      try go_bits
      refine hKo _ fun fa34 fh34 => ?_
      clear hKo Ko fh33 fa33
      refine Kn.spure fh34 rfl rfl (.some rfl rfl rfl) (Kn.ex_pick fh34 (.tmp rfl) (.tmp rfl)) fun fa35 fh35 => ?_
      clear fh34 fa34
      refine Kn.spure fh35 rfl rfl .none (Kn.ex_pick fh35 (.tmp rfl) (.tmp rfl)) fun fa36 fh36 => ?_
      clear fh35 fa35
      refine wpStill_nil ?_
      refine hK8 _ _ ?_
      clear hK8 K8
      replace fh36 := fh36.cut (.cons (t := 40) rfl (.cons (t := 5) rfl (.cons (t := 0) rfl (.cons (t := 1) rfl .nil))))
      refine Kn.yes fh36 (.tmp rfl) ?_
      replace fh36 := fh36.cut (.cons (t := 5) rfl (.cons (t := 0) rfl (.cons (t := 1) rfl .nil)))
      refine wp_seq_k fun K9 hK9 => ?_
      refine wp_region_lit ?_
      refine Kn.pure fh36 rfl rfl .none (Kn.ex_move fh36 (.tmp rfl)) fun fa37 fh37 => ?_
      clear fh36 fa36
      refine Kn.pure fh37 rfl rfl .none (Kn.ex_assign fh37 (.tmp rfl)) fun fa38 fh38 => ?_
      clear fh37 fa37
      refine wpList_nil ?_
      refine hK9 _ _ ?_
      clear hK9 K9
      replace fh38 := fh38.cut (.cons (t := 4) rfl (.cons (t := 5) rfl (.cons (t := 0) rfl (.cons (t := 1) rfl .nil))))
      refine wp_ret ?_
      refine Kn.block_ret ?_
      refine Kn.then_ret ?_
      refine Kn.then_ret ?_
      refine Kn.block_ret ?_
      refine Kn.then_ret ?_
      exact Kn.ret1 fh38 rfl rfl ⟨by rw [HF.out, if_pos hlt], q + 1, rfl⟩
    have hkf2 : k + 1 ≤ f := by
      rcases Nat.lt_or_ge k f with h | h
      · exact h
      · have e : f = k := by omega
        subst e
        exfalso
        rcases HBd.out hlt with h1 | h1 | h1
        · rw [HX.out] at h1; omega
        · rw [HX.out] at h1; omega
        · rw [HX.out, HY.out] at h1; omega
    refine wp_seq_k fun K8 hK8 => ?_
    refine Kn.still (by kernel_rfl) (by kernel_rfl) ?_
    refine Kn.spure fh7 rfl rfl .none (Kn.ex_move fh7 (.tmp rfl)) fun fa8 fh8 => ?_
    clear fh7 fa7
    refine Kn.spure fh8 rfl rfl .none (Kn.ex_move fh8 (.tmp rfl)) fun fa9 fh9 => ?_
    clear fh8 fa8
    refine Kn.sstep fh9 rfl rfl .none (Kn.ex_indexAddr fh9 (.tmp rfl) (.tmp rfl)) fun Ko hKo => ?_
    go_simp
    try go_bits
    refine hKo _ fun fa10 fh10 => ?_
    clear hKo Ko fh9 fa9
    refine Kn.sstep fh10 rfl rfl .none (Kn.ex_load fh10 (.tmp rfl)) fun Ko hKo => ?_
    go_simp
    try go_bits
    refine hKo _ fun fa11 fh11 => ?_
    clear hKo Ko fh10 fa10
    refine Kn.sstep fh11 rfl rfl .none (Kn.ex_bin fh11 (.tmp rfl) .const) fun Ko hKo => ?_
    go_simp
    try go_bits
    refine hKo _ fun fa12 fh12 => ?_
    clear hKo Ko fh11 fa11
    refine Kn.spure fh12 rfl rfl .none (Kn.ex_move fh12 (.tmp rfl)) fun fa13 fh13 => ?_
    clear fh12 fa12
    refine Kn.spure fh13 rfl rfl (.some rfl rfl rfl) (Kn.ex_move fh13 (.tmp rfl)) fun fa14 fh14 => ?_
    clear fh13 fa13
    refine Kn.spure fh14 rfl rfl (.some rfl rfl rfl) (Kn.ex_move fh14 (.tmp rfl)) fun fa15 fh15 => ?_
    clear fh14 fa14
    refine Kn.sstep fh15 rfl rfl (.some rfl rfl rfl) (Kn.ex_indexAddr fh15 (.tmp rfl) (.tmp rfl)) fun Ko hKo => ?_
    go_simp
    try go_bits
    refine hKo _ fun fa16 fh16 => ?_
    clear hKo Ko fh15 fa15
    refine Kn.sstep fh16 rfl rfl (.some rfl rfl rfl) (Kn.ex_load fh16 (.tmp rfl)) fun Ko hKo => ?_
    go_simp
    try go_bits
    refine hKo _ fun fa17 fh17 => ?_
    clear hKo Ko fh16 fa16
    refine Kn.spure fh17 rfl rfl (.some rfl rfl rfl) (Kn.ex_move fh17 (.tmp rfl)) fun fa18 fh18 => ?_
    clear fh17 fa17
    refine Kn.sstep fh18 rfl rfl (.some rfl rfl rfl) (Kn.ex_bin fh18 (.tmp rfl) (.tmp rfl)) fun Ko hKo => ?_
    go_simp
    try go_bits
    refine hKo _ fun fa19 fh19 => ?_
    clear hKo Ko fh18 fa18
    refine Kn.spure fh19 rfl rfl .none (Kn.ex_pick fh19 (.tmp rfl) (.tmp rfl)) fun fa20 fh20 => ?_
    clear fh19 fa19
    refine Kn.spure fh20 rfl rfl .none (Kn.ex_move fh20 (.tmp rfl)) fun fa21 fh21 => ?_
    clear fh20 fa20
    refine Kn.spure fh21 rfl rfl (.some rfl rfl rfl) (Kn.ex_move fh21 (.tmp rfl)) fun fa22 fh22 => ?_
    clear fh21 fa21
    refine Kn.sstep fh22 rfl rfl (.some rfl rfl rfl) (Kn.ex_bin fh22 (.tmp rfl) .const) fun Ko hKo => ?_
    go_simp
    try go_bits
    refine hKo _ fun fa23 fh23 => ?_
    clear hKo Ko fh22 fa22
    refine Kn.spure fh23 rfl rfl (.some rfl rfl rfl) (Kn.ex_move fh23 (.tmp rfl)) fun fa24 fh24 => ?_
    clear fh23 fa23
    refine Kn.spure fh24 rfl rfl (.some rfl rfl rfl) (Kn.ex_move fh24 (.tmp rfl)) fun fa25 fh25 => ?_
    clear fh24 fa24
    refine Kn.spure fh25 rfl rfl (.some rfl rfl rfl) (Kn.ex_move fh25 (.tmp rfl)) fun fa26 fh26 => ?_
    clear fh25 fa25
    refine Kn.sstep fh26 rfl rfl (.some rfl rfl rfl) (Kn.ex_indexAddr fh26 (.tmp rfl) (.tmp rfl)) fun Ko hKo => ?_
    go_simp
    try go_bits
    refine hKo _ fun fa27 fh27 => ?_
    clear hKo Ko fh26 fa26
    refine Kn.sstep fh27 rfl rfl (.some rfl rfl rfl) (Kn.ex_load fh27 (.tmp rfl)) fun Ko hKo => ?_
    go_simp
    try go_bits
    refine hKo _ fun fa28 fh28 => ?_
    clear hKo Ko fh27 fa27
    refine Kn.spure fh28 rfl rfl (.some rfl rfl rfl) (Kn.ex_move fh28 (.tmp rfl)) fun fa29 fh29 => ?_
    clear fh28 fa28
    refine Kn.spure fh29 rfl rfl (.some rfl rfl rfl) (Kn.ex_move fh29 (.tmp rfl)) fun fa30 fh30 => ?_
    clear fh29 fa29
    refine Kn.sstep fh30 rfl rfl (.some rfl rfl rfl) (Kn.ex_bin fh30 (.tmp rfl) .const) fun Ko hKo => ?_
    go_simp
    try go_bits
    try simp only [rj]
    refine hKo _ fun fa31 fh31 => ?_
    clear hKo Ko fh30 fa30
    refine Kn.sstep fh31 rfl rfl (.some rfl rfl rfl) (Kn.ex_indexAddr fh31 (.tmp rfl) (.tmp rfl)) fun Ko hKo => ?_
    go_simp
    try go_bits
    refine hKo _ fun fa32 fh32 => ?_
    clear hKo Ko fh31 fa31
    refine Kn.sstep fh32 rfl rfl (.some rfl rfl rfl) (Kn.ex_load fh32 (.tmp rfl)) fun Ko hKo => ?_
    go_simp
    try go_bits
    refine hKo _ fun fa33 fh33 => ?_
    clear hKo Ko fh32 fa32
    refine Kn.sstep fh33 rfl rfl (.some rfl rfl rfl) (Kn.ex_bin fh33 (.tmp rfl) (.tmp rfl)) fun Ko hKo => ?_
    go_simp
    try go_bits
    refine hKo _ fun fa34 fh34 => ?_
    clear hKo Ko fh33 fa33
    refine Kn.spure fh34 rfl rfl (.some rfl rfl rfl) (Kn.ex_pick fh34 (.tmp rfl) (.tmp rfl)) fun fa35 fh35 => ?_
    clear fh34 fa34
    refine Kn.spure fh35 rfl rfl .none (Kn.ex_pick fh35 (.tmp rfl) (.tmp rfl)) fun fa36 fh36 => ?_
    clear fh35 fa35
    refine wpStill_nil ?_
    refine hK8 _ _ ?_
    clear hK8 K8
    replace fh36 := fh36.cut (.cons (t := 40) rfl (.cons (t := 5) rfl (.cons (t := 0) rfl (.cons (t := 1) rfl .nil))))
    refine Kn.no fh36 (.tmp rfl) ?_
    refine wp_skip ?_
    refine Kn.block_normal ?_
    refine hK7 _ _ ?_
    clear hK7 K7
    replace fh36 := fh36.cut (.cons (t := 5) rfl (.cons (t := 0) rfl (.cons (t := 1) rfl .nil)))
    refine wp_region_lit ?_
    refine Kn.pure fh36 rfl rfl .none (Kn.ex_move fh36 (.tmp rfl)) fun fa37 fh37 => ?_
    clear fh36 fa36
    refine Kn.step fh37 rfl rfl .none (Kn.ex_bin fh37 (.tmp rfl) .const) fun Ko hKo => ?_
    go_simp
    try go_bits
    refine hKo _ _ fun fa38 fh38 => ?_
    clear hKo Ko fh37 fa37
    refine Kn.pure fh38 rfl rfl .none (Kn.ex_assign fh38 (.tmp rfl)) fun fa39 fh39 => ?_
    clear fh38 fa38
    refine wpList_nil ?_
    replace fh39 := fh39.cut (.cons (t := 5) rfl (.cons (t := 0) rfl (.cons (t := 1) rfl .nil)))
    exact hKl4 (m4 - 1) _ _ (by omega) ⟨k + 1, q + 1, fh39.cut (.turn (t := 5) rfl (by go_num) (.cons (t := 0) rfl (.cons (t := 1) rfl .nil))), by omega, hkf2, rfl⟩
  · obtain rfl : k = l.length := by omega
    refine wp_seq_k fun K5 hK5 => ?_
    refine wp_seq_k fun K6 hK6 => ?_
    refine wp_region_lit ?_
    refine Kn.pure fh3 rfl rfl .none (Kn.ex_move fh3 (.tmp rfl)) fun fa4 fh4 => ?_
    clear fh3 fa3
    refine Kn.pure fh4 rfl rfl .none (Kn.ex_move fh4 (.tmp rfl)) fun fa5 fh5 => ?_
    clear fh4 fa4
    refine Kn.step fh5 rfl rfl .none (Kn.ex_len fh5 (.tmp rfl)) fun Ko hKo => ?_
    go_simp
    try go_bits
    refine hKo _ _ fun fa6 fh6 => ?_
    clear hKo Ko fh5 fa5
    refine Kn.step fh6 rfl rfl .none (Kn.ex_bin fh6 (.tmp rfl) (.tmp rfl)) fun Ko hKo => ?_
    go_simp
    try go_bits
    refine hKo _ _ fun fa7 fh7 => ?_
    clear hKo Ko fh6 fa6
    refine wpList_nil ?_
    refine hK6 _ _ ?_
    clear hK6 K6
    replace fh7 := fh7.cut (.cons (t := 9) rfl (.cons (t := 5) rfl (.cons (t := 0) rfl (.cons (t := 1) rfl .nil))))
    refine Kn.no fh7 (.tmp rfl) ?_
    replace fh7 := fh7.cut (.cons (t := 5) rfl (.cons (t := 0) rfl (.cons (t := 1) rfl .nil)))
    refine wp_exit ?_
    refine Kn.then_exit ?_
    clear hK5 K5
    refine Kn.then_exit ?_
    clear hKl4 Kl4
    refine Kn.block_exit ?_
    refine hK2 _ _ ?_
    clear hK2 K2
    replace fh7 := fh7.cut .nil
    refine wp_seq_k fun K7 hK7 => ?_
    refine wp_region_lit ?_
    refine Kn.pure fh7 rfl rfl .none (Kn.ex_assign fh7 .const) fun fa8 fh8 => ?_
    clear fh7 fa7
    refine wpList_nil ?_
    refine hK7 _ _ ?_
    clear hK7 K7
    refine wp_ret ?_
    exact Kn.ret1 fh8 rfl rfl ⟨by rw [if_neg (by omega)], q, rfl⟩

end Go.Proofs.YtoggeiaofpdboaaDoor.Gap
