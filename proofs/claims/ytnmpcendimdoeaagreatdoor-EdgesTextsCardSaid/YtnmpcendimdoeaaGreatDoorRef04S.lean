/- The document's Words of layer 4 (edges) (written by gen_ref04s.py). -/
import Derived.Test.YtnmpcendimdoeaaGreatDoorStrKit
import Derived.Test.YtnmpcendimdoeaaGreatDoorRef04D
namespace Go.Proofs.YtnmpcendimdoeaaGreatDoor.Edg
open Go Go.RowKit Go.Lib Dig Str

/-- Words are answered, in a row of the call's own. -/
def WordsRet (w : World) (ws : List (List UInt8)) (e : Ending) (w' : World) : Prop := ∃ g n cap, e = .returned (.slice (some ⟨g, 0, none⟩) n cap) ∧ OwnS w' w.heap.size (some ⟨g, 0, none⟩) n cap (ws.map sbl) ∧ Below w.heap.size w w'
set_option maxRecDepth 100000 in
set_option maxHeartbeats 2000000 in
theorem words_any (s : ByteArray) (w : World) (hs : s.size ≤ 600) : Calls Tryz.prog 20 #[.string s] w (WordsRet w (wds s.data.toList)) := by
  refine Kn.calls Tryz.func20 rfl Tryz.ntmps20 rfl (.cons (t := 0) rfl .nil) fun fa0 fh0 => ?_
  refine wp_seq_k fun K1 hK1 => ?_
  refine wp_region_lit ?_
  refine Kn.pure fh0 rfl rfl .none (Kn.ex_assign fh0 .const) fun fa1 fh1 => ?_
  clear fh0 fa0
  refine wpList_nil ?_
  refine hK1 _ _ ?_
  clear hK1 K1
  refine wp_seq_k fun K2 hK2 => ?_
  refine wp_region_lit ?_
  refine Kn.step fh1 rfl rfl .none (Kn.ex_buildSlice fh1 (.cons .const .nil)) fun Ko hKo => ?_
  go_simp
  try go_bits
  refine hKo _ _ fun fa2 fh2 => ?_
  clear hKo Ko fh1 fa1
  refine Kn.pure fh2 rfl rfl .none (Kn.ex_assign fh2 (.tmp rfl)) fun fa3 fh3 => ?_
  clear fh2 fa2
  refine wpList_nil ?_
  refine hK2 _ _ ?_
  clear hK2 K2
  replace fh3 := fh3.cut (.cons (t := 3) rfl (.cons (t := 2) rfl (.cons (t := 0) rfl .nil)))
  refine wp_seq_k fun K3 hK3 => ?_
  refine wp_seq_k fun K4 hK4 => ?_
  refine wp_region_lit ?_
  refine Kn.pure fh3 rfl rfl .none (Kn.ex_assign fh3 .const) fun fa4 fh4 => ?_
  clear fh3 fa3
  refine wpList_nil ?_
  refine hK4 _ _ ?_
  clear hK4 K4
  refine wp_block ?_
  refine Kn.loop (fun m fr v => ∃ (k g n cap : Nat), Kn.Kn 37 [(4, .int .i64 (k : Int)), (3, .slice (some ⟨g, 0, none⟩) n cap), (0, .string s)] fr ∧ k + m = s.size ∧ n ≤ k + 1 ∧ 0 < n ∧ Hid (OwnS v w.heap.size (some ⟨g, 0, none⟩) n cap ((wds (s.data.toList.take k)).map sbl)) ∧ Hid (Below w.heap.size w v)) s.size ⟨0, w.heap.size, 1, 1, fh4.cut (.cons (t := 4) rfl (.cons (t := 3) rfl (.cons (t := 0) rfl .nil))), by omega, by omega, by omega, Lib.hid (OwnS.one w _ _ (Nat.le_refl _)), Lib.hid ((Below.refl _ _).alloc (Nat.le_refl _) _)⟩ ?_
  clear fh4 fa4
  intro m5 fa5 v hI Kl5 hKl5
  obtain ⟨k, g, n, cap, fh5, hk, hnk, hn0, HO, HB⟩ := hI
  by_cases hlt : k < s.size
  · obtain ⟨ws, hws⟩ : ∃ ws, wds (s.data.toList.take k) = ws := ⟨_, rfl⟩
    have HT : Hid (wds (s.data.toList.take (k + 1)) = wdStep ws s[k]) := Lib.hid (by rw [List.take_succ_eq_append_getElem (by simpa using hlt), wds_snoc, hws]; rfl)
    have HE : Hid (∀ t ∈ ws, t.length ≤ 600) := Lib.hid (fun t ht => by rw [← hws] at ht; have h1 := wds_each _ t ht; rw [List.length_take] at h1; omega)
    rw [hws] at HO
    clear hws
    obtain ⟨x, hx⟩ : ∃ x, s[k].toNat = x := ⟨_, rfl⟩
    have HX := Lib.hid hx
    refine wp_seq_k fun K6 hK6 => ?_
    refine wp_seq_k fun K7 hK7 => ?_
    refine wp_region_lit ?_
    refine Kn.pure fh5 rfl rfl .none (Kn.ex_move fh5 (.tmp rfl)) fun fa6 fh6 => ?_
    clear fh5 fa5
    refine Kn.pure fh6 rfl rfl .none (Kn.ex_move fh6 (.tmp rfl)) fun fa7 fh7 => ?_
    clear fh6 fa6
    refine Kn.step fh7 rfl rfl .none (Kn.ex_len fh7 (.tmp rfl)) fun Ko hKo => ?_
    go_simp
    try go_bits
    refine hKo _ _ fun fa8 fh8 => ?_
    clear hKo Ko fh7 fa7
    refine Kn.step fh8 rfl rfl .none (Kn.ex_bin fh8 (.tmp rfl) (.tmp rfl)) fun Ko hKo => ?_
    go_simp
    try go_bits
    refine hKo _ _ fun fa9 fh9 => ?_
    clear hKo Ko fh8 fa8
    refine wpList_nil ?_
    refine hK7 _ _ ?_
    clear hK7 K7
    replace fh9 := fh9.cut (.cons (t := 9) rfl (.cons (t := 4) rfl (.cons (t := 3) rfl (.cons (t := 0) rfl .nil))))
    refine Kn.yes fh9 (.tmp rfl) ?_
    refine wp_skip ?_
    refine hK6 _ _ ?_
    clear hK6 K6
    replace fh9 := fh9.cut (.cons (t := 4) rfl (.cons (t := 3) rfl (.cons (t := 0) rfl .nil)))
    refine wp_seq_k fun K8 hK8 => ?_
    refine wp_block ?_
    by_cases h32 : x = 32
    · have q32 : ((x : Int) == 32) = true := beq_iff_eq.2 (by omega)
      have HS : Hid (wdStep ws s[k] = ws ++ [[]]) := Lib.hid (by unfold wdStep; rw [if_pos (UInt8.toNat_inj.1 (by rw [HX.out, h32]; rfl))])
      obtain ⟨g', cap', v', hrun, hown, hbel, hkep⟩ := Str.push1 w v 50 (some ⟨g, 0, none⟩) n cap (ws.map sbl) ⟨#[]⟩ HO.out HB.out (by omega)
      have HO2 : Hid (OwnS v' w.heap.size (some ⟨g', 0, none⟩) (n + 1) cap' ((wds (s.data.toList.take (k + 1))).map sbl)) := Lib.hid (by rw [HT.out, HS.out, List.map_append]; exact hown)
      have HB2 := Lib.hid hbel
      clear hown hbel hkep h32
      refine wp_seq_k fun K9 hK9 => ?_
      refine wp_region_lit ?_
      refine Kn.pure fh9 rfl rfl .none (Kn.ex_move fh9 (.tmp rfl)) fun fa10 fh10 => ?_
      clear fh9 fa9
      refine Kn.pure fh10 rfl rfl .none (Kn.ex_move fh10 (.tmp rfl)) fun fa11 fh11 => ?_
      clear fh10 fa10
      refine Kn.step fh11 rfl rfl .none (Kn.ex_index fh11 (.tmp rfl) (.tmp rfl)) fun Ko hKo => ?_
      go_simp
      try go_bits
      refine hKo _ _ fun fa12 fh12 => ?_
      clear hKo Ko fh11 fa11
      refine Kn.step fh12 rfl rfl .none (Kn.ex_bin fh12 (.tmp rfl) .const) fun Ko hKo => ?_
      go_simp
      try go_bits
      refine hKo _ _ fun fa13 fh13 => ?_
      clear hKo Ko fh12 fa12
      refine wpList_nil ?_
      refine hK9 _ _ ?_
      clear hK9 K9
      replace fh13 := fh13.cut (.cons (t := 15) rfl (.cons (t := 4) rfl (.cons (t := 3) rfl (.cons (t := 0) rfl .nil))))
      refine Kn.yes fh13 (.tmp rfl) ?_
      replace fh13 := fh13.cut (.cons (t := 4) rfl (.cons (t := 3) rfl (.cons (t := 0) rfl .nil)))
      refine wp_region_lit ?_
      refine Kn.pure fh13 rfl rfl .none (Kn.ex_move fh13 (.tmp rfl)) fun fa14 fh14 => ?_
      clear fh13 fa13
      refine Kn.step fh14 rfl rfl .none (Kn.ex_buildSlice fh14 (.cons .const .nil)) fun Ko hKo => ?_
      go_simp
      try go_bits
      refine hKo _ _ fun fa15 fh15 => ?_
      clear hKo Ko fh14 fa14
      refine Kn.known fh15 rfl rfl .none (Kn.ex_append fh15 (.cons (.tmp rfl) (.cons (.tmp rfl) .nil))) hrun fun fa16 fh16 => ?_
      clear fh15 fa15
      clear hrun
      refine Kn.pure fh16 rfl rfl .none (Kn.ex_assign fh16 (.tmp rfl)) fun fa17 fh17 => ?_
      clear fh16 fa16
      refine wpList_nil ?_
      refine Kn.block_normal ?_
      refine hK8 _ _ ?_
      clear hK8 K8
      replace fh17 := fh17.cut (.cons (t := 3) rfl (.cons (t := 4) rfl (.cons (t := 0) rfl .nil)))
      clear q32 hx
      refine wp_region_lit ?_
      refine Kn.pure fh17 rfl rfl .none (Kn.ex_move fh17 (.tmp rfl)) fun fa18 fh18 => ?_
      clear fh17 fa17
      refine Kn.step fh18 rfl rfl .none (Kn.ex_bin fh18 (.tmp rfl) .const) fun Ko hKo => ?_
      go_simp
      try go_bits
      refine hKo _ _ fun fa19 fh19 => ?_
      clear hKo Ko fh18 fa18
      refine Kn.pure fh19 rfl rfl .none (Kn.ex_assign fh19 (.tmp rfl)) fun fa20 fh20 => ?_
      clear fh19 fa19
      refine wpList_nil ?_
      replace fh20 := fh20.cut (.cons (t := 4) rfl (.cons (t := 3) rfl (.cons (t := 0) rfl .nil)))
      exact hKl5 (m5 - 1) _ _ (by omega) ⟨k + 1, g', n + 1, cap', fh20.cut (.turn (t := 4) rfl (by go_num) (.cons (t := 3) rfl (.cons (t := 0) rfl .nil))), by omega, by omega, by omega, HO2, HB2⟩
    · have q32 : ((x : Int) == 32) = false := beq_eq_false_iff_ne.2 (by omega)
      have HS : Hid (wdStep ws s[k] = ws.dropLast ++ [ws.getLastD [] ++ [s[k]]]) := Lib.hid (by unfold wdStep; rw [if_neg (fun e => h32 (by rw [← HX.out, e]; rfl))])
      have HNl : Hid (n = ws.length) := Lib.hid (by have := HO.out.1; rwa [List.length_map] at this)
      obtain ⟨j, hj⟩ : ∃ j, n = j + 1 := ⟨n - 1, by omega⟩
      have hjn : j < n := by omega
      have r1 : (n : Int) - 1 = (j : Int) := by omega
      have hjl : j < ws.length := by have := HNl.out; omega
      obtain ⟨S, hS⟩ : ∃ S, sbl ws[j] = S := ⟨_, rfl⟩
      have cS : v.cell? ⟨g, j, none⟩ = some (.string S) := by rw [HO.out.cell (show j < (ws.map sbl).length by rw [List.length_map]; exact hjl), List.getElem_map, hS]
      have fS := HO.out.free j
      have hSs : S.size ≤ 600 := by rw [← hS, sbl_size]; exact HE.out _ (List.getElem_mem _)
      obtain ⟨U, hU⟩ : ∃ U, s.extract k (k + 1) = U := ⟨_, rfl⟩
      have hUd : U.data.toList = [s[k]] := by
        rw [← hU, ByteArray.data_extract, Array.toList_extract, List.extract_eq_take_drop, List.drop_eq_getElem_cons (show k < s.data.toList.length from hlt)]
        simp; rfl
      have HUd := Lib.hid hUd
      have hUs : U.size = 1 := by show U.data.toList.length = 1; rw [hUd]; rfl
      obtain ⟨k1, hk1⟩ : ∃ j, k + 1 = j := ⟨_, rfl⟩
      have r2 : (k : Int) + 1 = (k1 : Int) := by omega
      have hcut := cut_lh (P := Tryz.prog) v.drew 9 s Tryz.underlying9 .i64 .i64 k k1 (by omega) (by omega)
      rw [← hk1, hU] at hcut
      rw [hk1] at hcut
      have HSd := Lib.hid hS
      have HJ := Lib.hid hj
      clear hS hU hUd hk1 hj
      obtain ⟨Z, hZ⟩ : ∃ Z, S ++ U = Z := ⟨_, rfl⟩
      have HZ : Hid ((ws.map sbl).set j Z = (wds (s.data.toList.take (k + 1))).map sbl) := Lib.hid (by
        rw [HT.out, HS.out, List.map_append, ← hZ, ← HSd.out]
        have e1 : ws.length = j + 1 := by have := HNl.out; have := HJ.out; omega
        rw [set_last _ j _ (by rw [List.length_map]; exact e1), List.map_dropLast, last_at ws j e1]
        congr 1
        show [sbl ws[j] ++ U] = [sbl (ws[j] ++ [s[k]])]
        rw [← sbl_app, show U = sbl [s[k]] from ByteArray.ext (by rw [← HUd.out]; simp [sbl])])
      clear h32
      refine wp_seq_k fun K9 hK9 => ?_
      refine wp_region_lit ?_
      refine Kn.pure fh9 rfl rfl .none (Kn.ex_move fh9 (.tmp rfl)) fun fa10 fh10 => ?_
      clear fh9 fa9
      refine Kn.pure fh10 rfl rfl .none (Kn.ex_move fh10 (.tmp rfl)) fun fa11 fh11 => ?_
      clear fh10 fa10
      refine Kn.step fh11 rfl rfl .none (Kn.ex_index fh11 (.tmp rfl) (.tmp rfl)) fun Ko hKo => ?_
      go_simp
      try go_bits
      refine hKo _ _ fun fa12 fh12 => ?_
      clear hKo Ko fh11 fa11
      refine Kn.step fh12 rfl rfl .none (Kn.ex_bin fh12 (.tmp rfl) .const) fun Ko hKo => ?_
      go_simp
      try go_bits
      refine hKo _ _ fun fa13 fh13 => ?_
      clear hKo Ko fh12 fa12
      refine wpList_nil ?_
      refine hK9 _ _ ?_
      clear hK9 K9
      replace fh13 := fh13.cut (.cons (t := 15) rfl (.cons (t := 4) rfl (.cons (t := 3) rfl (.cons (t := 0) rfl .nil))))
      refine Kn.no fh13 (.tmp rfl) ?_
      replace fh13 := fh13.cut (.cons (t := 4) rfl (.cons (t := 3) rfl (.cons (t := 0) rfl .nil)))
      refine Kn.tail 17 (by kernel_rfl) (by kernel_rfl) rfl rfl ?_
      refine Kn.spure fh13 rfl rfl .none (Kn.ex_move fh13 (.tmp rfl)) fun fa14 fh14 => ?_
      clear fh13 fa13
      refine Kn.spure fh14 rfl rfl .none (Kn.ex_move fh14 (.tmp rfl)) fun fa15 fh15 => ?_
      clear fh14 fa14
      refine Kn.sstep fh15 rfl rfl .none (Kn.ex_len fh15 (.tmp rfl)) fun Ko hKo => ?_
      go_simp
      try go_bits
      refine hKo _ fun fa16 fh16 => ?_
      clear hKo Ko fh15 fa15
      refine Kn.sstep fh16 rfl rfl .none (Kn.ex_bin fh16 (.tmp rfl) .const) fun Ko hKo => ?_
      go_simp
      try go_bits
      try simp only [r1]
      refine hKo _ fun fa17 fh17 => ?_
      clear hKo Ko fh16 fa16
      refine Kn.spure fh17 rfl rfl .none (Kn.ex_move fh17 (.tmp rfl)) fun fa18 fh18 => ?_
      clear fh17 fa17
      refine Kn.spure fh18 rfl rfl .none (Kn.ex_move fh18 (.tmp rfl)) fun fa19 fh19 => ?_
      clear fh18 fa18
      refine Kn.sstep fh19 rfl rfl .none (Kn.ex_len fh19 (.tmp rfl)) fun Ko hKo => ?_
      go_simp
      try go_bits
      refine hKo _ fun fa20 fh20 => ?_
      clear hKo Ko fh19 fa19
      refine Kn.sstep fh20 rfl rfl .none (Kn.ex_bin fh20 (.tmp rfl) .const) fun Ko hKo => ?_
      go_simp
      try go_bits
      try simp only [r1]
      refine hKo _ fun fa21 fh21 => ?_
      clear hKo Ko fh20 fa20
      refine Kn.sstep fh21 rfl rfl .none (Kn.ex_indexAddr fh21 (.tmp rfl) (.tmp rfl)) fun Ko hKo => ?_
      go_simp
      try go_bits
      refine hKo _ fun fa22 fh22 => ?_
      clear hKo Ko fh21 fa21
      refine Kn.sstep fh22 rfl rfl .none (Kn.ex_load fh22 (.tmp rfl)) fun Ko hKo => ?_
      go_simp
      try go_bits
      refine hKo _ fun fa23 fh23 => ?_
      clear hKo Ko fh22 fa22
      refine Kn.spure fh23 rfl rfl .none (Kn.ex_move fh23 (.tmp rfl)) fun fa24 fh24 => ?_
      clear fh23 fa23
      refine Kn.spure fh24 rfl rfl .none (Kn.ex_move fh24 (.tmp rfl)) fun fa25 fh25 => ?_
      clear fh24 fa24
      refine Kn.spure fh25 rfl rfl .none (Kn.ex_move fh25 (.tmp rfl)) fun fa26 fh26 => ?_
      clear fh25 fa25
      refine Kn.sstep fh26 rfl rfl .none (Kn.ex_bin fh26 (.tmp rfl) .const) fun Ko hKo => ?_
      go_simp
      try go_bits
      try simp only [r2]
      refine hKo _ fun fa27 fh27 => ?_
      clear hKo Ko fh26 fa26
      refine Kn.sstep fh27 rfl rfl .none (Kn.ex_sliceLH fh27 (.tmp rfl) (.tmp rfl) (.tmp rfl)) fun Ko hKo => ?_
      rw [hcut]
      refine hKo _ fun fa28 fh28 => ?_
      clear hKo Ko fh27 fa27
      refine Kn.sstep fh28 rfl rfl .none (Kn.ex_bin fh28 (.tmp rfl) (.tmp rfl)) fun Ko hKo => ?_
      go_simp
      try rw [if_neg (by omega)]
      refine hKo _ fun fa29 fh29 => ?_
      clear hKo Ko fh28 fa28
      refine Kn.sstep fh29 rfl rfl .none (Kn.ex_indexAddr fh29 (.tmp rfl) (.tmp rfl)) fun Ko hKo => ?_
      go_simp
      try go_bits
      refine hKo _ fun fa30 fh30 => ?_
      clear hKo Ko fh29 fa29
      refine wpStill_nil ?_
      refine Kn.stepU fh30 rfl .none (Kn.ex_store fh30 (.tmp rfl) (.tmp rfl)) fun Ko hKo => ?_
      go_simp
      try go_bits
      refine hKo _ ?_
      clear hKo Ko
      refine wpList_nil ?_
      refine Kn.block_normal ?_
      refine hK8 _ _ ?_
      clear hK8 K8
      replace fh30 := fh30.cut (.cons (t := 4) rfl (.cons (t := 3) rfl (.cons (t := 0) rfl .nil)))
      clear q32 hx cS fS hcut r1 r2
      have HO2 := Lib.hid (HO.out.drew.set j Z)
      rw [HZ.out] at HO2
      have HB2 := Lib.hid ((Own.below_drew HB.out).setCell (p := ⟨g, j, none⟩) HO.out.ge (.string Z))
      refine wp_region_lit ?_
      refine Kn.pure fh30 rfl rfl .none (Kn.ex_move fh30 (.tmp rfl)) fun fa31 fh31 => ?_
      clear fh30 fa30
      refine Kn.step fh31 rfl rfl .none (Kn.ex_bin fh31 (.tmp rfl) .const) fun Ko hKo => ?_
      go_simp
      try go_bits
      refine hKo _ _ fun fa32 fh32 => ?_
      clear hKo Ko fh31 fa31
      refine Kn.pure fh32 rfl rfl .none (Kn.ex_assign fh32 (.tmp rfl)) fun fa33 fh33 => ?_
      clear fh32 fa32
      refine wpList_nil ?_
      replace fh33 := fh33.cut (.cons (t := 4) rfl (.cons (t := 3) rfl (.cons (t := 0) rfl .nil)))
      exact hKl5 (m5 - 1) _ _ (by omega) ⟨k + 1, g, n, cap, fh33.cut (.turn (t := 4) rfl (by go_num) (.cons (t := 3) rfl (.cons (t := 0) rfl .nil))), by omega, by omega, by omega, HO2, HB2⟩
  · obtain rfl : k = s.size := by omega
    refine wp_seq_k fun K6 hK6 => ?_
    refine wp_seq_k fun K7 hK7 => ?_
    refine wp_region_lit ?_
    refine Kn.pure fh5 rfl rfl .none (Kn.ex_move fh5 (.tmp rfl)) fun fa6 fh6 => ?_
    clear fh5 fa5
    refine Kn.pure fh6 rfl rfl .none (Kn.ex_move fh6 (.tmp rfl)) fun fa7 fh7 => ?_
    clear fh6 fa6
    refine Kn.step fh7 rfl rfl .none (Kn.ex_len fh7 (.tmp rfl)) fun Ko hKo => ?_
    go_simp
    try go_bits
    refine hKo _ _ fun fa8 fh8 => ?_
    clear hKo Ko fh7 fa7
    refine Kn.step fh8 rfl rfl .none (Kn.ex_bin fh8 (.tmp rfl) (.tmp rfl)) fun Ko hKo => ?_
    go_simp
    try go_bits
    refine hKo _ _ fun fa9 fh9 => ?_
    clear hKo Ko fh8 fa8
    refine wpList_nil ?_
    refine hK7 _ _ ?_
    clear hK7 K7
    replace fh9 := fh9.cut (.cons (t := 9) rfl (.cons (t := 4) rfl (.cons (t := 3) rfl (.cons (t := 0) rfl .nil))))
    refine Kn.no fh9 (.tmp rfl) ?_
    replace fh9 := fh9.cut (.cons (t := 4) rfl (.cons (t := 3) rfl (.cons (t := 0) rfl .nil)))
    refine wp_exit ?_
    refine Kn.then_exit ?_
    clear hK6 K6
    refine Kn.then_exit ?_
    clear hKl5 Kl5
    refine Kn.block_exit ?_
    refine hK3 _ _ ?_
    clear hK3 K3
    replace fh9 := fh9.cut (.cons (t := 3) rfl .nil)
    refine wp_seq_k fun K8 hK8 => ?_
    refine wp_region_lit ?_
    refine Kn.pure fh9 rfl rfl .none (Kn.ex_move fh9 (.tmp rfl)) fun fa10 fh10 => ?_
    clear fh9 fa9
    refine Kn.pure fh10 rfl rfl .none (Kn.ex_assign fh10 (.tmp rfl)) fun fa11 fh11 => ?_
    clear fh10 fa10
    refine wpList_nil ?_
    refine hK8 _ _ ?_
    clear hK8 K8
    replace fh11 := fh11.cut (.cons (t := 2) rfl .nil)
    refine wp_ret ?_
    exact Kn.ret1 fh11 rfl rfl ⟨g, n, cap, rfl, by have := HO.out; rwa [show s.data.toList.take s.size = s.data.toList from List.take_of_length_le (Nat.le_refl _)] at this, HB.out⟩
end Go.Proofs.YtnmpcendimdoeaaGreatDoor.Edg
