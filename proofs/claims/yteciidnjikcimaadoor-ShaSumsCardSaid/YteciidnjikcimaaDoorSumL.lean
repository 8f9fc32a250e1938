/- The document's digest: ladingref02.Sum, Digest (written by gen_refsum0.py). -/
import Derived.Test.YteciidnjikcimaaDoorSumL5
import Derived.Test.YteciidnjikcimaaDoorSumL6
import Derived.Test.YteciidnjikcimaaDoorSumL7
import Derived.Test.YteciidnjikcimaaDoorSumL8
import Derived.Test.YteciidnjikcimaaDoorSumL9
namespace Go.Proofs.YteciidnjikcimaaDoor.Sha
open Go.RowKit Go.Lib

theorem v8_list (c : List Nat) (h : c.length = 8) : (v8 c).list = c := by
  match c, h with
  | [a, b, c, d, e, f, g, h], _ => rfl
theorem ok_list {v : V8} (h : v.ok) (i : Nat) : wd v.list i < 4294967296 := by
  obtain ⟨h0, h1, h2, h3, h4, h5, h6, h7⟩ := h
  match i with
  | 0 => exact h0
  | 1 => exact h1
  | 2 => exact h2
  | 3 => exact h3
  | 4 => exact h4
  | 5 => exact h5
  | 6 => exact h6
  | 7 => exact h7
  | i + 8 => exact (show (0 : Nat) < 4294967296 by omega)
theorem ws_start {w0 v : World} {gh caph g2 cap2 : Nat} {Hm PL : List Nat} (hb : Below w0.heap.size w0 v) (ho : OwnI v w0.heap.size gh caph Hm) (hb2 : OwnI v w0.heap.size g2 cap2 PL) (hne : gh ≠ g2) : Ws w0 (v.alloc (.cells #[] 3)) v.heap.size 0 [] gh caph Hm g2 cap2 PL :=
  ⟨OwnI.new _ _ hb.size, ho.alloc _, hb2.alloc _, hb.alloc hb.size _, Nat.ne_of_gt hb2.lt', Nat.ne_of_gt ho.lt', hne⟩
theorem ws_kept {w0 v v' : World} {gw capw gh caph g2 cap2 g' : Nat} {lw Hm PL : List Nat} {o : Obj} (h : Ws w0 v gw capw lw gh caph Hm g2 cap2 PL) (hk : Kept (v.alloc o) v' v.heap.size g') (hb : Below w0.heap.size w0 v') : Ws w0 v' gw capw lw gh caph Hm g2 cap2 PL :=
  ⟨hk.own (Nat.ne_of_lt h.ow.lt') (h.ow.alloc _), hk.own (Nat.ne_of_lt h.oh.lt') (h.oh.alloc _), hk.own (Nat.ne_of_lt h.ob.lt') (h.ob.alloc _), hb, h.n1, h.n2, h.n3⟩
set_option maxRecDepth 100000 in
set_option maxHeartbeats 8000000 in
theorem refSum_any (t : ByteArray) (bk ok bh oh ck ch : Nat) (w : World) (ht : t.size ≤ 400) (hK : NIn w (some ⟨bk, ok, none⟩) kk) (hH : NIn w (some ⟨bh, oh, none⟩) hh) :
    Calls Tryd.prog 18 #[.string t, .slice (some ⟨bk, ok, none⟩) 64 ck, .slice (some ⟨bh, oh, none⟩) 8 ch] w fun e w' => e = .returned (.string (digB t.data.toList)) ∧ Below w.heap.size w w' := by
  have HK := Lib.hid hK
  have HH := Lib.hid hH
  clear hK hH
  obtain ⟨n, hn⟩ : ∃ n, t.size = n := ⟨_, rfl⟩
  obtain ⟨T, hT⟩ : ∃ T, t.data.toList = T := ⟨_, rfl⟩
  have HTn : Hid (T.length = n) := Lib.hid (by rw [← hT, ← hn]; rfl)
  have HT := Lib.hid hT
  have HN := Lib.hid hn
  have hn400 : n ≤ 400 := by omega
  rw [hT]
  clear hT hn
  refine Kn.calls Tryd.func18 rfl Tryd.ntmps18 rfl (.cons (t := 0) rfl (.cons (t := 1) rfl (.cons (t := 2) rfl .nil))) fun fa0 fh0 => ?_
  refine wp_seq_k fun K1 hK1 => ?_
  refine wp_region_lit ?_
  refine Kn.pure fh0 rfl rfl .none (Kn.ex_assign fh0 .const) fun fa1 fh1 => ?_
  clear fh0 fa0
  refine wpList_nil ?_
  refine hK1 _ _ ?_
  clear hK1 K1
  refine wp_seq_k fun K2 hK2 => ?_
  refine wp_region_lit ?_
  refine Kn.step fh1 rfl rfl .none (Kn.ex_buildSlice fh1 .nil) fun Ko hKo => ?_
  go_simp
  try go_bits
  refine hKo _ _ fun fa2 fh2 => ?_
  clear hKo Ko fh1 fa1
  refine Kn.pure fh2 rfl rfl .none (Kn.ex_assign fh2 (.tmp rfl)) fun fa3 fh3 => ?_
  clear fh2 fa2
  refine wpList_nil ?_
  refine hK2 _ _ ?_
  clear hK2 K2
  replace fh3 := fh3.cut (.cons (t := 7) rfl (.cons (t := 6) rfl (.cons (t := 0) rfl (.cons (t := 1) rfl (.cons (t := 2) rfl .nil)))))
  refine wp_seq_k fun K3 hK3 => ?_
  refine wp_seq_k fun K4 hK4 => ?_
  refine wp_region_lit ?_
  refine Kn.pure fh3 rfl rfl .none (Kn.ex_assign fh3 .const) fun fa4 fh4 => ?_
  clear fh3 fa3
  refine wpList_nil ?_
  refine hK4 _ _ ?_
  clear hK4 K4
  refine wp_block ?_
  refine Kn.loop (fun m a v => ∃ (k g cap : Nat), Kn.Kn 354 [(8, .int .i64 (k : Int)), (7, .slice (some ⟨g, 0, none⟩) k cap), (0, .string t), (1, .slice (some ⟨bk, ok, none⟩) 64 ck), (2, .slice (some ⟨bh, oh, none⟩) 8 ch)] a ∧ k + m = n ∧ Hid (OwnI v w.heap.size g cap (nb (T.take k))) ∧ Hid (Below w.heap.size w v)) n ⟨0, w.heap.size, 0, fh4.cut (.cons (t := 8) rfl (.cons (t := 7) rfl (.cons (t := 0) rfl (.cons (t := 1) rfl (.cons (t := 2) rfl .nil))))), by omega, Lib.hid (OwnI.new w _ (Nat.le_refl _)), Lib.hid ((Below.refl _ _).alloc (Nat.le_refl _) _)⟩ ?_
  clear fh4 fa4
  intro m fa5 v hI Kl5 hKl5
  obtain ⟨k, g, cap, fh5, hk, HO, HB⟩ := hI
  by_cases hlt : k < n
  · have hkt : k < t.size := by have := HN.out; omega
    have hns : (n : Int) = (t.size : Int) := by have := HN.out; omega
    refine wp_seq_k fun K6 hK6 => ?_
    refine wp_seq_k fun K7 hK7 => ?_
    refine wp_region_lit ?_
    refine Kn.pure fh5 rfl rfl .none (Kn.ex_move fh5 (.tmp rfl)) fun fa6 fh6 => ?_
    clear fh5 fa5
    refine Kn.pure fh6 rfl rfl .none (Kn.ex_move fh6 (.tmp rfl)) fun fa7 fh7 => ?_
    clear fh6 fa6
    refine Kn.step fh7 rfl rfl .none (Kn.ex_len fh7 (.tmp rfl)) fun Ko hKo => ?_
    go_simp
    try go_bits
    refine hKo _ _ fun fa8 fh8 => ?_
    clear hKo Ko fh7 fa7
    have qd : decide ((k : Int) < (t.size : Int)) = true := decide_eq_true (by omega)
    have qd2 : decide (k < t.size) = true := decide_eq_true (by omega)
    refine Kn.step fh8 rfl rfl .none (Kn.ex_bin fh8 (.tmp rfl) (.tmp rfl)) fun Ko hKo => ?_
    go_simp
    try go_bits
    refine hKo _ _ fun fa9 fh9 => ?_
    clear hKo Ko fh8 fa8
    clear qd qd2
    refine wpList_nil ?_
    refine hK7 _ _ ?_
    clear hK7 K7
    replace fh9 := fh9.cut (.cons (t := 36) rfl (.cons (t := 8) rfl (.cons (t := 7) rfl (.cons (t := 0) rfl (.cons (t := 1) rfl (.cons (t := 2) rfl .nil))))))
    refine Kn.yes fh9 (.tmp rfl) ?_
    refine wp_skip ?_
    refine hK6 _ _ ?_
    clear hK6 K6
    replace fh9 := fh9.cut (.cons (t := 8) rfl (.cons (t := 7) rfl (.cons (t := 0) rfl (.cons (t := 1) rfl (.cons (t := 2) rfl .nil)))))
    refine wp_seq_k fun K8 hK8 => ?_
    refine wp_block ?_
    obtain ⟨x, hx⟩ : ∃ x, t[k].toNat = x := ⟨_, rfl⟩
    have hxl : x < 256 := by rw [← hx]; exact t[k].toNat_lt
    have HX : Hid (nb (T.take (k + 1)) = nb (T.take k) ++ [x]) := Lib.hid (by
      rw [← HT.out, List.take_succ_eq_append_getElem (by simpa using hkt)]; simp [nb]; rw [← hx]; rfl)
    obtain ⟨gn, capn, vn, hrun, hown, hbel, hkep⟩ := push1 w v 32 g cap k x (nb (T.take k)) HO.out (by rw [nb, List.length_map, List.length_take, HTn.out]; omega) HB.out (by omega)
    rw [← HX.out] at hown
    have HOn := Lib.hid hown
    have HBn := Lib.hid hbel
    clear hown hbel hkep
    refine wp_region_lit ?_
    refine Kn.pure fh9 rfl rfl .none (Kn.ex_move fh9 (.tmp rfl)) fun fa10 fh10 => ?_
    clear fh9 fa9
    refine Kn.pure fh10 rfl rfl .none (Kn.ex_move fh10 (.tmp rfl)) fun fa11 fh11 => ?_
    clear fh10 fa10
    refine Kn.pure fh11 rfl rfl .none (Kn.ex_move fh11 (.tmp rfl)) fun fa12 fh12 => ?_
    clear fh11 fa11
    refine Kn.step fh12 rfl rfl .none (Kn.ex_index fh12 (.tmp rfl) (.tmp rfl)) fun Ko hKo => ?_
    go_simp
    try go_bits
    refine hKo _ _ fun fa13 fh13 => ?_
    clear hKo Ko fh12 fa12
    refine Kn.step fh13 rfl rfl .none (Kn.ex_convert fh13 (.tmp rfl)) fun Ko hKo => ?_
    go_simp
    try go_bits
    refine hKo _ _ fun fa14 fh14 => ?_
    clear hKo Ko fh13 fa13
    refine Kn.step fh14 rfl rfl .none (Kn.ex_buildSlice fh14 (.cons (.tmp rfl) .nil)) fun Ko hKo => ?_
    go_simp
    try go_bits
    refine hKo _ _ fun fa15 fh15 => ?_
    clear hKo Ko fh14 fa14
    refine Kn.known fh15 rfl rfl .none (Kn.ex_append fh15 (.cons (.tmp rfl) (.cons (.tmp rfl) .nil))) hrun fun fa16 fh16 => ?_
    clear fh15 fa15
    clear hrun
    refine Kn.pure fh16 rfl rfl .none (Kn.ex_assign fh16 (.tmp rfl)) fun fa17 fh17 => ?_
    clear fh16 fa16
    refine wpList_nil ?_
    refine Kn.block_normal ?_
    refine hK8 _ _ ?_
    clear hK8 K8
    replace fh17 := fh17.cut (.cons (t := 7) rfl (.cons (t := 8) rfl (.cons (t := 0) rfl (.cons (t := 1) rfl (.cons (t := 2) rfl .nil)))))
    refine wp_region_lit ?_
    refine Kn.pure fh17 rfl rfl .none (Kn.ex_move fh17 (.tmp rfl)) fun fa18 fh18 => ?_
    clear fh17 fa17
    refine Kn.step fh18 rfl rfl .none (Kn.ex_bin fh18 (.tmp rfl) .const) fun Ko hKo => ?_
    go_simp
    try go_bits
    refine hKo _ _ fun fa19 fh19 => ?_
    clear hKo Ko fh18 fa18
    refine Kn.pure fh19 rfl rfl .none (Kn.ex_assign fh19 (.tmp rfl)) fun fa20 fh20 => ?_
    clear fh19 fa19
    refine wpList_nil ?_
    replace fh20 := fh20.cut (.cons (t := 8) rfl (.cons (t := 7) rfl (.cons (t := 0) rfl (.cons (t := 1) rfl (.cons (t := 2) rfl .nil)))))
    exact hKl5 (m - 1) _ _ (by omega) ⟨k + 1, gn, capn, fh20.cut (.turn (t := 8) rfl (by go_num) (.cons (t := 7) rfl (.cons (t := 0) rfl (.cons (t := 1) rfl (.cons (t := 2) rfl .nil))))), by omega, HOn, HBn⟩
  obtain rfl : k = n := by omega
  have hns : (k : Int) = (t.size : Int) := by have := HN.out; omega
  have HO1 : Hid (OwnI v w.heap.size g cap (nb T)) := Lib.hid (by have := HO.out; rwa [List.take_of_length_le (by rw [HTn.out]; exact Nat.le_refl _)] at this)
  clear HO
  refine wp_seq_k fun K6 hK6 => ?_
  refine wp_seq_k fun K7 hK7 => ?_
  refine wp_region_lit ?_
  refine Kn.pure fh5 rfl rfl .none (Kn.ex_move fh5 (.tmp rfl)) fun fa6 fh6 => ?_
  clear fh5 fa5
  refine Kn.pure fh6 rfl rfl .none (Kn.ex_move fh6 (.tmp rfl)) fun fa7 fh7 => ?_
  clear fh6 fa6
  refine Kn.step fh7 rfl rfl .none (Kn.ex_len fh7 (.tmp rfl)) fun Ko hKo => ?_
  go_simp
  try go_bits
  refine hKo _ _ fun fa8 fh8 => ?_
  clear hKo Ko fh7 fa7
  have qd : decide ((k : Int) < (t.size : Int)) = false := decide_eq_false (by omega)
  have qd2 : decide (k < t.size) = false := decide_eq_false (by omega)
  refine Kn.step fh8 rfl rfl .none (Kn.ex_bin fh8 (.tmp rfl) (.tmp rfl)) fun Ko hKo => ?_
  go_simp
  try go_bits
  refine hKo _ _ fun fa9 fh9 => ?_
  clear hKo Ko fh8 fa8
  clear qd qd2
  refine wpList_nil ?_
  refine hK7 _ _ ?_
  clear hK7 K7
  replace fh9 := fh9.cut (.cons (t := 36) rfl (.cons (t := 8) rfl (.cons (t := 7) rfl (.cons (t := 0) rfl (.cons (t := 1) rfl (.cons (t := 2) rfl .nil))))))
  refine Kn.no fh9 (.tmp rfl) ?_
  replace fh9 := fh9.cut (.cons (t := 8) rfl (.cons (t := 7) rfl (.cons (t := 0) rfl (.cons (t := 1) rfl (.cons (t := 2) rfl .nil)))))
  refine wp_exit ?_
  refine Kn.then_exit ?_
  clear hK6 K6
  refine Kn.then_exit ?_
  clear hKl5 Kl5
  refine Kn.block_exit ?_
  refine hK3 _ _ ?_
  clear hK3 K3
  replace fh9 := fh9.cut (.cons (t := 7) rfl (.cons (t := 0) rfl (.cons (t := 1) rfl (.cons (t := 2) rfl .nil))))
  clear hk hlt
  obtain ⟨g1, cap1, v1, hrun, hown, hbel, hkep⟩ := push1 w v 32 g cap k 128 (nb T) HO1.out (by rw [nb, List.length_map, HTn.out]) HB.out (by omega)
  have HO2 := Lib.hid hown
  have HB2 := Lib.hid hbel
  clear hown hbel hkep HO1 HB
  obtain ⟨z, hz⟩ : ∃ z, (119 - k % 64) % 64 = z := ⟨_, rfl⟩
  have HZ := Lib.hid hz
  have hz64 : z < 64 := by omega
  clear hz
  refine wp_seq_k fun K8 hK8 => ?_
  refine wp_region_lit ?_
  refine Kn.pure fh9 rfl rfl .none (Kn.ex_move fh9 (.tmp rfl)) fun fa10 fh10 => ?_
  clear fh9 fa9
  refine Kn.step fh10 rfl rfl .none (Kn.ex_buildSlice fh10 (.cons .const .nil)) fun Ko hKo => ?_
  go_simp
  try go_bits
  refine hKo _ _ fun fa11 fh11 => ?_
  clear hKo Ko fh10 fa10
  refine Kn.known fh11 rfl rfl .none (Kn.ex_append fh11 (.cons (.tmp rfl) (.cons (.tmp rfl) .nil))) hrun fun fa12 fh12 => ?_
  clear fh11 fa11
  clear hrun
  refine Kn.pure fh12 rfl rfl .none (Kn.ex_assign fh12 (.tmp rfl)) fun fa13 fh13 => ?_
  clear fh12 fa12
  refine wpList_nil ?_
  refine hK8 _ _ ?_
  clear hK8 K8
  replace fh13 := fh13.cut (.cons (t := 7) rfl (.cons (t := 0) rfl (.cons (t := 1) rfl (.cons (t := 2) rfl .nil))))
  refine wp_seq_k fun K9 hK9 => ?_
  refine wp_block ?_
  refine Kn.loop (fun m a v => ∃ (j L g cap : Nat), Kn.Kn 354 [(7, .slice (some ⟨g, 0, none⟩) L cap), (0, .string t), (1, .slice (some ⟨bk, ok, none⟩) 64 ck), (2, .slice (some ⟨bh, oh, none⟩) 8 ch)] a ∧ j + m = z ∧ Hid (L = k + 1 + j) ∧ L ≤ 500 ∧ Hid (OwnI v w.heap.size g cap (nb T ++ [128] ++ List.replicate j 0)) ∧ Hid (Below w.heap.size w v)) z ⟨0, k + 1, g1, cap1, fh13.cut (.cons (t := 7) rfl (.cons (t := 0) rfl (.cons (t := 1) rfl (.cons (t := 2) rfl .nil)))), by omega, Lib.hid rfl, by omega, Lib.hid (by simpa using HO2.out), HB2⟩ ?_
  clear fh13 fa13
  intro m fa14 v hI Kl10 hKl10
  obtain ⟨j, L, g, cap, fh14, hj, HL, hL5, HO, HB⟩ := hI
  clear HO2 HB2
  by_cases hjz : j < z
  · have htest : ((L : Int) % 64 != 56) = true := bne_iff_ne.2 (by have := HL.out; have := HZ.out; omega)
    refine wp_seq_k fun K11 hK11 => ?_
    refine wp_seq_k fun K12 hK12 => ?_
    refine wp_region_lit ?_
    refine Kn.pure fh14 rfl rfl .none (Kn.ex_move fh14 (.tmp rfl)) fun fa15 fh15 => ?_
    clear fh14 fa14
    refine Kn.step fh15 rfl rfl .none (Kn.ex_len fh15 (.tmp rfl)) fun Ko hKo => ?_
    go_simp
    try go_bits
    refine hKo _ _ fun fa16 fh16 => ?_
    clear hKo Ko fh15 fa15
    refine Kn.step fh16 rfl rfl .none (Kn.ex_bin fh16 (.tmp rfl) .const) fun Ko hKo => ?_
    go_simp
    try go_bits
    refine hKo _ _ fun fa17 fh17 => ?_
    clear hKo Ko fh16 fa16
    refine Kn.step fh17 rfl rfl .none (Kn.ex_bin fh17 (.tmp rfl) .const) fun Ko hKo => ?_
    go_simp
    try go_bits
    refine hKo _ _ fun fa18 fh18 => ?_
    clear hKo Ko fh17 fa17
    clear htest
    refine wpList_nil ?_
    refine hK12 _ _ ?_
    clear hK12 K12
    replace fh18 := fh18.cut (.cons (t := 52) rfl (.cons (t := 7) rfl (.cons (t := 0) rfl (.cons (t := 1) rfl (.cons (t := 2) rfl .nil)))))
    refine Kn.yes fh18 (.tmp rfl) ?_
    refine wp_skip ?_
    refine hK11 _ _ ?_
    clear hK11 K11
    replace fh18 := fh18.cut (.cons (t := 7) rfl (.cons (t := 0) rfl (.cons (t := 1) rfl (.cons (t := 2) rfl .nil))))
    refine wp_block ?_
    obtain ⟨gn, capn, vn, hrun, hown, hbel, hkep⟩ := push1 w v 32 g cap L 0 (nb T ++ [128] ++ List.replicate j 0) HO.out (by rw [HL.out]; simp [nb, HTn.out]; omega) HB.out (by omega)
    have HOn := Lib.hid hown
    have HBn := Lib.hid hbel
    clear hown hbel hkep
    refine wp_region_lit ?_
    refine Kn.pure fh18 rfl rfl .none (Kn.ex_move fh18 (.tmp rfl)) fun fa19 fh19 => ?_
    clear fh18 fa18
    refine Kn.step fh19 rfl rfl .none (Kn.ex_buildSlice fh19 (.cons .const .nil)) fun Ko hKo => ?_
    go_simp
    try go_bits
    refine hKo _ _ fun fa20 fh20 => ?_
    clear hKo Ko fh19 fa19
    refine Kn.known fh20 rfl rfl .none (Kn.ex_append fh20 (.cons (.tmp rfl) (.cons (.tmp rfl) .nil))) hrun fun fa21 fh21 => ?_
    clear fh20 fa20
    clear hrun
    refine Kn.pure fh21 rfl rfl .none (Kn.ex_assign fh21 (.tmp rfl)) fun fa22 fh22 => ?_
    clear fh21 fa21
    refine wpList_nil ?_
    refine Kn.block_normal ?_
    replace fh22 := fh22.cut (.cons (t := 7) rfl (.cons (t := 0) rfl (.cons (t := 1) rfl (.cons (t := 2) rfl .nil))))
    exact hKl10 (m - 1) _ _ (by omega) ⟨j + 1, L + 1, gn, capn, fh22.cut (.cons (t := 7) rfl (.cons (t := 0) rfl (.cons (t := 1) rfl (.cons (t := 2) rfl .nil)))), by omega, Lib.hid (by rw [HL.out]; omega), by have := HL.out; omega, Lib.hid (by rw [List.replicate_succ', ← List.append_assoc]; exact HOn.out), HBn⟩
  obtain rfl : j = z := by omega
  have htest : ((L : Int) % 64 != 56) = false := by
    have : (L : Int) % 64 = 56 := by have := HL.out; have := HZ.out; omega
    rw [this]; rfl
  have h8n : 8 * (t.size : Int) = ((8 * k : Nat) : Int) := by have := HN.out; omega
  refine wp_seq_k fun K11 hK11 => ?_
  refine wp_seq_k fun K12 hK12 => ?_
  refine wp_region_lit ?_
  refine Kn.pure fh14 rfl rfl .none (Kn.ex_move fh14 (.tmp rfl)) fun fa15 fh15 => ?_
  clear fh14 fa14
  refine Kn.step fh15 rfl rfl .none (Kn.ex_len fh15 (.tmp rfl)) fun Ko hKo => ?_
  go_simp
  try go_bits
  refine hKo _ _ fun fa16 fh16 => ?_
  clear hKo Ko fh15 fa15
  refine Kn.step fh16 rfl rfl .none (Kn.ex_bin fh16 (.tmp rfl) .const) fun Ko hKo => ?_
  go_simp
  try go_bits
  refine hKo _ _ fun fa17 fh17 => ?_
  clear hKo Ko fh16 fa16
  refine Kn.step fh17 rfl rfl .none (Kn.ex_bin fh17 (.tmp rfl) .const) fun Ko hKo => ?_
  go_simp
  try go_bits
  refine hKo _ _ fun fa18 fh18 => ?_
  clear hKo Ko fh17 fa17
  clear htest
  refine wpList_nil ?_
  refine hK12 _ _ ?_
  clear hK12 K12
  replace fh18 := fh18.cut (.cons (t := 52) rfl (.cons (t := 7) rfl (.cons (t := 0) rfl (.cons (t := 1) rfl (.cons (t := 2) rfl .nil)))))
  refine Kn.no fh18 (.tmp rfl) ?_
  replace fh18 := fh18.cut (.cons (t := 7) rfl (.cons (t := 0) rfl (.cons (t := 1) rfl (.cons (t := 2) rfl .nil))))
  refine wp_exit ?_
  refine Kn.then_exit ?_
  clear hK11 K11
  refine Kn.then_exit ?_
  clear hKl10 Kl10
  refine Kn.block_exit ?_
  refine hK9 _ _ ?_
  clear hK9 K9
  clear hj hjz
  obtain ⟨l, hl⟩ : ∃ l, nb T ++ [128] ++ List.replicate j 0 = l := ⟨_, rfl⟩
  rw [hl] at HO
  have HLl : Hid (L = l.length) := Lib.hid (by rw [HL.out, ← hl]; simp [nb, HTn.out]; omega)
  have Hl := Lib.hid hl
  clear hl
  obtain ⟨q8, hq8⟩ : ∃ q, 8 * k = q := ⟨_, rfl⟩
  rw [hq8] at h8n
  have hqb : q8 ≤ 3200 := by omega
  refine wp_seq_k fun K13 hK13 => ?_
  refine wp_region_lit ?_
  refine Kn.pure fh18 rfl rfl .none (Kn.ex_move fh18 (.tmp rfl)) fun fa19 fh19 => ?_
  clear fh18 fa18
  refine Kn.step fh19 rfl rfl .none (Kn.ex_len fh19 (.tmp rfl)) fun Ko hKo => ?_
  go_simp
  try go_bits
  refine hKo _ _ fun fa20 fh20 => ?_
  clear hKo Ko fh19 fa19
  refine Kn.step fh20 rfl rfl .none (Kn.ex_bin fh20 .const (.tmp rfl)) fun Ko hKo => ?_
  go_simp
  try go_bits
  refine hKo _ _ fun fa21 fh21 => ?_
  clear hKo Ko fh20 fa20
  refine Kn.pure fh21 rfl rfl .none (Kn.ex_assign fh21 (.tmp rfl)) fun fa22 fh22 => ?_
  clear fh21 fa21
  refine wpList_nil ?_
  refine hK13 _ _ ?_
  clear hK13 K13
  replace fh22 := fh22.cut (.cons (t := 9) rfl (.cons (t := 7) rfl (.cons (t := 1) rfl (.cons (t := 2) rfl .nil))))
  refine wp_seq_k fun K14 hK14 => ?_
  refine wp_region_lit ?_
  refine Kn.step fh22 rfl rfl .none (Kn.ex_buildSlice fh22 .nil) fun Ko hKo => ?_
  go_simp
  try go_bits
  refine hKo _ _ fun fa23 fh23 => ?_
  clear hKo Ko fh22 fa22
  refine Kn.pure fh23 rfl rfl .none (Kn.ex_assign fh23 (.tmp rfl)) fun fa24 fh24 => ?_
  clear fh23 fa23
  refine wpList_nil ?_
  refine hK14 _ _ ?_
  clear hK14 K14
  replace fh24 := fh24.cut (.cons (t := 10) rfl (.cons (t := 9) rfl (.cons (t := 7) rfl (.cons (t := 1) rfl (.cons (t := 2) rfl .nil)))))
  clear h8n
  refine wp_seq_k fun K15 hK15 => ?_
  refine wp_seq_k fun K16 hK16 => ?_
  refine wp_region_lit ?_
  refine Kn.pure fh24 rfl rfl .none (Kn.ex_assign fh24 .const) fun fa25 fh25 => ?_
  clear fh24 fa24
  refine wpList_nil ?_
  refine hK16 _ _ ?_
  clear hK16 K16
  refine wp_block ?_
  refine Kn.loop (fun m a v => ∃ (i q gt capt : Nat), Kn.Kn 354 [(11, .int .i64 (i : Int)), (9, .int .i64 (q : Int)), (10, .slice (some ⟨gt, 0, none⟩) i capt), (7, .slice (some ⟨g, 0, none⟩) L cap), (1, .slice (some ⟨bk, ok, none⟩) 64 ck), (2, .slice (some ⟨bh, oh, none⟩) 8 ch)] a ∧ i + m = 8 ∧ q ≤ 3200 ∧ Hid (q = q8 / 256 ^ i) ∧ gt ≠ g ∧ Hid (OwnI v w.heap.size gt capt (tailL q8 i)) ∧ Hid (OwnI v w.heap.size g cap l) ∧ Hid (Below w.heap.size w v)) 8 ⟨0, q8, _, 0, fh25.cut (.cons (t := 11) rfl (.cons (t := 9) rfl (.cons (t := 10) rfl (.cons (t := 7) rfl (.cons (t := 1) rfl (.cons (t := 2) rfl .nil)))))), rfl, hqb, Lib.hid (by simp), (by have := HO.out.lt'; omega), Lib.hid (by rw [tailL_zero]; exact OwnI.new _ _ HB.out.size), Lib.hid (HO.out.alloc _), Lib.hid (HB.out.alloc HB.out.size _)⟩ ?_
  clear fh25 fa25
  intro m fa26 v hI Kl17 hKl17
  obtain ⟨i, q, gt, capt, fh26, hi, hq, HQ, hgt, HOt, HO, HB⟩ := hI
  by_cases hi8 : i < 8
  · refine wp_seq_k fun K18 hK18 => ?_
    refine wp_seq_k fun K19 hK19 => ?_
    refine wp_region_lit ?_
    refine Kn.pure fh26 rfl rfl .none (Kn.ex_move fh26 (.tmp rfl)) fun fa27 fh27 => ?_
    clear fh26 fa26
    have qd : decide ((i : Int) < 8) = true := decide_eq_true (by omega)
    refine Kn.step fh27 rfl rfl .none (Kn.ex_bin fh27 (.tmp rfl) .const) fun Ko hKo => ?_
    go_simp
    try go_bits
    refine hKo _ _ fun fa28 fh28 => ?_
    clear hKo Ko fh27 fa27
    clear qd
    refine wpList_nil ?_
    refine hK19 _ _ ?_
    clear hK19 K19
    replace fh28 := fh28.cut (.cons (t := 61) rfl (.cons (t := 11) rfl (.cons (t := 9) rfl (.cons (t := 10) rfl (.cons (t := 7) rfl (.cons (t := 1) rfl (.cons (t := 2) rfl .nil)))))))
    refine Kn.yes fh28 (.tmp rfl) ?_
    refine wp_skip ?_
    refine hK18 _ _ ?_
    clear hK18 K18
    replace fh28 := fh28.cut (.cons (t := 11) rfl (.cons (t := 9) rfl (.cons (t := 10) rfl (.cons (t := 7) rfl (.cons (t := 1) rfl (.cons (t := 2) rfl .nil))))))
    refine wp_seq_k fun K20 hK20 => ?_
    refine wp_block ?_
    obtain ⟨x, hx⟩ : ∃ x, q % 256 = x := ⟨_, rfl⟩
    have ax : (q : Int) % 256 = (x : Int) := by omega
    obtain ⟨q', hq'⟩ : ∃ x, q / 256 = x := ⟨_, rfl⟩
    have aq : (q : Int) / 256 = (q' : Int) := by omega
    have hq'b : q' ≤ 3200 := by omega
    have HTL := Lib.hid (tailL_len q8 i (by omega))
    obtain ⟨gn, capn, vn, hrun, hown, hbel, hkep⟩ := pushM w (v.alloc (.cells #[.int .i64 (x : Int)] 3)) 32 v.heap.size 1 1 i capt gt 0 [x] (tailL q8 i) (OwnI.one v _ x HB.out.size) rfl HTL.out.symm (by omega) ((HOt.out.alloc _).news) (HB.out.alloc HB.out.size _) (by omega)
    have HOn : Hid (OwnI vn w.heap.size gn capn (tailL q8 (i + 1))) := Lib.hid (by rw [tailL_succ _ _ hi8, ← HQ.out, hx]; exact hown)
    have hgl := HO.out.lt'
    have HO2 := Lib.hid (hkep.own (Nat.ne_of_lt hgl) (HO.out.alloc _))
    have hgn : gn ≠ g := by
      rcases hkep.at' with e | e
      · omega
      · simp at e; omega
    have HBn := Lib.hid hbel
    have HQ2 : Hid (q' = q8 / 256 ^ (i + 1)) := Lib.hid (by rw [← hq', HQ.out, Nat.pow_succ, Nat.div_div_eq_div_mul])
    clear hown hbel hkep hx hq'
    refine wp_seq_k fun K21 hK21 => ?_
    refine wp_region_lit ?_
    refine Kn.pure fh28 rfl rfl .none (Kn.ex_move fh28 (.tmp rfl)) fun fa29 fh29 => ?_
    clear fh28 fa28
    refine Kn.step fh29 rfl rfl .none (Kn.ex_bin fh29 (.tmp rfl) .const) fun Ko hKo => ?_
    go_simp
    try go_bits
    try rw [ax]
    refine hKo _ _ fun fa30 fh30 => ?_
    clear hKo Ko fh29 fa29
    refine Kn.step fh30 rfl rfl .none (Kn.ex_buildSlice fh30 (.cons (.tmp rfl) .nil)) fun Ko hKo => ?_
    go_simp
    try go_bits
    refine hKo _ _ fun fa31 fh31 => ?_
    clear hKo Ko fh30 fa30
    refine Kn.pure fh31 rfl rfl .none (Kn.ex_move fh31 (.tmp rfl)) fun fa32 fh32 => ?_
    clear fh31 fa31
    refine Kn.known fh32 rfl rfl .none (Kn.ex_append fh32 (.cons (.tmp rfl) (.cons (.tmp rfl) .nil))) hrun fun fa33 fh33 => ?_
    clear fh32 fa32
    clear hrun
    refine Kn.pure fh33 rfl rfl .none (Kn.ex_assign fh33 (.tmp rfl)) fun fa34 fh34 => ?_
    clear fh33 fa33
    refine wpList_nil ?_
    refine hK21 _ _ ?_
    clear hK21 K21
    replace fh34 := fh34.cut (.cons (t := 10) rfl (.cons (t := 11) rfl (.cons (t := 9) rfl (.cons (t := 7) rfl (.cons (t := 1) rfl (.cons (t := 2) rfl .nil))))))
    refine wp_region_lit ?_
    refine Kn.pure fh34 rfl rfl .none (Kn.ex_move fh34 (.tmp rfl)) fun fa35 fh35 => ?_
    clear fh34 fa34
    refine Kn.step fh35 rfl rfl .none (Kn.ex_bin fh35 (.tmp rfl) .const) fun Ko hKo => ?_
    go_simp
    try go_bits
    try rw [aq]
    refine hKo _ _ fun fa36 fh36 => ?_
    clear hKo Ko fh35 fa35
    refine Kn.pure fh36 rfl rfl .none (Kn.ex_assign fh36 (.tmp rfl)) fun fa37 fh37 => ?_
    clear fh36 fa36
    refine wpList_nil ?_
    refine Kn.block_normal ?_
    refine hK20 _ _ ?_
    clear hK20 K20
    replace fh37 := fh37.cut (.cons (t := 9) rfl (.cons (t := 10) rfl (.cons (t := 11) rfl (.cons (t := 7) rfl (.cons (t := 1) rfl (.cons (t := 2) rfl .nil))))))
    clear ax aq
    refine wp_region_lit ?_
    refine Kn.pure fh37 rfl rfl .none (Kn.ex_move fh37 (.tmp rfl)) fun fa38 fh38 => ?_
    clear fh37 fa37
    refine Kn.step fh38 rfl rfl .none (Kn.ex_bin fh38 (.tmp rfl) .const) fun Ko hKo => ?_
    go_simp
    try go_bits
    refine hKo _ _ fun fa39 fh39 => ?_
    clear hKo Ko fh38 fa38
    refine Kn.pure fh39 rfl rfl .none (Kn.ex_assign fh39 (.tmp rfl)) fun fa40 fh40 => ?_
    clear fh39 fa39
    refine wpList_nil ?_
    replace fh40 := fh40.cut (.cons (t := 11) rfl (.cons (t := 9) rfl (.cons (t := 10) rfl (.cons (t := 7) rfl (.cons (t := 1) rfl (.cons (t := 2) rfl .nil))))))
    exact hKl17 (m - 1) _ _ (by omega) ⟨i + 1, q', gn, capn, fh40.cut (.turn (t := 11) rfl (by go_num) (.cons (t := 9) rfl (.turn (t := 10) rfl (by rw [Nat.add_comm]) (.cons (t := 7) rfl (.cons (t := 1) rfl (.cons (t := 2) rfl .nil)))))), by omega, hq'b, HQ2, hgn, HOn, HO2, HBn⟩
  obtain rfl : i = 8 := by omega
  have HTL := Lib.hid (tailL_len q8 8 (by omega))
  refine wp_seq_k fun K18 hK18 => ?_
  refine wp_seq_k fun K19 hK19 => ?_
  refine wp_region_lit ?_
  refine Kn.pure fh26 rfl rfl .none (Kn.ex_move fh26 (.tmp rfl)) fun fa27 fh27 => ?_
  clear fh26 fa26
  have qd : decide (((8 : Nat) : Int) < 8) = false := decide_eq_false (by omega)
  refine Kn.step fh27 rfl rfl .none (Kn.ex_bin fh27 (.tmp rfl) .const) fun Ko hKo => ?_
  go_simp
  try go_bits
  refine hKo _ _ fun fa28 fh28 => ?_
  clear hKo Ko fh27 fa27
  clear qd
  refine wpList_nil ?_
  refine hK19 _ _ ?_
  clear hK19 K19
  replace fh28 := fh28.cut (.cons (t := 61) rfl (.cons (t := 11) rfl (.cons (t := 9) rfl (.cons (t := 10) rfl (.cons (t := 7) rfl (.cons (t := 1) rfl (.cons (t := 2) rfl .nil)))))))
  refine Kn.no fh28 (.tmp rfl) ?_
  replace fh28 := fh28.cut (.cons (t := 11) rfl (.cons (t := 9) rfl (.cons (t := 10) rfl (.cons (t := 7) rfl (.cons (t := 1) rfl (.cons (t := 2) rfl .nil))))))
  refine wp_exit ?_
  refine Kn.then_exit ?_
  clear hK18 K18
  refine Kn.then_exit ?_
  clear hKl17 Kl17
  refine Kn.block_exit ?_
  refine hK15 _ _ ?_
  clear hK15 K15
  replace fh28 := fh28.cut (.cons (t := 10) rfl (.cons (t := 7) rfl (.cons (t := 1) rfl (.cons (t := 2) rfl .nil))))
  clear hi hi8
  obtain ⟨g2, cap2, v2, hrun, hown, hbel, hkep⟩ := pushM w v 32 g cap L 8 capt gt 0 l (tailL q8 8) HO.out HLl.out HTL.out.symm (by omega) HOt.out.news HB.out (by omega)
  have HB2 := Lib.hid hbel
  obtain ⟨PL, hPL⟩ : ∃ PL, T ++ ending k = PL := ⟨_, rfl⟩
  obtain ⟨M, hM⟩ : ∃ M, (L + 8) / 64 = M := ⟨_, rfl⟩
  have HLM : Hid (L + 8 = 64 * M) := Lib.hid (by have := HL.out; have := HZ.out; omega)
  have e1 : nb PL = l ++ tailL q8 8 := by
    rw [← hPL, ← Hl.out, ← hq8, tailL_all, ending, HZ.out]
    simp [nb]
  have HBL : Hid (OwnI v2 w.heap.size g2 cap2 (nb PL)) := Lib.hid (by rw [e1]; exact hown)
  have HPn : Hid ((nb PL).length = L + 8) := Lib.hid (by rw [e1, List.length_append, ← HLl.out, HTL.out])
  have HPl : Hid (PL.length = 64 * M) := Lib.hid (by rw [← HLM.out, ← HPn.out, nb, List.length_map])
  have HPL := Lib.hid hPL
  clear hown hbel hkep hPL hM e1 HOt HO HB HLl Hl HQ hq HZ
  refine wp_seq_k fun K20 hK20 => ?_
  refine wp_region_lit ?_
  refine Kn.pure fh28 rfl rfl .none (Kn.ex_move fh28 (.tmp rfl)) fun fa29 fh29 => ?_
  clear fh28 fa28
  refine Kn.pure fh29 rfl rfl .none (Kn.ex_move fh29 (.tmp rfl)) fun fa30 fh30 => ?_
  clear fh29 fa29
  refine Kn.known fh30 rfl rfl .none (Kn.ex_append fh30 (.cons (.tmp rfl) (.cons (.tmp rfl) .nil))) hrun fun fa31 fh31 => ?_
  clear fh30 fa30
  clear hrun
  refine Kn.pure fh31 rfl rfl .none (Kn.ex_assign fh31 (.tmp rfl)) fun fa32 fh32 => ?_
  clear fh31 fa31
  refine wpList_nil ?_
  refine hK20 _ _ ?_
  clear hK20 K20
  replace fh32 := fh32.cut (.cons (t := 7) rfl (.cons (t := 1) rfl (.cons (t := 2) rfl .nil)))
  have HNh := Lib.hid (NIn.below HH.out HB2.out)
  obtain ⟨gh, caph, v3, hrun, hown, hbel, hkep⟩ := pushM w (v2.alloc (.cells #[] 3)) 32 v2.heap.size 0 0 8 ch bh oh [] hh (OwnI.new v2 _ HB2.out.size) rfl rfl (by omega) (NIn.news (HNh.out.below ((Below.refl _ _).alloc (Nat.le_refl _) _))) (HB2.out.alloc HB2.out.size _) (by omega)
  have HB3 := Lib.hid hbel
  have hg2l := HBL.out.lt'
  have HBL3 := Lib.hid (hkep.own (Nat.ne_of_lt hg2l) (HBL.out.alloc _))
  have HOh : Hid (OwnI v3 w.heap.size gh caph (blocks PL 0)) := Lib.hid hown
  have hgh : gh ≠ g2 := by
    rcases hkep.at' with e | e
    · omega
    · simp at e; omega
  clear hown hbel hkep HBL HNh HB2
  obtain ⟨n2, hn2⟩ : ∃ n, L + 8 = n := ⟨_, rfl⟩
  have HN2 := Lib.hid hn2
  have hn2b : n2 ≤ 508 := by omega
  rw [hn2] at HPn HLM
  replace fh32 := fh32.cut (.turn (t := 7) rfl (by rw [hn2]) (.cons (t := 1) rfl (.cons (t := 2) rfl .nil)))
  clear hn2
  refine wp_seq_k fun K21 hK21 => ?_
  refine wp_region_lit ?_
  refine Kn.step fh32 rfl rfl .none (Kn.ex_buildSlice fh32 .nil) fun Ko hKo => ?_
  go_simp
  try go_bits
  refine hKo _ _ fun fa33 fh33 => ?_
  clear hKo Ko fh32 fa32
  refine Kn.pure fh33 rfl rfl .none (Kn.ex_move fh33 (.tmp rfl)) fun fa34 fh34 => ?_
  clear fh33 fa33
  refine Kn.known fh34 rfl rfl .none (Kn.ex_append fh34 (.cons (.tmp rfl) (.cons (.tmp rfl) .nil))) hrun fun fa35 fh35 => ?_
  clear fh34 fa34
  clear hrun
  refine Kn.pure fh35 rfl rfl .none (Kn.ex_assign fh35 (.tmp rfl)) fun fa36 fh36 => ?_
  clear fh35 fa35
  refine wpList_nil ?_
  refine hK21 _ _ ?_
  clear hK21 K21
  replace fh36 := fh36.cut (.cons (t := 12) rfl (.cons (t := 7) rfl (.cons (t := 1) rfl .nil)))
  refine wp_seq_k fun K22 hK22 => ?_
  refine wp_seq_k fun K23 hK23 => ?_
  refine wp_region_lit ?_
  refine Kn.pure fh36 rfl rfl .none (Kn.ex_assign fh36 .const) fun fa37 fh37 => ?_
  clear fh36 fa36
  refine wpList_nil ?_
  refine hK23 _ _ ?_
  clear hK23 K23
  refine wp_block ?_
  refine Kn.loop (fun m a v => ∃ (p A : Nat), Kn.Kn 354 [(13, .int .i64 (A : Int)), (12, .slice (some ⟨gh, 0, none⟩) 8 caph), (7, .slice (some ⟨g2, 0, none⟩) n2 cap2), (1, .slice (some ⟨bk, ok, none⟩) 64 ck)] a ∧ p + m = M ∧ Hid (A = 64 * p) ∧ A ≤ n2 ∧ Hid (OwnI v w.heap.size gh caph (blocks PL p)) ∧ Hid (OwnI v w.heap.size g2 cap2 (nb PL)) ∧ Hid (Below w.heap.size w v)) M ⟨0, 0, fh37.cut (.cons (t := 13) rfl (.cons (t := 12) rfl (.cons (t := 7) rfl (.cons (t := 1) rfl .nil)))), by omega, Lib.hid rfl, by omega, HOh, HBL3, HB3⟩ ?_
  clear fh37 fa37
  intro m fa38 v hI Kl24 hKl24
  obtain ⟨p, A, fh38, hp, HA, hAn, HOh, HBL, HB⟩ := hI
  by_cases hpM : p < M
  · have hAL : A + 64 ≤ n2 := by have := HA.out; have := HLM.out; omega
    refine wp_seq_k fun K25 hK25 => ?_
    refine wp_seq_k fun K26 hK26 => ?_
    refine wp_region_lit ?_
    refine Kn.pure fh38 rfl rfl .none (Kn.ex_move fh38 (.tmp rfl)) fun fa39 fh39 => ?_
    clear fh38 fa38
    refine Kn.pure fh39 rfl rfl .none (Kn.ex_move fh39 (.tmp rfl)) fun fa40 fh40 => ?_
    clear fh39 fa39
    refine Kn.step fh40 rfl rfl .none (Kn.ex_len fh40 (.tmp rfl)) fun Ko hKo => ?_
    go_simp
    try go_bits
    refine hKo _ _ fun fa41 fh41 => ?_
    clear hKo Ko fh40 fa40
    have qd : decide ((A : Int) < (n2 : Int)) = true := decide_eq_true (by omega)
    have qd2 : decide (A < n2) = true := decide_eq_true (by omega)
    refine Kn.step fh41 rfl rfl .none (Kn.ex_bin fh41 (.tmp rfl) (.tmp rfl)) fun Ko hKo => ?_
    go_simp
    try go_bits
    refine hKo _ _ fun fa42 fh42 => ?_
    clear hKo Ko fh41 fa41
    clear qd qd2
    refine wpList_nil ?_
    refine hK26 _ _ ?_
    clear hK26 K26
    replace fh42 := fh42.cut (.cons (t := 80) rfl (.cons (t := 13) rfl (.cons (t := 12) rfl (.cons (t := 7) rfl (.cons (t := 1) rfl .nil)))))
    refine Kn.yes fh42 (.tmp rfl) ?_
    refine wp_skip ?_
    refine hK25 _ _ ?_
    clear hK25 K25
    replace fh42 := fh42.cut (.cons (t := 13) rfl (.cons (t := 12) rfl (.cons (t := 7) rfl (.cons (t := 1) rfl .nil))))
    refine wp_seq_k fun K27 hK27 => ?_
    refine wp_block ?_
    obtain ⟨r, hr⟩ : ∃ r, (PL.drop (64 * p)).take 64 = r := ⟨_, rfl⟩
    obtain ⟨Hm, hHm⟩ : ∃ h, blocks PL p = h := ⟨_, rfl⟩
    rw [hHm] at HOh
    have HNext : Hid (blocks PL (p + 1) = comp Hm r) := Lib.hid (by rw [blocks, hHm, hr])
    have HHl : Hid (Hm.length = 8) := Lib.hid (by rw [← hHm]; exact blocks_len _ _)
    have HHb : Hid (∀ i, wd Hm i < 4294967296) := Lib.hid (by rw [← hHm]; exact blocks_lt _ _)
    have HBt : Hid (∀ j, j < 64 → wd (nb PL) (A + j) = bt r j) := Lib.hid (fun j hj => by rw [wd_nb, HA.out, ← hr, bt_piece _ _ _ hj])
    obtain ⟨Ws, hW⟩ : ∃ W, sched r = W := ⟨_, rfl⟩
    have HWl : Hid (Ws.length = 64) := Lib.hid (by rw [← hW]; exact spB_len _ _)
    have HWb : Hid (∀ i, wd Ws i < 4294967296) := Lib.hid (by rw [← hW]; exact spB_lt _ _)
    have HWlo : Hid (∀ i, i < 16 → wd Ws i = be4 r i) := Lib.hid (by rw [← hW]; exact sched_lo r)
    have HWhi : Hid (∀ i, 16 ≤ i → i < 64 → wd Ws i = nextW Ws i) := Lib.hid (by rw [← hW]; exact sched_hi r)
    have HWd := Lib.hid hW
    have HCb : Hid (∀ k i, wd (rnds (v8 Hm) Ws k).list i < 4294967296) := Lib.hid (fun k i => ok_list (rnds_ok _ _ (v8_ok _ HHb.out) k) i)
    clear hr hHm hW
    have HS0 := Lib.hid (ws_start HB.out HOh.out HBL.out hgh)
    clear HB HOh HBL
    refine wp_seq_k fun K28 hK28 => ?_
    refine wp_region_lit ?_
    refine Kn.step fh42 rfl rfl .none (Kn.ex_buildSlice fh42 .nil) fun Ko hKo => ?_
    go_simp
    try go_bits
    refine hKo _ _ fun fa43 fh43 => ?_
    clear hKo Ko fh42 fa42
    refine Kn.pure fh43 rfl rfl .none (Kn.ex_assign fh43 (.tmp rfl)) fun fa44 fh44 => ?_
    clear fh43 fa43
    refine wpList_nil ?_
    refine hK28 _ _ ?_
    clear hK28 K28
    replace fh44 := fh44.cut (.cons (t := 14) rfl (.cons (t := 13) rfl (.cons (t := 12) rfl (.cons (t := 7) rfl (.cons (t := 1) rfl .nil)))))
    refine wp_seq_k fun K29 hK29 => ?_
    refine wp_seq_k fun K30 hK30 => ?_
    refine wp_region_lit ?_
    refine Kn.pure fh44 rfl rfl .none (Kn.ex_assign fh44 .const) fun fa45 fh45 => ?_
    clear fh44 fa44
    refine wpList_nil ?_
    refine hK30 _ _ ?_
    clear hK30 K30
    refine lp5 w _ _ _ _ A n2 g2 cap2 gh caph _ _ r Hm (nb PL) Ws _ (Kn.PI.then (Kn.PI.block (Kn.PI.then (Kn.PI.then (Kn.PI.block (Kn.PI.then Kn.PI.body)))))) (fh45.cut (.cons (t := 15) rfl (.cons (t := 14) rfl (.cons (t := 13) rfl (.cons (t := 12) rfl (.cons (t := 7) rfl (.cons (t := 1) rfl .nil))))))) hAL (by omega) HPn HWl HWlo HBt HS0.out fun fa46 u1 gw capw fh46 hS1 => ?_
    clear HS0 HBt fh45 fa45
    refine hK29 _ _ ?_
    clear hK29 K29
    refine wp_seq_k fun K31 hK31 => ?_
    refine wp_seq_k fun K32 hK32 => ?_
    refine wp_region_lit ?_
    refine Kn.pure fh46 rfl rfl .none (Kn.ex_assign fh46 .const) fun fa47 fh47 => ?_
    clear fh46 fa46
    refine wpList_nil ?_
    refine hK32 _ _ ?_
    clear hK32 K32
    refine lp6 w _ _ _ _ A n2 g2 cap2 gh caph _ _ Hm (nb PL) Ws _ (Kn.PI.then (Kn.PI.block (Kn.PI.then (Kn.PI.then (Kn.PI.block (Kn.PI.then Kn.PI.body)))))) (fh47.cut (.cons (t := 16) rfl (.cons (t := 14) rfl (.cons (t := 13) rfl (.cons (t := 12) rfl (.cons (t := 7) rfl (.cons (t := 1) rfl .nil))))))) HWl HWb HWhi hS1 fun fa48 u2 gw capw fh48 hS2 => ?_
    clear hS1 fh47 fa47
    refine hK31 _ _ ?_
    clear hK31 K31
    obtain ⟨gv, cv, u3, hrun, hown, hbel, hkep⟩ := pushM w (u2.alloc (.cells #[] 3)) 32 u2.heap.size 0 0 8 caph gh 0 [] Hm (OwnI.new u2 _ hS2.old.size) rfl HHl.out.symm (by omega) ((hS2.oh.alloc _).news) (hS2.old.alloc hS2.old.size _) (by omega)
    have hS3 := Lib.hid (ws_kept hS2 hkep hbel)
    have HV3 : Hid (RN u3 gv (v8 Hm).list) := Lib.hid (by rw [v8_list Hm HHl.out]; exact hown.rn)
    have hgvh : gv ≠ gh := by
      have := hS2.oh.lt'
      rcases hkep.at' with e | e
      · omega
      · simp at e; omega
    clear hown hbel hkep hS2
    refine wp_seq_k fun K33 hK33 => ?_
    refine wp_region_lit ?_
    refine Kn.step fh48 rfl rfl .none (Kn.ex_buildSlice fh48 .nil) fun Ko hKo => ?_
    go_simp
    try go_bits
    refine hKo _ _ fun fa49 fh49 => ?_
    clear hKo Ko fh48 fa48
    refine Kn.pure fh49 rfl rfl .none (Kn.ex_move fh49 (.tmp rfl)) fun fa50 fh50 => ?_
    clear fh49 fa49
    refine Kn.known fh50 rfl rfl .none (Kn.ex_append fh50 (.cons (.tmp rfl) (.cons (.tmp rfl) .nil))) hrun fun fa51 fh51 => ?_
    clear fh50 fa50
    clear hrun
    refine Kn.pure fh51 rfl rfl .none (Kn.ex_assign fh51 (.tmp rfl)) fun fa52 fh52 => ?_
    clear fh51 fa51
    refine wpList_nil ?_
    refine hK33 _ _ ?_
    clear hK33 K33
    replace fh52 := fh52.cut (.cons (t := 21) rfl (.cons (t := 14) rfl (.cons (t := 13) rfl (.cons (t := 12) rfl (.cons (t := 7) rfl (.cons (t := 1) rfl .nil))))))
    refine wp_seq_k fun K34 hK34 => ?_
    refine wp_seq_k fun K35 hK35 => ?_
    refine wp_region_lit ?_
    refine Kn.pure fh52 rfl rfl .none (Kn.ex_assign fh52 .const) fun fa53 fh53 => ?_
    clear fh52 fa52
    refine wpList_nil ?_
    refine hK35 _ _ ?_
    clear hK35 K35
    refine lp7 w _ _ _ A n2 g2 cap2 gh caph gw capw gv cv bk ok ck Hm (nb PL) Ws (v8 Hm) _ (fh53.cut (.cons (t := 22) rfl (.cons (t := 21) rfl (.cons (t := 14) rfl (.cons (t := 13) rfl (.cons (t := 12) rfl (.cons (t := 7) rfl (.cons (t := 1) rfl .nil)))))))) HWl HWb HCb HK hS3.out HV3.out hgvh fun fa54 u4 gv cv fh54 hS4 hV4 hgv4 => ?_
    clear hS3 HV3 fh53 fa53
    refine hK34 _ _ ?_
    clear hK34 K34
    replace fh54 := fh54.cut (.cons (t := 21) rfl (.cons (t := 13) rfl (.cons (t := 12) rfl (.cons (t := 7) rfl (.cons (t := 1) rfl .nil)))))
    refine wp_seq_k fun K36 hK36 => ?_
    refine wp_region_lit ?_
    refine Kn.pure fh54 rfl rfl .none (Kn.ex_assign fh54 .const) fun fa55 fh55 => ?_
    clear fh54 fa54
    refine wpList_nil ?_
    refine hK36 _ _ ?_
    clear hK36 K36
    refine lp8 w _ _ _ A n2 g2 cap2 gh caph gv cv Hm (nb PL) (rnds (v8 Hm) Ws 64) _ (fh55.cut (.cons (t := 29) rfl (.cons (t := 21) rfl (.cons (t := 13) rfl (.cons (t := 12) rfl (.cons (t := 7) rfl (.cons (t := 1) rfl .nil))))))) HHl HHb (Lib.hid (HCb.out 64)) hgv4 hgh hS4.oh hS4.ob hS4.old hV4 fun fa56 u5 fh56 hO5 hB5 hL5' => ?_
    clear hS4 hV4 fh55 fa55
    refine Kn.block_normal ?_
    refine hK27 _ _ ?_
    clear hK27 K27
    have HO5 := Lib.hid hO5
    have HB5 := Lib.hid hB5
    have HL5 := Lib.hid hL5'
    clear hO5 hB5 hL5'
    refine wp_region_lit ?_
    refine Kn.pure fh56 rfl rfl .none (Kn.ex_move fh56 (.tmp rfl)) fun fa57 fh57 => ?_
    clear fh56 fa56
    refine Kn.step fh57 rfl rfl .none (Kn.ex_bin fh57 (.tmp rfl) .const) fun Ko hKo => ?_
    go_simp
    try go_bits
    refine hKo _ _ fun fa58 fh58 => ?_
    clear hKo Ko fh57 fa57
    refine Kn.pure fh58 rfl rfl .none (Kn.ex_assign fh58 (.tmp rfl)) fun fa59 fh59 => ?_
    clear fh58 fa58
    refine wpList_nil ?_
    replace fh59 := fh59.cut (.cons (t := 13) rfl (.cons (t := 12) rfl (.cons (t := 7) rfl (.cons (t := 1) rfl .nil))))
    exact hKl24 (m - 1) _ _ (by omega) ⟨p + 1, A + 64, fh59.cut (.turn (t := 13) rfl (by go_num) (.cons (t := 12) rfl (.cons (t := 7) rfl (.cons (t := 1) rfl .nil)))), by omega, Lib.hid (by rw [HA.out]; omega), by omega, Lib.hid (by rw [HNext.out, comp, HWd.out]; exact HO5.out), HB5, HL5⟩
  obtain rfl : p = M := by omega
  have hAe : A = n2 := by have := HA.out; have := HLM.out; omega
  refine wp_seq_k fun K25 hK25 => ?_
  refine wp_seq_k fun K26 hK26 => ?_
  refine wp_region_lit ?_
  refine Kn.pure fh38 rfl rfl .none (Kn.ex_move fh38 (.tmp rfl)) fun fa39 fh39 => ?_
  clear fh38 fa38
  refine Kn.pure fh39 rfl rfl .none (Kn.ex_move fh39 (.tmp rfl)) fun fa40 fh40 => ?_
  clear fh39 fa39
  refine Kn.step fh40 rfl rfl .none (Kn.ex_len fh40 (.tmp rfl)) fun Ko hKo => ?_
  go_simp
  try go_bits
  refine hKo _ _ fun fa41 fh41 => ?_
  clear hKo Ko fh40 fa40
  have qd : decide ((A : Int) < (n2 : Int)) = false := decide_eq_false (by omega)
  have qd2 : decide (A < n2) = false := decide_eq_false (by omega)
  refine Kn.step fh41 rfl rfl .none (Kn.ex_bin fh41 (.tmp rfl) (.tmp rfl)) fun Ko hKo => ?_
  go_simp
  try go_bits
  refine hKo _ _ fun fa42 fh42 => ?_
  clear hKo Ko fh41 fa41
  clear qd qd2
  refine wpList_nil ?_
  refine hK26 _ _ ?_
  clear hK26 K26
  replace fh42 := fh42.cut (.cons (t := 80) rfl (.cons (t := 13) rfl (.cons (t := 12) rfl (.cons (t := 7) rfl (.cons (t := 1) rfl .nil)))))
  refine Kn.no fh42 (.tmp rfl) ?_
  replace fh42 := fh42.cut (.cons (t := 13) rfl (.cons (t := 12) rfl (.cons (t := 7) rfl (.cons (t := 1) rfl .nil))))
  refine wp_exit ?_
  refine Kn.then_exit ?_
  clear hK25 K25
  refine Kn.then_exit ?_
  clear hKl24 Kl24
  refine Kn.block_exit ?_
  refine hK22 _ _ ?_
  clear hK22 K22
  replace fh42 := fh42.cut (.cons (t := 12) rfl .nil)
  have HB9 := Lib.hid HB.out
  have HO9 := Lib.hid HOh.out
  refine wp_seq_k fun K27 hK27 => ?_
  refine wp_region_lit ?_
  refine Kn.pure fh42 rfl rfl .none (Kn.ex_assign fh42 .const) fun fa43 fh43 => ?_
  clear fh42 fa42
  refine wpList_nil ?_
  refine hK27 _ _ ?_
  clear hK27 K27
  refine wp_seq_k fun K28 hK28 => ?_
  refine wp_seq_k fun K29 hK29 => ?_
  refine wp_region_lit ?_
  refine Kn.pure fh43 rfl rfl .none (Kn.ex_assign fh43 .const) fun fa44 fh44 => ?_
  clear fh43 fa43
  refine wpList_nil ?_
  refine hK29 _ _ ?_
  clear hK29 K29
  refine lp9 w _ _ gh caph (blocks PL p) _ (Kn.PI.then Kn.PI.body) (fh44.cut (.cons (t := 31) rfl (.cons (t := 30) rfl (.cons (t := 12) rfl .nil)))) (Lib.hid (blocks_len _ _)) (Lib.hid (blocks_lt _ _)) HO9.out HB9.out fun fa45 u9 S fh45 hD9 hB9 => ?_
  clear fh44 fa44
  refine hK28 _ _ ?_
  clear hK28 K28
  refine wp_seq_k fun K30 hK30 => ?_
  refine wp_region_lit ?_
  refine Kn.pure fh45 rfl rfl .none (Kn.ex_move fh45 (.tmp rfl)) fun fa46 fh46 => ?_
  clear fh45 fa45
  refine Kn.pure fh46 rfl rfl .none (Kn.ex_assign fh46 (.tmp rfl)) fun fa47 fh47 => ?_
  clear fh46 fa46
  refine wpList_nil ?_
  refine hK30 _ _ ?_
  clear hK30 K30
  replace fh47 := fh47.cut (.cons (t := 6) rfl .nil)
  refine wp_ret ?_
  refine Kn.ret1 fh47 rfl rfl ⟨?_, hB9⟩
  congr 2
  unfold digB dig
  rw [HTn.out, HPL.out, HPl.out, Nat.mul_div_cancel_left p (by omega), ← hD9]
end Go.Proofs.YteciidnjikcimaaDoor.Sha
