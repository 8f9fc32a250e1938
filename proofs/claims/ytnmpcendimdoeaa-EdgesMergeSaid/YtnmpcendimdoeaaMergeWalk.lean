/- The law EdgesMerge, walked (written by gen_merge.py). -/
import Derived.Test.YtnmpcendimdoeaaEdgV
import Derived.Test.YtnmpcendimdoeaaEdgP
import Derived.Test.YtnmpcendimdoeaaKnPush
namespace Go.Proofs.Ytnmpcendimdoeaa.Edg
open Go Go.RowKit Go.Lib

/-- The first k edges from behind, each with the first one. -/
def bk (zs : List (Int × Int)) : Nat → List (Int × Int)
  | 0 => []
  | k + 1 => bk zs k ++ [ed zs (zs.length - 1 - k), ed zs 0]
theorem bk_len (zs : List (Int × Int)) : ∀ k, (bk zs k).length = 2 * k
  | 0 => rfl
  | k + 1 => by rw [bk, List.length_append, bk_len zs k]; simp; omega
theorem bk_mem (zs : List (Int × Int)) : ∀ k, k ≤ zs.length → ∀ e, e ∈ bk zs k → e ∈ zs
  | 0, _, e, h => by cases h
  | k + 1, hk, e, h => by
    rw [bk, List.mem_append] at h
    rcases h with h | h
    · exact bk_mem zs k (by omega) e h
    · rcases List.mem_cons.1 h with rfl | h
      · rw [ed_at _ _ (by omega)]; exact List.getElem_mem _
      · rw [List.mem_singleton.1 h, ed_at _ _ (by omega)]; exact List.getElem_mem _
theorem bk_all (zs : List (Int × Int)) : ∀ k, k ≤ zs.length → ∀ i, zs.length - k ≤ i → (h : i < zs.length) → zs[i] ∈ bk zs k
  | 0, _, i, h1, h2 => by omega
  | k + 1, hk, i, h1, h2 => by
    rw [bk, List.mem_append]
    by_cases e : i = zs.length - 1 - k
    · refine .inr (List.mem_cons.2 (.inl ?_))
      subst e
      rw [ed_at _ _ h2]
    · exact .inl (bk_all zs k (by omega) i (by omega) h2)
theorem bk_iff (zs : List (Int × Int)) (e : Int × Int) : e ∈ bk zs zs.length ↔ e ∈ zs :=
  ⟨bk_mem zs _ (Nat.le_refl _) e, fun h => by
    obtain ⟨i, hi, rfl⟩ := List.getElem_of_mem h
    exact bk_all zs _ (Nat.le_refl _) i (by omega) hi⟩
theorem NormOf.swap {xs ys zs : List (Int × Int)} (h : NormOf xs ys) (hm : ∀ e, e ∈ xs ↔ e ∈ zs) : NormOf zs ys := ⟨h.srt, fun e => (h.mem e).trans (hm e)⟩

set_option maxRecDepth 100000 in
set_option maxHeartbeats 2000000 in
theorem merge_all (n : Int) (A B : Option Addr) (ca cb : Nat) (xs ys : List (Int × Int)) (w : World) (hx : xs.length ≤ maxLen) (hy : ys.length ≤ maxLen) (hA : EIn w A xs) (hC : EIn w B ys) :
    Calls Try.prog 4 #[.int .i64 n, .slice A xs.length ca, .slice B ys.length cb] w fun e w' => e = .returned (.bool true) ∧ Below w.heap.size w w' := by
  unfold maxLen at hx hy
  refine Kn.calls Try.func4 rfl Try.ntmps4 rfl (.cons (t := 0) rfl (.cons (t := 1) rfl (.cons (t := 2) rfl .nil))) fun fa0 fh0 => ?_
  refine wp_seq_k fun K1 hK1 => ?_
  refine wp_region_lit ?_
  refine Kn.pure fh0 rfl rfl .none (Kn.ex_assign fh0 .const) fun fa1 fh1 => ?_
  clear fh0 fa0
  refine wpList_nil ?_
  refine hK1 _ _ ?_
  clear hK1 K1
  refine wp_seq_k fun K2 hK2 => ?_
  refine wp_seq_k fun K3 hK3 => ?_
  refine wp_region_lit ?_
  refine Kn.call fh1 rfl rfl .none (Kn.ex_call fh1 .nil) Try.call6 (awake_any w) fun e w1 hp => ?_
  obtain ⟨rfl, hb1⟩ := hp
  refine ⟨_, rfl, fun fa2 fh2 => ?_⟩
  clear fh1 fa1
  refine Kn.step fh2 rfl rfl .none (Kn.ex_un fh2 (.tmp rfl)) fun Ko hKo => ?_
  go_simp
  try go_bits
  refine hKo _ _ fun fa3 fh3 => ?_
  clear hKo Ko fh2 fa2
  refine wpList_nil ?_
  refine hK3 _ _ ?_
  clear hK3 K3
  replace fh3 := fh3.cut (.cons (t := 21) rfl (.cons (t := 6) rfl (.cons (t := 0) rfl (.cons (t := 1) rfl (.cons (t := 2) rfl .nil)))))
  refine Kn.no fh3 (.tmp rfl) ?_
  refine wp_skip ?_
  refine hK2 _ _ ?_
  clear hK2 K2
  replace fh3 := fh3.cut (.cons (t := 6) rfl (.cons (t := 0) rfl (.cons (t := 1) rfl (.cons (t := 2) rfl .nil))))
  have HA1 := Lib.hid (hA.on hb1)
  have HC1 := Lib.hid (hC.on hb1)
  have HB1 := Lib.hid hb1
  clear hA hC hb1
  by_cases h1 : (100 : Int) < (xs.length : Int)
  · refine wp_seq_k fun K4 hK4 => ?_
    refine wp_seq_k fun K5 hK5 => ?_
    refine wp_region_lit ?_
    refine Kn.pure fh3 rfl rfl .none (Kn.ex_move fh3 (.tmp rfl)) fun fa4 fh4 => ?_
    clear fh3 fa3
    refine Kn.step fh4 rfl rfl .none (Kn.ex_len fh4 (.tmp rfl)) fun Ko hKo => ?_
    go_simp
    try go_bits
    refine hKo _ _ fun fa5 fh5 => ?_
    clear hKo Ko fh4 fa4
    refine Kn.step fh5 rfl rfl .none (Kn.ex_bin fh5 (.tmp rfl) .const) fun Ko hKo => ?_
    go_simp
    try go_bits
    refine hKo _ _ fun fa6 fh6 => ?_
    clear hKo Ko fh5 fa5
    refine Kn.pure fh6 rfl rfl .none (Kn.ex_move fh6 (.tmp rfl)) fun fa7 fh7 => ?_
    clear fh6 fa6
    refine Kn.skip fh7 rfl rfl (.some rfl rfl rfl) fun fa8 fh8 => ?_
    clear fh7 fa7
    refine Kn.skip fh8 rfl rfl (.some rfl rfl rfl) fun fa9 fh9 => ?_
    clear fh8 fa8
    refine Kn.skip fh9 rfl rfl (.some rfl rfl rfl) fun fa10 fh10 => ?_
    clear fh9 fa9
    refine Kn.pure fh10 rfl rfl .none (Kn.ex_pick fh10 (.tmp rfl) .const) fun fa11 fh11 => ?_
    clear fh10 fa10
    refine wpList_nil ?_
    refine hK5 _ _ ?_
    clear hK5 K5
    replace fh11 := fh11.cut (.cons (t := 29) rfl (.cons (t := 6) rfl (.cons (t := 0) rfl (.cons (t := 1) rfl (.cons (t := 2) rfl .nil)))))
    refine Kn.yes fh11 (.tmp rfl) ?_
    replace fh11 := fh11.cut (.cons (t := 6) rfl (.cons (t := 0) rfl (.cons (t := 1) rfl (.cons (t := 2) rfl .nil))))
    refine wp_seq_k fun K6 hK6 => ?_
    refine wp_region_lit ?_
    refine Kn.pure fh11 rfl rfl .none (Kn.ex_assign fh11 .const) fun fa12 fh12 => ?_
    clear fh11 fa11
    refine wpList_nil ?_
    refine hK6 _ _ ?_
    clear hK6 K6
    refine wp_ret ?_
    refine Kn.then_ret ?_
    exact Kn.ret1 fh12 rfl rfl ⟨rfl, HB1.out⟩
  by_cases h2 : (100 : Int) < (ys.length : Int)
  · refine wp_seq_k fun K4 hK4 => ?_
    refine wp_seq_k fun K5 hK5 => ?_
    refine wp_region_lit ?_
    refine Kn.pure fh3 rfl rfl .none (Kn.ex_move fh3 (.tmp rfl)) fun fa4 fh4 => ?_
    clear fh3 fa3
    refine Kn.step fh4 rfl rfl .none (Kn.ex_len fh4 (.tmp rfl)) fun Ko hKo => ?_
    go_simp
    try go_bits
    refine hKo _ _ fun fa5 fh5 => ?_
    clear hKo Ko fh4 fa4
    refine Kn.step fh5 rfl rfl .none (Kn.ex_bin fh5 (.tmp rfl) .const) fun Ko hKo => ?_
    go_simp
    try go_bits
    refine hKo _ _ fun fa6 fh6 => ?_
    clear hKo Ko fh5 fa5
    refine Kn.pure fh6 rfl rfl .none (Kn.ex_move fh6 (.tmp rfl)) fun fa7 fh7 => ?_
    clear fh6 fa6
    refine Kn.pure fh7 rfl rfl (.some rfl rfl rfl) (Kn.ex_move fh7 (.tmp rfl)) fun fa8 fh8 => ?_
    clear fh7 fa7
    refine Kn.step fh8 rfl rfl (.some rfl rfl rfl) (Kn.ex_len fh8 (.tmp rfl)) fun Ko hKo => ?_
    go_simp
    try go_bits
    refine hKo _ _ fun fa9 fh9 => ?_
    clear hKo Ko fh8 fa8
    refine Kn.step fh9 rfl rfl (.some rfl rfl rfl) (Kn.ex_bin fh9 (.tmp rfl) .const) fun Ko hKo => ?_
    go_simp
    try go_bits
    refine hKo _ _ fun fa10 fh10 => ?_
    clear hKo Ko fh9 fa9
    refine Kn.pure fh10 rfl rfl .none (Kn.ex_pick fh10 (.tmp rfl) (.tmp rfl)) fun fa11 fh11 => ?_
    clear fh10 fa10
    refine wpList_nil ?_
    refine hK5 _ _ ?_
    clear hK5 K5
    replace fh11 := fh11.cut (.cons (t := 29) rfl (.cons (t := 6) rfl (.cons (t := 0) rfl (.cons (t := 1) rfl (.cons (t := 2) rfl .nil)))))
    refine Kn.yes fh11 (.tmp rfl) ?_
    replace fh11 := fh11.cut (.cons (t := 6) rfl (.cons (t := 0) rfl (.cons (t := 1) rfl (.cons (t := 2) rfl .nil))))
    refine wp_seq_k fun K6 hK6 => ?_
    refine wp_region_lit ?_
    refine Kn.pure fh11 rfl rfl .none (Kn.ex_assign fh11 .const) fun fa12 fh12 => ?_
    clear fh11 fa11
    refine wpList_nil ?_
    refine hK6 _ _ ?_
    clear hK6 K6
    refine wp_ret ?_
    refine Kn.then_ret ?_
    exact Kn.ret1 fh12 rfl rfl ⟨rfl, HB1.out⟩
  refine wp_seq_k fun K4 hK4 => ?_
  refine wp_seq_k fun K5 hK5 => ?_
  refine wp_region_lit ?_
  refine Kn.pure fh3 rfl rfl .none (Kn.ex_move fh3 (.tmp rfl)) fun fa4 fh4 => ?_
  clear fh3 fa3
  refine Kn.step fh4 rfl rfl .none (Kn.ex_len fh4 (.tmp rfl)) fun Ko hKo => ?_
  go_simp
  try go_bits
  refine hKo _ _ fun fa5 fh5 => ?_
  clear hKo Ko fh4 fa4
  refine Kn.step fh5 rfl rfl .none (Kn.ex_bin fh5 (.tmp rfl) .const) fun Ko hKo => ?_
  go_simp
  try go_bits
  refine hKo _ _ fun fa6 fh6 => ?_
  clear hKo Ko fh5 fa5
  refine Kn.pure fh6 rfl rfl .none (Kn.ex_move fh6 (.tmp rfl)) fun fa7 fh7 => ?_
  clear fh6 fa6
  refine Kn.pure fh7 rfl rfl (.some rfl rfl rfl) (Kn.ex_move fh7 (.tmp rfl)) fun fa8 fh8 => ?_
  clear fh7 fa7
  refine Kn.step fh8 rfl rfl (.some rfl rfl rfl) (Kn.ex_len fh8 (.tmp rfl)) fun Ko hKo => ?_
  go_simp
  try go_bits
  refine hKo _ _ fun fa9 fh9 => ?_
  clear hKo Ko fh8 fa8
  refine Kn.step fh9 rfl rfl (.some rfl rfl rfl) (Kn.ex_bin fh9 (.tmp rfl) .const) fun Ko hKo => ?_
  go_simp
  try go_bits
  refine hKo _ _ fun fa10 fh10 => ?_
  clear hKo Ko fh9 fa9
  refine Kn.pure fh10 rfl rfl .none (Kn.ex_pick fh10 (.tmp rfl) (.tmp rfl)) fun fa11 fh11 => ?_
  clear fh10 fa10
  refine wpList_nil ?_
  refine hK5 _ _ ?_
  clear hK5 K5
  replace fh11 := fh11.cut (.cons (t := 29) rfl (.cons (t := 6) rfl (.cons (t := 0) rfl (.cons (t := 1) rfl (.cons (t := 2) rfl .nil)))))
  refine Kn.no fh11 (.tmp rfl) ?_
  refine wp_skip ?_
  refine hK4 _ _ ?_
  clear hK4 K4
  replace fh11 := fh11.cut (.cons (t := 6) rfl (.cons (t := 0) rfl (.cons (t := 1) rfl (.cons (t := 2) rfl .nil))))
  have hxs : xs.length ≤ 100 := by omega
  have hys : ys.length ≤ 100 := by omega
  clear h1 h2 hx hy
  obtain ⟨A1, k1, w2, hr1, hO1, hb1⟩ := pushAny w1 (w1.alloc (.cells #[] 27)) 22 (some ⟨w1.heap.size, 0, none⟩) 0 0 [] A ca xs (OwnE.new w1 _ (Nat.le_refl _)) (HA1.out.on ((Below.refl _ w1).alloc (Nat.le_refl _) _)) ((Below.refl _ w1).alloc (Nat.le_refl _) _) (by omega)
  rw [List.nil_append] at hr1 hO1
  obtain ⟨A2, k2, w3, hr2, hO2, hb2⟩ := pushAny w1 w2 22 A1 xs.length k1 xs B cb ys hO1 (HC1.out.on hb1) hb1 (by omega)
  have hzl : (xs ++ ys).length ≤ 200 := by rw [List.length_append]; omega
  have HM : Hid (∀ e, e ∈ xs ++ ys ↔ e ∈ xs ∨ e ∈ ys) := Lib.hid (fun e => List.mem_append)
  generalize xs ++ ys = zs at hr2 hO2 hzl HM
  refine wp_seq_k fun K6 hK6 => ?_
  refine wp_region_lit ?_
  refine Kn.step fh11 rfl rfl .none (Kn.ex_buildSlice fh11 .nil) fun Ko hKo => ?_
  go_simp
  try go_bits
  refine hKo _ _ fun fa12 fh12 => ?_
  clear hKo Ko fh11 fa11
  refine Kn.pure fh12 rfl rfl .none (Kn.ex_move fh12 (.tmp rfl)) fun fa13 fh13 => ?_
  clear fh12 fa12
  refine Kn.known fh13 rfl rfl .none (Kn.ex_append fh13 (.cons (.tmp rfl) (.cons (.tmp rfl) .nil))) hr1 fun fa14 fh14 => ?_
  clear fh13 fa13
  refine Kn.pure fh14 rfl rfl .none (Kn.ex_move fh14 (.tmp rfl)) fun fa15 fh15 => ?_
  clear fh14 fa14
  refine Kn.known fh15 rfl rfl .none (Kn.ex_append fh15 (.cons (.tmp rfl) (.cons (.tmp rfl) .nil))) hr2 fun fa16 fh16 => ?_
  clear fh15 fa15
  refine Kn.pure fh16 rfl rfl .none (Kn.ex_assign fh16 (.tmp rfl)) fun fa17 fh17 => ?_
  clear fh16 fa16
  refine wpList_nil ?_
  refine hK6 _ _ ?_
  clear hK6 K6
  replace fh17 := fh17.cut (.cons (t := 7) rfl (.cons (t := 6) rfl (.cons (t := 0) rfl (.cons (t := 1) rfl (.cons (t := 2) rfl .nil)))))
  have HO2 := Lib.hid hO2.ein
  have HA3 := Lib.hid (HA1.out.on hb2)
  have HC3 := Lib.hid (HC1.out.on hb2)
  have HB3 := Lib.hid (HB1.out.trans (hb2.mono HB1.out.size))
  clear hr1 hr2 hO1 hO2 hb1 hb2 HA1 HC1 HB1
  refine wp_seq_k fun K7 hK7 => ?_
  refine wp_region_lit ?_
  refine Kn.pure fh17 rfl rfl .none (Kn.ex_assign fh17 .const) fun fa18 fh18 => ?_
  clear fh17 fa17
  refine wpList_nil ?_
  refine hK7 _ _ ?_
  clear hK7 K7
  refine wp_seq_k fun K8 hK8 => ?_
  refine wp_seq_k fun K9 hK9 => ?_
  refine wp_region_lit ?_
  refine Kn.pure fh18 rfl rfl .none (Kn.ex_move fh18 (.tmp rfl)) fun fa19 fh19 => ?_
  clear fh18 fa18
  refine Kn.step fh19 rfl rfl .none (Kn.ex_len fh19 (.tmp rfl)) fun Ko hKo => ?_
  go_simp
  try go_bits
  refine hKo _ _ fun fa20 fh20 => ?_
  clear hKo Ko fh19 fa19
  refine Kn.pure fh20 rfl rfl .none (Kn.ex_move fh20 .const) fun fa21 fh21 => ?_
  clear fh20 fa20
  refine wpList_nil ?_
  refine hK9 _ _ ?_
  clear hK9 K9
  replace fh21 := fh21.cut (.cons (t := 37) rfl (.cons (t := 36) rfl (.cons (t := 8) rfl (.cons (t := 7) rfl (.cons (t := 6) rfl (.cons (t := 0) rfl (.cons (t := 1) rfl (.cons (t := 2) rfl .nil))))))))
  refine wp_block ?_
  refine Kn.loop (fun m fr u => ∃ (k nb cb2 : Nat) (Ab : Option Addr), Kn.Kn 116 [(37, .int .i64 (k : Int)), (8, .slice Ab nb cb2), (36, .int .i64 (zs.length : Int)), (7, .slice A2 zs.length k2), (0, .int .i64 n), (1, .slice A xs.length ca), (2, .slice B ys.length cb)] fr ∧ k + m = zs.length ∧ nb = 2 * k ∧ Hid (OwnE u w3.heap.size Ab nb cb2 (bk zs k)) ∧ Hid (Below w3.heap.size w3 u)) zs.length ⟨0, 0, 0, none, fh21.cut (.cons (t := 37) rfl (.cons (t := 8) rfl (.cons (t := 36) rfl (.cons (t := 7) rfl (.cons (t := 0) rfl (.cons (t := 1) rfl (.cons (t := 2) rfl .nil))))))), by omega, rfl, Lib.hid (OwnE.none _ _), Lib.hid (Below.refl _ _)⟩ ?_
  clear fh21 fa21
  intro m10 fa22 u hI Kl10 hKl10
  obtain ⟨k, nb, cb2, Ab, fh22, hk, hnb, HO, HB⟩ := hI
  by_cases hlt : k < zs.length
  · obtain ⟨j, hj⟩ : ∃ j, zs.length - 1 - k = j := ⟨_, rfl⟩
    have hjl : j < zs.length := by omega
    have hz0 : 0 < zs.length := by omega
    have rj : ((zs.length : Int) - 1) - (k : Int) = (j : Int) := by omega
    obtain ⟨ba, oa, rfl, -, ca1, ca2⟩ := (HO2.out.on HB.out) j hjl
    have hz := (HO2.out.on HB.out).cells (i := 0) (by omega)
    rw [Nat.zero_mul, Nat.add_zero] at hz
    obtain ⟨cz1, cz2⟩ := hz
    obtain ⟨x1, hx1⟩ : ∃ x, (ed zs j).1 = x := ⟨_, rfl⟩
    obtain ⟨x2, hx2⟩ : ∃ x, (ed zs j).2 = x := ⟨_, rfl⟩
    obtain ⟨z1, hz1⟩ : ∃ x, (ed zs 0).1 = x := ⟨_, rfl⟩
    obtain ⟨z2, hz2⟩ : ∃ x, (ed zs 0).2 = x := ⟨_, rfl⟩
    rw [hx1] at ca1
    rw [hx2] at ca2
    rw [hz1] at cz1
    rw [hz2] at cz2
    have HK : Hid (bk zs (k + 1) = bk zs k ++ [(x1, x2), (z1, z2)]) := Lib.hid (by rw [bk, hj, ← hx1, ← hx2, ← hz1, ← hz2])
    clear hx1 hx2 hz1 hz2
    obtain ⟨g', k3, u2, hrun, hO3, hb3, -⟩ := push2 w3 u.drew 22 Ab nb cb2 (bk zs k) (x1, x2) (z1, z2) HO.out.drew (Own.below_drew HB.out) (by omega)
    rw [← HK.out] at hO3
    have HO3 := Lib.hid hO3
    have HB3' := Lib.hid hb3
    clear hO3 hb3 HK
    refine wp_seq_k fun K11 hK11 => ?_
    refine wp_region_lit ?_
    refine Kn.step fh22 rfl rfl .none (Kn.ex_bin fh22 (.tmp rfl) (.tmp rfl)) fun Ko hKo => ?_
    go_simp
    try go_bits
    refine hKo _ _ fun fa23 fh23 => ?_
    clear hKo Ko fh22 fa22
    refine wpList_nil ?_
    refine hK11 _ _ ?_
    clear hK11 K11
    refine wp_seq_k fun K12 hK12 => ?_
    refine Kn.yes fh23 (.tmp rfl) ?_
    refine wp_skip ?_
    refine hK12 _ _ ?_
    clear hK12 K12
    replace fh23 := fh23.cut (.cons (t := 37) rfl (.cons (t := 8) rfl (.cons (t := 36) rfl (.cons (t := 7) rfl (.cons (t := 0) rfl (.cons (t := 1) rfl (.cons (t := 2) rfl .nil)))))))
    refine wp_seq_k fun K13 hK13 => ?_
    refine wp_block ?_
    refine wp_seq_k fun K14 hK14 => ?_
    refine wp_region_lit ?_
    refine Kn.pure fh23 rfl rfl .none (Kn.ex_move fh23 (.tmp rfl)) fun fa24 fh24 => ?_
    clear fh23 fa23
    refine Kn.pure fh24 rfl rfl .none (Kn.ex_assign fh24 (.tmp rfl)) fun fa25 fh25 => ?_
    clear fh24 fa24
    refine wpList_nil ?_
    refine hK14 _ _ ?_
    clear hK14 K14
    replace fh25 := fh25.cut (.cons (t := 9) rfl (.cons (t := 37) rfl (.cons (t := 8) rfl (.cons (t := 36) rfl (.cons (t := 7) rfl (.cons (t := 0) rfl (.cons (t := 1) rfl (.cons (t := 2) rfl .nil))))))))
    refine Kn.knPush 11 (by kernel_rfl) fh25 (by kernel_rfl) rfl rfl rfl rfl rfl (Kn.PI.block (Kn.PI.then (Kn.PI.then (Kn.PI.block (Kn.PI.then Kn.PI.body))))) rfl rfl fun fa26 fh26 => ?_
    clear fh25 fa25
    refine Kn.spure fh26 rfl rfl .none (Kn.ex_move fh26 (.tmp rfl)) fun fa27 fh27 => ?_
    clear fh26 fa26
    refine Kn.spure fh27 rfl rfl .none (Kn.ex_move fh27 (.tmp rfl)) fun fa28 fh28 => ?_
    clear fh27 fa27
    refine Kn.sstep fh28 rfl rfl .none (Kn.ex_len fh28 (.tmp rfl)) fun Ko hKo => ?_
    go_simp
    try go_bits
    refine hKo _ fun fa29 fh29 => ?_
    clear hKo Ko fh28 fa28
    refine Kn.sstep fh29 rfl rfl .none (Kn.ex_bin fh29 (.tmp rfl) .const) fun Ko hKo => ?_
    go_simp
    try go_bits
    refine hKo _ fun fa30 fh30 => ?_
    clear hKo Ko fh29 fa29
    refine Kn.spure fh30 rfl rfl .none (Kn.ex_move fh30 (.tmp rfl)) fun fa31 fh31 => ?_
    clear fh30 fa30
    refine Kn.sstep fh31 rfl rfl .none (Kn.ex_bin fh31 (.tmp rfl) (.tmp rfl)) fun Ko hKo => ?_
    go_simp
    try go_bits
    refine hKo _ fun fa32 fh32 => ?_
    clear hKo Ko fh31 fa31
    refine Kn.sstep fh32 rfl rfl .none (Kn.ex_indexAddr fh32 (.tmp rfl) (.tmp rfl)) fun Ko hKo => ?_
    go_simp
    try go_bits
    refine hKo _ fun fa33 fh33 => ?_
    clear hKo Ko fh32 fa32
    refine Kn.sstep fh33 rfl rfl .none (Kn.ex_load fh33 (.tmp rfl)) fun Ko hKo => ?_
    go_simp
    try go_bits
    refine hKo _ fun fa34 fh34 => ?_
    clear hKo Ko fh33 fa33
    refine Kn.spure fh34 rfl rfl .none (Kn.ex_move fh34 (.tmp rfl)) fun fa35 fh35 => ?_
    clear fh34 fa34
    refine Kn.sstep fh35 rfl rfl .none (Kn.ex_indexAddr fh35 (.tmp rfl) .const) fun Ko hKo => ?_
    go_simp
    try go_bits
    refine hKo _ fun fa36 fh36 => ?_
    clear hKo Ko fh35 fa35
    refine Kn.sstep fh36 rfl rfl .none (Kn.ex_load fh36 (.tmp rfl)) fun Ko hKo => ?_
    go_simp
    try go_bits
    refine hKo _ fun fa37 fh37 => ?_
    clear hKo Ko fh36 fa36
    refine wpStill_nil ?_
    refine Kn.step fh37 rfl rfl .none (Kn.ex_buildSlice fh37 (.cons (.tmp rfl) (.cons (.tmp rfl) .nil))) fun Ko hKo => ?_
    go_simp
    try go_bits
    refine hKo _ _ fun fa38 fh38 => ?_
    clear hKo Ko fh37 fa37
    refine Kn.known fh38 rfl rfl .none (Kn.ex_append fh38 (.cons (.tmp rfl) (.cons (.tmp rfl) .nil))) hrun fun fa39 fh39 => ?_
    clear fh38 fa38
    refine Kn.pure fh39 rfl rfl .none (Kn.ex_assign fh39 (.tmp rfl)) fun fa40 fh40 => ?_
    clear fh39 fa39
    refine wpList_nil ?_
    refine Kn.block_normal ?_
    refine hK13 _ _ ?_
    clear hK13 K13
    replace fh40 := fh40.cut (.cons (t := 8) rfl (.cons (t := 37) rfl (.cons (t := 36) rfl (.cons (t := 7) rfl (.cons (t := 0) rfl (.cons (t := 1) rfl (.cons (t := 2) rfl .nil)))))))
    clear hrun ca1 ca2 cz1 cz2 hj rj
    refine wp_region_lit ?_
    refine Kn.step fh40 rfl rfl .none (Kn.ex_bin fh40 (.tmp rfl) .const) fun Ko hKo => ?_
    go_simp
    try go_bits
    refine hKo _ _ fun fa41 fh41 => ?_
    clear hKo Ko fh40 fa40
    refine Kn.pure fh41 rfl rfl .none (Kn.ex_move fh41 (.tmp rfl)) fun fa42 fh42 => ?_
    clear fh41 fa41
    refine wpList_nil ?_
    replace fh42 := fh42.cut (.cons (t := 37) rfl (.cons (t := 8) rfl (.cons (t := 36) rfl (.cons (t := 7) rfl (.cons (t := 0) rfl (.cons (t := 1) rfl (.cons (t := 2) rfl .nil)))))))
    exact hKl10 (m10 - 1) _ _ (by omega) ⟨k + 1, nb + 2, k3, _, fh42.cut (.turn (t := 37) rfl (by go_num) (.cons (t := 8) rfl (.cons (t := 36) rfl (.cons (t := 7) rfl (.cons (t := 0) rfl (.cons (t := 1) rfl (.cons (t := 2) rfl .nil))))))), by omega, by omega, HO3, HB3'⟩
  obtain rfl : k = zs.length := by omega
  refine wp_seq_k fun K11 hK11 => ?_
  refine wp_region_lit ?_
  refine Kn.step fh22 rfl rfl .none (Kn.ex_bin fh22 (.tmp rfl) (.tmp rfl)) fun Ko hKo => ?_
  go_simp
  try go_bits
  refine hKo _ _ fun fa23 fh23 => ?_
  clear hKo Ko fh22 fa22
  refine wpList_nil ?_
  refine hK11 _ _ ?_
  clear hK11 K11
  refine wp_seq_k fun K12 hK12 => ?_
  refine Kn.no fh23 (.tmp rfl) ?_
  replace fh23 := fh23.cut (.cons (t := 37) rfl (.cons (t := 8) rfl (.cons (t := 36) rfl (.cons (t := 7) rfl (.cons (t := 0) rfl (.cons (t := 1) rfl (.cons (t := 2) rfl .nil)))))))
  refine wp_exit ?_
  refine Kn.then_exit ?_
  clear hK12 K12
  refine Kn.then_exit ?_
  clear hKl10 Kl10
  refine Kn.block_exit ?_
  refine hK8 _ _ ?_
  clear hK8 K8
  replace fh23 := fh23.cut (.cons (t := 8) rfl (.cons (t := 7) rfl (.cons (t := 0) rfl (.cons (t := 1) rfl (.cons (t := 2) rfl .nil)))))
  subst hnb
  have hbl := bk_len zs zs.length
  have HE4 := Lib.hid HO.out.ein
  have HZ4 := Lib.hid (HO2.out.on HB.out)
  have HA4 := Lib.hid (HA3.out.on HB.out)
  have HC4 := Lib.hid (HC3.out.on HB.out)
  have HB4 := Lib.hid (HB3.out.trans (HB.out.mono HB3.out.size))
  have HK := Lib.hid (bk_iff zs)
  rw [← hbl] at fh23
  generalize bk zs zs.length = bs at hbl HE4 HK fh23
  clear HO HO2 HA3 HC3 HB HB3
  by_cases hg : Good n zs
  · have HG1 := Lib.hid hg
    have HG2 : Hid (Good n bs) := Lib.hid (hg.of (by omega) (fun e he => (HK.out e).1 he))
    have HG3 : Hid (Good n xs) := Lib.hid (hg.of (by omega) (fun e he => (HM.out e).2 (.inl he)))
    have HG4 : Hid (Good n ys) := Lib.hid (hg.of (by omega) (fun e he => (HM.out e).2 (.inr he)))
    clear hg
    refine wp_seq_k fun K13 hK13 => ?_
    refine wp_region_lit ?_
    refine Kn.pure fh23 rfl rfl .none (Kn.ex_move fh23 (.tmp rfl)) fun fa24 fh24 => ?_
    clear fh23 fa23
    refine Kn.pure fh24 rfl rfl .none (Kn.ex_move fh24 (.tmp rfl)) fun fa25 fh25 => ?_
    clear fh24 fa24
    refine Kn.call fh25 rfl rfl .none (Kn.ex_call fh25 (.cons (.tmp rfl) (.cons (.tmp rfl) .nil))) Try.call11 (norm_yes n A2 k2 zs u HZ4.out HG1.out) fun e w5 hp => ?_
    obtain ⟨X1, n1, c1, l1, rfl, hn1, hN1, hE1, hb5⟩ := hp
    refine ⟨_, rfl, fun fa26 fh26 => ?_⟩
    clear fh25 fa25
    refine Kn.pure fh26 rfl rfl .none (Kn.ex_move fh26 (.tmp rfl)) fun fa27 fh27 => ?_
    clear fh26 fa26
    refine Kn.pure fh27 rfl rfl .none (Kn.ex_extract fh27 (.tmp rfl) rfl) fun fa28 fh28 => ?_
    clear fh27 fa27
    refine Kn.pure fh28 rfl rfl .none (Kn.ex_extract fh28 (.tmp rfl) rfl) fun fa29 fh29 => ?_
    clear fh28 fa28
    refine Kn.pure fh29 rfl rfl .none (Kn.ex_assign fh29 (.tmp rfl)) fun fa30 fh30 => ?_
    clear fh29 fa29
    refine Kn.pure fh30 rfl rfl .none (Kn.ex_assign fh30 (.tmp rfl)) fun fa31 fh31 => ?_
    clear fh30 fa30
    refine wpList_nil ?_
    refine hK13 _ _ ?_
    clear hK13 K13
    replace fh31 := fh31.cut (.cons (t := 11) rfl (.cons (t := 10) rfl (.cons (t := 8) rfl (.cons (t := 0) rfl (.cons (t := 1) rfl (.cons (t := 2) rfl .nil))))))
    subst hn1
    have HN1 := Lib.hid hN1
    have HX5 := Lib.hid hE1
    have HE5 := Lib.hid (HE4.out.on hb5)
    have HA5 := Lib.hid (HA4.out.on hb5)
    have HC5 := Lib.hid (HC4.out.on hb5)
    have HB5 := Lib.hid (HB4.out.trans (hb5.mono HB4.out.size))
    have hl1 := hN1.len
    clear hN1 hE1 hb5 HE4 HZ4 HA4 HC4 HB4
    refine wp_seq_k fun K14 hK14 => ?_
    refine wp_region_lit ?_
    refine Kn.pure fh31 rfl rfl .none (Kn.ex_move fh31 (.tmp rfl)) fun fa32 fh32 => ?_
    clear fh31 fa31
    refine Kn.pure fh32 rfl rfl .none (Kn.ex_move fh32 (.tmp rfl)) fun fa33 fh33 => ?_
    clear fh32 fa32
    refine Kn.call fh33 rfl rfl .none (Kn.ex_call fh33 (.cons (.tmp rfl) (.cons (.tmp rfl) .nil))) Try.call11 (norm_yes n Ab cb2 bs w5 HE5.out HG2.out) fun e w6 hp => ?_
    obtain ⟨X2, n2, c2, l2, rfl, hn2, hN2, hE2, hb6⟩ := hp
    refine ⟨_, rfl, fun fa34 fh34 => ?_⟩
    clear fh33 fa33
    refine Kn.pure fh34 rfl rfl .none (Kn.ex_move fh34 (.tmp rfl)) fun fa35 fh35 => ?_
    clear fh34 fa34
    refine Kn.pure fh35 rfl rfl .none (Kn.ex_extract fh35 (.tmp rfl) rfl) fun fa36 fh36 => ?_
    clear fh35 fa35
    refine Kn.pure fh36 rfl rfl .none (Kn.ex_extract fh36 (.tmp rfl) rfl) fun fa37 fh37 => ?_
    clear fh36 fa36
    refine Kn.pure fh37 rfl rfl .none (Kn.ex_assign fh37 (.tmp rfl)) fun fa38 fh38 => ?_
    clear fh37 fa37
    refine Kn.pure fh38 rfl rfl .none (Kn.ex_assign fh38 (.tmp rfl)) fun fa39 fh39 => ?_
    clear fh38 fa38
    refine wpList_nil ?_
    refine hK14 _ _ ?_
    clear hK14 K14
    replace fh39 := fh39.cut (.cons (t := 13) rfl (.cons (t := 12) rfl (.cons (t := 11) rfl (.cons (t := 10) rfl (.cons (t := 0) rfl (.cons (t := 1) rfl (.cons (t := 2) rfl .nil)))))))
    subst hn2
    have HN2 := Lib.hid hN2
    have HY6 := Lib.hid hE2
    have HX6 := Lib.hid (HX5.out.on hb6)
    have HA6 := Lib.hid (HA5.out.on hb6)
    have HC6 := Lib.hid (HC5.out.on hb6)
    have HB6 := Lib.hid (HB5.out.trans (hb6.mono HB5.out.size))
    have hl2 := hN2.len
    clear hN2 hE2 hb6 HE5 HX5 HA5 HC5 HB5
    refine wp_seq_k fun K15 hK15 => ?_
    refine wp_seq_k fun K16 hK16 => ?_
    refine Kn.still (by kernel_rfl) (by kernel_rfl) ?_
    refine Kn.spure fh39 rfl rfl .none (Kn.ex_move fh39 (.tmp rfl)) fun fa40 fh40 => ?_
    clear fh39 fa39
    refine Kn.sstep fh40 rfl rfl .none (Kn.ex_bin fh40 (.tmp rfl) .const) fun Ko hKo => ?_
    go_simp
    try go_bits
    refine hKo _ fun fa41 fh41 => ?_
    clear hKo Ko fh40 fa40
    refine Kn.spure fh41 rfl rfl .none (Kn.ex_move fh41 (.tmp rfl)) fun fa42 fh42 => ?_
    clear fh41 fa41
    refine Kn.sstep fh42 rfl rfl .none (Kn.ex_bin fh42 (.tmp rfl) .const) fun Ko hKo => ?_
    go_simp
    try go_bits
    refine hKo _ fun fa43 fh43 => ?_
    clear hKo Ko fh42 fa42
    refine Kn.sstep fh43 rfl rfl .none (Kn.ex_bin fh43 (.tmp rfl) (.tmp rfl)) fun Ko hKo => ?_
    go_simp
    try go_bits
    refine hKo _ fun fa44 fh44 => ?_
    clear hKo Ko fh43 fa43
    refine wpStill_nil ?_
    refine hK16 _ _ ?_
    clear hK16 K16
    replace fh44 := fh44.cut (.cons (t := 71) rfl (.cons (t := 12) rfl (.cons (t := 11) rfl (.cons (t := 10) rfl (.cons (t := 0) rfl (.cons (t := 1) rfl (.cons (t := 2) rfl .nil)))))))
    refine Kn.no fh44 (.tmp rfl) ?_
    refine wp_skip ?_
    refine hK15 _ _ ?_
    clear hK15 K15
    replace fh44 := fh44.cut (.cons (t := 12) rfl (.cons (t := 11) rfl (.cons (t := 10) rfl (.cons (t := 0) rfl (.cons (t := 1) rfl (.cons (t := 2) rfl .nil))))))
    refine Kn.gen (fun w7 => Below w6.heap.size w6 w7) (Own.below_drew (Below.refl _ _)) fun w7 hb7 => ?_
    have HY7 := Lib.hid (HY6.out.on hb7)
    have HX7 := Lib.hid (HX6.out.on hb7)
    have HA7 := Lib.hid (HA6.out.on hb7)
    have HC7 := Lib.hid (HC6.out.on hb7)
    have HB7 := Lib.hid (HB6.out.trans (hb7.mono HB6.out.size))
    clear hb7 HY6 HX6 HA6 HC6 HB6
    refine wp_seq_k fun K17 hK17 => ?_
    refine wp_seq_k fun K18 hK18 => ?_
    refine wp_region_lit ?_
    refine Kn.pure fh44 rfl rfl .none (Kn.ex_move fh44 (.tmp rfl)) fun fa45 fh45 => ?_
    clear fh44 fa44
    refine Kn.step fh45 rfl rfl .none (Kn.ex_bin fh45 (.tmp rfl) .const) fun Ko hKo => ?_
    go_simp
    try go_bits
    refine hKo _ _ fun fa46 fh46 => ?_
    clear hKo Ko fh45 fa45
    refine wpList_nil ?_
    refine hK18 _ _ ?_
    clear hK18 K18
    replace fh46 := fh46.cut (.cons (t := 73) rfl (.cons (t := 12) rfl (.cons (t := 10) rfl (.cons (t := 0) rfl (.cons (t := 1) rfl (.cons (t := 2) rfl .nil))))))
    refine Kn.no fh46 (.tmp rfl) ?_
    refine wp_skip ?_
    refine hK17 _ _ ?_
    clear hK17 K17
    replace fh46 := fh46.cut (.cons (t := 12) rfl (.cons (t := 10) rfl (.cons (t := 0) rfl (.cons (t := 1) rfl (.cons (t := 2) rfl .nil)))))
    refine wp_seq_k fun K19 hK19 => ?_
    refine wp_region_lit ?_
    refine Kn.pure fh46 rfl rfl .none (Kn.ex_move fh46 (.tmp rfl)) fun fa47 fh47 => ?_
    clear fh46 fa46
    refine Kn.pure fh47 rfl rfl .none (Kn.ex_move fh47 (.tmp rfl)) fun fa48 fh48 => ?_
    clear fh47 fa47
    refine Kn.call fh48 rfl rfl .none (Kn.ex_call fh48 (.cons (.tmp rfl) (.cons (.tmp rfl) .nil))) Try.call11 (norm_yes n A ca xs w7 HA7.out HG3.out) fun e w8 hp => ?_
    obtain ⟨X3, n3, c3, l3, rfl, hn3, hN3, hE3, hb8⟩ := hp
    refine ⟨_, rfl, fun fa49 fh49 => ?_⟩
    clear fh48 fa48
    refine Kn.pure fh49 rfl rfl .none (Kn.ex_move fh49 (.tmp rfl)) fun fa50 fh50 => ?_
    clear fh49 fa49
    refine Kn.pure fh50 rfl rfl .none (Kn.ex_extract fh50 (.tmp rfl) rfl) fun fa51 fh51 => ?_
    clear fh50 fa50
    refine Kn.pure fh51 rfl rfl .none (Kn.ex_extract fh51 (.tmp rfl) rfl) fun fa52 fh52 => ?_
    clear fh51 fa51
    refine Kn.pure fh52 rfl rfl .none (Kn.ex_assign fh52 (.tmp rfl)) fun fa53 fh53 => ?_
    clear fh52 fa52
    refine Kn.pure fh53 rfl rfl .none (Kn.ex_assign fh53 (.tmp rfl)) fun fa54 fh54 => ?_
    clear fh53 fa53
    refine wpList_nil ?_
    refine hK19 _ _ ?_
    clear hK19 K19
    replace fh54 := fh54.cut (.cons (t := 15) rfl (.cons (t := 14) rfl (.cons (t := 12) rfl (.cons (t := 10) rfl (.cons (t := 0) rfl (.cons (t := 2) rfl .nil))))))
    subst hn3
    have HN3 := Lib.hid hN3
    have HP8 := Lib.hid hE3
    have HY8 := Lib.hid (HY7.out.on hb8)
    have HX8 := Lib.hid (HX7.out.on hb8)
    have HC8 := Lib.hid (HC7.out.on hb8)
    have HB8 := Lib.hid (HB7.out.trans (hb8.mono HB7.out.size))
    have hl3 := hN3.len
    clear hN3 hE3 hb8 HY7 HX7 HA7 HC7 HB7
    refine wp_seq_k fun K20 hK20 => ?_
    refine wp_region_lit ?_
    refine Kn.pure fh54 rfl rfl .none (Kn.ex_move fh54 (.tmp rfl)) fun fa55 fh55 => ?_
    clear fh54 fa54
    refine Kn.pure fh55 rfl rfl .none (Kn.ex_move fh55 (.tmp rfl)) fun fa56 fh56 => ?_
    clear fh55 fa55
    refine Kn.call fh56 rfl rfl .none (Kn.ex_call fh56 (.cons (.tmp rfl) (.cons (.tmp rfl) .nil))) Try.call11 (norm_yes n B cb ys w8 HC8.out HG4.out) fun e w9 hp => ?_
    obtain ⟨X4, n4, c4, l4, rfl, hn4, hN4, hE4, hb9⟩ := hp
    refine ⟨_, rfl, fun fa57 fh57 => ?_⟩
    clear fh56 fa56
    refine Kn.pure fh57 rfl rfl .none (Kn.ex_move fh57 (.tmp rfl)) fun fa58 fh58 => ?_
    clear fh57 fa57
    refine Kn.pure fh58 rfl rfl .none (Kn.ex_extract fh58 (.tmp rfl) rfl) fun fa59 fh59 => ?_
    clear fh58 fa58
    refine Kn.pure fh59 rfl rfl .none (Kn.ex_extract fh59 (.tmp rfl) rfl) fun fa60 fh60 => ?_
    clear fh59 fa59
    refine Kn.pure fh60 rfl rfl .none (Kn.ex_assign fh60 (.tmp rfl)) fun fa61 fh61 => ?_
    clear fh60 fa60
    refine Kn.pure fh61 rfl rfl .none (Kn.ex_assign fh61 (.tmp rfl)) fun fa62 fh62 => ?_
    clear fh61 fa61
    refine wpList_nil ?_
    refine hK20 _ _ ?_
    clear hK20 K20
    replace fh62 := fh62.cut (.cons (t := 17) rfl (.cons (t := 16) rfl (.cons (t := 15) rfl (.cons (t := 14) rfl (.cons (t := 12) rfl (.cons (t := 10) rfl (.cons (t := 0) rfl .nil)))))))
    subst hn4
    have HN4 := Lib.hid hN4
    have HQ9 := Lib.hid hE4
    have HP9 := Lib.hid (HP8.out.on hb9)
    have HY9 := Lib.hid (HY8.out.on hb9)
    have HX9 := Lib.hid (HX8.out.on hb9)
    have HB9 := Lib.hid (HB8.out.trans (hb9.mono HB8.out.size))
    have hl4 := hN4.len
    clear hN4 hE4 hb9 HP8 HY8 HX8 HC8 HB8
    obtain ⟨D1, d1, v1, hr1, hO1, hb1⟩ := pushAny w9 (w9.alloc (.cells #[] 27)) 22 (some ⟨w9.heap.size, 0, none⟩) 0 0 [] X4 c4 l4 (OwnE.new w9 _ (Nat.le_refl _)) (HQ9.out.on ((Below.refl _ w9).alloc (Nat.le_refl _) _)) ((Below.refl _ w9).alloc (Nat.le_refl _) _) (by omega)
    rw [List.nil_append] at hr1 hO1
    obtain ⟨D2, d2, v2, hr2, hO2, hb2⟩ := pushAny w9 v1 22 D1 l4.length d1 l4 X3 c3 l3 hO1 (HP9.out.on hb1) hb1 (by omega)
    have hsl : (l4 ++ l3).length ≤ 200 := by rw [List.length_append]; omega
    have HS : Hid (∀ e, e ∈ l4 ++ l3 ↔ e ∈ zs) := Lib.hid (fun e => by rw [List.mem_append, HN4.out.mem e, HN3.out.mem e, HM.out e]; exact Or.comm)
    generalize l4 ++ l3 = ss at hr2 hO2 hsl HS
    have HG5 : Hid (Good n ss) := Lib.hid (HG1.out.of (by omega) (fun e he => (HS.out e).1 he))
    have HO2 := Lib.hid hO2.ein
    have HBv := Lib.hid hb2
    clear hO1 hO2 hb1 hb2
    refine wp_seq_k fun K21 hK21 => ?_
    refine wp_region_lit ?_
    refine Kn.pure fh62 rfl rfl .none (Kn.ex_move fh62 (.tmp rfl)) fun fa63 fh63 => ?_
    clear fh62 fa62
    refine Kn.step fh63 rfl rfl .none (Kn.ex_buildSlice fh63 .nil) fun Ko hKo => ?_
    go_simp
    try go_bits
    refine hKo _ _ fun fa64 fh64 => ?_
    clear hKo Ko fh63 fa63
    refine Kn.pure fh64 rfl rfl .none (Kn.ex_move fh64 (.tmp rfl)) fun fa65 fh65 => ?_
    clear fh64 fa64
    refine Kn.known fh65 rfl rfl .none (Kn.ex_append fh65 (.cons (.tmp rfl) (.cons (.tmp rfl) .nil))) hr1 fun fa66 fh66 => ?_
    clear fh65 fa65
    refine Kn.pure fh66 rfl rfl .none (Kn.ex_move fh66 (.tmp rfl)) fun fa67 fh67 => ?_
    clear fh66 fa66
    refine Kn.known fh67 rfl rfl .none (Kn.ex_append fh67 (.cons (.tmp rfl) (.cons (.tmp rfl) .nil))) hr2 fun fa68 fh68 => ?_
    clear fh67 fa67
    refine Kn.call fh68 rfl rfl .none (Kn.ex_call fh68 (.cons (.tmp rfl) (.cons (.tmp rfl) .nil))) Try.call11 (norm_yes n D2 d2 ss v2 HO2.out HG5.out) fun e w10 hp => ?_
    obtain ⟨X5, n5, c5, l5, rfl, hn5, hN5, hE5, hb10⟩ := hp
    refine ⟨_, rfl, fun fa69 fh69 => ?_⟩
    clear fh68 fa68
    refine Kn.pure fh69 rfl rfl .none (Kn.ex_move fh69 (.tmp rfl)) fun fa70 fh70 => ?_
    clear fh69 fa69
    refine Kn.pure fh70 rfl rfl .none (Kn.ex_extract fh70 (.tmp rfl) rfl) fun fa71 fh71 => ?_
    clear fh70 fa70
    refine Kn.pure fh71 rfl rfl .none (Kn.ex_extract fh71 (.tmp rfl) rfl) fun fa72 fh72 => ?_
    clear fh71 fa71
    refine Kn.pure fh72 rfl rfl .none (Kn.ex_assign fh72 (.tmp rfl)) fun fa73 fh73 => ?_
    clear fh72 fa72
    refine Kn.pure fh73 rfl rfl .none (Kn.ex_assign fh73 (.tmp rfl)) fun fa74 fh74 => ?_
    clear fh73 fa73
    refine wpList_nil ?_
    refine hK21 _ _ ?_
    clear hK21 K21
    replace fh74 := fh74.cut (.cons (t := 19) rfl (.cons (t := 18) rfl (.cons (t := 17) rfl (.cons (t := 15) rfl (.cons (t := 12) rfl (.cons (t := 10) rfl .nil))))))
    subst hn5
    obtain rfl : l1 = l2 := HN1.out.unique (HN2.out.swap HK.out)
    obtain rfl : l1 = l5 := HN1.out.unique (hN5.swap HS.out)
    have HZ10 := Lib.hid hE5
    have HX10 := Lib.hid ((HX9.out.on HBv.out).on hb10)
    have HY10 := Lib.hid ((HY9.out.on HBv.out).on hb10)
    have HB10 := Lib.hid (HB9.out.trans ((HBv.out.trans (hb10.mono HBv.out.size)).mono HB9.out.size))
    have hs1 := edgesSame_any X1 X2 c1 c2 l1 l1 w10 (by unfold maxLen; omega) (by unfold maxLen; omega) HX10.out HY10.out
    have hs2 : ∀ q, Calls Try.prog 9 #[.slice X1 l1.length c1, .slice X5 l1.length c5] (w10.drewN q) _ := fun q => edgesSame_any X1 X5 c1 c5 l1 l1 (w10.drewN q) (by unfold maxLen; omega) (by unfold maxLen; omega) (HX10.out.drewN q) (HZ10.out.drewN q)
    rw [decide_eq_true rfl] at hs1 hs2
    clear hr1 hr2 hN5 hE5 hb10
    refine wp_seq_k fun K22 hK22 => ?_
    refine wp_region_lit ?_
    refine Kn.pure fh74 rfl rfl .none (Kn.ex_move fh74 (.tmp rfl)) fun fa75 fh75 => ?_
    clear fh74 fa74
    refine Kn.step fh75 rfl rfl .none (Kn.ex_bin fh75 (.tmp rfl) .const) fun Ko hKo => ?_
    go_simp
    try go_bits
    refine hKo _ _ fun fa76 fh76 => ?_
    clear hKo Ko fh75 fa75
    refine Kn.pure fh76 rfl rfl .none (Kn.ex_move fh76 (.tmp rfl)) fun fa77 fh77 => ?_
    clear fh76 fa76
    refine Kn.pure fh77 rfl rfl (.some rfl rfl rfl) (Kn.ex_move fh77 (.tmp rfl)) fun fa78 fh78 => ?_
    clear fh77 fa77
    refine Kn.step fh78 rfl rfl (.some rfl rfl rfl) (Kn.ex_bin fh78 (.tmp rfl) .const) fun Ko hKo => ?_
    go_simp
    try go_bits
    refine hKo _ _ fun fa79 fh79 => ?_
    clear hKo Ko fh78 fa78
    refine Kn.pure fh79 rfl rfl .none (Kn.ex_pick fh79 (.tmp rfl) (.tmp rfl)) fun fa80 fh80 => ?_
    clear fh79 fa79
    refine Kn.pure fh80 rfl rfl .none (Kn.ex_move fh80 (.tmp rfl)) fun fa81 fh81 => ?_
    clear fh80 fa80
    refine Kn.pure fh81 rfl rfl (.some rfl rfl rfl) (Kn.ex_move fh81 (.tmp rfl)) fun fa82 fh82 => ?_
    clear fh81 fa81
    refine Kn.step fh82 rfl rfl (.some rfl rfl rfl) (Kn.ex_bin fh82 (.tmp rfl) .const) fun Ko hKo => ?_
    go_simp
    try go_bits
    refine hKo _ _ fun fa83 fh83 => ?_
    clear hKo Ko fh82 fa82
    refine Kn.pure fh83 rfl rfl .none (Kn.ex_pick fh83 (.tmp rfl) (.tmp rfl)) fun fa84 fh84 => ?_
    clear fh83 fa83
    refine Kn.pure fh84 rfl rfl .none (Kn.ex_move fh84 (.tmp rfl)) fun fa85 fh85 => ?_
    clear fh84 fa84
    refine Kn.pure fh85 rfl rfl (.some rfl rfl rfl) (Kn.ex_move fh85 (.tmp rfl)) fun fa86 fh86 => ?_
    clear fh85 fa85
    refine Kn.pure fh86 rfl rfl (.some rfl rfl rfl) (Kn.ex_move fh86 (.tmp rfl)) fun fa87 fh87 => ?_
    clear fh86 fa86
    refine Kn.call fh87 rfl rfl (.some rfl rfl rfl) (Kn.ex_call fh87 (.cons (.tmp rfl) (.cons (.tmp rfl) .nil))) Try.call9 (hs1) fun e w11 hp => ?_
    obtain ⟨rfl, q1, rfl⟩ := hp
    refine ⟨_, rfl, fun fa88 fh88 => ?_⟩
    clear fh87 fa87
    refine Kn.pure fh88 rfl rfl .none (Kn.ex_pick fh88 (.tmp rfl) (.tmp rfl)) fun fa89 fh89 => ?_
    clear fh88 fa88
    refine Kn.pure fh89 rfl rfl .none (Kn.ex_move fh89 (.tmp rfl)) fun fa90 fh90 => ?_
    clear fh89 fa89
    refine Kn.pure fh90 rfl rfl (.some rfl rfl rfl) (Kn.ex_move fh90 (.tmp rfl)) fun fa91 fh91 => ?_
    clear fh90 fa90
    refine Kn.pure fh91 rfl rfl (.some rfl rfl rfl) (Kn.ex_move fh91 (.tmp rfl)) fun fa92 fh92 => ?_
    clear fh91 fa91
    refine Kn.call fh92 rfl rfl (.some rfl rfl rfl) (Kn.ex_call fh92 (.cons (.tmp rfl) (.cons (.tmp rfl) .nil))) Try.call9 (hs2 _) fun e w12 hp => ?_
    obtain ⟨rfl, q2, rfl⟩ := hp
    refine ⟨_, rfl, fun fa93 fh93 => ?_⟩
    clear fh92 fa92
    refine Kn.pure fh93 rfl rfl .none (Kn.ex_pick fh93 (.tmp rfl) (.tmp rfl)) fun fa94 fh94 => ?_
    clear fh93 fa93
    refine Kn.pure fh94 rfl rfl .none (Kn.ex_assign fh94 (.tmp rfl)) fun fa95 fh95 => ?_
    clear fh94 fa94
    refine wpList_nil ?_
    refine hK22 _ _ ?_
    clear hK22 K22
    replace fh95 := fh95.cut (.cons (t := 6) rfl .nil)
    refine wp_ret ?_
    exact Kn.ret1 fh95 rfl rfl ⟨by simp, ⟨HB10.out.1, HB10.out.2, HB10.out.3, HB10.out.4, HB10.out.5⟩⟩
  · have hg2 : ¬ Good n bs := fun h => hg (h.of (by omega) (fun e he => (HK.out e).2 he))
    have hn1 := norm_no n A2 k2 zs u HZ4.out hg
    unfold faultV at hn1
    refine wp_seq_k fun K13 hK13 => ?_
    refine wp_region_lit ?_
    refine Kn.pure fh23 rfl rfl .none (Kn.ex_move fh23 (.tmp rfl)) fun fa24 fh24 => ?_
    clear fh23 fa23
    refine Kn.pure fh24 rfl rfl .none (Kn.ex_move fh24 (.tmp rfl)) fun fa25 fh25 => ?_
    clear fh24 fa24
    refine Kn.call fh25 rfl rfl .none (Kn.ex_call fh25 (.cons (.tmp rfl) (.cons (.tmp rfl) .nil))) Try.call11 (hn1) fun e w5 hp => ?_
    obtain ⟨rfl, hb5⟩ := hp
    refine ⟨_, rfl, fun fa26 fh26 => ?_⟩
    clear fh25 fa25
    refine Kn.pure fh26 rfl rfl .none (Kn.ex_move fh26 (.tmp rfl)) fun fa27 fh27 => ?_
    clear fh26 fa26
    refine Kn.pure fh27 rfl rfl .none (Kn.ex_extract fh27 (.tmp rfl) rfl) fun fa28 fh28 => ?_
    clear fh27 fa27
    refine Kn.pure fh28 rfl rfl .none (Kn.ex_extract fh28 (.tmp rfl) rfl) fun fa29 fh29 => ?_
    clear fh28 fa28
    refine Kn.pure fh29 rfl rfl .none (Kn.ex_assign fh29 (.tmp rfl)) fun fa30 fh30 => ?_
    clear fh29 fa29
    refine Kn.pure fh30 rfl rfl .none (Kn.ex_assign fh30 (.tmp rfl)) fun fa31 fh31 => ?_
    clear fh30 fa30
    refine wpList_nil ?_
    refine hK13 _ _ ?_
    clear hK13 K13
    replace fh31 := fh31.cut (.cons (t := 11) rfl (.cons (t := 10) rfl (.cons (t := 8) rfl (.cons (t := 0) rfl (.cons (t := 1) rfl (.cons (t := 2) rfl .nil))))))
    have hn2 := norm_no n Ab cb2 bs w5 (HE4.out.on hb5) hg2
    unfold faultV at hn2
    clear hn1
    refine wp_seq_k fun K14 hK14 => ?_
    refine wp_region_lit ?_
    refine Kn.pure fh31 rfl rfl .none (Kn.ex_move fh31 (.tmp rfl)) fun fa32 fh32 => ?_
    clear fh31 fa31
    refine Kn.pure fh32 rfl rfl .none (Kn.ex_move fh32 (.tmp rfl)) fun fa33 fh33 => ?_
    clear fh32 fa32
    refine Kn.call fh33 rfl rfl .none (Kn.ex_call fh33 (.cons (.tmp rfl) (.cons (.tmp rfl) .nil))) Try.call11 (hn2) fun e w6 hp => ?_
    obtain ⟨rfl, hb6⟩ := hp
    refine ⟨_, rfl, fun fa34 fh34 => ?_⟩
    clear fh33 fa33
    refine Kn.pure fh34 rfl rfl .none (Kn.ex_move fh34 (.tmp rfl)) fun fa35 fh35 => ?_
    clear fh34 fa34
    refine Kn.pure fh35 rfl rfl .none (Kn.ex_extract fh35 (.tmp rfl) rfl) fun fa36 fh36 => ?_
    clear fh35 fa35
    refine Kn.pure fh36 rfl rfl .none (Kn.ex_extract fh36 (.tmp rfl) rfl) fun fa37 fh37 => ?_
    clear fh36 fa36
    refine Kn.pure fh37 rfl rfl .none (Kn.ex_assign fh37 (.tmp rfl)) fun fa38 fh38 => ?_
    clear fh37 fa37
    refine Kn.pure fh38 rfl rfl .none (Kn.ex_assign fh38 (.tmp rfl)) fun fa39 fh39 => ?_
    clear fh38 fa38
    refine wpList_nil ?_
    refine hK14 _ _ ?_
    clear hK14 K14
    replace fh39 := fh39.cut (.cons (t := 13) rfl (.cons (t := 12) rfl (.cons (t := 11) rfl (.cons (t := 10) rfl (.cons (t := 0) rfl (.cons (t := 1) rfl (.cons (t := 2) rfl .nil)))))))
    clear hn2
    refine wp_seq_k fun K15 hK15 => ?_
    refine wp_seq_k fun K16 hK16 => ?_
    refine Kn.still (by kernel_rfl) (by kernel_rfl) ?_
    refine Kn.spure fh39 rfl rfl .none (Kn.ex_move fh39 (.tmp rfl)) fun fa40 fh40 => ?_
    clear fh39 fa39
    refine Kn.sstep fh40 rfl rfl .none (Kn.ex_bin fh40 (.tmp rfl) .const) fun Ko hKo => ?_
    go_simp
    try go_bits
    refine hKo _ fun fa41 fh41 => ?_
    clear hKo Ko fh40 fa40
    refine Kn.spure fh41 rfl rfl .none (Kn.ex_move fh41 (.tmp rfl)) fun fa42 fh42 => ?_
    clear fh41 fa41
    refine Kn.sstep fh42 rfl rfl .none (Kn.ex_bin fh42 (.tmp rfl) .const) fun Ko hKo => ?_
    go_simp
    try go_bits
    refine hKo _ fun fa43 fh43 => ?_
    clear hKo Ko fh42 fa42
    refine Kn.sstep fh43 rfl rfl .none (Kn.ex_bin fh43 (.tmp rfl) (.tmp rfl)) fun Ko hKo => ?_
    go_simp
    try go_bits
    refine hKo _ fun fa44 fh44 => ?_
    clear hKo Ko fh43 fa43
    refine wpStill_nil ?_
    refine hK16 _ _ ?_
    clear hK16 K16
    replace fh44 := fh44.cut (.cons (t := 71) rfl (.cons (t := 12) rfl (.cons (t := 11) rfl (.cons (t := 10) rfl (.cons (t := 0) rfl (.cons (t := 1) rfl (.cons (t := 2) rfl .nil)))))))
    refine Kn.no fh44 (.tmp rfl) ?_
    refine wp_skip ?_
    refine hK15 _ _ ?_
    clear hK15 K15
    replace fh44 := fh44.cut (.cons (t := 12) rfl (.cons (t := 11) rfl (.cons (t := 10) rfl (.cons (t := 0) rfl (.cons (t := 1) rfl (.cons (t := 2) rfl .nil))))))
    refine wp_seq_k fun K17 hK17 => ?_
    refine wp_seq_k fun K18 hK18 => ?_
    refine wp_region_lit ?_
    refine Kn.pure fh44 rfl rfl .none (Kn.ex_move fh44 (.tmp rfl)) fun fa45 fh45 => ?_
    clear fh44 fa44
    refine Kn.step fh45 rfl rfl .none (Kn.ex_bin fh45 (.tmp rfl) .const) fun Ko hKo => ?_
    go_simp
    try go_bits
    refine hKo _ _ fun fa46 fh46 => ?_
    clear hKo Ko fh45 fa45
    refine wpList_nil ?_
    refine hK18 _ _ ?_
    clear hK18 K18
    replace fh46 := fh46.cut (.cons (t := 73) rfl (.cons (t := 12) rfl (.cons (t := 10) rfl (.cons (t := 0) rfl (.cons (t := 1) rfl (.cons (t := 2) rfl .nil))))))
    refine Kn.yes fh46 (.tmp rfl) ?_
    replace fh46 := fh46.cut (.cons (t := 12) rfl (.cons (t := 10) rfl (.cons (t := 0) rfl (.cons (t := 1) rfl (.cons (t := 2) rfl .nil)))))
    refine wp_seq_k fun K19 hK19 => ?_
    refine wp_region_lit ?_
    refine Kn.pure fh46 rfl rfl .none (Kn.ex_assign fh46 .const) fun fa47 fh47 => ?_
    clear fh46 fa46
    refine wpList_nil ?_
    refine hK19 _ _ ?_
    clear hK19 K19
    refine wp_ret ?_
    refine Kn.then_ret ?_
    exact Kn.ret1 fh47 rfl rfl ⟨rfl, HB4.out.trans (((Own.below_drew (hb5.trans (hb6.mono hb5.size)))).mono HB4.out.size)⟩

end Go.Proofs.Ytnmpcendimdoeaa.Edg
