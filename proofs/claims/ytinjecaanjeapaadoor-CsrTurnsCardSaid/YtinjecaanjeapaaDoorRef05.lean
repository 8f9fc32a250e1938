/- The document's answers of layer 5 (csr): Targets, Begin, Ints, Has (written by gen_ref05.py). -/
import Derived.Test.YtinjecaanjeapaaDoorIntKit
import Derived.Test.YtinjecaanjeapaaDoorEdgeKit
namespace Go.Proofs.YtinjecaanjeapaaDoor.Num
open Go Go.RowKit Go.Lib

/-- A node's targets. -/
def trg (xs : List (Int × Int)) (v : Int) : List Int := (xs.filter fun e => e.1 == v).map (·.2)
theorem trg_succ (xs : List (Int × Int)) (v : Int) (k : Nat) (h : k < xs.length) : trg (xs.take (k + 1)) v = trg (xs.take k) v ++ (if (Edg.ed xs k).1 = v then [(Edg.ed xs k).2] else []) := by
  unfold trg
  rw [Edg.take_ed xs k h, List.filter_append, List.map_append]
  by_cases e : (Edg.ed xs k).1 = v <;> simp [e]
theorem trg_len (xs : List (Int × Int)) (v : Int) : (trg xs v).length ≤ xs.length := by unfold trg; rw [List.length_map]; exact List.length_filter_le _ _
/-- How many edges go from nodes ahead of one. -/
def bgn (xs : List (Int × Int)) (v : Int) : Nat := xs.countP fun e => decide (e.1 < v)
theorem bgn_le (xs : List (Int × Int)) (v : Int) : bgn xs v ≤ xs.length := List.countP_le_length
theorem bgn_succ (xs : List (Int × Int)) (v : Int) (k : Nat) (h : k < xs.length) : bgn (xs.take (k + 1)) v = bgn (xs.take k) v + (if (Edg.ed xs k).1 < v then 1 else 0) := by
  unfold bgn
  rw [Edg.take_ed xs k h, List.countP_append]
  by_cases e : (Edg.ed xs k).1 < v <;> simp [e]

set_option maxRecDepth 100000 in
set_option maxHeartbeats 2000000 in
theorem refTargets_any (A : Option Addr) (ca : Nat) (xs : List (Int × Int)) (v : Int) (w : World) (hx : xs.length ≤ 30000) (hA : Edg.EIn w A xs) :
    Calls Tryd.prog 18 #[.slice A xs.length ca, .int .i64 v] w fun e w' => ∃ g n cap, e = .returned (.slice (some ⟨g, 0, none⟩) n cap) ∧ OwnI w' w.heap.size (some ⟨g, 0, none⟩) n cap (trg xs v) ∧ Below w.heap.size w w' := by
  have HA := Lib.hid hA
  clear hA
  refine Kn.calls Tryd.func18 rfl Tryd.ntmps18 rfl (.cons (t := 0) rfl (.cons (t := 1) rfl .nil)) fun fa0 fh0 => ?_
  refine wp_seq_k fun K1 hK1 => ?_
  refine wp_region_lit ?_
  refine Kn.pure fh0 rfl rfl .none (Kn.ex_assign fh0 .const) fun fa1 fh1 => ?_
  clear fh0 fa0
  refine wpList_nil ?_
  refine hK1 _ _ ?_
  clear hK1 K1
  refine wp_seq_k fun K2 hK2 => ?_
  refine wp_region_lit ?_
  refine Kn.step fh1 rfl rfl .none (Kn.ex_buildSlice fh1 .nil) fun Ko hKo => ?_
  go_simp
  try go_bits
  refine hKo _ _ fun fa2 fh2 => ?_
  clear hKo Ko fh1 fa1
  refine Kn.pure fh2 rfl rfl .none (Kn.ex_assign fh2 (.tmp rfl)) fun fa3 fh3 => ?_
  clear fh2 fa2
  refine wpList_nil ?_
  refine hK2 _ _ ?_
  clear hK2 K2
  replace fh3 := fh3.cut (.cons (t := 5) rfl (.cons (t := 4) rfl (.cons (t := 0) rfl (.cons (t := 1) rfl .nil))))
  refine wp_seq_k fun K3 hK3 => ?_
  refine wp_seq_k fun K4 hK4 => ?_
  refine wp_region_lit ?_
  refine Kn.pure fh3 rfl rfl .none (Kn.ex_assign fh3 .const) fun fa4 fh4 => ?_
  clear fh3 fa3
  refine wpList_nil ?_
  refine hK4 _ _ ?_
  clear hK4 K4
  refine wp_block ?_
  refine Kn.loop (fun m fr u => ∃ (k g n cap : Nat), Kn.Kn 30 [(6, .int .i64 (k : Int)), (5, .slice (some ⟨g, 0, none⟩) n cap), (0, .slice A xs.length ca), (1, .int .i64 v)] fr ∧ k + m = xs.length ∧ Hid (OwnI u w.heap.size (some ⟨g, 0, none⟩) n cap (trg (xs.take k) v)) ∧ Hid (Below w.heap.size w u)) xs.length ⟨0, w.heap.size, 0, 0, fh4.cut (.turn (t := 6) rfl rfl (.cons (t := 5) rfl (.cons (t := 0) rfl (.cons (t := 1) rfl .nil)))), by omega, Lib.hid (OwnI.new w _ (Nat.le_refl _)), Lib.hid ((Below.refl _ w).alloc (Nat.le_refl _) _)⟩ ?_
  clear fh4 fa4
  intro m5 fa5 u hI Kl5 hKl5
  obtain ⟨k, g, n, cap, fh5, hk, HO, HB⟩ := hI
  by_cases hlt : k < xs.length
  · have HD := trg_succ xs v k hlt
    obtain ⟨ba, oa, rfl, -, ca1, ca2⟩ := (HA.out.on HB.out) k hlt
    obtain ⟨x1, hx1⟩ : ∃ x, (Edg.ed xs k).1 = x := ⟨_, rfl⟩
    obtain ⟨x2, hx2⟩ : ∃ x, (Edg.ed xs k).2 = x := ⟨_, rfl⟩
    rw [hx1] at ca1 HD
    rw [hx2] at ca2
    clear hx1
    rw [hx2] at HD
    clear hx2
    have HS := Lib.hid HD
    clear HD
    have hn := HO.out.1
    have hnl : n ≤ 100000 := by have := trg_len (xs.take k) v; rw [List.length_take] at this; omega
    clear hn
    refine wp_seq_k fun K6 hK6 => ?_
    refine wp_seq_k fun K7 hK7 => ?_
    refine wp_region_lit ?_
    refine Kn.pure fh5 rfl rfl .none (Kn.ex_move fh5 (.tmp rfl)) fun fa6 fh6 => ?_
    clear fh5 fa5
    refine Kn.pure fh6 rfl rfl .none (Kn.ex_move fh6 (.tmp rfl)) fun fa7 fh7 => ?_
    clear fh6 fa6
    refine Kn.step fh7 rfl rfl .none (Kn.ex_len fh7 (.tmp rfl)) fun Ko hKo => ?_
    go_simp
    try go_bits
    refine hKo _ _ fun fa8 fh8 => ?_
    clear hKo Ko fh7 fa7
    refine Kn.step fh8 rfl rfl .none (Kn.ex_bin fh8 (.tmp rfl) (.tmp rfl)) fun Ko hKo => ?_
    go_simp
    try go_bits
    refine hKo _ _ fun fa9 fh9 => ?_
    clear hKo Ko fh8 fa8
    refine wpList_nil ?_
    refine hK7 _ _ ?_
    clear hK7 K7
    replace fh9 := fh9.cut (.cons (t := 11) rfl (.cons (t := 6) rfl (.cons (t := 5) rfl (.cons (t := 0) rfl (.cons (t := 1) rfl .nil)))))
    refine Kn.yes fh9 (.tmp rfl) ?_
    refine wp_skip ?_
    refine hK6 _ _ ?_
    clear hK6 K6
    replace fh9 := fh9.cut (.cons (t := 6) rfl (.cons (t := 5) rfl (.cons (t := 0) rfl (.cons (t := 1) rfl .nil))))
    refine wp_seq_k fun K8 hK8 => ?_
    refine wp_block ?_
    by_cases e1 : x1 = v
    · have q1 : (x1 == v) = true := by simp [e1]
      have HS2 : Hid (trg (xs.take (k + 1)) v = trg (xs.take k) v ++ [x2]) := Lib.hid (by rw [HS.out, if_pos e1])
      clear e1
      obtain ⟨g', c', u2, hrun, hown, hbel, -⟩ := push1 w u 36 (some ⟨g, 0, none⟩) n cap (trg (xs.take k) v) x2 HO.out HB.out hnl
      rw [← HS2.out] at hown
      have HO2 := Lib.hid hown
      have HB2 := Lib.hid hbel
      clear hown hbel
      refine wp_seq_k fun K9 hK9 => ?_
      refine wp_region_lit ?_
      refine Kn.pure fh9 rfl rfl .none (Kn.ex_move fh9 (.tmp rfl)) fun fa10 fh10 => ?_
      clear fh9 fa9
      refine Kn.pure fh10 rfl rfl .none (Kn.ex_move fh10 (.tmp rfl)) fun fa11 fh11 => ?_
      clear fh10 fa10
      refine Kn.step fh11 rfl rfl .none (Kn.ex_indexAddr fh11 (.tmp rfl) (.tmp rfl)) fun Ko hKo => ?_
      go_simp
      try go_bits
      refine hKo _ _ fun fa12 fh12 => ?_
      clear hKo Ko fh11 fa11
      refine Kn.step fh12 rfl rfl .none (Kn.ex_fieldAddr fh12 (.tmp rfl)) fun Ko hKo => ?_
      go_simp
      try go_bits
      refine hKo _ _ fun fa13 fh13 => ?_
      clear hKo Ko fh12 fa12
      refine Kn.step fh13 rfl rfl .none (Kn.ex_load fh13 (.tmp rfl)) fun Ko hKo => ?_
      go_simp
      try go_bits
      refine hKo _ _ fun fa14 fh14 => ?_
      clear hKo Ko fh13 fa13
      refine Kn.pure fh14 rfl rfl .none (Kn.ex_move fh14 (.tmp rfl)) fun fa15 fh15 => ?_
      clear fh14 fa14
      refine Kn.step fh15 rfl rfl .none (Kn.ex_bin fh15 (.tmp rfl) (.tmp rfl)) fun Ko hKo => ?_
      go_simp
      try go_bits
      refine hKo _ _ fun fa16 fh16 => ?_
      clear hKo Ko fh15 fa15
      refine wpList_nil ?_
      refine hK9 _ _ ?_
      clear hK9 K9
      replace fh16 := fh16.cut (.cons (t := 20) rfl (.cons (t := 6) rfl (.cons (t := 5) rfl (.cons (t := 0) rfl (.cons (t := 1) rfl .nil)))))
      refine Kn.yes fh16 (.tmp rfl) ?_
      replace fh16 := fh16.cut (.cons (t := 6) rfl (.cons (t := 5) rfl (.cons (t := 0) rfl (.cons (t := 1) rfl .nil))))
      refine wp_region_lit ?_
      refine Kn.pure fh16 rfl rfl .none (Kn.ex_move fh16 (.tmp rfl)) fun fa17 fh17 => ?_
      clear fh16 fa16
      refine Kn.pure fh17 rfl rfl .none (Kn.ex_move fh17 (.tmp rfl)) fun fa18 fh18 => ?_
      clear fh17 fa17
      refine Kn.pure fh18 rfl rfl .none (Kn.ex_move fh18 (.tmp rfl)) fun fa19 fh19 => ?_
      clear fh18 fa18
      refine Kn.step fh19 rfl rfl .none (Kn.ex_indexAddr fh19 (.tmp rfl) (.tmp rfl)) fun Ko hKo => ?_
      go_simp
      try go_bits
      refine hKo _ _ fun fa20 fh20 => ?_
      clear hKo Ko fh19 fa19
      refine Kn.step fh20 rfl rfl .none (Kn.ex_fieldAddr fh20 (.tmp rfl)) fun Ko hKo => ?_
      go_simp
      try go_bits
      refine hKo _ _ fun fa21 fh21 => ?_
      clear hKo Ko fh20 fa20
      refine Kn.step fh21 rfl rfl .none (Kn.ex_load fh21 (.tmp rfl)) fun Ko hKo => ?_
      go_simp
      try go_bits
      refine hKo _ _ fun fa22 fh22 => ?_
      clear hKo Ko fh21 fa21
      refine Kn.step fh22 rfl rfl .none (Kn.ex_buildSlice fh22 (.cons (.tmp rfl) .nil)) fun Ko hKo => ?_
      go_simp
      try go_bits
      refine hKo _ _ fun fa23 fh23 => ?_
      clear hKo Ko fh22 fa22
      refine Kn.known fh23 rfl rfl .none (Kn.ex_append fh23 (.cons (.tmp rfl) (.cons (.tmp rfl) .nil))) hrun fun fa24 fh24 => ?_
      clear fh23 fa23
      clear hrun
      refine Kn.pure fh24 rfl rfl .none (Kn.ex_assign fh24 (.tmp rfl)) fun fa25 fh25 => ?_
      clear fh24 fa24
      refine wpList_nil ?_
      refine Kn.block_normal ?_
      refine hK8 _ _ ?_
      clear hK8 K8
      replace fh25 := fh25.cut (.cons (t := 5) rfl (.cons (t := 6) rfl (.cons (t := 0) rfl (.cons (t := 1) rfl .nil))))
      refine wp_region_lit ?_
      refine Kn.pure fh25 rfl rfl .none (Kn.ex_move fh25 (.tmp rfl)) fun fa26 fh26 => ?_
      clear fh25 fa25
      refine Kn.step fh26 rfl rfl .none (Kn.ex_bin fh26 (.tmp rfl) .const) fun Ko hKo => ?_
      go_simp
      try go_bits
      refine hKo _ _ fun fa27 fh27 => ?_
      clear hKo Ko fh26 fa26
      refine Kn.pure fh27 rfl rfl .none (Kn.ex_assign fh27 (.tmp rfl)) fun fa28 fh28 => ?_
      clear fh27 fa27
      refine wpList_nil ?_
      replace fh28 := fh28.cut (.cons (t := 6) rfl (.cons (t := 5) rfl (.cons (t := 0) rfl (.cons (t := 1) rfl .nil))))
      exact hKl5 (m5 - 1) _ _ (by omega) ⟨k + 1, g', n + 1, c', fh28.cut (.turn (t := 6) rfl (by go_num) (.cons (t := 5) rfl (.cons (t := 0) rfl (.cons (t := 1) rfl .nil)))), by omega, HO2, HB2⟩
    · have q1 : (x1 == v) = false := by simp [e1]
      have HO2 : Hid (OwnI u w.heap.size (some ⟨g, 0, none⟩) n cap (trg (xs.take (k + 1)) v)) := Lib.hid (by rw [HS.out, if_neg e1, List.append_nil]; exact HO.out)
      clear e1
      refine wp_seq_k fun K9 hK9 => ?_
      refine wp_region_lit ?_
      refine Kn.pure fh9 rfl rfl .none (Kn.ex_move fh9 (.tmp rfl)) fun fa10 fh10 => ?_
      clear fh9 fa9
      refine Kn.pure fh10 rfl rfl .none (Kn.ex_move fh10 (.tmp rfl)) fun fa11 fh11 => ?_
      clear fh10 fa10
      refine Kn.step fh11 rfl rfl .none (Kn.ex_indexAddr fh11 (.tmp rfl) (.tmp rfl)) fun Ko hKo => ?_
      go_simp
      try go_bits
      refine hKo _ _ fun fa12 fh12 => ?_
      clear hKo Ko fh11 fa11
      refine Kn.step fh12 rfl rfl .none (Kn.ex_fieldAddr fh12 (.tmp rfl)) fun Ko hKo => ?_
      go_simp
      try go_bits
      refine hKo _ _ fun fa13 fh13 => ?_
      clear hKo Ko fh12 fa12
      refine Kn.step fh13 rfl rfl .none (Kn.ex_load fh13 (.tmp rfl)) fun Ko hKo => ?_
      go_simp
      try go_bits
      refine hKo _ _ fun fa14 fh14 => ?_
      clear hKo Ko fh13 fa13
      refine Kn.pure fh14 rfl rfl .none (Kn.ex_move fh14 (.tmp rfl)) fun fa15 fh15 => ?_
      clear fh14 fa14
      refine Kn.step fh15 rfl rfl .none (Kn.ex_bin fh15 (.tmp rfl) (.tmp rfl)) fun Ko hKo => ?_
      go_simp
      try go_bits
      refine hKo _ _ fun fa16 fh16 => ?_
      clear hKo Ko fh15 fa15
      refine wpList_nil ?_
      refine hK9 _ _ ?_
      clear hK9 K9
      replace fh16 := fh16.cut (.cons (t := 20) rfl (.cons (t := 6) rfl (.cons (t := 5) rfl (.cons (t := 0) rfl (.cons (t := 1) rfl .nil)))))
      refine Kn.no fh16 (.tmp rfl) ?_
      refine wp_skip ?_
      refine Kn.block_normal ?_
      refine hK8 _ _ ?_
      clear hK8 K8
      replace fh16 := fh16.cut (.cons (t := 6) rfl (.cons (t := 5) rfl (.cons (t := 0) rfl (.cons (t := 1) rfl .nil))))
      refine wp_region_lit ?_
      refine Kn.pure fh16 rfl rfl .none (Kn.ex_move fh16 (.tmp rfl)) fun fa17 fh17 => ?_
      clear fh16 fa16
      refine Kn.step fh17 rfl rfl .none (Kn.ex_bin fh17 (.tmp rfl) .const) fun Ko hKo => ?_
      go_simp
      try go_bits
      refine hKo _ _ fun fa18 fh18 => ?_
      clear hKo Ko fh17 fa17
      refine Kn.pure fh18 rfl rfl .none (Kn.ex_assign fh18 (.tmp rfl)) fun fa19 fh19 => ?_
      clear fh18 fa18
      refine wpList_nil ?_
      replace fh19 := fh19.cut (.cons (t := 6) rfl (.cons (t := 5) rfl (.cons (t := 0) rfl (.cons (t := 1) rfl .nil))))
      exact hKl5 (m5 - 1) _ _ (by omega) ⟨k + 1, g, n, cap, fh19.cut (.turn (t := 6) rfl (by go_num) (.cons (t := 5) rfl (.cons (t := 0) rfl (.cons (t := 1) rfl .nil)))), by omega, HO2, HB⟩
  · obtain rfl : k = xs.length := by omega
    refine wp_seq_k fun K6 hK6 => ?_
    refine wp_seq_k fun K7 hK7 => ?_
    refine wp_region_lit ?_
    refine Kn.pure fh5 rfl rfl .none (Kn.ex_move fh5 (.tmp rfl)) fun fa6 fh6 => ?_
    clear fh5 fa5
    refine Kn.pure fh6 rfl rfl .none (Kn.ex_move fh6 (.tmp rfl)) fun fa7 fh7 => ?_
    clear fh6 fa6
    refine Kn.step fh7 rfl rfl .none (Kn.ex_len fh7 (.tmp rfl)) fun Ko hKo => ?_
    go_simp
    try go_bits
    refine hKo _ _ fun fa8 fh8 => ?_
    clear hKo Ko fh7 fa7
    refine Kn.step fh8 rfl rfl .none (Kn.ex_bin fh8 (.tmp rfl) (.tmp rfl)) fun Ko hKo => ?_
    go_simp
    try go_bits
    refine hKo _ _ fun fa9 fh9 => ?_
    clear hKo Ko fh8 fa8
    refine wpList_nil ?_
    refine hK7 _ _ ?_
    clear hK7 K7
    replace fh9 := fh9.cut (.cons (t := 11) rfl (.cons (t := 6) rfl (.cons (t := 5) rfl (.cons (t := 0) rfl (.cons (t := 1) rfl .nil)))))
    refine Kn.no fh9 (.tmp rfl) ?_
    replace fh9 := fh9.cut (.cons (t := 6) rfl (.cons (t := 5) rfl (.cons (t := 0) rfl (.cons (t := 1) rfl .nil))))
    refine wp_exit ?_
    refine Kn.then_exit ?_
    clear hK6 K6
    refine Kn.then_exit ?_
    clear hKl5 Kl5
    refine Kn.block_exit ?_
    refine hK3 _ _ ?_
    clear hK3 K3
    replace fh9 := fh9.cut (.cons (t := 5) rfl .nil)
    refine wp_seq_k fun K8 hK8 => ?_
    refine wp_region_lit ?_
    refine Kn.pure fh9 rfl rfl .none (Kn.ex_move fh9 (.tmp rfl)) fun fa10 fh10 => ?_
    clear fh9 fa9
    refine Kn.pure fh10 rfl rfl .none (Kn.ex_assign fh10 (.tmp rfl)) fun fa11 fh11 => ?_
    clear fh10 fa10
    refine wpList_nil ?_
    refine hK8 _ _ ?_
    clear hK8 K8
    replace fh11 := fh11.cut (.cons (t := 4) rfl .nil)
    refine wp_ret ?_
    exact Kn.ret1 fh11 rfl rfl ⟨g, n, cap, rfl, by have := HO.out; rwa [List.take_length] at this, HB.out⟩

set_option maxRecDepth 100000 in
set_option maxHeartbeats 2000000 in
theorem refBegin_any (A : Option Addr) (ca : Nat) (xs : List (Int × Int)) (v : Int) (w : World) (hx : xs.length ≤ 30000) (hA : Edg.EIn w A xs) :
    Calls Tryd.prog 22 #[.slice A xs.length ca, .int .i64 v] w fun e w' => e = .returned (.int .i64 (bgn xs v : Int)) ∧ w = w' := by
  have HA := Lib.hid hA
  clear hA
  refine Kn.calls Tryd.func22 rfl Tryd.ntmps22 rfl (.cons (t := 0) rfl (.cons (t := 1) rfl .nil)) fun fa0 fh0 => ?_
  refine wp_seq_k fun K1 hK1 => ?_
  refine wp_region_lit ?_
  refine Kn.pure fh0 rfl rfl .none (Kn.ex_assign fh0 .const) fun fa1 fh1 => ?_
  clear fh0 fa0
  refine wpList_nil ?_
  refine hK1 _ _ ?_
  clear hK1 K1
  refine wp_seq_k fun K2 hK2 => ?_
  refine wp_region_lit ?_
  refine Kn.pure fh1 rfl rfl .none (Kn.ex_assign fh1 .const) fun fa2 fh2 => ?_
  clear fh1 fa1
  refine wpList_nil ?_
  refine hK2 _ _ ?_
  clear hK2 K2
  refine wp_seq_k fun K3 hK3 => ?_
  refine wp_seq_k fun K4 hK4 => ?_
  refine wp_region_lit ?_
  refine Kn.pure fh2 rfl rfl .none (Kn.ex_assign fh2 .const) fun fa3 fh3 => ?_
  clear fh2 fa2
  refine wpList_nil ?_
  refine hK4 _ _ ?_
  clear hK4 K4
  refine wp_block ?_
  refine Kn.loop (fun m fr u => ∃ (k : Nat), Kn.Kn 23 [(6, .int .i64 (k : Int)), (5, .int .i64 (bgn (xs.take k) v : Int)), (0, .slice A xs.length ca), (1, .int .i64 v)] fr ∧ k + m = xs.length ∧ w = u) xs.length ⟨0, fh3.cut (.turn (t := 6) rfl rfl (.turn (t := 5) rfl rfl (.cons (t := 0) rfl (.cons (t := 1) rfl .nil)))), by omega, rfl⟩ ?_
  clear fh3 fa3
  intro m5 fa4 u hI Kl5 hKl5
  obtain ⟨k, fh4, hk, rfl⟩ := hI
  by_cases hlt : k < xs.length
  · have HB : Hid (Below w.heap.size w w) := Lib.hid (Below.refl _ _)
    have HD := bgn_succ xs v k hlt
    have hbk : bgn (xs.take k) v ≤ 30000 := by have := bgn_le (xs.take k) v; rw [List.length_take] at this; omega
    generalize bgn (xs.take k) v = d at HD hbk fh4
    obtain ⟨ba, oa, rfl, -, ca1, ca2⟩ := (HA.out.on HB.out) k hlt
    obtain ⟨x1, hx1⟩ : ∃ x, (Edg.ed xs k).1 = x := ⟨_, rfl⟩
    obtain ⟨x2, hx2⟩ : ∃ x, (Edg.ed xs k).2 = x := ⟨_, rfl⟩
    rw [hx1] at ca1 HD
    rw [hx2] at ca2
    clear hx1
    clear hx2
    have HS := Lib.hid HD
    clear HD
    refine wp_seq_k fun K6 hK6 => ?_
    refine wp_seq_k fun K7 hK7 => ?_
    refine wp_region_lit ?_
    refine Kn.pure fh4 rfl rfl .none (Kn.ex_move fh4 (.tmp rfl)) fun fa5 fh5 => ?_
    clear fh4 fa4
    refine Kn.pure fh5 rfl rfl .none (Kn.ex_move fh5 (.tmp rfl)) fun fa6 fh6 => ?_
    clear fh5 fa5
    refine Kn.step fh6 rfl rfl .none (Kn.ex_len fh6 (.tmp rfl)) fun Ko hKo => ?_
    go_simp
    try go_bits
    refine hKo _ _ fun fa7 fh7 => ?_
    clear hKo Ko fh6 fa6
    refine Kn.step fh7 rfl rfl .none (Kn.ex_bin fh7 (.tmp rfl) (.tmp rfl)) fun Ko hKo => ?_
    go_simp
    try go_bits
    refine hKo _ _ fun fa8 fh8 => ?_
    clear hKo Ko fh7 fa7
    refine wpList_nil ?_
    refine hK7 _ _ ?_
    clear hK7 K7
    replace fh8 := fh8.cut (.cons (t := 10) rfl (.cons (t := 6) rfl (.cons (t := 5) rfl (.cons (t := 0) rfl (.cons (t := 1) rfl .nil)))))
    refine Kn.yes fh8 (.tmp rfl) ?_
    refine wp_skip ?_
    refine hK6 _ _ ?_
    clear hK6 K6
    replace fh8 := fh8.cut (.cons (t := 6) rfl (.cons (t := 5) rfl (.cons (t := 0) rfl (.cons (t := 1) rfl .nil))))
    refine wp_seq_k fun K8 hK8 => ?_
    refine wp_block ?_
    by_cases e1 : x1 < v
    · have HS2 : Hid (bgn (xs.take (k + 1)) v = d + 1) := Lib.hid (by rw [HS.out, if_pos e1])
      refine wp_seq_k fun K9 hK9 => ?_
      refine wp_region_lit ?_
      refine Kn.pure fh8 rfl rfl .none (Kn.ex_move fh8 (.tmp rfl)) fun fa9 fh9 => ?_
      clear fh8 fa8
      refine Kn.pure fh9 rfl rfl .none (Kn.ex_move fh9 (.tmp rfl)) fun fa10 fh10 => ?_
      clear fh9 fa9
      refine Kn.step fh10 rfl rfl .none (Kn.ex_indexAddr fh10 (.tmp rfl) (.tmp rfl)) fun Ko hKo => ?_
      go_simp
      try go_bits
      refine hKo _ _ fun fa11 fh11 => ?_
      clear hKo Ko fh10 fa10
      refine Kn.step fh11 rfl rfl .none (Kn.ex_fieldAddr fh11 (.tmp rfl)) fun Ko hKo => ?_
      go_simp
      try go_bits
      refine hKo _ _ fun fa12 fh12 => ?_
      clear hKo Ko fh11 fa11
      refine Kn.step fh12 rfl rfl .none (Kn.ex_load fh12 (.tmp rfl)) fun Ko hKo => ?_
      go_simp
      try go_bits
      refine hKo _ _ fun fa13 fh13 => ?_
      clear hKo Ko fh12 fa12
      refine Kn.pure fh13 rfl rfl .none (Kn.ex_move fh13 (.tmp rfl)) fun fa14 fh14 => ?_
      clear fh13 fa13
      refine Kn.step fh14 rfl rfl .none (Kn.ex_bin fh14 (.tmp rfl) (.tmp rfl)) fun Ko hKo => ?_
      go_simp
      try go_bits
      refine hKo _ _ fun fa15 fh15 => ?_
      clear hKo Ko fh14 fa14
      refine wpList_nil ?_
      refine hK9 _ _ ?_
      clear hK9 K9
      replace fh15 := fh15.cut (.cons (t := 19) rfl (.cons (t := 6) rfl (.cons (t := 5) rfl (.cons (t := 0) rfl (.cons (t := 1) rfl .nil)))))
      refine Kn.yes fh15 (.tmp rfl) ?_
      replace fh15 := fh15.cut (.cons (t := 6) rfl (.cons (t := 5) rfl (.cons (t := 0) rfl (.cons (t := 1) rfl .nil))))
      clear e1
      refine wp_region_lit ?_
      refine Kn.pure fh15 rfl rfl .none (Kn.ex_move fh15 (.tmp rfl)) fun fa16 fh16 => ?_
      clear fh15 fa15
      refine Kn.step fh16 rfl rfl .none (Kn.ex_bin fh16 (.tmp rfl) .const) fun Ko hKo => ?_
      go_simp
      try go_bits
      refine hKo _ _ fun fa17 fh17 => ?_
      clear hKo Ko fh16 fa16
      refine Kn.pure fh17 rfl rfl .none (Kn.ex_assign fh17 (.tmp rfl)) fun fa18 fh18 => ?_
      clear fh17 fa17
      refine wpList_nil ?_
      refine Kn.block_normal ?_
      refine hK8 _ _ ?_
      clear hK8 K8
      replace fh18 := fh18.cut (.cons (t := 5) rfl (.cons (t := 6) rfl (.cons (t := 0) rfl (.cons (t := 1) rfl .nil))))
      refine wp_region_lit ?_
      refine Kn.pure fh18 rfl rfl .none (Kn.ex_move fh18 (.tmp rfl)) fun fa19 fh19 => ?_
      clear fh18 fa18
      refine Kn.step fh19 rfl rfl .none (Kn.ex_bin fh19 (.tmp rfl) .const) fun Ko hKo => ?_
      go_simp
      try go_bits
      refine hKo _ _ fun fa20 fh20 => ?_
      clear hKo Ko fh19 fa19
      refine Kn.pure fh20 rfl rfl .none (Kn.ex_assign fh20 (.tmp rfl)) fun fa21 fh21 => ?_
      clear fh20 fa20
      refine wpList_nil ?_
      replace fh21 := fh21.cut (.cons (t := 6) rfl (.cons (t := 5) rfl (.cons (t := 0) rfl (.cons (t := 1) rfl .nil))))
      exact hKl5 (m5 - 1) _ _ (by omega) ⟨k + 1, fh21.cut (.turn (t := 6) rfl (by go_num) (.turn (t := 5) rfl (by rw [HS2.out]; go_num) (.cons (t := 0) rfl (.cons (t := 1) rfl .nil)))), by omega, rfl⟩
    · have HS2 : Hid (bgn (xs.take (k + 1)) v = d) := Lib.hid (by rw [HS.out, if_neg e1]; rfl)
      refine wp_seq_k fun K9 hK9 => ?_
      refine wp_region_lit ?_
      refine Kn.pure fh8 rfl rfl .none (Kn.ex_move fh8 (.tmp rfl)) fun fa9 fh9 => ?_
      clear fh8 fa8
      refine Kn.pure fh9 rfl rfl .none (Kn.ex_move fh9 (.tmp rfl)) fun fa10 fh10 => ?_
      clear fh9 fa9
      refine Kn.step fh10 rfl rfl .none (Kn.ex_indexAddr fh10 (.tmp rfl) (.tmp rfl)) fun Ko hKo => ?_
      go_simp
      try go_bits
      refine hKo _ _ fun fa11 fh11 => ?_
      clear hKo Ko fh10 fa10
      refine Kn.step fh11 rfl rfl .none (Kn.ex_fieldAddr fh11 (.tmp rfl)) fun Ko hKo => ?_
      go_simp
      try go_bits
      refine hKo _ _ fun fa12 fh12 => ?_
      clear hKo Ko fh11 fa11
      refine Kn.step fh12 rfl rfl .none (Kn.ex_load fh12 (.tmp rfl)) fun Ko hKo => ?_
      go_simp
      try go_bits
      refine hKo _ _ fun fa13 fh13 => ?_
      clear hKo Ko fh12 fa12
      refine Kn.pure fh13 rfl rfl .none (Kn.ex_move fh13 (.tmp rfl)) fun fa14 fh14 => ?_
      clear fh13 fa13
      refine Kn.step fh14 rfl rfl .none (Kn.ex_bin fh14 (.tmp rfl) (.tmp rfl)) fun Ko hKo => ?_
      go_simp
      try go_bits
      refine hKo _ _ fun fa15 fh15 => ?_
      clear hKo Ko fh14 fa14
      refine wpList_nil ?_
      refine hK9 _ _ ?_
      clear hK9 K9
      replace fh15 := fh15.cut (.cons (t := 19) rfl (.cons (t := 6) rfl (.cons (t := 5) rfl (.cons (t := 0) rfl (.cons (t := 1) rfl .nil)))))
      refine Kn.no fh15 (.tmp rfl) ?_
      refine wp_skip ?_
      refine Kn.block_normal ?_
      refine hK8 _ _ ?_
      clear hK8 K8
      replace fh15 := fh15.cut (.cons (t := 6) rfl (.cons (t := 5) rfl (.cons (t := 0) rfl (.cons (t := 1) rfl .nil))))
      clear e1
      refine wp_region_lit ?_
      refine Kn.pure fh15 rfl rfl .none (Kn.ex_move fh15 (.tmp rfl)) fun fa16 fh16 => ?_
      clear fh15 fa15
      refine Kn.step fh16 rfl rfl .none (Kn.ex_bin fh16 (.tmp rfl) .const) fun Ko hKo => ?_
      go_simp
      try go_bits
      refine hKo _ _ fun fa17 fh17 => ?_
      clear hKo Ko fh16 fa16
      refine Kn.pure fh17 rfl rfl .none (Kn.ex_assign fh17 (.tmp rfl)) fun fa18 fh18 => ?_
      clear fh17 fa17
      refine wpList_nil ?_
      replace fh18 := fh18.cut (.cons (t := 6) rfl (.cons (t := 5) rfl (.cons (t := 0) rfl (.cons (t := 1) rfl .nil))))
      exact hKl5 (m5 - 1) _ _ (by omega) ⟨k + 1, fh18.cut (.turn (t := 6) rfl (by go_num) (.turn (t := 5) rfl (by rw [HS2.out]) (.cons (t := 0) rfl (.cons (t := 1) rfl .nil)))), by omega, rfl⟩
  · obtain rfl : k = xs.length := by omega
    rw [List.take_length] at fh4
    refine wp_seq_k fun K6 hK6 => ?_
    refine wp_seq_k fun K7 hK7 => ?_
    refine wp_region_lit ?_
    refine Kn.pure fh4 rfl rfl .none (Kn.ex_move fh4 (.tmp rfl)) fun fa5 fh5 => ?_
    clear fh4 fa4
    refine Kn.pure fh5 rfl rfl .none (Kn.ex_move fh5 (.tmp rfl)) fun fa6 fh6 => ?_
    clear fh5 fa5
    refine Kn.step fh6 rfl rfl .none (Kn.ex_len fh6 (.tmp rfl)) fun Ko hKo => ?_
    go_simp
    try go_bits
    refine hKo _ _ fun fa7 fh7 => ?_
    clear hKo Ko fh6 fa6
    refine Kn.step fh7 rfl rfl .none (Kn.ex_bin fh7 (.tmp rfl) (.tmp rfl)) fun Ko hKo => ?_
    go_simp
    try go_bits
    refine hKo _ _ fun fa8 fh8 => ?_
    clear hKo Ko fh7 fa7
    refine wpList_nil ?_
    refine hK7 _ _ ?_
    clear hK7 K7
    replace fh8 := fh8.cut (.cons (t := 10) rfl (.cons (t := 6) rfl (.cons (t := 5) rfl (.cons (t := 0) rfl (.cons (t := 1) rfl .nil)))))
    refine Kn.no fh8 (.tmp rfl) ?_
    replace fh8 := fh8.cut (.cons (t := 6) rfl (.cons (t := 5) rfl (.cons (t := 0) rfl (.cons (t := 1) rfl .nil))))
    refine wp_exit ?_
    refine Kn.then_exit ?_
    clear hK6 K6
    refine Kn.then_exit ?_
    clear hKl5 Kl5
    refine Kn.block_exit ?_
    refine hK3 _ _ ?_
    clear hK3 K3
    replace fh8 := fh8.cut (.cons (t := 5) rfl .nil)
    refine wp_seq_k fun K8 hK8 => ?_
    refine wp_region_lit ?_
    refine Kn.pure fh8 rfl rfl .none (Kn.ex_move fh8 (.tmp rfl)) fun fa9 fh9 => ?_
    clear fh8 fa8
    refine Kn.pure fh9 rfl rfl .none (Kn.ex_assign fh9 (.tmp rfl)) fun fa10 fh10 => ?_
    clear fh9 fa9
    refine wpList_nil ?_
    refine hK8 _ _ ?_
    clear hK8 K8
    replace fh10 := fh10.cut (.cons (t := 4) rfl .nil)
    refine wp_ret ?_
    exact Kn.ret1 fh10 rfl rfl ⟨rfl, rfl⟩

set_option maxRecDepth 100000 in
set_option maxHeartbeats 2000000 in
theorem refInts_any (A B : Option Addr) (ca cb : Nat) (xs ys : List Int) (w : World) (hx : xs.length ≤ maxLen) (hy : ys.length ≤ maxLen) (hA : IIn w A xs) (hB : IIn w B ys) :
    Calls Tryd.prog 19 #[.slice A xs.length ca, .slice B ys.length cb] w fun e w' => e = .returned (.bool (decide (xs = ys))) ∧ ∃ q, w' = w.drewN q := by
  unfold maxLen at hx hy
  have HA := Lib.hid hA
  have HB := Lib.hid hB
  clear hA hB
  refine Kn.calls Tryd.func19 rfl Tryd.ntmps19 rfl (.cons (t := 0) rfl (.cons (t := 1) rfl .nil)) fun fa0 fh0 => ?_
  refine wp_seq_k fun K1 hK1 => ?_
  refine wp_region_lit ?_
  refine Kn.pure fh0 rfl rfl .none (Kn.ex_assign fh0 .const) fun fa1 fh1 => ?_
  clear fh0 fa0
  refine wpList_nil ?_
  refine hK1 _ _ ?_
  clear hK1 K1
  by_cases hlen : xs.length = ys.length
  · have qn : ((xs.length : Int) != (ys.length : Int)) = false := by simp [hlen]
    have qn2 : (xs.length != ys.length) = false := by simp [hlen]
    have HL := Lib.hid hlen
    clear hlen
    refine wp_seq_k fun K2 hK2 => ?_
    refine wp_seq_k fun K3 hK3 => ?_
    refine wp_region_lit ?_
    refine Kn.pure fh1 rfl rfl .none (Kn.ex_move fh1 (.tmp rfl)) fun fa2 fh2 => ?_
    clear fh1 fa1
    refine Kn.step fh2 rfl rfl .none (Kn.ex_len fh2 (.tmp rfl)) fun Ko hKo => ?_
    go_simp
    try go_bits
    refine hKo _ _ fun fa3 fh3 => ?_
    clear hKo Ko fh2 fa2
    refine Kn.pure fh3 rfl rfl .none (Kn.ex_move fh3 (.tmp rfl)) fun fa4 fh4 => ?_
    clear fh3 fa3
    refine Kn.step fh4 rfl rfl .none (Kn.ex_len fh4 (.tmp rfl)) fun Ko hKo => ?_
    go_simp
    try go_bits
    refine hKo _ _ fun fa5 fh5 => ?_
    clear hKo Ko fh4 fa4
    refine Kn.step fh5 rfl rfl .none (Kn.ex_bin fh5 (.tmp rfl) (.tmp rfl)) fun Ko hKo => ?_
    go_simp
    try go_bits
    refine hKo _ _ fun fa6 fh6 => ?_
    clear hKo Ko fh5 fa5
    refine wpList_nil ?_
    refine hK3 _ _ ?_
    clear hK3 K3
    replace fh6 := fh6.cut (.cons (t := 10) rfl (.cons (t := 4) rfl (.cons (t := 0) rfl (.cons (t := 1) rfl .nil))))
    clear qn qn2
    refine Kn.no fh6 (.tmp rfl) ?_
    refine wp_skip ?_
    refine hK2 _ _ ?_
    clear hK2 K2
    replace fh6 := fh6.cut (.cons (t := 4) rfl (.cons (t := 0) rfl (.cons (t := 1) rfl .nil)))
    refine wp_seq_k fun K4 hK4 => ?_
    refine wp_seq_k fun K5 hK5 => ?_
    refine wp_region_lit ?_
    refine Kn.pure fh6 rfl rfl .none (Kn.ex_assign fh6 .const) fun fa7 fh7 => ?_
    clear fh6 fa6
    refine wpList_nil ?_
    refine hK5 _ _ ?_
    clear hK5 K5
    refine wp_block ?_
    refine Kn.loop (fun m fr v => ∃ (k q : Nat), Kn.Kn 26 [(5, .int .i64 (k : Int)), (0, .slice A xs.length ca), (1, .slice B ys.length cb)] fr ∧ k + m = xs.length ∧ Hid (∀ i, i < k → nt xs i = nt ys i) ∧ v = w.drewN q) xs.length ⟨0, 0, fh7.cut (.turn (t := 5) rfl rfl (.cons (t := 0) rfl (.cons (t := 1) rfl .nil))), by omega, Lib.hid (fun i hi => absurd hi (by omega)), rfl⟩ ?_
    clear fh7 fa7
    intro m6 fa8 v hI Kl6 hKl6
    obtain ⟨k, q, fh8, hk, HP, rfl⟩ := hI
    by_cases hlt : k < xs.length
    · have hlt2 : k < ys.length := by rw [← HL.out]; exact hlt
      obtain ⟨ba, oa, rfl, -, ca1⟩ := HA.out k hlt
      obtain ⟨bb, ob, rfl, -, cb1⟩ := HB.out k hlt2
      obtain ⟨x1, hx1⟩ : ∃ x, nt xs k = x := ⟨_, rfl⟩
      obtain ⟨y1, hy1⟩ : ∃ x, nt ys k = x := ⟨_, rfl⟩
      rw [hx1] at ca1
      rw [hy1] at cb1
      have HX := Lib.hid hx1
      have HY := Lib.hid hy1
      clear hx1 hy1
      refine wp_seq_k fun K7 hK7 => ?_
      refine wp_seq_k fun K8 hK8 => ?_
      refine wp_region_lit ?_
      refine Kn.pure fh8 rfl rfl .none (Kn.ex_move fh8 (.tmp rfl)) fun fa9 fh9 => ?_
      clear fh8 fa8
      refine Kn.pure fh9 rfl rfl .none (Kn.ex_move fh9 (.tmp rfl)) fun fa10 fh10 => ?_
      clear fh9 fa9
      refine Kn.step fh10 rfl rfl .none (Kn.ex_len fh10 (.tmp rfl)) fun Ko hKo => ?_
      go_simp
      try go_bits
      refine hKo _ _ fun fa11 fh11 => ?_
      clear hKo Ko fh10 fa10
      refine Kn.step fh11 rfl rfl .none (Kn.ex_bin fh11 (.tmp rfl) (.tmp rfl)) fun Ko hKo => ?_
      go_simp
      try go_bits
      refine hKo _ _ fun fa12 fh12 => ?_
      clear hKo Ko fh11 fa11
      refine wpList_nil ?_
      refine hK8 _ _ ?_
      clear hK8 K8
      replace fh12 := fh12.cut (.cons (t := 14) rfl (.cons (t := 5) rfl (.cons (t := 0) rfl (.cons (t := 1) rfl .nil))))
      refine Kn.yes fh12 (.tmp rfl) ?_
      refine wp_skip ?_
      refine hK7 _ _ ?_
      clear hK7 K7
      replace fh12 := fh12.cut (.cons (t := 5) rfl (.cons (t := 0) rfl (.cons (t := 1) rfl .nil)))
      refine wp_seq_k fun K9 hK9 => ?_
      refine wp_block ?_
      by_cases e1 : x1 = y1
      · have q1 : (x1 != y1) = false := by simp [e1]
        have HE : Hid (nt xs k = nt ys k) := Lib.hid (by rw [HX.out, HY.out, e1])
        clear e1
        refine wp_seq_k fun K10 hK10 => ?_
        refine Kn.still (by kernel_rfl) (by kernel_rfl) ?_
        refine Kn.spure fh12 rfl rfl .none (Kn.ex_move fh12 (.tmp rfl)) fun fa13 fh13 => ?_
        clear fh12 fa12
        refine Kn.spure fh13 rfl rfl .none (Kn.ex_move fh13 (.tmp rfl)) fun fa14 fh14 => ?_
        clear fh13 fa13
        refine Kn.sstep fh14 rfl rfl .none (Kn.ex_indexAddr fh14 (.tmp rfl) (.tmp rfl)) fun Ko hKo => ?_
        go_simp
        try go_bits
        refine hKo _ fun fa15 fh15 => ?_
        clear hKo Ko fh14 fa14
        refine Kn.sstep fh15 rfl rfl .none (Kn.ex_load fh15 (.tmp rfl)) fun Ko hKo => ?_
        go_simp
        try go_bits
        refine hKo _ fun fa16 fh16 => ?_
        clear hKo Ko fh15 fa15
        refine Kn.spure fh16 rfl rfl .none (Kn.ex_move fh16 (.tmp rfl)) fun fa17 fh17 => ?_
        clear fh16 fa16
        refine Kn.spure fh17 rfl rfl .none (Kn.ex_move fh17 (.tmp rfl)) fun fa18 fh18 => ?_
        clear fh17 fa17
        refine Kn.sstep fh18 rfl rfl .none (Kn.ex_indexAddr fh18 (.tmp rfl) (.tmp rfl)) fun Ko hKo => ?_
        go_simp
        try go_bits
        refine hKo _ fun fa19 fh19 => ?_
        clear hKo Ko fh18 fa18
        refine Kn.sstep fh19 rfl rfl .none (Kn.ex_load fh19 (.tmp rfl)) fun Ko hKo => ?_
        go_simp
        try go_bits
        refine hKo _ fun fa20 fh20 => ?_
        clear hKo Ko fh19 fa19
        refine Kn.sstep fh20 rfl rfl .none (Kn.ex_bin fh20 (.tmp rfl) (.tmp rfl)) fun Ko hKo => ?_
        go_simp
        try go_bits
        refine hKo _ fun fa21 fh21 => ?_
        clear hKo Ko fh20 fa20
        refine wpStill_nil ?_
        refine hK10 _ _ ?_
        clear hK10 K10
        replace fh21 := fh21.cut (.cons (t := 25) rfl (.cons (t := 5) rfl (.cons (t := 0) rfl (.cons (t := 1) rfl .nil))))
        refine Kn.no fh21 (.tmp rfl) ?_
        refine wp_skip ?_
        refine Kn.block_normal ?_
        refine hK9 _ _ ?_
        clear hK9 K9
        replace fh21 := fh21.cut (.cons (t := 5) rfl (.cons (t := 0) rfl (.cons (t := 1) rfl .nil)))
        refine wp_region_lit ?_
        refine Kn.pure fh21 rfl rfl .none (Kn.ex_move fh21 (.tmp rfl)) fun fa22 fh22 => ?_
        clear fh21 fa21
        refine Kn.step fh22 rfl rfl .none (Kn.ex_bin fh22 (.tmp rfl) .const) fun Ko hKo => ?_
        go_simp
        try go_bits
        refine hKo _ _ fun fa23 fh23 => ?_
        clear hKo Ko fh22 fa22
        refine Kn.pure fh23 rfl rfl .none (Kn.ex_assign fh23 (.tmp rfl)) fun fa24 fh24 => ?_
        clear fh23 fa23
        refine wpList_nil ?_
        replace fh24 := fh24.cut (.cons (t := 5) rfl (.cons (t := 0) rfl (.cons (t := 1) rfl .nil)))
        exact hKl6 (m6 - 1) _ _ (by omega) ⟨k + 1, q + 1, fh24.cut (.turn (t := 5) rfl (by go_num) (.cons (t := 0) rfl (.cons (t := 1) rfl .nil))), by omega, Lib.hid (fun i hi => by rcases Nat.lt_or_ge i k with h | h; exact HP.out i h; rw [show i = k by omega]; exact HE.out), rfl⟩
      · have q1 : (x1 != y1) = true := by simp [e1]
        have HE : Hid (xs ≠ ys) := Lib.hid (fun h => e1 (by rw [← HX.out, ← HY.out, h]))
        clear e1
        refine wp_seq_k fun K10 hK10 => ?_
        refine Kn.still (by kernel_rfl) (by kernel_rfl) ?_
        refine Kn.spure fh12 rfl rfl .none (Kn.ex_move fh12 (.tmp rfl)) fun fa13 fh13 => ?_
        clear fh12 fa12
        refine Kn.spure fh13 rfl rfl .none (Kn.ex_move fh13 (.tmp rfl)) fun fa14 fh14 => ?_
        clear fh13 fa13
        refine Kn.sstep fh14 rfl rfl .none (Kn.ex_indexAddr fh14 (.tmp rfl) (.tmp rfl)) fun Ko hKo => ?_
        go_simp
        try go_bits
        refine hKo _ fun fa15 fh15 => ?_
        clear hKo Ko fh14 fa14
        refine Kn.sstep fh15 rfl rfl .none (Kn.ex_load fh15 (.tmp rfl)) fun Ko hKo => ?_
        go_simp
        try go_bits
        refine hKo _ fun fa16 fh16 => ?_
        clear hKo Ko fh15 fa15
        refine Kn.spure fh16 rfl rfl .none (Kn.ex_move fh16 (.tmp rfl)) fun fa17 fh17 => ?_
        clear fh16 fa16
        refine Kn.spure fh17 rfl rfl .none (Kn.ex_move fh17 (.tmp rfl)) fun fa18 fh18 => ?_
        clear fh17 fa17
        refine Kn.sstep fh18 rfl rfl .none (Kn.ex_indexAddr fh18 (.tmp rfl) (.tmp rfl)) fun Ko hKo => ?_
        go_simp
        try go_bits
        refine hKo _ fun fa19 fh19 => ?_
        clear hKo Ko fh18 fa18
        refine Kn.sstep fh19 rfl rfl .none (Kn.ex_load fh19 (.tmp rfl)) fun Ko hKo => ?_
        go_simp
        try go_bits
        refine hKo _ fun fa20 fh20 => ?_
        clear hKo Ko fh19 fa19
        refine Kn.sstep fh20 rfl rfl .none (Kn.ex_bin fh20 (.tmp rfl) (.tmp rfl)) fun Ko hKo => ?_
        go_simp
        try go_bits
        refine hKo _ fun fa21 fh21 => ?_
        clear hKo Ko fh20 fa20
        refine wpStill_nil ?_
        refine hK10 _ _ ?_
        clear hK10 K10
        replace fh21 := fh21.cut (.cons (t := 25) rfl (.cons (t := 5) rfl (.cons (t := 0) rfl (.cons (t := 1) rfl .nil))))
        refine Kn.yes fh21 (.tmp rfl) ?_
        replace fh21 := fh21.cut (.cons (t := 5) rfl (.cons (t := 0) rfl (.cons (t := 1) rfl .nil)))
        refine wp_seq_k fun K11 hK11 => ?_
        refine wp_region_lit ?_
        refine Kn.pure fh21 rfl rfl .none (Kn.ex_assign fh21 .const) fun fa22 fh22 => ?_
        clear fh21 fa21
        refine wpList_nil ?_
        refine hK11 _ _ ?_
        clear hK11 K11
        refine wp_ret ?_
        refine Kn.block_ret ?_
        refine Kn.then_ret ?_
        refine Kn.then_ret ?_
        refine Kn.block_ret ?_
        refine Kn.then_ret ?_
        exact Kn.ret1 fh22 rfl rfl ⟨by rw [decide_eq_false HE.out], q + 1, rfl⟩
    · obtain rfl : k = xs.length := by omega
      have HE : Hid (xs = ys) := Lib.hid (nts_eq HL.out HP.out)
      refine wp_seq_k fun K7 hK7 => ?_
      refine wp_seq_k fun K8 hK8 => ?_
      refine wp_region_lit ?_
      refine Kn.pure fh8 rfl rfl .none (Kn.ex_move fh8 (.tmp rfl)) fun fa9 fh9 => ?_
      clear fh8 fa8
      refine Kn.pure fh9 rfl rfl .none (Kn.ex_move fh9 (.tmp rfl)) fun fa10 fh10 => ?_
      clear fh9 fa9
      refine Kn.step fh10 rfl rfl .none (Kn.ex_len fh10 (.tmp rfl)) fun Ko hKo => ?_
      go_simp
      try go_bits
      refine hKo _ _ fun fa11 fh11 => ?_
      clear hKo Ko fh10 fa10
      refine Kn.step fh11 rfl rfl .none (Kn.ex_bin fh11 (.tmp rfl) (.tmp rfl)) fun Ko hKo => ?_
      go_simp
      try go_bits
      refine hKo _ _ fun fa12 fh12 => ?_
      clear hKo Ko fh11 fa11
      refine wpList_nil ?_
      refine hK8 _ _ ?_
      clear hK8 K8
      replace fh12 := fh12.cut (.cons (t := 14) rfl (.cons (t := 5) rfl (.cons (t := 0) rfl (.cons (t := 1) rfl .nil))))
      refine Kn.no fh12 (.tmp rfl) ?_
      replace fh12 := fh12.cut (.cons (t := 5) rfl (.cons (t := 0) rfl (.cons (t := 1) rfl .nil)))
      refine wp_exit ?_
      refine Kn.then_exit ?_
      clear hK7 K7
      refine Kn.then_exit ?_
      clear hKl6 Kl6
      refine Kn.block_exit ?_
      refine hK4 _ _ ?_
      clear hK4 K4
      replace fh12 := fh12.cut .nil
      refine wp_seq_k fun K9 hK9 => ?_
      refine wp_region_lit ?_
      refine Kn.pure fh12 rfl rfl .none (Kn.ex_assign fh12 .const) fun fa13 fh13 => ?_
      clear fh12 fa12
      refine wpList_nil ?_
      refine hK9 _ _ ?_
      clear hK9 K9
      refine wp_ret ?_
      exact Kn.ret1 fh13 rfl rfl ⟨by rw [decide_eq_true HE.out], _, rfl⟩
  · have qn : ((xs.length : Int) != (ys.length : Int)) = true := by simp; omega
    have qn2 : (xs.length != ys.length) = true := by simp [hlen]
    have HE : Hid (xs ≠ ys) := Lib.hid (fun h => hlen (by rw [h]))
    clear hlen
    refine wp_seq_k fun K2 hK2 => ?_
    refine wp_seq_k fun K3 hK3 => ?_
    refine wp_region_lit ?_
    refine Kn.pure fh1 rfl rfl .none (Kn.ex_move fh1 (.tmp rfl)) fun fa2 fh2 => ?_
    clear fh1 fa1
    refine Kn.step fh2 rfl rfl .none (Kn.ex_len fh2 (.tmp rfl)) fun Ko hKo => ?_
    go_simp
    try go_bits
    refine hKo _ _ fun fa3 fh3 => ?_
    clear hKo Ko fh2 fa2
    refine Kn.pure fh3 rfl rfl .none (Kn.ex_move fh3 (.tmp rfl)) fun fa4 fh4 => ?_
    clear fh3 fa3
    refine Kn.step fh4 rfl rfl .none (Kn.ex_len fh4 (.tmp rfl)) fun Ko hKo => ?_
    go_simp
    try go_bits
    refine hKo _ _ fun fa5 fh5 => ?_
    clear hKo Ko fh4 fa4
    refine Kn.step fh5 rfl rfl .none (Kn.ex_bin fh5 (.tmp rfl) (.tmp rfl)) fun Ko hKo => ?_
    go_simp
    try go_bits
    refine hKo _ _ fun fa6 fh6 => ?_
    clear hKo Ko fh5 fa5
    refine wpList_nil ?_
    refine hK3 _ _ ?_
    clear hK3 K3
    replace fh6 := fh6.cut (.cons (t := 10) rfl (.cons (t := 4) rfl (.cons (t := 0) rfl (.cons (t := 1) rfl .nil))))
    refine Kn.yes fh6 (.tmp rfl) ?_
    replace fh6 := fh6.cut (.cons (t := 4) rfl (.cons (t := 0) rfl (.cons (t := 1) rfl .nil)))
    refine wp_seq_k fun K4 hK4 => ?_
    refine wp_region_lit ?_
    refine Kn.pure fh6 rfl rfl .none (Kn.ex_assign fh6 .const) fun fa7 fh7 => ?_
    clear fh6 fa6
    refine wpList_nil ?_
    refine hK4 _ _ ?_
    clear hK4 K4
    refine wp_ret ?_
    refine Kn.then_ret ?_
    exact Kn.ret1 fh7 rfl rfl ⟨by rw [decide_eq_false HE.out], 0, rfl⟩

set_option maxRecDepth 100000 in
set_option maxHeartbeats 2000000 in
theorem refHas_any (A : Option Addr) (ca : Nat) (xs : List Int) (y : Int) (w : World) (hx : xs.length ≤ maxLen) (hA : IIn w A xs) :
    Calls Tryd.prog 20 #[.slice A xs.length ca, .int .i64 y] w fun e w' => e = .returned (.bool (decide (y ∈ xs))) ∧ w = w' := by
  unfold maxLen at hx
  have HA := Lib.hid hA
  clear hA
  refine Kn.calls Tryd.func20 rfl Tryd.ntmps20 rfl (.cons (t := 0) rfl (.cons (t := 1) rfl .nil)) fun fa0 fh0 => ?_
  refine wp_seq_k fun K1 hK1 => ?_
  refine wp_region_lit ?_
  refine Kn.pure fh0 rfl rfl .none (Kn.ex_assign fh0 .const) fun fa1 fh1 => ?_
  clear fh0 fa0
  refine wpList_nil ?_
  refine hK1 _ _ ?_
  clear hK1 K1
  refine wp_seq_k fun K2 hK2 => ?_
  refine wp_seq_k fun K3 hK3 => ?_
  refine wp_region_lit ?_
  refine Kn.pure fh1 rfl rfl .none (Kn.ex_assign fh1 .const) fun fa2 fh2 => ?_
  clear fh1 fa1
  refine wpList_nil ?_
  refine hK3 _ _ ?_
  clear hK3 K3
  refine wp_block ?_
  refine Kn.loop (fun m fr v => ∃ (k : Nat), Kn.Kn 18 [(5, .int .i64 (k : Int)), (0, .slice A xs.length ca), (1, .int .i64 y)] fr ∧ k + m = xs.length ∧ Hid (∀ i, i < k → nt xs i ≠ y) ∧ w = v) xs.length ⟨0, fh2.cut (.turn (t := 5) rfl rfl (.cons (t := 0) rfl (.cons (t := 1) rfl .nil))), by omega, Lib.hid (fun i hi => absurd hi (by omega)), rfl⟩ ?_
  clear fh2 fa2
  intro m4 fa3 v hI Kl4 hKl4
  obtain ⟨k, fh3, hk, HP, rfl⟩ := hI
  by_cases hlt : k < xs.length
  · obtain ⟨ba, oa, rfl, -, ca1⟩ := HA.out k hlt
    obtain ⟨x1, hx1⟩ : ∃ x, nt xs k = x := ⟨_, rfl⟩
    rw [hx1] at ca1
    have HX := Lib.hid hx1
    clear hx1
    refine wp_seq_k fun K5 hK5 => ?_
    refine wp_seq_k fun K6 hK6 => ?_
    refine wp_region_lit ?_
    refine Kn.pure fh3 rfl rfl .none (Kn.ex_move fh3 (.tmp rfl)) fun fa4 fh4 => ?_
    clear fh3 fa3
    refine Kn.pure fh4 rfl rfl .none (Kn.ex_move fh4 (.tmp rfl)) fun fa5 fh5 => ?_
    clear fh4 fa4
    refine Kn.step fh5 rfl rfl .none (Kn.ex_len fh5 (.tmp rfl)) fun Ko hKo => ?_
    go_simp
    try go_bits
    refine hKo _ _ fun fa6 fh6 => ?_
    clear hKo Ko fh5 fa5
    refine Kn.step fh6 rfl rfl .none (Kn.ex_bin fh6 (.tmp rfl) (.tmp rfl)) fun Ko hKo => ?_
    go_simp
    try go_bits
    refine hKo _ _ fun fa7 fh7 => ?_
    clear hKo Ko fh6 fa6
    refine wpList_nil ?_
    refine hK6 _ _ ?_
    clear hK6 K6
    replace fh7 := fh7.cut (.cons (t := 9) rfl (.cons (t := 5) rfl (.cons (t := 0) rfl (.cons (t := 1) rfl .nil))))
    refine Kn.yes fh7 (.tmp rfl) ?_
    refine wp_skip ?_
    refine hK5 _ _ ?_
    clear hK5 K5
    replace fh7 := fh7.cut (.cons (t := 5) rfl (.cons (t := 0) rfl (.cons (t := 1) rfl .nil)))
    refine wp_seq_k fun K7 hK7 => ?_
    refine wp_block ?_
    by_cases e1 : x1 = y
    · have q1 : (x1 == y) = true := by simp [e1]
      have HE : Hid (y ∈ xs) := Lib.hid (by rw [← e1, ← HX.out, nt_at _ _ hlt]; exact List.getElem_mem _)
      clear e1
      refine wp_seq_k fun K8 hK8 => ?_
      refine wp_region_lit ?_
      refine Kn.pure fh7 rfl rfl .none (Kn.ex_move fh7 (.tmp rfl)) fun fa8 fh8 => ?_
      clear fh7 fa7
      refine Kn.pure fh8 rfl rfl .none (Kn.ex_move fh8 (.tmp rfl)) fun fa9 fh9 => ?_
      clear fh8 fa8
      refine Kn.step fh9 rfl rfl .none (Kn.ex_indexAddr fh9 (.tmp rfl) (.tmp rfl)) fun Ko hKo => ?_
      go_simp
      try go_bits
      refine hKo _ _ fun fa10 fh10 => ?_
      clear hKo Ko fh9 fa9
      refine Kn.step fh10 rfl rfl .none (Kn.ex_load fh10 (.tmp rfl)) fun Ko hKo => ?_
      go_simp
      try go_bits
      refine hKo _ _ fun fa11 fh11 => ?_
      clear hKo Ko fh10 fa10
      refine Kn.pure fh11 rfl rfl .none (Kn.ex_move fh11 (.tmp rfl)) fun fa12 fh12 => ?_
      clear fh11 fa11
      refine Kn.step fh12 rfl rfl .none (Kn.ex_bin fh12 (.tmp rfl) (.tmp rfl)) fun Ko hKo => ?_
      go_simp
      try go_bits
      refine hKo _ _ fun fa13 fh13 => ?_
      clear hKo Ko fh12 fa12
      refine wpList_nil ?_
      refine hK8 _ _ ?_
      clear hK8 K8
      replace fh13 := fh13.cut (.cons (t := 17) rfl (.cons (t := 5) rfl (.cons (t := 0) rfl (.cons (t := 1) rfl .nil))))
      refine Kn.yes fh13 (.tmp rfl) ?_
      replace fh13 := fh13.cut (.cons (t := 5) rfl (.cons (t := 0) rfl (.cons (t := 1) rfl .nil)))
      refine wp_seq_k fun K9 hK9 => ?_
      refine wp_region_lit ?_
      refine Kn.pure fh13 rfl rfl .none (Kn.ex_assign fh13 .const) fun fa14 fh14 => ?_
      clear fh13 fa13
      refine wpList_nil ?_
      refine hK9 _ _ ?_
      clear hK9 K9
      refine wp_ret ?_
      refine Kn.block_ret ?_
      refine Kn.then_ret ?_
      refine Kn.then_ret ?_
      refine Kn.block_ret ?_
      refine Kn.then_ret ?_
      exact Kn.ret1 fh14 rfl rfl ⟨by rw [decide_eq_true HE.out], rfl⟩
    · have q1 : (x1 == y) = false := by simp [e1]
      have HP2 : Hid (∀ i, i < k + 1 → nt xs i ≠ y) := Lib.hid (fun i hi => by
        rcases Nat.lt_or_ge i k with h | h
        · exact HP.out i h
        · rw [show i = k by omega, HX.out]; exact e1)
      clear e1
      refine wp_seq_k fun K8 hK8 => ?_
      refine wp_region_lit ?_
      refine Kn.pure fh7 rfl rfl .none (Kn.ex_move fh7 (.tmp rfl)) fun fa8 fh8 => ?_
      clear fh7 fa7
      refine Kn.pure fh8 rfl rfl .none (Kn.ex_move fh8 (.tmp rfl)) fun fa9 fh9 => ?_
      clear fh8 fa8
      refine Kn.step fh9 rfl rfl .none (Kn.ex_indexAddr fh9 (.tmp rfl) (.tmp rfl)) fun Ko hKo => ?_
      go_simp
      try go_bits
      refine hKo _ _ fun fa10 fh10 => ?_
      clear hKo Ko fh9 fa9
      refine Kn.step fh10 rfl rfl .none (Kn.ex_load fh10 (.tmp rfl)) fun Ko hKo => ?_
      go_simp
      try go_bits
      refine hKo _ _ fun fa11 fh11 => ?_
      clear hKo Ko fh10 fa10
      refine Kn.pure fh11 rfl rfl .none (Kn.ex_move fh11 (.tmp rfl)) fun fa12 fh12 => ?_
      clear fh11 fa11
      refine Kn.step fh12 rfl rfl .none (Kn.ex_bin fh12 (.tmp rfl) (.tmp rfl)) fun Ko hKo => ?_
      go_simp
      try go_bits
      refine hKo _ _ fun fa13 fh13 => ?_
      clear hKo Ko fh12 fa12
      refine wpList_nil ?_
      refine hK8 _ _ ?_
      clear hK8 K8
      replace fh13 := fh13.cut (.cons (t := 17) rfl (.cons (t := 5) rfl (.cons (t := 0) rfl (.cons (t := 1) rfl .nil))))
      refine Kn.no fh13 (.tmp rfl) ?_
      refine wp_skip ?_
      refine Kn.block_normal ?_
      refine hK7 _ _ ?_
      clear hK7 K7
      replace fh13 := fh13.cut (.cons (t := 5) rfl (.cons (t := 0) rfl (.cons (t := 1) rfl .nil)))
      refine wp_region_lit ?_
      refine Kn.pure fh13 rfl rfl .none (Kn.ex_move fh13 (.tmp rfl)) fun fa14 fh14 => ?_
      clear fh13 fa13
      refine Kn.step fh14 rfl rfl .none (Kn.ex_bin fh14 (.tmp rfl) .const) fun Ko hKo => ?_
      go_simp
      try go_bits
      refine hKo _ _ fun fa15 fh15 => ?_
      clear hKo Ko fh14 fa14
      refine Kn.pure fh15 rfl rfl .none (Kn.ex_assign fh15 (.tmp rfl)) fun fa16 fh16 => ?_
      clear fh15 fa15
      refine wpList_nil ?_
      replace fh16 := fh16.cut (.cons (t := 5) rfl (.cons (t := 0) rfl (.cons (t := 1) rfl .nil)))
      exact hKl4 (m4 - 1) _ _ (by omega) ⟨k + 1, fh16.cut (.turn (t := 5) rfl (by go_num) (.cons (t := 0) rfl (.cons (t := 1) rfl .nil))), by omega, HP2, rfl⟩
  · obtain rfl : k = xs.length := by omega
    have HE : Hid (¬ y ∈ xs) := Lib.hid (fun h => by
      obtain ⟨i, hi, e⟩ := List.getElem_of_mem h
      exact HP.out i hi (by rw [nt_at _ _ hi]; exact e))
    refine wp_seq_k fun K5 hK5 => ?_
    refine wp_seq_k fun K6 hK6 => ?_
    refine wp_region_lit ?_
    refine Kn.pure fh3 rfl rfl .none (Kn.ex_move fh3 (.tmp rfl)) fun fa4 fh4 => ?_
    clear fh3 fa3
    refine Kn.pure fh4 rfl rfl .none (Kn.ex_move fh4 (.tmp rfl)) fun fa5 fh5 => ?_
    clear fh4 fa4
    refine Kn.step fh5 rfl rfl .none (Kn.ex_len fh5 (.tmp rfl)) fun Ko hKo => ?_
    go_simp
    try go_bits
    refine hKo _ _ fun fa6 fh6 => ?_
    clear hKo Ko fh5 fa5
    refine Kn.step fh6 rfl rfl .none (Kn.ex_bin fh6 (.tmp rfl) (.tmp rfl)) fun Ko hKo => ?_
    go_simp
    try go_bits
    refine hKo _ _ fun fa7 fh7 => ?_
    clear hKo Ko fh6 fa6
    refine wpList_nil ?_
    refine hK6 _ _ ?_
    clear hK6 K6
    replace fh7 := fh7.cut (.cons (t := 9) rfl (.cons (t := 5) rfl (.cons (t := 0) rfl (.cons (t := 1) rfl .nil))))
    refine Kn.no fh7 (.tmp rfl) ?_
    replace fh7 := fh7.cut (.cons (t := 5) rfl (.cons (t := 0) rfl (.cons (t := 1) rfl .nil)))
    refine wp_exit ?_
    refine Kn.then_exit ?_
    clear hK5 K5
    refine Kn.then_exit ?_
    clear hKl4 Kl4
    refine Kn.block_exit ?_
    refine hK2 _ _ ?_
    clear hK2 K2
    replace fh7 := fh7.cut .nil
    refine wp_seq_k fun K7 hK7 => ?_
    refine wp_region_lit ?_
    refine Kn.pure fh7 rfl rfl .none (Kn.ex_assign fh7 .const) fun fa8 fh8 => ?_
    clear fh7 fa7
    refine wpList_nil ?_
    refine hK7 _ _ ?_
    clear hK7 K7
    refine wp_ret ?_
    exact Kn.ret1 fh8 rfl rfl ⟨by rw [decide_eq_false HE.out], rfl⟩

end Go.Proofs.YtinjecaanjeapaaDoor.Num
