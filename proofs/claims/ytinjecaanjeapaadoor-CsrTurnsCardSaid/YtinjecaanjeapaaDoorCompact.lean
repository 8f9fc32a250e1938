/- Contracts of the program's edges: slices.Compact (written by gen_comp.py). -/
import Derived.Test.YtinjecaanjeapaaDoorCompInv
namespace Go.Proofs.YtinjecaanjeapaaDoor.Edg
open Go Go.RowKit Go.Lib


set_option maxRecDepth 100000 in
set_option maxHeartbeats 2000000 in
theorem compact_few (A : Option Addr) (n cap : Nat) (w : World) (h : (n : Int) < 2) (h2 : n < 2) :
    Calls Tryd.prog 38 #[.slice A n cap] w fun e w' => e = .returned (.slice A n cap) ∧ w = w' := by
  refine Kn.calls Tryd.func38 rfl Tryd.ntmps38 rfl (.cons (t := 0) rfl .nil) fun fa0 fh0 => ?_
  refine wp_seq_k fun K1 hK1 => ?_
  refine wp_region_lit ?_
  refine Kn.pure fh0 rfl rfl .none (Kn.ex_assign fh0 .const) fun fa1 fh1 => ?_
  clear fh0 fa0
  refine wpList_nil ?_
  refine hK1 _ _ ?_
  clear hK1 K1
  refine wp_seq_k fun K2 hK2 => ?_
  refine wp_seq_k fun K3 hK3 => ?_
  refine wp_region_lit ?_
  refine Kn.pure fh1 rfl rfl .none (Kn.ex_move fh1 (.tmp rfl)) fun fa2 fh2 => ?_
  clear fh1 fa1
  refine Kn.step fh2 rfl rfl .none (Kn.ex_len fh2 (.tmp rfl)) fun Ko hKo => ?_
  go_simp
  try go_bits
  refine hKo _ _ fun fa3 fh3 => ?_
  clear hKo Ko fh2 fa2
  refine Kn.step fh3 rfl rfl .none (Kn.ex_bin fh3 (.tmp rfl) .const) fun Ko hKo => ?_
  go_simp
  try go_bits
  refine hKo _ _ fun fa4 fh4 => ?_
  clear hKo Ko fh3 fa3
  refine wpList_nil ?_
  refine hK3 _ _ ?_
  clear hK3 K3
  replace fh4 := fh4.cut (.cons (t := 8) rfl (.cons (t := 2) rfl (.cons (t := 0) rfl .nil)))
  refine Kn.yes fh4 (.tmp rfl) ?_
  replace fh4 := fh4.cut (.cons (t := 2) rfl (.cons (t := 0) rfl .nil))
  refine wp_seq_k fun K4 hK4 => ?_
  refine wp_region_lit ?_
  refine Kn.pure fh4 rfl rfl .none (Kn.ex_move fh4 (.tmp rfl)) fun fa5 fh5 => ?_
  clear fh4 fa4
  refine Kn.pure fh5 rfl rfl .none (Kn.ex_assign fh5 (.tmp rfl)) fun fa6 fh6 => ?_
  clear fh5 fa5
  refine wpList_nil ?_
  refine hK4 _ _ ?_
  clear hK4 K4
  replace fh6 := fh6.cut (.cons (t := 2) rfl (.cons (t := 0) rfl .nil))
  refine wp_ret ?_
  refine Kn.then_ret ?_
  exact Kn.ret1 fh6 rfl rfl ⟨rfl, rfl⟩

theorem sat_run {r : Result Value} {x : Value} {v : World} (H : Kn.Sat (fun y w' => y = x ∧ w' = v) r) : r = .ok x v := by
  cases r with
  | ok y w' => obtain ⟨rfl, rfl⟩ := H; rfl
  | halt y w' => exact H.elim
theorem sliceLE (g n cap a : Nat) (v : World) (h : a ≤ n) (h2 : n ≤ cap) (h3 : a < cap) (h4 : cap ≤ 9223372036854775807) : (Instr.sliceAt 22 (.slice (some ⟨g, 0, none⟩) n cap) (some (.int .i64 (a : Int))) none none).run Tryd.prog v = .ok (.slice (some ⟨g, a * 2, none⟩) (n - a) (cap - a)) v := by
  refine sat_run ?_
  go_simp
  try go_bits
  have h5 : ¬ cap = a := by omega
  simp [h5]
theorem ddk_one (l : List (Int × Int)) (h : 0 < l.length) : ddk l 1 = l.take 1 := by rw [ddk_more l 0 (.inl rfl), take_ed l 0 h]; rfl
set_option maxRecDepth 100000 in
set_option maxHeartbeats 2000000 in
theorem compact_any (g n cap : Nat) (l : List (Int × Int)) (w : World) (hn : n = l.length) (h2 : 2 ≤ n) (hcap : n ≤ cap) (hc : cap ≤ maxLen) (hH : HoldE w g l) (hbig : n ≤ 20000) :
    Calls Tryd.prog 38 #[.slice (some ⟨g, 0, none⟩) n cap] w fun e w' => ∃ n' c', n' = (ddk l n).length ∧ e = .returned (.slice (some ⟨g, 0, none⟩) n' c') ∧ HoldE w' g (ddk l n) ∧ Below g w w' := by
  have HH := Lib.hid hH
  have HL := Lib.hid hn
  clear hH hn
  have h3 : ¬ (n : Int) < 2 := by omega
  have h4 : ¬ n < 2 := by omega
  unfold maxLen at hc
  refine Kn.calls Tryd.func38 rfl Tryd.ntmps38 rfl (.cons (t := 0) rfl .nil) fun fa0 fh0 => ?_
  refine wp_seq_k fun K1 hK1 => ?_
  refine wp_region_lit ?_
  refine Kn.pure fh0 rfl rfl .none (Kn.ex_assign fh0 .const) fun fa1 fh1 => ?_
  clear fh0 fa0
  refine wpList_nil ?_
  refine hK1 _ _ ?_
  clear hK1 K1
  refine wp_seq_k fun K2 hK2 => ?_
  refine wp_seq_k fun K3 hK3 => ?_
  refine wp_region_lit ?_
  refine Kn.pure fh1 rfl rfl .none (Kn.ex_move fh1 (.tmp rfl)) fun fa2 fh2 => ?_
  clear fh1 fa1
  refine Kn.step fh2 rfl rfl .none (Kn.ex_len fh2 (.tmp rfl)) fun Ko hKo => ?_
  go_simp
  try go_bits
  refine hKo _ _ fun fa3 fh3 => ?_
  clear hKo Ko fh2 fa2
  refine Kn.step fh3 rfl rfl .none (Kn.ex_bin fh3 (.tmp rfl) .const) fun Ko hKo => ?_
  go_simp
  try go_bits
  refine hKo _ _ fun fa4 fh4 => ?_
  clear hKo Ko fh3 fa3
  refine wpList_nil ?_
  refine hK3 _ _ ?_
  clear hK3 K3
  replace fh4 := fh4.cut (.cons (t := 8) rfl (.cons (t := 2) rfl (.cons (t := 0) rfl .nil)))
  refine Kn.no fh4 (.tmp rfl) ?_
  refine wp_skip ?_
  refine hK2 _ _ ?_
  clear hK2 K2
  replace fh4 := fh4.cut (.cons (t := 2) rfl (.cons (t := 0) rfl .nil))
  refine wp_seq_k fun K4 hK4 => ?_
  refine wp_seq_k fun K5 hK5 => ?_
  refine wp_region_lit ?_
  refine Kn.pure fh4 rfl rfl .none (Kn.ex_assign fh4 .const) fun fa5 fh5 => ?_
  clear fh4 fa4
  refine wpList_nil ?_
  refine hK5 _ _ ?_
  clear hK5 K5
  refine wp_block ?_
  refine Kn.loop (fun m fr u => ∃ (i j q : Nat), Kn.Kn 61 [(3, .int .i64 (i : Int)), (0, .slice (some ⟨g, 0, none⟩) n cap)] fr ∧ i + m = n ∧ i = j + 1 ∧ Hid (ddk l i = l.take i) ∧ u = w.drewN q) (n - 1) ⟨1, 0, 0, fh5.cut (.cons (t := 3) rfl (.cons (t := 0) rfl .nil)), by omega, rfl, Lib.hid (ddk_one l (by have hl := HL.out; omega)), rfl⟩ ?_
  clear fh5 fa5
  intro m6 fa6 u hI Kl6 hKl6
  obtain ⟨i, j, q, fh6, him, hij, HD, rfl⟩ := hI
  by_cases hlt : i < n
  · obtain ⟨⟨ca1, ca2⟩, -⟩ := HH.out i (by have hl := HL.out; omega)
    obtain ⟨⟨cb1, cb2⟩, -⟩ := HH.out j (by have hl := HL.out; omega)
    obtain ⟨x1, hx1⟩ : ∃ x, (ed l i).1 = x := ⟨_, rfl⟩
    obtain ⟨x2, hx2⟩ : ∃ x, (ed l i).2 = x := ⟨_, rfl⟩
    obtain ⟨y1, hy1⟩ : ∃ x, (ed l j).1 = x := ⟨_, rfl⟩
    obtain ⟨y2, hy2⟩ : ∃ x, (ed l j).2 = x := ⟨_, rfl⟩
    rw [hx1] at ca1
    rw [hx2] at ca2
    rw [hy1] at cb1
    rw [hy2] at cb2
    have HX : Hid (ed l i = (x1, x2)) := Lib.hid (by rw [← hx1, ← hx2])
    have HY : Hid (ed l j = (y1, y2)) := Lib.hid (by rw [← hy1, ← hy2])
    clear hx1 hx2 hy1 hy2
    have qs : (i : Int) - 1 = (j : Int) := by omega
    have hjn : j < n := by omega
    have HIJ := Lib.hid hij
    clear hij
    refine wp_seq_k fun K7 hK7 => ?_
    refine wp_seq_k fun K8 hK8 => ?_
    refine wp_region_lit ?_
    refine Kn.pure fh6 rfl rfl .none (Kn.ex_move fh6 (.tmp rfl)) fun fa7 fh7 => ?_
    clear fh6 fa6
    refine Kn.pure fh7 rfl rfl .none (Kn.ex_move fh7 (.tmp rfl)) fun fa8 fh8 => ?_
    clear fh7 fa7
    refine Kn.step fh8 rfl rfl .none (Kn.ex_len fh8 (.tmp rfl)) fun Ko hKo => ?_
    go_simp
    try go_bits
    refine hKo _ _ fun fa9 fh9 => ?_
    clear hKo Ko fh8 fa8
    refine Kn.step fh9 rfl rfl .none (Kn.ex_bin fh9 (.tmp rfl) (.tmp rfl)) fun Ko hKo => ?_
    go_simp
    try go_bits
    refine hKo _ _ fun fa10 fh10 => ?_
    clear hKo Ko fh9 fa9
    refine wpList_nil ?_
    refine hK8 _ _ ?_
    clear hK8 K8
    replace fh10 := fh10.cut (.cons (t := 13) rfl (.cons (t := 3) rfl (.cons (t := 0) rfl .nil)))
    refine Kn.yes fh10 (.tmp rfl) ?_
    refine wp_skip ?_
    refine hK7 _ _ ?_
    clear hK7 K7
    replace fh10 := fh10.cut (.cons (t := 3) rfl (.cons (t := 0) rfl .nil))
    refine wp_seq_k fun K9 hK9 => ?_
    refine wp_block ?_
    by_cases e1 : (x1, x2) = (y1, y2)
    · have q1 : decide ((x1, x2) = (y1, y2)) = true := decide_eq_true e1
      have HE : Hid (ed l i = ed l (i - 1)) := Lib.hid (by have := HIJ.out; rw [show i - 1 = j by omega, HX.out, HY.out, e1])
      clear e1
      refine wp_seq_k fun K10 hK10 => ?_
      refine Kn.still (by kernel_rfl) (by kernel_rfl) ?_
      refine Kn.spure fh10 rfl rfl .none (Kn.ex_move fh10 (.tmp rfl)) fun fa11 fh11 => ?_
      clear fh10 fa10
      refine Kn.spure fh11 rfl rfl .none (Kn.ex_move fh11 (.tmp rfl)) fun fa12 fh12 => ?_
      clear fh11 fa11
      refine Kn.sstep fh12 rfl rfl .none (Kn.ex_indexAddr fh12 (.tmp rfl) (.tmp rfl)) fun Ko hKo => ?_
      go_simp
      try go_bits
      refine hKo _ fun fa13 fh13 => ?_
      clear hKo Ko fh12 fa12
      refine Kn.sstep fh13 rfl rfl .none (Kn.ex_load fh13 (.tmp rfl)) fun Ko hKo => ?_
      go_simp
      try go_bits
      refine hKo _ fun fa14 fh14 => ?_
      clear hKo Ko fh13 fa13
      refine Kn.spure fh14 rfl rfl .none (Kn.ex_move fh14 (.tmp rfl)) fun fa15 fh15 => ?_
      clear fh14 fa14
      refine Kn.spure fh15 rfl rfl .none (Kn.ex_move fh15 (.tmp rfl)) fun fa16 fh16 => ?_
      clear fh15 fa15
      refine Kn.sstep fh16 rfl rfl .none (Kn.ex_bin fh16 (.tmp rfl) .const) fun Ko hKo => ?_
      go_simp
      try go_bits
      refine hKo _ fun fa17 fh17 => ?_
      clear hKo Ko fh16 fa16
      refine Kn.sstep fh17 rfl rfl .none (Kn.ex_indexAddr fh17 (.tmp rfl) (.tmp rfl)) fun Ko hKo => ?_
      go_simp
      try go_bits
      refine hKo _ fun fa18 fh18 => ?_
      clear hKo Ko fh17 fa17
      refine Kn.sstep fh18 rfl rfl .none (Kn.ex_load fh18 (.tmp rfl)) fun Ko hKo => ?_
      go_simp
      try go_bits
      refine hKo _ fun fa19 fh19 => ?_
      clear hKo Ko fh18 fa18
      refine Kn.sstep fh19 rfl rfl .none (Kn.ex_bin fh19 (.tmp rfl) (.tmp rfl)) fun Ko hKo => ?_
      rw [eqlE, q1]
      refine hKo _ fun fa20 fh20 => ?_
      clear hKo Ko fh19 fa19
      refine wpStill_nil ?_
      refine hK10 _ _ ?_
      clear hK10 K10
      replace fh20 := fh20.cut (.cons (t := 25) rfl (.cons (t := 3) rfl (.cons (t := 0) rfl .nil)))
      refine Kn.yes fh20 (.tmp rfl) ?_
      replace fh20 := fh20.cut (.cons (t := 3) rfl (.cons (t := 0) rfl .nil))
      clear ca1 ca2 cb1 cb2 q1 HX HY qs
      have HC0 : Hid (CI w (w.drewN (q + 1)) g l i 1 i) := Lib.hid (CI.start HH.out (q + 1) (by have := HIJ.out; rw [ddk_same l i (by omega) HE.out, HD.out]))
      clear HE HD
      have hi1 : i ≤ n := by omega
      have hi2 : i ≤ cap := by omega
      obtain ⟨m2, hm2⟩ : ∃ x, n - i = x := ⟨_, rfl⟩
      obtain ⟨c2, hc2⟩ : ∃ x, cap - i = x := ⟨_, rfl⟩
      obtain ⟨p2, hp2⟩ : ∃ x, i * 2 = x := ⟨_, rfl⟩
      have HM : Hid (i + m2 = n ∧ p2 = i * 2 ∧ i + c2 = cap) := Lib.hid (by omega)
      have hm3 : m2 ≤ 20000 := by omega
      refine wp_seq_k fun K11 hK11 => ?_
      refine wp_region_lit ?_
      refine Kn.pure fh20 rfl rfl .none (Kn.ex_move fh20 (.tmp rfl)) fun fa21 fh21 => ?_
      clear fh20 fa20
      refine Kn.pure fh21 rfl rfl .none (Kn.ex_move fh21 (.tmp rfl)) fun fa22 fh22 => ?_
      clear fh21 fa21
      refine Kn.step fh22 rfl rfl .none (Kn.ex_sliceL fh22 (.tmp rfl) (.tmp rfl)) fun Ko hKo => ?_
      go_simp
      try go_bits
      refine hKo _ _ fun fa23 fh23 => ?_
      clear hKo Ko fh22 fa22
      refine Kn.pure fh23 rfl rfl .none (Kn.ex_assign fh23 (.tmp rfl)) fun fa24 fh24 => ?_
      clear fh23 fa23
      refine wpList_nil ?_
      refine hK11 _ _ ?_
      clear hK11 K11
      replace fh24 := fh24.cut (.cons (t := 4) rfl (.cons (t := 3) rfl (.cons (t := 0) rfl .nil)))
      refine wp_seq_k fun K12 hK12 => ?_
      refine wp_seq_k fun K13 hK13 => ?_
      refine wp_region_lit ?_
      refine Kn.pure fh24 rfl rfl .none (Kn.ex_assign fh24 .const) fun fa25 fh25 => ?_
      clear fh24 fa24
      refine wpList_nil ?_
      refine hK13 _ _ ?_
      clear hK13 K13
      refine wp_block ?_
      refine Kn.loop (fun m fr u => ∃ (k j2 a : Nat), Kn.Kn 61 [(5, .int .i64 (k : Int)), (3, .int .i64 (a : Int)), (4, .slice (some ⟨g, p2, none⟩) m2 c2), (0, .slice (some ⟨g, 0, none⟩) n cap)] fr ∧ k + m = m2 ∧ k = j2 + 1 ∧ a + 1 ≤ i + k ∧ Hid (CI w u g l i k a)) (m2 - 1) ⟨1, 0, i, fh25.cut (.cons (t := 5) rfl (.cons (t := 3) rfl (.turn (t := 4) rfl (by rw [if_neg (by omega)]) (.cons (t := 0) rfl .nil)))), by omega, rfl, by omega, HC0⟩ ?_
      clear fh25 fa25
      intro m14 fa26 u hI Kl14 hKl14
      obtain ⟨k, j2, a, fh26, hkm, hkj, hak, HC⟩ := hI
      clear hm2 hc2 hp2 HC0
      by_cases hlt2 : k < m2
      · have hik : i + k < l.length := by have := HM.out.1; have := HL.out; omega
        obtain ⟨ca1, ca2⟩ := HC.out.at hik
        obtain ⟨cb1, cb2⟩ := HC.out.prev hkj hik
        rw [← HM.out.2.1] at ca1 ca2 cb1 cb2
        obtain ⟨x3, hx3⟩ : ∃ x, (ed l (i + k)).1 = x := ⟨_, rfl⟩
        obtain ⟨x4, hx4⟩ : ∃ x, (ed l (i + k)).2 = x := ⟨_, rfl⟩
        obtain ⟨y3, hy3⟩ : ∃ x, (ed l (i + j2)).1 = x := ⟨_, rfl⟩
        obtain ⟨y4, hy4⟩ : ∃ x, (ed l (i + j2)).2 = x := ⟨_, rfl⟩
        rw [hx3] at ca1
        rw [hx4] at ca2
        rw [hy3] at cb1
        rw [hy4] at cb2
        have HX2 : Hid (ed l (i + k) = (x3, x4)) := Lib.hid (by rw [← hx3, ← hx4])
        have HY2 : Hid (ed l (i + k - 1) = (y3, y4)) := Lib.hid (by rw [← hy3, ← hy4, show i + k - 1 = i + j2 by omega])
        clear hx3 hx4 hy3 hy4
        have qs : (k : Int) - 1 = (j2 : Int) := by omega
        have hj2 : j2 < m2 := by omega
        have HIK := Lib.hid hik
        have HKJ := Lib.hid hkj
        clear hik hkj
        refine wp_seq_k fun K15 hK15 => ?_
        refine wp_seq_k fun K16 hK16 => ?_
        refine wp_region_lit ?_
        refine Kn.pure fh26 rfl rfl .none (Kn.ex_move fh26 (.tmp rfl)) fun fa27 fh27 => ?_
        clear fh26 fa26
        refine Kn.pure fh27 rfl rfl .none (Kn.ex_move fh27 (.tmp rfl)) fun fa28 fh28 => ?_
        clear fh27 fa27
        refine Kn.step fh28 rfl rfl .none (Kn.ex_len fh28 (.tmp rfl)) fun Ko hKo => ?_
        go_simp
        try go_bits
        refine hKo _ _ fun fa29 fh29 => ?_
        clear hKo Ko fh28 fa28
        refine Kn.step fh29 rfl rfl .none (Kn.ex_bin fh29 (.tmp rfl) (.tmp rfl)) fun Ko hKo => ?_
        go_simp
        try go_bits
        refine hKo _ _ fun fa30 fh30 => ?_
        clear hKo Ko fh29 fa29
        refine wpList_nil ?_
        refine hK16 _ _ ?_
        clear hK16 K16
        replace fh30 := fh30.cut (.cons (t := 32) rfl (.cons (t := 5) rfl (.cons (t := 3) rfl (.cons (t := 4) rfl (.cons (t := 0) rfl .nil)))))
        refine Kn.yes fh30 (.tmp rfl) ?_
        refine wp_skip ?_
        refine hK15 _ _ ?_
        clear hK15 K15
        replace fh30 := fh30.cut (.cons (t := 5) rfl (.cons (t := 3) rfl (.cons (t := 4) rfl (.cons (t := 0) rfl .nil))))
        refine wp_seq_k fun K17 hK17 => ?_
        refine wp_block ?_
        by_cases e2 : (x3, x4) = (y3, y4)
        · have q2 : (!decide ((x3, x4) = (y3, y4))) = false := by simp only [e2, decide_true, Bool.not_true]
          have HC2 : Hid (CI w u.drew g l i (k + 1) a) := Lib.hid (HC.out.drew.same (by have := HKJ.out; omega) (by rw [HX2.out, HY2.out, e2]))
          clear e2
          refine wp_seq_k fun K18 hK18 => ?_
          refine Kn.still (by kernel_rfl) (by kernel_rfl) ?_
          refine Kn.spure fh30 rfl rfl .none (Kn.ex_move fh30 (.tmp rfl)) fun fa31 fh31 => ?_
          clear fh30 fa30
          refine Kn.spure fh31 rfl rfl .none (Kn.ex_move fh31 (.tmp rfl)) fun fa32 fh32 => ?_
          clear fh31 fa31
          refine Kn.sstep fh32 rfl rfl .none (Kn.ex_indexAddr fh32 (.tmp rfl) (.tmp rfl)) fun Ko hKo => ?_
          go_simp
          try go_bits
          refine hKo _ fun fa33 fh33 => ?_
          clear hKo Ko fh32 fa32
          refine Kn.sstep fh33 rfl rfl .none (Kn.ex_load fh33 (.tmp rfl)) fun Ko hKo => ?_
          go_simp
          try go_bits
          refine hKo _ fun fa34 fh34 => ?_
          clear hKo Ko fh33 fa33
          refine Kn.spure fh34 rfl rfl .none (Kn.ex_move fh34 (.tmp rfl)) fun fa35 fh35 => ?_
          clear fh34 fa34
          refine Kn.spure fh35 rfl rfl .none (Kn.ex_move fh35 (.tmp rfl)) fun fa36 fh36 => ?_
          clear fh35 fa35
          refine Kn.sstep fh36 rfl rfl .none (Kn.ex_bin fh36 (.tmp rfl) .const) fun Ko hKo => ?_
          go_simp
          try go_bits
          refine hKo _ fun fa37 fh37 => ?_
          clear hKo Ko fh36 fa36
          refine Kn.sstep fh37 rfl rfl .none (Kn.ex_indexAddr fh37 (.tmp rfl) (.tmp rfl)) fun Ko hKo => ?_
          go_simp
          try go_bits
          refine hKo _ fun fa38 fh38 => ?_
          clear hKo Ko fh37 fa37
          refine Kn.sstep fh38 rfl rfl .none (Kn.ex_load fh38 (.tmp rfl)) fun Ko hKo => ?_
          go_simp
          try go_bits
          refine hKo _ fun fa39 fh39 => ?_
          clear hKo Ko fh38 fa38
          refine Kn.sstep fh39 rfl rfl .none (Kn.ex_bin fh39 (.tmp rfl) (.tmp rfl)) fun Ko hKo => ?_
          rw [neqE, q2]
          refine hKo _ fun fa40 fh40 => ?_
          clear hKo Ko fh39 fa39
          refine wpStill_nil ?_
          refine hK18 _ _ ?_
          clear hK18 K18
          replace fh40 := fh40.cut (.cons (t := 44) rfl (.cons (t := 5) rfl (.cons (t := 3) rfl (.cons (t := 4) rfl (.cons (t := 0) rfl .nil)))))
          refine Kn.no fh40 (.tmp rfl) ?_
          refine wp_skip ?_
          refine Kn.block_normal ?_
          refine hK17 _ _ ?_
          clear hK17 K17
          replace fh40 := fh40.cut (.cons (t := 5) rfl (.cons (t := 3) rfl (.cons (t := 4) rfl (.cons (t := 0) rfl .nil))))
          refine wp_region_lit ?_
          refine Kn.pure fh40 rfl rfl .none (Kn.ex_move fh40 (.tmp rfl)) fun fa41 fh41 => ?_
          clear fh40 fa40
          refine Kn.step fh41 rfl rfl .none (Kn.ex_bin fh41 (.tmp rfl) .const) fun Ko hKo => ?_
          go_simp
          try go_bits
          refine hKo _ _ fun fa42 fh42 => ?_
          clear hKo Ko fh41 fa41
          refine Kn.pure fh42 rfl rfl .none (Kn.ex_assign fh42 (.tmp rfl)) fun fa43 fh43 => ?_
          clear fh42 fa42
          refine wpList_nil ?_
          replace fh43 := fh43.cut (.cons (t := 5) rfl (.cons (t := 3) rfl (.cons (t := 4) rfl (.cons (t := 0) rfl .nil))))
          exact hKl14 (m14 - 1) _ _ (by omega) ⟨k + 1, k, a, fh43.cut (.turn (t := 5) rfl (by go_num) (.cons (t := 3) rfl (.cons (t := 4) rfl (.cons (t := 0) rfl .nil)))), by omega, rfl, by omega, HC2⟩
        · have q2 : (!decide ((x3, x4) = (y3, y4))) = true := by simp only [e2, decide_false, Bool.not_false]
          obtain ⟨u2, hst, hC2⟩ := HC.out.drew.store hak HIK.out HX2.out (by rw [HX2.out, HY2.out]; exact e2)
          have HC2 := Lib.hid hC2
          have han : a < n := by have := HIK.out; have := HL.out; omega
          clear e2 hC2
          refine wp_seq_k fun K18 hK18 => ?_
          refine Kn.still (by kernel_rfl) (by kernel_rfl) ?_
          refine Kn.spure fh30 rfl rfl .none (Kn.ex_move fh30 (.tmp rfl)) fun fa31 fh31 => ?_
          clear fh30 fa30
          refine Kn.spure fh31 rfl rfl .none (Kn.ex_move fh31 (.tmp rfl)) fun fa32 fh32 => ?_
          clear fh31 fa31
          refine Kn.sstep fh32 rfl rfl .none (Kn.ex_indexAddr fh32 (.tmp rfl) (.tmp rfl)) fun Ko hKo => ?_
          go_simp
          try go_bits
          refine hKo _ fun fa33 fh33 => ?_
          clear hKo Ko fh32 fa32
          refine Kn.sstep fh33 rfl rfl .none (Kn.ex_load fh33 (.tmp rfl)) fun Ko hKo => ?_
          go_simp
          try go_bits
          refine hKo _ fun fa34 fh34 => ?_
          clear hKo Ko fh33 fa33
          refine Kn.spure fh34 rfl rfl .none (Kn.ex_move fh34 (.tmp rfl)) fun fa35 fh35 => ?_
          clear fh34 fa34
          refine Kn.spure fh35 rfl rfl .none (Kn.ex_move fh35 (.tmp rfl)) fun fa36 fh36 => ?_
          clear fh35 fa35
          refine Kn.sstep fh36 rfl rfl .none (Kn.ex_bin fh36 (.tmp rfl) .const) fun Ko hKo => ?_
          go_simp
          try go_bits
          refine hKo _ fun fa37 fh37 => ?_
          clear hKo Ko fh36 fa36
          refine Kn.sstep fh37 rfl rfl .none (Kn.ex_indexAddr fh37 (.tmp rfl) (.tmp rfl)) fun Ko hKo => ?_
          go_simp
          try go_bits
          refine hKo _ fun fa38 fh38 => ?_
          clear hKo Ko fh37 fa37
          refine Kn.sstep fh38 rfl rfl .none (Kn.ex_load fh38 (.tmp rfl)) fun Ko hKo => ?_
          go_simp
          try go_bits
          refine hKo _ fun fa39 fh39 => ?_
          clear hKo Ko fh38 fa38
          refine Kn.sstep fh39 rfl rfl .none (Kn.ex_bin fh39 (.tmp rfl) (.tmp rfl)) fun Ko hKo => ?_
          rw [neqE, q2]
          refine hKo _ fun fa40 fh40 => ?_
          clear hKo Ko fh39 fa39
          refine wpStill_nil ?_
          refine hK18 _ _ ?_
          clear hK18 K18
          replace fh40 := fh40.cut (.cons (t := 44) rfl (.cons (t := 5) rfl (.cons (t := 3) rfl (.cons (t := 4) rfl (.cons (t := 0) rfl .nil)))))
          refine Kn.yes fh40 (.tmp rfl) ?_
          replace fh40 := fh40.cut (.cons (t := 5) rfl (.cons (t := 3) rfl (.cons (t := 4) rfl (.cons (t := 0) rfl .nil))))
          refine wp_seq_k fun K19 hK19 => ?_
          refine wp_region_lit ?_
          refine Kn.pure fh40 rfl rfl .none (Kn.ex_move fh40 (.tmp rfl)) fun fa41 fh41 => ?_
          clear fh40 fa40
          refine Kn.pure fh41 rfl rfl .none (Kn.ex_move fh41 (.tmp rfl)) fun fa42 fh42 => ?_
          clear fh41 fa41
          refine Kn.pure fh42 rfl rfl .none (Kn.ex_move fh42 (.tmp rfl)) fun fa43 fh43 => ?_
          clear fh42 fa42
          refine Kn.pure fh43 rfl rfl .none (Kn.ex_move fh43 (.tmp rfl)) fun fa44 fh44 => ?_
          clear fh43 fa43
          refine Kn.step fh44 rfl rfl .none (Kn.ex_indexAddr fh44 (.tmp rfl) (.tmp rfl)) fun Ko hKo => ?_
          go_simp
          try go_bits
          refine hKo _ _ fun fa45 fh45 => ?_
          clear hKo Ko fh44 fa44
          refine Kn.step fh45 rfl rfl .none (Kn.ex_load fh45 (.tmp rfl)) fun Ko hKo => ?_
          go_simp
          try go_bits
          refine hKo _ _ fun fa46 fh46 => ?_
          clear hKo Ko fh45 fa45
          refine Kn.step fh46 rfl rfl .none (Kn.ex_indexAddr fh46 (.tmp rfl) (.tmp rfl)) fun Ko hKo => ?_
          go_simp
          try go_bits
          refine hKo _ _ fun fa47 fh47 => ?_
          clear hKo Ko fh46 fa46
          refine Kn.stepU fh47 rfl .none (Kn.ex_store fh47 (.tmp rfl) (.tmp rfl)) fun Ko hKo => ?_
          rw [hst]
          refine hKo _ ?_
          clear hKo Ko
          refine wpList_nil ?_
          refine hK19 _ _ ?_
          clear hK19 K19
          replace fh47 := fh47.cut (.cons (t := 5) rfl (.cons (t := 3) rfl (.cons (t := 4) rfl (.cons (t := 0) rfl .nil))))
          clear hst q2
          refine wp_region_lit ?_
          refine Kn.pure fh47 rfl rfl .none (Kn.ex_move fh47 (.tmp rfl)) fun fa48 fh48 => ?_
          clear fh47 fa47
          refine Kn.step fh48 rfl rfl .none (Kn.ex_bin fh48 (.tmp rfl) .const) fun Ko hKo => ?_
          go_simp
          try go_bits
          refine hKo _ _ fun fa49 fh49 => ?_
          clear hKo Ko fh48 fa48
          refine Kn.pure fh49 rfl rfl .none (Kn.ex_assign fh49 (.tmp rfl)) fun fa50 fh50 => ?_
          clear fh49 fa49
          refine wpList_nil ?_
          refine Kn.block_normal ?_
          refine hK17 _ _ ?_
          clear hK17 K17
          replace fh50 := fh50.cut (.cons (t := 3) rfl (.cons (t := 5) rfl (.cons (t := 4) rfl (.cons (t := 0) rfl .nil))))
          refine wp_region_lit ?_
          refine Kn.pure fh50 rfl rfl .none (Kn.ex_move fh50 (.tmp rfl)) fun fa51 fh51 => ?_
          clear fh50 fa50
          refine Kn.step fh51 rfl rfl .none (Kn.ex_bin fh51 (.tmp rfl) .const) fun Ko hKo => ?_
          go_simp
          try go_bits
          refine hKo _ _ fun fa52 fh52 => ?_
          clear hKo Ko fh51 fa51
          refine Kn.pure fh52 rfl rfl .none (Kn.ex_assign fh52 (.tmp rfl)) fun fa53 fh53 => ?_
          clear fh52 fa52
          refine wpList_nil ?_
          replace fh53 := fh53.cut (.cons (t := 5) rfl (.cons (t := 3) rfl (.cons (t := 4) rfl (.cons (t := 0) rfl .nil))))
          exact hKl14 (m14 - 1) _ _ (by omega) ⟨k + 1, k, a + 1, fh53.cut (.turn (t := 5) rfl (by go_num) (.turn (t := 3) rfl (by go_num) (.cons (t := 4) rfl (.cons (t := 0) rfl .nil)))), by omega, rfl, by omega, HC2⟩
      · have hkm2 : i + k = l.length := by have := HM.out.1; have := HL.out; omega
        have han : a < l.length := by omega
        obtain ⟨u2, hcl, hH2, hB2⟩ := HC.out.clear han (cap - a) 0
        have HLN := Lib.hid (HC.out.len (Nat.le_of_lt han))
        rw [hkm2] at HLN
        rw [hkm2] at hH2
        have hl := HL.out
        rw [← hl] at hcl hH2 HLN han
        have HH2 := Lib.hid hH2
        have HB2 := Lib.hid hB2
        have hsl := sliceLE g n cap a u (by omega) hcap (by omega) (by omega)
        have hac : a ≤ cap := by omega
        clear hl hkm2 hH2 hB2 hkj
        obtain rfl : k = m2 := by omega
        refine wp_seq_k fun K15 hK15 => ?_
        refine wp_seq_k fun K16 hK16 => ?_
        refine wp_region_lit ?_
        refine Kn.pure fh26 rfl rfl .none (Kn.ex_move fh26 (.tmp rfl)) fun fa27 fh27 => ?_
        clear fh26 fa26
        refine Kn.pure fh27 rfl rfl .none (Kn.ex_move fh27 (.tmp rfl)) fun fa28 fh28 => ?_
        clear fh27 fa27
        refine Kn.step fh28 rfl rfl .none (Kn.ex_len fh28 (.tmp rfl)) fun Ko hKo => ?_
        go_simp
        try go_bits
        refine hKo _ _ fun fa29 fh29 => ?_
        clear hKo Ko fh28 fa28
        refine Kn.step fh29 rfl rfl .none (Kn.ex_bin fh29 (.tmp rfl) (.tmp rfl)) fun Ko hKo => ?_
        go_simp
        try go_bits
        refine hKo _ _ fun fa30 fh30 => ?_
        clear hKo Ko fh29 fa29
        refine wpList_nil ?_
        refine hK16 _ _ ?_
        clear hK16 K16
        replace fh30 := fh30.cut (.cons (t := 32) rfl (.cons (t := 5) rfl (.cons (t := 3) rfl (.cons (t := 4) rfl (.cons (t := 0) rfl .nil)))))
        refine Kn.no fh30 (.tmp rfl) ?_
        replace fh30 := fh30.cut (.cons (t := 5) rfl (.cons (t := 3) rfl (.cons (t := 4) rfl (.cons (t := 0) rfl .nil))))
        refine wp_exit ?_
        refine Kn.then_exit ?_
        clear hK15 K15
        refine Kn.then_exit ?_
        clear hKl14 Kl14
        refine Kn.block_exit ?_
        refine hK12 _ _ ?_
        clear hK12 K12
        replace fh30 := fh30.cut (.cons (t := 3) rfl (.cons (t := 0) rfl .nil))
        refine wp_seq_k fun K17 hK17 => ?_
        refine wp_region_lit ?_
        refine Kn.pure fh30 rfl rfl .none (Kn.ex_move fh30 (.tmp rfl)) fun fa31 fh31 => ?_
        clear fh30 fa30
        refine Kn.pure fh31 rfl rfl .none (Kn.ex_move fh31 (.tmp rfl)) fun fa32 fh32 => ?_
        clear fh31 fa31
        refine Kn.known fh32 rfl rfl .none (Kn.ex_sliceL fh32 (.tmp rfl) (.tmp rfl)) hsl fun fa33 fh33 => ?_
        clear fh32 fa32
        refine Kn.known0 fh33 rfl .none (Kn.ex_clear fh33 (.cons (.tmp rfl) .nil)) hcl ?_
        refine wpList_nil ?_
        refine hK17 _ _ ?_
        clear hK17 K17
        replace fh33 := fh33.cut (.cons (t := 3) rfl (.cons (t := 0) rfl .nil))
        clear hsl hcl
        refine wp_seq_k fun K18 hK18 => ?_
        refine wp_region_lit ?_
        refine Kn.pure fh33 rfl rfl .none (Kn.ex_move fh33 (.tmp rfl)) fun fa34 fh34 => ?_
        clear fh33 fa33
        refine Kn.pure fh34 rfl rfl .none (Kn.ex_move fh34 (.tmp rfl)) fun fa35 fh35 => ?_
        clear fh34 fa34
        refine Kn.step fh35 rfl rfl .none (Kn.ex_sliceH fh35 (.tmp rfl) (.tmp rfl)) fun Ko hKo => ?_
        go_simp
        try go_bits
        refine hKo _ _ fun fa36 fh36 => ?_
        clear hKo Ko fh35 fa35
        refine Kn.pure fh36 rfl rfl .none (Kn.ex_assign fh36 (.tmp rfl)) fun fa37 fh37 => ?_
        clear fh36 fa36
        refine wpList_nil ?_
        refine hK18 _ _ ?_
        clear hK18 K18
        replace fh37 := fh37.cut (.cons (t := 2) rfl (.cons (t := 3) rfl (.cons (t := 0) rfl .nil)))
        refine wp_ret ?_
        refine Kn.block_ret ?_
        refine Kn.then_ret ?_
        refine Kn.then_ret ?_
        refine Kn.block_ret ?_
        refine Kn.then_ret ?_
        exact Kn.ret1 fh37 rfl rfl ⟨_, _, HLN.out, rfl, HH2.out, HB2.out⟩
    · have q1 : decide ((x1, x2) = (y1, y2)) = false := decide_eq_false e1
      have HE : Hid (ddk l (i + 1) = l.take (i + 1)) := Lib.hid (by have := HIJ.out; have hl := HL.out; rw [ddk_more l i (.inr (by rw [show i - 1 = j by omega, HX.out, HY.out]; exact e1)), HD.out, take_ed l i (by omega)])
      clear e1
      refine wp_seq_k fun K10 hK10 => ?_
      refine Kn.still (by kernel_rfl) (by kernel_rfl) ?_
      refine Kn.spure fh10 rfl rfl .none (Kn.ex_move fh10 (.tmp rfl)) fun fa11 fh11 => ?_
      clear fh10 fa10
      refine Kn.spure fh11 rfl rfl .none (Kn.ex_move fh11 (.tmp rfl)) fun fa12 fh12 => ?_
      clear fh11 fa11
      refine Kn.sstep fh12 rfl rfl .none (Kn.ex_indexAddr fh12 (.tmp rfl) (.tmp rfl)) fun Ko hKo => ?_
      go_simp
      try go_bits
      refine hKo _ fun fa13 fh13 => ?_
      clear hKo Ko fh12 fa12
      refine Kn.sstep fh13 rfl rfl .none (Kn.ex_load fh13 (.tmp rfl)) fun Ko hKo => ?_
      go_simp
      try go_bits
      refine hKo _ fun fa14 fh14 => ?_
      clear hKo Ko fh13 fa13
      refine Kn.spure fh14 rfl rfl .none (Kn.ex_move fh14 (.tmp rfl)) fun fa15 fh15 => ?_
      clear fh14 fa14
      refine Kn.spure fh15 rfl rfl .none (Kn.ex_move fh15 (.tmp rfl)) fun fa16 fh16 => ?_
      clear fh15 fa15
      refine Kn.sstep fh16 rfl rfl .none (Kn.ex_bin fh16 (.tmp rfl) .const) fun Ko hKo => ?_
      go_simp
      try go_bits
      refine hKo _ fun fa17 fh17 => ?_
      clear hKo Ko fh16 fa16
      refine Kn.sstep fh17 rfl rfl .none (Kn.ex_indexAddr fh17 (.tmp rfl) (.tmp rfl)) fun Ko hKo => ?_
      go_simp
      try go_bits
      refine hKo _ fun fa18 fh18 => ?_
      clear hKo Ko fh17 fa17
      refine Kn.sstep fh18 rfl rfl .none (Kn.ex_load fh18 (.tmp rfl)) fun Ko hKo => ?_
      go_simp
      try go_bits
      refine hKo _ fun fa19 fh19 => ?_
      clear hKo Ko fh18 fa18
      refine Kn.sstep fh19 rfl rfl .none (Kn.ex_bin fh19 (.tmp rfl) (.tmp rfl)) fun Ko hKo => ?_
      rw [eqlE, q1]
      refine hKo _ fun fa20 fh20 => ?_
      clear hKo Ko fh19 fa19
      refine wpStill_nil ?_
      refine hK10 _ _ ?_
      clear hK10 K10
      replace fh20 := fh20.cut (.cons (t := 25) rfl (.cons (t := 3) rfl (.cons (t := 0) rfl .nil)))
      refine Kn.no fh20 (.tmp rfl) ?_
      refine wp_skip ?_
      refine Kn.block_normal ?_
      refine hK9 _ _ ?_
      clear hK9 K9
      replace fh20 := fh20.cut (.cons (t := 3) rfl (.cons (t := 0) rfl .nil))
      refine wp_region_lit ?_
      refine Kn.pure fh20 rfl rfl .none (Kn.ex_move fh20 (.tmp rfl)) fun fa21 fh21 => ?_
      clear fh20 fa20
      refine Kn.step fh21 rfl rfl .none (Kn.ex_bin fh21 (.tmp rfl) .const) fun Ko hKo => ?_
      go_simp
      try go_bits
      refine hKo _ _ fun fa22 fh22 => ?_
      clear hKo Ko fh21 fa21
      refine Kn.pure fh22 rfl rfl .none (Kn.ex_assign fh22 (.tmp rfl)) fun fa23 fh23 => ?_
      clear fh22 fa22
      refine wpList_nil ?_
      replace fh23 := fh23.cut (.cons (t := 3) rfl (.cons (t := 0) rfl .nil))
      exact hKl6 (m6 - 1) _ _ (by omega) ⟨i + 1, i, q + 1, fh23.cut (.turn (t := 3) rfl (by go_num) (.cons (t := 0) rfl .nil)), by omega, rfl, HE, rfl⟩
  · obtain rfl : i = n := by omega
    refine wp_seq_k fun K7 hK7 => ?_
    refine wp_seq_k fun K8 hK8 => ?_
    refine wp_region_lit ?_
    refine Kn.pure fh6 rfl rfl .none (Kn.ex_move fh6 (.tmp rfl)) fun fa7 fh7 => ?_
    clear fh6 fa6
    refine Kn.pure fh7 rfl rfl .none (Kn.ex_move fh7 (.tmp rfl)) fun fa8 fh8 => ?_
    clear fh7 fa7
    refine Kn.step fh8 rfl rfl .none (Kn.ex_len fh8 (.tmp rfl)) fun Ko hKo => ?_
    go_simp
    try go_bits
    refine hKo _ _ fun fa9 fh9 => ?_
    clear hKo Ko fh8 fa8
    refine Kn.step fh9 rfl rfl .none (Kn.ex_bin fh9 (.tmp rfl) (.tmp rfl)) fun Ko hKo => ?_
    go_simp
    try go_bits
    refine hKo _ _ fun fa10 fh10 => ?_
    clear hKo Ko fh9 fa9
    refine wpList_nil ?_
    refine hK8 _ _ ?_
    clear hK8 K8
    replace fh10 := fh10.cut (.cons (t := 13) rfl (.cons (t := 3) rfl (.cons (t := 0) rfl .nil)))
    refine Kn.no fh10 (.tmp rfl) ?_
    replace fh10 := fh10.cut (.cons (t := 3) rfl (.cons (t := 0) rfl .nil))
    refine wp_exit ?_
    refine Kn.then_exit ?_
    clear hK7 K7
    refine Kn.then_exit ?_
    clear hKl6 Kl6
    refine Kn.block_exit ?_
    refine hK4 _ _ ?_
    clear hK4 K4
    replace fh10 := fh10.cut (.cons (t := 0) rfl .nil)
    refine wp_seq_k fun K9 hK9 => ?_
    refine wp_region_lit ?_
    refine Kn.pure fh10 rfl rfl .none (Kn.ex_move fh10 (.tmp rfl)) fun fa11 fh11 => ?_
    clear fh10 fa10
    refine Kn.pure fh11 rfl rfl .none (Kn.ex_assign fh11 (.tmp rfl)) fun fa12 fh12 => ?_
    clear fh11 fa11
    refine wpList_nil ?_
    refine hK9 _ _ ?_
    clear hK9 K9
    replace fh12 := fh12.cut (.cons (t := 2) rfl .nil)
    refine wp_ret ?_
    exact Kn.ret1 fh12 rfl rfl ⟨i, cap, by have hl := HL.out; rw [HD.out, hl, List.take_length], rfl, by rw [HD.out]; exact (HH.out.take _), below_drewN _ _ _⟩

end Go.Proofs.YtinjecaanjeapaaDoor.Edg
