/- The law GapChain, walked (written by gen_chain.py). -/
import Derived.Test.YtoggeiaofpdboaaChainM
namespace Go.Proofs.Ytoggeiaofpdboaa.Gap
open Go Go.RowKit Go.Lib Oct Num OwX SetM

theorem wf_small (a : Int) (h0 : 0 ≤ a) (h1 : a ≤ 100000) : (Lit.int .i64 a).wf = true := by
  simp only [Lit.wf, Bool.and_eq_true, decide_eq_true_eq]
  have e1 : IntKind.i64.min = -9223372036854775808 := by decide
  have e2 : IntKind.i64.max = 9223372036854775807 := by decide
  omega
theorem own_cap {w : World} {B n cap : Nat} {A : Option Addr} {l : List Int} (h : OwnI w B A n cap l) : n ≤ cap ∧ cap ≤ maxLen := by
  rcases h.2.2 with ⟨hv, hn⟩ | ⟨g, cap', cur, hv, _, _, h1, h2, _⟩
  · injection hv with _ e1 e2
    exact ⟨by omega, by rw [e2]; exact Nat.zero_le _⟩
  · injection hv with _ e1 e2
    subst e2
    exact ⟨h1, h2⟩

set_option maxRecDepth 100000 in
set_option maxHeartbeats 4000000 in
theorem chain_all (A : Option Addr) (N ca : Nat) (X : Nat → Option Addr) (C : Nat → Nat) (Z : Nat → List Int) (w : World) (hn : N ≤ maxLen) (hR : RIn w A N X C Z) :
    Calls Try.prog 4 #[.slice A N ca] w fun e w' => e = .returned (.bool true) ∧ Below w.heap.size w w' := by
  unfold maxLen at hn
  have HR := Lib.hid hR
  clear hR
  refine Kn.calls Try.func4 rfl Try.ntmps4 rfl (.cons (t := 0) rfl .nil) fun fa0 fh0 => ?_
  refine wp_seq_k fun K1 hK1 => ?_
  refine wp_region_lit ?_
  refine Kn.pure fh0 rfl rfl .none (Kn.ex_assign fh0 .const) fun fa1 fh1 => ?_
  clear fh0 fa0
  refine wpList_nil ?_
  refine hK1 _ _ ?_
  clear hK1 K1
  refine wp_seq_k fun K2 hK2 => ?_
  refine wp_seq_k fun K3 hK3 => ?_
  refine wp_region_lit ?_
  refine Kn.call fh1 rfl rfl .none (Kn.ex_call fh1 .nil) Try.call5 (awake6 w) fun e w1 hp => ?_
  obtain ⟨rfl, hb1⟩ := hp
  refine ⟨_, rfl, fun fa2 fh2 => ?_⟩
  clear fh1 fa1
  refine Kn.step fh2 rfl rfl .none (Kn.ex_un fh2 (.tmp rfl)) fun Ko hKo => ?_
  go_simp
  try go_bits
  refine hKo _ _ fun fa3 fh3 => ?_
  clear hKo Ko fh2 fa2
  refine wpList_nil ?_
  refine hK3 _ _ ?_
  clear hK3 K3
  replace fh3 := fh3.cut (.cons (t := 26) rfl (.cons (t := 2) rfl (.cons (t := 0) rfl .nil)))
  refine Kn.no fh3 (.tmp rfl) ?_
  refine wp_skip ?_
  refine hK2 _ _ ?_
  clear hK2 K2
  replace fh3 := fh3.cut (.cons (t := 2) rfl (.cons (t := 0) rfl .nil))
  have HB1 := Lib.hid hb1
  clear hb1
  refine wp_seq_k fun K4 hK4 => ?_
  refine wp_region_lit ?_
  refine Kn.pure fh3 rfl rfl .none (Kn.ex_move fh3 (.tmp rfl)) fun fa4 fh4 => ?_
  clear fh3 fa3
  refine Kn.step fh4 rfl rfl .none (Kn.ex_len fh4 (.tmp rfl)) fun Ko hKo => ?_
  go_simp
  try go_bits
  refine hKo _ _ fun fa5 fh5 => ?_
  clear hKo Ko fh4 fa4
  refine Kn.pure fh5 rfl rfl .none (Kn.ex_assign fh5 (.tmp rfl)) fun fa6 fh6 => ?_
  clear fh5 fa5
  refine wpList_nil ?_
  refine hK4 _ _ ?_
  clear hK4 K4
  replace fh6 := fh6.cut (.cons (t := 3) rfl (.cons (t := 2) rfl (.cons (t := 0) rfl .nil)))
  by_cases h1 : (40 : Int) < (N : Int)
  · refine wp_seq_k fun K5 hK5 => ?_
    refine wp_seq_k fun K6 hK6 => ?_
    refine wp_region_lit ?_
    refine Kn.pure fh6 rfl rfl .none (Kn.ex_move fh6 (.tmp rfl)) fun fa7 fh7 => ?_
    clear fh6 fa6
    refine Kn.step fh7 rfl rfl .none (Kn.ex_bin fh7 (.tmp rfl) .const) fun Ko hKo => ?_
    go_simp
    try go_bits
    refine hKo _ _ fun fa8 fh8 => ?_
    clear hKo Ko fh7 fa7
    refine Kn.pure fh8 rfl rfl .none (Kn.ex_move fh8 (.tmp rfl)) fun fa9 fh9 => ?_
    clear fh8 fa8
    refine Kn.skip fh9 rfl rfl (.some rfl rfl rfl) fun fa10 fh10 => ?_
    clear fh9 fa9
    refine Kn.skip fh10 rfl rfl (.some rfl rfl rfl) fun fa11 fh11 => ?_
    clear fh10 fa10
    refine Kn.pure fh11 rfl rfl .none (Kn.ex_pick fh11 (.tmp rfl) .const) fun fa12 fh12 => ?_
    clear fh11 fa11
    refine wpList_nil ?_
    refine hK6 _ _ ?_
    clear hK6 K6
    replace fh12 := fh12.cut (.cons (t := 34) rfl (.cons (t := 3) rfl (.cons (t := 2) rfl (.cons (t := 0) rfl .nil))))
    refine Kn.yes fh12 (.tmp rfl) ?_
    replace fh12 := fh12.cut (.cons (t := 3) rfl (.cons (t := 2) rfl (.cons (t := 0) rfl .nil)))
    refine wp_seq_k fun K7 hK7 => ?_
    refine wp_region_lit ?_
    refine Kn.pure fh12 rfl rfl .none (Kn.ex_assign fh12 .const) fun fa13 fh13 => ?_
    clear fh12 fa12
    refine wpList_nil ?_
    refine hK7 _ _ ?_
    clear hK7 K7
    refine wp_ret ?_
    refine Kn.then_ret ?_
    exact Kn.ret1 fh13 rfl rfl ⟨rfl, HB1.out⟩
  by_cases h2 : N = 0
  · have q0 : ((N : Int) == 0) = true := by rw [beq_iff_eq]; omega
    have q1 : (N == 0) = true := by rw [beq_iff_eq]; omega
    refine wp_seq_k fun K5 hK5 => ?_
    refine wp_seq_k fun K6 hK6 => ?_
    refine wp_region_lit ?_
    refine Kn.pure fh6 rfl rfl .none (Kn.ex_move fh6 (.tmp rfl)) fun fa7 fh7 => ?_
    clear fh6 fa6
    refine Kn.step fh7 rfl rfl .none (Kn.ex_bin fh7 (.tmp rfl) .const) fun Ko hKo => ?_
    go_simp
    try go_bits
    refine hKo _ _ fun fa8 fh8 => ?_
    clear hKo Ko fh7 fa7
    refine Kn.pure fh8 rfl rfl .none (Kn.ex_move fh8 (.tmp rfl)) fun fa9 fh9 => ?_
    clear fh8 fa8
    refine Kn.pure fh9 rfl rfl (.some rfl rfl rfl) (Kn.ex_move fh9 (.tmp rfl)) fun fa10 fh10 => ?_
    clear fh9 fa9
    refine Kn.step fh10 rfl rfl (.some rfl rfl rfl) (Kn.ex_bin fh10 (.tmp rfl) .const) fun Ko hKo => ?_
    go_simp
    try go_bits
    refine hKo _ _ fun fa11 fh11 => ?_
    clear hKo Ko fh10 fa10
    refine Kn.pure fh11 rfl rfl .none (Kn.ex_pick fh11 (.tmp rfl) (.tmp rfl)) fun fa12 fh12 => ?_
    clear fh11 fa11
    refine wpList_nil ?_
    refine hK6 _ _ ?_
    clear hK6 K6
    replace fh12 := fh12.cut (.cons (t := 34) rfl (.cons (t := 3) rfl (.cons (t := 2) rfl (.cons (t := 0) rfl .nil))))
    refine Kn.yes fh12 (.tmp rfl) ?_
    replace fh12 := fh12.cut (.cons (t := 3) rfl (.cons (t := 2) rfl (.cons (t := 0) rfl .nil)))
    refine wp_seq_k fun K7 hK7 => ?_
    refine wp_region_lit ?_
    refine Kn.pure fh12 rfl rfl .none (Kn.ex_assign fh12 .const) fun fa13 fh13 => ?_
    clear fh12 fa12
    refine wpList_nil ?_
    refine hK7 _ _ ?_
    clear hK7 K7
    refine wp_ret ?_
    refine Kn.then_ret ?_
    exact Kn.ret1 fh13 rfl rfl ⟨rfl, HB1.out⟩
  have q0 : ((N : Int) == 0) = false := by rw [beq_eq_false_iff_ne]; omega
  have q1 : (N == 0) = false := by rw [beq_eq_false_iff_ne]; omega
  refine wp_seq_k fun K5 hK5 => ?_
  refine wp_seq_k fun K6 hK6 => ?_
  refine wp_region_lit ?_
  refine Kn.pure fh6 rfl rfl .none (Kn.ex_move fh6 (.tmp rfl)) fun fa7 fh7 => ?_
  clear fh6 fa6
  refine Kn.step fh7 rfl rfl .none (Kn.ex_bin fh7 (.tmp rfl) .const) fun Ko hKo => ?_
  go_simp
  try go_bits
  refine hKo _ _ fun fa8 fh8 => ?_
  clear hKo Ko fh7 fa7
  refine Kn.pure fh8 rfl rfl .none (Kn.ex_move fh8 (.tmp rfl)) fun fa9 fh9 => ?_
  clear fh8 fa8
  refine Kn.pure fh9 rfl rfl (.some rfl rfl rfl) (Kn.ex_move fh9 (.tmp rfl)) fun fa10 fh10 => ?_
  clear fh9 fa9
  refine Kn.step fh10 rfl rfl (.some rfl rfl rfl) (Kn.ex_bin fh10 (.tmp rfl) .const) fun Ko hKo => ?_
  go_simp
  try go_bits
  refine hKo _ _ fun fa11 fh11 => ?_
  clear hKo Ko fh10 fa10
  refine Kn.pure fh11 rfl rfl .none (Kn.ex_pick fh11 (.tmp rfl) (.tmp rfl)) fun fa12 fh12 => ?_
  clear fh11 fa11
  refine wpList_nil ?_
  refine hK6 _ _ ?_
  clear hK6 K6
  replace fh12 := fh12.cut (.cons (t := 34) rfl (.cons (t := 3) rfl (.cons (t := 2) rfl (.cons (t := 0) rfl .nil))))
  refine Kn.no fh12 (.tmp rfl) ?_
  refine wp_skip ?_
  refine hK5 _ _ ?_
  clear hK5 K5
  replace fh12 := fh12.cut (.cons (t := 3) rfl (.cons (t := 2) rfl (.cons (t := 0) rfl .nil)))
  have hN : N ≤ 40 := by omega
  have hN0 : 0 < N := by omega
  clear h1 h2 q0 q1 hn
  obtain ⟨L, hL⟩ : ∃ L : Nat → List Int, (fun i => tl N (Z i)) = L := ⟨_, rfl⟩
  have HL : Hid (∀ i, L i = tl N (Z i)) := Lib.hid (fun i => by rw [← hL])
  clear hL
  refine wp_seq_k fun K7 hK7 => ?_
  refine wp_region_lit ?_
  refine Kn.pure fh12 rfl rfl .none (Kn.ex_assign fh12 .const) fun fa13 fh13 => ?_
  clear fh12 fa12
  refine wpList_nil ?_
  refine hK7 _ _ ?_
  clear hK7 K7
  refine wp_seq_k fun K8 hK8 => ?_
  refine wp_region_lit ?_
  refine Kn.pure fh13 rfl rfl .none (Kn.ex_assign fh13 .const) fun fa14 fh14 => ?_
  clear fh13 fa13
  refine wpList_nil ?_
  refine hK8 _ _ ?_
  clear hK8 K8
  refine wp_seq_k fun K9 hK9 => ?_
  refine wp_seq_k fun K10 hK10 => ?_
  refine wp_region_lit ?_
  refine Kn.pure fh14 rfl rfl .none (Kn.ex_move fh14 (.tmp rfl)) fun fa15 fh15 => ?_
  clear fh14 fa14
  refine Kn.step fh15 rfl rfl .none (Kn.ex_len fh15 (.tmp rfl)) fun Ko hKo => ?_
  go_simp
  try go_bits
  refine hKo _ _ fun fa16 fh16 => ?_
  clear hKo Ko fh15 fa15
  refine Kn.pure fh16 rfl rfl .none (Kn.ex_move fh16 .const) fun fa17 fh17 => ?_
  clear fh16 fa16
  refine wpList_nil ?_
  refine hK10 _ _ ?_
  clear hK10 K10
  replace fh17 := fh17.cut (.cons (t := 37) rfl (.cons (t := 36) rfl (.cons (t := 35) rfl (.cons (t := 5) rfl (.cons (t := 4) rfl (.cons (t := 3) rfl (.cons (t := 2) rfl .nil)))))))
  refine wp_block ?_
  refine Kn.loop (fun m fr u => ∃ (k cap : Nat) (B : Option Addr), Kn.Kn 147 [(37, .int .i64 (k : Int)), (4, .string (bs (allF L k))), (5, .slice B k cap), (36, .int .i64 (N : Int)), (35, .slice A N ca), (3, .int .i64 (N : Int))] fr ∧ k + m = N ∧ Hid (Lists w u B k cap L) ∧ Hid (Below w.heap.size w u) ∧ Hid ((allF L k).length ≤ 400 * k)) N ⟨0, 0, none, fh17.cut (.turn (t := 37) rfl rfl (.turn (t := 4) rfl rfl (.turn (t := 5) rfl rfl (.cons (t := 36) rfl (.cons (t := 35) rfl (.cons (t := 3) rfl .nil)))))), by omega, Lib.hid (Lists.nil _ _ _), HB1, Lib.hid (by simp [allF])⟩ ?_
  clear fh17 fa17
  intro m11 fa18 u hI Kl11 hKl11
  obtain ⟨k, cap, B, fh18, hk, HLi, HB, HLen⟩ := hI
  clear HB1
  by_cases hlt : k < N
  · obtain ⟨ba, oa, rfl, -, ca1, hY, hzl, hzb⟩ := (HR.out.on HB.out) k hlt
    obtain ⟨z, hz⟩ : ∃ z, Z k = z := ⟨_, rfl⟩
    obtain ⟨xa, hxa⟩ : ∃ x, X k = x := ⟨_, rfl⟩
    obtain ⟨xc, hxc⟩ : ∃ x, C k = x := ⟨_, rfl⟩
    rw [hz, hxa, hxc] at ca1
    rw [hz, hxa] at hY
    rw [hz] at hzl hzb
    have HLk : Hid (L k = pk (inB (N : Int) z z.length) N) := Lib.hid (by rw [HL.out, hz]; rfl)
    have HY := Lib.hid hY
    have HZb := Lib.hid hzb
    unfold maxLen at hzl
    clear hz hxa hxc hY hzb
    obtain ⟨S, hS⟩ : ∃ S, bs (allF L k) = S := ⟨_, rfl⟩
    have hSs : S.size ≤ 400 * k := by rw [← hS, bs_size]; exact HLen.out
    rw [hS] at fh18
    have HS := Lib.hid hS
    clear hS HLen
    refine wp_seq_k fun K12 hK12 => ?_
    refine wp_region_lit ?_
    refine Kn.step fh18 rfl rfl .none (Kn.ex_bin fh18 (.tmp rfl) (.tmp rfl)) fun Ko hKo => ?_
    go_simp
    try go_bits
    refine hKo _ _ fun fa19 fh19 => ?_
    clear hKo Ko fh18 fa18
    refine wpList_nil ?_
    refine hK12 _ _ ?_
    clear hK12 K12
    refine wp_seq_k fun K13 hK13 => ?_
    refine Kn.yes fh19 (.tmp rfl) ?_
    refine wp_skip ?_
    refine hK13 _ _ ?_
    clear hK13 K13
    replace fh19 := fh19.cut (.cons (t := 37) rfl (.cons (t := 4) rfl (.cons (t := 5) rfl (.cons (t := 36) rfl (.cons (t := 35) rfl (.cons (t := 3) rfl .nil))))))
    refine wp_seq_k fun K14 hK14 => ?_
    refine wp_block ?_
    refine wp_seq_k fun K15 hK15 => ?_
    refine wp_region_lit ?_
    refine Kn.pure fh19 rfl rfl .none (Kn.ex_move fh19 (.tmp rfl)) fun fa20 fh20 => ?_
    clear fh19 fa19
    refine Kn.step fh20 rfl rfl .none (Kn.ex_indexAddr fh20 (.tmp rfl) (.tmp rfl)) fun Ko hKo => ?_
    go_simp
    try go_bits
    refine hKo _ _ fun fa21 fh21 => ?_
    clear hKo Ko fh20 fa20
    refine Kn.step fh21 rfl rfl .none (Kn.ex_load fh21 (.tmp rfl)) fun Ko hKo => ?_
    go_simp
    try go_bits
    refine hKo _ _ fun fa22 fh22 => ?_
    clear hKo Ko fh21 fa21
    refine Kn.pure fh22 rfl rfl .none (Kn.ex_assign fh22 (.tmp rfl)) fun fa23 fh23 => ?_
    clear fh22 fa22
    refine Kn.pure fh23 rfl rfl .none (Kn.ex_assign fh23 (.tmp rfl)) fun fa24 fh24 => ?_
    clear fh23 fa23
    refine wpList_nil ?_
    refine hK15 _ _ ?_
    clear hK15 K15
    replace fh24 := fh24.cut (.cons (t := 7) rfl (.cons (t := 6) rfl (.cons (t := 37) rfl (.cons (t := 4) rfl (.cons (t := 5) rfl (.cons (t := 36) rfl (.cons (t := 35) rfl (.cons (t := 3) rfl .nil))))))))
    clear ca1
    refine wp_seq_k fun K16 hK16 => ?_
    refine wp_region_lit ?_
    refine Kn.known fh24 rfl rfl .none Kn.ex_makeMap (run_new u) fun fa25 fh25 => ?_
    clear fh24 fa24
    refine Kn.pure fh25 rfl rfl .none (Kn.ex_assign fh25 (.tmp rfl)) fun fa26 fh26 => ?_
    clear fh25 fa25
    refine wpList_nil ?_
    refine hK16 _ _ ?_
    clear hK16 K16
    replace fh26 := fh26.cut (.cons (t := 8) rfl (.cons (t := 7) rfl (.cons (t := 6) rfl (.cons (t := 37) rfl (.cons (t := 4) rfl (.cons (t := 5) rfl (.cons (t := 36) rfl (.cons (t := 35) rfl (.cons (t := 3) rfl .nil)))))))))
    refine Kn.gen (fun v => SetAt v u.heap.size (inB (N : Int) z 0) ∧ Below u.heap.size u v) ⟨by rw [inB_0]; exact SetAt.new u, (Below.refl _ u).alloc (Nat.le_refl _) _⟩ fun v0 hv => ?_
    have HS0 := Lib.hid hv.1
    have HB0 := Lib.hid hv.2
    clear hv
    refine wp_seq_k fun K17 hK17 => ?_
    refine wp_seq_k fun K18 hK18 => ?_
    refine wp_region_lit ?_
    refine Kn.pure fh26 rfl rfl .none (Kn.ex_move fh26 (.tmp rfl)) fun fa27 fh27 => ?_
    clear fh26 fa26
    refine Kn.step fh27 rfl rfl .none (Kn.ex_len fh27 (.tmp rfl)) fun Ko hKo => ?_
    go_simp
    try go_bits
    refine hKo _ _ fun fa28 fh28 => ?_
    clear hKo Ko fh27 fa27
    refine Kn.pure fh28 rfl rfl .none (Kn.ex_move fh28 .const) fun fa29 fh29 => ?_
    clear fh28 fa28
    refine wpList_nil ?_
    refine hK18 _ _ ?_
    clear hK18 K18
    replace fh29 := fh29.cut (.cons (t := 45) rfl (.cons (t := 44) rfl (.cons (t := 43) rfl (.cons (t := 8) rfl (.cons (t := 6) rfl (.cons (t := 37) rfl (.cons (t := 4) rfl (.cons (t := 5) rfl (.cons (t := 36) rfl (.cons (t := 35) rfl (.cons (t := 3) rfl .nil)))))))))))
    refine wp_block ?_
    refine Kn.loop (fun m fr v => ∃ (j : Nat), Kn.Kn 147 [(45, .int .i64 (j : Int)), (44, .int .i64 (z.length : Int)), (43, .slice xa z.length xc), (37, .int .i64 (k : Int)), (6, .int .i64 (k : Int)), (4, .string S), (5, .slice B k cap), (8, .map (some u.heap.size)), (36, .int .i64 (N : Int)), (35, .slice (some ⟨ba, oa, none⟩) N ca), (3, .int .i64 (N : Int))] fr ∧ j + m = z.length ∧ Hid (SetAt v u.heap.size (inB (N : Int) z j)) ∧ Hid (Below u.heap.size u v)) z.length ⟨0, fh29.cut (.turn (t := 45) rfl rfl (.cons (t := 44) rfl (.cons (t := 43) rfl (.cons (t := 37) rfl (.cons (t := 6) rfl (.cons (t := 4) rfl (.cons (t := 5) rfl (.cons (t := 8) rfl (.cons (t := 36) rfl (.cons (t := 35) rfl (.cons (t := 3) rfl .nil))))))))))), by omega, HS0, HB0⟩ ?_
    clear fh29 fa29
    intro m19 fa30 v hI Kl19 hKl19
    obtain ⟨j, fh30, hj, HSj, HBj⟩ := hI
    clear HS0 HB0
    by_cases hjl : j < z.length
    · obtain ⟨bz, oz, rfl, -, cz⟩ := (HY.out.on HBj.out) j hjl
      have hxb := HZb.out j hjl
      have hsucc := inB_succ (N : Int) z j hjl
      obtain ⟨x, hx⟩ : ∃ x, nt z j = x := ⟨_, rfl⟩
      rw [hx] at cz hxb hsucc
      obtain ⟨t, ht⟩ : ∃ t, x % (N : Int) = t := ⟨_, rfl⟩
      have htb : 0 ≤ t ∧ t < (N : Int) := by rw [← ht]; exact ⟨Int.emod_nonneg _ (by omega), Int.emod_lt_of_pos _ (by omega)⟩
      have htm : x.tmod (N : Int) = t := by rw [Int.tmod_eq_emod_of_nonneg hxb.1]; exact ht
      rw [ht] at hsucc
      obtain ⟨v2, hput, hS2, -, -, hB2⟩ := HSj.out.put (wf_small t htb.1 (by omega))
      have HS2 : Hid (SetAt v2 u.heap.size (inB (N : Int) z (j + 1))) := Lib.hid (by rw [hsucc]; exact hS2)
      have HB2 := Lib.hid (HBj.out.trans (hB2 _ (Nat.le_refl _)))
      have hw1 : wrap64 x = x := IntWalk.wrap64_in _ (by omega)
      clear hx ht hsucc hS2 hB2
      refine wp_seq_k fun K20 hK20 => ?_
      refine wp_region_lit ?_
      refine Kn.step fh30 rfl rfl .none (Kn.ex_bin fh30 (.tmp rfl) (.tmp rfl)) fun Ko hKo => ?_
      go_simp
      try go_bits
      refine hKo _ _ fun fa31 fh31 => ?_
      clear hKo Ko fh30 fa30
      refine wpList_nil ?_
      refine hK20 _ _ ?_
      clear hK20 K20
      refine wp_seq_k fun K21 hK21 => ?_
      refine Kn.yes fh31 (.tmp rfl) ?_
      refine wp_skip ?_
      refine hK21 _ _ ?_
      clear hK21 K21
      replace fh31 := fh31.cut (.cons (t := 45) rfl (.cons (t := 44) rfl (.cons (t := 43) rfl (.cons (t := 37) rfl (.cons (t := 6) rfl (.cons (t := 4) rfl (.cons (t := 5) rfl (.cons (t := 8) rfl (.cons (t := 36) rfl (.cons (t := 35) rfl (.cons (t := 3) rfl .nil)))))))))))
      refine wp_seq_k fun K22 hK22 => ?_
      refine wp_block ?_
      refine wp_seq_k fun K23 hK23 => ?_
      refine wp_region_lit ?_
      refine Kn.step fh31 rfl rfl .none (Kn.ex_indexAddr fh31 (.tmp rfl) (.tmp rfl)) fun Ko hKo => ?_
      go_simp
      try go_bits
      refine hKo _ _ fun fa32 fh32 => ?_
      clear hKo Ko fh31 fa31
      refine Kn.step fh32 rfl rfl .none (Kn.ex_load fh32 (.tmp rfl)) fun Ko hKo => ?_
      go_simp
      try go_bits
      refine hKo _ _ fun fa33 fh33 => ?_
      clear hKo Ko fh32 fa32
      refine Kn.pure fh33 rfl rfl .none (Kn.ex_assign fh33 (.tmp rfl)) fun fa34 fh34 => ?_
      clear fh33 fa33
      refine wpList_nil ?_
      refine hK23 _ _ ?_
      clear hK23 K23
      replace fh34 := fh34.cut (.cons (t := 10) rfl (.cons (t := 45) rfl (.cons (t := 44) rfl (.cons (t := 43) rfl (.cons (t := 37) rfl (.cons (t := 6) rfl (.cons (t := 4) rfl (.cons (t := 5) rfl (.cons (t := 8) rfl (.cons (t := 36) rfl (.cons (t := 35) rfl (.cons (t := 3) rfl .nil))))))))))))
      refine wp_region_lit ?_
      refine Kn.pure fh34 rfl rfl .none (Kn.ex_move fh34 (.tmp rfl)) fun fa35 fh35 => ?_
      clear fh34 fa34
      refine Kn.pure fh35 rfl rfl .none (Kn.ex_move fh35 (.tmp rfl)) fun fa36 fh36 => ?_
      clear fh35 fa35
      refine Kn.step fh36 rfl rfl .none (Kn.ex_convert fh36 (.tmp rfl)) fun Ko hKo => ?_
      go_simp
      try go_bits
      refine hKo _ _ fun fa37 fh37 => ?_
      clear hKo Ko fh36 fa36
      refine Kn.pure fh37 rfl rfl .none (Kn.ex_move fh37 (.tmp rfl)) fun fa38 fh38 => ?_
      clear fh37 fa37
      refine Kn.step fh38 rfl rfl .none (Kn.ex_bin fh38 (.tmp rfl) (.tmp rfl)) fun Ko hKo => ?_
      go_simp
      try go_bits
      try rw [if_neg (by omega)]
      try rw [htm]
      try go_simp
      try go_bits
      refine hKo _ _ fun fa39 fh39 => ?_
      clear hKo Ko fh38 fa38
      refine Kn.stepU fh39 rfl .none (Kn.ex_mapUpdate fh39 (.tmp rfl) (.tmp rfl) .const) fun Ko hKo => ?_
      rw [hput]
      refine hKo _ ?_
      clear hKo Ko
      refine wpList_nil ?_
      refine Kn.block_normal ?_
      refine hK22 _ _ ?_
      clear hK22 K22
      replace fh39 := fh39.cut (.cons (t := 45) rfl (.cons (t := 44) rfl (.cons (t := 43) rfl (.cons (t := 37) rfl (.cons (t := 6) rfl (.cons (t := 4) rfl (.cons (t := 5) rfl (.cons (t := 8) rfl (.cons (t := 36) rfl (.cons (t := 35) rfl (.cons (t := 3) rfl .nil)))))))))))
      clear hput cz htm
      refine wp_region_lit ?_
      refine Kn.step fh39 rfl rfl .none (Kn.ex_bin fh39 (.tmp rfl) .const) fun Ko hKo => ?_
      go_simp
      try go_bits
      refine hKo _ _ fun fa40 fh40 => ?_
      clear hKo Ko fh39 fa39
      refine Kn.pure fh40 rfl rfl .none (Kn.ex_move fh40 (.tmp rfl)) fun fa41 fh41 => ?_
      clear fh40 fa40
      refine wpList_nil ?_
      replace fh41 := fh41.cut (.cons (t := 45) rfl (.cons (t := 44) rfl (.cons (t := 43) rfl (.cons (t := 37) rfl (.cons (t := 6) rfl (.cons (t := 4) rfl (.cons (t := 5) rfl (.cons (t := 8) rfl (.cons (t := 36) rfl (.cons (t := 35) rfl (.cons (t := 3) rfl .nil)))))))))))
      exact hKl19 (m19 - 1) _ _ (by omega) ⟨j + 1, fh41.cut (.turn (t := 45) rfl (by go_num) (.cons (t := 44) rfl (.cons (t := 43) rfl (.cons (t := 37) rfl (.cons (t := 6) rfl (.cons (t := 4) rfl (.cons (t := 5) rfl (.cons (t := 8) rfl (.cons (t := 36) rfl (.cons (t := 35) rfl (.cons (t := 3) rfl .nil))))))))))), by omega, HS2, HB2⟩
    obtain rfl : j = z.length := by omega
    refine wp_seq_k fun K20 hK20 => ?_
    refine wp_region_lit ?_
    refine Kn.step fh30 rfl rfl .none (Kn.ex_bin fh30 (.tmp rfl) (.tmp rfl)) fun Ko hKo => ?_
    go_simp
    try go_bits
    refine hKo _ _ fun fa31 fh31 => ?_
    clear hKo Ko fh30 fa30
    refine wpList_nil ?_
    refine hK20 _ _ ?_
    clear hK20 K20
    refine wp_seq_k fun K21 hK21 => ?_
    refine Kn.no fh31 (.tmp rfl) ?_
    replace fh31 := fh31.cut (.cons (t := 45) rfl (.cons (t := 44) rfl (.cons (t := 43) rfl (.cons (t := 37) rfl (.cons (t := 6) rfl (.cons (t := 4) rfl (.cons (t := 5) rfl (.cons (t := 8) rfl (.cons (t := 36) rfl (.cons (t := 35) rfl (.cons (t := 3) rfl .nil)))))))))))
    refine wp_exit ?_
    refine Kn.then_exit ?_
    clear hK21 K21
    refine Kn.then_exit ?_
    clear hKl19 Kl19
    refine Kn.block_exit ?_
    refine hK17 _ _ ?_
    clear hK17 K17
    replace fh31 := fh31.cut (.cons (t := 37) rfl (.cons (t := 6) rfl (.cons (t := 4) rfl (.cons (t := 5) rfl (.cons (t := 8) rfl (.cons (t := 36) rfl (.cons (t := 35) rfl (.cons (t := 3) rfl .nil))))))))
    obtain ⟨p, hp⟩ : ∃ p, inB (N : Int) z z.length = p := ⟨_, rfl⟩
    rw [hp] at HSj HLk
    clear hp hjl hj
    refine wp_seq_k fun K22 hK22 => ?_
    refine wp_region_lit ?_
    refine Kn.pure fh31 rfl rfl .none (Kn.ex_assign fh31 .const) fun fa32 fh32 => ?_
    clear fh31 fa31
    refine wpList_nil ?_
    refine hK22 _ _ ?_
    clear hK22 K22
    refine wp_seq_k fun K23 hK23 => ?_
    refine wp_seq_k fun K24 hK24 => ?_
    refine wp_region_lit ?_
    refine Kn.pure fh32 rfl rfl .none (Kn.ex_assign fh32 .const) fun fa33 fh33 => ?_
    clear fh32 fa32
    refine wpList_nil ?_
    refine hK24 _ _ ?_
    clear hK24 K24
    refine wp_block ?_
    refine Kn.loop (fun m fr v3 => ∃ (t n' c' : Nat) (A' : Option Addr), Kn.Kn 147 [(12, .int .i64 (t : Int)), (11, .slice A' n' c'), (37, .int .i64 (k : Int)), (6, .int .i64 (k : Int)), (4, .string S), (5, .slice B k cap), (8, .map (some u.heap.size)), (36, .int .i64 (N : Int)), (35, .slice (some ⟨ba, oa, none⟩) N ca), (3, .int .i64 (N : Int))] fr ∧ t + m = N ∧ n' ≤ t ∧ Hid (OwnI v3 u.heap.size A' n' c' (pk p t)) ∧ Hid ((Value.slice A' n' c').ownBlock ≠ some u.heap.size) ∧ Hid (SetAt v3 u.heap.size p) ∧ Hid (Below u.heap.size u v3)) N ⟨0, 0, 0, none, fh33.cut (.turn (t := 12) rfl rfl (.turn (t := 11) rfl rfl (.cons (t := 37) rfl (.cons (t := 6) rfl (.cons (t := 4) rfl (.cons (t := 5) rfl (.cons (t := 8) rfl (.cons (t := 36) rfl (.cons (t := 35) rfl (.cons (t := 3) rfl .nil)))))))))), by omega, Nat.le_refl _, Lib.hid (OwnI.none _ _), Lib.hid (by simp [Value.ownBlock]), HSj, HBj⟩ ?_
    clear fh33 fa33
    intro m25 fa34 v3 hI Kl25 hKl25
    obtain ⟨t, n', c', A', fh34, ht, hnt, HO, HNe, HS3, HB3⟩ := hI
    clear HSj HBj
    by_cases htl : t < N
    · have hhas := HS3.out.has (wf_small (t : Int) (by omega) (by omega))
      have hsucc := pk_succ p t
      cases hpt : p (t : Int)
      · rw [hpt] at hhas hsucc
        simp only [Bool.false_eq_true, if_false, List.append_nil] at hsucc
        have HO2 : Hid (OwnI v3 u.heap.size A' n' c' (pk p (t + 1))) := Lib.hid (by rw [hsucc]; exact HO.out)
        clear hpt hsucc
        refine wp_seq_k fun K26 hK26 => ?_
        refine wp_seq_k fun K27 hK27 => ?_
        refine wp_region_lit ?_
        refine Kn.pure fh34 rfl rfl .none (Kn.ex_move fh34 (.tmp rfl)) fun fa35 fh35 => ?_
        clear fh34 fa34
        refine Kn.pure fh35 rfl rfl .none (Kn.ex_move fh35 (.tmp rfl)) fun fa36 fh36 => ?_
        clear fh35 fa35
        refine Kn.step fh36 rfl rfl .none (Kn.ex_bin fh36 (.tmp rfl) (.tmp rfl)) fun Ko hKo => ?_
        go_simp
        try go_bits
        refine hKo _ _ fun fa37 fh37 => ?_
        clear hKo Ko fh36 fa36
        refine wpList_nil ?_
        refine hK27 _ _ ?_
        clear hK27 K27
        replace fh37 := fh37.cut (.cons (t := 57) rfl (.cons (t := 12) rfl (.cons (t := 11) rfl (.cons (t := 37) rfl (.cons (t := 6) rfl (.cons (t := 4) rfl (.cons (t := 5) rfl (.cons (t := 8) rfl (.cons (t := 36) rfl (.cons (t := 35) rfl (.cons (t := 3) rfl .nil)))))))))))
        refine Kn.yes fh37 (.tmp rfl) ?_
        refine wp_skip ?_
        refine hK26 _ _ ?_
        clear hK26 K26
        replace fh37 := fh37.cut (.cons (t := 12) rfl (.cons (t := 11) rfl (.cons (t := 37) rfl (.cons (t := 6) rfl (.cons (t := 4) rfl (.cons (t := 5) rfl (.cons (t := 8) rfl (.cons (t := 36) rfl (.cons (t := 35) rfl (.cons (t := 3) rfl .nil))))))))))
        refine wp_seq_k fun K28 hK28 => ?_
        refine wp_block ?_
        refine wp_seq_k fun K29 hK29 => ?_
        refine wp_region_lit ?_
        refine Kn.pure fh37 rfl rfl .none (Kn.ex_move fh37 (.tmp rfl)) fun fa38 fh38 => ?_
        clear fh37 fa37
        refine Kn.pure fh38 rfl rfl .none (Kn.ex_move fh38 (.tmp rfl)) fun fa39 fh39 => ?_
        clear fh38 fa38
        refine Kn.known fh39 rfl rfl .none (Kn.ex_lookup fh39 (.tmp rfl) (.tmp rfl)) hhas fun fa40 fh40 => ?_
        clear fh39 fa39
        refine wpList_nil ?_
        refine hK29 _ _ ?_
        clear hK29 K29
        replace fh40 := fh40.cut (.cons (t := 62) rfl (.cons (t := 12) rfl (.cons (t := 11) rfl (.cons (t := 37) rfl (.cons (t := 6) rfl (.cons (t := 4) rfl (.cons (t := 5) rfl (.cons (t := 8) rfl (.cons (t := 36) rfl (.cons (t := 35) rfl (.cons (t := 3) rfl .nil)))))))))))
        clear hhas
        refine Kn.no fh40 (.tmp rfl) ?_
        refine wp_skip ?_
        refine Kn.block_normal ?_
        refine hK28 _ _ ?_
        clear hK28 K28
        replace fh40 := fh40.cut (.cons (t := 12) rfl (.cons (t := 11) rfl (.cons (t := 37) rfl (.cons (t := 6) rfl (.cons (t := 4) rfl (.cons (t := 5) rfl (.cons (t := 8) rfl (.cons (t := 36) rfl (.cons (t := 35) rfl (.cons (t := 3) rfl .nil))))))))))
        refine wp_region_lit ?_
        refine Kn.pure fh40 rfl rfl .none (Kn.ex_move fh40 (.tmp rfl)) fun fa41 fh41 => ?_
        clear fh40 fa40
        refine Kn.step fh41 rfl rfl .none (Kn.ex_bin fh41 (.tmp rfl) .const) fun Ko hKo => ?_
        go_simp
        try go_bits
        refine hKo _ _ fun fa42 fh42 => ?_
        clear hKo Ko fh41 fa41
        refine Kn.pure fh42 rfl rfl .none (Kn.ex_assign fh42 (.tmp rfl)) fun fa43 fh43 => ?_
        clear fh42 fa42
        refine wpList_nil ?_
        replace fh43 := fh43.cut (.cons (t := 12) rfl (.cons (t := 11) rfl (.cons (t := 37) rfl (.cons (t := 6) rfl (.cons (t := 4) rfl (.cons (t := 5) rfl (.cons (t := 8) rfl (.cons (t := 36) rfl (.cons (t := 35) rfl (.cons (t := 3) rfl .nil))))))))))
        exact hKl25 (m25 - 1) _ _ (by omega) ⟨t + 1, n', c', A', fh43.cut (.turn (t := 12) rfl (by go_num) (.cons (t := 11) rfl (.cons (t := 37) rfl (.cons (t := 6) rfl (.cons (t := 4) rfl (.cons (t := 5) rfl (.cons (t := 8) rfl (.cons (t := 36) rfl (.cons (t := 35) rfl (.cons (t := 3) rfl .nil)))))))))), by omega, by omega, HO2, HNe, HS3, HB3⟩
      rw [hpt] at hhas hsucc
      simp only [if_true] at hsucc
      obtain ⟨g', cap', v4, hrun, hown, hbel, hkep⟩ := Num.push1 u v3 24 A' n' c' (pk p t) (t : Int) HO.out HB3.out (by omega)
      have hsl := HS3.out.lt
      have HO2 : Hid (OwnI v4 u.heap.size (some ⟨g', 0, none⟩) (n' + 1) cap' (pk p (t + 1))) := Lib.hid (by rw [hsucc]; exact hown)
      have HS4 := Lib.hid ((HS3.out.on ((Below.refl _ v3).alloc (Nat.le_refl _) (.cells #[.int .i64 (t : Int)] 3))).kept hkep (fun h => HNe.out h.symm))
      have HN4 : Hid ((Value.slice (some ⟨g', 0, none⟩) (n' + 1) cap').ownBlock ≠ some u.heap.size) := Lib.hid (by
        rcases hkep.at' with e | e
        · have h9 := HNe.out
          rw [e] at h9
          simpa [Value.ownBlock] using h9
        · simp [Value.ownBlock]
          simp at e
          omega)
      have HB4 := Lib.hid hbel
      clear hpt hsucc hown hbel hkep hsl
      refine wp_seq_k fun K26 hK26 => ?_
      refine wp_seq_k fun K27 hK27 => ?_
      refine wp_region_lit ?_
      refine Kn.pure fh34 rfl rfl .none (Kn.ex_move fh34 (.tmp rfl)) fun fa35 fh35 => ?_
      clear fh34 fa34
      refine Kn.pure fh35 rfl rfl .none (Kn.ex_move fh35 (.tmp rfl)) fun fa36 fh36 => ?_
      clear fh35 fa35
      refine Kn.step fh36 rfl rfl .none (Kn.ex_bin fh36 (.tmp rfl) (.tmp rfl)) fun Ko hKo => ?_
      go_simp
      try go_bits
      refine hKo _ _ fun fa37 fh37 => ?_
      clear hKo Ko fh36 fa36
      refine wpList_nil ?_
      refine hK27 _ _ ?_
      clear hK27 K27
      replace fh37 := fh37.cut (.cons (t := 57) rfl (.cons (t := 12) rfl (.cons (t := 11) rfl (.cons (t := 37) rfl (.cons (t := 6) rfl (.cons (t := 4) rfl (.cons (t := 5) rfl (.cons (t := 8) rfl (.cons (t := 36) rfl (.cons (t := 35) rfl (.cons (t := 3) rfl .nil)))))))))))
      refine Kn.yes fh37 (.tmp rfl) ?_
      refine wp_skip ?_
      refine hK26 _ _ ?_
      clear hK26 K26
      replace fh37 := fh37.cut (.cons (t := 12) rfl (.cons (t := 11) rfl (.cons (t := 37) rfl (.cons (t := 6) rfl (.cons (t := 4) rfl (.cons (t := 5) rfl (.cons (t := 8) rfl (.cons (t := 36) rfl (.cons (t := 35) rfl (.cons (t := 3) rfl .nil))))))))))
      refine wp_seq_k fun K28 hK28 => ?_
      refine wp_block ?_
      refine wp_seq_k fun K29 hK29 => ?_
      refine wp_region_lit ?_
      refine Kn.pure fh37 rfl rfl .none (Kn.ex_move fh37 (.tmp rfl)) fun fa38 fh38 => ?_
      clear fh37 fa37
      refine Kn.pure fh38 rfl rfl .none (Kn.ex_move fh38 (.tmp rfl)) fun fa39 fh39 => ?_
      clear fh38 fa38
      refine Kn.known fh39 rfl rfl .none (Kn.ex_lookup fh39 (.tmp rfl) (.tmp rfl)) hhas fun fa40 fh40 => ?_
      clear fh39 fa39
      refine wpList_nil ?_
      refine hK29 _ _ ?_
      clear hK29 K29
      replace fh40 := fh40.cut (.cons (t := 62) rfl (.cons (t := 12) rfl (.cons (t := 11) rfl (.cons (t := 37) rfl (.cons (t := 6) rfl (.cons (t := 4) rfl (.cons (t := 5) rfl (.cons (t := 8) rfl (.cons (t := 36) rfl (.cons (t := 35) rfl (.cons (t := 3) rfl .nil)))))))))))
      clear hhas
      refine Kn.yes fh40 (.tmp rfl) ?_
      replace fh40 := fh40.cut (.cons (t := 12) rfl (.cons (t := 11) rfl (.cons (t := 37) rfl (.cons (t := 6) rfl (.cons (t := 4) rfl (.cons (t := 5) rfl (.cons (t := 8) rfl (.cons (t := 36) rfl (.cons (t := 35) rfl (.cons (t := 3) rfl .nil))))))))))
      refine wp_region_lit ?_
      refine Kn.pure fh40 rfl rfl .none (Kn.ex_move fh40 (.tmp rfl)) fun fa41 fh41 => ?_
      clear fh40 fa40
      refine Kn.pure fh41 rfl rfl .none (Kn.ex_move fh41 (.tmp rfl)) fun fa42 fh42 => ?_
      clear fh41 fa41
      refine Kn.step fh42 rfl rfl .none (Kn.ex_buildSlice fh42 (.cons (.tmp rfl) .nil)) fun Ko hKo => ?_
      go_simp
      try go_bits
      refine hKo _ _ fun fa43 fh43 => ?_
      clear hKo Ko fh42 fa42
      refine Kn.known fh43 rfl rfl .none (Kn.ex_append fh43 (.cons (.tmp rfl) (.cons (.tmp rfl) .nil))) hrun fun fa44 fh44 => ?_
      clear fh43 fa43
      clear hrun
      refine Kn.pure fh44 rfl rfl .none (Kn.ex_assign fh44 (.tmp rfl)) fun fa45 fh45 => ?_
      clear fh44 fa44
      refine wpList_nil ?_
      refine Kn.block_normal ?_
      refine hK28 _ _ ?_
      clear hK28 K28
      replace fh45 := fh45.cut (.cons (t := 11) rfl (.cons (t := 12) rfl (.cons (t := 37) rfl (.cons (t := 6) rfl (.cons (t := 4) rfl (.cons (t := 5) rfl (.cons (t := 8) rfl (.cons (t := 36) rfl (.cons (t := 35) rfl (.cons (t := 3) rfl .nil))))))))))
      refine wp_region_lit ?_
      refine Kn.pure fh45 rfl rfl .none (Kn.ex_move fh45 (.tmp rfl)) fun fa46 fh46 => ?_
      clear fh45 fa45
      refine Kn.step fh46 rfl rfl .none (Kn.ex_bin fh46 (.tmp rfl) .const) fun Ko hKo => ?_
      go_simp
      try go_bits
      refine hKo _ _ fun fa47 fh47 => ?_
      clear hKo Ko fh46 fa46
      refine Kn.pure fh47 rfl rfl .none (Kn.ex_assign fh47 (.tmp rfl)) fun fa48 fh48 => ?_
      clear fh47 fa47
      refine wpList_nil ?_
      replace fh48 := fh48.cut (.cons (t := 12) rfl (.cons (t := 11) rfl (.cons (t := 37) rfl (.cons (t := 6) rfl (.cons (t := 4) rfl (.cons (t := 5) rfl (.cons (t := 8) rfl (.cons (t := 36) rfl (.cons (t := 35) rfl (.cons (t := 3) rfl .nil))))))))))
      exact hKl25 (m25 - 1) _ _ (by omega) ⟨t + 1, n' + 1, cap', some ⟨g', 0, none⟩, fh48.cut (.turn (t := 12) rfl (by go_num) (.cons (t := 11) rfl (.cons (t := 37) rfl (.cons (t := 6) rfl (.cons (t := 4) rfl (.cons (t := 5) rfl (.cons (t := 8) rfl (.cons (t := 36) rfl (.cons (t := 35) rfl (.cons (t := 3) rfl .nil)))))))))), by omega, by omega, HO2, HN4, HS4, HB4⟩
    obtain rfl : t = N := by omega
    have hlen := HO.out.1
    rw [← HLk.out] at HO hlen
    subst hlen
    have hgd : GoodT (t : Int) (L k) := by rw [HLk.out]; exact pk_good p t
    have hcap := own_cap HO.out
    have hput := gPut_good (t : Int) (k : Int) A' c' (L k) v3 (by omega) (by omega) (by omega) hcap.1 (by have := hcap.2; unfold maxLen at this; exact this) HO.out.iin hgd
    have hpl := putF_short (t : Int) (k : Int) (L k) (by omega) (by omega) (by omega) hgd
    obtain ⟨R, hR⟩ : ∃ R, bs (putF (k : Int) (L k) (L k).length) = R := ⟨_, rfl⟩
    have hRs : R.size ≤ 400 := by rw [← hR, bs_size]; omega
    rw [hR] at hput
    have HS5 : Hid (bs (allF L (k + 1)) = S ++ R) := Lib.hid (by rw [← HS.out, ← hR, bs_app]; rfl)
    clear hR hgd hcap hpl htl
    refine wp_seq_k fun K26 hK26 => ?_
    refine wp_seq_k fun K27 hK27 => ?_
    refine wp_region_lit ?_
    refine Kn.pure fh34 rfl rfl .none (Kn.ex_move fh34 (.tmp rfl)) fun fa35 fh35 => ?_
    clear fh34 fa34
    refine Kn.pure fh35 rfl rfl .none (Kn.ex_move fh35 (.tmp rfl)) fun fa36 fh36 => ?_
    clear fh35 fa35
    refine Kn.step fh36 rfl rfl .none (Kn.ex_bin fh36 (.tmp rfl) (.tmp rfl)) fun Ko hKo => ?_
    go_simp
    try go_bits
    refine hKo _ _ fun fa37 fh37 => ?_
    clear hKo Ko fh36 fa36
    refine wpList_nil ?_
    refine hK27 _ _ ?_
    clear hK27 K27
    replace fh37 := fh37.cut (.cons (t := 57) rfl (.cons (t := 12) rfl (.cons (t := 11) rfl (.cons (t := 37) rfl (.cons (t := 6) rfl (.cons (t := 4) rfl (.cons (t := 5) rfl (.cons (t := 8) rfl (.cons (t := 36) rfl (.cons (t := 35) rfl (.cons (t := 3) rfl .nil)))))))))))
    refine Kn.no fh37 (.tmp rfl) ?_
    replace fh37 := fh37.cut (.cons (t := 12) rfl (.cons (t := 11) rfl (.cons (t := 37) rfl (.cons (t := 6) rfl (.cons (t := 4) rfl (.cons (t := 5) rfl (.cons (t := 8) rfl (.cons (t := 36) rfl (.cons (t := 35) rfl (.cons (t := 3) rfl .nil))))))))))
    refine wp_exit ?_
    refine Kn.then_exit ?_
    clear hK26 K26
    refine Kn.then_exit ?_
    clear hKl25 Kl25
    refine Kn.block_exit ?_
    refine hK23 _ _ ?_
    clear hK23 K23
    replace fh37 := fh37.cut (.cons (t := 11) rfl (.cons (t := 37) rfl (.cons (t := 6) rfl (.cons (t := 4) rfl (.cons (t := 5) rfl (.cons (t := 36) rfl (.cons (t := 35) rfl (.cons (t := 3) rfl .nil))))))))
    refine wp_seq_k fun K28 hK28 => ?_
    refine wp_region_lit ?_
    refine Kn.pure fh37 rfl rfl .none (Kn.ex_move fh37 (.tmp rfl)) fun fa38 fh38 => ?_
    clear fh37 fa37
    refine Kn.pure fh38 rfl rfl .none (Kn.ex_move fh38 (.tmp rfl)) fun fa39 fh39 => ?_
    clear fh38 fa38
    refine Kn.pure fh39 rfl rfl .none (Kn.ex_move fh39 (.tmp rfl)) fun fa40 fh40 => ?_
    clear fh39 fa39
    refine Kn.call fh40 rfl rfl .none (Kn.ex_call fh40 (.cons (.tmp rfl) (.cons (.tmp rfl) (.cons (.tmp rfl) .nil)))) Try.call7 (hput) fun e v5 hp => ?_
    obtain ⟨rfl, hb5⟩ := hp
    refine ⟨_, rfl, fun fa41 fh41 => ?_⟩
    clear fh40 fa40
    refine Kn.pure fh41 rfl rfl .none (Kn.ex_move fh41 (.tmp rfl)) fun fa42 fh42 => ?_
    clear fh41 fa41
    refine Kn.pure fh42 rfl rfl .none (Kn.ex_extract fh42 (.tmp rfl) rfl) fun fa43 fh43 => ?_
    clear fh42 fa42
    refine Kn.pure fh43 rfl rfl .none (Kn.ex_extract fh43 (.tmp rfl) rfl) fun fa44 fh44 => ?_
    clear fh43 fa43
    refine Kn.pure fh44 rfl rfl .none (Kn.ex_assign fh44 (.tmp rfl)) fun fa45 fh45 => ?_
    clear fh44 fa44
    refine Kn.pure fh45 rfl rfl .none (Kn.ex_assign fh45 (.tmp rfl)) fun fa46 fh46 => ?_
    clear fh45 fa45
    refine wpList_nil ?_
    refine hK28 _ _ ?_
    clear hK28 K28
    replace fh46 := fh46.cut (.cons (t := 14) rfl (.cons (t := 13) rfl (.cons (t := 11) rfl (.cons (t := 37) rfl (.cons (t := 4) rfl (.cons (t := 5) rfl (.cons (t := 36) rfl (.cons (t := 35) rfl (.cons (t := 3) rfl .nil)))))))))
    have HO5 := Lib.hid (HO.out.on hb5)
    have HB5 := Lib.hid (HB3.out.trans (hb5.mono HB3.out.size))
    clear hput hb5 HO HS3 HB3 HNe
    refine wp_seq_k fun K29 hK29 => ?_
    refine wp_seq_k fun K30 hK30 => ?_
    refine wp_region_lit ?_
    refine Kn.pure fh46 rfl rfl .none (Kn.ex_move fh46 (.tmp rfl)) fun fa47 fh47 => ?_
    clear fh46 fa46
    refine Kn.step fh47 rfl rfl .none (Kn.ex_bin fh47 (.tmp rfl) .const) fun Ko hKo => ?_
    go_simp
    try go_bits
    refine hKo _ _ fun fa48 fh48 => ?_
    clear hKo Ko fh47 fa47
    refine wpList_nil ?_
    refine hK30 _ _ ?_
    clear hK30 K30
    replace fh48 := fh48.cut (.cons (t := 75) rfl (.cons (t := 13) rfl (.cons (t := 11) rfl (.cons (t := 37) rfl (.cons (t := 4) rfl (.cons (t := 5) rfl (.cons (t := 36) rfl (.cons (t := 35) rfl (.cons (t := 3) rfl .nil)))))))))
    refine Kn.no fh48 (.tmp rfl) ?_
    refine wp_skip ?_
    refine hK29 _ _ ?_
    clear hK29 K29
    replace fh48 := fh48.cut (.cons (t := 13) rfl (.cons (t := 11) rfl (.cons (t := 37) rfl (.cons (t := 4) rfl (.cons (t := 5) rfl (.cons (t := 36) rfl (.cons (t := 35) rfl (.cons (t := 3) rfl .nil))))))))
    refine wp_seq_k fun K31 hK31 => ?_
    refine wp_region_lit ?_
    refine Kn.pure fh48 rfl rfl .none (Kn.ex_move fh48 (.tmp rfl)) fun fa49 fh49 => ?_
    clear fh48 fa48
    refine Kn.pure fh49 rfl rfl .none (Kn.ex_move fh49 (.tmp rfl)) fun fa50 fh50 => ?_
    clear fh49 fa49
    refine Kn.step fh50 rfl rfl .none (Kn.ex_bin fh50 (.tmp rfl) (.tmp rfl)) fun Ko hKo => ?_
    go_simp
    try rw [if_neg (by omega)]
    refine hKo _ _ fun fa51 fh51 => ?_
    clear hKo Ko fh50 fa50
    refine Kn.pure fh51 rfl rfl .none (Kn.ex_assign fh51 (.tmp rfl)) fun fa52 fh52 => ?_
    clear fh51 fa51
    refine wpList_nil ?_
    refine hK31 _ _ ?_
    clear hK31 K31
    replace fh52 := fh52.cut (.cons (t := 4) rfl (.cons (t := 11) rfl (.cons (t := 37) rfl (.cons (t := 5) rfl (.cons (t := 36) rfl (.cons (t := 35) rfl (.cons (t := 3) rfl .nil)))))))
    obtain ⟨g6, cap6, v6, hrun, hLi6, hB6⟩ := HLi.out.push HB.out HB5.out 33 A' c' (by omega) HO5.out
    have HLi6 := Lib.hid hLi6
    have HB6 := Lib.hid hB6
    have HLen6 : Hid ((allF L (k + 1)).length ≤ 400 * (k + 1)) := Lib.hid (by rw [← bs_size, HS5.out, ByteArray.size_append]; omega)
    clear hLi6 hB6
    refine wp_region_lit ?_
    refine Kn.pure fh52 rfl rfl .none (Kn.ex_move fh52 (.tmp rfl)) fun fa53 fh53 => ?_
    clear fh52 fa52
    refine Kn.pure fh53 rfl rfl .none (Kn.ex_move fh53 (.tmp rfl)) fun fa54 fh54 => ?_
    clear fh53 fa53
    refine Kn.step fh54 rfl rfl .none (Kn.ex_buildSlice fh54 (.cons (.tmp rfl) .nil)) fun Ko hKo => ?_
    go_simp
    try go_bits
    refine hKo _ _ fun fa55 fh55 => ?_
    clear hKo Ko fh54 fa54
    refine Kn.known fh55 rfl rfl .none (Kn.ex_append fh55 (.cons (.tmp rfl) (.cons (.tmp rfl) .nil))) hrun fun fa56 fh56 => ?_
    clear fh55 fa55
    refine Kn.pure fh56 rfl rfl .none (Kn.ex_assign fh56 (.tmp rfl)) fun fa57 fh57 => ?_
    clear fh56 fa56
    refine wpList_nil ?_
    refine Kn.block_normal ?_
    refine hK14 _ _ ?_
    clear hK14 K14
    replace fh57 := fh57.cut (.cons (t := 5) rfl (.cons (t := 4) rfl (.cons (t := 37) rfl (.cons (t := 36) rfl (.cons (t := 35) rfl (.cons (t := 3) rfl .nil))))))
    clear hrun
    refine wp_region_lit ?_
    refine Kn.step fh57 rfl rfl .none (Kn.ex_bin fh57 (.tmp rfl) .const) fun Ko hKo => ?_
    go_simp
    try go_bits
    refine hKo _ _ fun fa58 fh58 => ?_
    clear hKo Ko fh57 fa57
    refine Kn.pure fh58 rfl rfl .none (Kn.ex_move fh58 (.tmp rfl)) fun fa59 fh59 => ?_
    clear fh58 fa58
    refine wpList_nil ?_
    replace fh59 := fh59.cut (.cons (t := 37) rfl (.cons (t := 5) rfl (.cons (t := 4) rfl (.cons (t := 36) rfl (.cons (t := 35) rfl (.cons (t := 3) rfl .nil))))))
    exact hKl11 (m11 - 1) _ _ (by omega) ⟨k + 1, cap6, some ⟨g6, 0, none⟩, fh59.cut (.turn (t := 37) rfl (by go_num) (.turn (t := 4) rfl (by rw [HS5.out]) (.cons (t := 5) rfl (.cons (t := 36) rfl (.cons (t := 35) rfl (.cons (t := 3) rfl .nil)))))), by omega, HLi6, HB6, HLen6⟩
  obtain rfl : k = N := by omega
  obtain ⟨S, hS⟩ : ∃ S, bs (allF L k) = S := ⟨_, rfl⟩
  have hSs : S.size ≤ 16000 := by rw [← hS, bs_size]; have := HLen.out; omega
  have HSd : Hid (S.data.toList = allF L k) := Lib.hid (by rw [← hS, bs_data])
  rw [hS] at fh18
  have HSz : Hid ((allF L k).length = S.size) := Lib.hid (by rw [← hS, bs_size])
  have HGd : Hid (∀ i, GoodT (k : Int) (L i)) := Lib.hid (fun i => by rw [HL.out]; exact pk_good _ _)
  have hSm : S.size ≤ maxLen := by unfold maxLen; omega
  clear hS HLen hlt hk
  refine wp_seq_k fun K12 hK12 => ?_
  refine wp_region_lit ?_
  refine Kn.step fh18 rfl rfl .none (Kn.ex_bin fh18 (.tmp rfl) (.tmp rfl)) fun Ko hKo => ?_
  go_simp
  try go_bits
  refine hKo _ _ fun fa19 fh19 => ?_
  clear hKo Ko fh18 fa18
  refine wpList_nil ?_
  refine hK12 _ _ ?_
  clear hK12 K12
  refine wp_seq_k fun K13 hK13 => ?_
  refine Kn.no fh19 (.tmp rfl) ?_
  replace fh19 := fh19.cut (.cons (t := 37) rfl (.cons (t := 4) rfl (.cons (t := 5) rfl (.cons (t := 36) rfl (.cons (t := 35) rfl (.cons (t := 3) rfl .nil))))))
  refine wp_exit ?_
  refine Kn.then_exit ?_
  clear hK13 K13
  refine Kn.then_exit ?_
  clear hKl11 Kl11
  refine Kn.block_exit ?_
  refine hK9 _ _ ?_
  clear hK9 K9
  replace fh19 := fh19.cut (.cons (t := 4) rfl (.cons (t := 5) rfl (.cons (t := 3) rfl .nil)))
  refine wp_seq_k fun K14 hK14 => ?_
  refine wp_region_lit ?_
  refine Kn.pure fh19 rfl rfl .none (Kn.ex_assign fh19 .const) fun fa20 fh20 => ?_
  clear fh19 fa19
  refine wpList_nil ?_
  refine hK14 _ _ ?_
  clear hK14 K14
  refine wp_seq_k fun K15 hK15 => ?_
  refine wp_seq_k fun K16 hK16 => ?_
  refine wp_region_lit ?_
  refine Kn.pure fh20 rfl rfl .none (Kn.ex_move fh20 (.tmp rfl)) fun fa21 fh21 => ?_
  clear fh20 fa20
  refine Kn.step fh21 rfl rfl .none (Kn.ex_len fh21 (.tmp rfl)) fun Ko hKo => ?_
  go_simp
  try go_bits
  refine hKo _ _ fun fa22 fh22 => ?_
  clear hKo Ko fh21 fa21
  refine Kn.pure fh22 rfl rfl .none (Kn.ex_move fh22 .const) fun fa23 fh23 => ?_
  clear fh22 fa22
  refine wpList_nil ?_
  refine hK16 _ _ ?_
  clear hK16 K16
  replace fh23 := fh23.cut (.cons (t := 86) rfl (.cons (t := 85) rfl (.cons (t := 84) rfl (.cons (t := 15) rfl (.cons (t := 4) rfl (.cons (t := 3) rfl .nil))))))
  refine wp_block ?_
  refine Kn.loop (fun m fr v => ∃ (i : Nat), Kn.Kn 147 [(86, .int .i64 (i : Int)), (85, .int .i64 (k : Int)), (84, .slice B k cap), (15, .int .i64 ((allF L i).length : Int)), (4, .string S), (3, .int .i64 (k : Int))] fr ∧ i + m = k ∧ Hid (Lists w v B k cap L) ∧ Hid (Below w.heap.size w v)) k ⟨0, fh23.cut (.turn (t := 86) rfl rfl (.cons (t := 85) rfl (.cons (t := 84) rfl (.turn (t := 15) rfl rfl (.cons (t := 4) rfl (.cons (t := 3) rfl .nil)))))), by omega, HLi, HB⟩ ?_
  clear fh23 fa23
  intro m17 fa24 v hI Kl17 hKl17
  obtain ⟨i, fh24, hi, HLv, HBv⟩ := hI
  clear HLi HB
  by_cases hil : i < k
  · obtain ⟨gb, A8, c8, rfl, cl, hA7⟩ := HLv.out.cell hil
    rw [Nat.zero_add] at cl
    obtain ⟨tail, htail⟩ := allF_drop L i k hil
    rw [← HSd.out] at htail
    have hple : (allF L i).length ≤ S.size := by
      obtain ⟨t2, ht2⟩ := allF_mono L i k (by omega)
      rw [← HSz.out, ht2, List.length_append]
      omega
    obtain ⟨hr1, hr2, hr3, hr4⟩ := row_got (by omega) (by omega) (by omega) (HGd.out i) hple htail
    rw [show (allF L i).length + (putF (i : Int) (L i) (L i).length).length = (allF L (i + 1)).length by rw [allF, List.length_append]] at hr1 hr2
    have hll := (HGd.out i).len (by omega)
    obtain ⟨P, hP⟩ : ∃ P, (allF L i).length = P := ⟨_, rfl⟩
    obtain ⟨P2, hP2⟩ : ∃ P, (allF L (i + 1)).length = P := ⟨_, rfl⟩
    rw [hP] at hr1 hr2 hr3 hr4 hple fh24
    rw [hP2] at hr1 hr2
    have HP2 := Lib.hid hP2
    obtain ⟨l, hl⟩ : ∃ l, L i = l := ⟨_, rfl⟩
    rw [hl] at hr1 hr3 cl hll hA7
    have HLI := Lib.hid hl
    have hgt : ∀ u, Calls Try.prog 6 #[.string S, .int .i64 (P : Int), .int .i64 (k : Int), .int .i64 (i : Int)] u fun e w' => ∃ g, e = .returned (.tuple #[.slice (some ⟨g, 0, none⟩) l.length l.length, .int .i64 (P2 : Int), .nilIface]) ∧ HoldI w' g l ∧ Below u.heap.size u w' := fun u => by
      refine (gGet_any S P k i u hSm (by omega) (by omega) (by omega)).mono fun e w' hc => ?_
      obtain ⟨hb, h⟩ := hc
      rw [hr1] at h
      rcases h with ⟨x', a', he, -⟩ | ⟨l', nx', g, he, h1, h2, -⟩
      · cases he
      · cases he; exact ⟨g, h1, h2, hb⟩
    have hsk := gSkip_g S P k v hSm (by omega) (by omega)
    have hct := gCount_g S P k v hSm (by omega) (by omega)
    simp only [hr2, gE_0] at hsk
    simp only [hr3, hr4, gE_0] at hct
    have hg := hgt v
    clear hr1 hr2 hr3 hr4 hgt htail hP hP2 hl
    refine wp_seq_k fun K18 hK18 => ?_
    refine wp_region_lit ?_
    refine Kn.step fh24 rfl rfl .none (Kn.ex_bin fh24 (.tmp rfl) (.tmp rfl)) fun Ko hKo => ?_
    go_simp
    try go_bits
    refine hKo _ _ fun fa25 fh25 => ?_
    clear hKo Ko fh24 fa24
    refine wpList_nil ?_
    refine hK18 _ _ ?_
    clear hK18 K18
    refine wp_seq_k fun K19 hK19 => ?_
    refine Kn.yes fh25 (.tmp rfl) ?_
    refine wp_skip ?_
    refine hK19 _ _ ?_
    clear hK19 K19
    replace fh25 := fh25.cut (.cons (t := 86) rfl (.cons (t := 85) rfl (.cons (t := 84) rfl (.cons (t := 15) rfl (.cons (t := 4) rfl (.cons (t := 3) rfl .nil))))))
    refine wp_seq_k fun K20 hK20 => ?_
    refine wp_block ?_
    refine wp_seq_k fun K21 hK21 => ?_
    refine wp_region_lit ?_
    refine Kn.pure fh25 rfl rfl .none (Kn.ex_move fh25 (.tmp rfl)) fun fa26 fh26 => ?_
    clear fh25 fa25
    refine Kn.step fh26 rfl rfl .none (Kn.ex_indexAddr fh26 (.tmp rfl) (.tmp rfl)) fun Ko hKo => ?_
    go_simp
    try go_bits
    refine hKo _ _ fun fa27 fh27 => ?_
    clear hKo Ko fh26 fa26
    refine Kn.step fh27 rfl rfl .none (Kn.ex_load fh27 (.tmp rfl)) fun Ko hKo => ?_
    go_simp
    try go_bits
    refine hKo _ _ fun fa28 fh28 => ?_
    clear hKo Ko fh27 fa27
    refine Kn.pure fh28 rfl rfl .none (Kn.ex_assign fh28 (.tmp rfl)) fun fa29 fh29 => ?_
    clear fh28 fa28
    refine Kn.pure fh29 rfl rfl .none (Kn.ex_assign fh29 (.tmp rfl)) fun fa30 fh30 => ?_
    clear fh29 fa29
    refine wpList_nil ?_
    refine hK21 _ _ ?_
    clear hK21 K21
    replace fh30 := fh30.cut (.cons (t := 17) rfl (.cons (t := 16) rfl (.cons (t := 86) rfl (.cons (t := 85) rfl (.cons (t := 84) rfl (.cons (t := 15) rfl (.cons (t := 4) rfl (.cons (t := 3) rfl .nil))))))))
    clear cl
    refine wp_seq_k fun K22 hK22 => ?_
    refine wp_region_lit ?_
    refine Kn.pure fh30 rfl rfl .none (Kn.ex_move fh30 (.tmp rfl)) fun fa31 fh31 => ?_
    clear fh30 fa30
    refine Kn.pure fh31 rfl rfl .none (Kn.ex_move fh31 (.tmp rfl)) fun fa32 fh32 => ?_
    clear fh31 fa31
    refine Kn.pure fh32 rfl rfl .none (Kn.ex_move fh32 (.tmp rfl)) fun fa33 fh33 => ?_
    clear fh32 fa32
    refine Kn.call fh33 rfl rfl .none (Kn.ex_call fh33 (.cons (.tmp rfl) (.cons (.tmp rfl) (.cons (.tmp rfl) .nil)))) Try.call8 (hct) fun e v1 hp => ?_
    obtain ⟨rfl, rfl⟩ := hp
    refine ⟨_, rfl, fun fa34 fh34 => ?_⟩
    clear fh33 fa33
    refine Kn.pure fh34 rfl rfl .none (Kn.ex_move fh34 (.tmp rfl)) fun fa35 fh35 => ?_
    clear fh34 fa34
    refine Kn.pure fh35 rfl rfl .none (Kn.ex_extract fh35 (.tmp rfl) rfl) fun fa36 fh36 => ?_
    clear fh35 fa35
    refine Kn.pure fh36 rfl rfl .none (Kn.ex_extract fh36 (.tmp rfl) rfl) fun fa37 fh37 => ?_
    clear fh36 fa36
    refine Kn.pure fh37 rfl rfl .none (Kn.ex_assign fh37 (.tmp rfl)) fun fa38 fh38 => ?_
    clear fh37 fa37
    refine Kn.pure fh38 rfl rfl .none (Kn.ex_assign fh38 (.tmp rfl)) fun fa39 fh39 => ?_
    clear fh38 fa38
    refine wpList_nil ?_
    refine hK22 _ _ ?_
    clear hK22 K22
    replace fh39 := fh39.cut (.cons (t := 19) rfl (.cons (t := 18) rfl (.cons (t := 17) rfl (.cons (t := 16) rfl (.cons (t := 86) rfl (.cons (t := 85) rfl (.cons (t := 84) rfl (.cons (t := 15) rfl (.cons (t := 4) rfl (.cons (t := 3) rfl .nil))))))))))
    clear hct
    refine wp_seq_k fun K23 hK23 => ?_
    refine wp_region_lit ?_
    refine Kn.pure fh39 rfl rfl .none (Kn.ex_move fh39 (.tmp rfl)) fun fa40 fh40 => ?_
    clear fh39 fa39
    refine Kn.pure fh40 rfl rfl .none (Kn.ex_move fh40 (.tmp rfl)) fun fa41 fh41 => ?_
    clear fh40 fa40
    refine Kn.pure fh41 rfl rfl .none (Kn.ex_move fh41 (.tmp rfl)) fun fa42 fh42 => ?_
    clear fh41 fa41
    refine Kn.call fh42 rfl rfl .none (Kn.ex_call fh42 (.cons (.tmp rfl) (.cons (.tmp rfl) (.cons (.tmp rfl) .nil)))) Try.call9 (hsk) fun e v1 hp => ?_
    obtain ⟨rfl, rfl⟩ := hp
    refine ⟨_, rfl, fun fa43 fh43 => ?_⟩
    clear fh42 fa42
    refine Kn.pure fh43 rfl rfl .none (Kn.ex_move fh43 (.tmp rfl)) fun fa44 fh44 => ?_
    clear fh43 fa43
    refine Kn.pure fh44 rfl rfl .none (Kn.ex_extract fh44 (.tmp rfl) rfl) fun fa45 fh45 => ?_
    clear fh44 fa44
    refine Kn.pure fh45 rfl rfl .none (Kn.ex_extract fh45 (.tmp rfl) rfl) fun fa46 fh46 => ?_
    clear fh45 fa45
    refine Kn.pure fh46 rfl rfl .none (Kn.ex_assign fh46 (.tmp rfl)) fun fa47 fh47 => ?_
    clear fh46 fa46
    refine Kn.pure fh47 rfl rfl .none (Kn.ex_assign fh47 (.tmp rfl)) fun fa48 fh48 => ?_
    clear fh47 fa47
    refine wpList_nil ?_
    refine hK23 _ _ ?_
    clear hK23 K23
    replace fh48 := fh48.cut (.cons (t := 21) rfl (.cons (t := 20) rfl (.cons (t := 19) rfl (.cons (t := 18) rfl (.cons (t := 17) rfl (.cons (t := 16) rfl (.cons (t := 86) rfl (.cons (t := 85) rfl (.cons (t := 84) rfl (.cons (t := 15) rfl (.cons (t := 4) rfl (.cons (t := 3) rfl .nil))))))))))))
    clear hsk
    refine wp_seq_k fun K24 hK24 => ?_
    refine wp_region_lit ?_
    refine Kn.pure fh48 rfl rfl .none (Kn.ex_move fh48 (.tmp rfl)) fun fa49 fh49 => ?_
    clear fh48 fa48
    refine Kn.pure fh49 rfl rfl .none (Kn.ex_move fh49 (.tmp rfl)) fun fa50 fh50 => ?_
    clear fh49 fa49
    refine Kn.pure fh50 rfl rfl .none (Kn.ex_move fh50 (.tmp rfl)) fun fa51 fh51 => ?_
    clear fh50 fa50
    refine Kn.pure fh51 rfl rfl .none (Kn.ex_move fh51 (.tmp rfl)) fun fa52 fh52 => ?_
    clear fh51 fa51
    refine Kn.call fh52 rfl rfl .none (Kn.ex_call fh52 (.cons (.tmp rfl) (.cons (.tmp rfl) (.cons (.tmp rfl) (.cons (.tmp rfl) .nil))))) Try.call6 (hg) fun e v1 hp => ?_
    obtain ⟨gg, rfl, hH, hb1⟩ := hp
    refine ⟨_, rfl, fun fa53 fh53 => ?_⟩
    clear fh52 fa52
    refine Kn.pure fh53 rfl rfl .none (Kn.ex_move fh53 (.tmp rfl)) fun fa54 fh54 => ?_
    clear fh53 fa53
    refine Kn.pure fh54 rfl rfl .none (Kn.ex_extract fh54 (.tmp rfl) rfl) fun fa55 fh55 => ?_
    clear fh54 fa54
    refine Kn.pure fh55 rfl rfl .none (Kn.ex_extract fh55 (.tmp rfl) rfl) fun fa56 fh56 => ?_
    clear fh55 fa55
    refine Kn.pure fh56 rfl rfl .none (Kn.ex_extract fh56 (.tmp rfl) rfl) fun fa57 fh57 => ?_
    clear fh56 fa56
    refine Kn.pure fh57 rfl rfl .none (Kn.ex_assign fh57 (.tmp rfl)) fun fa58 fh58 => ?_
    clear fh57 fa57
    refine Kn.pure fh58 rfl rfl .none (Kn.ex_assign fh58 (.tmp rfl)) fun fa59 fh59 => ?_
    clear fh58 fa58
    refine Kn.pure fh59 rfl rfl .none (Kn.ex_assign fh59 (.tmp rfl)) fun fa60 fh60 => ?_
    clear fh59 fa59
    refine wpList_nil ?_
    refine hK24 _ _ ?_
    clear hK24 K24
    replace fh60 := fh60.cut (.cons (t := 24) rfl (.cons (t := 23) rfl (.cons (t := 22) rfl (.cons (t := 21) rfl (.cons (t := 20) rfl (.cons (t := 19) rfl (.cons (t := 18) rfl (.cons (t := 17) rfl (.cons (t := 86) rfl (.cons (t := 85) rfl (.cons (t := 84) rfl (.cons (t := 15) rfl (.cons (t := 4) rfl (.cons (t := 3) rfl .nil))))))))))))))
    clear hg
    have HL1 := Lib.hid (HLv.out.on hb1)
    have HB1 := Lib.hid (HBv.out.trans (hb1.mono HBv.out.size))
    have hA8 : IIn v1 A8 l := hA7.on hb1
    have hin := refInts_any (some ⟨gg, 0, none⟩) A8 l.length c8 l l v1 (by unfold maxLen; omega) (by unfold maxLen; omega) hH.iin hA8
    rw [decide_eq_true rfl] at hin
    clear hb1 hH HLv HBv hA8
    refine wp_seq_k fun K25 hK25 => ?_
    refine wp_seq_k fun K26 hK26 => ?_
    refine wp_region_lit ?_
    refine Kn.pure fh60 rfl rfl .none (Kn.ex_move fh60 (.tmp rfl)) fun fa61 fh61 => ?_
    clear fh60 fa60
    refine Kn.step fh61 rfl rfl .none (Kn.ex_bin fh61 (.tmp rfl) .const) fun Ko hKo => ?_
    go_simp
    try go_bits
    refine hKo _ _ fun fa62 fh62 => ?_
    clear hKo Ko fh61 fa61
    refine Kn.pure fh62 rfl rfl .none (Kn.ex_move fh62 (.tmp rfl)) fun fa63 fh63 => ?_
    clear fh62 fa62
    refine Kn.pure fh63 rfl rfl (.some rfl rfl rfl) (Kn.ex_move fh63 (.tmp rfl)) fun fa64 fh64 => ?_
    clear fh63 fa63
    refine Kn.step fh64 rfl rfl (.some rfl rfl rfl) (Kn.ex_bin fh64 (.tmp rfl) .const) fun Ko hKo => ?_
    go_simp
    try go_bits
    refine hKo _ _ fun fa65 fh65 => ?_
    clear hKo Ko fh64 fa64
    refine Kn.pure fh65 rfl rfl .none (Kn.ex_pick fh65 (.tmp rfl) (.tmp rfl)) fun fa66 fh66 => ?_
    clear fh65 fa65
    refine Kn.pure fh66 rfl rfl .none (Kn.ex_move fh66 (.tmp rfl)) fun fa67 fh67 => ?_
    clear fh66 fa66
    refine Kn.pure fh67 rfl rfl (.some rfl rfl rfl) (Kn.ex_move fh67 (.tmp rfl)) fun fa68 fh68 => ?_
    clear fh67 fa67
    refine Kn.step fh68 rfl rfl (.some rfl rfl rfl) (Kn.ex_bin fh68 (.tmp rfl) .const) fun Ko hKo => ?_
    go_simp
    try go_bits
    refine hKo _ _ fun fa69 fh69 => ?_
    clear hKo Ko fh68 fa68
    refine Kn.pure fh69 rfl rfl .none (Kn.ex_pick fh69 (.tmp rfl) (.tmp rfl)) fun fa70 fh70 => ?_
    clear fh69 fa69
    refine Kn.pure fh70 rfl rfl .none (Kn.ex_move fh70 (.tmp rfl)) fun fa71 fh71 => ?_
    clear fh70 fa70
    refine Kn.pure fh71 rfl rfl (.some rfl rfl rfl) (Kn.ex_move fh71 (.tmp rfl)) fun fa72 fh72 => ?_
    clear fh71 fa71
    refine Kn.pure fh72 rfl rfl (.some rfl rfl rfl) (Kn.ex_move fh72 (.tmp rfl)) fun fa73 fh73 => ?_
    clear fh72 fa72
    refine Kn.step fh73 rfl rfl (.some rfl rfl rfl) (Kn.ex_len fh73 (.tmp rfl)) fun Ko hKo => ?_
    go_simp
    try go_bits
    refine hKo _ _ fun fa74 fh74 => ?_
    clear hKo Ko fh73 fa73
    refine Kn.step fh74 rfl rfl (.some rfl rfl rfl) (Kn.ex_bin fh74 (.tmp rfl) (.tmp rfl)) fun Ko hKo => ?_
    go_simp
    try go_bits
    refine hKo _ _ fun fa75 fh75 => ?_
    clear hKo Ko fh74 fa74
    refine Kn.pure fh75 rfl rfl .none (Kn.ex_pick fh75 (.tmp rfl) (.tmp rfl)) fun fa76 fh76 => ?_
    clear fh75 fa75
    refine Kn.pure fh76 rfl rfl .none (Kn.ex_move fh76 (.tmp rfl)) fun fa77 fh77 => ?_
    clear fh76 fa76
    refine Kn.pure fh77 rfl rfl (.some rfl rfl rfl) (Kn.ex_move fh77 (.tmp rfl)) fun fa78 fh78 => ?_
    clear fh77 fa77
    refine Kn.pure fh78 rfl rfl (.some rfl rfl rfl) (Kn.ex_move fh78 (.tmp rfl)) fun fa79 fh79 => ?_
    clear fh78 fa78
    refine Kn.step fh79 rfl rfl (.some rfl rfl rfl) (Kn.ex_bin fh79 (.tmp rfl) (.tmp rfl)) fun Ko hKo => ?_
    go_simp
    try go_bits
    refine hKo _ _ fun fa80 fh80 => ?_
    clear hKo Ko fh79 fa79
    refine Kn.pure fh80 rfl rfl .none (Kn.ex_pick fh80 (.tmp rfl) (.tmp rfl)) fun fa81 fh81 => ?_
    clear fh80 fa80
    refine Kn.pure fh81 rfl rfl .none (Kn.ex_move fh81 (.tmp rfl)) fun fa82 fh82 => ?_
    clear fh81 fa81
    refine Kn.pure fh82 rfl rfl (.some rfl rfl rfl) (Kn.ex_move fh82 (.tmp rfl)) fun fa83 fh83 => ?_
    clear fh82 fa82
    refine Kn.pure fh83 rfl rfl (.some rfl rfl rfl) (Kn.ex_move fh83 (.tmp rfl)) fun fa84 fh84 => ?_
    clear fh83 fa83
    refine Kn.call fh84 rfl rfl (.some rfl rfl rfl) (Kn.ex_call fh84 (.cons (.tmp rfl) (.cons (.tmp rfl) .nil))) Try.call10 (hin) fun e v2 hp => ?_
    obtain ⟨rfl, q2, rfl⟩ := hp
    refine ⟨_, rfl, fun fa85 fh85 => ?_⟩
    clear fh84 fa84
    refine Kn.step fh85 rfl rfl (.some rfl rfl rfl) (Kn.ex_un fh85 (.tmp rfl)) fun Ko hKo => ?_
    go_simp
    try go_bits
    refine hKo _ _ fun fa86 fh86 => ?_
    clear hKo Ko fh85 fa85
    refine Kn.pure fh86 rfl rfl .none (Kn.ex_pick fh86 (.tmp rfl) (.tmp rfl)) fun fa87 fh87 => ?_
    clear fh86 fa86
    refine wpList_nil ?_
    refine hK26 _ _ ?_
    clear hK26 K26
    replace fh87 := fh87.cut (.cons (t := 140) rfl (.cons (t := 23) rfl (.cons (t := 86) rfl (.cons (t := 85) rfl (.cons (t := 84) rfl (.cons (t := 15) rfl (.cons (t := 4) rfl (.cons (t := 3) rfl .nil))))))))
    refine Kn.no fh87 (.tmp rfl) ?_
    refine wp_skip ?_
    refine hK25 _ _ ?_
    clear hK25 K25
    replace fh87 := fh87.cut (.cons (t := 23) rfl (.cons (t := 86) rfl (.cons (t := 85) rfl (.cons (t := 84) rfl (.cons (t := 15) rfl (.cons (t := 4) rfl (.cons (t := 3) rfl .nil)))))))
    have HL2 := Lib.hid (HL1.out.on (⟨rfl, rfl, rfl, Nat.le_refl _, fun _ _ => rfl⟩ : Below v1.heap.size v1 (v1.drewN q2)))
    have HB2 := Lib.hid (Own.below_drewN HB1.out q2)
    clear hin HL1 HB1
    refine wp_region_lit ?_
    refine Kn.pure fh87 rfl rfl .none (Kn.ex_move fh87 (.tmp rfl)) fun fa88 fh88 => ?_
    clear fh87 fa87
    refine Kn.pure fh88 rfl rfl .none (Kn.ex_assign fh88 (.tmp rfl)) fun fa89 fh89 => ?_
    clear fh88 fa88
    refine wpList_nil ?_
    refine Kn.block_normal ?_
    refine hK20 _ _ ?_
    clear hK20 K20
    replace fh89 := fh89.cut (.cons (t := 15) rfl (.cons (t := 86) rfl (.cons (t := 85) rfl (.cons (t := 84) rfl (.cons (t := 4) rfl (.cons (t := 3) rfl .nil))))))
    refine wp_region_lit ?_
    refine Kn.step fh89 rfl rfl .none (Kn.ex_bin fh89 (.tmp rfl) .const) fun Ko hKo => ?_
    go_simp
    try go_bits
    refine hKo _ _ fun fa90 fh90 => ?_
    clear hKo Ko fh89 fa89
    refine Kn.pure fh90 rfl rfl .none (Kn.ex_move fh90 (.tmp rfl)) fun fa91 fh91 => ?_
    clear fh90 fa90
    refine wpList_nil ?_
    replace fh91 := fh91.cut (.cons (t := 86) rfl (.cons (t := 15) rfl (.cons (t := 85) rfl (.cons (t := 84) rfl (.cons (t := 4) rfl (.cons (t := 3) rfl .nil))))))
    exact hKl17 (m17 - 1) _ _ (by omega) ⟨i + 1, fh91.cut (.turn (t := 86) rfl (by go_num) (.cons (t := 85) rfl (.cons (t := 84) rfl (.turn (t := 15) rfl (by rw [HP2.out]; rfl) (.cons (t := 4) rfl (.cons (t := 3) rfl .nil)))))), by omega, HL2, HB2⟩
  obtain rfl : i = k := by omega
  rw [HSz.out] at fh24
  refine wp_seq_k fun K18 hK18 => ?_
  refine wp_region_lit ?_
  refine Kn.step fh24 rfl rfl .none (Kn.ex_bin fh24 (.tmp rfl) (.tmp rfl)) fun Ko hKo => ?_
  go_simp
  try go_bits
  refine hKo _ _ fun fa25 fh25 => ?_
  clear hKo Ko fh24 fa24
  refine wpList_nil ?_
  refine hK18 _ _ ?_
  clear hK18 K18
  refine wp_seq_k fun K19 hK19 => ?_
  refine Kn.no fh25 (.tmp rfl) ?_
  replace fh25 := fh25.cut (.cons (t := 86) rfl (.cons (t := 85) rfl (.cons (t := 84) rfl (.cons (t := 15) rfl (.cons (t := 4) rfl (.cons (t := 3) rfl .nil))))))
  refine wp_exit ?_
  refine Kn.then_exit ?_
  clear hK19 K19
  refine Kn.then_exit ?_
  clear hKl17 Kl17
  refine Kn.block_exit ?_
  refine hK15 _ _ ?_
  clear hK15 K15
  replace fh25 := fh25.cut (.cons (t := 15) rfl (.cons (t := 4) rfl .nil))
  refine wp_seq_k fun K20 hK20 => ?_
  refine wp_region_lit ?_
  refine Kn.pure fh25 rfl rfl .none (Kn.ex_move fh25 (.tmp rfl)) fun fa26 fh26 => ?_
  clear fh25 fa25
  refine Kn.pure fh26 rfl rfl .none (Kn.ex_move fh26 (.tmp rfl)) fun fa27 fh27 => ?_
  clear fh26 fa26
  refine Kn.step fh27 rfl rfl .none (Kn.ex_len fh27 (.tmp rfl)) fun Ko hKo => ?_
  go_simp
  try go_bits
  refine hKo _ _ fun fa28 fh28 => ?_
  clear hKo Ko fh27 fa27
  refine Kn.step fh28 rfl rfl .none (Kn.ex_bin fh28 (.tmp rfl) (.tmp rfl)) fun Ko hKo => ?_
  go_simp
  try go_bits
  refine hKo _ _ fun fa29 fh29 => ?_
  clear hKo Ko fh28 fa28
  refine Kn.pure fh29 rfl rfl .none (Kn.ex_assign fh29 (.tmp rfl)) fun fa30 fh30 => ?_
  clear fh29 fa29
  refine wpList_nil ?_
  refine hK20 _ _ ?_
  clear hK20 K20
  replace fh30 := fh30.cut (.cons (t := 2) rfl .nil)
  refine wp_ret ?_
  exact Kn.ret1 fh30 rfl rfl ⟨by simp, HBv.out⟩

end Go.Proofs.Ytoggeiaofpdboaa.Gap
