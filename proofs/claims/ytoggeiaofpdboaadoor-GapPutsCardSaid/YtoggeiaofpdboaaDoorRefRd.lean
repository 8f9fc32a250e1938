/- The document's ReadShort of layer 1 (octet) (written by gen_ref06r.py). -/
import Derived.Test.YtoggeiaofpdboaaDoorStKit
import Derived.Test.YtoggeiaofpdboaaDoorShMath
import Derived.IntWalk
namespace Go.Proofs.YtoggeiaofpdboaaDoor.Oct
open Go Go.RowKit Go.Lib

theorem split_hs (s : ByteArray) (q n : Nat) (hq : q ≤ n) (hn : n ≤ s.size) (H : ∀ j (h : j < s.size), q ≤ j → j < n → 128 ≤ s[j].toNat) :
    ∃ hs, s.data.toList.drop q = hs ++ s.data.toList.drop n ∧ hs.length = n - q ∧ (∀ b ∈ hs, 128 ≤ b.toNat) ∧ ∀ j (h : j < hs.length) (h2 : q + j < s.size), hs[j] = s[q + j] := by
  have hl : s.data.toList.length = s.size := rfl
  refine ⟨(s.data.toList.drop q).take (n - q), ?_, ?_, ?_, ?_⟩
  · conv => lhs; rw [← List.take_append_drop (n - q) (s.data.toList.drop q)]
    rw [List.drop_drop, show q + (n - q) = n by omega]
  · rw [List.length_take, List.length_drop, hl]; omega
  · intro b hb
    obtain ⟨j, hj, rfl⟩ := List.getElem_of_mem hb
    rw [List.length_take, List.length_drop, hl] at hj
    rw [List.getElem_take, List.getElem_drop]
    exact H (q + j) (by omega) (by omega) (by omega)
  · intro j h h2
    rw [List.getElem_take, List.getElem_drop]
    rfl
theorem drop_here (s : ByteArray) (n : Nat) (h : n < s.size) : s.data.toList.drop n = s[n] :: s.data.toList.drop (n + 1) := List.drop_eq_getElem_cons (show n < s.data.toList.length from h)
/-- What is told of a short number at a place. -/
def gotS (s : ByteArray) (q : Nat) : Array Value :=
  if (rd (s.data.toList.drop q)).2.2 = 0 then #[.int .i64 ((rd (s.data.toList.drop q)).1 : Int), .int .i64 ((q : Int) + ((rd (s.data.toList.drop q)).2.1 : Int)), .int .i64 0, .int .i64 0]
  else if (rd (s.data.toList.drop q)).2.2 = 3 then #[.int .i64 0, .int .i64 (q : Int), .int .i64 3, .int .i64 (s.size : Int)] else #[.int .i64 0, .int .i64 (q : Int), .int .i64 4, .int .i64 (q : Int)]
theorem got_3 {s : ByteArray} {q : Nat} (h : rd (s.data.toList.drop q) = (0, 0, 3)) : gotS s q = #[.int .i64 0, .int .i64 (q : Int), .int .i64 3, .int .i64 (s.size : Int)] := by unfold gotS; rw [h]; rfl
theorem got_4 {s : ByteArray} {q : Nat} (h : rd (s.data.toList.drop q) = (0, 0, 4)) : gotS s q = #[.int .i64 0, .int .i64 (q : Int), .int .i64 4, .int .i64 (q : Int)] := by unfold gotS; rw [h]; rfl
theorem got_0 {s : ByteArray} {q x c : Nat} (h : rd (s.data.toList.drop q) = (x, c, 0)) : gotS s q = #[.int .i64 (x : Int), .int .i64 ((q : Int) + (c : Int)), .int .i64 0, .int .i64 0] := by unfold gotS; rw [h]; rfl

set_option maxRecDepth 100000 in
set_option maxHeartbeats 2000000 in
theorem readShort_bad (s : ByteArray) (p : Int) (w : World) (hp : p < 0 ∨ (s.size : Int) < p) :
    Calls Tryd.prog 31 #[.string s, .int .i64 p] w fun e w' => e = .returned (.agg #[.int .i64 0, .int .i64 p, .int .i64 1, .int .i64 p]) ∧ Below w.heap.size w w' := by
  refine Kn.calls Tryd.func31 rfl Tryd.ntmps31 rfl (.cons (t := 0) rfl (.cons (t := 1) rfl .nil)) fun fa0 fh0 => ?_
  refine wp_seq_k fun K1 hK1 => ?_
  refine wp_region_lit ?_
  refine Kn.step fh0 rfl rfl .none Kn.ex_alloc fun Ko hKo => ?_
  go_simp
  try go_bits
  refine hKo _ _ fun fa1 fh1 => ?_
  clear hKo Ko fh0 fa0
  refine wpList_nil ?_
  refine hK1 _ _ ?_
  clear hK1 K1
  refine Kn.gen (fun v => St.St v w.heap.size 43 #[.int .i64 0, .int .i64 0, .int .i64 0, .int .i64 0] ∧ Below w.heap.size w v) ⟨St.St.new _ _ _, (Below.refl _ w).alloc (Nat.le_refl _) _⟩ fun v0 hvv => ?_
  obtain ⟨hS0, hb0⟩ := hvv
  have HS := Lib.hid hS0
  have HB := Lib.hid hb0
  clear hS0 hb0
  by_cases h0 : p < 0
  · refine wp_seq_k fun K2 hK2 => ?_
    refine wp_seq_k fun K3 hK3 => ?_
    refine wp_region_lit ?_
    refine Kn.pure fh1 rfl rfl .none (Kn.ex_move fh1 (.tmp rfl)) fun fa2 fh2 => ?_
    clear fh1 fa1
    refine Kn.step fh2 rfl rfl .none (Kn.ex_bin fh2 (.tmp rfl) .const) fun Ko hKo => ?_
    go_simp
    try go_bits
    refine hKo _ _ fun fa3 fh3 => ?_
    clear hKo Ko fh2 fa2
    refine Kn.pure fh3 rfl rfl .none (Kn.ex_move fh3 (.tmp rfl)) fun fa4 fh4 => ?_
    clear fh3 fa3
    refine Kn.skip fh4 rfl rfl (.some rfl rfl rfl) fun fa5 fh5 => ?_
    clear fh4 fa4
    refine Kn.skip fh5 rfl rfl (.some rfl rfl rfl) fun fa6 fh6 => ?_
    clear fh5 fa5
    refine Kn.skip fh6 rfl rfl (.some rfl rfl rfl) fun fa7 fh7 => ?_
    clear fh6 fa6
    refine Kn.skip fh7 rfl rfl (.some rfl rfl rfl) fun fa8 fh8 => ?_
    clear fh7 fa7
    refine Kn.pure fh8 rfl rfl .none (Kn.ex_pick fh8 (.tmp rfl) .const) fun fa9 fh9 => ?_
    clear fh8 fa8
    refine wpList_nil ?_
    refine hK3 _ _ ?_
    clear hK3 K3
    replace fh9 := fh9.cut (.cons (t := 15) rfl (.cons (t := 4) rfl (.cons (t := 0) rfl (.cons (t := 1) rfl .nil))))
    refine Kn.yes fh9 (.tmp rfl) ?_
    replace fh9 := fh9.cut (.cons (t := 4) rfl (.cons (t := 0) rfl (.cons (t := 1) rfl .nil)))
    obtain ⟨hst, hS2, hB2⟩ := HS.out.store (P := Tryd.prog) (cells := #[.int .i64 0, .int .i64 p, .int .i64 1, .int .i64 p]) (by kernel_rfl) rfl (by simp [Value.oneCell'])
    refine wp_seq_k fun K4 hK4 => ?_
    refine wp_region_lit ?_
    refine Kn.pure fh9 rfl rfl .none (Kn.ex_move fh9 (.tmp rfl)) fun fa10 fh10 => ?_
    clear fh9 fa9
    refine Kn.pure fh10 rfl rfl .none (Kn.ex_move fh10 (.tmp rfl)) fun fa11 fh11 => ?_
    clear fh10 fa10
    refine Kn.step fh11 rfl rfl .none (Kn.ex_build fh11 (.cons (.tmp rfl) (.cons .const (.cons (.tmp rfl) .nil)))) fun Ko hKo => ?_
    go_simp
    try go_bits
    refine hKo _ _ fun fa12 fh12 => ?_
    clear hKo Ko fh11 fa11
    refine Kn.stepU fh12 rfl .none (Kn.ex_store fh12 (.tmp rfl) (.tmp rfl)) fun Ko hKo => ?_
    rw [hst]
    refine hKo _ ?_
    clear hKo Ko
    refine wpList_nil ?_
    refine hK4 _ _ ?_
    clear hK4 K4
    replace fh12 := fh12.cut (.cons (t := 4) rfl (.cons (t := 0) rfl (.cons (t := 1) rfl .nil)))
    refine wp_ret ?_
    refine Kn.then_ret ?_
    exact Kn.retS fh12 rfl rfl hS2 Tryd.underlying43 rfl (by kernel_rfl) ⟨rfl, HB.out.trans (hB2 _ (Nat.le_refl _))⟩
  have h1 : (s.size : Int) < p := by omega
  refine wp_seq_k fun K2 hK2 => ?_
  refine wp_seq_k fun K3 hK3 => ?_
  refine wp_region_lit ?_
  refine Kn.pure fh1 rfl rfl .none (Kn.ex_move fh1 (.tmp rfl)) fun fa2 fh2 => ?_
  clear fh1 fa1
  refine Kn.step fh2 rfl rfl .none (Kn.ex_bin fh2 (.tmp rfl) .const) fun Ko hKo => ?_
  go_simp
  try go_bits
  refine hKo _ _ fun fa3 fh3 => ?_
  clear hKo Ko fh2 fa2
  refine Kn.pure fh3 rfl rfl .none (Kn.ex_move fh3 (.tmp rfl)) fun fa4 fh4 => ?_
  clear fh3 fa3
  refine Kn.pure fh4 rfl rfl (.some rfl rfl rfl) (Kn.ex_move fh4 (.tmp rfl)) fun fa5 fh5 => ?_
  clear fh4 fa4
  refine Kn.pure fh5 rfl rfl (.some rfl rfl rfl) (Kn.ex_move fh5 (.tmp rfl)) fun fa6 fh6 => ?_
  clear fh5 fa5
  refine Kn.step fh6 rfl rfl (.some rfl rfl rfl) (Kn.ex_len fh6 (.tmp rfl)) fun Ko hKo => ?_
  go_simp
  try go_bits
  refine hKo _ _ fun fa7 fh7 => ?_
  clear hKo Ko fh6 fa6
  refine Kn.step fh7 rfl rfl (.some rfl rfl rfl) (Kn.ex_bin fh7 (.tmp rfl) (.tmp rfl)) fun Ko hKo => ?_
  go_simp
  try go_bits
  refine hKo _ _ fun fa8 fh8 => ?_
  clear hKo Ko fh7 fa7
  refine Kn.pure fh8 rfl rfl .none (Kn.ex_pick fh8 (.tmp rfl) (.tmp rfl)) fun fa9 fh9 => ?_
  clear fh8 fa8
  refine wpList_nil ?_
  refine hK3 _ _ ?_
  clear hK3 K3
  replace fh9 := fh9.cut (.cons (t := 15) rfl (.cons (t := 4) rfl (.cons (t := 0) rfl (.cons (t := 1) rfl .nil))))
  refine Kn.yes fh9 (.tmp rfl) ?_
  replace fh9 := fh9.cut (.cons (t := 4) rfl (.cons (t := 0) rfl (.cons (t := 1) rfl .nil)))
  obtain ⟨hst, hS2, hB2⟩ := HS.out.store (P := Tryd.prog) (cells := #[.int .i64 0, .int .i64 p, .int .i64 1, .int .i64 p]) (by kernel_rfl) rfl (by simp [Value.oneCell'])
  refine wp_seq_k fun K4 hK4 => ?_
  refine wp_region_lit ?_
  refine Kn.pure fh9 rfl rfl .none (Kn.ex_move fh9 (.tmp rfl)) fun fa10 fh10 => ?_
  clear fh9 fa9
  refine Kn.pure fh10 rfl rfl .none (Kn.ex_move fh10 (.tmp rfl)) fun fa11 fh11 => ?_
  clear fh10 fa10
  refine Kn.step fh11 rfl rfl .none (Kn.ex_build fh11 (.cons (.tmp rfl) (.cons .const (.cons (.tmp rfl) .nil)))) fun Ko hKo => ?_
  go_simp
  try go_bits
  refine hKo _ _ fun fa12 fh12 => ?_
  clear hKo Ko fh11 fa11
  refine Kn.stepU fh12 rfl .none (Kn.ex_store fh12 (.tmp rfl) (.tmp rfl)) fun Ko hKo => ?_
  rw [hst]
  refine hKo _ ?_
  clear hKo Ko
  refine wpList_nil ?_
  refine hK4 _ _ ?_
  clear hK4 K4
  replace fh12 := fh12.cut (.cons (t := 4) rfl (.cons (t := 0) rfl (.cons (t := 1) rfl .nil)))
  refine wp_ret ?_
  refine Kn.then_ret ?_
  exact Kn.retS fh12 rfl rfl hS2 Tryd.underlying43 rfl (by kernel_rfl) ⟨rfl, HB.out.trans (hB2 _ (Nat.le_refl _))⟩

set_option maxRecDepth 100000 in
set_option maxHeartbeats 2000000 in
theorem readShort_at (s : ByteArray) (q : Nat) (w : World) (hs : s.size ≤ 1000000000) (hq : q ≤ s.size) :
    Calls Tryd.prog 31 #[.string s, .int .i64 (q : Int)] w fun e w' => e = .returned (.agg (gotS s q)) ∧ Below w.heap.size w w' := by
  refine Kn.calls Tryd.func31 rfl Tryd.ntmps31 rfl (.cons (t := 0) rfl (.cons (t := 1) rfl .nil)) fun fa0 fh0 => ?_
  refine wp_seq_k fun K1 hK1 => ?_
  refine wp_region_lit ?_
  refine Kn.step fh0 rfl rfl .none Kn.ex_alloc fun Ko hKo => ?_
  go_simp
  try go_bits
  refine hKo _ _ fun fa1 fh1 => ?_
  clear hKo Ko fh0 fa0
  refine wpList_nil ?_
  refine hK1 _ _ ?_
  clear hK1 K1
  refine Kn.gen (fun v => St.St v w.heap.size 43 #[.int .i64 0, .int .i64 0, .int .i64 0, .int .i64 0] ∧ Below w.heap.size w v) ⟨St.St.new _ _ _, (Below.refl _ w).alloc (Nat.le_refl _) _⟩ fun v0 hvv => ?_
  obtain ⟨hS0, hb0⟩ := hvv
  have HS := Lib.hid hS0
  have HB := Lib.hid hb0
  clear hS0 hb0
  have hqs : ¬ s.size < q := by omega
  refine wp_seq_k fun K2 hK2 => ?_
  refine wp_seq_k fun K3 hK3 => ?_
  refine wp_region_lit ?_
  refine Kn.pure fh1 rfl rfl .none (Kn.ex_move fh1 (.tmp rfl)) fun fa2 fh2 => ?_
  clear fh1 fa1
  refine Kn.step fh2 rfl rfl .none (Kn.ex_bin fh2 (.tmp rfl) .const) fun Ko hKo => ?_
  go_simp
  try go_bits
  refine hKo _ _ fun fa3 fh3 => ?_
  clear hKo Ko fh2 fa2
  refine Kn.pure fh3 rfl rfl .none (Kn.ex_move fh3 (.tmp rfl)) fun fa4 fh4 => ?_
  clear fh3 fa3
  refine Kn.pure fh4 rfl rfl (.some rfl rfl rfl) (Kn.ex_move fh4 (.tmp rfl)) fun fa5 fh5 => ?_
  clear fh4 fa4
  refine Kn.pure fh5 rfl rfl (.some rfl rfl rfl) (Kn.ex_move fh5 (.tmp rfl)) fun fa6 fh6 => ?_
  clear fh5 fa5
  refine Kn.step fh6 rfl rfl (.some rfl rfl rfl) (Kn.ex_len fh6 (.tmp rfl)) fun Ko hKo => ?_
  go_simp
  try go_bits
  refine hKo _ _ fun fa7 fh7 => ?_
  clear hKo Ko fh6 fa6
  refine Kn.step fh7 rfl rfl (.some rfl rfl rfl) (Kn.ex_bin fh7 (.tmp rfl) (.tmp rfl)) fun Ko hKo => ?_
  go_simp
  try go_bits
  refine hKo _ _ fun fa8 fh8 => ?_
  clear hKo Ko fh7 fa7
  refine Kn.pure fh8 rfl rfl .none (Kn.ex_pick fh8 (.tmp rfl) (.tmp rfl)) fun fa9 fh9 => ?_
  clear fh8 fa8
  refine wpList_nil ?_
  refine hK3 _ _ ?_
  clear hK3 K3
  replace fh9 := fh9.cut (.cons (t := 15) rfl (.cons (t := 4) rfl (.cons (t := 0) rfl (.cons (t := 1) rfl .nil))))
  refine Kn.no fh9 (.tmp rfl) ?_
  refine wp_skip ?_
  refine hK2 _ _ ?_
  clear hK2 K2
  replace fh9 := fh9.cut (.cons (t := 4) rfl (.cons (t := 0) rfl (.cons (t := 1) rfl .nil)))
  refine wp_seq_k fun K4 hK4 => ?_
  refine wp_region_lit ?_
  refine Kn.pure fh9 rfl rfl .none (Kn.ex_move fh9 (.tmp rfl)) fun fa10 fh10 => ?_
  clear fh9 fa9
  refine Kn.pure fh10 rfl rfl .none (Kn.ex_assign fh10 (.tmp rfl)) fun fa11 fh11 => ?_
  clear fh10 fa10
  refine wpList_nil ?_
  refine hK4 _ _ ?_
  clear hK4 K4
  replace fh11 := fh11.cut (.cons (t := 5) rfl (.cons (t := 4) rfl (.cons (t := 0) rfl (.cons (t := 1) rfl .nil))))
  refine wp_seq_k fun K5 hK5 => ?_
  refine wp_block ?_
  refine Kn.loop (fun m fr u => ∃ (n : Nat), Kn.Kn 83 [(5, .int .i64 (n : Int)), (0, .string s), (1, .int .i64 (q : Int)), (4, .pointer (some ⟨w.heap.size, 0, none⟩))] fr ∧ n + m = q + 8 ∧ q ≤ n ∧ n ≤ s.size ∧ Hid (∀ j (h : j < s.size), q ≤ j → j < n → 128 ≤ s[j].toNat) ∧ v0 = u) 8 ⟨q, fh11.cut (.cons (t := 5) rfl (.cons (t := 0) rfl (.cons (t := 1) rfl (.cons (t := 4) rfl .nil)))), by omega, Nat.le_refl _, hq, Lib.hid (fun j h h1 h2 => absurd h2 (by omega)), rfl⟩ ?_
  clear fh11 fa11
  intro m6 fa12 u hI Kl6 hKl6
  obtain ⟨n, fh12, hm, hqn, hns, HN, rfl⟩ := hI
  by_cases hlt : n < s.size
  · obtain ⟨x, hx⟩ : ∃ x, s[n].toNat = x := ⟨_, rfl⟩
    have HX := Lib.hid hx
    by_cases hx1 : x < 128
    · have hxi : ¬ (128 : Int) ≤ (x : Int) := by omega
      refine wp_seq_k fun K7 hK7 => ?_
      refine wp_seq_k fun K8 hK8 => ?_
      refine wp_region_lit ?_
      refine Kn.pure fh12 rfl rfl .none (Kn.ex_move fh12 (.tmp rfl)) fun fa13 fh13 => ?_
      clear fh12 fa12
      refine Kn.pure fh13 rfl rfl .none (Kn.ex_move fh13 (.tmp rfl)) fun fa14 fh14 => ?_
      clear fh13 fa13
      refine Kn.step fh14 rfl rfl .none (Kn.ex_len fh14 (.tmp rfl)) fun Ko hKo => ?_
      go_simp
      try go_bits
      refine hKo _ _ fun fa15 fh15 => ?_
      clear hKo Ko fh14 fa14
      refine Kn.step fh15 rfl rfl .none (Kn.ex_bin fh15 (.tmp rfl) (.tmp rfl)) fun Ko hKo => ?_
      go_simp
      try go_bits
      refine hKo _ _ fun fa16 fh16 => ?_
      clear hKo Ko fh15 fa15
      refine Kn.pure fh16 rfl rfl .none (Kn.ex_move fh16 (.tmp rfl)) fun fa17 fh17 => ?_
      clear fh16 fa16
      refine Kn.pure fh17 rfl rfl (.some rfl rfl rfl) (Kn.ex_move fh17 (.tmp rfl)) fun fa18 fh18 => ?_
      clear fh17 fa17
      refine Kn.pure fh18 rfl rfl (.some rfl rfl rfl) (Kn.ex_move fh18 (.tmp rfl)) fun fa19 fh19 => ?_
      clear fh18 fa18
      refine Kn.step fh19 rfl rfl (.some rfl rfl rfl) (Kn.ex_index fh19 (.tmp rfl) (.tmp rfl)) fun Ko hKo => ?_
      go_simp
      try go_bits
      refine hKo _ _ fun fa20 fh20 => ?_
      clear hKo Ko fh19 fa19
      refine Kn.step fh20 rfl rfl (.some rfl rfl rfl) (Kn.ex_bin fh20 (.tmp rfl) .const) fun Ko hKo => ?_
      go_simp
      try go_bits
      refine hKo _ _ fun fa21 fh21 => ?_
      clear hKo Ko fh20 fa20
      refine Kn.pure fh21 rfl rfl .none (Kn.ex_pick fh21 (.tmp rfl) (.tmp rfl)) fun fa22 fh22 => ?_
      clear fh21 fa21
      refine Kn.pure fh22 rfl rfl .none (Kn.ex_move fh22 (.tmp rfl)) fun fa23 fh23 => ?_
      clear fh22 fa22
      refine Kn.skip fh23 rfl rfl (.some rfl rfl rfl) fun fa24 fh24 => ?_
      clear fh23 fa23
      refine Kn.skip fh24 rfl rfl (.some rfl rfl rfl) fun fa25 fh25 => ?_
      clear fh24 fa24
      refine Kn.skip fh25 rfl rfl (.some rfl rfl rfl) fun fa26 fh26 => ?_
      clear fh25 fa25
      refine Kn.skip fh26 rfl rfl (.some rfl rfl rfl) fun fa27 fh27 => ?_
      clear fh26 fa26
      refine Kn.pure fh27 rfl rfl .none (Kn.ex_pick fh27 (.tmp rfl) .const) fun fa28 fh28 => ?_
      clear fh27 fa27
      refine wpList_nil ?_
      refine hK8 _ _ ?_
      clear hK8 K8
      replace fh28 := fh28.cut (.cons (t := 35) rfl (.cons (t := 5) rfl (.cons (t := 0) rfl (.cons (t := 1) rfl (.cons (t := 4) rfl .nil)))))
      refine Kn.no fh28 (.tmp rfl) ?_
      replace fh28 := fh28.cut (.cons (t := 5) rfl (.cons (t := 0) rfl (.cons (t := 1) rfl (.cons (t := 4) rfl .nil))))
      refine wp_exit ?_
      refine Kn.then_exit ?_
      clear hK7 K7
      refine Kn.then_exit ?_
      clear hKl6 Kl6
      refine Kn.block_exit ?_
      refine hK5 _ _ ?_
      clear hK5 K5
      clear hxi
      by_cases h8 : n = q + 8
      · have HR : Hid (gotS s q = #[.int .i64 0, .int .i64 (q : Int), .int .i64 4, .int .i64 (q : Int)]) := Lib.hid (got_4 (by
          obtain ⟨hs, e1, e2, e3, _⟩ := split_hs s q n hqn hns HN.out
          rw [e1]
          exact rd_out hs _ e3 (by omega)))
        have e8 : ((n : Int) == (q : Int) + 8) = true := by rw [beq_iff_eq]; omega
        refine wp_seq_k fun K9 hK9 => ?_
        refine wp_seq_k fun K10 hK10 => ?_
        refine wp_region_lit ?_
        refine Kn.pure fh28 rfl rfl .none (Kn.ex_move fh28 (.tmp rfl)) fun fa29 fh29 => ?_
        clear fh28 fa28
        refine Kn.pure fh29 rfl rfl .none (Kn.ex_move fh29 (.tmp rfl)) fun fa30 fh30 => ?_
        clear fh29 fa29
        refine Kn.step fh30 rfl rfl .none (Kn.ex_bin fh30 (.tmp rfl) .const) fun Ko hKo => ?_
        go_simp
        try go_bits
        refine hKo _ _ fun fa31 fh31 => ?_
        clear hKo Ko fh30 fa30
        refine Kn.step fh31 rfl rfl .none (Kn.ex_bin fh31 (.tmp rfl) (.tmp rfl)) fun Ko hKo => ?_
        go_simp
        try go_bits
        refine hKo _ _ fun fa32 fh32 => ?_
        clear hKo Ko fh31 fa31
        refine wpList_nil ?_
        refine hK10 _ _ ?_
        clear hK10 K10
        replace fh32 := fh32.cut (.cons (t := 41) rfl (.cons (t := 5) rfl (.cons (t := 0) rfl (.cons (t := 1) rfl (.cons (t := 4) rfl .nil)))))
        refine Kn.yes fh32 (.tmp rfl) ?_
        replace fh32 := fh32.cut (.cons (t := 5) rfl (.cons (t := 0) rfl (.cons (t := 1) rfl (.cons (t := 4) rfl .nil))))
        obtain ⟨hst, hS2, hB2⟩ := HS.out.store (P := Tryd.prog) (cells := #[.int .i64 0, .int .i64 (q : Int), .int .i64 4, .int .i64 (q : Int)]) (by kernel_rfl) rfl (by simp [Value.oneCell'])
        refine wp_seq_k fun K11 hK11 => ?_
        refine wp_region_lit ?_
        refine Kn.pure fh32 rfl rfl .none (Kn.ex_move fh32 (.tmp rfl)) fun fa33 fh33 => ?_
        clear fh32 fa32
        refine Kn.pure fh33 rfl rfl .none (Kn.ex_move fh33 (.tmp rfl)) fun fa34 fh34 => ?_
        clear fh33 fa33
        refine Kn.step fh34 rfl rfl .none (Kn.ex_build fh34 (.cons (.tmp rfl) (.cons .const (.cons (.tmp rfl) .nil)))) fun Ko hKo => ?_
        go_simp
        try go_bits
        refine hKo _ _ fun fa35 fh35 => ?_
        clear hKo Ko fh34 fa34
        refine Kn.stepU fh35 rfl .none (Kn.ex_store fh35 (.tmp rfl) (.tmp rfl)) fun Ko hKo => ?_
        rw [hst]
        refine hKo _ ?_
        clear hKo Ko
        refine wpList_nil ?_
        refine hK11 _ _ ?_
        clear hK11 K11
        replace fh35 := fh35.cut (.cons (t := 5) rfl (.cons (t := 0) rfl (.cons (t := 1) rfl (.cons (t := 4) rfl .nil))))
        refine wp_ret ?_
        refine Kn.then_ret ?_
        exact Kn.retS fh35 rfl rfl hS2 Tryd.underlying43 rfl (by kernel_rfl) ⟨by rw [HR.out], HB.out.trans (hB2 _ (Nat.le_refl _))⟩
      have e8 : ((n : Int) == (q : Int) + 8) = false := by rw [beq_eq_false_iff_ne]; omega
      have es : ((n : Int) == (s.size : Int)) = false := by rw [beq_eq_false_iff_ne]; omega
      have es2 : (n == s.size) = false := by rw [beq_eq_false_iff_ne]; omega
      have HH : Hid (∃ hs, s.data.toList.drop q = hs ++ s[n] :: s.data.toList.drop (n + 1) ∧ hs.length = n - q ∧ (∀ b ∈ hs, 128 ≤ b.toNat) ∧ ∀ j (h : j < hs.length) (h2 : q + j < s.size), hs[j] = s[q + j]) := Lib.hid (by
        have := split_hs s q n hqn hns HN.out
        rwa [drop_here s n hlt] at this)
      refine wp_seq_k fun K9 hK9 => ?_
      refine wp_seq_k fun K10 hK10 => ?_
      refine wp_region_lit ?_
      refine Kn.pure fh28 rfl rfl .none (Kn.ex_move fh28 (.tmp rfl)) fun fa29 fh29 => ?_
      clear fh28 fa28
      refine Kn.pure fh29 rfl rfl .none (Kn.ex_move fh29 (.tmp rfl)) fun fa30 fh30 => ?_
      clear fh29 fa29
      refine Kn.step fh30 rfl rfl .none (Kn.ex_bin fh30 (.tmp rfl) .const) fun Ko hKo => ?_
      go_simp
      try go_bits
      refine hKo _ _ fun fa31 fh31 => ?_
      clear hKo Ko fh30 fa30
      refine Kn.step fh31 rfl rfl .none (Kn.ex_bin fh31 (.tmp rfl) (.tmp rfl)) fun Ko hKo => ?_
      go_simp
      try go_bits
      refine hKo _ _ fun fa32 fh32 => ?_
      clear hKo Ko fh31 fa31
      refine wpList_nil ?_
      refine hK10 _ _ ?_
      clear hK10 K10
      replace fh32 := fh32.cut (.cons (t := 41) rfl (.cons (t := 5) rfl (.cons (t := 0) rfl (.cons (t := 1) rfl (.cons (t := 4) rfl .nil)))))
      refine Kn.no fh32 (.tmp rfl) ?_
      refine wp_skip ?_
      refine hK9 _ _ ?_
      clear hK9 K9
      replace fh32 := fh32.cut (.cons (t := 5) rfl (.cons (t := 0) rfl (.cons (t := 1) rfl (.cons (t := 4) rfl .nil))))
      clear e8
      refine wp_seq_k fun K11 hK11 => ?_
      refine wp_seq_k fun K12 hK12 => ?_
      refine wp_region_lit ?_
      refine Kn.pure fh32 rfl rfl .none (Kn.ex_move fh32 (.tmp rfl)) fun fa33 fh33 => ?_
      clear fh32 fa32
      refine Kn.pure fh33 rfl rfl .none (Kn.ex_move fh33 (.tmp rfl)) fun fa34 fh34 => ?_
      clear fh33 fa33
      refine Kn.step fh34 rfl rfl .none (Kn.ex_len fh34 (.tmp rfl)) fun Ko hKo => ?_
      go_simp
      try go_bits
      refine hKo _ _ fun fa35 fh35 => ?_
      clear hKo Ko fh34 fa34
      refine Kn.step fh35 rfl rfl .none (Kn.ex_bin fh35 (.tmp rfl) (.tmp rfl)) fun Ko hKo => ?_
      go_simp
      try go_bits
      refine hKo _ _ fun fa36 fh36 => ?_
      clear hKo Ko fh35 fa35
      refine wpList_nil ?_
      refine hK12 _ _ ?_
      clear hK12 K12
      replace fh36 := fh36.cut (.cons (t := 48) rfl (.cons (t := 5) rfl (.cons (t := 0) rfl (.cons (t := 1) rfl (.cons (t := 4) rfl .nil)))))
      refine Kn.no fh36 (.tmp rfl) ?_
      refine wp_skip ?_
      refine hK11 _ _ ?_
      clear hK11 K11
      replace fh36 := fh36.cut (.cons (t := 5) rfl (.cons (t := 0) rfl (.cons (t := 1) rfl (.cons (t := 4) rfl .nil))))
      clear es es2
      by_cases h00 : x = 0 ∧ q < n
      · obtain ⟨hx0, hq0⟩ := h00
        have ex : ((x : Int) == 0) = true := by rw [beq_iff_eq]; omega
        have HR : Hid (gotS s q = #[.int .i64 0, .int .i64 (q : Int), .int .i64 4, .int .i64 (q : Int)]) := Lib.hid (got_4 (by
          obtain ⟨hs, e1, e2, e3, _⟩ := HH.out
          rw [e1, show s[n] = 0 from UInt8.toNat_inj.1 (by rw [HX.out, hx0]; rfl)]
          exact rd_null hs _ e3 (by omega) (by omega)))
        refine wp_seq_k fun K13 hK13 => ?_
        refine wp_seq_k fun K14 hK14 => ?_
        refine wp_region_lit ?_
        refine Kn.pure fh36 rfl rfl .none (Kn.ex_move fh36 (.tmp rfl)) fun fa37 fh37 => ?_
        clear fh36 fa36
        refine Kn.pure fh37 rfl rfl .none (Kn.ex_move fh37 (.tmp rfl)) fun fa38 fh38 => ?_
        clear fh37 fa37
        refine Kn.step fh38 rfl rfl .none (Kn.ex_index fh38 (.tmp rfl) (.tmp rfl)) fun Ko hKo => ?_
        go_simp
        try go_bits
        refine hKo _ _ fun fa39 fh39 => ?_
        clear hKo Ko fh38 fa38
        refine Kn.step fh39 rfl rfl .none (Kn.ex_bin fh39 (.tmp rfl) .const) fun Ko hKo => ?_
        go_simp
        try go_bits
        refine hKo _ _ fun fa40 fh40 => ?_
        clear hKo Ko fh39 fa39
        refine Kn.pure fh40 rfl rfl .none (Kn.ex_move fh40 (.tmp rfl)) fun fa41 fh41 => ?_
        clear fh40 fa40
        refine Kn.pure fh41 rfl rfl (.some rfl rfl rfl) (Kn.ex_move fh41 (.tmp rfl)) fun fa42 fh42 => ?_
        clear fh41 fa41
        refine Kn.pure fh42 rfl rfl (.some rfl rfl rfl) (Kn.ex_move fh42 (.tmp rfl)) fun fa43 fh43 => ?_
        clear fh42 fa42
        refine Kn.step fh43 rfl rfl (.some rfl rfl rfl) (Kn.ex_bin fh43 (.tmp rfl) (.tmp rfl)) fun Ko hKo => ?_
        go_simp
        try go_bits
        refine hKo _ _ fun fa44 fh44 => ?_
        clear hKo Ko fh43 fa43
        refine Kn.pure fh44 rfl rfl .none (Kn.ex_pick fh44 (.tmp rfl) (.tmp rfl)) fun fa45 fh45 => ?_
        clear fh44 fa44
        refine wpList_nil ?_
        refine hK14 _ _ ?_
        clear hK14 K14
        replace fh45 := fh45.cut (.cons (t := 61) rfl (.cons (t := 5) rfl (.cons (t := 0) rfl (.cons (t := 1) rfl (.cons (t := 4) rfl .nil)))))
        refine Kn.yes fh45 (.tmp rfl) ?_
        replace fh45 := fh45.cut (.cons (t := 5) rfl (.cons (t := 0) rfl (.cons (t := 1) rfl (.cons (t := 4) rfl .nil))))
        obtain ⟨hst, hS2, hB2⟩ := HS.out.store (P := Tryd.prog) (cells := #[.int .i64 0, .int .i64 (q : Int), .int .i64 4, .int .i64 (q : Int)]) (by kernel_rfl) rfl (by simp [Value.oneCell'])
        refine wp_seq_k fun K15 hK15 => ?_
        refine wp_region_lit ?_
        refine Kn.pure fh45 rfl rfl .none (Kn.ex_move fh45 (.tmp rfl)) fun fa46 fh46 => ?_
        clear fh45 fa45
        refine Kn.pure fh46 rfl rfl .none (Kn.ex_move fh46 (.tmp rfl)) fun fa47 fh47 => ?_
        clear fh46 fa46
        refine Kn.step fh47 rfl rfl .none (Kn.ex_build fh47 (.cons (.tmp rfl) (.cons .const (.cons (.tmp rfl) .nil)))) fun Ko hKo => ?_
        go_simp
        try go_bits
        refine hKo _ _ fun fa48 fh48 => ?_
        clear hKo Ko fh47 fa47
        refine Kn.stepU fh48 rfl .none (Kn.ex_store fh48 (.tmp rfl) (.tmp rfl)) fun Ko hKo => ?_
        rw [hst]
        refine hKo _ ?_
        clear hKo Ko
        refine wpList_nil ?_
        refine hK15 _ _ ?_
        clear hK15 K15
        replace fh48 := fh48.cut (.cons (t := 5) rfl (.cons (t := 0) rfl (.cons (t := 1) rfl (.cons (t := 4) rfl .nil))))
        refine wp_ret ?_
        refine Kn.then_ret ?_
        exact Kn.retS fh48 rfl rfl hS2 Tryd.underlying43 rfl (by kernel_rfl) ⟨by rw [HR.out], HB.out.trans (hB2 _ (Nat.le_refl _))⟩
      have HZ : Hid (¬ (x = 0 ∧ q < n)) := Lib.hid h00
      by_cases hx0 : x = 0
      · have ex : ((x : Int) == 0) = true := by rw [beq_iff_eq]; omega
        have hnq : ¬ q < n := by omega
        clear h00 hx0
        refine wp_seq_k fun K13 hK13 => ?_
        refine wp_seq_k fun K14 hK14 => ?_
        refine wp_region_lit ?_
        refine Kn.pure fh36 rfl rfl .none (Kn.ex_move fh36 (.tmp rfl)) fun fa37 fh37 => ?_
        clear fh36 fa36
        refine Kn.pure fh37 rfl rfl .none (Kn.ex_move fh37 (.tmp rfl)) fun fa38 fh38 => ?_
        clear fh37 fa37
        refine Kn.step fh38 rfl rfl .none (Kn.ex_index fh38 (.tmp rfl) (.tmp rfl)) fun Ko hKo => ?_
        go_simp
        try go_bits
        refine hKo _ _ fun fa39 fh39 => ?_
        clear hKo Ko fh38 fa38
        refine Kn.step fh39 rfl rfl .none (Kn.ex_bin fh39 (.tmp rfl) .const) fun Ko hKo => ?_
        go_simp
        try go_bits
        refine hKo _ _ fun fa40 fh40 => ?_
        clear hKo Ko fh39 fa39
        refine Kn.pure fh40 rfl rfl .none (Kn.ex_move fh40 (.tmp rfl)) fun fa41 fh41 => ?_
        clear fh40 fa40
        refine Kn.pure fh41 rfl rfl (.some rfl rfl rfl) (Kn.ex_move fh41 (.tmp rfl)) fun fa42 fh42 => ?_
        clear fh41 fa41
        refine Kn.pure fh42 rfl rfl (.some rfl rfl rfl) (Kn.ex_move fh42 (.tmp rfl)) fun fa43 fh43 => ?_
        clear fh42 fa42
        refine Kn.step fh43 rfl rfl (.some rfl rfl rfl) (Kn.ex_bin fh43 (.tmp rfl) (.tmp rfl)) fun Ko hKo => ?_
        go_simp
        try go_bits
        refine hKo _ _ fun fa44 fh44 => ?_
        clear hKo Ko fh43 fa43
        refine Kn.pure fh44 rfl rfl .none (Kn.ex_pick fh44 (.tmp rfl) (.tmp rfl)) fun fa45 fh45 => ?_
        clear fh44 fa44
        refine wpList_nil ?_
        refine hK14 _ _ ?_
        clear hK14 K14
        replace fh45 := fh45.cut (.cons (t := 61) rfl (.cons (t := 5) rfl (.cons (t := 0) rfl (.cons (t := 1) rfl (.cons (t := 4) rfl .nil)))))
        refine Kn.no fh45 (.tmp rfl) ?_
        refine wp_skip ?_
        refine hK13 _ _ ?_
        clear hK13 K13
        replace fh45 := fh45.cut (.cons (t := 5) rfl (.cons (t := 0) rfl (.cons (t := 1) rfl (.cons (t := 4) rfl .nil))))
        clear hnq
        clear ex
        obtain ⟨d, hd1, hd2, hd3⟩ : ∃ d : List UInt8, rd (s.data.toList.drop q) = (lv d, n - q + 1, 0) ∧ d.length = n - q + 1 ∧ ∀ j (h : j < d.length) (h2 : q + j < s.size), d[j] = s[q + j] := by
          obtain ⟨hs, e1, e2, e3, e4⟩ := HH.out
          refine ⟨hs ++ [s[n]], ?_, by rw [List.length_append, e2]; rfl, fun j h h2 => ?_⟩
          · rw [e1, rd_val hs _ s[n] e3 (by omega) (by rw [HX.out]; exact hx1) (fun e => HZ.out ⟨by rw [← HX.out, e.1]; rfl, by omega⟩), e2]
          · rcases Nat.lt_or_ge j hs.length with h' | h'
            · rw [List.getElem_append_left h']; exact e4 j h' h2
            · rw [List.length_append, List.length_singleton] at h
              have ej : q + j = n := by omega
              subst ej
              rw [List.getElem_append_right h']; simp
        have HD1 := Lib.hid hd1
        have HD2 := Lib.hid hd2
        have HD3 := Lib.hid hd3
        have hd8 : n - q < 8 := by omega
        clear hd1 hd2 hd3 HH hx HX HN hx1
        refine wp_seq_k fun K15 hK15 => ?_
        refine wp_region_lit ?_
        refine Kn.pure fh45 rfl rfl .none (Kn.ex_assign fh45 .const) fun fa46 fh46 => ?_
        clear fh45 fa45
        refine wpList_nil ?_
        refine hK15 _ _ ?_
        clear hK15 K15
        refine wp_seq_k fun K16 hK16 => ?_
        refine wp_seq_k fun K17 hK17 => ?_
        refine wp_region_lit ?_
        refine Kn.pure fh46 rfl rfl .none (Kn.ex_move fh46 (.tmp rfl)) fun fa47 fh47 => ?_
        clear fh46 fa46
        refine Kn.pure fh47 rfl rfl .none (Kn.ex_assign fh47 (.tmp rfl)) fun fa48 fh48 => ?_
        clear fh47 fa47
        refine wpList_nil ?_
        refine hK17 _ _ ?_
        clear hK17 K17
        replace fh48 := fh48.cut (.cons (t := 7) rfl (.cons (t := 6) rfl (.cons (t := 5) rfl (.cons (t := 0) rfl (.cons (t := 1) rfl (.cons (t := 4) rfl .nil))))))
        refine wp_block ?_
        refine Kn.loop (fun m fr u => ∃ (j : Nat) (i : Int), Kn.Kn 83 [(7, .int .i64 i), (6, .int .i64 (lv (d.drop j) : Int)), (5, .int .i64 (n : Int)), (0, .string s), (1, .int .i64 (q : Int)), (4, .pointer (some ⟨w.heap.size, 0, none⟩))] fr ∧ j ≤ m ∧ j ≤ n - q + 1 ∧ Hid (i + 1 = (q : Int) + (j : Int)) ∧ v0 = u) (n - q + 1) ⟨(n - q + 1), (n : Int), fh48.cut (.cons (t := 7) rfl (.turn (t := 6) rfl (by rw [List.drop_of_length_le (by rw [HD2.out]; exact Nat.le_refl _)]; rfl) (.cons (t := 5) rfl (.cons (t := 0) rfl (.cons (t := 1) rfl (.cons (t := 4) rfl .nil)))))), Nat.le_refl _, Nat.le_refl _, Lib.hid (by omega), rfl⟩ ?_
        clear fh48 fa48
        intro m18 fa49 u hI Kl18 hKl18
        obtain ⟨j, i, fh49, hjm, hjn, HI, rfl⟩ := hI
        rcases j with _ | j
        · have hiq : ¬ (q : Int) ≤ i := by have := HI.out; omega
          have hxl : lv (d.drop 0) < 72057594037927936 := by
            have h1 := lv_lt d
            have h2 : 128 ^ d.length ≤ 128 ^ 8 := Nat.pow_le_pow_right (by decide) (by rw [HD2.out]; omega)
            rw [List.drop_zero]
            omega
          have HR : Hid (gotS s q = #[.int .i64 (lv (d.drop 0) : Int), .int .i64 ((n : Int) + 1), .int .i64 0, .int .i64 0]) := Lib.hid (by
            rw [got_0 HD1.out, List.drop_zero, show (q : Int) + ((n - q + 1 : Nat) : Int) = (n : Int) + 1 by omega])
          generalize lv (d.drop 0) = X at hxl HR fh49
          refine wp_seq_k fun K19 hK19 => ?_
          refine wp_seq_k fun K20 hK20 => ?_
          refine wp_region_lit ?_
          refine Kn.pure fh49 rfl rfl .none (Kn.ex_move fh49 (.tmp rfl)) fun fa50 fh50 => ?_
          clear fh49 fa49
          refine Kn.pure fh50 rfl rfl .none (Kn.ex_move fh50 (.tmp rfl)) fun fa51 fh51 => ?_
          clear fh50 fa50
          refine Kn.step fh51 rfl rfl .none (Kn.ex_bin fh51 (.tmp rfl) (.tmp rfl)) fun Ko hKo => ?_
          go_simp
          try go_bits
          refine hKo _ _ fun fa52 fh52 => ?_
          clear hKo Ko fh51 fa51
          refine wpList_nil ?_
          refine hK20 _ _ ?_
          clear hK20 K20
          replace fh52 := fh52.cut (.cons (t := 68) rfl (.cons (t := 7) rfl (.cons (t := 6) rfl (.cons (t := 5) rfl (.cons (t := 0) rfl (.cons (t := 1) rfl (.cons (t := 4) rfl .nil)))))))
          refine Kn.no fh52 (.tmp rfl) ?_
          replace fh52 := fh52.cut (.cons (t := 7) rfl (.cons (t := 6) rfl (.cons (t := 5) rfl (.cons (t := 0) rfl (.cons (t := 1) rfl (.cons (t := 4) rfl .nil))))))
          refine wp_exit ?_
          refine Kn.then_exit ?_
          clear hK19 K19
          refine Kn.then_exit ?_
          clear hKl18 Kl18
          refine Kn.block_exit ?_
          refine hK16 _ _ ?_
          clear hK16 K16
          replace fh52 := fh52.cut (.cons (t := 6) rfl (.cons (t := 5) rfl (.cons (t := 4) rfl .nil)))
          obtain ⟨hst, hS2, hB2⟩ := HS.out.store (P := Tryd.prog) (cells := #[.int .i64 (X : Int), .int .i64 ((n : Int) + 1), .int .i64 0, .int .i64 0]) (by kernel_rfl) rfl (by simp [Value.oneCell'])
          refine wp_seq_k fun K21 hK21 => ?_
          refine wp_region_lit ?_
          refine Kn.pure fh52 rfl rfl .none (Kn.ex_move fh52 (.tmp rfl)) fun fa53 fh53 => ?_
          clear fh52 fa52
          refine Kn.pure fh53 rfl rfl .none (Kn.ex_move fh53 (.tmp rfl)) fun fa54 fh54 => ?_
          clear fh53 fa53
          refine Kn.step fh54 rfl rfl .none (Kn.ex_bin fh54 (.tmp rfl) .const) fun Ko hKo => ?_
          go_simp
          try go_bits
          refine hKo _ _ fun fa55 fh55 => ?_
          clear hKo Ko fh54 fa54
          refine Kn.step fh55 rfl rfl .none (Kn.ex_build fh55 (.cons (.tmp rfl) (.cons (.tmp rfl) .nil))) fun Ko hKo => ?_
          go_simp
          try go_bits
          refine hKo _ _ fun fa56 fh56 => ?_
          clear hKo Ko fh55 fa55
          refine Kn.stepU fh56 rfl .none (Kn.ex_store fh56 (.tmp rfl) (.tmp rfl)) fun Ko hKo => ?_
          rw [hst]
          refine hKo _ ?_
          clear hKo Ko
          refine wpList_nil ?_
          refine hK21 _ _ ?_
          clear hK21 K21
          replace fh56 := fh56.cut (.cons (t := 4) rfl .nil)
          refine wp_ret ?_
          exact Kn.retS fh56 rfl rfl hS2 Tryd.underlying43 rfl (by kernel_rfl) ⟨by rw [HR.out], HB.out.trans (hB2 _ (Nat.le_refl _))⟩
        obtain ⟨k, hk⟩ : ∃ k, q + j = k := ⟨_, rfl⟩
        obtain rfl : i = (k : Int) := by have := HI.out; omega
        have hkq : q ≤ k := by omega
        have hks : k < s.size := by omega
        obtain ⟨y, hy⟩ : ∃ y, s[k].toNat = y := ⟨_, rfl⟩
        have hy256 : y < 256 := by rw [← hy]; exact s[k].toNat_lt
        have hjl : j < d.length := by rw [HD2.out]; omega
        have hlx : lv (d.drop (j + 1)) < 562949953421312 := by
          have h1 := lv_lt (d.drop (j + 1))
          rw [List.length_drop] at h1
          have h2 : 128 ^ (d.length - (j + 1)) ≤ 128 ^ 7 := Nat.pow_le_pow_right (by decide) (by rw [HD2.out]; omega)
          omega
        obtain ⟨z, hz⟩ : ∃ z, y % 128 = z := ⟨_, rfl⟩
        have hz128 : z < 128 := by omega
        have HL : Hid (lv (d.drop j) = z + 128 * lv (d.drop (j + 1))) := Lib.hid (by
          rw [List.drop_eq_getElem_cons hjl, lv, HD3.out j hjl (by omega)]
          subst hk
          rw [hy, hz])
        generalize lv (d.drop (j + 1)) = X at hlx HL fh49
        obtain ⟨X1, hX1⟩ : ∃ X1, 128 * X = X1 := ⟨_, rfl⟩
        have rm : (128 : Int) * (X : Int) = (X1 : Int) := by omega
        have rz : (y : Int).tmod 128 = (z : Int) := by rw [Int.tmod_eq_emod_of_nonneg (by omega)]; omega
        obtain ⟨X2, hX2⟩ : ∃ X2, X1 + z = X2 := ⟨_, rfl⟩
        have ra : (X1 : Int) + (z : Int) = (X2 : Int) := by omega
        have hX2b : X2 < 72057594037927936 := by omega
        have HX2 := Lib.hid hX2
        have hX1b : X1 < 72057594037927936 := by omega
        have HX1 := Lib.hid hX1
        have HK := Lib.hid hk
        have rk : (k : Int) - 1 + 1 = (k : Int) := by omega
        clear hX1 hX2 hz hk
        refine wp_seq_k fun K19 hK19 => ?_
        refine wp_seq_k fun K20 hK20 => ?_
        refine wp_region_lit ?_
        refine Kn.pure fh49 rfl rfl .none (Kn.ex_move fh49 (.tmp rfl)) fun fa50 fh50 => ?_
        clear fh49 fa49
        refine Kn.pure fh50 rfl rfl .none (Kn.ex_move fh50 (.tmp rfl)) fun fa51 fh51 => ?_
        clear fh50 fa50
        refine Kn.step fh51 rfl rfl .none (Kn.ex_bin fh51 (.tmp rfl) (.tmp rfl)) fun Ko hKo => ?_
        go_simp
        try go_bits
        refine hKo _ _ fun fa52 fh52 => ?_
        clear hKo Ko fh51 fa51
        refine wpList_nil ?_
        refine hK20 _ _ ?_
        clear hK20 K20
        replace fh52 := fh52.cut (.cons (t := 68) rfl (.cons (t := 7) rfl (.cons (t := 6) rfl (.cons (t := 5) rfl (.cons (t := 0) rfl (.cons (t := 1) rfl (.cons (t := 4) rfl .nil)))))))
        refine Kn.yes fh52 (.tmp rfl) ?_
        refine wp_skip ?_
        refine hK19 _ _ ?_
        clear hK19 K19
        replace fh52 := fh52.cut (.cons (t := 7) rfl (.cons (t := 6) rfl (.cons (t := 5) rfl (.cons (t := 0) rfl (.cons (t := 1) rfl (.cons (t := 4) rfl .nil))))))
        refine wp_seq_k fun K21 hK21 => ?_
        refine wp_block ?_
        refine wp_region_lit ?_
        refine Kn.pure fh52 rfl rfl .none (Kn.ex_move fh52 (.tmp rfl)) fun fa53 fh53 => ?_
        clear fh52 fa52
        refine Kn.step fh53 rfl rfl .none (Kn.ex_bin fh53 .const (.tmp rfl)) fun Ko hKo => ?_
        go_simp
        try go_bits
        try rw [rm]
        try go_simp
        try go_bits
        refine hKo _ _ fun fa54 fh54 => ?_
        clear hKo Ko fh53 fa53
        refine Kn.pure fh54 rfl rfl .none (Kn.ex_move fh54 (.tmp rfl)) fun fa55 fh55 => ?_
        clear fh54 fa54
        refine Kn.pure fh55 rfl rfl .none (Kn.ex_move fh55 (.tmp rfl)) fun fa56 fh56 => ?_
        clear fh55 fa55
        refine Kn.step fh56 rfl rfl .none (Kn.ex_index fh56 (.tmp rfl) (.tmp rfl)) fun Ko hKo => ?_
        go_simp
        try go_bits
        refine hKo _ _ fun fa57 fh57 => ?_
        clear hKo Ko fh56 fa56
        refine Kn.step fh57 rfl rfl .none (Kn.ex_convert fh57 (.tmp rfl)) fun Ko hKo => ?_
        go_simp
        try go_bits
        refine hKo _ _ fun fa58 fh58 => ?_
        clear hKo Ko fh57 fa57
        refine Kn.step fh58 rfl rfl .none (Kn.ex_bin fh58 (.tmp rfl) .const) fun Ko hKo => ?_
        go_simp
        try go_bits
        try rw [rz]
        try go_simp
        try go_bits
        refine hKo _ _ fun fa59 fh59 => ?_
        clear hKo Ko fh58 fa58
        refine Kn.step fh59 rfl rfl .none (Kn.ex_bin fh59 (.tmp rfl) (.tmp rfl)) fun Ko hKo => ?_
        go_simp
        try go_bits
        try rw [ra]
        try go_simp
        try go_bits
        refine hKo _ _ fun fa60 fh60 => ?_
        clear hKo Ko fh59 fa59
        refine Kn.pure fh60 rfl rfl .none (Kn.ex_assign fh60 (.tmp rfl)) fun fa61 fh61 => ?_
        clear fh60 fa60
        refine wpList_nil ?_
        refine Kn.block_normal ?_
        refine hK21 _ _ ?_
        clear hK21 K21
        replace fh61 := fh61.cut (.cons (t := 6) rfl (.cons (t := 7) rfl (.cons (t := 5) rfl (.cons (t := 0) rfl (.cons (t := 1) rfl (.cons (t := 4) rfl .nil))))))
        clear hy rm rz ra
        refine wp_region_lit ?_
        refine Kn.pure fh61 rfl rfl .none (Kn.ex_move fh61 (.tmp rfl)) fun fa62 fh62 => ?_
        clear fh61 fa61
        refine Kn.step fh62 rfl rfl .none (Kn.ex_bin fh62 (.tmp rfl) .const) fun Ko hKo => ?_
        go_simp
        try go_bits
        refine hKo _ _ fun fa63 fh63 => ?_
        clear hKo Ko fh62 fa62
        refine Kn.pure fh63 rfl rfl .none (Kn.ex_assign fh63 (.tmp rfl)) fun fa64 fh64 => ?_
        clear fh63 fa63
        refine wpList_nil ?_
        replace fh64 := fh64.cut (.cons (t := 7) rfl (.cons (t := 6) rfl (.cons (t := 5) rfl (.cons (t := 0) rfl (.cons (t := 1) rfl (.cons (t := 4) rfl .nil))))))
        exact hKl18 (m18 - 1) _ _ (by omega) ⟨j, (k : Int) - 1, fh64.cut (.cons (t := 7) rfl (.turn (t := 6) rfl (by rw [HL.out, HX1.out, Nat.add_comm, HX2.out]) (.cons (t := 5) rfl (.cons (t := 0) rfl (.cons (t := 1) rfl (.cons (t := 4) rfl .nil)))))), by omega, by omega, Lib.hid (by have := HK.out; omega), rfl⟩
      have ex : ((x : Int) == 0) = false := by rw [beq_eq_false_iff_ne]; omega
      clear h00 hx0
      refine wp_seq_k fun K13 hK13 => ?_
      refine wp_seq_k fun K14 hK14 => ?_
      refine wp_region_lit ?_
      refine Kn.pure fh36 rfl rfl .none (Kn.ex_move fh36 (.tmp rfl)) fun fa37 fh37 => ?_
      clear fh36 fa36
      refine Kn.pure fh37 rfl rfl .none (Kn.ex_move fh37 (.tmp rfl)) fun fa38 fh38 => ?_
      clear fh37 fa37
      refine Kn.step fh38 rfl rfl .none (Kn.ex_index fh38 (.tmp rfl) (.tmp rfl)) fun Ko hKo => ?_
      go_simp
      try go_bits
      refine hKo _ _ fun fa39 fh39 => ?_
      clear hKo Ko fh38 fa38
      refine Kn.step fh39 rfl rfl .none (Kn.ex_bin fh39 (.tmp rfl) .const) fun Ko hKo => ?_
      go_simp
      try go_bits
      refine hKo _ _ fun fa40 fh40 => ?_
      clear hKo Ko fh39 fa39
      refine Kn.pure fh40 rfl rfl .none (Kn.ex_move fh40 (.tmp rfl)) fun fa41 fh41 => ?_
      clear fh40 fa40
      refine Kn.skip fh41 rfl rfl (.some rfl rfl rfl) fun fa42 fh42 => ?_
      clear fh41 fa41
      refine Kn.skip fh42 rfl rfl (.some rfl rfl rfl) fun fa43 fh43 => ?_
      clear fh42 fa42
      refine Kn.skip fh43 rfl rfl (.some rfl rfl rfl) fun fa44 fh44 => ?_
      clear fh43 fa43
      refine Kn.pure fh44 rfl rfl .none (Kn.ex_pick fh44 (.tmp rfl) .const) fun fa45 fh45 => ?_
      clear fh44 fa44
      refine wpList_nil ?_
      refine hK14 _ _ ?_
      clear hK14 K14
      replace fh45 := fh45.cut (.cons (t := 61) rfl (.cons (t := 5) rfl (.cons (t := 0) rfl (.cons (t := 1) rfl (.cons (t := 4) rfl .nil)))))
      refine Kn.no fh45 (.tmp rfl) ?_
      refine wp_skip ?_
      refine hK13 _ _ ?_
      clear hK13 K13
      replace fh45 := fh45.cut (.cons (t := 5) rfl (.cons (t := 0) rfl (.cons (t := 1) rfl (.cons (t := 4) rfl .nil))))
      clear ex
      obtain ⟨d, hd1, hd2, hd3⟩ : ∃ d : List UInt8, rd (s.data.toList.drop q) = (lv d, n - q + 1, 0) ∧ d.length = n - q + 1 ∧ ∀ j (h : j < d.length) (h2 : q + j < s.size), d[j] = s[q + j] := by
        obtain ⟨hs, e1, e2, e3, e4⟩ := HH.out
        refine ⟨hs ++ [s[n]], ?_, by rw [List.length_append, e2]; rfl, fun j h h2 => ?_⟩
        · rw [e1, rd_val hs _ s[n] e3 (by omega) (by rw [HX.out]; exact hx1) (fun e => HZ.out ⟨by rw [← HX.out, e.1]; rfl, by omega⟩), e2]
        · rcases Nat.lt_or_ge j hs.length with h' | h'
          · rw [List.getElem_append_left h']; exact e4 j h' h2
          · rw [List.length_append, List.length_singleton] at h
            have ej : q + j = n := by omega
            subst ej
            rw [List.getElem_append_right h']; simp
      have HD1 := Lib.hid hd1
      have HD2 := Lib.hid hd2
      have HD3 := Lib.hid hd3
      have hd8 : n - q < 8 := by omega
      clear hd1 hd2 hd3 HH hx HX HN hx1
      refine wp_seq_k fun K15 hK15 => ?_
      refine wp_region_lit ?_
      refine Kn.pure fh45 rfl rfl .none (Kn.ex_assign fh45 .const) fun fa46 fh46 => ?_
      clear fh45 fa45
      refine wpList_nil ?_
      refine hK15 _ _ ?_
      clear hK15 K15
      refine wp_seq_k fun K16 hK16 => ?_
      refine wp_seq_k fun K17 hK17 => ?_
      refine wp_region_lit ?_
      refine Kn.pure fh46 rfl rfl .none (Kn.ex_move fh46 (.tmp rfl)) fun fa47 fh47 => ?_
      clear fh46 fa46
      refine Kn.pure fh47 rfl rfl .none (Kn.ex_assign fh47 (.tmp rfl)) fun fa48 fh48 => ?_
      clear fh47 fa47
      refine wpList_nil ?_
      refine hK17 _ _ ?_
      clear hK17 K17
      replace fh48 := fh48.cut (.cons (t := 7) rfl (.cons (t := 6) rfl (.cons (t := 5) rfl (.cons (t := 0) rfl (.cons (t := 1) rfl (.cons (t := 4) rfl .nil))))))
      refine wp_block ?_
      refine Kn.loop (fun m fr u => ∃ (j : Nat) (i : Int), Kn.Kn 83 [(7, .int .i64 i), (6, .int .i64 (lv (d.drop j) : Int)), (5, .int .i64 (n : Int)), (0, .string s), (1, .int .i64 (q : Int)), (4, .pointer (some ⟨w.heap.size, 0, none⟩))] fr ∧ j ≤ m ∧ j ≤ n - q + 1 ∧ Hid (i + 1 = (q : Int) + (j : Int)) ∧ v0 = u) (n - q + 1) ⟨(n - q + 1), (n : Int), fh48.cut (.cons (t := 7) rfl (.turn (t := 6) rfl (by rw [List.drop_of_length_le (by rw [HD2.out]; exact Nat.le_refl _)]; rfl) (.cons (t := 5) rfl (.cons (t := 0) rfl (.cons (t := 1) rfl (.cons (t := 4) rfl .nil)))))), Nat.le_refl _, Nat.le_refl _, Lib.hid (by omega), rfl⟩ ?_
      clear fh48 fa48
      intro m18 fa49 u hI Kl18 hKl18
      obtain ⟨j, i, fh49, hjm, hjn, HI, rfl⟩ := hI
      rcases j with _ | j
      · have hiq : ¬ (q : Int) ≤ i := by have := HI.out; omega
        have hxl : lv (d.drop 0) < 72057594037927936 := by
          have h1 := lv_lt d
          have h2 : 128 ^ d.length ≤ 128 ^ 8 := Nat.pow_le_pow_right (by decide) (by rw [HD2.out]; omega)
          rw [List.drop_zero]
          omega
        have HR : Hid (gotS s q = #[.int .i64 (lv (d.drop 0) : Int), .int .i64 ((n : Int) + 1), .int .i64 0, .int .i64 0]) := Lib.hid (by
          rw [got_0 HD1.out, List.drop_zero, show (q : Int) + ((n - q + 1 : Nat) : Int) = (n : Int) + 1 by omega])
        generalize lv (d.drop 0) = X at hxl HR fh49
        refine wp_seq_k fun K19 hK19 => ?_
        refine wp_seq_k fun K20 hK20 => ?_
        refine wp_region_lit ?_
        refine Kn.pure fh49 rfl rfl .none (Kn.ex_move fh49 (.tmp rfl)) fun fa50 fh50 => ?_
        clear fh49 fa49
        refine Kn.pure fh50 rfl rfl .none (Kn.ex_move fh50 (.tmp rfl)) fun fa51 fh51 => ?_
        clear fh50 fa50
        refine Kn.step fh51 rfl rfl .none (Kn.ex_bin fh51 (.tmp rfl) (.tmp rfl)) fun Ko hKo => ?_
        go_simp
        try go_bits
        refine hKo _ _ fun fa52 fh52 => ?_
        clear hKo Ko fh51 fa51
        refine wpList_nil ?_
        refine hK20 _ _ ?_
        clear hK20 K20
        replace fh52 := fh52.cut (.cons (t := 68) rfl (.cons (t := 7) rfl (.cons (t := 6) rfl (.cons (t := 5) rfl (.cons (t := 0) rfl (.cons (t := 1) rfl (.cons (t := 4) rfl .nil)))))))
        refine Kn.no fh52 (.tmp rfl) ?_
        replace fh52 := fh52.cut (.cons (t := 7) rfl (.cons (t := 6) rfl (.cons (t := 5) rfl (.cons (t := 0) rfl (.cons (t := 1) rfl (.cons (t := 4) rfl .nil))))))
        refine wp_exit ?_
        refine Kn.then_exit ?_
        clear hK19 K19
        refine Kn.then_exit ?_
        clear hKl18 Kl18
        refine Kn.block_exit ?_
        refine hK16 _ _ ?_
        clear hK16 K16
        replace fh52 := fh52.cut (.cons (t := 6) rfl (.cons (t := 5) rfl (.cons (t := 4) rfl .nil)))
        obtain ⟨hst, hS2, hB2⟩ := HS.out.store (P := Tryd.prog) (cells := #[.int .i64 (X : Int), .int .i64 ((n : Int) + 1), .int .i64 0, .int .i64 0]) (by kernel_rfl) rfl (by simp [Value.oneCell'])
        refine wp_seq_k fun K21 hK21 => ?_
        refine wp_region_lit ?_
        refine Kn.pure fh52 rfl rfl .none (Kn.ex_move fh52 (.tmp rfl)) fun fa53 fh53 => ?_
        clear fh52 fa52
        refine Kn.pure fh53 rfl rfl .none (Kn.ex_move fh53 (.tmp rfl)) fun fa54 fh54 => ?_
        clear fh53 fa53
        refine Kn.step fh54 rfl rfl .none (Kn.ex_bin fh54 (.tmp rfl) .const) fun Ko hKo => ?_
        go_simp
        try go_bits
        refine hKo _ _ fun fa55 fh55 => ?_
        clear hKo Ko fh54 fa54
        refine Kn.step fh55 rfl rfl .none (Kn.ex_build fh55 (.cons (.tmp rfl) (.cons (.tmp rfl) .nil))) fun Ko hKo => ?_
        go_simp
        try go_bits
        refine hKo _ _ fun fa56 fh56 => ?_
        clear hKo Ko fh55 fa55
        refine Kn.stepU fh56 rfl .none (Kn.ex_store fh56 (.tmp rfl) (.tmp rfl)) fun Ko hKo => ?_
        rw [hst]
        refine hKo _ ?_
        clear hKo Ko
        refine wpList_nil ?_
        refine hK21 _ _ ?_
        clear hK21 K21
        replace fh56 := fh56.cut (.cons (t := 4) rfl .nil)
        refine wp_ret ?_
        exact Kn.retS fh56 rfl rfl hS2 Tryd.underlying43 rfl (by kernel_rfl) ⟨by rw [HR.out], HB.out.trans (hB2 _ (Nat.le_refl _))⟩
      obtain ⟨k, hk⟩ : ∃ k, q + j = k := ⟨_, rfl⟩
      obtain rfl : i = (k : Int) := by have := HI.out; omega
      have hkq : q ≤ k := by omega
      have hks : k < s.size := by omega
      obtain ⟨y, hy⟩ : ∃ y, s[k].toNat = y := ⟨_, rfl⟩
      have hy256 : y < 256 := by rw [← hy]; exact s[k].toNat_lt
      have hjl : j < d.length := by rw [HD2.out]; omega
      have hlx : lv (d.drop (j + 1)) < 562949953421312 := by
        have h1 := lv_lt (d.drop (j + 1))
        rw [List.length_drop] at h1
        have h2 : 128 ^ (d.length - (j + 1)) ≤ 128 ^ 7 := Nat.pow_le_pow_right (by decide) (by rw [HD2.out]; omega)
        omega
      obtain ⟨z, hz⟩ : ∃ z, y % 128 = z := ⟨_, rfl⟩
      have hz128 : z < 128 := by omega
      have HL : Hid (lv (d.drop j) = z + 128 * lv (d.drop (j + 1))) := Lib.hid (by
        rw [List.drop_eq_getElem_cons hjl, lv, HD3.out j hjl (by omega)]
        subst hk
        rw [hy, hz])
      generalize lv (d.drop (j + 1)) = X at hlx HL fh49
      obtain ⟨X1, hX1⟩ : ∃ X1, 128 * X = X1 := ⟨_, rfl⟩
      have rm : (128 : Int) * (X : Int) = (X1 : Int) := by omega
      have rz : (y : Int).tmod 128 = (z : Int) := by rw [Int.tmod_eq_emod_of_nonneg (by omega)]; omega
      obtain ⟨X2, hX2⟩ : ∃ X2, X1 + z = X2 := ⟨_, rfl⟩
      have ra : (X1 : Int) + (z : Int) = (X2 : Int) := by omega
      have hX2b : X2 < 72057594037927936 := by omega
      have HX2 := Lib.hid hX2
      have hX1b : X1 < 72057594037927936 := by omega
      have HX1 := Lib.hid hX1
      have HK := Lib.hid hk
      have rk : (k : Int) - 1 + 1 = (k : Int) := by omega
      clear hX1 hX2 hz hk
      refine wp_seq_k fun K19 hK19 => ?_
      refine wp_seq_k fun K20 hK20 => ?_
      refine wp_region_lit ?_
      refine Kn.pure fh49 rfl rfl .none (Kn.ex_move fh49 (.tmp rfl)) fun fa50 fh50 => ?_
      clear fh49 fa49
      refine Kn.pure fh50 rfl rfl .none (Kn.ex_move fh50 (.tmp rfl)) fun fa51 fh51 => ?_
      clear fh50 fa50
      refine Kn.step fh51 rfl rfl .none (Kn.ex_bin fh51 (.tmp rfl) (.tmp rfl)) fun Ko hKo => ?_
      go_simp
      try go_bits
      refine hKo _ _ fun fa52 fh52 => ?_
      clear hKo Ko fh51 fa51
      refine wpList_nil ?_
      refine hK20 _ _ ?_
      clear hK20 K20
      replace fh52 := fh52.cut (.cons (t := 68) rfl (.cons (t := 7) rfl (.cons (t := 6) rfl (.cons (t := 5) rfl (.cons (t := 0) rfl (.cons (t := 1) rfl (.cons (t := 4) rfl .nil)))))))
      refine Kn.yes fh52 (.tmp rfl) ?_
      refine wp_skip ?_
      refine hK19 _ _ ?_
      clear hK19 K19
      replace fh52 := fh52.cut (.cons (t := 7) rfl (.cons (t := 6) rfl (.cons (t := 5) rfl (.cons (t := 0) rfl (.cons (t := 1) rfl (.cons (t := 4) rfl .nil))))))
      refine wp_seq_k fun K21 hK21 => ?_
      refine wp_block ?_
      refine wp_region_lit ?_
      refine Kn.pure fh52 rfl rfl .none (Kn.ex_move fh52 (.tmp rfl)) fun fa53 fh53 => ?_
      clear fh52 fa52
      refine Kn.step fh53 rfl rfl .none (Kn.ex_bin fh53 .const (.tmp rfl)) fun Ko hKo => ?_
      go_simp
      try go_bits
      try rw [rm]
      try go_simp
      try go_bits
      refine hKo _ _ fun fa54 fh54 => ?_
      clear hKo Ko fh53 fa53
      refine Kn.pure fh54 rfl rfl .none (Kn.ex_move fh54 (.tmp rfl)) fun fa55 fh55 => ?_
      clear fh54 fa54
      refine Kn.pure fh55 rfl rfl .none (Kn.ex_move fh55 (.tmp rfl)) fun fa56 fh56 => ?_
      clear fh55 fa55
      refine Kn.step fh56 rfl rfl .none (Kn.ex_index fh56 (.tmp rfl) (.tmp rfl)) fun Ko hKo => ?_
      go_simp
      try go_bits
      refine hKo _ _ fun fa57 fh57 => ?_
      clear hKo Ko fh56 fa56
      refine Kn.step fh57 rfl rfl .none (Kn.ex_convert fh57 (.tmp rfl)) fun Ko hKo => ?_
      go_simp
      try go_bits
      refine hKo _ _ fun fa58 fh58 => ?_
      clear hKo Ko fh57 fa57
      refine Kn.step fh58 rfl rfl .none (Kn.ex_bin fh58 (.tmp rfl) .const) fun Ko hKo => ?_
      go_simp
      try go_bits
      try rw [rz]
      try go_simp
      try go_bits
      refine hKo _ _ fun fa59 fh59 => ?_
      clear hKo Ko fh58 fa58
      refine Kn.step fh59 rfl rfl .none (Kn.ex_bin fh59 (.tmp rfl) (.tmp rfl)) fun Ko hKo => ?_
      go_simp
      try go_bits
      try rw [ra]
      try go_simp
      try go_bits
      refine hKo _ _ fun fa60 fh60 => ?_
      clear hKo Ko fh59 fa59
      refine Kn.pure fh60 rfl rfl .none (Kn.ex_assign fh60 (.tmp rfl)) fun fa61 fh61 => ?_
      clear fh60 fa60
      refine wpList_nil ?_
      refine Kn.block_normal ?_
      refine hK21 _ _ ?_
      clear hK21 K21
      replace fh61 := fh61.cut (.cons (t := 6) rfl (.cons (t := 7) rfl (.cons (t := 5) rfl (.cons (t := 0) rfl (.cons (t := 1) rfl (.cons (t := 4) rfl .nil))))))
      clear hy rm rz ra
      refine wp_region_lit ?_
      refine Kn.pure fh61 rfl rfl .none (Kn.ex_move fh61 (.tmp rfl)) fun fa62 fh62 => ?_
      clear fh61 fa61
      refine Kn.step fh62 rfl rfl .none (Kn.ex_bin fh62 (.tmp rfl) .const) fun Ko hKo => ?_
      go_simp
      try go_bits
      refine hKo _ _ fun fa63 fh63 => ?_
      clear hKo Ko fh62 fa62
      refine Kn.pure fh63 rfl rfl .none (Kn.ex_assign fh63 (.tmp rfl)) fun fa64 fh64 => ?_
      clear fh63 fa63
      refine wpList_nil ?_
      replace fh64 := fh64.cut (.cons (t := 7) rfl (.cons (t := 6) rfl (.cons (t := 5) rfl (.cons (t := 0) rfl (.cons (t := 1) rfl (.cons (t := 4) rfl .nil))))))
      exact hKl18 (m18 - 1) _ _ (by omega) ⟨j, (k : Int) - 1, fh64.cut (.cons (t := 7) rfl (.turn (t := 6) rfl (by rw [HL.out, HX1.out, Nat.add_comm, HX2.out]) (.cons (t := 5) rfl (.cons (t := 0) rfl (.cons (t := 1) rfl (.cons (t := 4) rfl .nil)))))), by omega, by omega, Lib.hid (by have := HK.out; omega), rfl⟩
    have hxi : (128 : Int) ≤ (x : Int) := by omega
    obtain ⟨q8, hq8⟩ : ∃ q8, q + 8 = q8 := ⟨_, rfl⟩
    have r8 : (q : Int) + 8 = (q8 : Int) := by omega
    by_cases h8 : n < q8
    · have h8' : n < q + 8 := by omega
      have HQ8 := Lib.hid hq8
      clear hq8
      refine wp_seq_k fun K7 hK7 => ?_
      refine wp_seq_k fun K8 hK8 => ?_
      refine wp_region_lit ?_
      refine Kn.pure fh12 rfl rfl .none (Kn.ex_move fh12 (.tmp rfl)) fun fa13 fh13 => ?_
      clear fh12 fa12
      refine Kn.pure fh13 rfl rfl .none (Kn.ex_move fh13 (.tmp rfl)) fun fa14 fh14 => ?_
      clear fh13 fa13
      refine Kn.step fh14 rfl rfl .none (Kn.ex_len fh14 (.tmp rfl)) fun Ko hKo => ?_
      go_simp
      try go_bits
      refine hKo _ _ fun fa15 fh15 => ?_
      clear hKo Ko fh14 fa14
      refine Kn.step fh15 rfl rfl .none (Kn.ex_bin fh15 (.tmp rfl) (.tmp rfl)) fun Ko hKo => ?_
      go_simp
      try go_bits
      refine hKo _ _ fun fa16 fh16 => ?_
      clear hKo Ko fh15 fa15
      refine Kn.pure fh16 rfl rfl .none (Kn.ex_move fh16 (.tmp rfl)) fun fa17 fh17 => ?_
      clear fh16 fa16
      refine Kn.pure fh17 rfl rfl (.some rfl rfl rfl) (Kn.ex_move fh17 (.tmp rfl)) fun fa18 fh18 => ?_
      clear fh17 fa17
      refine Kn.pure fh18 rfl rfl (.some rfl rfl rfl) (Kn.ex_move fh18 (.tmp rfl)) fun fa19 fh19 => ?_
      clear fh18 fa18
      refine Kn.step fh19 rfl rfl (.some rfl rfl rfl) (Kn.ex_index fh19 (.tmp rfl) (.tmp rfl)) fun Ko hKo => ?_
      go_simp
      try go_bits
      refine hKo _ _ fun fa20 fh20 => ?_
      clear hKo Ko fh19 fa19
      refine Kn.step fh20 rfl rfl (.some rfl rfl rfl) (Kn.ex_bin fh20 (.tmp rfl) .const) fun Ko hKo => ?_
      go_simp
      try go_bits
      refine hKo _ _ fun fa21 fh21 => ?_
      clear hKo Ko fh20 fa20
      refine Kn.pure fh21 rfl rfl .none (Kn.ex_pick fh21 (.tmp rfl) (.tmp rfl)) fun fa22 fh22 => ?_
      clear fh21 fa21
      refine Kn.pure fh22 rfl rfl .none (Kn.ex_move fh22 (.tmp rfl)) fun fa23 fh23 => ?_
      clear fh22 fa22
      refine Kn.pure fh23 rfl rfl (.some rfl rfl rfl) (Kn.ex_move fh23 (.tmp rfl)) fun fa24 fh24 => ?_
      clear fh23 fa23
      refine Kn.pure fh24 rfl rfl (.some rfl rfl rfl) (Kn.ex_move fh24 (.tmp rfl)) fun fa25 fh25 => ?_
      clear fh24 fa24
      refine Kn.step fh25 rfl rfl (.some rfl rfl rfl) (Kn.ex_bin fh25 (.tmp rfl) .const) fun Ko hKo => ?_
      go_simp
      try go_bits
      try rw [r8]
      refine hKo _ _ fun fa26 fh26 => ?_
      clear hKo Ko fh25 fa25
      refine Kn.step fh26 rfl rfl (.some rfl rfl rfl) (Kn.ex_bin fh26 (.tmp rfl) (.tmp rfl)) fun Ko hKo => ?_
      go_simp
      try go_bits
      refine hKo _ _ fun fa27 fh27 => ?_
      clear hKo Ko fh26 fa26
      refine Kn.pure fh27 rfl rfl .none (Kn.ex_pick fh27 (.tmp rfl) (.tmp rfl)) fun fa28 fh28 => ?_
      clear fh27 fa27
      refine wpList_nil ?_
      refine hK8 _ _ ?_
      clear hK8 K8
      replace fh28 := fh28.cut (.cons (t := 35) rfl (.cons (t := 5) rfl (.cons (t := 0) rfl (.cons (t := 1) rfl (.cons (t := 4) rfl .nil)))))
      refine Kn.yes fh28 (.tmp rfl) ?_
      refine wp_skip ?_
      refine hK7 _ _ ?_
      clear hK7 K7
      replace fh28 := fh28.cut (.cons (t := 5) rfl (.cons (t := 0) rfl (.cons (t := 1) rfl (.cons (t := 4) rfl .nil))))
      refine wp_block ?_
      clear hxi hx r8
      have HN2 : Hid (∀ j (h : j < s.size), q ≤ j → j < n + 1 → 128 ≤ s[j].toNat) := Lib.hid (fun j h h1 h2 => by
        rcases Nat.lt_or_ge j n with h' | h'
        · exact HN.out j h h1 h'
        · have e : j = n := by omega
          subst e
          rw [HX.out]; omega)
      refine wp_region_lit ?_
      refine Kn.pure fh28 rfl rfl .none (Kn.ex_move fh28 (.tmp rfl)) fun fa29 fh29 => ?_
      clear fh28 fa28
      refine Kn.step fh29 rfl rfl .none (Kn.ex_bin fh29 (.tmp rfl) .const) fun Ko hKo => ?_
      go_simp
      try go_bits
      refine hKo _ _ fun fa30 fh30 => ?_
      clear hKo Ko fh29 fa29
      refine Kn.pure fh30 rfl rfl .none (Kn.ex_assign fh30 (.tmp rfl)) fun fa31 fh31 => ?_
      clear fh30 fa30
      refine wpList_nil ?_
      refine Kn.block_normal ?_
      replace fh31 := fh31.cut (.cons (t := 5) rfl (.cons (t := 0) rfl (.cons (t := 1) rfl (.cons (t := 4) rfl .nil))))
      exact hKl6 (m6 - 1) _ _ (by omega) ⟨n + 1, fh31.cut (.turn (t := 5) rfl (by go_num) (.cons (t := 0) rfl (.cons (t := 1) rfl (.cons (t := 4) rfl .nil)))), by omega, by omega, by omega, HN2, rfl⟩
    have HQ8 := Lib.hid hq8
    clear hq8
    refine wp_seq_k fun K7 hK7 => ?_
    refine wp_seq_k fun K8 hK8 => ?_
    refine wp_region_lit ?_
    refine Kn.pure fh12 rfl rfl .none (Kn.ex_move fh12 (.tmp rfl)) fun fa13 fh13 => ?_
    clear fh12 fa12
    refine Kn.pure fh13 rfl rfl .none (Kn.ex_move fh13 (.tmp rfl)) fun fa14 fh14 => ?_
    clear fh13 fa13
    refine Kn.step fh14 rfl rfl .none (Kn.ex_len fh14 (.tmp rfl)) fun Ko hKo => ?_
    go_simp
    try go_bits
    refine hKo _ _ fun fa15 fh15 => ?_
    clear hKo Ko fh14 fa14
    refine Kn.step fh15 rfl rfl .none (Kn.ex_bin fh15 (.tmp rfl) (.tmp rfl)) fun Ko hKo => ?_
    go_simp
    try go_bits
    refine hKo _ _ fun fa16 fh16 => ?_
    clear hKo Ko fh15 fa15
    refine Kn.pure fh16 rfl rfl .none (Kn.ex_move fh16 (.tmp rfl)) fun fa17 fh17 => ?_
    clear fh16 fa16
    refine Kn.pure fh17 rfl rfl (.some rfl rfl rfl) (Kn.ex_move fh17 (.tmp rfl)) fun fa18 fh18 => ?_
    clear fh17 fa17
    refine Kn.pure fh18 rfl rfl (.some rfl rfl rfl) (Kn.ex_move fh18 (.tmp rfl)) fun fa19 fh19 => ?_
    clear fh18 fa18
    refine Kn.step fh19 rfl rfl (.some rfl rfl rfl) (Kn.ex_index fh19 (.tmp rfl) (.tmp rfl)) fun Ko hKo => ?_
    go_simp
    try go_bits
    refine hKo _ _ fun fa20 fh20 => ?_
    clear hKo Ko fh19 fa19
    refine Kn.step fh20 rfl rfl (.some rfl rfl rfl) (Kn.ex_bin fh20 (.tmp rfl) .const) fun Ko hKo => ?_
    go_simp
    try go_bits
    refine hKo _ _ fun fa21 fh21 => ?_
    clear hKo Ko fh20 fa20
    refine Kn.pure fh21 rfl rfl .none (Kn.ex_pick fh21 (.tmp rfl) (.tmp rfl)) fun fa22 fh22 => ?_
    clear fh21 fa21
    refine Kn.pure fh22 rfl rfl .none (Kn.ex_move fh22 (.tmp rfl)) fun fa23 fh23 => ?_
    clear fh22 fa22
    refine Kn.pure fh23 rfl rfl (.some rfl rfl rfl) (Kn.ex_move fh23 (.tmp rfl)) fun fa24 fh24 => ?_
    clear fh23 fa23
    refine Kn.pure fh24 rfl rfl (.some rfl rfl rfl) (Kn.ex_move fh24 (.tmp rfl)) fun fa25 fh25 => ?_
    clear fh24 fa24
    refine Kn.step fh25 rfl rfl (.some rfl rfl rfl) (Kn.ex_bin fh25 (.tmp rfl) .const) fun Ko hKo => ?_
    go_simp
    try go_bits
    try rw [r8]
    refine hKo _ _ fun fa26 fh26 => ?_
    clear hKo Ko fh25 fa25
    refine Kn.step fh26 rfl rfl (.some rfl rfl rfl) (Kn.ex_bin fh26 (.tmp rfl) (.tmp rfl)) fun Ko hKo => ?_
    go_simp
    try go_bits
    refine hKo _ _ fun fa27 fh27 => ?_
    clear hKo Ko fh26 fa26
    refine Kn.pure fh27 rfl rfl .none (Kn.ex_pick fh27 (.tmp rfl) (.tmp rfl)) fun fa28 fh28 => ?_
    clear fh27 fa27
    refine wpList_nil ?_
    refine hK8 _ _ ?_
    clear hK8 K8
    replace fh28 := fh28.cut (.cons (t := 35) rfl (.cons (t := 5) rfl (.cons (t := 0) rfl (.cons (t := 1) rfl (.cons (t := 4) rfl .nil)))))
    refine Kn.no fh28 (.tmp rfl) ?_
    replace fh28 := fh28.cut (.cons (t := 5) rfl (.cons (t := 0) rfl (.cons (t := 1) rfl (.cons (t := 4) rfl .nil))))
    refine wp_exit ?_
    refine Kn.then_exit ?_
    clear hK7 K7
    refine Kn.then_exit ?_
    clear hKl6 Kl6
    refine Kn.block_exit ?_
    refine hK5 _ _ ?_
    clear hK5 K5
    clear hxi hx r8
    have h8b : n = q + 8 := by have := HQ8.out; omega
    clear h8
    have HR : Hid (gotS s q = #[.int .i64 0, .int .i64 (q : Int), .int .i64 4, .int .i64 (q : Int)]) := Lib.hid (got_4 (by
      obtain ⟨hs, e1, e2, e3, _⟩ := split_hs s q n hqn hns HN.out
      rw [e1]
      exact rd_out hs _ e3 (by omega)))
    have e8 : ((n : Int) == (q : Int) + 8) = true := by rw [beq_iff_eq]; omega
    refine wp_seq_k fun K9 hK9 => ?_
    refine wp_seq_k fun K10 hK10 => ?_
    refine wp_region_lit ?_
    refine Kn.pure fh28 rfl rfl .none (Kn.ex_move fh28 (.tmp rfl)) fun fa29 fh29 => ?_
    clear fh28 fa28
    refine Kn.pure fh29 rfl rfl .none (Kn.ex_move fh29 (.tmp rfl)) fun fa30 fh30 => ?_
    clear fh29 fa29
    refine Kn.step fh30 rfl rfl .none (Kn.ex_bin fh30 (.tmp rfl) .const) fun Ko hKo => ?_
    go_simp
    try go_bits
    refine hKo _ _ fun fa31 fh31 => ?_
    clear hKo Ko fh30 fa30
    refine Kn.step fh31 rfl rfl .none (Kn.ex_bin fh31 (.tmp rfl) (.tmp rfl)) fun Ko hKo => ?_
    go_simp
    try go_bits
    refine hKo _ _ fun fa32 fh32 => ?_
    clear hKo Ko fh31 fa31
    refine wpList_nil ?_
    refine hK10 _ _ ?_
    clear hK10 K10
    replace fh32 := fh32.cut (.cons (t := 41) rfl (.cons (t := 5) rfl (.cons (t := 0) rfl (.cons (t := 1) rfl (.cons (t := 4) rfl .nil)))))
    refine Kn.yes fh32 (.tmp rfl) ?_
    replace fh32 := fh32.cut (.cons (t := 5) rfl (.cons (t := 0) rfl (.cons (t := 1) rfl (.cons (t := 4) rfl .nil))))
    obtain ⟨hst, hS2, hB2⟩ := HS.out.store (P := Tryd.prog) (cells := #[.int .i64 0, .int .i64 (q : Int), .int .i64 4, .int .i64 (q : Int)]) (by kernel_rfl) rfl (by simp [Value.oneCell'])
    refine wp_seq_k fun K11 hK11 => ?_
    refine wp_region_lit ?_
    refine Kn.pure fh32 rfl rfl .none (Kn.ex_move fh32 (.tmp rfl)) fun fa33 fh33 => ?_
    clear fh32 fa32
    refine Kn.pure fh33 rfl rfl .none (Kn.ex_move fh33 (.tmp rfl)) fun fa34 fh34 => ?_
    clear fh33 fa33
    refine Kn.step fh34 rfl rfl .none (Kn.ex_build fh34 (.cons (.tmp rfl) (.cons .const (.cons (.tmp rfl) .nil)))) fun Ko hKo => ?_
    go_simp
    try go_bits
    refine hKo _ _ fun fa35 fh35 => ?_
    clear hKo Ko fh34 fa34
    refine Kn.stepU fh35 rfl .none (Kn.ex_store fh35 (.tmp rfl) (.tmp rfl)) fun Ko hKo => ?_
    rw [hst]
    refine hKo _ ?_
    clear hKo Ko
    refine wpList_nil ?_
    refine hK11 _ _ ?_
    clear hK11 K11
    replace fh35 := fh35.cut (.cons (t := 5) rfl (.cons (t := 0) rfl (.cons (t := 1) rfl (.cons (t := 4) rfl .nil))))
    refine wp_ret ?_
    refine Kn.then_ret ?_
    exact Kn.retS fh35 rfl rfl hS2 Tryd.underlying43 rfl (by kernel_rfl) ⟨by rw [HR.out], HB.out.trans (hB2 _ (Nat.le_refl _))⟩
  obtain rfl : n = s.size := by omega
  refine wp_seq_k fun K7 hK7 => ?_
  refine wp_seq_k fun K8 hK8 => ?_
  refine wp_region_lit ?_
  refine Kn.pure fh12 rfl rfl .none (Kn.ex_move fh12 (.tmp rfl)) fun fa13 fh13 => ?_
  clear fh12 fa12
  refine Kn.pure fh13 rfl rfl .none (Kn.ex_move fh13 (.tmp rfl)) fun fa14 fh14 => ?_
  clear fh13 fa13
  refine Kn.step fh14 rfl rfl .none (Kn.ex_len fh14 (.tmp rfl)) fun Ko hKo => ?_
  go_simp
  try go_bits
  refine hKo _ _ fun fa15 fh15 => ?_
  clear hKo Ko fh14 fa14
  refine Kn.step fh15 rfl rfl .none (Kn.ex_bin fh15 (.tmp rfl) (.tmp rfl)) fun Ko hKo => ?_
  go_simp
  try go_bits
  refine hKo _ _ fun fa16 fh16 => ?_
  clear hKo Ko fh15 fa15
  refine Kn.pure fh16 rfl rfl .none (Kn.ex_move fh16 (.tmp rfl)) fun fa17 fh17 => ?_
  clear fh16 fa16
  refine Kn.skip fh17 rfl rfl (.some rfl rfl rfl) fun fa18 fh18 => ?_
  clear fh17 fa17
  refine Kn.skip fh18 rfl rfl (.some rfl rfl rfl) fun fa19 fh19 => ?_
  clear fh18 fa18
  refine Kn.skip fh19 rfl rfl (.some rfl rfl rfl) fun fa20 fh20 => ?_
  clear fh19 fa19
  refine Kn.skip fh20 rfl rfl (.some rfl rfl rfl) fun fa21 fh21 => ?_
  clear fh20 fa20
  refine Kn.pure fh21 rfl rfl .none (Kn.ex_pick fh21 (.tmp rfl) .const) fun fa22 fh22 => ?_
  clear fh21 fa21
  refine Kn.pure fh22 rfl rfl .none (Kn.ex_move fh22 (.tmp rfl)) fun fa23 fh23 => ?_
  clear fh22 fa22
  refine Kn.skip fh23 rfl rfl (.some rfl rfl rfl) fun fa24 fh24 => ?_
  clear fh23 fa23
  refine Kn.skip fh24 rfl rfl (.some rfl rfl rfl) fun fa25 fh25 => ?_
  clear fh24 fa24
  refine Kn.skip fh25 rfl rfl (.some rfl rfl rfl) fun fa26 fh26 => ?_
  clear fh25 fa25
  refine Kn.skip fh26 rfl rfl (.some rfl rfl rfl) fun fa27 fh27 => ?_
  clear fh26 fa26
  refine Kn.pure fh27 rfl rfl .none (Kn.ex_pick fh27 (.tmp rfl) .const) fun fa28 fh28 => ?_
  clear fh27 fa27
  refine wpList_nil ?_
  refine hK8 _ _ ?_
  clear hK8 K8
  replace fh28 := fh28.cut (.cons (t := 35) rfl (.cons (t := 5) rfl (.cons (t := 0) rfl (.cons (t := 1) rfl (.cons (t := 4) rfl .nil)))))
  refine Kn.no fh28 (.tmp rfl) ?_
  replace fh28 := fh28.cut (.cons (t := 5) rfl (.cons (t := 0) rfl (.cons (t := 1) rfl (.cons (t := 4) rfl .nil))))
  refine wp_exit ?_
  refine Kn.then_exit ?_
  clear hK7 K7
  refine Kn.then_exit ?_
  clear hKl6 Kl6
  refine Kn.block_exit ?_
  refine hK5 _ _ ?_
  clear hK5 K5
  by_cases h8 : s.size = q + 8
  · have HR : Hid (gotS s q = #[.int .i64 0, .int .i64 (q : Int), .int .i64 4, .int .i64 (q : Int)]) := Lib.hid (got_4 (by
      obtain ⟨hs, e1, e2, e3, _⟩ := split_hs s q s.size hqn hns HN.out
      rw [e1]
      exact rd_out hs _ e3 (by omega)))
    have e8 : ((s.size : Int) == (q : Int) + 8) = true := by rw [beq_iff_eq]; omega
    refine wp_seq_k fun K9 hK9 => ?_
    refine wp_seq_k fun K10 hK10 => ?_
    refine wp_region_lit ?_
    refine Kn.pure fh28 rfl rfl .none (Kn.ex_move fh28 (.tmp rfl)) fun fa29 fh29 => ?_
    clear fh28 fa28
    refine Kn.pure fh29 rfl rfl .none (Kn.ex_move fh29 (.tmp rfl)) fun fa30 fh30 => ?_
    clear fh29 fa29
    refine Kn.step fh30 rfl rfl .none (Kn.ex_bin fh30 (.tmp rfl) .const) fun Ko hKo => ?_
    go_simp
    try go_bits
    refine hKo _ _ fun fa31 fh31 => ?_
    clear hKo Ko fh30 fa30
    refine Kn.step fh31 rfl rfl .none (Kn.ex_bin fh31 (.tmp rfl) (.tmp rfl)) fun Ko hKo => ?_
    go_simp
    try go_bits
    refine hKo _ _ fun fa32 fh32 => ?_
    clear hKo Ko fh31 fa31
    refine wpList_nil ?_
    refine hK10 _ _ ?_
    clear hK10 K10
    replace fh32 := fh32.cut (.cons (t := 41) rfl (.cons (t := 5) rfl (.cons (t := 0) rfl (.cons (t := 1) rfl (.cons (t := 4) rfl .nil)))))
    refine Kn.yes fh32 (.tmp rfl) ?_
    replace fh32 := fh32.cut (.cons (t := 5) rfl (.cons (t := 0) rfl (.cons (t := 1) rfl (.cons (t := 4) rfl .nil))))
    obtain ⟨hst, hS2, hB2⟩ := HS.out.store (P := Tryd.prog) (cells := #[.int .i64 0, .int .i64 (q : Int), .int .i64 4, .int .i64 (q : Int)]) (by kernel_rfl) rfl (by simp [Value.oneCell'])
    refine wp_seq_k fun K11 hK11 => ?_
    refine wp_region_lit ?_
    refine Kn.pure fh32 rfl rfl .none (Kn.ex_move fh32 (.tmp rfl)) fun fa33 fh33 => ?_
    clear fh32 fa32
    refine Kn.pure fh33 rfl rfl .none (Kn.ex_move fh33 (.tmp rfl)) fun fa34 fh34 => ?_
    clear fh33 fa33
    refine Kn.step fh34 rfl rfl .none (Kn.ex_build fh34 (.cons (.tmp rfl) (.cons .const (.cons (.tmp rfl) .nil)))) fun Ko hKo => ?_
    go_simp
    try go_bits
    refine hKo _ _ fun fa35 fh35 => ?_
    clear hKo Ko fh34 fa34
    refine Kn.stepU fh35 rfl .none (Kn.ex_store fh35 (.tmp rfl) (.tmp rfl)) fun Ko hKo => ?_
    rw [hst]
    refine hKo _ ?_
    clear hKo Ko
    refine wpList_nil ?_
    refine hK11 _ _ ?_
    clear hK11 K11
    replace fh35 := fh35.cut (.cons (t := 5) rfl (.cons (t := 0) rfl (.cons (t := 1) rfl (.cons (t := 4) rfl .nil))))
    refine wp_ret ?_
    refine Kn.then_ret ?_
    exact Kn.retS fh35 rfl rfl hS2 Tryd.underlying43 rfl (by kernel_rfl) ⟨by rw [HR.out], HB.out.trans (hB2 _ (Nat.le_refl _))⟩
  have e8 : ((s.size : Int) == (q : Int) + 8) = false := by rw [beq_eq_false_iff_ne]; omega
  have HR : Hid (gotS s q = #[.int .i64 0, .int .i64 (q : Int), .int .i64 3, .int .i64 (s.size : Int)]) := Lib.hid (got_3 (by
    obtain ⟨hs, e1, e2, e3, _⟩ := split_hs s q s.size hqn hns HN.out
    rw [e1, show s.data.toList.drop s.size = [] from List.drop_of_length_le (Nat.le_refl _), List.append_nil]
    exact rd_end hs e3 (by omega)))
  refine wp_seq_k fun K9 hK9 => ?_
  refine wp_seq_k fun K10 hK10 => ?_
  refine wp_region_lit ?_
  refine Kn.pure fh28 rfl rfl .none (Kn.ex_move fh28 (.tmp rfl)) fun fa29 fh29 => ?_
  clear fh28 fa28
  refine Kn.pure fh29 rfl rfl .none (Kn.ex_move fh29 (.tmp rfl)) fun fa30 fh30 => ?_
  clear fh29 fa29
  refine Kn.step fh30 rfl rfl .none (Kn.ex_bin fh30 (.tmp rfl) .const) fun Ko hKo => ?_
  go_simp
  try go_bits
  refine hKo _ _ fun fa31 fh31 => ?_
  clear hKo Ko fh30 fa30
  refine Kn.step fh31 rfl rfl .none (Kn.ex_bin fh31 (.tmp rfl) (.tmp rfl)) fun Ko hKo => ?_
  go_simp
  try go_bits
  refine hKo _ _ fun fa32 fh32 => ?_
  clear hKo Ko fh31 fa31
  refine wpList_nil ?_
  refine hK10 _ _ ?_
  clear hK10 K10
  replace fh32 := fh32.cut (.cons (t := 41) rfl (.cons (t := 5) rfl (.cons (t := 0) rfl (.cons (t := 1) rfl (.cons (t := 4) rfl .nil)))))
  refine Kn.no fh32 (.tmp rfl) ?_
  refine wp_skip ?_
  refine hK9 _ _ ?_
  clear hK9 K9
  replace fh32 := fh32.cut (.cons (t := 5) rfl (.cons (t := 0) rfl (.cons (t := 1) rfl (.cons (t := 4) rfl .nil))))
  clear e8
  refine wp_seq_k fun K11 hK11 => ?_
  refine wp_seq_k fun K12 hK12 => ?_
  refine wp_region_lit ?_
  refine Kn.pure fh32 rfl rfl .none (Kn.ex_move fh32 (.tmp rfl)) fun fa33 fh33 => ?_
  clear fh32 fa32
  refine Kn.pure fh33 rfl rfl .none (Kn.ex_move fh33 (.tmp rfl)) fun fa34 fh34 => ?_
  clear fh33 fa33
  refine Kn.step fh34 rfl rfl .none (Kn.ex_len fh34 (.tmp rfl)) fun Ko hKo => ?_
  go_simp
  try go_bits
  refine hKo _ _ fun fa35 fh35 => ?_
  clear hKo Ko fh34 fa34
  refine Kn.step fh35 rfl rfl .none (Kn.ex_bin fh35 (.tmp rfl) (.tmp rfl)) fun Ko hKo => ?_
  go_simp
  try go_bits
  refine hKo _ _ fun fa36 fh36 => ?_
  clear hKo Ko fh35 fa35
  refine wpList_nil ?_
  refine hK12 _ _ ?_
  clear hK12 K12
  replace fh36 := fh36.cut (.cons (t := 48) rfl (.cons (t := 5) rfl (.cons (t := 0) rfl (.cons (t := 1) rfl (.cons (t := 4) rfl .nil)))))
  refine Kn.yes fh36 (.tmp rfl) ?_
  replace fh36 := fh36.cut (.cons (t := 5) rfl (.cons (t := 0) rfl (.cons (t := 1) rfl (.cons (t := 4) rfl .nil))))
  obtain ⟨hst, hS2, hB2⟩ := HS.out.store (P := Tryd.prog) (cells := #[.int .i64 0, .int .i64 (q : Int), .int .i64 3, .int .i64 (s.size : Int)]) (by kernel_rfl) rfl (by simp [Value.oneCell'])
  refine wp_seq_k fun K13 hK13 => ?_
  refine wp_region_lit ?_
  refine Kn.pure fh36 rfl rfl .none (Kn.ex_move fh36 (.tmp rfl)) fun fa37 fh37 => ?_
  clear fh36 fa36
  refine Kn.pure fh37 rfl rfl .none (Kn.ex_move fh37 (.tmp rfl)) fun fa38 fh38 => ?_
  clear fh37 fa37
  refine Kn.step fh38 rfl rfl .none (Kn.ex_len fh38 (.tmp rfl)) fun Ko hKo => ?_
  go_simp
  try go_bits
  refine hKo _ _ fun fa39 fh39 => ?_
  clear hKo Ko fh38 fa38
  refine Kn.step fh39 rfl rfl .none (Kn.ex_build fh39 (.cons (.tmp rfl) (.cons .const (.cons (.tmp rfl) .nil)))) fun Ko hKo => ?_
  go_simp
  try go_bits
  refine hKo _ _ fun fa40 fh40 => ?_
  clear hKo Ko fh39 fa39
  refine Kn.stepU fh40 rfl .none (Kn.ex_store fh40 (.tmp rfl) (.tmp rfl)) fun Ko hKo => ?_
  rw [hst]
  refine hKo _ ?_
  clear hKo Ko
  refine wpList_nil ?_
  refine hK13 _ _ ?_
  clear hK13 K13
  replace fh40 := fh40.cut (.cons (t := 5) rfl (.cons (t := 0) rfl (.cons (t := 1) rfl (.cons (t := 4) rfl .nil))))
  refine wp_ret ?_
  refine Kn.then_ret ?_
  exact Kn.retS fh40 rfl rfl hS2 Tryd.underlying43 rfl (by kernel_rfl) ⟨by rw [HR.out], HB.out.trans (hB2 _ (Nat.le_refl _))⟩

end Go.Proofs.YtoggeiaofpdboaaDoor.Oct
