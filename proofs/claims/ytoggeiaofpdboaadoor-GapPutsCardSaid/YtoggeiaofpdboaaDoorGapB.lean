/- Contracts of the program's gap: step, Get (written by gen_gapb.py). -/
import Derived.Test.YtoggeiaofpdboaaDoorGapA
namespace Go.Proofs.YtoggeiaofpdboaaDoor.Gap
open Go Go.RowKit Go.Lib Oct Num


set_option maxRecDepth 100000 in
set_option maxHeartbeats 2000000 in
theorem step_first (s : ByteArray) (p v : Int) (A : Option Addr) (c : Nat) (w : World) (hs : s.size ≤ maxLen) (hv0 : 0 ≤ v) (hv1 : v ≤ 4096) :
    Calls Tryd.prog 27 #[.string s, .int .i64 p, .int .i64 v, .slice A 0 c] w fun e w' => e = .returned (.tuple #[.int .i64 (v + bkI (rdG s p).1), .int .i64 (rdG s p).2.1, gE (rdG s p).2.2.1 (rdG s p).2.2.2]) ∧ w = w' := by
  rcases hg : rdG s p with ⟨x, nx, e, a⟩
  have hx : 0 ≤ x ∧ x ≤ 72057594037927935 := by
    by_cases he : e = 0
    · subst he; exact (rdG_ok hg).1
    · have := (rdG_bad hg he).1; omega
  refine Kn.calls Tryd.func27 rfl Tryd.ntmps27 rfl (.cons (t := 0) rfl (.cons (t := 1) rfl (.cons (t := 2) rfl (.cons (t := 3) rfl .nil)))) fun fa0 fh0 => ?_
  refine wp_seq_k fun K1 hK1 => ?_
  refine wp_region_lit ?_
  refine Kn.pure fh0 rfl rfl .none (Kn.ex_assign fh0 .const) fun fa1 fh1 => ?_
  clear fh0 fa0
  refine Kn.pure fh1 rfl rfl .none (Kn.ex_assign fh1 .const) fun fa2 fh2 => ?_
  clear fh1 fa1
  refine Kn.pure fh2 rfl rfl .none (Kn.ex_assign fh2 .const) fun fa3 fh3 => ?_
  clear fh2 fa2
  refine wpList_nil ?_
  refine hK1 _ _ ?_
  clear hK1 K1
  have hsh := turned_g s p w hs
  rw [hg] at hsh
  simp only at hsh
  obtain ⟨b, hb⟩ : ∃ b, bkI x = b := ⟨_, rfl⟩
  have hbb : -72057594037927936 ≤ b ∧ b ≤ 72057594037927936 := by rw [← hb]; unfold bkI; split <;> omega
  obtain ⟨t, ht⟩ : ∃ t, v + b = t := ⟨_, rfl⟩
  have htb : -72057594037927936 ≤ t ∧ t ≤ 72057594037932032 := by omega
  rw [hb] at hsh
  simp only [hb]
  rw [ht]
  clear hg hb hx
  refine wp_seq_k fun K2 hK2 => ?_
  refine wp_seq_k fun K3 hK3 => ?_
  refine wp_region_lit ?_
  refine Kn.pure fh3 rfl rfl .none (Kn.ex_move fh3 (.tmp rfl)) fun fa4 fh4 => ?_
  clear fh3 fa3
  refine Kn.step fh4 rfl rfl .none (Kn.ex_len fh4 (.tmp rfl)) fun Ko hKo => ?_
  go_simp
  try go_bits
  refine hKo _ _ fun fa5 fh5 => ?_
  clear hKo Ko fh4 fa4
  refine Kn.step fh5 rfl rfl .none (Kn.ex_bin fh5 (.tmp rfl) .const) fun Ko hKo => ?_
  go_simp
  try go_bits
  refine hKo _ _ fun fa6 fh6 => ?_
  clear hKo Ko fh5 fa5
  refine wpList_nil ?_
  refine hK3 _ _ ?_
  clear hK3 K3
  replace fh6 := fh6.cut (.cons (t := 19) rfl (.cons (t := 10) rfl (.cons (t := 9) rfl (.cons (t := 8) rfl (.cons (t := 0) rfl (.cons (t := 1) rfl (.cons (t := 2) rfl (.cons (t := 3) rfl .nil))))))))
  refine Kn.yes fh6 (.tmp rfl) ?_
  replace fh6 := fh6.cut (.cons (t := 10) rfl (.cons (t := 9) rfl (.cons (t := 8) rfl (.cons (t := 0) rfl (.cons (t := 1) rfl (.cons (t := 2) rfl (.cons (t := 3) rfl .nil)))))))
  refine wp_seq_k fun K4 hK4 => ?_
  refine wp_region_lit ?_
  refine Kn.pure fh6 rfl rfl .none (Kn.ex_move fh6 (.tmp rfl)) fun fa7 fh7 => ?_
  clear fh6 fa6
  refine Kn.pure fh7 rfl rfl .none (Kn.ex_move fh7 (.tmp rfl)) fun fa8 fh8 => ?_
  clear fh7 fa7
  refine Kn.call fh8 rfl rfl .none (Kn.ex_call fh8 (.cons (.tmp rfl) (.cons (.tmp rfl) .nil))) Tryd.call40 (hsh) fun e w1 hp => ?_
  obtain ⟨rfl, rfl⟩ := hp
  refine ⟨_, rfl, fun fa9 fh9 => ?_⟩
  clear fh8 fa8
  refine Kn.pure fh9 rfl rfl .none (Kn.ex_move fh9 (.tmp rfl)) fun fa10 fh10 => ?_
  clear fh9 fa9
  refine Kn.pure fh10 rfl rfl .none (Kn.ex_extract fh10 (.tmp rfl) rfl) fun fa11 fh11 => ?_
  clear fh10 fa10
  refine Kn.pure fh11 rfl rfl .none (Kn.ex_extract fh11 (.tmp rfl) rfl) fun fa12 fh12 => ?_
  clear fh11 fa11
  refine Kn.pure fh12 rfl rfl .none (Kn.ex_extract fh12 (.tmp rfl) rfl) fun fa13 fh13 => ?_
  clear fh12 fa12
  refine Kn.pure fh13 rfl rfl .none (Kn.ex_assign fh13 (.tmp rfl)) fun fa14 fh14 => ?_
  clear fh13 fa13
  refine Kn.pure fh14 rfl rfl .none (Kn.ex_assign fh14 (.tmp rfl)) fun fa15 fh15 => ?_
  clear fh14 fa14
  refine Kn.pure fh15 rfl rfl .none (Kn.ex_assign fh15 (.tmp rfl)) fun fa16 fh16 => ?_
  clear fh15 fa15
  refine wpList_nil ?_
  refine hK4 _ _ ?_
  clear hK4 K4
  replace fh16 := fh16.cut (.cons (t := 13) rfl (.cons (t := 12) rfl (.cons (t := 11) rfl (.cons (t := 10) rfl (.cons (t := 9) rfl (.cons (t := 8) rfl (.cons (t := 0) rfl (.cons (t := 1) rfl (.cons (t := 2) rfl (.cons (t := 3) rfl .nil))))))))))
  clear hsh
  refine wp_seq_k fun K5 hK5 => ?_
  refine wp_region_lit ?_
  refine Kn.pure fh16 rfl rfl .none (Kn.ex_move fh16 (.tmp rfl)) fun fa17 fh17 => ?_
  clear fh16 fa16
  refine Kn.pure fh17 rfl rfl .none (Kn.ex_move fh17 (.tmp rfl)) fun fa18 fh18 => ?_
  clear fh17 fa17
  refine Kn.step fh18 rfl rfl .none (Kn.ex_bin fh18 (.tmp rfl) (.tmp rfl)) fun Ko hKo => ?_
  go_simp
  try go_bits
  try rw [ht]
  try go_simp
  try go_bits
  refine hKo _ _ fun fa19 fh19 => ?_
  clear hKo Ko fh18 fa18
  refine Kn.pure fh19 rfl rfl .none (Kn.ex_move fh19 (.tmp rfl)) fun fa20 fh20 => ?_
  clear fh19 fa19
  refine Kn.pure fh20 rfl rfl .none (Kn.ex_move fh20 (.tmp rfl)) fun fa21 fh21 => ?_
  clear fh20 fa20
  refine Kn.pure fh21 rfl rfl .none (Kn.ex_assign fh21 (.tmp rfl)) fun fa22 fh22 => ?_
  clear fh21 fa21
  refine Kn.pure fh22 rfl rfl .none (Kn.ex_assign fh22 (.tmp rfl)) fun fa23 fh23 => ?_
  clear fh22 fa22
  refine Kn.pure fh23 rfl rfl .none (Kn.ex_assign fh23 (.tmp rfl)) fun fa24 fh24 => ?_
  clear fh23 fa23
  refine wpList_nil ?_
  refine hK5 _ _ ?_
  clear hK5 K5
  replace fh24 := fh24.cut (.cons (t := 10) rfl (.cons (t := 9) rfl (.cons (t := 8) rfl (.cons (t := 0) rfl (.cons (t := 1) rfl (.cons (t := 3) rfl .nil))))))
  refine wp_ret ?_
  refine Kn.then_ret ?_
  exact Kn.ret3 fh24 rfl rfl rfl rfl ⟨rfl, rfl⟩

set_option maxRecDepth 100000 in
set_option maxHeartbeats 2000000 in
theorem step_next (s : ByteArray) (p v y : Int) (g o n c : Nat) (w : World) (hs : s.size ≤ maxLen) (hn0 : 0 < n) (hn1 : n ≤ 100000) (hy0 : 0 ≤ y) (hy1 : y ≤ 4096) (hc : w.cell? ⟨g, o + (n - 1), none⟩ = some (.int .i64 y)) :
    Calls Tryd.prog 27 #[.string s, .int .i64 p, .int .i64 v, .slice (some ⟨g, o, none⟩) n c] w fun e w' => e = .returned (.tuple #[.int .i64 (y + (rdG s p).1 + 1), .int .i64 (rdG s p).2.1, gE (rdG s p).2.2.1 (rdG s p).2.2.2]) ∧ w = w' := by
  rcases hg : rdG s p with ⟨x, nx, e, a⟩
  have hx : 0 ≤ x ∧ x ≤ 72057594037927935 := by
    by_cases he : e = 0
    · subst he; exact (rdG_ok hg).1
    · have := (rdG_bad hg he).1; omega
  refine Kn.calls Tryd.func27 rfl Tryd.ntmps27 rfl (.cons (t := 0) rfl (.cons (t := 1) rfl (.cons (t := 2) rfl (.cons (t := 3) rfl .nil)))) fun fa0 fh0 => ?_
  refine wp_seq_k fun K1 hK1 => ?_
  refine wp_region_lit ?_
  refine Kn.pure fh0 rfl rfl .none (Kn.ex_assign fh0 .const) fun fa1 fh1 => ?_
  clear fh0 fa0
  refine Kn.pure fh1 rfl rfl .none (Kn.ex_assign fh1 .const) fun fa2 fh2 => ?_
  clear fh1 fa1
  refine Kn.pure fh2 rfl rfl .none (Kn.ex_assign fh2 .const) fun fa3 fh3 => ?_
  clear fh2 fa2
  refine wpList_nil ?_
  refine hK1 _ _ ?_
  clear hK1 K1
  have hsh := short_g s p w hs
  rw [hg] at hsh
  simp only at hsh ⊢
  obtain ⟨j, hj⟩ : ∃ j, n = j + 1 := ⟨n - 1, by omega⟩
  have rj : (n : Int) - 1 = (j : Int) := by omega
  have hjn : j < n := by omega
  rw [show n - 1 = j by omega] at hc
  have q0 : ((n : Int) == 0) = false := by rw [beq_eq_false_iff_ne]; omega
  have q1 : (n == 0) = false := by rw [beq_eq_false_iff_ne]; omega
  obtain ⟨t0, ht0⟩ : ∃ t, y + 1 = t := ⟨_, rfl⟩
  obtain ⟨t, ht⟩ : ∃ t, t0 + x = t := ⟨_, rfl⟩
  have htb : 0 ≤ t ∧ t ≤ 72057594037932032 := by omega
  have htb0 : 0 ≤ t0 ∧ t0 ≤ 4097 := by omega
  rw [show y + x + 1 = t by omega]
  clear hg hj hn0 hx
  refine wp_seq_k fun K2 hK2 => ?_
  refine wp_seq_k fun K3 hK3 => ?_
  refine wp_region_lit ?_
  refine Kn.pure fh3 rfl rfl .none (Kn.ex_move fh3 (.tmp rfl)) fun fa4 fh4 => ?_
  clear fh3 fa3
  refine Kn.step fh4 rfl rfl .none (Kn.ex_len fh4 (.tmp rfl)) fun Ko hKo => ?_
  go_simp
  try go_bits
  refine hKo _ _ fun fa5 fh5 => ?_
  clear hKo Ko fh4 fa4
  refine Kn.step fh5 rfl rfl .none (Kn.ex_bin fh5 (.tmp rfl) .const) fun Ko hKo => ?_
  go_simp
  try go_bits
  refine hKo _ _ fun fa6 fh6 => ?_
  clear hKo Ko fh5 fa5
  refine wpList_nil ?_
  refine hK3 _ _ ?_
  clear hK3 K3
  replace fh6 := fh6.cut (.cons (t := 19) rfl (.cons (t := 10) rfl (.cons (t := 9) rfl (.cons (t := 8) rfl (.cons (t := 0) rfl (.cons (t := 1) rfl (.cons (t := 2) rfl (.cons (t := 3) rfl .nil))))))))
  refine Kn.no fh6 (.tmp rfl) ?_
  refine wp_skip ?_
  refine hK2 _ _ ?_
  clear hK2 K2
  replace fh6 := fh6.cut (.cons (t := 10) rfl (.cons (t := 9) rfl (.cons (t := 8) rfl (.cons (t := 0) rfl (.cons (t := 1) rfl (.cons (t := 3) rfl .nil))))))
  refine wp_seq_k fun K4 hK4 => ?_
  refine wp_region_lit ?_
  refine Kn.pure fh6 rfl rfl .none (Kn.ex_move fh6 (.tmp rfl)) fun fa7 fh7 => ?_
  clear fh6 fa6
  refine Kn.pure fh7 rfl rfl .none (Kn.ex_move fh7 (.tmp rfl)) fun fa8 fh8 => ?_
  clear fh7 fa7
  refine Kn.call fh8 rfl rfl .none (Kn.ex_call fh8 (.cons (.tmp rfl) (.cons (.tmp rfl) .nil))) Tryd.call28 (hsh) fun e w1 hp => ?_
  obtain ⟨rfl, rfl⟩ := hp
  refine ⟨_, rfl, fun fa9 fh9 => ?_⟩
  clear fh8 fa8
  refine Kn.pure fh9 rfl rfl .none (Kn.ex_move fh9 (.tmp rfl)) fun fa10 fh10 => ?_
  clear fh9 fa9
  refine Kn.pure fh10 rfl rfl .none (Kn.ex_extract fh10 (.tmp rfl) rfl) fun fa11 fh11 => ?_
  clear fh10 fa10
  refine Kn.pure fh11 rfl rfl .none (Kn.ex_extract fh11 (.tmp rfl) rfl) fun fa12 fh12 => ?_
  clear fh11 fa11
  refine Kn.pure fh12 rfl rfl .none (Kn.ex_extract fh12 (.tmp rfl) rfl) fun fa13 fh13 => ?_
  clear fh12 fa12
  refine Kn.pure fh13 rfl rfl .none (Kn.ex_assign fh13 (.tmp rfl)) fun fa14 fh14 => ?_
  clear fh13 fa13
  refine Kn.pure fh14 rfl rfl .none (Kn.ex_assign fh14 (.tmp rfl)) fun fa15 fh15 => ?_
  clear fh14 fa14
  refine Kn.pure fh15 rfl rfl .none (Kn.ex_assign fh15 (.tmp rfl)) fun fa16 fh16 => ?_
  clear fh15 fa15
  refine wpList_nil ?_
  refine hK4 _ _ ?_
  clear hK4 K4
  replace fh16 := fh16.cut (.cons (t := 16) rfl (.cons (t := 15) rfl (.cons (t := 14) rfl (.cons (t := 10) rfl (.cons (t := 9) rfl (.cons (t := 8) rfl (.cons (t := 3) rfl .nil)))))))
  clear hsh
  refine wp_seq_k fun K5 hK5 => ?_
  refine wp_region_lit ?_
  refine Kn.pure fh16 rfl rfl .none (Kn.ex_move fh16 (.tmp rfl)) fun fa17 fh17 => ?_
  clear fh16 fa16
  refine Kn.pure fh17 rfl rfl .none (Kn.ex_move fh17 (.tmp rfl)) fun fa18 fh18 => ?_
  clear fh17 fa17
  refine Kn.step fh18 rfl rfl .none (Kn.ex_len fh18 (.tmp rfl)) fun Ko hKo => ?_
  go_simp
  try go_bits
  refine hKo _ _ fun fa19 fh19 => ?_
  clear hKo Ko fh18 fa18
  refine Kn.step fh19 rfl rfl .none (Kn.ex_bin fh19 (.tmp rfl) .const) fun Ko hKo => ?_
  go_simp
  try go_bits
  try simp only [rj]
  refine hKo _ _ fun fa20 fh20 => ?_
  clear hKo Ko fh19 fa19
  refine Kn.step fh20 rfl rfl .none (Kn.ex_indexAddr fh20 (.tmp rfl) (.tmp rfl)) fun Ko hKo => ?_
  go_simp
  try go_bits
  refine hKo _ _ fun fa21 fh21 => ?_
  clear hKo Ko fh20 fa20
  refine Kn.step fh21 rfl rfl .none (Kn.ex_load fh21 (.tmp rfl)) fun Ko hKo => ?_
  go_simp
  try go_bits
  refine hKo _ _ fun fa22 fh22 => ?_
  clear hKo Ko fh21 fa21
  refine Kn.step fh22 rfl rfl .none (Kn.ex_bin fh22 (.tmp rfl) .const) fun Ko hKo => ?_
  go_simp
  try go_bits
  try rw [ht0]
  try go_simp
  try go_bits
  refine hKo _ _ fun fa23 fh23 => ?_
  clear hKo Ko fh22 fa22
  refine Kn.pure fh23 rfl rfl .none (Kn.ex_move fh23 (.tmp rfl)) fun fa24 fh24 => ?_
  clear fh23 fa23
  refine Kn.step fh24 rfl rfl .none (Kn.ex_bin fh24 (.tmp rfl) (.tmp rfl)) fun Ko hKo => ?_
  go_simp
  try go_bits
  try rw [ht]
  try go_simp
  try go_bits
  refine hKo _ _ fun fa25 fh25 => ?_
  clear hKo Ko fh24 fa24
  refine Kn.pure fh25 rfl rfl .none (Kn.ex_move fh25 (.tmp rfl)) fun fa26 fh26 => ?_
  clear fh25 fa25
  refine Kn.pure fh26 rfl rfl .none (Kn.ex_move fh26 (.tmp rfl)) fun fa27 fh27 => ?_
  clear fh26 fa26
  refine Kn.pure fh27 rfl rfl .none (Kn.ex_assign fh27 (.tmp rfl)) fun fa28 fh28 => ?_
  clear fh27 fa27
  refine Kn.pure fh28 rfl rfl .none (Kn.ex_assign fh28 (.tmp rfl)) fun fa29 fh29 => ?_
  clear fh28 fa28
  refine Kn.pure fh29 rfl rfl .none (Kn.ex_assign fh29 (.tmp rfl)) fun fa30 fh30 => ?_
  clear fh29 fa29
  refine wpList_nil ?_
  refine hK5 _ _ ?_
  clear hK5 K5
  replace fh30 := fh30.cut (.cons (t := 10) rfl (.cons (t := 9) rfl (.cons (t := 8) rfl .nil)))
  refine wp_ret ?_
  exact Kn.ret3 fh30 rfl rfl rfl rfl ⟨rfl, rfl⟩

/-- The first part of a slice of numbers. -/
theorem sliceH0 (g o n c b : Nat) (v : World) (h : b ≤ c) (hc : c ≤ 9223372036854775807) : (Instr.sliceAt 22 (.slice (some ⟨g, o, none⟩) n c) none (some (.int .i64 (b : Int))) none).run Tryd.prog v = .ok (.slice (some ⟨g, o, none⟩) b c) v := by
  refine sat_run ?_
  go_simp
  try go_bits
  try simp [h]
/-- A row is answered, or the error. -/
def CRet (w : World) (p : Int) (r : (Int × Int) ⊕ (List Int × Int)) (e : Ending) (w' : World) : Prop := Below w.heap.size w w' ∧ ((∃ x a, r = .inl (x, a) ∧ (x = 1 ∨ x = 2 ∨ x = 3 ∨ x = 4) ∧ e = .returned (.tuple #[.slice none 0 0, .int .i64 p, faultV a x])) ∨ ∃ l nx g, r = .inr (l, nx) ∧ e = .returned (.tuple #[.slice (some ⟨g, 0, none⟩) l.length l.length, .int .i64 nx, .nilIface]) ∧ HoldI w' g l ∧ w.heap.size ≤ g ∧ g < w'.heap.size)
def gtC (s : ByteArray) (p N v : Int) : (Int × Int) ⊕ (List Int × Int) := if (cnt s p N).2.2.1 = 0 then gtF s N (cnt s p N).1.toNat true v (cnt s p N).2.1 else .inl ((cnt s p N).2.2.1, (cnt s p N).2.2.2)
theorem cntC_bad {s : ByteArray} {p N x nx e a : Int} (h : cnt s p N = (x, nx, e, a)) (he : e ≠ 0) : x = 0 ∧ nx = p ∧ (e = 1 ∨ e = 2 ∨ e = 3 ∨ e = 4) := by
  unfold cnt at h
  split at h
  · simp only [Prod.mk.injEq] at h
    obtain ⟨rfl, rfl, rfl, rfl⟩ := h
    exact ⟨rfl, rfl, .inr (.inr (.inr rfl))⟩
  · obtain ⟨h1, h2, h3⟩ := rdG_bad h he
    exact ⟨h1, h2, by rcases h3 with e | e | e <;> simp [e]⟩
theorem set_done (done : List Int) (t : Int) (k : Nat) : (done ++ List.replicate (k + 1) 0).set done.length t = done ++ [t] ++ List.replicate k 0 := by
  rw [List.set_append_right _ _ (Nat.le_refl _), Nat.sub_self, List.replicate_succ, List.set_cons_zero]
  simp
theorem nt_done (done : List Int) (x : List Int) (k : Nat) (h : k < done.length) : nt (done ++ x) k = nt done k := by
  rw [nt_at _ _ (by simp; omega), nt_at _ _ h, List.getElem_append_left h]
theorem nt_last (done : List Int) (y : Int) : nt (done ++ [y]) done.length = y := by
  rw [nt_at _ _ (by simp)]; simp

set_option maxRecDepth 100000 in
set_option maxHeartbeats 2000000 in
theorem gGet_arg (s : ByteArray) (p N v : Int) (w : World) (h : N < 0 ∨ 4096 < N) :
    Calls Tryd.prog 12 #[.string s, .int .i64 p, .int .i64 N, .int .i64 v] w fun e w' => e = .returned (.tuple #[.slice none 0 0, .int .i64 p, faultV p 1]) ∧ w = w' := by
  refine Kn.calls Tryd.func12 rfl Tryd.ntmps12 rfl (.cons (t := 0) rfl (.cons (t := 1) rfl (.cons (t := 2) rfl (.cons (t := 3) rfl .nil)))) fun fa0 fh0 => ?_
  refine wp_seq_k fun K1 hK1 => ?_
  refine wp_region_lit ?_
  refine Kn.pure fh0 rfl rfl .none (Kn.ex_assign fh0 .const) fun fa1 fh1 => ?_
  clear fh0 fa0
  refine Kn.pure fh1 rfl rfl .none (Kn.ex_assign fh1 .const) fun fa2 fh2 => ?_
  clear fh1 fa1
  refine Kn.pure fh2 rfl rfl .none (Kn.ex_assign fh2 .const) fun fa3 fh3 => ?_
  clear fh2 fa2
  refine wpList_nil ?_
  refine hK1 _ _ ?_
  clear hK1 K1
  have hc := check_arg N v w h
  unfold errnoV at hc
  have hf := gfault_any p 55 (.int .i64 1) w
  unfold flt at hf
  refine wp_seq_k fun K2 hK2 => ?_
  refine wp_seq_k fun K3 hK3 => ?_
  refine wp_region_lit ?_
  refine Kn.pure fh3 rfl rfl .none (Kn.ex_move fh3 (.tmp rfl)) fun fa4 fh4 => ?_
  clear fh3 fa3
  refine Kn.pure fh4 rfl rfl .none (Kn.ex_move fh4 (.tmp rfl)) fun fa5 fh5 => ?_
  clear fh4 fa4
  refine Kn.call fh5 rfl rfl .none (Kn.ex_call fh5 (.cons (.tmp rfl) (.cons (.tmp rfl) .nil))) Tryd.call20 (hc) fun e w1 hp => ?_
  obtain ⟨rfl, rfl⟩ := hp
  refine ⟨_, rfl, fun fa6 fh6 => ?_⟩
  clear fh5 fa5
  refine Kn.pure fh6 rfl rfl .none (Kn.ex_assign fh6 (.tmp rfl)) fun fa7 fh7 => ?_
  clear fh6 fa6
  refine wpList_nil ?_
  refine hK3 _ _ ?_
  clear hK3 K3
  replace fh7 := fh7.cut (.cons (t := 11) rfl (.cons (t := 10) rfl (.cons (t := 9) rfl (.cons (t := 8) rfl (.cons (t := 0) rfl (.cons (t := 1) rfl (.cons (t := 2) rfl (.cons (t := 3) rfl .nil))))))))
  refine wp_seq_k fun K4 hK4 => ?_
  refine wp_region_lit ?_
  refine Kn.pure fh7 rfl rfl .none (Kn.ex_move fh7 (.tmp rfl)) fun fa8 fh8 => ?_
  clear fh7 fa7
  refine Kn.step fh8 rfl rfl .none (Kn.ex_bin fh8 (.tmp rfl) .const) fun Ko hKo => ?_
  go_simp
  try go_bits
  refine hKo _ _ fun fa9 fh9 => ?_
  clear hKo Ko fh8 fa8
  refine wpList_nil ?_
  refine hK4 _ _ ?_
  clear hK4 K4
  replace fh9 := fh9.cut (.cons (t := 24) rfl (.cons (t := 11) rfl (.cons (t := 10) rfl (.cons (t := 9) rfl (.cons (t := 8) rfl (.cons (t := 0) rfl (.cons (t := 1) rfl (.cons (t := 2) rfl (.cons (t := 3) rfl .nil)))))))))
  refine Kn.yes fh9 (.tmp rfl) ?_
  replace fh9 := fh9.cut (.cons (t := 11) rfl (.cons (t := 10) rfl (.cons (t := 9) rfl (.cons (t := 8) rfl (.cons (t := 0) rfl (.cons (t := 1) rfl (.cons (t := 2) rfl (.cons (t := 3) rfl .nil))))))))
  refine wp_seq_k fun K5 hK5 => ?_
  refine wp_region_lit ?_
  refine Kn.pure fh9 rfl rfl .none (Kn.ex_move fh9 (.tmp rfl)) fun fa10 fh10 => ?_
  clear fh9 fa9
  refine Kn.pure fh10 rfl rfl .none (Kn.ex_move fh10 (.tmp rfl)) fun fa11 fh11 => ?_
  clear fh10 fa10
  refine Kn.pure fh11 rfl rfl .none (Kn.ex_move fh11 (.tmp rfl)) fun fa12 fh12 => ?_
  clear fh11 fa11
  refine Kn.call fh12 rfl rfl .none (Kn.ex_call fh12 (.cons (.tmp rfl) (.cons (.tmp rfl) .nil))) Tryd.call23 (hf) fun e w1 hp => ?_
  obtain ⟨rfl, rfl⟩ := hp
  refine ⟨_, rfl, fun fa13 fh13 => ?_⟩
  clear fh12 fa12
  refine Kn.pure fh13 rfl rfl .none (Kn.ex_assign fh13 .const) fun fa14 fh14 => ?_
  clear fh13 fa13
  refine Kn.pure fh14 rfl rfl .none (Kn.ex_assign fh14 (.tmp rfl)) fun fa15 fh15 => ?_
  clear fh14 fa14
  refine Kn.pure fh15 rfl rfl .none (Kn.ex_assign fh15 (.tmp rfl)) fun fa16 fh16 => ?_
  clear fh15 fa15
  refine wpList_nil ?_
  refine hK5 _ _ ?_
  clear hK5 K5
  replace fh16 := fh16.cut (.cons (t := 10) rfl (.cons (t := 9) rfl (.cons (t := 8) rfl (.cons (t := 0) rfl (.cons (t := 1) rfl (.cons (t := 2) rfl (.cons (t := 3) rfl .nil)))))))
  refine wp_ret ?_
  refine Kn.then_ret ?_
  exact Kn.ret3 fh16 rfl rfl rfl rfl ⟨rfl, rfl⟩

set_option maxRecDepth 100000 in
set_option maxHeartbeats 2000000 in
theorem gGet_range (s : ByteArray) (p N v : Int) (w : World) (h0 : 0 ≤ N) (h1 : N ≤ 4096) (h : v < 0 ∨ N ≤ v) :
    Calls Tryd.prog 12 #[.string s, .int .i64 p, .int .i64 N, .int .i64 v] w fun e w' => e = .returned (.tuple #[.slice none 0 0, .int .i64 p, faultV p 2]) ∧ w = w' := by
  refine Kn.calls Tryd.func12 rfl Tryd.ntmps12 rfl (.cons (t := 0) rfl (.cons (t := 1) rfl (.cons (t := 2) rfl (.cons (t := 3) rfl .nil)))) fun fa0 fh0 => ?_
  refine wp_seq_k fun K1 hK1 => ?_
  refine wp_region_lit ?_
  refine Kn.pure fh0 rfl rfl .none (Kn.ex_assign fh0 .const) fun fa1 fh1 => ?_
  clear fh0 fa0
  refine Kn.pure fh1 rfl rfl .none (Kn.ex_assign fh1 .const) fun fa2 fh2 => ?_
  clear fh1 fa1
  refine Kn.pure fh2 rfl rfl .none (Kn.ex_assign fh2 .const) fun fa3 fh3 => ?_
  clear fh2 fa2
  refine wpList_nil ?_
  refine hK1 _ _ ?_
  clear hK1 K1
  have hc := check_range N v w h0 h1 h
  unfold errnoV at hc
  have hf := gfault_any p 55 (.int .i64 2) w
  unfold flt at hf
  refine wp_seq_k fun K2 hK2 => ?_
  refine wp_seq_k fun K3 hK3 => ?_
  refine wp_region_lit ?_
  refine Kn.pure fh3 rfl rfl .none (Kn.ex_move fh3 (.tmp rfl)) fun fa4 fh4 => ?_
  clear fh3 fa3
  refine Kn.pure fh4 rfl rfl .none (Kn.ex_move fh4 (.tmp rfl)) fun fa5 fh5 => ?_
  clear fh4 fa4
  refine Kn.call fh5 rfl rfl .none (Kn.ex_call fh5 (.cons (.tmp rfl) (.cons (.tmp rfl) .nil))) Tryd.call20 (hc) fun e w1 hp => ?_
  obtain ⟨rfl, rfl⟩ := hp
  refine ⟨_, rfl, fun fa6 fh6 => ?_⟩
  clear fh5 fa5
  refine Kn.pure fh6 rfl rfl .none (Kn.ex_assign fh6 (.tmp rfl)) fun fa7 fh7 => ?_
  clear fh6 fa6
  refine wpList_nil ?_
  refine hK3 _ _ ?_
  clear hK3 K3
  replace fh7 := fh7.cut (.cons (t := 11) rfl (.cons (t := 10) rfl (.cons (t := 9) rfl (.cons (t := 8) rfl (.cons (t := 0) rfl (.cons (t := 1) rfl (.cons (t := 2) rfl (.cons (t := 3) rfl .nil))))))))
  refine wp_seq_k fun K4 hK4 => ?_
  refine wp_region_lit ?_
  refine Kn.pure fh7 rfl rfl .none (Kn.ex_move fh7 (.tmp rfl)) fun fa8 fh8 => ?_
  clear fh7 fa7
  refine Kn.step fh8 rfl rfl .none (Kn.ex_bin fh8 (.tmp rfl) .const) fun Ko hKo => ?_
  go_simp
  try go_bits
  refine hKo _ _ fun fa9 fh9 => ?_
  clear hKo Ko fh8 fa8
  refine wpList_nil ?_
  refine hK4 _ _ ?_
  clear hK4 K4
  replace fh9 := fh9.cut (.cons (t := 24) rfl (.cons (t := 11) rfl (.cons (t := 10) rfl (.cons (t := 9) rfl (.cons (t := 8) rfl (.cons (t := 0) rfl (.cons (t := 1) rfl (.cons (t := 2) rfl (.cons (t := 3) rfl .nil)))))))))
  refine Kn.yes fh9 (.tmp rfl) ?_
  replace fh9 := fh9.cut (.cons (t := 11) rfl (.cons (t := 10) rfl (.cons (t := 9) rfl (.cons (t := 8) rfl (.cons (t := 0) rfl (.cons (t := 1) rfl (.cons (t := 2) rfl (.cons (t := 3) rfl .nil))))))))
  refine wp_seq_k fun K5 hK5 => ?_
  refine wp_region_lit ?_
  refine Kn.pure fh9 rfl rfl .none (Kn.ex_move fh9 (.tmp rfl)) fun fa10 fh10 => ?_
  clear fh9 fa9
  refine Kn.pure fh10 rfl rfl .none (Kn.ex_move fh10 (.tmp rfl)) fun fa11 fh11 => ?_
  clear fh10 fa10
  refine Kn.pure fh11 rfl rfl .none (Kn.ex_move fh11 (.tmp rfl)) fun fa12 fh12 => ?_
  clear fh11 fa11
  refine Kn.call fh12 rfl rfl .none (Kn.ex_call fh12 (.cons (.tmp rfl) (.cons (.tmp rfl) .nil))) Tryd.call23 (hf) fun e w1 hp => ?_
  obtain ⟨rfl, rfl⟩ := hp
  refine ⟨_, rfl, fun fa13 fh13 => ?_⟩
  clear fh12 fa12
  refine Kn.pure fh13 rfl rfl .none (Kn.ex_assign fh13 .const) fun fa14 fh14 => ?_
  clear fh13 fa13
  refine Kn.pure fh14 rfl rfl .none (Kn.ex_assign fh14 (.tmp rfl)) fun fa15 fh15 => ?_
  clear fh14 fa14
  refine Kn.pure fh15 rfl rfl .none (Kn.ex_assign fh15 (.tmp rfl)) fun fa16 fh16 => ?_
  clear fh15 fa15
  refine wpList_nil ?_
  refine hK5 _ _ ?_
  clear hK5 K5
  replace fh16 := fh16.cut (.cons (t := 10) rfl (.cons (t := 9) rfl (.cons (t := 8) rfl (.cons (t := 0) rfl (.cons (t := 1) rfl (.cons (t := 2) rfl (.cons (t := 3) rfl .nil)))))))
  refine wp_ret ?_
  refine Kn.then_ret ?_
  exact Kn.ret3 fh16 rfl rfl rfl rfl ⟨rfl, rfl⟩

set_option maxRecDepth 100000 in
set_option maxHeartbeats 2000000 in
theorem gGet_any (s : ByteArray) (p N v : Int) (w : World) (hs : s.size ≤ maxLen) (hN : N ≤ 4096) (hv0 : 0 ≤ v) (hv1 : v < N) :
    Calls Tryd.prog 12 #[.string s, .int .i64 p, .int .i64 N, .int .i64 v] w (CRet w p (gtC s p N v)) := by
  refine Kn.calls Tryd.func12 rfl Tryd.ntmps12 rfl (.cons (t := 0) rfl (.cons (t := 1) rfl (.cons (t := 2) rfl (.cons (t := 3) rfl .nil)))) fun fa0 fh0 => ?_
  refine wp_seq_k fun K1 hK1 => ?_
  refine wp_region_lit ?_
  refine Kn.pure fh0 rfl rfl .none (Kn.ex_assign fh0 .const) fun fa1 fh1 => ?_
  clear fh0 fa0
  refine Kn.pure fh1 rfl rfl .none (Kn.ex_assign fh1 .const) fun fa2 fh2 => ?_
  clear fh1 fa1
  refine Kn.pure fh2 rfl rfl .none (Kn.ex_assign fh2 .const) fun fa3 fh3 => ?_
  clear fh2 fa2
  refine wpList_nil ?_
  refine hK1 _ _ ?_
  clear hK1 K1
  have hc := check_ok N v w (by omega) hN hv0 hv1
  have hcn := gcount_g s p N w hs (by omega) hN
  rcases hg : cnt s p N with ⟨x, nx, e, a⟩
  rw [hg] at hcn
  simp only at hcn
  refine wp_seq_k fun K2 hK2 => ?_
  refine wp_seq_k fun K3 hK3 => ?_
  refine wp_region_lit ?_
  refine Kn.pure fh3 rfl rfl .none (Kn.ex_move fh3 (.tmp rfl)) fun fa4 fh4 => ?_
  clear fh3 fa3
  refine Kn.pure fh4 rfl rfl .none (Kn.ex_move fh4 (.tmp rfl)) fun fa5 fh5 => ?_
  clear fh4 fa4
  refine Kn.call fh5 rfl rfl .none (Kn.ex_call fh5 (.cons (.tmp rfl) (.cons (.tmp rfl) .nil))) Tryd.call20 (hc) fun e w1 hp => ?_
  obtain ⟨rfl, rfl⟩ := hp
  refine ⟨_, rfl, fun fa6 fh6 => ?_⟩
  clear fh5 fa5
  refine Kn.pure fh6 rfl rfl .none (Kn.ex_assign fh6 (.tmp rfl)) fun fa7 fh7 => ?_
  clear fh6 fa6
  refine wpList_nil ?_
  refine hK3 _ _ ?_
  clear hK3 K3
  replace fh7 := fh7.cut (.cons (t := 11) rfl (.cons (t := 10) rfl (.cons (t := 9) rfl (.cons (t := 8) rfl (.cons (t := 0) rfl (.cons (t := 1) rfl (.cons (t := 2) rfl (.cons (t := 3) rfl .nil))))))))
  clear hc
  refine wp_seq_k fun K4 hK4 => ?_
  refine wp_region_lit ?_
  refine Kn.pure fh7 rfl rfl .none (Kn.ex_move fh7 (.tmp rfl)) fun fa8 fh8 => ?_
  clear fh7 fa7
  refine Kn.step fh8 rfl rfl .none (Kn.ex_bin fh8 (.tmp rfl) .const) fun Ko hKo => ?_
  go_simp
  try go_bits
  refine hKo _ _ fun fa9 fh9 => ?_
  clear hKo Ko fh8 fa8
  refine wpList_nil ?_
  refine hK4 _ _ ?_
  clear hK4 K4
  replace fh9 := fh9.cut (.cons (t := 24) rfl (.cons (t := 11) rfl (.cons (t := 10) rfl (.cons (t := 9) rfl (.cons (t := 8) rfl (.cons (t := 0) rfl (.cons (t := 1) rfl (.cons (t := 2) rfl (.cons (t := 3) rfl .nil)))))))))
  refine Kn.no fh9 (.tmp rfl) ?_
  refine wp_skip ?_
  refine hK2 _ _ ?_
  clear hK2 K2
  replace fh9 := fh9.cut (.cons (t := 10) rfl (.cons (t := 9) rfl (.cons (t := 8) rfl (.cons (t := 0) rfl (.cons (t := 1) rfl (.cons (t := 2) rfl (.cons (t := 3) rfl .nil)))))))
  by_cases he : e = 0
  · subst he
    rw [gE_0] at hcn
    obtain ⟨hx0, hxN⟩ := cntC_ok hg
    obtain ⟨⟨hx1, -⟩, hp0, hpn, hns, rfl, -⟩ := rdG_ok hx0
    obtain ⟨X, rfl⟩ := Int.eq_ofNat_of_zero_le hx1
    have HR : Hid (gtC s p N v = gtF s N X true v nx) := Lib.hid (by unfold gtC; rw [hg]; simp)
    have hX : X ≤ 4096 := by omega
    clear hg hx0 hxN hx1
    refine wp_seq_k fun K5 hK5 => ?_
    refine wp_region_lit ?_
    refine Kn.pure fh9 rfl rfl .none (Kn.ex_move fh9 (.tmp rfl)) fun fa10 fh10 => ?_
    clear fh9 fa9
    refine Kn.pure fh10 rfl rfl .none (Kn.ex_move fh10 (.tmp rfl)) fun fa11 fh11 => ?_
    clear fh10 fa10
    refine Kn.pure fh11 rfl rfl .none (Kn.ex_move fh11 (.tmp rfl)) fun fa12 fh12 => ?_
    clear fh11 fa11
    refine Kn.call fh12 rfl rfl .none (Kn.ex_call fh12 (.cons (.tmp rfl) (.cons (.tmp rfl) (.cons (.tmp rfl) .nil)))) Tryd.call26 (hcn) fun e w1 hp => ?_
    obtain ⟨rfl, rfl⟩ := hp
    refine ⟨_, rfl, fun fa13 fh13 => ?_⟩
    clear fh12 fa12
    refine Kn.pure fh13 rfl rfl .none (Kn.ex_move fh13 (.tmp rfl)) fun fa14 fh14 => ?_
    clear fh13 fa13
    refine Kn.pure fh14 rfl rfl .none (Kn.ex_extract fh14 (.tmp rfl) rfl) fun fa15 fh15 => ?_
    clear fh14 fa14
    refine Kn.pure fh15 rfl rfl .none (Kn.ex_extract fh15 (.tmp rfl) rfl) fun fa16 fh16 => ?_
    clear fh15 fa15
    refine Kn.pure fh16 rfl rfl .none (Kn.ex_extract fh16 (.tmp rfl) rfl) fun fa17 fh17 => ?_
    clear fh16 fa16
    refine Kn.pure fh17 rfl rfl .none (Kn.ex_assign fh17 (.tmp rfl)) fun fa18 fh18 => ?_
    clear fh17 fa17
    refine Kn.pure fh18 rfl rfl .none (Kn.ex_assign fh18 (.tmp rfl)) fun fa19 fh19 => ?_
    clear fh18 fa18
    refine Kn.pure fh19 rfl rfl .none (Kn.ex_assign fh19 (.tmp rfl)) fun fa20 fh20 => ?_
    clear fh19 fa19
    refine wpList_nil ?_
    refine hK5 _ _ ?_
    clear hK5 K5
    replace fh20 := fh20.cut (.cons (t := 14) rfl (.cons (t := 13) rfl (.cons (t := 12) rfl (.cons (t := 10) rfl (.cons (t := 9) rfl (.cons (t := 8) rfl (.cons (t := 0) rfl (.cons (t := 1) rfl (.cons (t := 2) rfl (.cons (t := 3) rfl .nil))))))))))
    clear hcn
    refine wp_seq_k fun K6 hK6 => ?_
    refine wp_seq_k fun K7 hK7 => ?_
    refine wp_region_lit ?_
    refine Kn.pure fh20 rfl rfl .none (Kn.ex_move fh20 (.tmp rfl)) fun fa21 fh21 => ?_
    clear fh20 fa20
    refine Kn.step fh21 rfl rfl .none (Kn.ex_bin fh21 (.tmp rfl) .const) fun Ko hKo => ?_
    go_simp
    try go_bits
    refine hKo _ _ fun fa22 fh22 => ?_
    clear hKo Ko fh21 fa21
    refine wpList_nil ?_
    refine hK7 _ _ ?_
    clear hK7 K7
    replace fh22 := fh22.cut (.cons (t := 38) rfl (.cons (t := 14) rfl (.cons (t := 13) rfl (.cons (t := 12) rfl (.cons (t := 10) rfl (.cons (t := 9) rfl (.cons (t := 8) rfl (.cons (t := 0) rfl (.cons (t := 1) rfl (.cons (t := 2) rfl (.cons (t := 3) rfl .nil)))))))))))
    refine Kn.no fh22 (.tmp rfl) ?_
    refine wp_skip ?_
    refine hK6 _ _ ?_
    clear hK6 K6
    replace fh22 := fh22.cut (.cons (t := 13) rfl (.cons (t := 12) rfl (.cons (t := 10) rfl (.cons (t := 9) rfl (.cons (t := 8) rfl (.cons (t := 0) rfl (.cons (t := 1) rfl (.cons (t := 2) rfl (.cons (t := 3) rfl .nil)))))))))
    obtain ⟨w2, hmk, hH, hbel, hlt⟩ := makeI w X (by omega)
    have HH2 : Hid (HoldI w2 w.heap.size ([] ++ List.replicate X 0)) := Lib.hid hH
    have HB2 := Lib.hid hbel
    have HL2 := Lib.hid hlt
    clear hH hbel hlt
    refine wp_seq_k fun K8 hK8 => ?_
    refine wp_region_lit ?_
    refine Kn.pure fh22 rfl rfl .none (Kn.ex_move fh22 (.tmp rfl)) fun fa23 fh23 => ?_
    clear fh22 fa22
    refine Kn.known fh23 rfl rfl .none (Kn.ex_makeSlice fh23 (.tmp rfl) (.tmp rfl)) hmk fun fa24 fh24 => ?_
    clear fh23 fa23
    refine Kn.pure fh24 rfl rfl .none (Kn.ex_assign fh24 (.tmp rfl)) fun fa25 fh25 => ?_
    clear fh24 fa24
    refine wpList_nil ?_
    refine hK8 _ _ ?_
    clear hK8 K8
    replace fh25 := fh25.cut (.cons (t := 15) rfl (.cons (t := 13) rfl (.cons (t := 12) rfl (.cons (t := 10) rfl (.cons (t := 9) rfl (.cons (t := 8) rfl (.cons (t := 0) rfl (.cons (t := 1) rfl (.cons (t := 2) rfl (.cons (t := 3) rfl .nil))))))))))
    clear hmk
    refine wp_seq_k fun K9 hK9 => ?_
    refine wp_seq_k fun K10 hK10 => ?_
    refine wp_region_lit ?_
    refine Kn.pure fh25 rfl rfl .none (Kn.ex_move fh25 (.tmp rfl)) fun fa26 fh26 => ?_
    clear fh25 fa25
    refine Kn.pure fh26 rfl rfl .none (Kn.ex_move fh26 .const) fun fa27 fh27 => ?_
    clear fh26 fa26
    refine wpList_nil ?_
    refine hK10 _ _ ?_
    clear hK10 K10
    replace fh27 := fh27.cut (.cons (t := 44) rfl (.cons (t := 43) rfl (.cons (t := 15) rfl (.cons (t := 13) rfl (.cons (t := 10) rfl (.cons (t := 9) rfl (.cons (t := 8) rfl (.cons (t := 0) rfl (.cons (t := 1) rfl (.cons (t := 2) rfl (.cons (t := 3) rfl .nil)))))))))))
    refine wp_block ?_
    refine Kn.loop (fun m fr u => ∃ (i k : Nat) (n1 now : Int) (done : List Int), Kn.Kn 78 [(44, .int .i64 (i : Int)), (43, .int .i64 (X : Int)), (13, .int .i64 n1), (15, .slice (some ⟨w.heap.size, 0, none⟩) X X), (0, .string s), (1, .int .i64 p), (2, .int .i64 N), (3, .int .i64 v)] fr ∧ k ≤ m ∧ i + k = X ∧ (0 ≤ now ∧ now < N) ∧ Hid (done.length = i) ∧ Hid (0 < i → nt done (i - 1) = now) ∧ Hid (i = 0 → now = v) ∧ Hid (GotYet s N k (decide (i = 0)) now n1 done (gtC s p N v)) ∧ Hid (HoldI u w.heap.size (done ++ List.replicate k 0)) ∧ Hid (Below w.heap.size w u) ∧ Hid (w.heap.size < u.heap.size)) X ⟨0, X, nx, v, [], fh27.cut (.turn (t := 44) rfl rfl (.cons (t := 43) rfl (.cons (t := 13) rfl (.cons (t := 15) rfl (.cons (t := 0) rfl (.cons (t := 1) rfl (.cons (t := 2) rfl (.cons (t := 3) rfl .nil)))))))), Nat.le_refl _, by omega, ⟨hv0, hv1⟩, Lib.hid rfl, Lib.hid (fun h => absurd h (by decide)), Lib.hid (fun _ => rfl), Lib.hid (by rw [HR.out]; exact GotYet.start), HH2, HB2, HL2⟩ ?_
    clear fh27 fa27
    intro m11 fa28 u hI Kl11 hKl11
    obtain ⟨i, k, n1, now, done, fh28, hkm, hik, hnow, HDl, HLa, HV0, HT, HH, HB, HL⟩ := hI
    clear HH2 HB2 HL2
    rcases k with _ | k
    · obtain rfl : i = X := by omega
      have HF : Hid (gtC s p N v = .inr (done, n1)) := Lib.hid HT.out.done
      have HE : Hid (done.length = i) := HDl
      refine wp_seq_k fun K12 hK12 => ?_
      refine wp_region_lit ?_
      refine Kn.step fh28 rfl rfl .none (Kn.ex_bin fh28 (.tmp rfl) (.tmp rfl)) fun Ko hKo => ?_
      go_simp
      try go_bits
      refine hKo _ _ fun fa29 fh29 => ?_
      clear hKo Ko fh28 fa28
      refine wpList_nil ?_
      refine hK12 _ _ ?_
      clear hK12 K12
      refine wp_seq_k fun K13 hK13 => ?_
      refine Kn.no fh29 (.tmp rfl) ?_
      replace fh29 := fh29.cut (.cons (t := 44) rfl (.cons (t := 43) rfl (.cons (t := 13) rfl (.cons (t := 15) rfl (.cons (t := 0) rfl (.cons (t := 1) rfl (.cons (t := 2) rfl (.cons (t := 3) rfl .nil))))))))
      refine wp_exit ?_
      refine Kn.then_exit ?_
      clear hK13 K13
      refine Kn.then_exit ?_
      clear hKl11 Kl11
      refine Kn.block_exit ?_
      refine hK9 _ _ ?_
      clear hK9 K9
      replace fh29 := fh29.cut (.cons (t := 13) rfl (.cons (t := 15) rfl .nil))
      refine wp_seq_k fun K14 hK14 => ?_
      refine wp_region_lit ?_
      refine Kn.pure fh29 rfl rfl .none (Kn.ex_move fh29 (.tmp rfl)) fun fa30 fh30 => ?_
      clear fh29 fa29
      refine Kn.pure fh30 rfl rfl .none (Kn.ex_move fh30 (.tmp rfl)) fun fa31 fh31 => ?_
      clear fh30 fa30
      refine Kn.pure fh31 rfl rfl .none (Kn.ex_assign fh31 (.tmp rfl)) fun fa32 fh32 => ?_
      clear fh31 fa31
      refine Kn.pure fh32 rfl rfl .none (Kn.ex_assign fh32 (.tmp rfl)) fun fa33 fh33 => ?_
      clear fh32 fa32
      refine Kn.pure fh33 rfl rfl .none (Kn.ex_assign fh33 .const) fun fa34 fh34 => ?_
      clear fh33 fa33
      refine wpList_nil ?_
      refine hK14 _ _ ?_
      clear hK14 K14
      replace fh34 := fh34.cut (.cons (t := 10) rfl (.cons (t := 9) rfl (.cons (t := 8) rfl .nil)))
      refine wp_ret ?_
      exact Kn.ret3 fh34 rfl rfl rfl rfl ⟨HB.out, .inr ⟨done, n1, w.heap.size, HF.out, by rw [HE.out], by have := HH.out; rwa [List.replicate_zero, List.append_nil] at this, Nat.le_refl _, HL.out⟩⟩
    have hlt : i < X := by omega
    have hsl := sliceH0 w.heap.size 0 X X i u (by omega) (by omega)
    obtain ⟨t, ht⟩ : ∃ t, (if decide (i = 0) = true then now + bkI (rdG s n1).1 else now + (rdG s n1).1 + 1) = t := ⟨_, rfl⟩
    have hst : Calls Tryd.prog 27 #[.string s, .int .i64 n1, .int .i64 v, .slice (some ⟨w.heap.size, 0, none⟩) i X] u fun e w' => e = .returned (.tuple #[.int .i64 t, .int .i64 (rdG s n1).2.1, gE (rdG s n1).2.2.1 (rdG s n1).2.2.2]) ∧ u = w' := by
      by_cases hi0 : i = 0
      · subst hi0
        have hv := HV0.out rfl
        rw [← ht, hv]
        simp only [decide_true, if_true]
        exact step_first s n1 v (some ⟨w.heap.size, 0, none⟩) X u hs hv0 (by omega)
      · rw [← ht, decide_eq_false hi0]
        simp only [Bool.false_eq_true, if_false]
        refine step_next s n1 v now w.heap.size 0 i X u hs (by omega) (by omega) hnow.1 (by omega) ?_
        have h1 := (HH.out (i - 1) (by have := HDl.out; rw [List.length_append]; omega)).1
        rw [nt_done _ _ _ (by have := HDl.out; omega), HLa.out (by omega)] at h1
        rw [Nat.zero_add]
        exact h1
    rcases hg : rdG s n1 with ⟨y, n2, e2, a2⟩
    rw [hg] at hst
    simp only at hst
    have hyb : 0 ≤ y ∧ y ≤ 72057594037927935 := by
      by_cases he : e2 = 0
      · subst he; exact (rdG_ok hg).1
      · have := (rdG_bad hg he).1; omega
    rw [hg] at ht
    simp only at ht
    have htb : -72057594037927936 ≤ t ∧ t ≤ 72057594037932033 := by
      rw [← ht]
      split
      · unfold bkI; split <;> omega
      · omega
    have HG := Lib.hid hg
    have HY := Lib.hid ht
    clear hg ht hyb
    by_cases he : e2 = 0
    · subst he
      rw [gE_0] at hst
      refine wp_seq_k fun K12 hK12 => ?_
      refine wp_region_lit ?_
      refine Kn.step fh28 rfl rfl .none (Kn.ex_bin fh28 (.tmp rfl) (.tmp rfl)) fun Ko hKo => ?_
      go_simp
      try go_bits
      refine hKo _ _ fun fa29 fh29 => ?_
      clear hKo Ko fh28 fa28
      refine wpList_nil ?_
      refine hK12 _ _ ?_
      clear hK12 K12
      refine wp_seq_k fun K13 hK13 => ?_
      refine Kn.yes fh29 (.tmp rfl) ?_
      refine wp_skip ?_
      refine hK13 _ _ ?_
      clear hK13 K13
      replace fh29 := fh29.cut (.cons (t := 44) rfl (.cons (t := 43) rfl (.cons (t := 13) rfl (.cons (t := 15) rfl (.cons (t := 0) rfl (.cons (t := 1) rfl (.cons (t := 2) rfl (.cons (t := 3) rfl .nil))))))))
      refine wp_seq_k fun K14 hK14 => ?_
      refine wp_block ?_
      refine wp_seq_k fun K15 hK15 => ?_
      refine wp_region_lit ?_
      refine Kn.pure fh29 rfl rfl .none (Kn.ex_move fh29 (.tmp rfl)) fun fa30 fh30 => ?_
      clear fh29 fa29
      refine Kn.pure fh30 rfl rfl .none (Kn.ex_assign fh30 (.tmp rfl)) fun fa31 fh31 => ?_
      clear fh30 fa30
      refine wpList_nil ?_
      refine hK15 _ _ ?_
      clear hK15 K15
      replace fh31 := fh31.cut (.cons (t := 16) rfl (.cons (t := 44) rfl (.cons (t := 43) rfl (.cons (t := 13) rfl (.cons (t := 15) rfl (.cons (t := 0) rfl (.cons (t := 1) rfl (.cons (t := 2) rfl (.cons (t := 3) rfl .nil)))))))))
      refine wp_seq_k fun K16 hK16 => ?_
      refine wp_region_lit ?_
      refine Kn.pure fh31 rfl rfl .none (Kn.ex_move fh31 (.tmp rfl)) fun fa32 fh32 => ?_
      clear fh31 fa31
      refine Kn.pure fh32 rfl rfl .none (Kn.ex_move fh32 (.tmp rfl)) fun fa33 fh33 => ?_
      clear fh32 fa32
      refine Kn.pure fh33 rfl rfl .none (Kn.ex_move fh33 (.tmp rfl)) fun fa34 fh34 => ?_
      clear fh33 fa33
      refine Kn.pure fh34 rfl rfl .none (Kn.ex_move fh34 (.tmp rfl)) fun fa35 fh35 => ?_
      clear fh34 fa34
      refine Kn.pure fh35 rfl rfl .none (Kn.ex_move fh35 (.tmp rfl)) fun fa36 fh36 => ?_
      clear fh35 fa35
      refine Kn.known fh36 rfl rfl .none (Kn.ex_sliceH fh36 (.tmp rfl) (.tmp rfl)) hsl fun fa37 fh37 => ?_
      clear fh36 fa36
      refine Kn.call fh37 rfl rfl .none (Kn.ex_call fh37 (.cons (.tmp rfl) (.cons (.tmp rfl) (.cons (.tmp rfl) (.cons (.tmp rfl) .nil))))) Tryd.call27 (hst) fun e w3 hp => ?_
      obtain ⟨rfl, rfl⟩ := hp
      refine ⟨_, rfl, fun fa38 fh38 => ?_⟩
      clear fh37 fa37
      refine Kn.pure fh38 rfl rfl .none (Kn.ex_move fh38 (.tmp rfl)) fun fa39 fh39 => ?_
      clear fh38 fa38
      refine Kn.pure fh39 rfl rfl .none (Kn.ex_extract fh39 (.tmp rfl) rfl) fun fa40 fh40 => ?_
      clear fh39 fa39
      refine Kn.pure fh40 rfl rfl .none (Kn.ex_extract fh40 (.tmp rfl) rfl) fun fa41 fh41 => ?_
      clear fh40 fa40
      refine Kn.pure fh41 rfl rfl .none (Kn.ex_extract fh41 (.tmp rfl) rfl) fun fa42 fh42 => ?_
      clear fh41 fa41
      refine Kn.pure fh42 rfl rfl .none (Kn.ex_assign fh42 (.tmp rfl)) fun fa43 fh43 => ?_
      clear fh42 fa42
      refine Kn.pure fh43 rfl rfl .none (Kn.ex_assign fh43 (.tmp rfl)) fun fa44 fh44 => ?_
      clear fh43 fa43
      refine Kn.pure fh44 rfl rfl .none (Kn.ex_assign fh44 (.tmp rfl)) fun fa45 fh45 => ?_
      clear fh44 fa44
      refine wpList_nil ?_
      refine hK16 _ _ ?_
      clear hK16 K16
      replace fh45 := fh45.cut (.cons (t := 19) rfl (.cons (t := 18) rfl (.cons (t := 17) rfl (.cons (t := 16) rfl (.cons (t := 44) rfl (.cons (t := 43) rfl (.cons (t := 13) rfl (.cons (t := 15) rfl (.cons (t := 0) rfl (.cons (t := 1) rfl (.cons (t := 2) rfl (.cons (t := 3) rfl .nil))))))))))))
      clear hst hsl
      refine wp_seq_k fun K17 hK17 => ?_
      refine wp_seq_k fun K18 hK18 => ?_
      refine wp_region_lit ?_
      refine Kn.pure fh45 rfl rfl .none (Kn.ex_move fh45 (.tmp rfl)) fun fa46 fh46 => ?_
      clear fh45 fa45
      refine Kn.step fh46 rfl rfl .none (Kn.ex_bin fh46 (.tmp rfl) .const) fun Ko hKo => ?_
      go_simp
      try go_bits
      refine hKo _ _ fun fa47 fh47 => ?_
      clear hKo Ko fh46 fa46
      refine wpList_nil ?_
      refine hK18 _ _ ?_
      clear hK18 K18
      replace fh47 := fh47.cut (.cons (t := 59) rfl (.cons (t := 19) rfl (.cons (t := 18) rfl (.cons (t := 17) rfl (.cons (t := 16) rfl (.cons (t := 44) rfl (.cons (t := 43) rfl (.cons (t := 13) rfl (.cons (t := 15) rfl (.cons (t := 0) rfl (.cons (t := 1) rfl (.cons (t := 2) rfl (.cons (t := 3) rfl .nil)))))))))))))
      refine Kn.no fh47 (.tmp rfl) ?_
      refine wp_skip ?_
      refine hK17 _ _ ?_
      clear hK17 K17
      replace fh47 := fh47.cut (.cons (t := 18) rfl (.cons (t := 17) rfl (.cons (t := 16) rfl (.cons (t := 44) rfl (.cons (t := 43) rfl (.cons (t := 13) rfl (.cons (t := 15) rfl (.cons (t := 0) rfl (.cons (t := 1) rfl (.cons (t := 2) rfl (.cons (t := 3) rfl .nil)))))))))))
      have hn := isNode_any N t u
      by_cases htn : t < 0 ∨ N ≤ t
      · rw [nodeB_no htn] at hn
        have hf := gfault_any n1 55 (.int .i64 4) u
        unfold flt at hf
        have HF : Hid (gtC s p N v = .inl (4, n1)) := Lib.hid (HT.out.out HG.out (by rw [HY.out]; exact htn))
        clear htn
        refine wp_seq_k fun K19 hK19 => ?_
        refine wp_seq_k fun K20 hK20 => ?_
        refine wp_region_lit ?_
        refine Kn.pure fh47 rfl rfl .none (Kn.ex_move fh47 (.tmp rfl)) fun fa48 fh48 => ?_
        clear fh47 fa47
        refine Kn.pure fh48 rfl rfl .none (Kn.ex_move fh48 (.tmp rfl)) fun fa49 fh49 => ?_
        clear fh48 fa48
        refine Kn.call fh49 rfl rfl .none (Kn.ex_call fh49 (.cons (.tmp rfl) (.cons (.tmp rfl) .nil))) Tryd.call22 (hn) fun e w3 hp => ?_
        obtain ⟨rfl, rfl⟩ := hp
        refine ⟨_, rfl, fun fa50 fh50 => ?_⟩
        clear fh49 fa49
        refine Kn.step fh50 rfl rfl .none (Kn.ex_un fh50 (.tmp rfl)) fun Ko hKo => ?_
        go_simp
        try go_bits
        refine hKo _ _ fun fa51 fh51 => ?_
        clear hKo Ko fh50 fa50
        refine wpList_nil ?_
        refine hK20 _ _ ?_
        clear hK20 K20
        replace fh51 := fh51.cut (.cons (t := 65) rfl (.cons (t := 18) rfl (.cons (t := 17) rfl (.cons (t := 16) rfl (.cons (t := 44) rfl (.cons (t := 43) rfl (.cons (t := 13) rfl (.cons (t := 15) rfl (.cons (t := 0) rfl (.cons (t := 1) rfl (.cons (t := 2) rfl (.cons (t := 3) rfl .nil))))))))))))
        refine Kn.yes fh51 (.tmp rfl) ?_
        replace fh51 := fh51.cut (.cons (t := 18) rfl (.cons (t := 17) rfl (.cons (t := 16) rfl (.cons (t := 44) rfl (.cons (t := 43) rfl (.cons (t := 13) rfl (.cons (t := 15) rfl (.cons (t := 0) rfl (.cons (t := 1) rfl (.cons (t := 2) rfl (.cons (t := 3) rfl .nil)))))))))))
        refine wp_seq_k fun K21 hK21 => ?_
        refine wp_region_lit ?_
        refine Kn.pure fh51 rfl rfl .none (Kn.ex_move fh51 (.tmp rfl)) fun fa52 fh52 => ?_
        clear fh51 fa51
        refine Kn.pure fh52 rfl rfl .none (Kn.ex_move fh52 (.tmp rfl)) fun fa53 fh53 => ?_
        clear fh52 fa52
        refine Kn.step fh53 rfl rfl .none (Kn.ex_makeInterface fh53 .const) fun Ko hKo => ?_
        go_simp
        try go_bits
        refine hKo _ _ fun fa54 fh54 => ?_
        clear hKo Ko fh53 fa53
        refine Kn.call fh54 rfl rfl .none (Kn.ex_call fh54 (.cons (.tmp rfl) (.cons (.tmp rfl) .nil))) Tryd.call23 (hf) fun e w3 hp => ?_
        obtain ⟨rfl, rfl⟩ := hp
        refine ⟨_, rfl, fun fa55 fh55 => ?_⟩
        clear fh54 fa54
        refine Kn.pure fh55 rfl rfl .none (Kn.ex_assign fh55 .const) fun fa56 fh56 => ?_
        clear fh55 fa55
        refine Kn.pure fh56 rfl rfl .none (Kn.ex_assign fh56 (.tmp rfl)) fun fa57 fh57 => ?_
        clear fh56 fa56
        refine Kn.pure fh57 rfl rfl .none (Kn.ex_assign fh57 (.tmp rfl)) fun fa58 fh58 => ?_
        clear fh57 fa57
        refine wpList_nil ?_
        refine hK21 _ _ ?_
        clear hK21 K21
        replace fh58 := fh58.cut (.cons (t := 10) rfl (.cons (t := 9) rfl (.cons (t := 8) rfl (.cons (t := 18) rfl (.cons (t := 17) rfl (.cons (t := 16) rfl (.cons (t := 44) rfl (.cons (t := 43) rfl (.cons (t := 13) rfl (.cons (t := 15) rfl (.cons (t := 0) rfl (.cons (t := 1) rfl (.cons (t := 2) rfl (.cons (t := 3) rfl .nil))))))))))))))
        refine wp_ret ?_
        refine Kn.then_ret ?_
        refine Kn.block_ret ?_
        refine Kn.then_ret ?_
        refine Kn.then_ret ?_
        refine Kn.block_ret ?_
        refine Kn.then_ret ?_
        exact Kn.ret3 fh58 rfl rfl rfl rfl ⟨HB.out, .inl ⟨4, n1, HF.out, .inr (.inr (.inr rfl)), rfl⟩⟩
      rw [nodeB_yes (by omega) (by omega)] at hn
      have htr : 0 ≤ t ∧ t < N := by omega
      have HT2 : Hid (GotYet s N k (decide (i + 1 = 0)) t n2 (done ++ [t]) (gtC s p N v)) := Lib.hid (by rw [decide_eq_false (by omega)]; exact HT.out.next HG.out t HY.out htn)
      obtain ⟨u2, hstore, hH2, -, hsz, hbel⟩ := HH.out.store i (by have := HDl.out; rw [List.length_append, List.length_replicate]; omega) t
      have HH2 : Hid (HoldI u2 w.heap.size (done ++ [t] ++ List.replicate k 0)) := Lib.hid (by
        have e := set_done done t k
        rw [HDl.out] at e
        rw [← e]
        exact hH2)
      have HB2 := Lib.hid (HB.out.trans (hbel w.heap.size (Nat.le_refl _)))
      have HL2 : Hid (w.heap.size < u2.heap.size) := Lib.hid (by rw [hsz]; exact HL.out)
      have HD2 : Hid ((done ++ [t]).length = i + 1) := Lib.hid (by rw [List.length_append, HDl.out]; rfl)
      have HA2 : Hid (0 < i + 1 → nt (done ++ [t]) (i + 1 - 1) = t) := Lib.hid (fun _ => by rw [show i + 1 - 1 = done.length by rw [HDl.out]; omega]; exact nt_last done t)
      have HV2 : Hid (i + 1 = 0 → t = v) := Lib.hid (fun h => absurd h (by omega))
      clear htn hH2 hbel hsz
      refine wp_seq_k fun K19 hK19 => ?_
      refine wp_seq_k fun K20 hK20 => ?_
      refine wp_region_lit ?_
      refine Kn.pure fh47 rfl rfl .none (Kn.ex_move fh47 (.tmp rfl)) fun fa48 fh48 => ?_
      clear fh47 fa47
      refine Kn.pure fh48 rfl rfl .none (Kn.ex_move fh48 (.tmp rfl)) fun fa49 fh49 => ?_
      clear fh48 fa48
      refine Kn.call fh49 rfl rfl .none (Kn.ex_call fh49 (.cons (.tmp rfl) (.cons (.tmp rfl) .nil))) Tryd.call22 (hn) fun e w3 hp => ?_
      obtain ⟨rfl, rfl⟩ := hp
      refine ⟨_, rfl, fun fa50 fh50 => ?_⟩
      clear fh49 fa49
      refine Kn.step fh50 rfl rfl .none (Kn.ex_un fh50 (.tmp rfl)) fun Ko hKo => ?_
      go_simp
      try go_bits
      refine hKo _ _ fun fa51 fh51 => ?_
      clear hKo Ko fh50 fa50
      refine wpList_nil ?_
      refine hK20 _ _ ?_
      clear hK20 K20
      replace fh51 := fh51.cut (.cons (t := 65) rfl (.cons (t := 18) rfl (.cons (t := 17) rfl (.cons (t := 16) rfl (.cons (t := 44) rfl (.cons (t := 43) rfl (.cons (t := 13) rfl (.cons (t := 15) rfl (.cons (t := 0) rfl (.cons (t := 1) rfl (.cons (t := 2) rfl (.cons (t := 3) rfl .nil))))))))))))
      clear hn
      refine Kn.no fh51 (.tmp rfl) ?_
      refine wp_skip ?_
      refine hK19 _ _ ?_
      clear hK19 K19
      replace fh51 := fh51.cut (.cons (t := 18) rfl (.cons (t := 17) rfl (.cons (t := 16) rfl (.cons (t := 44) rfl (.cons (t := 43) rfl (.cons (t := 13) rfl (.cons (t := 15) rfl (.cons (t := 0) rfl (.cons (t := 1) rfl (.cons (t := 2) rfl (.cons (t := 3) rfl .nil)))))))))))
      refine wp_region_lit ?_
      refine Kn.pure fh51 rfl rfl .none (Kn.ex_move fh51 (.tmp rfl)) fun fa52 fh52 => ?_
      clear fh51 fa51
      refine Kn.pure fh52 rfl rfl .none (Kn.ex_move fh52 (.tmp rfl)) fun fa53 fh53 => ?_
      clear fh52 fa52
      refine Kn.pure fh53 rfl rfl .none (Kn.ex_move fh53 (.tmp rfl)) fun fa54 fh54 => ?_
      clear fh53 fa53
      refine Kn.pure fh54 rfl rfl .none (Kn.ex_move fh54 (.tmp rfl)) fun fa55 fh55 => ?_
      clear fh54 fa54
      refine Kn.step fh55 rfl rfl .none (Kn.ex_indexAddr fh55 (.tmp rfl) (.tmp rfl)) fun Ko hKo => ?_
      go_simp
      try go_bits
      refine hKo _ _ fun fa56 fh56 => ?_
      clear hKo Ko fh55 fa55
      refine Kn.stepU fh56 rfl .none (Kn.ex_store fh56 (.tmp rfl) (.tmp rfl)) fun Ko hKo => ?_
      try simp only [Nat.zero_add]
      show Kn.SatU Ko ((Instr.storeAt 3 (.pointer (some ⟨w.heap.size, i, none⟩)) (.int .i64 t)).run Tryd.prog u)
      rw [hstore]
      refine hKo _ ?_
      clear hKo Ko
      refine Kn.pure fh56 rfl rfl .none (Kn.ex_assign fh56 (.tmp rfl)) fun fa57 fh57 => ?_
      clear fh56 fa56
      refine wpList_nil ?_
      refine Kn.block_normal ?_
      refine hK14 _ _ ?_
      clear hK14 K14
      replace fh57 := fh57.cut (.cons (t := 13) rfl (.cons (t := 44) rfl (.cons (t := 43) rfl (.cons (t := 15) rfl (.cons (t := 0) rfl (.cons (t := 1) rfl (.cons (t := 2) rfl (.cons (t := 3) rfl .nil))))))))
      clear hstore
      refine wp_region_lit ?_
      refine Kn.step fh57 rfl rfl .none (Kn.ex_bin fh57 (.tmp rfl) .const) fun Ko hKo => ?_
      go_simp
      try go_bits
      refine hKo _ _ fun fa58 fh58 => ?_
      clear hKo Ko fh57 fa57
      refine Kn.pure fh58 rfl rfl .none (Kn.ex_move fh58 (.tmp rfl)) fun fa59 fh59 => ?_
      clear fh58 fa58
      refine wpList_nil ?_
      replace fh59 := fh59.cut (.cons (t := 44) rfl (.cons (t := 13) rfl (.cons (t := 43) rfl (.cons (t := 15) rfl (.cons (t := 0) rfl (.cons (t := 1) rfl (.cons (t := 2) rfl (.cons (t := 3) rfl .nil))))))))
      exact hKl11 (m11 - 1) _ _ (by omega) ⟨i + 1, k, n2, t, _, fh59.cut (.turn (t := 44) rfl (by go_num) (.cons (t := 43) rfl (.cons (t := 13) rfl (.cons (t := 15) rfl (.cons (t := 0) rfl (.cons (t := 1) rfl (.cons (t := 2) rfl (.cons (t := 3) rfl .nil)))))))), by omega, by omega, htr, HD2, HA2, HV2, HT2, HH2, HB2, HL2⟩
    have HE : Hid (gE e2 a2 = .iface 60 (.agg #[.int .i64 a2, .iface 55 (.int .i64 e2)])) := Lib.hid (gE_e he)
    rw [HE.out] at hst
    have HF : Hid (gtC s p N v = .inl (e2, a2)) := Lib.hid (HT.out.bad HG.out he)
    have HC : Hid (e2 = 1 ∨ e2 = 2 ∨ e2 = 3 ∨ e2 = 4) := Lib.hid (by rcases (rdG_bad HG.out he).2.2 with e | e | e <;> simp [e])
    clear he
    refine wp_seq_k fun K12 hK12 => ?_
    refine wp_region_lit ?_
    refine Kn.step fh28 rfl rfl .none (Kn.ex_bin fh28 (.tmp rfl) (.tmp rfl)) fun Ko hKo => ?_
    go_simp
    try go_bits
    refine hKo _ _ fun fa29 fh29 => ?_
    clear hKo Ko fh28 fa28
    refine wpList_nil ?_
    refine hK12 _ _ ?_
    clear hK12 K12
    refine wp_seq_k fun K13 hK13 => ?_
    refine Kn.yes fh29 (.tmp rfl) ?_
    refine wp_skip ?_
    refine hK13 _ _ ?_
    clear hK13 K13
    replace fh29 := fh29.cut (.cons (t := 44) rfl (.cons (t := 43) rfl (.cons (t := 13) rfl (.cons (t := 15) rfl (.cons (t := 0) rfl (.cons (t := 1) rfl (.cons (t := 2) rfl (.cons (t := 3) rfl .nil))))))))
    refine wp_seq_k fun K14 hK14 => ?_
    refine wp_block ?_
    refine wp_seq_k fun K15 hK15 => ?_
    refine wp_region_lit ?_
    refine Kn.pure fh29 rfl rfl .none (Kn.ex_move fh29 (.tmp rfl)) fun fa30 fh30 => ?_
    clear fh29 fa29
    refine Kn.pure fh30 rfl rfl .none (Kn.ex_assign fh30 (.tmp rfl)) fun fa31 fh31 => ?_
    clear fh30 fa30
    refine wpList_nil ?_
    refine hK15 _ _ ?_
    clear hK15 K15
    replace fh31 := fh31.cut (.cons (t := 16) rfl (.cons (t := 44) rfl (.cons (t := 43) rfl (.cons (t := 13) rfl (.cons (t := 15) rfl (.cons (t := 0) rfl (.cons (t := 1) rfl (.cons (t := 2) rfl (.cons (t := 3) rfl .nil)))))))))
    refine wp_seq_k fun K16 hK16 => ?_
    refine wp_region_lit ?_
    refine Kn.pure fh31 rfl rfl .none (Kn.ex_move fh31 (.tmp rfl)) fun fa32 fh32 => ?_
    clear fh31 fa31
    refine Kn.pure fh32 rfl rfl .none (Kn.ex_move fh32 (.tmp rfl)) fun fa33 fh33 => ?_
    clear fh32 fa32
    refine Kn.pure fh33 rfl rfl .none (Kn.ex_move fh33 (.tmp rfl)) fun fa34 fh34 => ?_
    clear fh33 fa33
    refine Kn.pure fh34 rfl rfl .none (Kn.ex_move fh34 (.tmp rfl)) fun fa35 fh35 => ?_
    clear fh34 fa34
    refine Kn.pure fh35 rfl rfl .none (Kn.ex_move fh35 (.tmp rfl)) fun fa36 fh36 => ?_
    clear fh35 fa35
    refine Kn.known fh36 rfl rfl .none (Kn.ex_sliceH fh36 (.tmp rfl) (.tmp rfl)) hsl fun fa37 fh37 => ?_
    clear fh36 fa36
    refine Kn.call fh37 rfl rfl .none (Kn.ex_call fh37 (.cons (.tmp rfl) (.cons (.tmp rfl) (.cons (.tmp rfl) (.cons (.tmp rfl) .nil))))) Tryd.call27 (hst) fun e w3 hp => ?_
    obtain ⟨rfl, rfl⟩ := hp
    refine ⟨_, rfl, fun fa38 fh38 => ?_⟩
    clear fh37 fa37
    refine Kn.pure fh38 rfl rfl .none (Kn.ex_move fh38 (.tmp rfl)) fun fa39 fh39 => ?_
    clear fh38 fa38
    refine Kn.pure fh39 rfl rfl .none (Kn.ex_extract fh39 (.tmp rfl) rfl) fun fa40 fh40 => ?_
    clear fh39 fa39
    refine Kn.pure fh40 rfl rfl .none (Kn.ex_extract fh40 (.tmp rfl) rfl) fun fa41 fh41 => ?_
    clear fh40 fa40
    refine Kn.pure fh41 rfl rfl .none (Kn.ex_extract fh41 (.tmp rfl) rfl) fun fa42 fh42 => ?_
    clear fh41 fa41
    refine Kn.pure fh42 rfl rfl .none (Kn.ex_assign fh42 (.tmp rfl)) fun fa43 fh43 => ?_
    clear fh42 fa42
    refine Kn.pure fh43 rfl rfl .none (Kn.ex_assign fh43 (.tmp rfl)) fun fa44 fh44 => ?_
    clear fh43 fa43
    refine Kn.pure fh44 rfl rfl .none (Kn.ex_assign fh44 (.tmp rfl)) fun fa45 fh45 => ?_
    clear fh44 fa44
    refine wpList_nil ?_
    refine hK16 _ _ ?_
    clear hK16 K16
    replace fh45 := fh45.cut (.cons (t := 19) rfl (.cons (t := 18) rfl (.cons (t := 17) rfl (.cons (t := 16) rfl (.cons (t := 44) rfl (.cons (t := 43) rfl (.cons (t := 13) rfl (.cons (t := 15) rfl (.cons (t := 0) rfl (.cons (t := 1) rfl (.cons (t := 2) rfl (.cons (t := 3) rfl .nil))))))))))))
    clear hst hsl
    refine wp_seq_k fun K17 hK17 => ?_
    refine wp_seq_k fun K18 hK18 => ?_
    refine wp_region_lit ?_
    refine Kn.pure fh45 rfl rfl .none (Kn.ex_move fh45 (.tmp rfl)) fun fa46 fh46 => ?_
    clear fh45 fa45
    refine Kn.step fh46 rfl rfl .none (Kn.ex_bin fh46 (.tmp rfl) .const) fun Ko hKo => ?_
    go_simp
    try go_bits
    refine hKo _ _ fun fa47 fh47 => ?_
    clear hKo Ko fh46 fa46
    refine wpList_nil ?_
    refine hK18 _ _ ?_
    clear hK18 K18
    replace fh47 := fh47.cut (.cons (t := 59) rfl (.cons (t := 19) rfl (.cons (t := 18) rfl (.cons (t := 17) rfl (.cons (t := 16) rfl (.cons (t := 44) rfl (.cons (t := 43) rfl (.cons (t := 13) rfl (.cons (t := 15) rfl (.cons (t := 0) rfl (.cons (t := 1) rfl (.cons (t := 2) rfl (.cons (t := 3) rfl .nil)))))))))))))
    refine Kn.yes fh47 (.tmp rfl) ?_
    replace fh47 := fh47.cut (.cons (t := 19) rfl (.cons (t := 18) rfl (.cons (t := 17) rfl (.cons (t := 16) rfl (.cons (t := 44) rfl (.cons (t := 43) rfl (.cons (t := 13) rfl (.cons (t := 15) rfl (.cons (t := 0) rfl (.cons (t := 1) rfl (.cons (t := 2) rfl (.cons (t := 3) rfl .nil))))))))))))
    refine wp_seq_k fun K19 hK19 => ?_
    refine wp_region_lit ?_
    refine Kn.pure fh47 rfl rfl .none (Kn.ex_move fh47 (.tmp rfl)) fun fa48 fh48 => ?_
    clear fh47 fa47
    refine Kn.pure fh48 rfl rfl .none (Kn.ex_move fh48 (.tmp rfl)) fun fa49 fh49 => ?_
    clear fh48 fa48
    refine Kn.pure fh49 rfl rfl .none (Kn.ex_assign fh49 .const) fun fa50 fh50 => ?_
    clear fh49 fa49
    refine Kn.pure fh50 rfl rfl .none (Kn.ex_assign fh50 (.tmp rfl)) fun fa51 fh51 => ?_
    clear fh50 fa50
    refine Kn.pure fh51 rfl rfl .none (Kn.ex_assign fh51 (.tmp rfl)) fun fa52 fh52 => ?_
    clear fh51 fa51
    refine wpList_nil ?_
    refine hK19 _ _ ?_
    clear hK19 K19
    replace fh52 := fh52.cut (.cons (t := 10) rfl (.cons (t := 9) rfl (.cons (t := 8) rfl (.cons (t := 18) rfl (.cons (t := 17) rfl (.cons (t := 16) rfl (.cons (t := 44) rfl (.cons (t := 43) rfl (.cons (t := 13) rfl (.cons (t := 15) rfl (.cons (t := 0) rfl (.cons (t := 1) rfl (.cons (t := 2) rfl (.cons (t := 3) rfl .nil))))))))))))))
    refine wp_ret ?_
    refine Kn.then_ret ?_
    refine Kn.block_ret ?_
    refine Kn.then_ret ?_
    refine Kn.then_ret ?_
    refine Kn.block_ret ?_
    refine Kn.then_ret ?_
    exact Kn.ret3 fh52 rfl rfl rfl rfl ⟨HB.out, .inl ⟨e2, a2, HF.out, HC.out, rfl⟩⟩
  have HE : Hid (gE e a = .iface 60 (.agg #[.int .i64 a, .iface 55 (.int .i64 e)])) := Lib.hid (gE_e he)
  rw [HE.out] at hcn
  have HF : Hid (gtC s p N v = .inl (e, a)) := Lib.hid (by unfold gtC; rw [hg, if_neg he])
  have HC : Hid (e = 1 ∨ e = 2 ∨ e = 3 ∨ e = 4) := Lib.hid (cntC_bad hg he).2.2
  clear hg he
  refine wp_seq_k fun K5 hK5 => ?_
  refine wp_region_lit ?_
  refine Kn.pure fh9 rfl rfl .none (Kn.ex_move fh9 (.tmp rfl)) fun fa10 fh10 => ?_
  clear fh9 fa9
  refine Kn.pure fh10 rfl rfl .none (Kn.ex_move fh10 (.tmp rfl)) fun fa11 fh11 => ?_
  clear fh10 fa10
  refine Kn.pure fh11 rfl rfl .none (Kn.ex_move fh11 (.tmp rfl)) fun fa12 fh12 => ?_
  clear fh11 fa11
  refine Kn.call fh12 rfl rfl .none (Kn.ex_call fh12 (.cons (.tmp rfl) (.cons (.tmp rfl) (.cons (.tmp rfl) .nil)))) Tryd.call26 (hcn) fun e w1 hp => ?_
  obtain ⟨rfl, rfl⟩ := hp
  refine ⟨_, rfl, fun fa13 fh13 => ?_⟩
  clear fh12 fa12
  refine Kn.pure fh13 rfl rfl .none (Kn.ex_move fh13 (.tmp rfl)) fun fa14 fh14 => ?_
  clear fh13 fa13
  refine Kn.pure fh14 rfl rfl .none (Kn.ex_extract fh14 (.tmp rfl) rfl) fun fa15 fh15 => ?_
  clear fh14 fa14
  refine Kn.pure fh15 rfl rfl .none (Kn.ex_extract fh15 (.tmp rfl) rfl) fun fa16 fh16 => ?_
  clear fh15 fa15
  refine Kn.pure fh16 rfl rfl .none (Kn.ex_extract fh16 (.tmp rfl) rfl) fun fa17 fh17 => ?_
  clear fh16 fa16
  refine Kn.pure fh17 rfl rfl .none (Kn.ex_assign fh17 (.tmp rfl)) fun fa18 fh18 => ?_
  clear fh17 fa17
  refine Kn.pure fh18 rfl rfl .none (Kn.ex_assign fh18 (.tmp rfl)) fun fa19 fh19 => ?_
  clear fh18 fa18
  refine Kn.pure fh19 rfl rfl .none (Kn.ex_assign fh19 (.tmp rfl)) fun fa20 fh20 => ?_
  clear fh19 fa19
  refine wpList_nil ?_
  refine hK5 _ _ ?_
  clear hK5 K5
  replace fh20 := fh20.cut (.cons (t := 14) rfl (.cons (t := 13) rfl (.cons (t := 12) rfl (.cons (t := 10) rfl (.cons (t := 9) rfl (.cons (t := 8) rfl (.cons (t := 0) rfl (.cons (t := 1) rfl (.cons (t := 2) rfl (.cons (t := 3) rfl .nil))))))))))
  clear hcn
  refine wp_seq_k fun K6 hK6 => ?_
  refine wp_seq_k fun K7 hK7 => ?_
  refine wp_region_lit ?_
  refine Kn.pure fh20 rfl rfl .none (Kn.ex_move fh20 (.tmp rfl)) fun fa21 fh21 => ?_
  clear fh20 fa20
  refine Kn.step fh21 rfl rfl .none (Kn.ex_bin fh21 (.tmp rfl) .const) fun Ko hKo => ?_
  go_simp
  try go_bits
  refine hKo _ _ fun fa22 fh22 => ?_
  clear hKo Ko fh21 fa21
  refine wpList_nil ?_
  refine hK7 _ _ ?_
  clear hK7 K7
  replace fh22 := fh22.cut (.cons (t := 38) rfl (.cons (t := 14) rfl (.cons (t := 13) rfl (.cons (t := 12) rfl (.cons (t := 10) rfl (.cons (t := 9) rfl (.cons (t := 8) rfl (.cons (t := 0) rfl (.cons (t := 1) rfl (.cons (t := 2) rfl (.cons (t := 3) rfl .nil)))))))))))
  refine Kn.yes fh22 (.tmp rfl) ?_
  replace fh22 := fh22.cut (.cons (t := 14) rfl (.cons (t := 13) rfl (.cons (t := 12) rfl (.cons (t := 10) rfl (.cons (t := 9) rfl (.cons (t := 8) rfl (.cons (t := 0) rfl (.cons (t := 1) rfl (.cons (t := 2) rfl (.cons (t := 3) rfl .nil))))))))))
  refine wp_seq_k fun K8 hK8 => ?_
  refine wp_region_lit ?_
  refine Kn.pure fh22 rfl rfl .none (Kn.ex_move fh22 (.tmp rfl)) fun fa23 fh23 => ?_
  clear fh22 fa22
  refine Kn.pure fh23 rfl rfl .none (Kn.ex_move fh23 (.tmp rfl)) fun fa24 fh24 => ?_
  clear fh23 fa23
  refine Kn.pure fh24 rfl rfl .none (Kn.ex_assign fh24 .const) fun fa25 fh25 => ?_
  clear fh24 fa24
  refine Kn.pure fh25 rfl rfl .none (Kn.ex_assign fh25 (.tmp rfl)) fun fa26 fh26 => ?_
  clear fh25 fa25
  refine Kn.pure fh26 rfl rfl .none (Kn.ex_assign fh26 (.tmp rfl)) fun fa27 fh27 => ?_
  clear fh26 fa26
  refine wpList_nil ?_
  refine hK8 _ _ ?_
  clear hK8 K8
  replace fh27 := fh27.cut (.cons (t := 10) rfl (.cons (t := 9) rfl (.cons (t := 8) rfl (.cons (t := 13) rfl (.cons (t := 12) rfl (.cons (t := 0) rfl (.cons (t := 1) rfl (.cons (t := 2) rfl (.cons (t := 3) rfl .nil)))))))))
  refine wp_ret ?_
  refine Kn.then_ret ?_
  exact Kn.ret3 fh27 rfl rfl rfl rfl ⟨Below.refl _ _, .inl ⟨e, a, HF.out, HC.out, rfl⟩⟩

end Go.Proofs.YtoggeiaofpdboaaDoor.Gap
