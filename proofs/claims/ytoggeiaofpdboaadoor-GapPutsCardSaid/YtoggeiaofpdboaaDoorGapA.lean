/- Contracts of the program's gap: isMany, isNode, fault, check, count, step, putStep, Skip, Count (written by gen_gapa.py). -/
import Derived.Test.YtoggeiaofpdboaaDoorGapM
import Derived.Test.YtoggeiaofpdboaaDoorHoldI
import Derived.Test.YtoggeiaofpdboaaDoorKnR
namespace Go.Proofs.YtoggeiaofpdboaaDoor.Gap
open Go Go.RowKit Go.Lib Oct Num

def manyB (N : Int) : Bool := decide (0 ≤ N ∧ N ≤ 4096)
def nodeB (N v : Int) : Bool := decide (0 ≤ v ∧ v < N)
theorem manyB_yes {N : Int} (h0 : 0 ≤ N) (h1 : N ≤ 4096) : manyB N = true := decide_eq_true ⟨h0, h1⟩
theorem manyB_no {N : Int} (h : N < 0 ∨ 4096 < N) : manyB N = false := decide_eq_false (by omega)
theorem nodeB_yes {N v : Int} (h0 : 0 ≤ v) (h1 : v < N) : nodeB N v = true := decide_eq_true ⟨h0, h1⟩
theorem nodeB_no {N v : Int} (h : v < 0 ∨ N ≤ v) : nodeB N v = false := decide_eq_false (by omega)
/-- An error in an api.Fault. -/
def flt (p : Int) (E : Value) : Value := .iface 60 (.agg #[.int .i64 p, E])
/-- The error's value, by its number and its place. -/
def gE (e a : Int) : Value := if e = 0 then .nilIface else Oct.faultV a e
theorem gE_0 (a : Int) : gE 0 a = .nilIface := rfl
theorem gE_e {e a : Int} (h : e ≠ 0) : gE e a = .iface 60 (.agg #[.int .i64 a, .iface 55 (.int .i64 e)]) := by unfold gE; rw [if_neg h]; rfl
theorem rd_code : ∀ (l : List UInt8), (rd l).2.2 = 0 ∨ (rd l).2.2 = 3 ∨ (rd l).2.2 = 4 := by
  have H : ∀ (m : Nat) (nf : Bool) (l : List UInt8), (rdF m nf l).2.2 = 0 ∨ (rdF m nf l).2.2 = 3 ∨ (rdF m nf l).2.2 = 4 := by
    intro m
    induction m with
    | zero => intro nf l; rw [rdF]; simp
    | succ m ih =>
      intro nf l
      cases l with
      | nil => rw [rdF]; simp
      | cons b r =>
        rw [rdF]
        have := ih true r
        split
        · simp
        split
        · simp
        split
        · simp
        · exact this
  exact H 8 false
/-- What octet.Short answers. -/
theorem short_g (s : ByteArray) (p : Int) (w : World) (hs : s.size ≤ maxLen) :
    Calls Tryd.prog 28 #[.string s, .int .i64 p] w fun e w' => e = .returned (.tuple #[.int .i64 (rdG s p).1, .int .i64 (rdG s p).2.1, gE (rdG s p).2.2.1 (rdG s p).2.2.2]) ∧ w = w' := by
  by_cases hp : p < 0 ∨ (s.size : Int) < p
  · refine (short_arg s p w hs hp).mono fun e w' ⟨he, hw⟩ => ⟨?_, hw⟩
    rw [he]
    unfold rdG
    rw [if_pos hp]
    rfl
  · refine (short_any s p w hs (by omega) (by omega)).mono fun e w' ⟨he, hw⟩ => ⟨?_, hw⟩
    rw [he]
    unfold rdG shortAns rdErr gE
    rw [if_neg hp]
    by_cases h0 : (rd (s.data.toList.drop p.toNat)).2.2 = 0
    · simp [h0]
    · have hz := rdF_err 8 false _ h0
      have hz2 : rd (s.data.toList.drop p.toNat) = (0, 0, (rd (s.data.toList.drop p.toNat)).2.2) := hz
      by_cases h3 : (rd (s.data.toList.drop p.toNat)).2.2 = 3
      · rw [hz2, h3]
        simp
      · have h4 : (rd (s.data.toList.drop p.toNat)).2.2 = 4 := by
          rcases rd_code (s.data.toList.drop p.toNat) with h | h | h
          · exact absurd h h0
          · exact absurd h h3
          · exact h
        rw [hz2, h4]
        simp
set_option maxRecDepth 100000 in
set_option maxHeartbeats 2000000 in
theorem turned_g (s : ByteArray) (p : Int) (w : World) (hs : s.size ≤ maxLen) :
    Calls Tryd.prog 40 #[.string s, .int .i64 p] w fun e w' => e = .returned (.tuple #[.int .i64 (bkI (rdG s p).1), .int .i64 (rdG s p).2.1, gE (rdG s p).2.2.1 (rdG s p).2.2.2]) ∧ w = w' := by
  rcases hg : rdG s p with ⟨x, nx, e, a⟩
  have hsh := short_g s p w hs
  rw [hg] at hsh
  have hx : 0 ≤ x ∧ x ≤ 72057594037927935 := by
    by_cases he : e = 0
    · subst he; exact (rdG_ok hg).1
    · have := (rdG_bad hg he).1; omega
  have hbk := back_any x w (by omega)
  have e1 : backOf x = bkI x := by
    unfold backOf bkI
    rw [if_neg (by omega)]
    split <;> omega
  rw [e1] at hbk
  refine Kn.calls Tryd.func40 rfl Tryd.ntmps40 rfl (.cons (t := 0) rfl (.cons (t := 1) rfl .nil)) fun fa0 fh0 => ?_
  refine wp_seq_k fun K1 hK1 => ?_
  refine wp_region_lit ?_
  refine Kn.pure fh0 rfl rfl .none (Kn.ex_assign fh0 .const) fun fa1 fh1 => ?_
  clear fh0 fa0
  refine Kn.pure fh1 rfl rfl .none (Kn.ex_assign fh1 .const) fun fa2 fh2 => ?_
  clear fh1 fa1
  refine Kn.pure fh2 rfl rfl .none (Kn.ex_assign fh2 .const) fun fa3 fh3 => ?_
  clear fh2 fa2
  refine wpList_nil ?_
  refine hK1 _ _ ?_
  clear hK1 K1
  refine wp_seq_k fun K2 hK2 => ?_
  refine wp_region_lit ?_
  refine Kn.pure fh3 rfl rfl .none (Kn.ex_move fh3 (.tmp rfl)) fun fa4 fh4 => ?_
  clear fh3 fa3
  refine Kn.pure fh4 rfl rfl .none (Kn.ex_move fh4 (.tmp rfl)) fun fa5 fh5 => ?_
  clear fh4 fa4
  refine Kn.call fh5 rfl rfl .none (Kn.ex_call fh5 (.cons (.tmp rfl) (.cons (.tmp rfl) .nil))) Tryd.call28 (hsh) fun e w1 hp => ?_
  obtain ⟨rfl, rfl⟩ := hp
  refine ⟨_, rfl, fun fa6 fh6 => ?_⟩
  clear fh5 fa5
  refine Kn.pure fh6 rfl rfl .none (Kn.ex_move fh6 (.tmp rfl)) fun fa7 fh7 => ?_
  clear fh6 fa6
  refine Kn.pure fh7 rfl rfl .none (Kn.ex_extract fh7 (.tmp rfl) rfl) fun fa8 fh8 => ?_
  clear fh7 fa7
  refine Kn.pure fh8 rfl rfl .none (Kn.ex_extract fh8 (.tmp rfl) rfl) fun fa9 fh9 => ?_
  clear fh8 fa8
  refine Kn.pure fh9 rfl rfl .none (Kn.ex_extract fh9 (.tmp rfl) rfl) fun fa10 fh10 => ?_
  clear fh9 fa9
  refine Kn.pure fh10 rfl rfl .none (Kn.ex_assign fh10 (.tmp rfl)) fun fa11 fh11 => ?_
  clear fh10 fa10
  refine Kn.pure fh11 rfl rfl .none (Kn.ex_assign fh11 (.tmp rfl)) fun fa12 fh12 => ?_
  clear fh11 fa11
  refine Kn.pure fh12 rfl rfl .none (Kn.ex_assign fh12 (.tmp rfl)) fun fa13 fh13 => ?_
  clear fh12 fa12
  refine wpList_nil ?_
  refine hK2 _ _ ?_
  clear hK2 K2
  replace fh13 := fh13.cut (.cons (t := 9) rfl (.cons (t := 8) rfl (.cons (t := 7) rfl (.cons (t := 6) rfl (.cons (t := 5) rfl (.cons (t := 4) rfl .nil))))))
  clear hsh
  refine wp_seq_k fun K3 hK3 => ?_
  refine wp_region_lit ?_
  refine Kn.pure fh13 rfl rfl .none (Kn.ex_move fh13 (.tmp rfl)) fun fa14 fh14 => ?_
  clear fh13 fa13
  refine Kn.call fh14 rfl rfl .none (Kn.ex_call fh14 (.cons (.tmp rfl) .nil)) Tryd.call48 (hbk) fun e w1 hp => ?_
  obtain ⟨rfl, rfl⟩ := hp
  refine ⟨_, rfl, fun fa15 fh15 => ?_⟩
  clear fh14 fa14
  refine Kn.pure fh15 rfl rfl .none (Kn.ex_move fh15 (.tmp rfl)) fun fa16 fh16 => ?_
  clear fh15 fa15
  refine Kn.pure fh16 rfl rfl .none (Kn.ex_move fh16 (.tmp rfl)) fun fa17 fh17 => ?_
  clear fh16 fa16
  refine Kn.pure fh17 rfl rfl .none (Kn.ex_assign fh17 (.tmp rfl)) fun fa18 fh18 => ?_
  clear fh17 fa17
  refine Kn.pure fh18 rfl rfl .none (Kn.ex_assign fh18 (.tmp rfl)) fun fa19 fh19 => ?_
  clear fh18 fa18
  refine Kn.pure fh19 rfl rfl .none (Kn.ex_assign fh19 (.tmp rfl)) fun fa20 fh20 => ?_
  clear fh19 fa19
  refine wpList_nil ?_
  refine hK3 _ _ ?_
  clear hK3 K3
  replace fh20 := fh20.cut (.cons (t := 6) rfl (.cons (t := 5) rfl (.cons (t := 4) rfl .nil)))
  refine wp_ret ?_
  exact Kn.ret3 fh20 rfl rfl rfl rfl ⟨rfl, rfl⟩

set_option maxRecDepth 100000 in
set_option maxHeartbeats 2000000 in
theorem isMany_any (N : Int) (w : World) :
    Calls Tryd.prog 33 #[.int .i64 N] w fun e w' => e = .returned (.bool (manyB N)) ∧ w = w' := by
  refine Kn.calls Tryd.func33 rfl Tryd.ntmps33 rfl (.cons (t := 0) rfl .nil) fun fa0 fh0 => ?_
  refine wp_seq_k fun K1 hK1 => ?_
  refine wp_region_lit ?_
  refine Kn.pure fh0 rfl rfl .none (Kn.ex_assign fh0 .const) fun fa1 fh1 => ?_
  clear fh0 fa0
  refine wpList_nil ?_
  refine hK1 _ _ ?_
  clear hK1 K1
  by_cases h1 : N < 0
  · have q1 : ¬ 0 ≤ N := by omega
    refine wp_seq_k fun K2 hK2 => ?_
    refine wp_region_lit ?_
    refine Kn.pure fh1 rfl rfl .none (Kn.ex_move fh1 (.tmp rfl)) fun fa2 fh2 => ?_
    clear fh1 fa1
    refine Kn.step fh2 rfl rfl .none (Kn.ex_bin fh2 (.tmp rfl) .const) fun Ko hKo => ?_
    go_simp
    try go_bits
    refine hKo _ _ fun fa3 fh3 => ?_
    clear hKo Ko fh2 fa2
    refine Kn.pure fh3 rfl rfl .none (Kn.ex_move fh3 (.tmp rfl)) fun fa4 fh4 => ?_
    clear fh3 fa3
    refine Kn.skip fh4 rfl rfl (.some rfl rfl rfl) fun fa5 fh5 => ?_
    clear fh4 fa4
    refine Kn.skip fh5 rfl rfl (.some rfl rfl rfl) fun fa6 fh6 => ?_
    clear fh5 fa5
    refine Kn.pure fh6 rfl rfl .none (Kn.ex_pick fh6 (.tmp rfl) .const) fun fa7 fh7 => ?_
    clear fh6 fa6
    refine Kn.pure fh7 rfl rfl .none (Kn.ex_assign fh7 (.tmp rfl)) fun fa8 fh8 => ?_
    clear fh7 fa7
    refine wpList_nil ?_
    refine hK2 _ _ ?_
    clear hK2 K2
    replace fh8 := fh8.cut (.cons (t := 2) rfl .nil)
    refine wp_ret ?_
    exact Kn.ret1 fh8 rfl rfl ⟨by rw [manyB_no (.inl h1)], rfl⟩
  have h0 : 0 ≤ N := by omega
  by_cases h2 : 4096 < N
  · have q1 : ¬ N ≤ 4096 := by omega
    refine wp_seq_k fun K2 hK2 => ?_
    refine wp_region_lit ?_
    refine Kn.pure fh1 rfl rfl .none (Kn.ex_move fh1 (.tmp rfl)) fun fa2 fh2 => ?_
    clear fh1 fa1
    refine Kn.step fh2 rfl rfl .none (Kn.ex_bin fh2 (.tmp rfl) .const) fun Ko hKo => ?_
    go_simp
    try go_bits
    refine hKo _ _ fun fa3 fh3 => ?_
    clear hKo Ko fh2 fa2
    refine Kn.pure fh3 rfl rfl .none (Kn.ex_move fh3 (.tmp rfl)) fun fa4 fh4 => ?_
    clear fh3 fa3
    refine Kn.pure fh4 rfl rfl (.some rfl rfl rfl) (Kn.ex_move fh4 (.tmp rfl)) fun fa5 fh5 => ?_
    clear fh4 fa4
    refine Kn.step fh5 rfl rfl (.some rfl rfl rfl) (Kn.ex_bin fh5 (.tmp rfl) .const) fun Ko hKo => ?_
    go_simp
    try go_bits
    refine hKo _ _ fun fa6 fh6 => ?_
    clear hKo Ko fh5 fa5
    refine Kn.pure fh6 rfl rfl .none (Kn.ex_pick fh6 (.tmp rfl) (.tmp rfl)) fun fa7 fh7 => ?_
    clear fh6 fa6
    refine Kn.pure fh7 rfl rfl .none (Kn.ex_assign fh7 (.tmp rfl)) fun fa8 fh8 => ?_
    clear fh7 fa7
    refine wpList_nil ?_
    refine hK2 _ _ ?_
    clear hK2 K2
    replace fh8 := fh8.cut (.cons (t := 2) rfl .nil)
    refine wp_ret ?_
    exact Kn.ret1 fh8 rfl rfl ⟨by rw [manyB_no (.inr h2)], rfl⟩
  have q1 : N ≤ 4096 := by omega
  refine wp_seq_k fun K2 hK2 => ?_
  refine wp_region_lit ?_
  refine Kn.pure fh1 rfl rfl .none (Kn.ex_move fh1 (.tmp rfl)) fun fa2 fh2 => ?_
  clear fh1 fa1
  refine Kn.step fh2 rfl rfl .none (Kn.ex_bin fh2 (.tmp rfl) .const) fun Ko hKo => ?_
  go_simp
  try go_bits
  refine hKo _ _ fun fa3 fh3 => ?_
  clear hKo Ko fh2 fa2
  refine Kn.pure fh3 rfl rfl .none (Kn.ex_move fh3 (.tmp rfl)) fun fa4 fh4 => ?_
  clear fh3 fa3
  refine Kn.pure fh4 rfl rfl (.some rfl rfl rfl) (Kn.ex_move fh4 (.tmp rfl)) fun fa5 fh5 => ?_
  clear fh4 fa4
  refine Kn.step fh5 rfl rfl (.some rfl rfl rfl) (Kn.ex_bin fh5 (.tmp rfl) .const) fun Ko hKo => ?_
  go_simp
  try go_bits
  refine hKo _ _ fun fa6 fh6 => ?_
  clear hKo Ko fh5 fa5
  refine Kn.pure fh6 rfl rfl .none (Kn.ex_pick fh6 (.tmp rfl) (.tmp rfl)) fun fa7 fh7 => ?_
  clear fh6 fa6
  refine Kn.pure fh7 rfl rfl .none (Kn.ex_assign fh7 (.tmp rfl)) fun fa8 fh8 => ?_
  clear fh7 fa7
  refine wpList_nil ?_
  refine hK2 _ _ ?_
  clear hK2 K2
  replace fh8 := fh8.cut (.cons (t := 2) rfl .nil)
  refine wp_ret ?_
  exact Kn.ret1 fh8 rfl rfl ⟨by rw [manyB_yes h0 q1], rfl⟩

set_option maxRecDepth 100000 in
set_option maxHeartbeats 2000000 in
theorem isNode_any (N v : Int) (w : World) :
    Calls Tryd.prog 22 #[.int .i64 N, .int .i64 v] w fun e w' => e = .returned (.bool (nodeB N v)) ∧ w = w' := by
  refine Kn.calls Tryd.func22 rfl Tryd.ntmps22 rfl (.cons (t := 0) rfl (.cons (t := 1) rfl .nil)) fun fa0 fh0 => ?_
  refine wp_seq_k fun K1 hK1 => ?_
  refine wp_region_lit ?_
  refine Kn.pure fh0 rfl rfl .none (Kn.ex_assign fh0 .const) fun fa1 fh1 => ?_
  clear fh0 fa0
  refine wpList_nil ?_
  refine hK1 _ _ ?_
  clear hK1 K1
  by_cases h1 : v < 0
  · have q1 : ¬ 0 ≤ v := by omega
    refine wp_seq_k fun K2 hK2 => ?_
    refine wp_region_lit ?_
    refine Kn.pure fh1 rfl rfl .none (Kn.ex_move fh1 (.tmp rfl)) fun fa2 fh2 => ?_
    clear fh1 fa1
    refine Kn.step fh2 rfl rfl .none (Kn.ex_bin fh2 (.tmp rfl) .const) fun Ko hKo => ?_
    go_simp
    try go_bits
    refine hKo _ _ fun fa3 fh3 => ?_
    clear hKo Ko fh2 fa2
    refine Kn.pure fh3 rfl rfl .none (Kn.ex_move fh3 (.tmp rfl)) fun fa4 fh4 => ?_
    clear fh3 fa3
    refine Kn.skip fh4 rfl rfl (.some rfl rfl rfl) fun fa5 fh5 => ?_
    clear fh4 fa4
    refine Kn.skip fh5 rfl rfl (.some rfl rfl rfl) fun fa6 fh6 => ?_
    clear fh5 fa5
    refine Kn.skip fh6 rfl rfl (.some rfl rfl rfl) fun fa7 fh7 => ?_
    clear fh6 fa6
    refine Kn.pure fh7 rfl rfl .none (Kn.ex_pick fh7 (.tmp rfl) .const) fun fa8 fh8 => ?_
    clear fh7 fa7
    refine Kn.pure fh8 rfl rfl .none (Kn.ex_assign fh8 (.tmp rfl)) fun fa9 fh9 => ?_
    clear fh8 fa8
    refine wpList_nil ?_
    refine hK2 _ _ ?_
    clear hK2 K2
    replace fh9 := fh9.cut (.cons (t := 4) rfl .nil)
    refine wp_ret ?_
    exact Kn.ret1 fh9 rfl rfl ⟨by rw [nodeB_no (.inl h1)], rfl⟩
  have h0 : 0 ≤ v := by omega
  by_cases h2 : N ≤ v
  · have q1 : ¬ v < N := by omega
    refine wp_seq_k fun K2 hK2 => ?_
    refine wp_region_lit ?_
    refine Kn.pure fh1 rfl rfl .none (Kn.ex_move fh1 (.tmp rfl)) fun fa2 fh2 => ?_
    clear fh1 fa1
    refine Kn.step fh2 rfl rfl .none (Kn.ex_bin fh2 (.tmp rfl) .const) fun Ko hKo => ?_
    go_simp
    try go_bits
    refine hKo _ _ fun fa3 fh3 => ?_
    clear hKo Ko fh2 fa2
    refine Kn.pure fh3 rfl rfl .none (Kn.ex_move fh3 (.tmp rfl)) fun fa4 fh4 => ?_
    clear fh3 fa3
    refine Kn.pure fh4 rfl rfl (.some rfl rfl rfl) (Kn.ex_move fh4 (.tmp rfl)) fun fa5 fh5 => ?_
    clear fh4 fa4
    refine Kn.pure fh5 rfl rfl (.some rfl rfl rfl) (Kn.ex_move fh5 (.tmp rfl)) fun fa6 fh6 => ?_
    clear fh5 fa5
    refine Kn.step fh6 rfl rfl (.some rfl rfl rfl) (Kn.ex_bin fh6 (.tmp rfl) (.tmp rfl)) fun Ko hKo => ?_
    go_simp
    try go_bits
    refine hKo _ _ fun fa7 fh7 => ?_
    clear hKo Ko fh6 fa6
    refine Kn.pure fh7 rfl rfl .none (Kn.ex_pick fh7 (.tmp rfl) (.tmp rfl)) fun fa8 fh8 => ?_
    clear fh7 fa7
    refine Kn.pure fh8 rfl rfl .none (Kn.ex_assign fh8 (.tmp rfl)) fun fa9 fh9 => ?_
    clear fh8 fa8
    refine wpList_nil ?_
    refine hK2 _ _ ?_
    clear hK2 K2
    replace fh9 := fh9.cut (.cons (t := 4) rfl .nil)
    refine wp_ret ?_
    exact Kn.ret1 fh9 rfl rfl ⟨by rw [nodeB_no (.inr h2)], rfl⟩
  have h3 : v < N := by omega
  refine wp_seq_k fun K2 hK2 => ?_
  refine wp_region_lit ?_
  refine Kn.pure fh1 rfl rfl .none (Kn.ex_move fh1 (.tmp rfl)) fun fa2 fh2 => ?_
  clear fh1 fa1
  refine Kn.step fh2 rfl rfl .none (Kn.ex_bin fh2 (.tmp rfl) .const) fun Ko hKo => ?_
  go_simp
  try go_bits
  refine hKo _ _ fun fa3 fh3 => ?_
  clear hKo Ko fh2 fa2
  refine Kn.pure fh3 rfl rfl .none (Kn.ex_move fh3 (.tmp rfl)) fun fa4 fh4 => ?_
  clear fh3 fa3
  refine Kn.pure fh4 rfl rfl (.some rfl rfl rfl) (Kn.ex_move fh4 (.tmp rfl)) fun fa5 fh5 => ?_
  clear fh4 fa4
  refine Kn.pure fh5 rfl rfl (.some rfl rfl rfl) (Kn.ex_move fh5 (.tmp rfl)) fun fa6 fh6 => ?_
  clear fh5 fa5
  refine Kn.step fh6 rfl rfl (.some rfl rfl rfl) (Kn.ex_bin fh6 (.tmp rfl) (.tmp rfl)) fun Ko hKo => ?_
  go_simp
  try go_bits
  refine hKo _ _ fun fa7 fh7 => ?_
  clear hKo Ko fh6 fa6
  refine Kn.pure fh7 rfl rfl .none (Kn.ex_pick fh7 (.tmp rfl) (.tmp rfl)) fun fa8 fh8 => ?_
  clear fh7 fa7
  refine Kn.pure fh8 rfl rfl .none (Kn.ex_assign fh8 (.tmp rfl)) fun fa9 fh9 => ?_
  clear fh8 fa8
  refine wpList_nil ?_
  refine hK2 _ _ ?_
  clear hK2 K2
  replace fh9 := fh9.cut (.cons (t := 4) rfl .nil)
  refine wp_ret ?_
  exact Kn.ret1 fh9 rfl rfl ⟨by rw [nodeB_yes h0 h3], rfl⟩

set_option maxRecDepth 100000 in
set_option maxHeartbeats 2000000 in
theorem gfault_any (p : Int) (T : TypeId) (X : Value) (w : World) :
    Calls Tryd.prog 23 #[.int .i64 p, .iface T X] w fun e w' => e = .returned (flt p (.iface T X)) ∧ w = w' := by
  refine Kn.calls Tryd.func23 rfl Tryd.ntmps23 rfl (.cons (t := 0) rfl (.cons (t := 1) rfl .nil)) fun fa0 fh0 => ?_
  refine wp_seq_k fun K1 hK1 => ?_
  refine wp_region_lit ?_
  refine Kn.pure fh0 rfl rfl .none (Kn.ex_assign fh0 .const) fun fa1 fh1 => ?_
  clear fh0 fa0
  refine wpList_nil ?_
  refine hK1 _ _ ?_
  clear hK1 K1
  refine wp_seq_k fun K2 hK2 => ?_
  refine wp_region_lit ?_
  refine Kn.pure fh1 rfl rfl .none (Kn.ex_move fh1 (.tmp rfl)) fun fa2 fh2 => ?_
  clear fh1 fa1
  refine Kn.pure fh2 rfl rfl .none (Kn.ex_move fh2 (.tmp rfl)) fun fa3 fh3 => ?_
  clear fh2 fa2
  refine Kn.step fh3 rfl rfl .none (Kn.ex_build fh3 (.cons (.tmp rfl) (.cons (.tmp rfl) .nil))) fun Ko hKo => ?_
  go_simp
  try go_bits
  refine hKo _ _ fun fa4 fh4 => ?_
  clear hKo Ko fh3 fa3
  refine Kn.step fh4 rfl rfl .none (Kn.ex_makeInterface fh4 (.tmp rfl)) fun Ko hKo => ?_
  go_simp
  try go_bits
  refine hKo _ _ fun fa5 fh5 => ?_
  clear hKo Ko fh4 fa4
  refine Kn.pure fh5 rfl rfl .none (Kn.ex_assign fh5 (.tmp rfl)) fun fa6 fh6 => ?_
  clear fh5 fa5
  refine wpList_nil ?_
  refine hK2 _ _ ?_
  clear hK2 K2
  replace fh6 := fh6.cut (.cons (t := 4) rfl .nil)
  refine wp_ret ?_
  exact Kn.ret1 fh6 rfl rfl ⟨rfl, rfl⟩

set_option maxRecDepth 100000 in
set_option maxHeartbeats 2000000 in
theorem check_arg (N v : Int) (w : World) (h : N < 0 ∨ 4096 < N) :
    Calls Tryd.prog 20 #[.int .i64 N, .int .i64 v] w fun e w' => e = .returned (errnoV 1) ∧ w = w' := by
  refine Kn.calls Tryd.func20 rfl Tryd.ntmps20 rfl (.cons (t := 0) rfl (.cons (t := 1) rfl .nil)) fun fa0 fh0 => ?_
  refine wp_seq_k fun K1 hK1 => ?_
  refine wp_region_lit ?_
  refine Kn.pure fh0 rfl rfl .none (Kn.ex_assign fh0 .const) fun fa1 fh1 => ?_
  clear fh0 fa0
  refine wpList_nil ?_
  refine hK1 _ _ ?_
  clear hK1 K1
  have hm := isMany_any N w
  rw [manyB_no h] at hm
  refine wp_seq_k fun K2 hK2 => ?_
  refine wp_seq_k fun K3 hK3 => ?_
  refine wp_region_lit ?_
  refine Kn.pure fh1 rfl rfl .none (Kn.ex_move fh1 (.tmp rfl)) fun fa2 fh2 => ?_
  clear fh1 fa1
  refine Kn.call fh2 rfl rfl .none (Kn.ex_call fh2 (.cons (.tmp rfl) .nil)) Tryd.call33 (hm) fun e w1 hp => ?_
  obtain ⟨rfl, rfl⟩ := hp
  refine ⟨_, rfl, fun fa3 fh3 => ?_⟩
  clear fh2 fa2
  refine Kn.step fh3 rfl rfl .none (Kn.ex_un fh3 (.tmp rfl)) fun Ko hKo => ?_
  go_simp
  try go_bits
  refine hKo _ _ fun fa4 fh4 => ?_
  clear hKo Ko fh3 fa3
  refine wpList_nil ?_
  refine hK3 _ _ ?_
  clear hK3 K3
  replace fh4 := fh4.cut (.cons (t := 7) rfl (.cons (t := 4) rfl (.cons (t := 0) rfl (.cons (t := 1) rfl .nil))))
  clear hm
  refine Kn.yes fh4 (.tmp rfl) ?_
  replace fh4 := fh4.cut (.cons (t := 4) rfl (.cons (t := 0) rfl (.cons (t := 1) rfl .nil)))
  refine wp_seq_k fun K4 hK4 => ?_
  refine wp_region_lit ?_
  refine Kn.step fh4 rfl rfl .none (Kn.ex_makeInterface fh4 .const) fun Ko hKo => ?_
  go_simp
  try go_bits
  refine hKo _ _ fun fa5 fh5 => ?_
  clear hKo Ko fh4 fa4
  refine Kn.pure fh5 rfl rfl .none (Kn.ex_assign fh5 (.tmp rfl)) fun fa6 fh6 => ?_
  clear fh5 fa5
  refine wpList_nil ?_
  refine hK4 _ _ ?_
  clear hK4 K4
  replace fh6 := fh6.cut (.cons (t := 4) rfl (.cons (t := 0) rfl (.cons (t := 1) rfl .nil)))
  refine wp_ret ?_
  refine Kn.then_ret ?_
  exact Kn.ret1 fh6 rfl rfl ⟨rfl, rfl⟩

set_option maxRecDepth 100000 in
set_option maxHeartbeats 2000000 in
theorem check_range (N v : Int) (w : World) (h0 : 0 ≤ N) (h1 : N ≤ 4096) (h : v < 0 ∨ N ≤ v) :
    Calls Tryd.prog 20 #[.int .i64 N, .int .i64 v] w fun e w' => e = .returned (errnoV 2) ∧ w = w' := by
  refine Kn.calls Tryd.func20 rfl Tryd.ntmps20 rfl (.cons (t := 0) rfl (.cons (t := 1) rfl .nil)) fun fa0 fh0 => ?_
  refine wp_seq_k fun K1 hK1 => ?_
  refine wp_region_lit ?_
  refine Kn.pure fh0 rfl rfl .none (Kn.ex_assign fh0 .const) fun fa1 fh1 => ?_
  clear fh0 fa0
  refine wpList_nil ?_
  refine hK1 _ _ ?_
  clear hK1 K1
  have hm := isMany_any N w
  rw [manyB_yes h0 h1] at hm
  refine wp_seq_k fun K2 hK2 => ?_
  refine wp_seq_k fun K3 hK3 => ?_
  refine wp_region_lit ?_
  refine Kn.pure fh1 rfl rfl .none (Kn.ex_move fh1 (.tmp rfl)) fun fa2 fh2 => ?_
  clear fh1 fa1
  refine Kn.call fh2 rfl rfl .none (Kn.ex_call fh2 (.cons (.tmp rfl) .nil)) Tryd.call33 (hm) fun e w1 hp => ?_
  obtain ⟨rfl, rfl⟩ := hp
  refine ⟨_, rfl, fun fa3 fh3 => ?_⟩
  clear fh2 fa2
  refine Kn.step fh3 rfl rfl .none (Kn.ex_un fh3 (.tmp rfl)) fun Ko hKo => ?_
  go_simp
  try go_bits
  refine hKo _ _ fun fa4 fh4 => ?_
  clear hKo Ko fh3 fa3
  refine wpList_nil ?_
  refine hK3 _ _ ?_
  clear hK3 K3
  replace fh4 := fh4.cut (.cons (t := 7) rfl (.cons (t := 4) rfl (.cons (t := 0) rfl (.cons (t := 1) rfl .nil))))
  clear hm
  refine Kn.no fh4 (.tmp rfl) ?_
  refine wp_skip ?_
  refine hK2 _ _ ?_
  clear hK2 K2
  replace fh4 := fh4.cut (.cons (t := 4) rfl (.cons (t := 0) rfl (.cons (t := 1) rfl .nil)))
  have hn := isNode_any N v w
  rw [nodeB_no h] at hn
  refine wp_seq_k fun K4 hK4 => ?_
  refine wp_seq_k fun K5 hK5 => ?_
  refine wp_region_lit ?_
  refine Kn.pure fh4 rfl rfl .none (Kn.ex_move fh4 (.tmp rfl)) fun fa5 fh5 => ?_
  clear fh4 fa4
  refine Kn.pure fh5 rfl rfl .none (Kn.ex_move fh5 (.tmp rfl)) fun fa6 fh6 => ?_
  clear fh5 fa5
  refine Kn.call fh6 rfl rfl .none (Kn.ex_call fh6 (.cons (.tmp rfl) (.cons (.tmp rfl) .nil))) Tryd.call22 (hn) fun e w1 hp => ?_
  obtain ⟨rfl, rfl⟩ := hp
  refine ⟨_, rfl, fun fa7 fh7 => ?_⟩
  clear fh6 fa6
  refine Kn.step fh7 rfl rfl .none (Kn.ex_un fh7 (.tmp rfl)) fun Ko hKo => ?_
  go_simp
  try go_bits
  refine hKo _ _ fun fa8 fh8 => ?_
  clear hKo Ko fh7 fa7
  refine wpList_nil ?_
  refine hK5 _ _ ?_
  clear hK5 K5
  replace fh8 := fh8.cut (.cons (t := 12) rfl (.cons (t := 4) rfl .nil))
  clear hn
  refine Kn.yes fh8 (.tmp rfl) ?_
  replace fh8 := fh8.cut (.cons (t := 4) rfl .nil)
  refine wp_seq_k fun K6 hK6 => ?_
  refine wp_region_lit ?_
  refine Kn.step fh8 rfl rfl .none (Kn.ex_makeInterface fh8 .const) fun Ko hKo => ?_
  go_simp
  try go_bits
  refine hKo _ _ fun fa9 fh9 => ?_
  clear hKo Ko fh8 fa8
  refine Kn.pure fh9 rfl rfl .none (Kn.ex_assign fh9 (.tmp rfl)) fun fa10 fh10 => ?_
  clear fh9 fa9
  refine wpList_nil ?_
  refine hK6 _ _ ?_
  clear hK6 K6
  replace fh10 := fh10.cut (.cons (t := 4) rfl .nil)
  refine wp_ret ?_
  refine Kn.then_ret ?_
  exact Kn.ret1 fh10 rfl rfl ⟨rfl, rfl⟩

set_option maxRecDepth 100000 in
set_option maxHeartbeats 2000000 in
theorem check_ok (N v : Int) (w : World) (h0 : 0 ≤ N) (h1 : N ≤ 4096) (h2 : 0 ≤ v) (h3 : v < N) :
    Calls Tryd.prog 20 #[.int .i64 N, .int .i64 v] w fun e w' => e = .returned (.nilIface) ∧ w = w' := by
  refine Kn.calls Tryd.func20 rfl Tryd.ntmps20 rfl (.cons (t := 0) rfl (.cons (t := 1) rfl .nil)) fun fa0 fh0 => ?_
  refine wp_seq_k fun K1 hK1 => ?_
  refine wp_region_lit ?_
  refine Kn.pure fh0 rfl rfl .none (Kn.ex_assign fh0 .const) fun fa1 fh1 => ?_
  clear fh0 fa0
  refine wpList_nil ?_
  refine hK1 _ _ ?_
  clear hK1 K1
  have hm := isMany_any N w
  rw [manyB_yes h0 h1] at hm
  refine wp_seq_k fun K2 hK2 => ?_
  refine wp_seq_k fun K3 hK3 => ?_
  refine wp_region_lit ?_
  refine Kn.pure fh1 rfl rfl .none (Kn.ex_move fh1 (.tmp rfl)) fun fa2 fh2 => ?_
  clear fh1 fa1
  refine Kn.call fh2 rfl rfl .none (Kn.ex_call fh2 (.cons (.tmp rfl) .nil)) Tryd.call33 (hm) fun e w1 hp => ?_
  obtain ⟨rfl, rfl⟩ := hp
  refine ⟨_, rfl, fun fa3 fh3 => ?_⟩
  clear fh2 fa2
  refine Kn.step fh3 rfl rfl .none (Kn.ex_un fh3 (.tmp rfl)) fun Ko hKo => ?_
  go_simp
  try go_bits
  refine hKo _ _ fun fa4 fh4 => ?_
  clear hKo Ko fh3 fa3
  refine wpList_nil ?_
  refine hK3 _ _ ?_
  clear hK3 K3
  replace fh4 := fh4.cut (.cons (t := 7) rfl (.cons (t := 4) rfl (.cons (t := 0) rfl (.cons (t := 1) rfl .nil))))
  clear hm
  refine Kn.no fh4 (.tmp rfl) ?_
  refine wp_skip ?_
  refine hK2 _ _ ?_
  clear hK2 K2
  replace fh4 := fh4.cut (.cons (t := 4) rfl (.cons (t := 0) rfl (.cons (t := 1) rfl .nil)))
  have hn := isNode_any N v w
  rw [nodeB_yes h2 h3] at hn
  refine wp_seq_k fun K4 hK4 => ?_
  refine wp_seq_k fun K5 hK5 => ?_
  refine wp_region_lit ?_
  refine Kn.pure fh4 rfl rfl .none (Kn.ex_move fh4 (.tmp rfl)) fun fa5 fh5 => ?_
  clear fh4 fa4
  refine Kn.pure fh5 rfl rfl .none (Kn.ex_move fh5 (.tmp rfl)) fun fa6 fh6 => ?_
  clear fh5 fa5
  refine Kn.call fh6 rfl rfl .none (Kn.ex_call fh6 (.cons (.tmp rfl) (.cons (.tmp rfl) .nil))) Tryd.call22 (hn) fun e w1 hp => ?_
  obtain ⟨rfl, rfl⟩ := hp
  refine ⟨_, rfl, fun fa7 fh7 => ?_⟩
  clear fh6 fa6
  refine Kn.step fh7 rfl rfl .none (Kn.ex_un fh7 (.tmp rfl)) fun Ko hKo => ?_
  go_simp
  try go_bits
  refine hKo _ _ fun fa8 fh8 => ?_
  clear hKo Ko fh7 fa7
  refine wpList_nil ?_
  refine hK5 _ _ ?_
  clear hK5 K5
  replace fh8 := fh8.cut (.cons (t := 12) rfl (.cons (t := 4) rfl .nil))
  clear hn
  refine Kn.no fh8 (.tmp rfl) ?_
  refine wp_skip ?_
  refine hK4 _ _ ?_
  clear hK4 K4
  replace fh8 := fh8.cut (.cons (t := 4) rfl .nil)
  refine wp_seq_k fun K6 hK6 => ?_
  refine wp_region_lit ?_
  refine Kn.pure fh8 rfl rfl .none (Kn.ex_assign fh8 .const) fun fa9 fh9 => ?_
  clear fh8 fa8
  refine wpList_nil ?_
  refine hK6 _ _ ?_
  clear hK6 K6
  refine wp_ret ?_
  exact Kn.ret1 fh9 rfl rfl ⟨rfl, rfl⟩

set_option maxRecDepth 100000 in
set_option maxHeartbeats 2000000 in
theorem gcount_arg (s : ByteArray) (p N : Int) (w : World) (h : N < 0 ∨ 4096 < N) :
    Calls Tryd.prog 26 #[.string s, .int .i64 p, .int .i64 N] w fun e w' => e = .returned (.tuple #[.int .i64 0, .int .i64 p, gE 1 p]) ∧ w = w' := by
  refine Kn.calls Tryd.func26 rfl Tryd.ntmps26 rfl (.cons (t := 0) rfl (.cons (t := 1) rfl (.cons (t := 2) rfl .nil))) fun fa0 fh0 => ?_
  refine wp_seq_k fun K1 hK1 => ?_
  refine wp_region_lit ?_
  refine Kn.pure fh0 rfl rfl .none (Kn.ex_assign fh0 .const) fun fa1 fh1 => ?_
  clear fh0 fa0
  refine Kn.pure fh1 rfl rfl .none (Kn.ex_assign fh1 .const) fun fa2 fh2 => ?_
  clear fh1 fa1
  refine Kn.pure fh2 rfl rfl .none (Kn.ex_assign fh2 .const) fun fa3 fh3 => ?_
  clear fh2 fa2
  refine wpList_nil ?_
  refine hK1 _ _ ?_
  clear hK1 K1
  have hm := isMany_any N w
  rw [manyB_no h] at hm
  have hf := gfault_any p 55 (.int .i64 1) w
  unfold flt at hf
  refine wp_seq_k fun K2 hK2 => ?_
  refine wp_seq_k fun K3 hK3 => ?_
  refine wp_region_lit ?_
  refine Kn.pure fh3 rfl rfl .none (Kn.ex_move fh3 (.tmp rfl)) fun fa4 fh4 => ?_
  clear fh3 fa3
  refine Kn.call fh4 rfl rfl .none (Kn.ex_call fh4 (.cons (.tmp rfl) .nil)) Tryd.call33 (hm) fun e w1 hp => ?_
  obtain ⟨rfl, rfl⟩ := hp
  refine ⟨_, rfl, fun fa5 fh5 => ?_⟩
  clear fh4 fa4
  refine Kn.step fh5 rfl rfl .none (Kn.ex_un fh5 (.tmp rfl)) fun Ko hKo => ?_
  go_simp
  try go_bits
  refine hKo _ _ fun fa6 fh6 => ?_
  clear hKo Ko fh5 fa5
  refine wpList_nil ?_
  refine hK3 _ _ ?_
  clear hK3 K3
  replace fh6 := fh6.cut (.cons (t := 14) rfl (.cons (t := 8) rfl (.cons (t := 7) rfl (.cons (t := 6) rfl (.cons (t := 0) rfl (.cons (t := 1) rfl (.cons (t := 2) rfl .nil)))))))
  refine Kn.yes fh6 (.tmp rfl) ?_
  replace fh6 := fh6.cut (.cons (t := 8) rfl (.cons (t := 7) rfl (.cons (t := 6) rfl (.cons (t := 0) rfl (.cons (t := 1) rfl (.cons (t := 2) rfl .nil))))))
  refine wp_seq_k fun K4 hK4 => ?_
  refine wp_region_lit ?_
  refine Kn.pure fh6 rfl rfl .none (Kn.ex_move fh6 (.tmp rfl)) fun fa7 fh7 => ?_
  clear fh6 fa6
  refine Kn.pure fh7 rfl rfl .none (Kn.ex_move fh7 (.tmp rfl)) fun fa8 fh8 => ?_
  clear fh7 fa7
  refine Kn.step fh8 rfl rfl .none (Kn.ex_makeInterface fh8 .const) fun Ko hKo => ?_
  go_simp
  try go_bits
  refine hKo _ _ fun fa9 fh9 => ?_
  clear hKo Ko fh8 fa8
  refine Kn.call fh9 rfl rfl .none (Kn.ex_call fh9 (.cons (.tmp rfl) (.cons (.tmp rfl) .nil))) Tryd.call23 (hf) fun e w1 hp => ?_
  obtain ⟨rfl, rfl⟩ := hp
  refine ⟨_, rfl, fun fa10 fh10 => ?_⟩
  clear fh9 fa9
  refine Kn.pure fh10 rfl rfl .none (Kn.ex_assign fh10 .const) fun fa11 fh11 => ?_
  clear fh10 fa10
  refine Kn.pure fh11 rfl rfl .none (Kn.ex_assign fh11 (.tmp rfl)) fun fa12 fh12 => ?_
  clear fh11 fa11
  refine Kn.pure fh12 rfl rfl .none (Kn.ex_assign fh12 (.tmp rfl)) fun fa13 fh13 => ?_
  clear fh12 fa12
  refine wpList_nil ?_
  refine hK4 _ _ ?_
  clear hK4 K4
  replace fh13 := fh13.cut (.cons (t := 8) rfl (.cons (t := 7) rfl (.cons (t := 6) rfl (.cons (t := 0) rfl (.cons (t := 1) rfl (.cons (t := 2) rfl .nil))))))
  refine wp_ret ?_
  refine Kn.then_ret ?_
  exact Kn.ret3 fh13 rfl rfl rfl rfl ⟨rfl, rfl⟩

set_option maxRecDepth 100000 in
set_option maxHeartbeats 2000000 in
theorem gcount_g (s : ByteArray) (p N : Int) (w : World) (hs : s.size ≤ maxLen) (h0 : 0 ≤ N) (h1 : N ≤ 4096) :
    Calls Tryd.prog 26 #[.string s, .int .i64 p, .int .i64 N] w fun e w' => e = .returned (.tuple #[.int .i64 (cnt s p N).1, .int .i64 (cnt s p N).2.1, gE (cnt s p N).2.2.1 (cnt s p N).2.2.2]) ∧ w = w' := by
  refine Kn.calls Tryd.func26 rfl Tryd.ntmps26 rfl (.cons (t := 0) rfl (.cons (t := 1) rfl (.cons (t := 2) rfl .nil))) fun fa0 fh0 => ?_
  refine wp_seq_k fun K1 hK1 => ?_
  refine wp_region_lit ?_
  refine Kn.pure fh0 rfl rfl .none (Kn.ex_assign fh0 .const) fun fa1 fh1 => ?_
  clear fh0 fa0
  refine Kn.pure fh1 rfl rfl .none (Kn.ex_assign fh1 .const) fun fa2 fh2 => ?_
  clear fh1 fa1
  refine Kn.pure fh2 rfl rfl .none (Kn.ex_assign fh2 .const) fun fa3 fh3 => ?_
  clear fh2 fa2
  refine wpList_nil ?_
  refine hK1 _ _ ?_
  clear hK1 K1
  have hm := isMany_any N w
  rw [manyB_yes h0 h1] at hm
  refine wp_seq_k fun K2 hK2 => ?_
  refine wp_seq_k fun K3 hK3 => ?_
  refine wp_region_lit ?_
  refine Kn.pure fh3 rfl rfl .none (Kn.ex_move fh3 (.tmp rfl)) fun fa4 fh4 => ?_
  clear fh3 fa3
  refine Kn.call fh4 rfl rfl .none (Kn.ex_call fh4 (.cons (.tmp rfl) .nil)) Tryd.call33 (hm) fun e w1 hp => ?_
  obtain ⟨rfl, rfl⟩ := hp
  refine ⟨_, rfl, fun fa5 fh5 => ?_⟩
  clear fh4 fa4
  refine Kn.step fh5 rfl rfl .none (Kn.ex_un fh5 (.tmp rfl)) fun Ko hKo => ?_
  go_simp
  try go_bits
  refine hKo _ _ fun fa6 fh6 => ?_
  clear hKo Ko fh5 fa5
  refine wpList_nil ?_
  refine hK3 _ _ ?_
  clear hK3 K3
  replace fh6 := fh6.cut (.cons (t := 14) rfl (.cons (t := 8) rfl (.cons (t := 7) rfl (.cons (t := 6) rfl (.cons (t := 0) rfl (.cons (t := 1) rfl (.cons (t := 2) rfl .nil)))))))
  clear hm
  refine Kn.no fh6 (.tmp rfl) ?_
  refine wp_skip ?_
  refine hK2 _ _ ?_
  clear hK2 K2
  replace fh6 := fh6.cut (.cons (t := 8) rfl (.cons (t := 7) rfl (.cons (t := 6) rfl (.cons (t := 0) rfl (.cons (t := 1) rfl (.cons (t := 2) rfl .nil))))))
  have hsh := short_g s p w hs
  rcases hg : rdG s p with ⟨x, nx, e, a⟩
  rw [hg] at hsh
  simp only at hsh
  by_cases he : e = 0
  · subst he
    rw [gE_0] at hsh
    obtain ⟨⟨hx0, hx1⟩, -, hpn, hns, rfl, -⟩ := rdG_ok hg
    by_cases hxN : N < x
    · have HR : Hid (cnt s p N = (0, p, 4, p)) := Lib.hid (by unfold cnt; rw [hg, if_pos ⟨rfl, hxN⟩])
      clear hg
      refine wp_seq_k fun K4 hK4 => ?_
      refine wp_region_lit ?_
      refine Kn.pure fh6 rfl rfl .none (Kn.ex_move fh6 (.tmp rfl)) fun fa7 fh7 => ?_
      clear fh6 fa6
      refine Kn.pure fh7 rfl rfl .none (Kn.ex_move fh7 (.tmp rfl)) fun fa8 fh8 => ?_
      clear fh7 fa7
      refine Kn.call fh8 rfl rfl .none (Kn.ex_call fh8 (.cons (.tmp rfl) (.cons (.tmp rfl) .nil))) Tryd.call28 (hsh) fun e w1 hp => ?_
      obtain ⟨rfl, rfl⟩ := hp
      refine ⟨_, rfl, fun fa9 fh9 => ?_⟩
      clear fh8 fa8
      refine Kn.pure fh9 rfl rfl .none (Kn.ex_move fh9 (.tmp rfl)) fun fa10 fh10 => ?_
      clear fh9 fa9
      refine Kn.pure fh10 rfl rfl .none (Kn.ex_extract fh10 (.tmp rfl) rfl) fun fa11 fh11 => ?_
      clear fh10 fa10
      refine Kn.pure fh11 rfl rfl .none (Kn.ex_extract fh11 (.tmp rfl) rfl) fun fa12 fh12 => ?_
      clear fh11 fa11
      refine Kn.pure fh12 rfl rfl .none (Kn.ex_extract fh12 (.tmp rfl) rfl) fun fa13 fh13 => ?_
      clear fh12 fa12
      refine Kn.pure fh13 rfl rfl .none (Kn.ex_assign fh13 (.tmp rfl)) fun fa14 fh14 => ?_
      clear fh13 fa13
      refine Kn.pure fh14 rfl rfl .none (Kn.ex_assign fh14 (.tmp rfl)) fun fa15 fh15 => ?_
      clear fh14 fa14
      refine Kn.pure fh15 rfl rfl .none (Kn.ex_assign fh15 (.tmp rfl)) fun fa16 fh16 => ?_
      clear fh15 fa15
      refine wpList_nil ?_
      refine hK4 _ _ ?_
      clear hK4 K4
      replace fh16 := fh16.cut (.cons (t := 11) rfl (.cons (t := 10) rfl (.cons (t := 9) rfl (.cons (t := 8) rfl (.cons (t := 7) rfl (.cons (t := 6) rfl (.cons (t := 1) rfl (.cons (t := 2) rfl .nil))))))))
      clear hsh
      refine wp_seq_k fun K5 hK5 => ?_
      refine wp_seq_k fun K6 hK6 => ?_
      refine wp_region_lit ?_
      refine Kn.pure fh16 rfl rfl .none (Kn.ex_move fh16 (.tmp rfl)) fun fa17 fh17 => ?_
      clear fh16 fa16
      refine Kn.step fh17 rfl rfl .none (Kn.ex_bin fh17 (.tmp rfl) .const) fun Ko hKo => ?_
      go_simp
      try go_bits
      refine hKo _ _ fun fa18 fh18 => ?_
      clear hKo Ko fh17 fa17
      refine wpList_nil ?_
      refine hK6 _ _ ?_
      clear hK6 K6
      replace fh18 := fh18.cut (.cons (t := 27) rfl (.cons (t := 11) rfl (.cons (t := 10) rfl (.cons (t := 9) rfl (.cons (t := 8) rfl (.cons (t := 7) rfl (.cons (t := 6) rfl (.cons (t := 1) rfl (.cons (t := 2) rfl .nil)))))))))
      refine Kn.no fh18 (.tmp rfl) ?_
      refine wp_skip ?_
      refine hK5 _ _ ?_
      clear hK5 K5
      replace fh18 := fh18.cut (.cons (t := 10) rfl (.cons (t := 9) rfl (.cons (t := 8) rfl (.cons (t := 7) rfl (.cons (t := 6) rfl (.cons (t := 1) rfl (.cons (t := 2) rfl .nil)))))))
      refine wp_seq_k fun K7 hK7 => ?_
      refine wp_seq_k fun K8 hK8 => ?_
      refine wp_region_lit ?_
      refine Kn.pure fh18 rfl rfl .none (Kn.ex_move fh18 (.tmp rfl)) fun fa19 fh19 => ?_
      clear fh18 fa18
      refine Kn.pure fh19 rfl rfl .none (Kn.ex_move fh19 (.tmp rfl)) fun fa20 fh20 => ?_
      clear fh19 fa19
      refine Kn.step fh20 rfl rfl .none (Kn.ex_bin fh20 (.tmp rfl) (.tmp rfl)) fun Ko hKo => ?_
      go_simp
      try go_bits
      refine hKo _ _ fun fa21 fh21 => ?_
      clear hKo Ko fh20 fa20
      refine wpList_nil ?_
      refine hK8 _ _ ?_
      clear hK8 K8
      replace fh21 := fh21.cut (.cons (t := 32) rfl (.cons (t := 10) rfl (.cons (t := 9) rfl (.cons (t := 8) rfl (.cons (t := 7) rfl (.cons (t := 6) rfl (.cons (t := 1) rfl .nil)))))))
      refine Kn.yes fh21 (.tmp rfl) ?_
      replace fh21 := fh21.cut (.cons (t := 10) rfl (.cons (t := 9) rfl (.cons (t := 8) rfl (.cons (t := 7) rfl (.cons (t := 6) rfl (.cons (t := 1) rfl .nil))))))
      have hf := gfault_any p 55 (.int .i64 4) w
      unfold flt at hf
      refine wp_seq_k fun K9 hK9 => ?_
      refine wp_region_lit ?_
      refine Kn.pure fh21 rfl rfl .none (Kn.ex_move fh21 (.tmp rfl)) fun fa22 fh22 => ?_
      clear fh21 fa21
      refine Kn.pure fh22 rfl rfl .none (Kn.ex_move fh22 (.tmp rfl)) fun fa23 fh23 => ?_
      clear fh22 fa22
      refine Kn.step fh23 rfl rfl .none (Kn.ex_makeInterface fh23 .const) fun Ko hKo => ?_
      go_simp
      try go_bits
      refine hKo _ _ fun fa24 fh24 => ?_
      clear hKo Ko fh23 fa23
      refine Kn.call fh24 rfl rfl .none (Kn.ex_call fh24 (.cons (.tmp rfl) (.cons (.tmp rfl) .nil))) Tryd.call23 (hf) fun e w1 hp => ?_
      obtain ⟨rfl, rfl⟩ := hp
      refine ⟨_, rfl, fun fa25 fh25 => ?_⟩
      clear fh24 fa24
      refine Kn.pure fh25 rfl rfl .none (Kn.ex_assign fh25 .const) fun fa26 fh26 => ?_
      clear fh25 fa25
      refine Kn.pure fh26 rfl rfl .none (Kn.ex_assign fh26 (.tmp rfl)) fun fa27 fh27 => ?_
      clear fh26 fa26
      refine Kn.pure fh27 rfl rfl .none (Kn.ex_assign fh27 (.tmp rfl)) fun fa28 fh28 => ?_
      clear fh27 fa27
      refine wpList_nil ?_
      refine hK9 _ _ ?_
      clear hK9 K9
      replace fh28 := fh28.cut (.cons (t := 8) rfl (.cons (t := 7) rfl (.cons (t := 6) rfl (.cons (t := 10) rfl (.cons (t := 9) rfl .nil)))))
      refine wp_ret ?_
      refine Kn.then_ret ?_
      exact Kn.ret3 fh28 rfl rfl rfl rfl ⟨by rw [HR.out]; rfl, rfl⟩
    have HR : Hid (cnt s p N = (x, nx, 0, 0)) := Lib.hid (by unfold cnt; rw [hg, if_neg (fun h => hxN h.2)])
    clear hg
    refine wp_seq_k fun K4 hK4 => ?_
    refine wp_region_lit ?_
    refine Kn.pure fh6 rfl rfl .none (Kn.ex_move fh6 (.tmp rfl)) fun fa7 fh7 => ?_
    clear fh6 fa6
    refine Kn.pure fh7 rfl rfl .none (Kn.ex_move fh7 (.tmp rfl)) fun fa8 fh8 => ?_
    clear fh7 fa7
    refine Kn.call fh8 rfl rfl .none (Kn.ex_call fh8 (.cons (.tmp rfl) (.cons (.tmp rfl) .nil))) Tryd.call28 (hsh) fun e w1 hp => ?_
    obtain ⟨rfl, rfl⟩ := hp
    refine ⟨_, rfl, fun fa9 fh9 => ?_⟩
    clear fh8 fa8
    refine Kn.pure fh9 rfl rfl .none (Kn.ex_move fh9 (.tmp rfl)) fun fa10 fh10 => ?_
    clear fh9 fa9
    refine Kn.pure fh10 rfl rfl .none (Kn.ex_extract fh10 (.tmp rfl) rfl) fun fa11 fh11 => ?_
    clear fh10 fa10
    refine Kn.pure fh11 rfl rfl .none (Kn.ex_extract fh11 (.tmp rfl) rfl) fun fa12 fh12 => ?_
    clear fh11 fa11
    refine Kn.pure fh12 rfl rfl .none (Kn.ex_extract fh12 (.tmp rfl) rfl) fun fa13 fh13 => ?_
    clear fh12 fa12
    refine Kn.pure fh13 rfl rfl .none (Kn.ex_assign fh13 (.tmp rfl)) fun fa14 fh14 => ?_
    clear fh13 fa13
    refine Kn.pure fh14 rfl rfl .none (Kn.ex_assign fh14 (.tmp rfl)) fun fa15 fh15 => ?_
    clear fh14 fa14
    refine Kn.pure fh15 rfl rfl .none (Kn.ex_assign fh15 (.tmp rfl)) fun fa16 fh16 => ?_
    clear fh15 fa15
    refine wpList_nil ?_
    refine hK4 _ _ ?_
    clear hK4 K4
    replace fh16 := fh16.cut (.cons (t := 11) rfl (.cons (t := 10) rfl (.cons (t := 9) rfl (.cons (t := 8) rfl (.cons (t := 7) rfl (.cons (t := 6) rfl (.cons (t := 1) rfl (.cons (t := 2) rfl .nil))))))))
    clear hsh
    refine wp_seq_k fun K5 hK5 => ?_
    refine wp_seq_k fun K6 hK6 => ?_
    refine wp_region_lit ?_
    refine Kn.pure fh16 rfl rfl .none (Kn.ex_move fh16 (.tmp rfl)) fun fa17 fh17 => ?_
    clear fh16 fa16
    refine Kn.step fh17 rfl rfl .none (Kn.ex_bin fh17 (.tmp rfl) .const) fun Ko hKo => ?_
    go_simp
    try go_bits
    refine hKo _ _ fun fa18 fh18 => ?_
    clear hKo Ko fh17 fa17
    refine wpList_nil ?_
    refine hK6 _ _ ?_
    clear hK6 K6
    replace fh18 := fh18.cut (.cons (t := 27) rfl (.cons (t := 11) rfl (.cons (t := 10) rfl (.cons (t := 9) rfl (.cons (t := 8) rfl (.cons (t := 7) rfl (.cons (t := 6) rfl (.cons (t := 1) rfl (.cons (t := 2) rfl .nil)))))))))
    refine Kn.no fh18 (.tmp rfl) ?_
    refine wp_skip ?_
    refine hK5 _ _ ?_
    clear hK5 K5
    replace fh18 := fh18.cut (.cons (t := 10) rfl (.cons (t := 9) rfl (.cons (t := 8) rfl (.cons (t := 7) rfl (.cons (t := 6) rfl (.cons (t := 1) rfl (.cons (t := 2) rfl .nil)))))))
    refine wp_seq_k fun K7 hK7 => ?_
    refine wp_seq_k fun K8 hK8 => ?_
    refine wp_region_lit ?_
    refine Kn.pure fh18 rfl rfl .none (Kn.ex_move fh18 (.tmp rfl)) fun fa19 fh19 => ?_
    clear fh18 fa18
    refine Kn.pure fh19 rfl rfl .none (Kn.ex_move fh19 (.tmp rfl)) fun fa20 fh20 => ?_
    clear fh19 fa19
    refine Kn.step fh20 rfl rfl .none (Kn.ex_bin fh20 (.tmp rfl) (.tmp rfl)) fun Ko hKo => ?_
    go_simp
    try go_bits
    refine hKo _ _ fun fa21 fh21 => ?_
    clear hKo Ko fh20 fa20
    refine wpList_nil ?_
    refine hK8 _ _ ?_
    clear hK8 K8
    replace fh21 := fh21.cut (.cons (t := 32) rfl (.cons (t := 10) rfl (.cons (t := 9) rfl (.cons (t := 8) rfl (.cons (t := 7) rfl (.cons (t := 6) rfl (.cons (t := 1) rfl .nil)))))))
    refine Kn.no fh21 (.tmp rfl) ?_
    refine wp_skip ?_
    refine hK7 _ _ ?_
    clear hK7 K7
    replace fh21 := fh21.cut (.cons (t := 10) rfl (.cons (t := 9) rfl (.cons (t := 8) rfl (.cons (t := 7) rfl (.cons (t := 6) rfl .nil)))))
    refine wp_seq_k fun K9 hK9 => ?_
    refine wp_region_lit ?_
    refine Kn.pure fh21 rfl rfl .none (Kn.ex_move fh21 (.tmp rfl)) fun fa22 fh22 => ?_
    clear fh21 fa21
    refine Kn.pure fh22 rfl rfl .none (Kn.ex_move fh22 (.tmp rfl)) fun fa23 fh23 => ?_
    clear fh22 fa22
    refine Kn.pure fh23 rfl rfl .none (Kn.ex_assign fh23 (.tmp rfl)) fun fa24 fh24 => ?_
    clear fh23 fa23
    refine Kn.pure fh24 rfl rfl .none (Kn.ex_assign fh24 (.tmp rfl)) fun fa25 fh25 => ?_
    clear fh24 fa24
    refine Kn.pure fh25 rfl rfl .none (Kn.ex_assign fh25 .const) fun fa26 fh26 => ?_
    clear fh25 fa25
    refine wpList_nil ?_
    refine hK9 _ _ ?_
    clear hK9 K9
    replace fh26 := fh26.cut (.cons (t := 8) rfl (.cons (t := 7) rfl (.cons (t := 6) rfl .nil)))
    refine wp_ret ?_
    exact Kn.ret3 fh26 rfl rfl rfl rfl ⟨by rw [HR.out]; rfl, rfl⟩
  obtain ⟨rfl, rfl, -⟩ := rdG_bad hg he
  have HR : Hid (cnt s nx N = (0, nx, e, a)) := Lib.hid (by unfold cnt; rw [hg, if_neg (fun h => he h.1)])
  have HE : Hid (gE e a = .iface 60 (.agg #[.int .i64 a, .iface 55 (.int .i64 e)])) := Lib.hid (gE_e he)
  rw [HE.out] at hsh
  clear hg he
  refine wp_seq_k fun K4 hK4 => ?_
  refine wp_region_lit ?_
  refine Kn.pure fh6 rfl rfl .none (Kn.ex_move fh6 (.tmp rfl)) fun fa7 fh7 => ?_
  clear fh6 fa6
  refine Kn.pure fh7 rfl rfl .none (Kn.ex_move fh7 (.tmp rfl)) fun fa8 fh8 => ?_
  clear fh7 fa7
  refine Kn.call fh8 rfl rfl .none (Kn.ex_call fh8 (.cons (.tmp rfl) (.cons (.tmp rfl) .nil))) Tryd.call28 (hsh) fun e w1 hp => ?_
  obtain ⟨rfl, rfl⟩ := hp
  refine ⟨_, rfl, fun fa9 fh9 => ?_⟩
  clear fh8 fa8
  refine Kn.pure fh9 rfl rfl .none (Kn.ex_move fh9 (.tmp rfl)) fun fa10 fh10 => ?_
  clear fh9 fa9
  refine Kn.pure fh10 rfl rfl .none (Kn.ex_extract fh10 (.tmp rfl) rfl) fun fa11 fh11 => ?_
  clear fh10 fa10
  refine Kn.pure fh11 rfl rfl .none (Kn.ex_extract fh11 (.tmp rfl) rfl) fun fa12 fh12 => ?_
  clear fh11 fa11
  refine Kn.pure fh12 rfl rfl .none (Kn.ex_extract fh12 (.tmp rfl) rfl) fun fa13 fh13 => ?_
  clear fh12 fa12
  refine Kn.pure fh13 rfl rfl .none (Kn.ex_assign fh13 (.tmp rfl)) fun fa14 fh14 => ?_
  clear fh13 fa13
  refine Kn.pure fh14 rfl rfl .none (Kn.ex_assign fh14 (.tmp rfl)) fun fa15 fh15 => ?_
  clear fh14 fa14
  refine Kn.pure fh15 rfl rfl .none (Kn.ex_assign fh15 (.tmp rfl)) fun fa16 fh16 => ?_
  clear fh15 fa15
  refine wpList_nil ?_
  refine hK4 _ _ ?_
  clear hK4 K4
  replace fh16 := fh16.cut (.cons (t := 11) rfl (.cons (t := 10) rfl (.cons (t := 9) rfl (.cons (t := 8) rfl (.cons (t := 7) rfl (.cons (t := 6) rfl (.cons (t := 1) rfl (.cons (t := 2) rfl .nil))))))))
  clear hsh
  refine wp_seq_k fun K5 hK5 => ?_
  refine wp_seq_k fun K6 hK6 => ?_
  refine wp_region_lit ?_
  refine Kn.pure fh16 rfl rfl .none (Kn.ex_move fh16 (.tmp rfl)) fun fa17 fh17 => ?_
  clear fh16 fa16
  refine Kn.step fh17 rfl rfl .none (Kn.ex_bin fh17 (.tmp rfl) .const) fun Ko hKo => ?_
  go_simp
  try go_bits
  refine hKo _ _ fun fa18 fh18 => ?_
  clear hKo Ko fh17 fa17
  refine wpList_nil ?_
  refine hK6 _ _ ?_
  clear hK6 K6
  replace fh18 := fh18.cut (.cons (t := 27) rfl (.cons (t := 11) rfl (.cons (t := 10) rfl (.cons (t := 9) rfl (.cons (t := 8) rfl (.cons (t := 7) rfl (.cons (t := 6) rfl (.cons (t := 1) rfl (.cons (t := 2) rfl .nil)))))))))
  refine Kn.yes fh18 (.tmp rfl) ?_
  replace fh18 := fh18.cut (.cons (t := 11) rfl (.cons (t := 10) rfl (.cons (t := 9) rfl (.cons (t := 8) rfl (.cons (t := 7) rfl (.cons (t := 6) rfl (.cons (t := 1) rfl (.cons (t := 2) rfl .nil))))))))
  refine wp_seq_k fun K7 hK7 => ?_
  refine wp_region_lit ?_
  refine Kn.pure fh18 rfl rfl .none (Kn.ex_move fh18 (.tmp rfl)) fun fa19 fh19 => ?_
  clear fh18 fa18
  refine Kn.pure fh19 rfl rfl .none (Kn.ex_move fh19 (.tmp rfl)) fun fa20 fh20 => ?_
  clear fh19 fa19
  refine Kn.pure fh20 rfl rfl .none (Kn.ex_assign fh20 .const) fun fa21 fh21 => ?_
  clear fh20 fa20
  refine Kn.pure fh21 rfl rfl .none (Kn.ex_assign fh21 (.tmp rfl)) fun fa22 fh22 => ?_
  clear fh21 fa21
  refine Kn.pure fh22 rfl rfl .none (Kn.ex_assign fh22 (.tmp rfl)) fun fa23 fh23 => ?_
  clear fh22 fa22
  refine wpList_nil ?_
  refine hK7 _ _ ?_
  clear hK7 K7
  replace fh23 := fh23.cut (.cons (t := 8) rfl (.cons (t := 7) rfl (.cons (t := 6) rfl (.cons (t := 10) rfl (.cons (t := 9) rfl (.cons (t := 1) rfl (.cons (t := 2) rfl .nil)))))))
  refine wp_ret ?_
  refine Kn.then_ret ?_
  exact Kn.ret3 fh23 rfl rfl rfl rfl ⟨by rw [HR.out, HE.out]; rfl, rfl⟩

set_option maxRecDepth 100000 in
set_option maxHeartbeats 2000000 in
theorem gCount_arg (s : ByteArray) (p N : Int) (w : World) (h : N < 0 ∨ 4096 < N) :
    Calls Tryd.prog 14 #[.string s, .int .i64 p, .int .i64 N] w fun e w' => e = .returned (.tuple #[.int .i64 0, gE 1 p]) ∧ w = w' := by
  refine Kn.calls Tryd.func14 rfl Tryd.ntmps14 rfl (.cons (t := 0) rfl (.cons (t := 1) rfl (.cons (t := 2) rfl .nil))) fun fa0 fh0 => ?_
  refine wp_seq_k fun K1 hK1 => ?_
  refine wp_region_lit ?_
  refine Kn.pure fh0 rfl rfl .none (Kn.ex_assign fh0 .const) fun fa1 fh1 => ?_
  clear fh0 fa0
  refine Kn.pure fh1 rfl rfl .none (Kn.ex_assign fh1 .const) fun fa2 fh2 => ?_
  clear fh1 fa1
  refine wpList_nil ?_
  refine hK1 _ _ ?_
  clear hK1 K1
  have hc := gcount_arg s p N w h
  refine wp_seq_k fun K2 hK2 => ?_
  refine wp_region_lit ?_
  refine Kn.pure fh2 rfl rfl .none (Kn.ex_move fh2 (.tmp rfl)) fun fa3 fh3 => ?_
  clear fh2 fa2
  refine Kn.pure fh3 rfl rfl .none (Kn.ex_move fh3 (.tmp rfl)) fun fa4 fh4 => ?_
  clear fh3 fa3
  refine Kn.pure fh4 rfl rfl .none (Kn.ex_move fh4 (.tmp rfl)) fun fa5 fh5 => ?_
  clear fh4 fa4
  refine Kn.call fh5 rfl rfl .none (Kn.ex_call fh5 (.cons (.tmp rfl) (.cons (.tmp rfl) (.cons (.tmp rfl) .nil)))) Tryd.call26 (hc) fun e w1 hp => ?_
  obtain ⟨rfl, rfl⟩ := hp
  refine ⟨_, rfl, fun fa6 fh6 => ?_⟩
  clear fh5 fa5
  refine Kn.pure fh6 rfl rfl .none (Kn.ex_move fh6 (.tmp rfl)) fun fa7 fh7 => ?_
  clear fh6 fa6
  refine Kn.pure fh7 rfl rfl .none (Kn.ex_extract fh7 (.tmp rfl) rfl) fun fa8 fh8 => ?_
  clear fh7 fa7
  refine Kn.pure fh8 rfl rfl .none (Kn.ex_extract fh8 (.tmp rfl) rfl) fun fa9 fh9 => ?_
  clear fh8 fa8
  refine Kn.pure fh9 rfl rfl .none (Kn.ex_extract fh9 (.tmp rfl) rfl) fun fa10 fh10 => ?_
  clear fh9 fa9
  refine Kn.pure fh10 rfl rfl .none (Kn.ex_assign fh10 (.tmp rfl)) fun fa11 fh11 => ?_
  clear fh10 fa10
  refine Kn.pure fh11 rfl rfl .none (Kn.ex_assign fh11 (.tmp rfl)) fun fa12 fh12 => ?_
  clear fh11 fa11
  refine Kn.pure fh12 rfl rfl .none (Kn.ex_assign fh12 (.tmp rfl)) fun fa13 fh13 => ?_
  clear fh12 fa12
  refine wpList_nil ?_
  refine hK2 _ _ ?_
  clear hK2 K2
  replace fh13 := fh13.cut (.cons (t := 10) rfl (.cons (t := 8) rfl (.cons (t := 7) rfl (.cons (t := 6) rfl .nil))))
  refine wp_seq_k fun K3 hK3 => ?_
  refine wp_region_lit ?_
  refine Kn.pure fh13 rfl rfl .none (Kn.ex_move fh13 (.tmp rfl)) fun fa14 fh14 => ?_
  clear fh13 fa13
  refine Kn.pure fh14 rfl rfl .none (Kn.ex_move fh14 (.tmp rfl)) fun fa15 fh15 => ?_
  clear fh14 fa14
  refine Kn.pure fh15 rfl rfl .none (Kn.ex_assign fh15 (.tmp rfl)) fun fa16 fh16 => ?_
  clear fh15 fa15
  refine Kn.pure fh16 rfl rfl .none (Kn.ex_assign fh16 (.tmp rfl)) fun fa17 fh17 => ?_
  clear fh16 fa16
  refine wpList_nil ?_
  refine hK3 _ _ ?_
  clear hK3 K3
  replace fh17 := fh17.cut (.cons (t := 7) rfl (.cons (t := 6) rfl .nil))
  refine wp_ret ?_
  exact Kn.ret2 fh17 rfl rfl rfl ⟨rfl, rfl⟩

set_option maxRecDepth 100000 in
set_option maxHeartbeats 2000000 in
theorem gCount_g (s : ByteArray) (p N : Int) (w : World) (hs : s.size ≤ maxLen) (h0 : 0 ≤ N) (h1 : N ≤ 4096) :
    Calls Tryd.prog 14 #[.string s, .int .i64 p, .int .i64 N] w fun e w' => e = .returned (.tuple #[.int .i64 (cnt s p N).1, gE (cnt s p N).2.2.1 (cnt s p N).2.2.2]) ∧ w = w' := by
  refine Kn.calls Tryd.func14 rfl Tryd.ntmps14 rfl (.cons (t := 0) rfl (.cons (t := 1) rfl (.cons (t := 2) rfl .nil))) fun fa0 fh0 => ?_
  refine wp_seq_k fun K1 hK1 => ?_
  refine wp_region_lit ?_
  refine Kn.pure fh0 rfl rfl .none (Kn.ex_assign fh0 .const) fun fa1 fh1 => ?_
  clear fh0 fa0
  refine Kn.pure fh1 rfl rfl .none (Kn.ex_assign fh1 .const) fun fa2 fh2 => ?_
  clear fh1 fa1
  refine wpList_nil ?_
  refine hK1 _ _ ?_
  clear hK1 K1
  have hc := gcount_g s p N w hs h0 h1
  refine wp_seq_k fun K2 hK2 => ?_
  refine wp_region_lit ?_
  refine Kn.pure fh2 rfl rfl .none (Kn.ex_move fh2 (.tmp rfl)) fun fa3 fh3 => ?_
  clear fh2 fa2
  refine Kn.pure fh3 rfl rfl .none (Kn.ex_move fh3 (.tmp rfl)) fun fa4 fh4 => ?_
  clear fh3 fa3
  refine Kn.pure fh4 rfl rfl .none (Kn.ex_move fh4 (.tmp rfl)) fun fa5 fh5 => ?_
  clear fh4 fa4
  refine Kn.call fh5 rfl rfl .none (Kn.ex_call fh5 (.cons (.tmp rfl) (.cons (.tmp rfl) (.cons (.tmp rfl) .nil)))) Tryd.call26 (hc) fun e w1 hp => ?_
  obtain ⟨rfl, rfl⟩ := hp
  refine ⟨_, rfl, fun fa6 fh6 => ?_⟩
  clear fh5 fa5
  refine Kn.pure fh6 rfl rfl .none (Kn.ex_move fh6 (.tmp rfl)) fun fa7 fh7 => ?_
  clear fh6 fa6
  refine Kn.pure fh7 rfl rfl .none (Kn.ex_extract fh7 (.tmp rfl) rfl) fun fa8 fh8 => ?_
  clear fh7 fa7
  refine Kn.pure fh8 rfl rfl .none (Kn.ex_extract fh8 (.tmp rfl) rfl) fun fa9 fh9 => ?_
  clear fh8 fa8
  refine Kn.pure fh9 rfl rfl .none (Kn.ex_extract fh9 (.tmp rfl) rfl) fun fa10 fh10 => ?_
  clear fh9 fa9
  refine Kn.pure fh10 rfl rfl .none (Kn.ex_assign fh10 (.tmp rfl)) fun fa11 fh11 => ?_
  clear fh10 fa10
  refine Kn.pure fh11 rfl rfl .none (Kn.ex_assign fh11 (.tmp rfl)) fun fa12 fh12 => ?_
  clear fh11 fa11
  refine Kn.pure fh12 rfl rfl .none (Kn.ex_assign fh12 (.tmp rfl)) fun fa13 fh13 => ?_
  clear fh12 fa12
  refine wpList_nil ?_
  refine hK2 _ _ ?_
  clear hK2 K2
  replace fh13 := fh13.cut (.cons (t := 10) rfl (.cons (t := 8) rfl (.cons (t := 7) rfl (.cons (t := 6) rfl .nil))))
  refine wp_seq_k fun K3 hK3 => ?_
  refine wp_region_lit ?_
  refine Kn.pure fh13 rfl rfl .none (Kn.ex_move fh13 (.tmp rfl)) fun fa14 fh14 => ?_
  clear fh13 fa13
  refine Kn.pure fh14 rfl rfl .none (Kn.ex_move fh14 (.tmp rfl)) fun fa15 fh15 => ?_
  clear fh14 fa14
  refine Kn.pure fh15 rfl rfl .none (Kn.ex_assign fh15 (.tmp rfl)) fun fa16 fh16 => ?_
  clear fh15 fa15
  refine Kn.pure fh16 rfl rfl .none (Kn.ex_assign fh16 (.tmp rfl)) fun fa17 fh17 => ?_
  clear fh16 fa16
  refine wpList_nil ?_
  refine hK3 _ _ ?_
  clear hK3 K3
  replace fh17 := fh17.cut (.cons (t := 7) rfl (.cons (t := 6) rfl .nil))
  refine wp_ret ?_
  exact Kn.ret2 fh17 rfl rfl rfl ⟨rfl, rfl⟩

set_option maxRecDepth 100000 in
set_option maxHeartbeats 2000000 in
theorem gSkip_arg (s : ByteArray) (p N : Int) (w : World) (h : N < 0 ∨ 4096 < N) :
    Calls Tryd.prog 13 #[.string s, .int .i64 p, .int .i64 N] w fun e w' => e = .returned (.tuple #[.int .i64 p, gE 1 p]) ∧ w = w' := by
  refine Kn.calls Tryd.func13 rfl Tryd.ntmps13 rfl (.cons (t := 0) rfl (.cons (t := 1) rfl (.cons (t := 2) rfl .nil))) fun fa0 fh0 => ?_
  refine wp_seq_k fun K1 hK1 => ?_
  refine wp_region_lit ?_
  refine Kn.pure fh0 rfl rfl .none (Kn.ex_assign fh0 .const) fun fa1 fh1 => ?_
  clear fh0 fa0
  refine Kn.pure fh1 rfl rfl .none (Kn.ex_assign fh1 .const) fun fa2 fh2 => ?_
  clear fh1 fa1
  refine wpList_nil ?_
  refine hK1 _ _ ?_
  clear hK1 K1
  have hc := gcount_arg s p N w h
  rw [gE_e (by decide)] at hc
  refine wp_seq_k fun K2 hK2 => ?_
  refine wp_region_lit ?_
  refine Kn.pure fh2 rfl rfl .none (Kn.ex_move fh2 (.tmp rfl)) fun fa3 fh3 => ?_
  clear fh2 fa2
  refine Kn.pure fh3 rfl rfl .none (Kn.ex_move fh3 (.tmp rfl)) fun fa4 fh4 => ?_
  clear fh3 fa3
  refine Kn.pure fh4 rfl rfl .none (Kn.ex_move fh4 (.tmp rfl)) fun fa5 fh5 => ?_
  clear fh4 fa4
  refine Kn.call fh5 rfl rfl .none (Kn.ex_call fh5 (.cons (.tmp rfl) (.cons (.tmp rfl) (.cons (.tmp rfl) .nil)))) Tryd.call26 (hc) fun e w1 hp => ?_
  obtain ⟨rfl, rfl⟩ := hp
  refine ⟨_, rfl, fun fa6 fh6 => ?_⟩
  clear fh5 fa5
  refine Kn.pure fh6 rfl rfl .none (Kn.ex_move fh6 (.tmp rfl)) fun fa7 fh7 => ?_
  clear fh6 fa6
  refine Kn.pure fh7 rfl rfl .none (Kn.ex_extract fh7 (.tmp rfl) rfl) fun fa8 fh8 => ?_
  clear fh7 fa7
  refine Kn.pure fh8 rfl rfl .none (Kn.ex_extract fh8 (.tmp rfl) rfl) fun fa9 fh9 => ?_
  clear fh8 fa8
  refine Kn.pure fh9 rfl rfl .none (Kn.ex_extract fh9 (.tmp rfl) rfl) fun fa10 fh10 => ?_
  clear fh9 fa9
  refine Kn.pure fh10 rfl rfl .none (Kn.ex_assign fh10 (.tmp rfl)) fun fa11 fh11 => ?_
  clear fh10 fa10
  refine Kn.pure fh11 rfl rfl .none (Kn.ex_assign fh11 (.tmp rfl)) fun fa12 fh12 => ?_
  clear fh11 fa11
  refine Kn.pure fh12 rfl rfl .none (Kn.ex_assign fh12 (.tmp rfl)) fun fa13 fh13 => ?_
  clear fh12 fa12
  refine wpList_nil ?_
  refine hK2 _ _ ?_
  clear hK2 K2
  replace fh13 := fh13.cut (.cons (t := 10) rfl (.cons (t := 9) rfl (.cons (t := 8) rfl (.cons (t := 7) rfl (.cons (t := 6) rfl (.cons (t := 0) rfl (.cons (t := 1) rfl .nil)))))))
  refine wp_seq_k fun K3 hK3 => ?_
  refine wp_seq_k fun K4 hK4 => ?_
  refine wp_region_lit ?_
  refine Kn.pure fh13 rfl rfl .none (Kn.ex_move fh13 (.tmp rfl)) fun fa14 fh14 => ?_
  clear fh13 fa13
  refine Kn.step fh14 rfl rfl .none (Kn.ex_bin fh14 (.tmp rfl) .const) fun Ko hKo => ?_
  go_simp
  try go_bits
  refine hKo _ _ fun fa15 fh15 => ?_
  clear hKo Ko fh14 fa14
  refine wpList_nil ?_
  refine hK4 _ _ ?_
  clear hK4 K4
  replace fh15 := fh15.cut (.cons (t := 20) rfl (.cons (t := 10) rfl (.cons (t := 9) rfl (.cons (t := 8) rfl (.cons (t := 7) rfl (.cons (t := 6) rfl (.cons (t := 0) rfl (.cons (t := 1) rfl .nil))))))))
  refine Kn.yes fh15 (.tmp rfl) ?_
  replace fh15 := fh15.cut (.cons (t := 10) rfl (.cons (t := 9) rfl (.cons (t := 8) rfl (.cons (t := 7) rfl (.cons (t := 6) rfl (.cons (t := 0) rfl (.cons (t := 1) rfl .nil)))))))
  refine wp_seq_k fun K5 hK5 => ?_
  refine wp_region_lit ?_
  refine Kn.pure fh15 rfl rfl .none (Kn.ex_move fh15 (.tmp rfl)) fun fa16 fh16 => ?_
  clear fh15 fa15
  refine Kn.pure fh16 rfl rfl .none (Kn.ex_move fh16 (.tmp rfl)) fun fa17 fh17 => ?_
  clear fh16 fa16
  refine Kn.pure fh17 rfl rfl .none (Kn.ex_assign fh17 (.tmp rfl)) fun fa18 fh18 => ?_
  clear fh17 fa17
  refine Kn.pure fh18 rfl rfl .none (Kn.ex_assign fh18 (.tmp rfl)) fun fa19 fh19 => ?_
  clear fh18 fa18
  refine wpList_nil ?_
  refine hK5 _ _ ?_
  clear hK5 K5
  replace fh19 := fh19.cut (.cons (t := 7) rfl (.cons (t := 6) rfl (.cons (t := 10) rfl (.cons (t := 9) rfl (.cons (t := 8) rfl (.cons (t := 0) rfl (.cons (t := 1) rfl .nil)))))))
  refine wp_ret ?_
  refine Kn.then_ret ?_
  exact Kn.ret2 fh19 rfl rfl rfl ⟨rfl, rfl⟩

/-- The place behind a row, or the error's number and its place. -/
def skC (s : ByteArray) (p N : Int) : Int × Int × Int := if (cnt s p N).2.2.1 = 0 then skF s p (cnt s p N).1.toNat (cnt s p N).2.1 else (p, (cnt s p N).2.2.1, (cnt s p N).2.2.2)
theorem cntC_ok {s : ByteArray} {p N x nx a : Int} (h : cnt s p N = (x, nx, 0, a)) : rdG s p = (x, nx, 0, a) ∧ x ≤ N := by
  unfold cnt at h
  split at h
  · simp at h
  · rename_i hn
    rw [h] at hn
    exact ⟨h, by simp at hn; omega⟩

set_option maxRecDepth 100000 in
set_option maxHeartbeats 2000000 in
theorem gSkip_g (s : ByteArray) (p N : Int) (w : World) (hs : s.size ≤ maxLen) (h0 : 0 ≤ N) (h1 : N ≤ 4096) :
    Calls Tryd.prog 13 #[.string s, .int .i64 p, .int .i64 N] w fun e w' => e = .returned (.tuple #[.int .i64 (skC s p N).1, gE (skC s p N).2.1 (skC s p N).2.2]) ∧ w = w' := by
  refine Kn.calls Tryd.func13 rfl Tryd.ntmps13 rfl (.cons (t := 0) rfl (.cons (t := 1) rfl (.cons (t := 2) rfl .nil))) fun fa0 fh0 => ?_
  refine wp_seq_k fun K1 hK1 => ?_
  refine wp_region_lit ?_
  refine Kn.pure fh0 rfl rfl .none (Kn.ex_assign fh0 .const) fun fa1 fh1 => ?_
  clear fh0 fa0
  refine Kn.pure fh1 rfl rfl .none (Kn.ex_assign fh1 .const) fun fa2 fh2 => ?_
  clear fh1 fa1
  refine wpList_nil ?_
  refine hK1 _ _ ?_
  clear hK1 K1
  have hc := gcount_g s p N w hs h0 h1
  rcases hg : cnt s p N with ⟨x, nx, e, a⟩
  rw [hg] at hc
  simp only at hc
  by_cases he : e = 0
  · subst he
    rw [gE_0] at hc
    obtain ⟨hx0, hxN⟩ := cntC_ok hg
    obtain ⟨⟨hx1, -⟩, hp0, hpn, hns, rfl, -⟩ := rdG_ok hx0
    obtain ⟨X, rfl⟩ := Int.eq_ofNat_of_zero_le hx1
    have HR : Hid (skC s p N = skF s p X nx) := Lib.hid (by unfold skC; rw [hg]; simp)
    have hX : X ≤ 4096 := by omega
    clear hg hx0 hxN hx1
    refine wp_seq_k fun K2 hK2 => ?_
    refine wp_region_lit ?_
    refine Kn.pure fh2 rfl rfl .none (Kn.ex_move fh2 (.tmp rfl)) fun fa3 fh3 => ?_
    clear fh2 fa2
    refine Kn.pure fh3 rfl rfl .none (Kn.ex_move fh3 (.tmp rfl)) fun fa4 fh4 => ?_
    clear fh3 fa3
    refine Kn.pure fh4 rfl rfl .none (Kn.ex_move fh4 (.tmp rfl)) fun fa5 fh5 => ?_
    clear fh4 fa4
    refine Kn.call fh5 rfl rfl .none (Kn.ex_call fh5 (.cons (.tmp rfl) (.cons (.tmp rfl) (.cons (.tmp rfl) .nil)))) Tryd.call26 (hc) fun e w1 hp => ?_
    obtain ⟨rfl, rfl⟩ := hp
    refine ⟨_, rfl, fun fa6 fh6 => ?_⟩
    clear fh5 fa5
    refine Kn.pure fh6 rfl rfl .none (Kn.ex_move fh6 (.tmp rfl)) fun fa7 fh7 => ?_
    clear fh6 fa6
    refine Kn.pure fh7 rfl rfl .none (Kn.ex_extract fh7 (.tmp rfl) rfl) fun fa8 fh8 => ?_
    clear fh7 fa7
    refine Kn.pure fh8 rfl rfl .none (Kn.ex_extract fh8 (.tmp rfl) rfl) fun fa9 fh9 => ?_
    clear fh8 fa8
    refine Kn.pure fh9 rfl rfl .none (Kn.ex_extract fh9 (.tmp rfl) rfl) fun fa10 fh10 => ?_
    clear fh9 fa9
    refine Kn.pure fh10 rfl rfl .none (Kn.ex_assign fh10 (.tmp rfl)) fun fa11 fh11 => ?_
    clear fh10 fa10
    refine Kn.pure fh11 rfl rfl .none (Kn.ex_assign fh11 (.tmp rfl)) fun fa12 fh12 => ?_
    clear fh11 fa11
    refine Kn.pure fh12 rfl rfl .none (Kn.ex_assign fh12 (.tmp rfl)) fun fa13 fh13 => ?_
    clear fh12 fa12
    refine wpList_nil ?_
    refine hK2 _ _ ?_
    clear hK2 K2
    replace fh13 := fh13.cut (.cons (t := 10) rfl (.cons (t := 9) rfl (.cons (t := 8) rfl (.cons (t := 7) rfl (.cons (t := 6) rfl (.cons (t := 0) rfl (.cons (t := 1) rfl .nil)))))))
    clear hc
    refine wp_seq_k fun K3 hK3 => ?_
    refine wp_seq_k fun K4 hK4 => ?_
    refine wp_region_lit ?_
    refine Kn.pure fh13 rfl rfl .none (Kn.ex_move fh13 (.tmp rfl)) fun fa14 fh14 => ?_
    clear fh13 fa13
    refine Kn.step fh14 rfl rfl .none (Kn.ex_bin fh14 (.tmp rfl) .const) fun Ko hKo => ?_
    go_simp
    try go_bits
    refine hKo _ _ fun fa15 fh15 => ?_
    clear hKo Ko fh14 fa14
    refine wpList_nil ?_
    refine hK4 _ _ ?_
    clear hK4 K4
    replace fh15 := fh15.cut (.cons (t := 20) rfl (.cons (t := 10) rfl (.cons (t := 9) rfl (.cons (t := 8) rfl (.cons (t := 7) rfl (.cons (t := 6) rfl (.cons (t := 0) rfl (.cons (t := 1) rfl .nil))))))))
    refine Kn.no fh15 (.tmp rfl) ?_
    refine wp_skip ?_
    refine hK3 _ _ ?_
    clear hK3 K3
    replace fh15 := fh15.cut (.cons (t := 10) rfl (.cons (t := 9) rfl (.cons (t := 8) rfl (.cons (t := 7) rfl (.cons (t := 6) rfl (.cons (t := 0) rfl (.cons (t := 1) rfl .nil)))))))
    refine wp_seq_k fun K5 hK5 => ?_
    refine wp_seq_k fun K6 hK6 => ?_
    refine wp_region_lit ?_
    refine Kn.pure fh15 rfl rfl .none (Kn.ex_move fh15 (.tmp rfl)) fun fa16 fh16 => ?_
    clear fh15 fa15
    refine Kn.pure fh16 rfl rfl .none (Kn.ex_move fh16 .const) fun fa17 fh17 => ?_
    clear fh16 fa16
    refine wpList_nil ?_
    refine hK6 _ _ ?_
    clear hK6 K6
    replace fh17 := fh17.cut (.cons (t := 24) rfl (.cons (t := 23) rfl (.cons (t := 10) rfl (.cons (t := 9) rfl (.cons (t := 7) rfl (.cons (t := 6) rfl (.cons (t := 0) rfl (.cons (t := 1) rfl .nil))))))))
    refine wp_block ?_
    refine Kn.loop (fun m fr v => ∃ (i k : Nat) (n1 : Int), Kn.Kn 39 [(24, .int .i64 (i : Int)), (23, .int .i64 (X : Int)), (9, .int .i64 n1), (0, .string s), (1, .int .i64 p)] fr ∧ k ≤ m ∧ i + k = X ∧ Hid (skC s p N = skF s p k n1) ∧ w = v) X ⟨0, X, nx, fh17.cut (.turn (t := 24) rfl rfl (.cons (t := 23) rfl (.cons (t := 9) rfl (.cons (t := 0) rfl (.cons (t := 1) rfl .nil))))), Nat.le_refl _, by omega, HR, rfl⟩ ?_
    clear fh17 fa17
    intro m7 fa18 v hI Kl7 hKl7
    obtain ⟨i, k, n1, fh18, hkm, hik, HK, rfl⟩ := hI
    rcases k with _ | k
    · obtain rfl : i = X := by omega
      refine wp_seq_k fun K8 hK8 => ?_
      refine wp_region_lit ?_
      refine Kn.step fh18 rfl rfl .none (Kn.ex_bin fh18 (.tmp rfl) (.tmp rfl)) fun Ko hKo => ?_
      go_simp
      try go_bits
      refine hKo _ _ fun fa19 fh19 => ?_
      clear hKo Ko fh18 fa18
      refine wpList_nil ?_
      refine hK8 _ _ ?_
      clear hK8 K8
      refine wp_seq_k fun K9 hK9 => ?_
      refine Kn.no fh19 (.tmp rfl) ?_
      replace fh19 := fh19.cut (.cons (t := 24) rfl (.cons (t := 23) rfl (.cons (t := 9) rfl (.cons (t := 0) rfl (.cons (t := 1) rfl .nil)))))
      refine wp_exit ?_
      refine Kn.then_exit ?_
      clear hK9 K9
      refine Kn.then_exit ?_
      clear hKl7 Kl7
      refine Kn.block_exit ?_
      refine hK5 _ _ ?_
      clear hK5 K5
      replace fh19 := fh19.cut (.cons (t := 9) rfl .nil)
      refine wp_seq_k fun K10 hK10 => ?_
      refine wp_region_lit ?_
      refine Kn.pure fh19 rfl rfl .none (Kn.ex_move fh19 (.tmp rfl)) fun fa20 fh20 => ?_
      clear fh19 fa19
      refine Kn.pure fh20 rfl rfl .none (Kn.ex_assign fh20 (.tmp rfl)) fun fa21 fh21 => ?_
      clear fh20 fa20
      refine Kn.pure fh21 rfl rfl .none (Kn.ex_assign fh21 .const) fun fa22 fh22 => ?_
      clear fh21 fa21
      refine wpList_nil ?_
      refine hK10 _ _ ?_
      clear hK10 K10
      replace fh22 := fh22.cut (.cons (t := 7) rfl (.cons (t := 6) rfl .nil))
      refine wp_ret ?_
      exact Kn.ret2 fh22 rfl rfl rfl ⟨by rw [HK.out]; rfl, rfl⟩
    have hlt : i < X := by omega
    have hsh := short_g s n1 w hs
    rcases hg : rdG s n1 with ⟨y, n2, e2, a2⟩
    rw [hg] at hsh
    simp only at hsh
    by_cases he : e2 = 0
    · subst he
      rw [gE_0] at hsh
      have HK2 : Hid (skC s p N = skF s p k n2) := Lib.hid (by rw [HK.out, skF_ok hg])
      clear hg
      refine wp_seq_k fun K8 hK8 => ?_
      refine wp_region_lit ?_
      refine Kn.step fh18 rfl rfl .none (Kn.ex_bin fh18 (.tmp rfl) (.tmp rfl)) fun Ko hKo => ?_
      go_simp
      try go_bits
      refine hKo _ _ fun fa19 fh19 => ?_
      clear hKo Ko fh18 fa18
      refine wpList_nil ?_
      refine hK8 _ _ ?_
      clear hK8 K8
      refine wp_seq_k fun K9 hK9 => ?_
      refine Kn.yes fh19 (.tmp rfl) ?_
      refine wp_skip ?_
      refine hK9 _ _ ?_
      clear hK9 K9
      replace fh19 := fh19.cut (.cons (t := 24) rfl (.cons (t := 23) rfl (.cons (t := 9) rfl (.cons (t := 0) rfl (.cons (t := 1) rfl .nil)))))
      refine wp_seq_k fun K10 hK10 => ?_
      refine wp_block ?_
      refine wp_seq_k fun K11 hK11 => ?_
      refine wp_region_lit ?_
      refine Kn.pure fh19 rfl rfl .none (Kn.ex_move fh19 (.tmp rfl)) fun fa20 fh20 => ?_
      clear fh19 fa19
      refine Kn.pure fh20 rfl rfl .none (Kn.ex_move fh20 (.tmp rfl)) fun fa21 fh21 => ?_
      clear fh20 fa20
      refine Kn.call fh21 rfl rfl .none (Kn.ex_call fh21 (.cons (.tmp rfl) (.cons (.tmp rfl) .nil))) Tryd.call28 (hsh) fun e w1 hp => ?_
      obtain ⟨rfl, rfl⟩ := hp
      refine ⟨_, rfl, fun fa22 fh22 => ?_⟩
      clear fh21 fa21
      refine Kn.pure fh22 rfl rfl .none (Kn.ex_move fh22 (.tmp rfl)) fun fa23 fh23 => ?_
      clear fh22 fa22
      refine Kn.pure fh23 rfl rfl .none (Kn.ex_extract fh23 (.tmp rfl) rfl) fun fa24 fh24 => ?_
      clear fh23 fa23
      refine Kn.pure fh24 rfl rfl .none (Kn.ex_extract fh24 (.tmp rfl) rfl) fun fa25 fh25 => ?_
      clear fh24 fa24
      refine Kn.pure fh25 rfl rfl .none (Kn.ex_extract fh25 (.tmp rfl) rfl) fun fa26 fh26 => ?_
      clear fh25 fa25
      refine Kn.pure fh26 rfl rfl .none (Kn.ex_assign fh26 (.tmp rfl)) fun fa27 fh27 => ?_
      clear fh26 fa26
      refine Kn.pure fh27 rfl rfl .none (Kn.ex_assign fh27 (.tmp rfl)) fun fa28 fh28 => ?_
      clear fh27 fa27
      refine wpList_nil ?_
      refine hK11 _ _ ?_
      clear hK11 K11
      replace fh28 := fh28.cut (.cons (t := 10) rfl (.cons (t := 9) rfl (.cons (t := 24) rfl (.cons (t := 23) rfl (.cons (t := 0) rfl (.cons (t := 1) rfl .nil))))))
      clear hsh
      refine wp_seq_k fun K12 hK12 => ?_
      refine wp_region_lit ?_
      refine Kn.pure fh28 rfl rfl .none (Kn.ex_move fh28 (.tmp rfl)) fun fa29 fh29 => ?_
      clear fh28 fa28
      refine Kn.step fh29 rfl rfl .none (Kn.ex_bin fh29 (.tmp rfl) .const) fun Ko hKo => ?_
      go_simp
      try go_bits
      refine hKo _ _ fun fa30 fh30 => ?_
      clear hKo Ko fh29 fa29
      refine wpList_nil ?_
      refine hK12 _ _ ?_
      clear hK12 K12
      replace fh30 := fh30.cut (.cons (t := 34) rfl (.cons (t := 10) rfl (.cons (t := 9) rfl (.cons (t := 24) rfl (.cons (t := 23) rfl (.cons (t := 0) rfl (.cons (t := 1) rfl .nil)))))))
      refine Kn.no fh30 (.tmp rfl) ?_
      refine wp_skip ?_
      refine Kn.block_normal ?_
      refine hK10 _ _ ?_
      clear hK10 K10
      replace fh30 := fh30.cut (.cons (t := 9) rfl (.cons (t := 24) rfl (.cons (t := 23) rfl (.cons (t := 0) rfl (.cons (t := 1) rfl .nil)))))
      refine wp_region_lit ?_
      refine Kn.step fh30 rfl rfl .none (Kn.ex_bin fh30 (.tmp rfl) .const) fun Ko hKo => ?_
      go_simp
      try go_bits
      refine hKo _ _ fun fa31 fh31 => ?_
      clear hKo Ko fh30 fa30
      refine Kn.pure fh31 rfl rfl .none (Kn.ex_move fh31 (.tmp rfl)) fun fa32 fh32 => ?_
      clear fh31 fa31
      refine wpList_nil ?_
      replace fh32 := fh32.cut (.cons (t := 24) rfl (.cons (t := 9) rfl (.cons (t := 23) rfl (.cons (t := 0) rfl (.cons (t := 1) rfl .nil)))))
      exact hKl7 (m7 - 1) _ _ (by omega) ⟨i + 1, k, n2, fh32.cut (.turn (t := 24) rfl (by go_num) (.cons (t := 23) rfl (.cons (t := 9) rfl (.cons (t := 0) rfl (.cons (t := 1) rfl .nil))))), by omega, by omega, HK2, rfl⟩
    have HE : Hid (gE e2 a2 = .iface 60 (.agg #[.int .i64 a2, .iface 55 (.int .i64 e2)])) := Lib.hid (gE_e he)
    rw [HE.out] at hsh
    have HF : Hid (skC s p N = (p, e2, a2)) := Lib.hid (by rw [HK.out, skF_bad hg he])
    clear hg he
    refine wp_seq_k fun K8 hK8 => ?_
    refine wp_region_lit ?_
    refine Kn.step fh18 rfl rfl .none (Kn.ex_bin fh18 (.tmp rfl) (.tmp rfl)) fun Ko hKo => ?_
    go_simp
    try go_bits
    refine hKo _ _ fun fa19 fh19 => ?_
    clear hKo Ko fh18 fa18
    refine wpList_nil ?_
    refine hK8 _ _ ?_
    clear hK8 K8
    refine wp_seq_k fun K9 hK9 => ?_
    refine Kn.yes fh19 (.tmp rfl) ?_
    refine wp_skip ?_
    refine hK9 _ _ ?_
    clear hK9 K9
    replace fh19 := fh19.cut (.cons (t := 24) rfl (.cons (t := 23) rfl (.cons (t := 9) rfl (.cons (t := 0) rfl (.cons (t := 1) rfl .nil)))))
    refine wp_seq_k fun K10 hK10 => ?_
    refine wp_block ?_
    refine wp_seq_k fun K11 hK11 => ?_
    refine wp_region_lit ?_
    refine Kn.pure fh19 rfl rfl .none (Kn.ex_move fh19 (.tmp rfl)) fun fa20 fh20 => ?_
    clear fh19 fa19
    refine Kn.pure fh20 rfl rfl .none (Kn.ex_move fh20 (.tmp rfl)) fun fa21 fh21 => ?_
    clear fh20 fa20
    refine Kn.call fh21 rfl rfl .none (Kn.ex_call fh21 (.cons (.tmp rfl) (.cons (.tmp rfl) .nil))) Tryd.call28 (hsh) fun e w1 hp => ?_
    obtain ⟨rfl, rfl⟩ := hp
    refine ⟨_, rfl, fun fa22 fh22 => ?_⟩
    clear fh21 fa21
    refine Kn.pure fh22 rfl rfl .none (Kn.ex_move fh22 (.tmp rfl)) fun fa23 fh23 => ?_
    clear fh22 fa22
    refine Kn.pure fh23 rfl rfl .none (Kn.ex_extract fh23 (.tmp rfl) rfl) fun fa24 fh24 => ?_
    clear fh23 fa23
    refine Kn.pure fh24 rfl rfl .none (Kn.ex_extract fh24 (.tmp rfl) rfl) fun fa25 fh25 => ?_
    clear fh24 fa24
    refine Kn.pure fh25 rfl rfl .none (Kn.ex_extract fh25 (.tmp rfl) rfl) fun fa26 fh26 => ?_
    clear fh25 fa25
    refine Kn.pure fh26 rfl rfl .none (Kn.ex_assign fh26 (.tmp rfl)) fun fa27 fh27 => ?_
    clear fh26 fa26
    refine Kn.pure fh27 rfl rfl .none (Kn.ex_assign fh27 (.tmp rfl)) fun fa28 fh28 => ?_
    clear fh27 fa27
    refine wpList_nil ?_
    refine hK11 _ _ ?_
    clear hK11 K11
    replace fh28 := fh28.cut (.cons (t := 10) rfl (.cons (t := 9) rfl (.cons (t := 24) rfl (.cons (t := 23) rfl (.cons (t := 0) rfl (.cons (t := 1) rfl .nil))))))
    clear hsh
    refine wp_seq_k fun K12 hK12 => ?_
    refine wp_region_lit ?_
    refine Kn.pure fh28 rfl rfl .none (Kn.ex_move fh28 (.tmp rfl)) fun fa29 fh29 => ?_
    clear fh28 fa28
    refine Kn.step fh29 rfl rfl .none (Kn.ex_bin fh29 (.tmp rfl) .const) fun Ko hKo => ?_
    go_simp
    try go_bits
    refine hKo _ _ fun fa30 fh30 => ?_
    clear hKo Ko fh29 fa29
    refine wpList_nil ?_
    refine hK12 _ _ ?_
    clear hK12 K12
    replace fh30 := fh30.cut (.cons (t := 34) rfl (.cons (t := 10) rfl (.cons (t := 9) rfl (.cons (t := 24) rfl (.cons (t := 23) rfl (.cons (t := 0) rfl (.cons (t := 1) rfl .nil)))))))
    refine Kn.yes fh30 (.tmp rfl) ?_
    replace fh30 := fh30.cut (.cons (t := 10) rfl (.cons (t := 9) rfl (.cons (t := 24) rfl (.cons (t := 23) rfl (.cons (t := 0) rfl (.cons (t := 1) rfl .nil))))))
    refine wp_seq_k fun K13 hK13 => ?_
    refine wp_region_lit ?_
    refine Kn.pure fh30 rfl rfl .none (Kn.ex_move fh30 (.tmp rfl)) fun fa31 fh31 => ?_
    clear fh30 fa30
    refine Kn.pure fh31 rfl rfl .none (Kn.ex_move fh31 (.tmp rfl)) fun fa32 fh32 => ?_
    clear fh31 fa31
    refine Kn.pure fh32 rfl rfl .none (Kn.ex_assign fh32 (.tmp rfl)) fun fa33 fh33 => ?_
    clear fh32 fa32
    refine Kn.pure fh33 rfl rfl .none (Kn.ex_assign fh33 (.tmp rfl)) fun fa34 fh34 => ?_
    clear fh33 fa33
    refine wpList_nil ?_
    refine hK13 _ _ ?_
    clear hK13 K13
    replace fh34 := fh34.cut (.cons (t := 7) rfl (.cons (t := 6) rfl (.cons (t := 9) rfl (.cons (t := 24) rfl (.cons (t := 23) rfl (.cons (t := 0) rfl (.cons (t := 1) rfl .nil)))))))
    refine wp_ret ?_
    refine Kn.block_ret ?_
    refine Kn.then_ret ?_
    refine Kn.then_ret ?_
    refine Kn.block_ret ?_
    refine Kn.then_ret ?_
    exact Kn.ret2 fh34 rfl rfl rfl ⟨by rw [HF.out, HE.out]; rfl, rfl⟩
  have HE : Hid (gE e a = .iface 60 (.agg #[.int .i64 a, .iface 55 (.int .i64 e)])) := Lib.hid (gE_e he)
  rw [HE.out] at hc
  have HF : Hid (skC s p N = (p, e, a)) := Lib.hid (by unfold skC; rw [hg, if_neg he])
  clear hg he
  refine wp_seq_k fun K2 hK2 => ?_
  refine wp_region_lit ?_
  refine Kn.pure fh2 rfl rfl .none (Kn.ex_move fh2 (.tmp rfl)) fun fa3 fh3 => ?_
  clear fh2 fa2
  refine Kn.pure fh3 rfl rfl .none (Kn.ex_move fh3 (.tmp rfl)) fun fa4 fh4 => ?_
  clear fh3 fa3
  refine Kn.pure fh4 rfl rfl .none (Kn.ex_move fh4 (.tmp rfl)) fun fa5 fh5 => ?_
  clear fh4 fa4
  refine Kn.call fh5 rfl rfl .none (Kn.ex_call fh5 (.cons (.tmp rfl) (.cons (.tmp rfl) (.cons (.tmp rfl) .nil)))) Tryd.call26 (hc) fun e w1 hp => ?_
  obtain ⟨rfl, rfl⟩ := hp
  refine ⟨_, rfl, fun fa6 fh6 => ?_⟩
  clear fh5 fa5
  refine Kn.pure fh6 rfl rfl .none (Kn.ex_move fh6 (.tmp rfl)) fun fa7 fh7 => ?_
  clear fh6 fa6
  refine Kn.pure fh7 rfl rfl .none (Kn.ex_extract fh7 (.tmp rfl) rfl) fun fa8 fh8 => ?_
  clear fh7 fa7
  refine Kn.pure fh8 rfl rfl .none (Kn.ex_extract fh8 (.tmp rfl) rfl) fun fa9 fh9 => ?_
  clear fh8 fa8
  refine Kn.pure fh9 rfl rfl .none (Kn.ex_extract fh9 (.tmp rfl) rfl) fun fa10 fh10 => ?_
  clear fh9 fa9
  refine Kn.pure fh10 rfl rfl .none (Kn.ex_assign fh10 (.tmp rfl)) fun fa11 fh11 => ?_
  clear fh10 fa10
  refine Kn.pure fh11 rfl rfl .none (Kn.ex_assign fh11 (.tmp rfl)) fun fa12 fh12 => ?_
  clear fh11 fa11
  refine Kn.pure fh12 rfl rfl .none (Kn.ex_assign fh12 (.tmp rfl)) fun fa13 fh13 => ?_
  clear fh12 fa12
  refine wpList_nil ?_
  refine hK2 _ _ ?_
  clear hK2 K2
  replace fh13 := fh13.cut (.cons (t := 10) rfl (.cons (t := 9) rfl (.cons (t := 8) rfl (.cons (t := 7) rfl (.cons (t := 6) rfl (.cons (t := 0) rfl (.cons (t := 1) rfl .nil)))))))
  clear hc
  refine wp_seq_k fun K3 hK3 => ?_
  refine wp_seq_k fun K4 hK4 => ?_
  refine wp_region_lit ?_
  refine Kn.pure fh13 rfl rfl .none (Kn.ex_move fh13 (.tmp rfl)) fun fa14 fh14 => ?_
  clear fh13 fa13
  refine Kn.step fh14 rfl rfl .none (Kn.ex_bin fh14 (.tmp rfl) .const) fun Ko hKo => ?_
  go_simp
  try go_bits
  refine hKo _ _ fun fa15 fh15 => ?_
  clear hKo Ko fh14 fa14
  refine wpList_nil ?_
  refine hK4 _ _ ?_
  clear hK4 K4
  replace fh15 := fh15.cut (.cons (t := 20) rfl (.cons (t := 10) rfl (.cons (t := 9) rfl (.cons (t := 8) rfl (.cons (t := 7) rfl (.cons (t := 6) rfl (.cons (t := 0) rfl (.cons (t := 1) rfl .nil))))))))
  refine Kn.yes fh15 (.tmp rfl) ?_
  replace fh15 := fh15.cut (.cons (t := 10) rfl (.cons (t := 9) rfl (.cons (t := 8) rfl (.cons (t := 7) rfl (.cons (t := 6) rfl (.cons (t := 0) rfl (.cons (t := 1) rfl .nil)))))))
  refine wp_seq_k fun K5 hK5 => ?_
  refine wp_region_lit ?_
  refine Kn.pure fh15 rfl rfl .none (Kn.ex_move fh15 (.tmp rfl)) fun fa16 fh16 => ?_
  clear fh15 fa15
  refine Kn.pure fh16 rfl rfl .none (Kn.ex_move fh16 (.tmp rfl)) fun fa17 fh17 => ?_
  clear fh16 fa16
  refine Kn.pure fh17 rfl rfl .none (Kn.ex_assign fh17 (.tmp rfl)) fun fa18 fh18 => ?_
  clear fh17 fa17
  refine Kn.pure fh18 rfl rfl .none (Kn.ex_assign fh18 (.tmp rfl)) fun fa19 fh19 => ?_
  clear fh18 fa18
  refine wpList_nil ?_
  refine hK5 _ _ ?_
  clear hK5 K5
  replace fh19 := fh19.cut (.cons (t := 7) rfl (.cons (t := 6) rfl (.cons (t := 10) rfl (.cons (t := 9) rfl (.cons (t := 8) rfl (.cons (t := 0) rfl (.cons (t := 1) rfl .nil)))))))
  refine wp_ret ?_
  refine Kn.then_ret ?_
  exact Kn.ret2 fh19 rfl rfl rfl ⟨by rw [HF.out, HE.out]; rfl, rfl⟩

end Go.Proofs.YtoggeiaofpdboaaDoor.Gap
