/- Contracts of the program's edges: number, edge (written by gen_txtn.py). -/
import Derived.Test.YtnmpcendimdoeaaGreatDoorTxtA
import Derived.Test.YtnmpcendimdoeaaGreatDoorRowE
namespace Go.Proofs.YtnmpcendimdoeaaGreatDoor.Txt
open Go Go.RowKit Go.Lib Go.Proofs.YtnmpcendimdoeaaGreatDoor.Dig

theorem digitVal_le {b : UInt8} {d : Nat} (h : Lib.digitVal b = some d) : d ≤ 9 := by
  unfold Lib.digitVal at h
  split at h
  · have := Option.some.inj h; omega
  · cases h
theorem decFrom_lt : ∀ (l : List UInt8) (acc n : Nat), Lib.decFrom acc l = some n → n < (acc + 1) * 10 ^ l.length
  | [], acc, n, h => by simp only [Lib.decFrom, Option.some.injEq] at h; subst h; simp
  | b :: r, acc, n, h => by
    simp only [Lib.decFrom] at h
    cases hb : Lib.digitVal b with
    | none => rw [hb] at h; cases h
    | some d =>
      rw [hb] at h
      have h1 := decFrom_lt r _ n h
      have h2 := digitVal_le hb
      have h3 : (acc * 10 + d + 1) * 10 ^ r.length ≤ ((acc + 1) * 10) * 10 ^ r.length := Nat.mul_le_mul_right _ (by omega)
      rw [List.length_cons, Nat.pow_succ, Nat.mul_comm (10 ^ r.length) 10, ← Nat.mul_assoc]
      omega
theorem decNat_lt {l : List UInt8} {m : Nat} (h : Lib.decNat l = some m) (hl : l.length ≤ 18) : m < 1000000000000000000 := by
  unfold Lib.decNat at h
  split at h
  · cases h
  · have h1 := decFrom_lt l 0 m h
    have h2 : 10 ^ l.length ≤ 10 ^ 18 := Nat.pow_le_pow_right (by decide) hl
    omega
theorem atoi_lt {l : List UInt8} {x : Int} (h : Lib.atoi l = some x) (hl : l.length ≤ 18) : -1000000000000000000 ≤ x ∧ x ≤ 1000000000000000000 := by
  cases l with
  | nil => simp [Lib.atoi] at h
  | cons b r =>
    have hr : r.length ≤ 18 := by simp at hl; omega
    simp only [Lib.atoi] at h
    split at h
    · obtain ⟨m, hm, rfl⟩ := Option.map_eq_some_iff.1 h
      have := decNat_lt hm hr
      omega
    · split at h
      · obtain ⟨m, hm, rfl⟩ := Option.map_eq_some_iff.1 h
        have := decNat_lt hm hr
        omega
      · obtain ⟨m, hm, rfl⟩ := Option.map_eq_some_iff.1 h
        have := decNat_lt hm hl
        omega
theorem num_none {l : List UInt8} (h : numP l = none) : numV l = 0 ∧ numB l = false := by
  unfold numV numB; rw [← numP_eq, h]; exact ⟨rfl, rfl⟩
theorem num_some {l : List UInt8} {x : Int} (h : numP l = some x) : numV l = x ∧ numB l = true := by
  unfold numV numB; rw [← numP_eq, h]; exact ⟨rfl, rfl⟩

set_option maxRecDepth 100000 in
set_option maxHeartbeats 2000000 in
theorem number_p (s : ByteArray) (w : World) (hv : Vars w) :
    Calls Tryz.prog 16 #[.string s] w fun e w' => e = .returned (.tuple #[.int .i64 (numV s.data.toList), .bool (numB s.data.toList)]) ∧ Below w.heap.size w w' := by
  refine Kn.calls Tryz.func16 rfl Tryz.ntmps16 rfl (.cons (t := 0) rfl .nil) fun fa0 fh0 => ?_
  refine wp_seq_k fun K1 hK1 => ?_
  refine wp_region_lit ?_
  refine Kn.pure fh0 rfl rfl .none (Kn.ex_assign fh0 .const) fun fa1 fh1 => ?_
  clear fh0 fa0
  refine Kn.pure fh1 rfl rfl .none (Kn.ex_assign fh1 .const) fun fa2 fh2 => ?_
  clear fh1 fa1
  refine wpList_nil ?_
  refine hK1 _ _ ?_
  clear hK1 K1
  by_cases h9 : 9 < (Lib.trimPrefix s.data.toList [45]).length
  · have HP := Lib.hid (num_none (numP_long h9))
    have H9 := Lib.hid h9
    clear h9
    refine wp_seq_k fun K2 hK2 => ?_
    refine wp_seq_k fun K3 hK3 => ?_
    refine wp_region_lit ?_
    refine Kn.pure fh2 rfl rfl .none (Kn.ex_move fh2 (.tmp rfl)) fun fa3 fh3 => ?_
    clear fh2 fa2
    refine Kn.call fh3 rfl rfl .none (Kn.ex_call fh3 (.cons (.tmp rfl) (.cons .const .nil))) Tryz.call30 (trim_any s w) fun e w1 hp => ?_
    obtain ⟨t, rfl, HT, rfl⟩ := hp
    refine ⟨_, rfl, fun fa4 fh4 => ?_⟩
    clear fh3 fa3
    have h9 : (9 : Int) < (t.size : Int) := by have := H9.out; rw [HT.out]; omega
    refine Kn.step fh4 rfl rfl .none (Kn.ex_len fh4 (.tmp rfl)) fun Ko hKo => ?_
    go_simp
    try go_bits
    refine hKo _ _ fun fa5 fh5 => ?_
    clear hKo Ko fh4 fa4
    refine Kn.step fh5 rfl rfl .none (Kn.ex_bin fh5 (.tmp rfl) .const) fun Ko hKo => ?_
    go_simp
    try go_bits
    refine hKo _ _ fun fa6 fh6 => ?_
    clear hKo Ko fh5 fa5
    refine wpList_nil ?_
    refine hK3 _ _ ?_
    clear hK3 K3
    replace fh6 := fh6.cut (.cons (t := 9) rfl (.cons (t := 3) rfl (.cons (t := 2) rfl (.cons (t := 0) rfl .nil))))
    refine Kn.yes fh6 (.tmp rfl) ?_
    replace fh6 := fh6.cut (.cons (t := 3) rfl (.cons (t := 2) rfl (.cons (t := 0) rfl .nil)))
    refine wp_seq_k fun K4 hK4 => ?_
    refine wp_region_lit ?_
    refine Kn.pure fh6 rfl rfl .none (Kn.ex_assign fh6 .const) fun fa7 fh7 => ?_
    clear fh6 fa6
    refine Kn.pure fh7 rfl rfl .none (Kn.ex_assign fh7 .const) fun fa8 fh8 => ?_
    clear fh7 fa7
    refine wpList_nil ?_
    refine hK4 _ _ ?_
    clear hK4 K4
    refine wp_ret ?_
    refine Kn.then_ret ?_
    exact Kn.ret2 fh8 rfl rfl rfl ⟨by rw [HP.out.1, HP.out.2], Below.refl _ _⟩
  have H9 := Lib.hid h9
  have hsz : s.size ≤ 18 := by
    have := trim_len s.data.toList
    rw [Lib.size_eq]
    omega
  clear h9
  refine wp_seq_k fun K2 hK2 => ?_
  refine wp_seq_k fun K3 hK3 => ?_
  refine wp_region_lit ?_
  refine Kn.pure fh2 rfl rfl .none (Kn.ex_move fh2 (.tmp rfl)) fun fa3 fh3 => ?_
  clear fh2 fa2
  refine Kn.call fh3 rfl rfl .none (Kn.ex_call fh3 (.cons (.tmp rfl) (.cons .const .nil))) Tryz.call30 (trim_any s w) fun e w1 hp => ?_
  obtain ⟨t, rfl, HT, rfl⟩ := hp
  refine ⟨_, rfl, fun fa4 fh4 => ?_⟩
  clear fh3 fa3
  have h9 : ¬ (9 : Int) < (t.size : Int) := by have := H9.out; rw [HT.out]; omega
  refine Kn.step fh4 rfl rfl .none (Kn.ex_len fh4 (.tmp rfl)) fun Ko hKo => ?_
  go_simp
  try go_bits
  refine hKo _ _ fun fa5 fh5 => ?_
  clear hKo Ko fh4 fa4
  refine Kn.step fh5 rfl rfl .none (Kn.ex_bin fh5 (.tmp rfl) .const) fun Ko hKo => ?_
  go_simp
  try go_bits
  refine hKo _ _ fun fa6 fh6 => ?_
  clear hKo Ko fh5 fa5
  refine wpList_nil ?_
  refine hK3 _ _ ?_
  clear hK3 K3
  replace fh6 := fh6.cut (.cons (t := 9) rfl (.cons (t := 3) rfl (.cons (t := 2) rfl (.cons (t := 0) rfl .nil))))
  refine Kn.no fh6 (.tmp rfl) ?_
  refine wp_skip ?_
  refine hK2 _ _ ?_
  clear hK2 K2
  replace fh6 := fh6.cut (.cons (t := 3) rfl (.cons (t := 2) rfl (.cons (t := 0) rfl .nil)))
  clear h9 HT
  rcases ha : Lib.atoi s.data.toList with _ | x
  · have HP := Lib.hid (num_none (numP_none ha))
    refine wp_seq_k fun K4 hK4 => ?_
    refine wp_region_lit ?_
    refine Kn.pure fh6 rfl rfl .none (Kn.ex_move fh6 (.tmp rfl)) fun fa7 fh7 => ?_
    clear fh6 fa6
    refine Kn.call fh7 rfl rfl .none (Kn.ex_call fh7 (.cons (.tmp rfl) .nil)) Tryz.call31 (atoi_bad s w1 hv hsz ha) fun e w2 hp => ?_
    obtain ⟨tt, pp, rfl, hb⟩ := hp
    refine ⟨_, rfl, fun fa8 fh8 => ?_⟩
    clear fh7 fa7
    refine Kn.pure fh8 rfl rfl .none (Kn.ex_move fh8 (.tmp rfl)) fun fa9 fh9 => ?_
    clear fh8 fa8
    refine Kn.pure fh9 rfl rfl .none (Kn.ex_extract fh9 (.tmp rfl) rfl) fun fa10 fh10 => ?_
    clear fh9 fa9
    refine Kn.pure fh10 rfl rfl .none (Kn.ex_extract fh10 (.tmp rfl) rfl) fun fa11 fh11 => ?_
    clear fh10 fa10
    refine Kn.pure fh11 rfl rfl .none (Kn.ex_assign fh11 (.tmp rfl)) fun fa12 fh12 => ?_
    clear fh11 fa11
    refine Kn.pure fh12 rfl rfl .none (Kn.ex_assign fh12 (.tmp rfl)) fun fa13 fh13 => ?_
    clear fh12 fa12
    refine wpList_nil ?_
    refine hK4 _ _ ?_
    clear hK4 K4
    replace fh13 := fh13.cut (.cons (t := 5) rfl (.cons (t := 4) rfl (.cons (t := 3) rfl (.cons (t := 2) rfl (.cons (t := 0) rfl .nil)))))
    clear ha
    refine wp_seq_k fun K5 hK5 => ?_
    refine wp_seq_k fun K6 hK6 => ?_
    refine wp_region_lit ?_
    refine Kn.pure fh13 rfl rfl .none (Kn.ex_move fh13 (.tmp rfl)) fun fa14 fh14 => ?_
    clear fh13 fa13
    refine Kn.step fh14 rfl rfl .none (Kn.ex_bin fh14 (.tmp rfl) .const) fun Ko hKo => ?_
    go_simp
    try go_bits
    refine hKo _ _ fun fa15 fh15 => ?_
    clear hKo Ko fh14 fa14
    refine Kn.pure fh15 rfl rfl .none (Kn.ex_move fh15 (.tmp rfl)) fun fa16 fh16 => ?_
    clear fh15 fa15
    refine Kn.skip fh16 rfl rfl (.some rfl rfl rfl) fun fa17 fh17 => ?_
    clear fh16 fa16
    refine Kn.skip fh17 rfl rfl (.some rfl rfl rfl) fun fa18 fh18 => ?_
    clear fh17 fa17
    refine Kn.skip fh18 rfl rfl (.some rfl rfl rfl) fun fa19 fh19 => ?_
    clear fh18 fa18
    refine Kn.skip fh19 rfl rfl (.some rfl rfl rfl) fun fa20 fh20 => ?_
    clear fh19 fa19
    refine Kn.pure fh20 rfl rfl .none (Kn.ex_pick fh20 (.tmp rfl) .const) fun fa21 fh21 => ?_
    clear fh20 fa20
    refine wpList_nil ?_
    refine hK6 _ _ ?_
    clear hK6 K6
    replace fh21 := fh21.cut (.cons (t := 22) rfl (.cons (t := 4) rfl (.cons (t := 3) rfl (.cons (t := 2) rfl .nil))))
    refine Kn.yes fh21 (.tmp rfl) ?_
    replace fh21 := fh21.cut (.cons (t := 4) rfl (.cons (t := 3) rfl (.cons (t := 2) rfl .nil)))
    refine wp_seq_k fun K7 hK7 => ?_
    refine wp_region_lit ?_
    refine Kn.pure fh21 rfl rfl .none (Kn.ex_assign fh21 .const) fun fa22 fh22 => ?_
    clear fh21 fa21
    refine Kn.pure fh22 rfl rfl .none (Kn.ex_assign fh22 .const) fun fa23 fh23 => ?_
    clear fh22 fa22
    refine wpList_nil ?_
    refine hK7 _ _ ?_
    clear hK7 K7
    refine wp_ret ?_
    refine Kn.then_ret ?_
    exact Kn.ret2 fh23 rfl rfl rfl ⟨by rw [HP.out.1, HP.out.2], hb⟩
  refine wp_seq_k fun K4 hK4 => ?_
  refine wp_region_lit ?_
  refine Kn.pure fh6 rfl rfl .none (Kn.ex_move fh6 (.tmp rfl)) fun fa7 fh7 => ?_
  clear fh6 fa6
  refine Kn.call fh7 rfl rfl .none (Kn.ex_call fh7 (.cons (.tmp rfl) .nil)) Tryz.call31 (atoi_ok s x w1 hsz ha) fun e w2 hp => ?_
  obtain ⟨rfl, hb⟩ := hp
  refine ⟨_, rfl, fun fa8 fh8 => ?_⟩
  clear fh7 fa7
  refine Kn.pure fh8 rfl rfl .none (Kn.ex_move fh8 (.tmp rfl)) fun fa9 fh9 => ?_
  clear fh8 fa8
  refine Kn.pure fh9 rfl rfl .none (Kn.ex_extract fh9 (.tmp rfl) rfl) fun fa10 fh10 => ?_
  clear fh9 fa9
  refine Kn.pure fh10 rfl rfl .none (Kn.ex_extract fh10 (.tmp rfl) rfl) fun fa11 fh11 => ?_
  clear fh10 fa10
  refine Kn.pure fh11 rfl rfl .none (Kn.ex_assign fh11 (.tmp rfl)) fun fa12 fh12 => ?_
  clear fh11 fa11
  refine Kn.pure fh12 rfl rfl .none (Kn.ex_assign fh12 (.tmp rfl)) fun fa13 fh13 => ?_
  clear fh12 fa12
  refine wpList_nil ?_
  refine hK4 _ _ ?_
  clear hK4 K4
  replace fh13 := fh13.cut (.cons (t := 5) rfl (.cons (t := 4) rfl (.cons (t := 3) rfl (.cons (t := 2) rfl (.cons (t := 0) rfl .nil)))))
  have HV2 := Lib.hid (hv.on hb)
  have HB2 := Lib.hid hb
  have hx := atoi_lt ha (by rw [← Lib.size_eq]; exact hsz)
  have HA := Lib.hid ha
  have hit := itoa_any x w2 HV2.out (by omega) (by omega)
  clear ha hb hx
  by_cases e : sbl (dgI x) = s
  · have q1 : (!decide (sbl (dgI x) = s)) = false := by rw [decide_eq_true e]; rfl
    have HP := Lib.hid (num_some (numP_some H9.out HA.out (by rw [← e]; rfl)))
    clear e
    refine wp_seq_k fun K5 hK5 => ?_
    refine wp_seq_k fun K6 hK6 => ?_
    refine wp_region_lit ?_
    refine Kn.pure fh13 rfl rfl .none (Kn.ex_move fh13 (.tmp rfl)) fun fa14 fh14 => ?_
    clear fh13 fa13
    refine Kn.step fh14 rfl rfl .none (Kn.ex_bin fh14 (.tmp rfl) .const) fun Ko hKo => ?_
    go_simp
    try go_bits
    refine hKo _ _ fun fa15 fh15 => ?_
    clear hKo Ko fh14 fa14
    refine Kn.pure fh15 rfl rfl .none (Kn.ex_move fh15 (.tmp rfl)) fun fa16 fh16 => ?_
    clear fh15 fa15
    refine Kn.pure fh16 rfl rfl (.some rfl rfl rfl) (Kn.ex_move fh16 (.tmp rfl)) fun fa17 fh17 => ?_
    clear fh16 fa16
    refine Kn.call fh17 rfl rfl (.some rfl rfl rfl) (Kn.ex_call fh17 (.cons (.tmp rfl) .nil)) Tryz.call32 (hit) fun e w3 hp => ?_
    obtain ⟨rfl, hb3⟩ := hp
    refine ⟨_, rfl, fun fa18 fh18 => ?_⟩
    clear fh17 fa17
    refine Kn.pure fh18 rfl rfl (.some rfl rfl rfl) (Kn.ex_move fh18 (.tmp rfl)) fun fa19 fh19 => ?_
    clear fh18 fa18
    refine Kn.known fh19 rfl rfl (.some rfl rfl rfl) (Kn.ex_bin fh19 (.tmp rfl) (.tmp rfl)) (neqV Tryz.underlying9 q1) fun fa20 fh20 => ?_
    clear fh19 fa19
    refine Kn.pure fh20 rfl rfl .none (Kn.ex_pick fh20 (.tmp rfl) (.tmp rfl)) fun fa21 fh21 => ?_
    clear fh20 fa20
    refine wpList_nil ?_
    refine hK6 _ _ ?_
    clear hK6 K6
    replace fh21 := fh21.cut (.cons (t := 22) rfl (.cons (t := 4) rfl (.cons (t := 3) rfl (.cons (t := 2) rfl .nil))))
    refine Kn.no fh21 (.tmp rfl) ?_
    refine wp_skip ?_
    refine hK5 _ _ ?_
    clear hK5 K5
    replace fh21 := fh21.cut (.cons (t := 4) rfl (.cons (t := 3) rfl (.cons (t := 2) rfl .nil)))
    refine wp_seq_k fun K7 hK7 => ?_
    refine wp_region_lit ?_
    refine Kn.pure fh21 rfl rfl .none (Kn.ex_move fh21 (.tmp rfl)) fun fa22 fh22 => ?_
    clear fh21 fa21
    refine Kn.pure fh22 rfl rfl .none (Kn.ex_assign fh22 (.tmp rfl)) fun fa23 fh23 => ?_
    clear fh22 fa22
    refine Kn.pure fh23 rfl rfl .none (Kn.ex_assign fh23 .const) fun fa24 fh24 => ?_
    clear fh23 fa23
    refine wpList_nil ?_
    refine hK7 _ _ ?_
    clear hK7 K7
    replace fh24 := fh24.cut (.cons (t := 3) rfl (.cons (t := 2) rfl .nil))
    refine wp_ret ?_
    exact Kn.ret2 fh24 rfl rfl rfl ⟨by rw [HP.out.1, HP.out.2]; rfl, HB2.out.trans (hb3.mono HB2.out.size)⟩
  · have q1 : (!decide (sbl (dgI x) = s)) = true := by rw [decide_eq_false e]; rfl
    have HP := Lib.hid (num_none (numP_ne HA.out (fun h => e (by apply ByteArray.ext; rw [← Array.toArray_toList (xs := s.data), ← h]; rfl))))
    clear e
    refine wp_seq_k fun K5 hK5 => ?_
    refine wp_seq_k fun K6 hK6 => ?_
    refine wp_region_lit ?_
    refine Kn.pure fh13 rfl rfl .none (Kn.ex_move fh13 (.tmp rfl)) fun fa14 fh14 => ?_
    clear fh13 fa13
    refine Kn.step fh14 rfl rfl .none (Kn.ex_bin fh14 (.tmp rfl) .const) fun Ko hKo => ?_
    go_simp
    try go_bits
    refine hKo _ _ fun fa15 fh15 => ?_
    clear hKo Ko fh14 fa14
    refine Kn.pure fh15 rfl rfl .none (Kn.ex_move fh15 (.tmp rfl)) fun fa16 fh16 => ?_
    clear fh15 fa15
    refine Kn.pure fh16 rfl rfl (.some rfl rfl rfl) (Kn.ex_move fh16 (.tmp rfl)) fun fa17 fh17 => ?_
    clear fh16 fa16
    refine Kn.call fh17 rfl rfl (.some rfl rfl rfl) (Kn.ex_call fh17 (.cons (.tmp rfl) .nil)) Tryz.call32 (hit) fun e w3 hp => ?_
    obtain ⟨rfl, hb3⟩ := hp
    refine ⟨_, rfl, fun fa18 fh18 => ?_⟩
    clear fh17 fa17
    refine Kn.pure fh18 rfl rfl (.some rfl rfl rfl) (Kn.ex_move fh18 (.tmp rfl)) fun fa19 fh19 => ?_
    clear fh18 fa18
    refine Kn.known fh19 rfl rfl (.some rfl rfl rfl) (Kn.ex_bin fh19 (.tmp rfl) (.tmp rfl)) (neqV Tryz.underlying9 q1) fun fa20 fh20 => ?_
    clear fh19 fa19
    refine Kn.pure fh20 rfl rfl .none (Kn.ex_pick fh20 (.tmp rfl) (.tmp rfl)) fun fa21 fh21 => ?_
    clear fh20 fa20
    refine wpList_nil ?_
    refine hK6 _ _ ?_
    clear hK6 K6
    replace fh21 := fh21.cut (.cons (t := 22) rfl (.cons (t := 4) rfl (.cons (t := 3) rfl (.cons (t := 2) rfl .nil))))
    refine Kn.yes fh21 (.tmp rfl) ?_
    replace fh21 := fh21.cut (.cons (t := 4) rfl (.cons (t := 3) rfl (.cons (t := 2) rfl .nil)))
    refine wp_seq_k fun K7 hK7 => ?_
    refine wp_region_lit ?_
    refine Kn.pure fh21 rfl rfl .none (Kn.ex_assign fh21 .const) fun fa22 fh22 => ?_
    clear fh21 fa21
    refine Kn.pure fh22 rfl rfl .none (Kn.ex_assign fh22 .const) fun fa23 fh23 => ?_
    clear fh22 fa22
    refine wpList_nil ?_
    refine hK7 _ _ ?_
    clear hK7 K7
    refine wp_ret ?_
    refine Kn.then_ret ?_
    exact Kn.ret2 fh23 rfl rfl rfl ⟨by rw [HP.out.1, HP.out.2], HB2.out.trans (hb3.mono HB2.out.size)⟩

/-- The edge of a word that tells one; else the first of all. -/
def edV (l : List UInt8) : Int × Int := (edgeOf l).getD (0, 0)
def edB (l : List UInt8) : Bool := (edgeOf l).isSome
theorem edge_cut {l p q : List UInt8} (hc : cutC 62 l = (p, q, false)) : edV l = (0, 0) ∧ edB l = false := by
  have : edgeOf l = none := by unfold edgeOf; rw [hc]; rfl
  unfold edV edB; rw [this]; exact ⟨rfl, rfl⟩
theorem numOf_of {l : List UInt8} : numOf l = if numB l then some (numV l) else none := by
  unfold numB numV
  cases numOf l <;> rfl
theorem edge_left {l p q : List UInt8} (hc : cutC 62 l = (p, q, true)) (h : numB p = false) : edV l = (0, 0) ∧ edB l = false := by
  have : edgeOf l = none := by unfold edgeOf; rw [hc]; simp only [if_true]; rw [numOf_of, h]; rfl
  unfold edV edB; rw [this]; exact ⟨rfl, rfl⟩
theorem edge_right {l p q : List UInt8} (hc : cutC 62 l = (p, q, true)) (h : numB q = false) : edV l = (0, 0) ∧ edB l = false := by
  have : edgeOf l = none := by
    unfold edgeOf; rw [hc]; simp only [if_true]
    rw [numOf_of (l := q), h]
    cases numOf p <;> rfl
  unfold edV edB; rw [this]; exact ⟨rfl, rfl⟩
theorem edge_both {l p q : List UInt8} (hc : cutC 62 l = (p, q, true)) (h : numB p = true) (h2 : numB q = true) : edV l = (numV p, numV q) ∧ edB l = true := by
  have : edgeOf l = some (numV p, numV q) := by unfold edgeOf; rw [hc]; simp only [if_true]; rw [numOf_of (l := p), numOf_of (l := q), h, h2]; rfl
  unfold edV edB; rw [this]; exact ⟨rfl, rfl⟩
theorem edgeOf_of {l : List UInt8} : edgeOf l = if edB l then some (edV l) else none := by
  unfold edB edV
  cases edgeOf l <;> rfl
theorem hold_new (w : World) (a b : Int) : Edg.HoldE (w.alloc (.cells #[.int .i64 a, .int .i64 b] 26)) w.heap.size [(a, b)] := fun i hi => by
  obtain rfl : i = 0 := by simp at hi; omega
  have hg := heap_alloc_new w (.cells #[.int .i64 a, .int .i64 b] 26)
  have hc := World.news_of_block (cs := #[.int .i64 a, .int .i64 b]) hg
  have a1 := hc 0 _ rfl
  have a2 := hc 1 _ rfl
  rw [Edg.addr_add] at a1 a2
  exact ⟨⟨a1, a2⟩, by simp only [World.frozen?, hg]; rfl, by simp only [World.frozen?, hg]; rfl⟩
theorem load_hold {w : World} {g : Nat} {e : Int × Int} {l : List (Int × Int)} (h : Edg.HoldE w g (e :: l)) : (loadVar 26 ⟨g, 0, none⟩).run Tryz.prog w = .ok (.agg #[.int .i64 e.1, .int .i64 e.2]) w := by
  obtain ⟨⟨c1, c2⟩, -, -⟩ := h 0 (by simp)
  have e0 : Edg.ed (e :: l) 0 = e := rfl
  rw [e0, Nat.zero_mul] at c1 c2
  rw [Nat.zero_add] at c2
  refine Edg.sat_run ?_
  go_simp
  try go_bits
  try simp [c1, c2]
theorem store_hold {w : World} {g : Nat} {e : Int × Int} (h : Edg.HoldE w g [e]) (a b : Int) :
    ∃ w', (Instr.storeAt 26 (.pointer (some ⟨g, 0, none⟩)) (.agg #[.int .i64 a, .int .i64 b])).run Tryz.prog w = .ok () w' ∧ Edg.HoldE w' g [(a, b)] ∧ (∀ B, B ≤ g → Below B w w') := by
  obtain ⟨w', h1, h2, h3, _⟩ := h.store 0 (by simp) a b
  rw [Nat.zero_mul] at h1
  exact ⟨w', h1, h2, h3⟩

set_option maxRecDepth 100000 in
set_option maxHeartbeats 2000000 in
theorem edge_p (s : ByteArray) (w : World) (hv : Vars w) (hs : s.size ≤ 1000000) :
    Calls Tryz.prog 18 #[.string s] w fun e w' => e = .returned (.tuple #[.agg #[.int .i64 (edV s.data.toList).1, .int .i64 (edV s.data.toList).2], .bool (edB s.data.toList)]) ∧ Below w.heap.size w w' := by
  refine Kn.calls Tryz.func18 rfl Tryz.ntmps18 rfl (.cons (t := 0) rfl .nil) fun fa0 fh0 => ?_
  refine wp_seq_k fun K1 hK1 => ?_
  refine wp_region_lit ?_
  refine Kn.step fh0 rfl rfl .none Kn.ex_alloc fun Ko hKo => ?_
  go_simp
  try go_bits
  refine hKo _ _ fun fa1 fh1 => ?_
  clear hKo Ko fh0 fa0
  refine Kn.pure fh1 rfl rfl .none (Kn.ex_assign fh1 .const) fun fa2 fh2 => ?_
  clear fh1 fa1
  refine wpList_nil ?_
  refine hK1 _ _ ?_
  clear hK1 K1
  have HH0 := Lib.hid (hold_new w 0 0)
  have hb0 : Below w.heap.size w (w.alloc (.cells #[.int .i64 0, .int .i64 0] 26)) := (Below.refl _ w).alloc (Nat.le_refl _) _
  have HB0 := Lib.hid hb0
  have HV0 := Lib.hid (hv.on hb0)
  rcases hc : cutC 62 s.data.toList with ⟨p, q, f⟩
  have hl := cutC_len 62 s.data.toList
  rw [hc] at hl
  have hcut := cut_any s 62 (w.alloc (.cells #[.int .i64 0, .int .i64 0] 26)) HV0.out hs
  rw [hc] at hcut
  have HC := Lib.hid hc
  have HL := Lib.hid hl
  clear hc hl hb0 hv hs
  refine wp_seq_k fun K2 hK2 => ?_
  refine wp_region_lit ?_
  refine Kn.pure fh2 rfl rfl .none (Kn.ex_move fh2 (.tmp rfl)) fun fa3 fh3 => ?_
  clear fh2 fa2
  refine Kn.call fh3 rfl rfl .none (Kn.ex_call fh3 (.cons (.tmp rfl) (.cons .const .nil))) Tryz.call15 (hcut) fun e w1 hp => ?_
  obtain ⟨rfl, hb1⟩ := hp
  refine ⟨_, rfl, fun fa4 fh4 => ?_⟩
  clear fh3 fa3
  refine Kn.pure fh4 rfl rfl .none (Kn.ex_move fh4 (.tmp rfl)) fun fa5 fh5 => ?_
  clear fh4 fa4
  refine Kn.pure fh5 rfl rfl .none (Kn.ex_extract fh5 (.tmp rfl) rfl) fun fa6 fh6 => ?_
  clear fh5 fa5
  refine Kn.pure fh6 rfl rfl .none (Kn.ex_extract fh6 (.tmp rfl) rfl) fun fa7 fh7 => ?_
  clear fh6 fa6
  refine Kn.pure fh7 rfl rfl .none (Kn.ex_extract fh7 (.tmp rfl) rfl) fun fa8 fh8 => ?_
  clear fh7 fa7
  refine Kn.pure fh8 rfl rfl .none (Kn.ex_assign fh8 (.tmp rfl)) fun fa9 fh9 => ?_
  clear fh8 fa8
  refine Kn.pure fh9 rfl rfl .none (Kn.ex_assign fh9 (.tmp rfl)) fun fa10 fh10 => ?_
  clear fh9 fa9
  refine Kn.pure fh10 rfl rfl .none (Kn.ex_assign fh10 (.tmp rfl)) fun fa11 fh11 => ?_
  clear fh10 fa10
  refine wpList_nil ?_
  refine hK2 _ _ ?_
  clear hK2 K2
  replace fh11 := fh11.cut (.cons (t := 6) rfl (.cons (t := 5) rfl (.cons (t := 4) rfl (.cons (t := 3) rfl (.cons (t := 2) rfl .nil)))))
  have HH1 := Lib.hid (HH0.out.on hb1)
  have HB1 := Lib.hid (HB0.out.trans (hb1.mono HB0.out.size))
  have HV1 := Lib.hid (HV0.out.on hb1)
  clear hcut hb1 HH0 HB0 HV0
  cases f
  · refine wp_seq_k fun K3 hK3 => ?_
    refine wp_seq_k fun K4 hK4 => ?_
    refine wp_region_lit ?_
    refine Kn.pure fh11 rfl rfl .none (Kn.ex_move fh11 (.tmp rfl)) fun fa12 fh12 => ?_
    clear fh11 fa11
    refine Kn.step fh12 rfl rfl .none (Kn.ex_un fh12 (.tmp rfl)) fun Ko hKo => ?_
    go_simp
    try go_bits
    refine hKo _ _ fun fa13 fh13 => ?_
    clear hKo Ko fh12 fa12
    refine wpList_nil ?_
    refine hK4 _ _ ?_
    clear hK4 K4
    replace fh13 := fh13.cut (.cons (t := 16) rfl (.cons (t := 6) rfl (.cons (t := 5) rfl (.cons (t := 4) rfl (.cons (t := 3) rfl (.cons (t := 2) rfl .nil))))))
    refine Kn.yes fh13 (.tmp rfl) ?_
    replace fh13 := fh13.cut (.cons (t := 6) rfl (.cons (t := 5) rfl (.cons (t := 4) rfl (.cons (t := 3) rfl (.cons (t := 2) rfl .nil)))))
    obtain ⟨u2, hst, hH2, hB2⟩ := store_hold HH1.out 0 0
    have HE := Lib.hid (edge_cut HC.out)
    refine wp_seq_k fun K5 hK5 => ?_
    refine wp_region_lit ?_
    refine Kn.step fh13 rfl rfl .none (Kn.ex_build fh13 .nil) fun Ko hKo => ?_
    go_simp
    try go_bits
    refine hKo _ _ fun fa14 fh14 => ?_
    clear hKo Ko fh13 fa13
    refine Kn.stepU fh14 rfl .none (Kn.ex_store fh14 (.tmp rfl) (.tmp rfl)) fun Ko hKo => ?_
    rw [hst]
    refine hKo _ ?_
    clear hKo Ko
    refine Kn.pure fh14 rfl rfl .none (Kn.ex_assign fh14 .const) fun fa15 fh15 => ?_
    clear fh14 fa14
    refine wpList_nil ?_
    refine hK5 _ _ ?_
    clear hK5 K5
    replace fh15 := fh15.cut (.cons (t := 3) rfl (.cons (t := 6) rfl (.cons (t := 5) rfl (.cons (t := 4) rfl (.cons (t := 2) rfl .nil)))))
    refine wp_ret ?_
    refine Kn.then_ret ?_
    exact Kn.retC fh15 rfl rfl rfl (load_hold hH2) ⟨by rw [HE.out.1, HE.out.2], HB1.out.trans (hB2 _ (Nat.le_refl _))⟩
  refine wp_seq_k fun K3 hK3 => ?_
  refine wp_seq_k fun K4 hK4 => ?_
  refine wp_region_lit ?_
  refine Kn.pure fh11 rfl rfl .none (Kn.ex_move fh11 (.tmp rfl)) fun fa12 fh12 => ?_
  clear fh11 fa11
  refine Kn.step fh12 rfl rfl .none (Kn.ex_un fh12 (.tmp rfl)) fun Ko hKo => ?_
  go_simp
  try go_bits
  refine hKo _ _ fun fa13 fh13 => ?_
  clear hKo Ko fh12 fa12
  refine wpList_nil ?_
  refine hK4 _ _ ?_
  clear hK4 K4
  replace fh13 := fh13.cut (.cons (t := 16) rfl (.cons (t := 6) rfl (.cons (t := 5) rfl (.cons (t := 4) rfl (.cons (t := 3) rfl (.cons (t := 2) rfl .nil))))))
  refine Kn.no fh13 (.tmp rfl) ?_
  refine wp_skip ?_
  refine hK3 _ _ ?_
  clear hK3 K3
  replace fh13 := fh13.cut (.cons (t := 6) rfl (.cons (t := 5) rfl (.cons (t := 4) rfl (.cons (t := 3) rfl (.cons (t := 2) rfl .nil)))))
  have hn := number_p (sbl p) w1 HV1.out
  rw [show (sbl p).data.toList = p from rfl] at hn
  refine wp_seq_k fun K5 hK5 => ?_
  refine wp_region_lit ?_
  refine Kn.pure fh13 rfl rfl .none (Kn.ex_move fh13 (.tmp rfl)) fun fa14 fh14 => ?_
  clear fh13 fa13
  refine Kn.call fh14 rfl rfl .none (Kn.ex_call fh14 (.cons (.tmp rfl) .nil)) Tryz.call16 (hn) fun e w2 hp => ?_
  obtain ⟨rfl, hb2⟩ := hp
  refine ⟨_, rfl, fun fa15 fh15 => ?_⟩
  clear fh14 fa14
  refine Kn.pure fh15 rfl rfl .none (Kn.ex_move fh15 (.tmp rfl)) fun fa16 fh16 => ?_
  clear fh15 fa15
  refine Kn.pure fh16 rfl rfl .none (Kn.ex_extract fh16 (.tmp rfl) rfl) fun fa17 fh17 => ?_
  clear fh16 fa16
  refine Kn.pure fh17 rfl rfl .none (Kn.ex_extract fh17 (.tmp rfl) rfl) fun fa18 fh18 => ?_
  clear fh17 fa17
  refine Kn.pure fh18 rfl rfl .none (Kn.ex_assign fh18 (.tmp rfl)) fun fa19 fh19 => ?_
  clear fh18 fa18
  refine Kn.pure fh19 rfl rfl .none (Kn.ex_assign fh19 (.tmp rfl)) fun fa20 fh20 => ?_
  clear fh19 fa19
  refine wpList_nil ?_
  refine hK5 _ _ ?_
  clear hK5 K5
  replace fh20 := fh20.cut (.cons (t := 6) rfl (.cons (t := 7) rfl (.cons (t := 5) rfl (.cons (t := 3) rfl (.cons (t := 2) rfl .nil)))))
  have HH2 := Lib.hid (HH1.out.on hb2)
  have HB2 := Lib.hid (HB1.out.trans (hb2.mono HB1.out.size))
  have HV2 := Lib.hid (HV1.out.on hb2)
  clear hn hb2 HH1 HB1 HV1
  rcases h1 : numB p
  · have H1 := Lib.hid h1
    rw [h1] at fh20
    clear h1
    refine wp_seq_k fun K6 hK6 => ?_
    refine wp_seq_k fun K7 hK7 => ?_
    refine wp_region_lit ?_
    refine Kn.pure fh20 rfl rfl .none (Kn.ex_move fh20 (.tmp rfl)) fun fa21 fh21 => ?_
    clear fh20 fa20
    refine Kn.step fh21 rfl rfl .none (Kn.ex_un fh21 (.tmp rfl)) fun Ko hKo => ?_
    go_simp
    try go_bits
    refine hKo _ _ fun fa22 fh22 => ?_
    clear hKo Ko fh21 fa21
    refine wpList_nil ?_
    refine hK7 _ _ ?_
    clear hK7 K7
    replace fh22 := fh22.cut (.cons (t := 24) rfl (.cons (t := 6) rfl (.cons (t := 7) rfl (.cons (t := 5) rfl (.cons (t := 3) rfl (.cons (t := 2) rfl .nil))))))
    refine Kn.yes fh22 (.tmp rfl) ?_
    replace fh22 := fh22.cut (.cons (t := 6) rfl (.cons (t := 7) rfl (.cons (t := 5) rfl (.cons (t := 3) rfl (.cons (t := 2) rfl .nil)))))
    obtain ⟨u2, hst, hH2, hB2⟩ := store_hold HH2.out 0 0
    have HE := Lib.hid (edge_left HC.out H1.out)
    refine wp_seq_k fun K8 hK8 => ?_
    refine wp_region_lit ?_
    refine Kn.step fh22 rfl rfl .none (Kn.ex_build fh22 .nil) fun Ko hKo => ?_
    go_simp
    try go_bits
    refine hKo _ _ fun fa23 fh23 => ?_
    clear hKo Ko fh22 fa22
    refine Kn.stepU fh23 rfl .none (Kn.ex_store fh23 (.tmp rfl) (.tmp rfl)) fun Ko hKo => ?_
    rw [hst]
    refine hKo _ ?_
    clear hKo Ko
    refine Kn.pure fh23 rfl rfl .none (Kn.ex_assign fh23 .const) fun fa24 fh24 => ?_
    clear fh23 fa23
    refine wpList_nil ?_
    refine hK8 _ _ ?_
    clear hK8 K8
    replace fh24 := fh24.cut (.cons (t := 3) rfl (.cons (t := 6) rfl (.cons (t := 7) rfl (.cons (t := 5) rfl (.cons (t := 2) rfl .nil)))))
    refine wp_ret ?_
    refine Kn.then_ret ?_
    exact Kn.retC fh24 rfl rfl rfl (load_hold hH2) ⟨by rw [HE.out.1, HE.out.2], HB2.out.trans (hB2 _ (Nat.le_refl _))⟩
  have H1 := Lib.hid h1
  rw [h1] at fh20
  clear h1
  refine wp_seq_k fun K6 hK6 => ?_
  refine wp_seq_k fun K7 hK7 => ?_
  refine wp_region_lit ?_
  refine Kn.pure fh20 rfl rfl .none (Kn.ex_move fh20 (.tmp rfl)) fun fa21 fh21 => ?_
  clear fh20 fa20
  refine Kn.step fh21 rfl rfl .none (Kn.ex_un fh21 (.tmp rfl)) fun Ko hKo => ?_
  go_simp
  try go_bits
  refine hKo _ _ fun fa22 fh22 => ?_
  clear hKo Ko fh21 fa21
  refine wpList_nil ?_
  refine hK7 _ _ ?_
  clear hK7 K7
  replace fh22 := fh22.cut (.cons (t := 24) rfl (.cons (t := 6) rfl (.cons (t := 7) rfl (.cons (t := 5) rfl (.cons (t := 3) rfl (.cons (t := 2) rfl .nil))))))
  refine Kn.no fh22 (.tmp rfl) ?_
  refine wp_skip ?_
  refine hK6 _ _ ?_
  clear hK6 K6
  replace fh22 := fh22.cut (.cons (t := 6) rfl (.cons (t := 7) rfl (.cons (t := 5) rfl (.cons (t := 3) rfl (.cons (t := 2) rfl .nil)))))
  have hn := number_p (sbl q) w2 HV2.out
  rw [show (sbl q).data.toList = q from rfl] at hn
  refine wp_seq_k fun K8 hK8 => ?_
  refine wp_region_lit ?_
  refine Kn.pure fh22 rfl rfl .none (Kn.ex_move fh22 (.tmp rfl)) fun fa23 fh23 => ?_
  clear fh22 fa22
  refine Kn.call fh23 rfl rfl .none (Kn.ex_call fh23 (.cons (.tmp rfl) .nil)) Tryz.call16 (hn) fun e w3 hp => ?_
  obtain ⟨rfl, hb3⟩ := hp
  refine ⟨_, rfl, fun fa24 fh24 => ?_⟩
  clear fh23 fa23
  refine Kn.pure fh24 rfl rfl .none (Kn.ex_move fh24 (.tmp rfl)) fun fa25 fh25 => ?_
  clear fh24 fa24
  refine Kn.pure fh25 rfl rfl .none (Kn.ex_extract fh25 (.tmp rfl) rfl) fun fa26 fh26 => ?_
  clear fh25 fa25
  refine Kn.pure fh26 rfl rfl .none (Kn.ex_extract fh26 (.tmp rfl) rfl) fun fa27 fh27 => ?_
  clear fh26 fa26
  refine Kn.pure fh27 rfl rfl .none (Kn.ex_assign fh27 (.tmp rfl)) fun fa28 fh28 => ?_
  clear fh27 fa27
  refine Kn.pure fh28 rfl rfl .none (Kn.ex_assign fh28 (.tmp rfl)) fun fa29 fh29 => ?_
  clear fh28 fa28
  refine wpList_nil ?_
  refine hK8 _ _ ?_
  clear hK8 K8
  replace fh29 := fh29.cut (.cons (t := 6) rfl (.cons (t := 8) rfl (.cons (t := 7) rfl (.cons (t := 3) rfl (.cons (t := 2) rfl .nil)))))
  have HH3 := Lib.hid (HH2.out.on hb3)
  have HB3 := Lib.hid (HB2.out.trans (hb3.mono HB2.out.size))
  clear hn hb3 HH2 HB2 HV2
  rcases h1 : numB q
  · have H2 := Lib.hid h1
    rw [h1] at fh29
    clear h1
    refine wp_seq_k fun K9 hK9 => ?_
    refine wp_seq_k fun K10 hK10 => ?_
    refine wp_region_lit ?_
    refine Kn.pure fh29 rfl rfl .none (Kn.ex_move fh29 (.tmp rfl)) fun fa30 fh30 => ?_
    clear fh29 fa29
    refine Kn.step fh30 rfl rfl .none (Kn.ex_un fh30 (.tmp rfl)) fun Ko hKo => ?_
    go_simp
    try go_bits
    refine hKo _ _ fun fa31 fh31 => ?_
    clear hKo Ko fh30 fa30
    refine wpList_nil ?_
    refine hK10 _ _ ?_
    clear hK10 K10
    replace fh31 := fh31.cut (.cons (t := 32) rfl (.cons (t := 8) rfl (.cons (t := 7) rfl (.cons (t := 3) rfl (.cons (t := 2) rfl .nil)))))
    refine Kn.yes fh31 (.tmp rfl) ?_
    replace fh31 := fh31.cut (.cons (t := 8) rfl (.cons (t := 7) rfl (.cons (t := 3) rfl (.cons (t := 2) rfl .nil))))
    obtain ⟨u2, hst, hH2, hB2⟩ := store_hold HH3.out 0 0
    have HE := Lib.hid (edge_right HC.out H2.out)
    refine wp_seq_k fun K11 hK11 => ?_
    refine wp_region_lit ?_
    refine Kn.step fh31 rfl rfl .none (Kn.ex_build fh31 .nil) fun Ko hKo => ?_
    go_simp
    try go_bits
    refine hKo _ _ fun fa32 fh32 => ?_
    clear hKo Ko fh31 fa31
    refine Kn.stepU fh32 rfl .none (Kn.ex_store fh32 (.tmp rfl) (.tmp rfl)) fun Ko hKo => ?_
    rw [hst]
    refine hKo _ ?_
    clear hKo Ko
    refine Kn.pure fh32 rfl rfl .none (Kn.ex_assign fh32 .const) fun fa33 fh33 => ?_
    clear fh32 fa32
    refine wpList_nil ?_
    refine hK11 _ _ ?_
    clear hK11 K11
    replace fh33 := fh33.cut (.cons (t := 3) rfl (.cons (t := 8) rfl (.cons (t := 7) rfl (.cons (t := 2) rfl .nil))))
    refine wp_ret ?_
    refine Kn.then_ret ?_
    exact Kn.retC fh33 rfl rfl rfl (load_hold hH2) ⟨by rw [HE.out.1, HE.out.2], HB3.out.trans (hB2 _ (Nat.le_refl _))⟩
  have H2 := Lib.hid h1
  rw [h1] at fh29
  clear h1
  refine wp_seq_k fun K9 hK9 => ?_
  refine wp_seq_k fun K10 hK10 => ?_
  refine wp_region_lit ?_
  refine Kn.pure fh29 rfl rfl .none (Kn.ex_move fh29 (.tmp rfl)) fun fa30 fh30 => ?_
  clear fh29 fa29
  refine Kn.step fh30 rfl rfl .none (Kn.ex_un fh30 (.tmp rfl)) fun Ko hKo => ?_
  go_simp
  try go_bits
  refine hKo _ _ fun fa31 fh31 => ?_
  clear hKo Ko fh30 fa30
  refine wpList_nil ?_
  refine hK10 _ _ ?_
  clear hK10 K10
  replace fh31 := fh31.cut (.cons (t := 32) rfl (.cons (t := 8) rfl (.cons (t := 7) rfl (.cons (t := 3) rfl (.cons (t := 2) rfl .nil)))))
  refine Kn.no fh31 (.tmp rfl) ?_
  refine wp_skip ?_
  refine hK9 _ _ ?_
  clear hK9 K9
  replace fh31 := fh31.cut (.cons (t := 8) rfl (.cons (t := 7) rfl (.cons (t := 3) rfl (.cons (t := 2) rfl .nil))))
  obtain ⟨u2, hst, hH2, hB2⟩ := store_hold HH3.out (numV p) (numV q)
  have HE := Lib.hid (edge_both HC.out H1.out H2.out)
  refine wp_seq_k fun K11 hK11 => ?_
  refine wp_region_lit ?_
  refine Kn.pure fh31 rfl rfl .none (Kn.ex_move fh31 (.tmp rfl)) fun fa32 fh32 => ?_
  clear fh31 fa31
  refine Kn.pure fh32 rfl rfl .none (Kn.ex_move fh32 (.tmp rfl)) fun fa33 fh33 => ?_
  clear fh32 fa32
  refine Kn.step fh33 rfl rfl .none (Kn.ex_build fh33 (.cons (.tmp rfl) (.cons (.tmp rfl) .nil))) fun Ko hKo => ?_
  go_simp
  try go_bits
  refine hKo _ _ fun fa34 fh34 => ?_
  clear hKo Ko fh33 fa33
  refine Kn.stepU fh34 rfl .none (Kn.ex_store fh34 (.tmp rfl) (.tmp rfl)) fun Ko hKo => ?_
  rw [hst]
  refine hKo _ ?_
  clear hKo Ko
  refine Kn.pure fh34 rfl rfl .none (Kn.ex_assign fh34 .const) fun fa35 fh35 => ?_
  clear fh34 fa34
  refine wpList_nil ?_
  refine hK11 _ _ ?_
  clear hK11 K11
  replace fh35 := fh35.cut (.cons (t := 3) rfl (.cons (t := 2) rfl .nil))
  refine wp_ret ?_
  exact Kn.retC fh35 rfl rfl rfl (load_hold hH2) ⟨by rw [HE.out.1, HE.out.2], HB3.out.trans (hB2 _ (Nat.le_refl _))⟩

end Go.Proofs.YtnmpcendimdoeaaGreatDoor.Txt
