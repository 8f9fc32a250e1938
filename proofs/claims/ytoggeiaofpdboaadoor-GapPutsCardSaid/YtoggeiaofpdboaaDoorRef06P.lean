/- The document's answers of layer 6 (gap): Put (written by gen_ref06p.py). -/
import Derived.Test.YtoggeiaofpdboaaDoorGapMath
import Derived.Test.YtoggeiaofpdboaaDoorIntKit
import Derived.Test.YtoggeiaofpdboaaDoorOctE
import Derived.Test.YtoggeiaofpdboaaDoorKnPush
namespace Go.Proofs.YtoggeiaofpdboaaDoor.Gap
open Go Go.RowKit Go.Lib Oct Num

/-- Bytes as a text. -/
def bs (l : List UInt8) : ByteArray := ⟨l.toArray⟩
theorem bs_app (a b : List UInt8) : bs a ++ bs b = bs (a ++ b) := by apply ByteArray.ext; simp [bs]
theorem bs_size (l : List UInt8) : (bs l).size = l.length := rfl
theorem putF_len (v : Int) (l : List Int) (hl : l.length < 2 ^ 63) (hb : ∀ k, (turnOf (l.getD 0 0 - v)).toNat < 2 ^ 63 ∧ (l.getD (k + 1) 0 - l.getD k 0 - 1).toNat < 2 ^ 63) : ∀ k, (putF v l k).length ≤ 9 + 9 * k
  | 0 => by rw [putF]; exact short_len9 _ hl
  | 1 => by
    rw [putF, List.length_append]
    have h1 := short_len9 _ hl
    have h2 := short_len9 _ (hb 0).1
    omega
  | k + 2 => by
    rw [putF, List.length_append]
    have h1 := putF_len v l hl hb (k + 1)
    have h2 := short_len9 _ (hb k).2
    omega
theorem turn_nat (x : Int) (h0 : -100000 ≤ x) (h1 : x ≤ 100000) : ∃ t : Nat, turnOf x = (t : Int) ∧ t ≤ 200001 := by
  unfold turnOf
  rw [if_pos (by omega)]
  split
  · exact ⟨(-2 * x - 1).toNat, by omega, by omega⟩
  · exact ⟨(2 * x).toNat, by omega, by omega⟩

set_option maxRecDepth 100000 in
set_option maxHeartbeats 2000000 in
theorem refPut_any (v : Int) (A : Option Addr) (ca : Nat) (l : List Int) (w : World) (hl : l.length ≤ 400) (hv0 : 0 ≤ v) (hv1 : v ≤ 4096) (hA : IIn w A l) (hR : ∀ i, i < l.length → 0 ≤ nt l i ∧ nt l i ≤ 4096) (hU : ∀ i, i + 1 < l.length → nt l i < nt l (i + 1)) :
    Calls Tryd.prog 15 #[.int .i64 v, .slice A l.length ca] w fun e w' => e = .returned (.string (bs (putF v l l.length))) ∧ Below w.heap.size w w' := by
  refine Kn.calls Tryd.func15 rfl Tryd.ntmps15 rfl (.cons (t := 0) rfl (.cons (t := 1) rfl .nil)) fun fa0 fh0 => ?_
  refine wp_seq_k fun K1 hK1 => ?_
  refine wp_region_lit ?_
  refine Kn.pure fh0 rfl rfl .none (Kn.ex_assign fh0 .const) fun fa1 fh1 => ?_
  clear fh0 fa0
  refine wpList_nil ?_
  refine hK1 _ _ ?_
  clear hK1 K1
  have hsh := refShort_any l.length w (by omega)
  refine wp_seq_k fun K2 hK2 => ?_
  refine wp_region_lit ?_
  refine Kn.pure fh1 rfl rfl .none (Kn.ex_move fh1 (.tmp rfl)) fun fa2 fh2 => ?_
  clear fh1 fa1
  refine Kn.step fh2 rfl rfl .none (Kn.ex_len fh2 (.tmp rfl)) fun Ko hKo => ?_
  go_simp
  try go_bits
  refine hKo _ _ fun fa3 fh3 => ?_
  clear hKo Ko fh2 fa2
  refine Kn.call fh3 rfl rfl .none (Kn.ex_call fh3 (.cons (.tmp rfl) .nil)) Tryd.call29 (hsh) fun e w1 hp => ?_
  obtain ⟨rfl, hb1⟩ := hp
  refine ⟨_, rfl, fun fa4 fh4 => ?_⟩
  clear fh3 fa3
  refine Kn.pure fh4 rfl rfl .none (Kn.ex_assign fh4 (.tmp rfl)) fun fa5 fh5 => ?_
  clear fh4 fa4
  refine wpList_nil ?_
  refine hK2 _ _ ?_
  clear hK2 K2
  replace fh5 := fh5.cut (.cons (t := 5) rfl (.cons (t := 4) rfl (.cons (t := 0) rfl (.cons (t := 1) rfl .nil))))
  have HB1 := Lib.hid hb1
  have HLn : Hid (∀ k, (putF v l k).length ≤ 9 + 9 * k) := Lib.hid (putF_len v l (by omega) (fun k => by
    refine ⟨?_, ?_⟩
    · rcases Nat.eq_zero_or_pos l.length with h0 | h0
      · obtain rfl := List.eq_nil_of_length_eq_zero h0
        obtain ⟨t, e, ht⟩ := turn_nat (([] : List Int).getD 0 0 - v) (by simp; omega) (by simp; omega)
        rw [e]; omega
      · have := hR 0 h0
        unfold nt at this
        obtain ⟨t, e, ht⟩ := turn_nat (l.getD 0 0 - v) (by omega) (by omega)
        rw [e]; omega
    · rcases Nat.lt_or_ge (k + 1) l.length with h1 | h1
      · have a1 := hR (k + 1) h1
        have a2 := hR k (by omega)
        unfold nt at a1 a2
        omega
      · have e : l.getD (k + 1) 0 = 0 := by simp [List.getD, List.getElem?_eq_none h1]
        rw [e]
        rcases Nat.lt_or_ge k l.length with h2 | h2
        · have a2 := hR k h2
          unfold nt at a2
          omega
        · have e2 : l.getD k 0 = 0 := by simp [List.getD, List.getElem?_eq_none h2]
          rw [e2]; simp))
  have HA := Lib.hid hA
  have HRd := Lib.hid hR
  have HUp := Lib.hid hU
  clear hb1 hsh hA hR hU
  refine wp_seq_k fun K3 hK3 => ?_
  refine wp_seq_k fun K4 hK4 => ?_
  refine wp_region_lit ?_
  refine Kn.pure fh5 rfl rfl .none (Kn.ex_assign fh5 .const) fun fa6 fh6 => ?_
  clear fh5 fa5
  refine wpList_nil ?_
  refine hK4 _ _ ?_
  clear hK4 K4
  refine wp_block ?_
  refine Kn.loop (fun m fr u => ∃ (k : Nat), Kn.Kn 42 [(6, .int .i64 (k : Int)), (5, .string (bs (putF v l k))), (0, .int .i64 v), (1, .slice A l.length ca)] fr ∧ k + m = l.length ∧ Hid (Below w.heap.size w u)) l.length ⟨0, fh6.cut (.turn (t := 6) rfl rfl (.turn (t := 5) rfl rfl (.cons (t := 0) rfl (.cons (t := 1) rfl .nil)))), by omega, HB1⟩ ?_
  clear fh6 fa6
  intro m5 fa7 u hI Kl5 hKl5
  obtain ⟨k, fh7, hk, HB⟩ := hI
  by_cases hlt : k < l.length
  · obtain ⟨S, hS⟩ : ∃ S, bs (putF v l k) = S := ⟨_, rfl⟩
    have hSs : S.size ≤ 4000 := by rw [← hS, bs_size]; have := HLn.out k; omega
    rw [hS] at fh7
    have HS := Lib.hid hS
    clear hS
    refine wp_seq_k fun K6 hK6 => ?_
    refine wp_seq_k fun K7 hK7 => ?_
    refine wp_region_lit ?_
    refine Kn.pure fh7 rfl rfl .none (Kn.ex_move fh7 (.tmp rfl)) fun fa8 fh8 => ?_
    clear fh7 fa7
    refine Kn.pure fh8 rfl rfl .none (Kn.ex_move fh8 (.tmp rfl)) fun fa9 fh9 => ?_
    clear fh8 fa8
    refine Kn.step fh9 rfl rfl .none (Kn.ex_len fh9 (.tmp rfl)) fun Ko hKo => ?_
    go_simp
    try go_bits
    refine hKo _ _ fun fa10 fh10 => ?_
    clear hKo Ko fh9 fa9
    refine Kn.step fh10 rfl rfl .none (Kn.ex_bin fh10 (.tmp rfl) (.tmp rfl)) fun Ko hKo => ?_
    go_simp
    try go_bits
    refine hKo _ _ fun fa11 fh11 => ?_
    clear hKo Ko fh10 fa10
    refine wpList_nil ?_
    refine hK7 _ _ ?_
    clear hK7 K7
    replace fh11 := fh11.cut (.cons (t := 13) rfl (.cons (t := 6) rfl (.cons (t := 5) rfl (.cons (t := 0) rfl (.cons (t := 1) rfl .nil)))))
    refine Kn.yes fh11 (.tmp rfl) ?_
    refine wp_skip ?_
    refine hK6 _ _ ?_
    clear hK6 K6
    replace fh11 := fh11.cut (.cons (t := 6) rfl (.cons (t := 5) rfl (.cons (t := 0) rfl (.cons (t := 1) rfl .nil))))
    refine wp_seq_k fun K8 hK8 => ?_
    refine wp_block ?_
    rcases k with _ | j
    · obtain ⟨ba, oa, rfl, -, ca1⟩ := (HA.out.on HB.out) 0 hlt
      rw [Nat.add_zero] at ca1
      obtain ⟨x, hx⟩ : ∃ x, nt l 0 = x := ⟨_, rfl⟩
      have hxr := HRd.out 0 hlt
      rw [hx] at ca1 hxr
      obtain ⟨z, hz⟩ : ∃ z, x - v = z := ⟨_, rfl⟩
      have hzb : -100000 ≤ z ∧ z ≤ 100000 := by omega
      obtain ⟨t, ht, htb⟩ := turn_nat z hzb.1 hzb.2
      have htu := refTurn_any z u (by omega) (by omega)
      rw [ht] at htu
      have hsh := refShort_any t u (by omega)
      obtain ⟨U, hU⟩ : ∃ U, bs (short t) = U := ⟨_, rfl⟩
      rw [show (⟨(short t).toArray⟩ : ByteArray) = U from hU] at hsh
      have hUs : U.size ≤ 9 := by rw [← hU, bs_size]; exact short_len9 t (by omega)
      have HP : Hid (bs (putF v l (0 + 1)) = S ++ U) := Lib.hid (by rw [← HS.out, ← hU, bs_app]; show bs (putF v l 1) = _; rw [putF, putF, show l.getD 0 0 = x from hx, hz, ht, Int.toNat_natCast])
      have hl0 : 0 < l.length := hlt
      clear hx ht hU
      refine wp_seq_k fun K9 hK9 => ?_
      refine wp_region_lit ?_
      refine Kn.pure fh11 rfl rfl .none (Kn.ex_move fh11 (.tmp rfl)) fun fa12 fh12 => ?_
      clear fh11 fa11
      refine Kn.step fh12 rfl rfl .none (Kn.ex_bin fh12 (.tmp rfl) .const) fun Ko hKo => ?_
      go_simp
      try go_bits
      refine hKo _ _ fun fa13 fh13 => ?_
      clear hKo Ko fh12 fa12
      refine wpList_nil ?_
      refine hK9 _ _ ?_
      clear hK9 K9
      replace fh13 := fh13.cut (.cons (t := 17) rfl (.cons (t := 6) rfl (.cons (t := 5) rfl (.cons (t := 0) rfl (.cons (t := 1) rfl .nil)))))
      refine Kn.yes fh13 (.tmp rfl) ?_
      replace fh13 := fh13.cut (.cons (t := 6) rfl (.cons (t := 5) rfl (.cons (t := 0) rfl (.cons (t := 1) rfl .nil))))
      refine wp_region_lit ?_
      refine Kn.pure fh13 rfl rfl .none (Kn.ex_move fh13 (.tmp rfl)) fun fa14 fh14 => ?_
      clear fh13 fa13
      refine Kn.pure fh14 rfl rfl .none (Kn.ex_move fh14 (.tmp rfl)) fun fa15 fh15 => ?_
      clear fh14 fa14
      refine Kn.step fh15 rfl rfl .none (Kn.ex_indexAddr fh15 (.tmp rfl) .const) fun Ko hKo => ?_
      go_simp
      try go_bits
      refine hKo _ _ fun fa16 fh16 => ?_
      clear hKo Ko fh15 fa15
      refine Kn.step fh16 rfl rfl .none (Kn.ex_load fh16 (.tmp rfl)) fun Ko hKo => ?_
      go_simp
      try go_bits
      refine hKo _ _ fun fa17 fh17 => ?_
      clear hKo Ko fh16 fa16
      refine Kn.pure fh17 rfl rfl .none (Kn.ex_move fh17 (.tmp rfl)) fun fa18 fh18 => ?_
      clear fh17 fa17
      refine Kn.step fh18 rfl rfl .none (Kn.ex_bin fh18 (.tmp rfl) (.tmp rfl)) fun Ko hKo => ?_
      go_simp
      try go_bits
      try rw [hz]
      try go_simp
      try go_bits
      refine hKo _ _ fun fa19 fh19 => ?_
      clear hKo Ko fh18 fa18
      refine Kn.call fh19 rfl rfl .none (Kn.ex_call fh19 (.cons (.tmp rfl) .nil)) Tryd.call30 (htu) fun e u1 hp => ?_
      obtain ⟨rfl, rfl⟩ := hp
      refine ⟨_, rfl, fun fa20 fh20 => ?_⟩
      clear fh19 fa19
      refine Kn.call fh20 rfl rfl .none (Kn.ex_call fh20 (.cons (.tmp rfl) .nil)) Tryd.call29 (hsh) fun e u2 hp => ?_
      obtain ⟨rfl, hb2⟩ := hp
      refine ⟨_, rfl, fun fa21 fh21 => ?_⟩
      clear fh20 fa20
      have HB2 := Lib.hid (HB.out.trans (hb2.mono HB.out.size))
      clear hb2
      refine Kn.step fh21 rfl rfl .none (Kn.ex_bin fh21 (.tmp rfl) (.tmp rfl)) fun Ko hKo => ?_
      go_simp
      try rw [if_neg (by omega)]
      refine hKo _ _ fun fa22 fh22 => ?_
      clear hKo Ko fh21 fa21
      refine Kn.pure fh22 rfl rfl .none (Kn.ex_assign fh22 (.tmp rfl)) fun fa23 fh23 => ?_
      clear fh22 fa22
      refine wpList_nil ?_
      refine Kn.block_normal ?_
      refine hK8 _ _ ?_
      clear hK8 K8
      replace fh23 := fh23.cut (.cons (t := 5) rfl (.cons (t := 6) rfl (.cons (t := 0) rfl (.cons (t := 1) rfl .nil))))
      clear ca1 htu hsh hz
      refine wp_region_lit ?_
      refine Kn.pure fh23 rfl rfl .none (Kn.ex_move fh23 (.tmp rfl)) fun fa24 fh24 => ?_
      clear fh23 fa23
      refine Kn.step fh24 rfl rfl .none (Kn.ex_bin fh24 (.tmp rfl) .const) fun Ko hKo => ?_
      go_simp
      try go_bits
      refine hKo _ _ fun fa25 fh25 => ?_
      clear hKo Ko fh24 fa24
      refine Kn.pure fh25 rfl rfl .none (Kn.ex_assign fh25 (.tmp rfl)) fun fa26 fh26 => ?_
      clear fh25 fa25
      refine wpList_nil ?_
      replace fh26 := fh26.cut (.cons (t := 6) rfl (.cons (t := 5) rfl (.cons (t := 0) rfl (.cons (t := 1) rfl .nil))))
      exact hKl5 (m5 - 1) _ _ (by omega) ⟨0 + 1, fh26.cut (.turn (t := 6) rfl (by go_num) (.turn (t := 5) rfl (by rw [HP.out]) (.cons (t := 0) rfl (.cons (t := 1) rfl .nil)))), by omega, HB2⟩
    obtain ⟨k, hkj⟩ : ∃ k, j + 1 = k := ⟨_, rfl⟩
    have HKJ := Lib.hid hkj
    rw [hkj] at hlt hk HS fh11
    have hk0 : ((k : Int) == 0) = false := by rw [beq_eq_false_iff_ne]; omega
    have hjl : j < l.length := by omega
    have rj : (k : Int) - 1 = (j : Int) := by omega
    clear hkj
    obtain ⟨ba, oa, rfl, -, ca1⟩ := (HA.out.on HB.out) k hlt
    have cb1 := IIn.cells (HA.out.on HB.out) hjl
    obtain ⟨x, hx⟩ : ∃ x, nt l k = x := ⟨_, rfl⟩
    obtain ⟨y, hy⟩ : ∃ y, nt l j = y := ⟨_, rfl⟩
    have hxr := HRd.out k hlt
    have hyr := HRd.out j hjl
    have hup := HUp.out j (by rw [HKJ.out]; exact hlt)
    rw [HKJ.out, hx, hy] at hup
    rw [hx] at ca1 hxr
    rw [hy] at cb1 hyr
    obtain ⟨z, hz⟩ : ∃ z, x - y = z := ⟨_, rfl⟩
    obtain ⟨t, ht⟩ : ∃ t : Nat, z - 1 = (t : Int) := ⟨(z - 1).toNat, by omega⟩
    have htb : t ≤ 100000 := by omega
    have hzb : 0 < z ∧ z ≤ 100000 := by omega
    have hsh := refShort_any t u.drew (by omega)
    obtain ⟨U, hU⟩ : ∃ U, bs (short t) = U := ⟨_, rfl⟩
    rw [show (⟨(short t).toArray⟩ : ByteArray) = U from hU] at hsh
    have hUs : U.size ≤ 9 := by rw [← hU, bs_size]; exact short_len9 t (by omega)
    have HP : Hid (bs (putF v l (k + 1)) = S ++ U) := Lib.hid (by
      have e := HKJ.out
      subst e
      rw [← HS.out, ← hU, bs_app, show putF v l (j + 1 + 1) = putF v l (j + 1) ++ short (l.getD (j + 1) 0 - l.getD j 0 - 1).toNat from rfl, show l.getD (j + 1) 0 = x from hx, show l.getD j 0 = y from hy, hz, ht, Int.toNat_natCast])
    clear hx hy hU
    refine wp_seq_k fun K9 hK9 => ?_
    refine wp_region_lit ?_
    refine Kn.pure fh11 rfl rfl .none (Kn.ex_move fh11 (.tmp rfl)) fun fa12 fh12 => ?_
    clear fh11 fa11
    refine Kn.step fh12 rfl rfl .none (Kn.ex_bin fh12 (.tmp rfl) .const) fun Ko hKo => ?_
    go_simp
    try go_bits
    refine hKo _ _ fun fa13 fh13 => ?_
    clear hKo Ko fh12 fa12
    refine wpList_nil ?_
    refine hK9 _ _ ?_
    clear hK9 K9
    replace fh13 := fh13.cut (.cons (t := 17) rfl (.cons (t := 6) rfl (.cons (t := 5) rfl (.cons (t := 0) rfl (.cons (t := 1) rfl .nil)))))
    refine Kn.no fh13 (.tmp rfl) ?_
    replace fh13 := fh13.cut (.cons (t := 6) rfl (.cons (t := 5) rfl (.cons (t := 0) rfl (.cons (t := 1) rfl .nil))))
    refine Kn.knPush 11 (by kernel_rfl) fh13 (by kernel_rfl) rfl rfl rfl rfl rfl (Kn.PI.block (Kn.PI.then (Kn.PI.then (Kn.PI.block (Kn.PI.then Kn.PI.body))))) rfl rfl fun fa14 fh14 => ?_
    clear fh13 fa13
    refine Kn.spure fh14 rfl rfl .none (Kn.ex_move fh14 (.tmp rfl)) fun fa15 fh15 => ?_
    clear fh14 fa14
    refine Kn.spure fh15 rfl rfl .none (Kn.ex_move fh15 (.tmp rfl)) fun fa16 fh16 => ?_
    clear fh15 fa15
    refine Kn.sstep fh16 rfl rfl .none (Kn.ex_indexAddr fh16 (.tmp rfl) (.tmp rfl)) fun Ko hKo => ?_
    go_simp
    try go_bits
    refine hKo _ fun fa17 fh17 => ?_
    clear hKo Ko fh16 fa16
    refine Kn.sstep fh17 rfl rfl .none (Kn.ex_load fh17 (.tmp rfl)) fun Ko hKo => ?_
    go_simp
    try go_bits
    refine hKo _ fun fa18 fh18 => ?_
    clear hKo Ko fh17 fa17
    refine Kn.spure fh18 rfl rfl .none (Kn.ex_move fh18 (.tmp rfl)) fun fa19 fh19 => ?_
    clear fh18 fa18
    refine Kn.spure fh19 rfl rfl .none (Kn.ex_move fh19 (.tmp rfl)) fun fa20 fh20 => ?_
    clear fh19 fa19
    refine Kn.sstep fh20 rfl rfl .none (Kn.ex_bin fh20 (.tmp rfl) .const) fun Ko hKo => ?_
    go_simp
    try go_bits
    try simp only [rj]
    refine hKo _ fun fa21 fh21 => ?_
    clear hKo Ko fh20 fa20
    refine Kn.sstep fh21 rfl rfl .none (Kn.ex_indexAddr fh21 (.tmp rfl) (.tmp rfl)) fun Ko hKo => ?_
    go_simp
    try go_bits
    refine hKo _ fun fa22 fh22 => ?_
    clear hKo Ko fh21 fa21
    refine Kn.sstep fh22 rfl rfl .none (Kn.ex_load fh22 (.tmp rfl)) fun Ko hKo => ?_
    go_simp
    try go_bits
    refine hKo _ fun fa23 fh23 => ?_
    clear hKo Ko fh22 fa22
    refine Kn.sstep fh23 rfl rfl .none (Kn.ex_bin fh23 (.tmp rfl) (.tmp rfl)) fun Ko hKo => ?_
    go_simp
    try go_bits
    try rw [hz]
    try go_simp
    try go_bits
    refine hKo _ fun fa24 fh24 => ?_
    clear hKo Ko fh23 fa23
    refine Kn.sstep fh24 rfl rfl .none (Kn.ex_bin fh24 (.tmp rfl) .const) fun Ko hKo => ?_
    go_simp
    try go_bits
    try rw [ht]
    try go_simp
    try go_bits
    refine hKo _ fun fa25 fh25 => ?_
    clear hKo Ko fh24 fa24
    refine wpStill_nil ?_
    refine Kn.call fh25 rfl rfl .none (Kn.ex_call fh25 (.cons (.tmp rfl) .nil)) Tryd.call29 (hsh) fun e u2 hp => ?_
    obtain ⟨rfl, hb2⟩ := hp
    refine ⟨_, rfl, fun fa26 fh26 => ?_⟩
    clear fh25 fa25
    have HB2 := Lib.hid (HB.out.trans ((Own.undrew hb2).mono HB.out.size))
    clear hb2
    refine Kn.step fh26 rfl rfl .none (Kn.ex_bin fh26 (.tmp rfl) (.tmp rfl)) fun Ko hKo => ?_
    go_simp
    try rw [if_neg (by omega)]
    refine hKo _ _ fun fa27 fh27 => ?_
    clear hKo Ko fh26 fa26
    refine Kn.pure fh27 rfl rfl .none (Kn.ex_assign fh27 (.tmp rfl)) fun fa28 fh28 => ?_
    clear fh27 fa27
    refine wpList_nil ?_
    refine Kn.block_normal ?_
    refine hK8 _ _ ?_
    clear hK8 K8
    replace fh28 := fh28.cut (.cons (t := 5) rfl (.cons (t := 6) rfl (.cons (t := 0) rfl (.cons (t := 1) rfl .nil))))
    clear ca1 cb1 hsh hz ht rj hk0
    refine wp_region_lit ?_
    refine Kn.pure fh28 rfl rfl .none (Kn.ex_move fh28 (.tmp rfl)) fun fa29 fh29 => ?_
    clear fh28 fa28
    refine Kn.step fh29 rfl rfl .none (Kn.ex_bin fh29 (.tmp rfl) .const) fun Ko hKo => ?_
    go_simp
    try go_bits
    refine hKo _ _ fun fa30 fh30 => ?_
    clear hKo Ko fh29 fa29
    refine Kn.pure fh30 rfl rfl .none (Kn.ex_assign fh30 (.tmp rfl)) fun fa31 fh31 => ?_
    clear fh30 fa30
    refine wpList_nil ?_
    replace fh31 := fh31.cut (.cons (t := 6) rfl (.cons (t := 5) rfl (.cons (t := 0) rfl (.cons (t := 1) rfl .nil))))
    exact hKl5 (m5 - 1) _ _ (by omega) ⟨k + 1, fh31.cut (.turn (t := 6) rfl (by go_num) (.turn (t := 5) rfl (by rw [HP.out]) (.cons (t := 0) rfl (.cons (t := 1) rfl .nil)))), by omega, HB2⟩
  · obtain rfl : k = l.length := by omega
    refine wp_seq_k fun K6 hK6 => ?_
    refine wp_seq_k fun K7 hK7 => ?_
    refine wp_region_lit ?_
    refine Kn.pure fh7 rfl rfl .none (Kn.ex_move fh7 (.tmp rfl)) fun fa8 fh8 => ?_
    clear fh7 fa7
    refine Kn.pure fh8 rfl rfl .none (Kn.ex_move fh8 (.tmp rfl)) fun fa9 fh9 => ?_
    clear fh8 fa8
    refine Kn.step fh9 rfl rfl .none (Kn.ex_len fh9 (.tmp rfl)) fun Ko hKo => ?_
    go_simp
    try go_bits
    refine hKo _ _ fun fa10 fh10 => ?_
    clear hKo Ko fh9 fa9
    refine Kn.step fh10 rfl rfl .none (Kn.ex_bin fh10 (.tmp rfl) (.tmp rfl)) fun Ko hKo => ?_
    go_simp
    try go_bits
    refine hKo _ _ fun fa11 fh11 => ?_
    clear hKo Ko fh10 fa10
    refine wpList_nil ?_
    refine hK7 _ _ ?_
    clear hK7 K7
    replace fh11 := fh11.cut (.cons (t := 13) rfl (.cons (t := 6) rfl (.cons (t := 5) rfl (.cons (t := 0) rfl (.cons (t := 1) rfl .nil)))))
    refine Kn.no fh11 (.tmp rfl) ?_
    replace fh11 := fh11.cut (.cons (t := 6) rfl (.cons (t := 5) rfl (.cons (t := 0) rfl (.cons (t := 1) rfl .nil))))
    refine wp_exit ?_
    refine Kn.then_exit ?_
    clear hK6 K6
    refine Kn.then_exit ?_
    clear hKl5 Kl5
    refine Kn.block_exit ?_
    refine hK3 _ _ ?_
    clear hK3 K3
    replace fh11 := fh11.cut (.cons (t := 5) rfl .nil)
    refine wp_seq_k fun K8 hK8 => ?_
    refine wp_region_lit ?_
    refine Kn.pure fh11 rfl rfl .none (Kn.ex_move fh11 (.tmp rfl)) fun fa12 fh12 => ?_
    clear fh11 fa11
    refine Kn.pure fh12 rfl rfl .none (Kn.ex_assign fh12 (.tmp rfl)) fun fa13 fh13 => ?_
    clear fh12 fa12
    refine wpList_nil ?_
    refine hK8 _ _ ?_
    clear hK8 K8
    replace fh13 := fh13.cut (.cons (t := 4) rfl .nil)
    refine wp_ret ?_
    exact Kn.ret1 fh13 rfl rfl ⟨rfl, HB.out⟩

end Go.Proofs.YtoggeiaofpdboaaDoor.Gap
