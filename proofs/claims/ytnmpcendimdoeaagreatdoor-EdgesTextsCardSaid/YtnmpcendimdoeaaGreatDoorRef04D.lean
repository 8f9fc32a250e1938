/- The document's Digits and Text of layer 4 (edges) (written by gen_ref04d.py). -/
import Derived.Test.YtnmpcendimdoeaaGreatDoorEdgeKit
import Derived.Test.YtnmpcendimdoeaaGreatDoorDigMath
namespace Go.Proofs.YtnmpcendimdoeaaGreatDoor.Edg
open Go Go.RowKit Go.Lib Dig

theorem cut_lh {P : Program} (w : World) (t : TypeId) (s : ByteArray) (ht : P.underlying t = some .string) (kl kh : IntKind) (l h : Nat) (h1 : l ≤ h) (h2 : h ≤ s.size) :
    (Instr.sliceAt t (.string s) (some (.int kl (l : Int))) (some (.int kh (h : Int))) none).run P w = .ok (.string (s.extract l h)) w := by
  rw [run_sliceAt_string _ _ _ _ _ _ ht]
  simp [Instr.slice, run_underlying ht, Instr.sliceBounds, run_sliceBound, sliced, h1, h2]
def ten : ByteArray := ⟨#[48, 49, 50, 51, 52, 53, 54, 55, 56, 57]⟩
theorem ten_cut (d : Nat) (h : d < 10) : (⟨#[48, 49, 50, 51, 52, 53, 54, 55, 56, 57]⟩ : ByteArray).extract d (d + 1) = sbl [UInt8.ofNat (48 + d)] := by
  have : ∀ d : Fin 10, (⟨#[48, 49, 50, 51, 52, 53, 54, 55, 56, 57]⟩ : ByteArray).extract d.val (d.val + 1) = sbl [UInt8.ofNat (48 + d.val)] := by decide
  exact this ⟨d, h⟩

set_option maxRecDepth 100000 in
set_option maxHeartbeats 200000 in
theorem digits_a (n : Int) (m : Nat) (w : World) (hn : n = (m : Int)) (hb : m ≤ 9007199254740992) (hneg : ¬ n < 0) (hsm : m < 10) (ht : n < 10) (HR : Hid (dgI n = [UInt8.ofNat (48 + m)]))  :
    Calls Tryz.prog 19 #[.int .i64 n] w fun e w' => e = .returned (.string (sbl (dgI n))) ∧ w = w' := by
  have HN := Lib.hid hn
  clear hn
  refine Kn.calls Tryz.func19 rfl Tryz.ntmps19 rfl (.cons (t := 0) rfl .nil) fun fa0 fh0 => ?_
  refine wp_seq_k fun K1 hK1 => ?_
  refine wp_region_lit ?_
  refine Kn.pure fh0 rfl rfl .none (Kn.ex_assign fh0 .const) fun fa1 fh1 => ?_
  clear fh0 fa0
  refine wpList_nil ?_
  refine hK1 _ _ ?_
  clear hK1 K1
  refine wp_seq_k fun K2 hK2 => ?_
  refine wp_seq_k fun K3 hK3 => ?_
  refine wp_region_lit ?_
  refine Kn.pure fh1 rfl rfl .none (Kn.ex_move fh1 (.tmp rfl)) fun fa2 fh2 => ?_
  clear fh1 fa1
  refine Kn.step fh2 rfl rfl .none (Kn.ex_bin fh2 (.tmp rfl) .const) fun Ko hKo => ?_
  go_simp
  try go_bits
  refine hKo _ _ fun fa3 fh3 => ?_
  clear hKo Ko fh2 fa2
  refine wpList_nil ?_
  refine hK3 _ _ ?_
  clear hK3 K3
  replace fh3 := fh3.cut (.cons (t := 6) rfl (.cons (t := 2) rfl (.cons (t := 0) rfl .nil)))
  refine Kn.no fh3 (.tmp rfl) ?_
  refine wp_skip ?_
  refine hK2 _ _ ?_
  clear hK2 K2
  replace fh3 := fh3.cut (.cons (t := 2) rfl (.cons (t := 0) rfl .nil))
  obtain ⟨d, hd⟩ : ∃ d, m % 10 = d := ⟨_, rfl⟩
  have hdl : d < 10 := by omega
  obtain ⟨d1, hd1⟩ : ∃ k, d + 1 = k := ⟨_, rfl⟩
  have hd1l : d1 ≤ 10 := by omega
  have hdd : d ≤ d1 := by omega
  obtain ⟨U, hU⟩ : ∃ U, sbl [UInt8.ofNat (48 + d)] = U := ⟨_, rfl⟩
  have hcut := cut_lh (P := Tryz.prog) w 9 (⟨#[48, 49, 50, 51, 52, 53, 54, 55, 56, 57]⟩ : ByteArray) Tryz.underlying9 .i64 .i64 d d1 hdd hd1l
  rw [← hd1, ten_cut d hdl, hU, hd1] at hcut
  have hUs : U.size = 1 := by rw [← hU]; rfl
  have HU := Lib.hid hU
  have HD := Lib.hid hd
  have r1 : n % 10 = (d : Int) := by have := HN.out; omega
  have r2 : (d : Int) + 1 = (d1 : Int) := by omega
  clear hd hU hd1
  refine wp_seq_k fun K4 hK4 => ?_
  refine wp_region_lit ?_
  refine Kn.pure fh3 rfl rfl .none (Kn.ex_move fh3 (.tmp rfl)) fun fa4 fh4 => ?_
  clear fh3 fa3
  refine Kn.step fh4 rfl rfl .none (Kn.ex_bin fh4 (.tmp rfl) .const) fun Ko hKo => ?_
  go_simp
  try go_bits
  try simp only [r1]
  refine hKo _ _ fun fa5 fh5 => ?_
  clear hKo Ko fh4 fa4
  refine Kn.pure fh5 rfl rfl .none (Kn.ex_move fh5 (.tmp rfl)) fun fa6 fh6 => ?_
  clear fh5 fa5
  refine Kn.step fh6 rfl rfl .none (Kn.ex_bin fh6 (.tmp rfl) .const) fun Ko hKo => ?_
  go_simp
  try go_bits
  try simp only [r1]
  refine hKo _ _ fun fa7 fh7 => ?_
  clear hKo Ko fh6 fa6
  refine Kn.step fh7 rfl rfl .none (Kn.ex_bin fh7 (.tmp rfl) .const) fun Ko hKo => ?_
  go_simp
  try go_bits
  try simp only [r2]
  refine hKo _ _ fun fa8 fh8 => ?_
  clear hKo Ko fh7 fa7
  refine Kn.known fh8 rfl rfl .none (Kn.ex_sliceLH fh8 .const (.tmp rfl) (.tmp rfl)) hcut fun fa9 fh9 => ?_
  clear fh8 fa8
  refine Kn.pure fh9 rfl rfl .none (Kn.ex_assign fh9 (.tmp rfl)) fun fa10 fh10 => ?_
  clear fh9 fa9
  refine wpList_nil ?_
  refine hK4 _ _ ?_
  clear hK4 K4
  replace fh10 := fh10.cut (.cons (t := 4) rfl (.cons (t := 2) rfl (.cons (t := 0) rfl .nil)))
  clear hcut r1 r2
  refine wp_seq_k fun K5 hK5 => ?_
  refine wp_seq_k fun K6 hK6 => ?_
  refine wp_region_lit ?_
  refine Kn.pure fh10 rfl rfl .none (Kn.ex_move fh10 (.tmp rfl)) fun fa11 fh11 => ?_
  clear fh10 fa10
  refine Kn.step fh11 rfl rfl .none (Kn.ex_bin fh11 (.tmp rfl) .const) fun Ko hKo => ?_
  go_simp
  try go_bits
  refine hKo _ _ fun fa12 fh12 => ?_
  clear hKo Ko fh11 fa11
  refine wpList_nil ?_
  refine hK6 _ _ ?_
  clear hK6 K6
  replace fh12 := fh12.cut (.cons (t := 30) rfl (.cons (t := 4) rfl (.cons (t := 2) rfl (.cons (t := 0) rfl .nil))))
  refine Kn.yes fh12 (.tmp rfl) ?_
  replace fh12 := fh12.cut (.cons (t := 4) rfl (.cons (t := 2) rfl (.cons (t := 0) rfl .nil)))
  refine wp_seq_k fun K7 hK7 => ?_
  refine wp_region_lit ?_
  refine Kn.pure fh12 rfl rfl .none (Kn.ex_move fh12 (.tmp rfl)) fun fa13 fh13 => ?_
  clear fh12 fa12
  refine Kn.pure fh13 rfl rfl .none (Kn.ex_assign fh13 (.tmp rfl)) fun fa14 fh14 => ?_
  clear fh13 fa13
  refine wpList_nil ?_
  refine hK7 _ _ ?_
  clear hK7 K7
  replace fh14 := fh14.cut (.cons (t := 2) rfl (.cons (t := 4) rfl (.cons (t := 0) rfl .nil)))
  refine wp_ret ?_
  refine Kn.then_ret ?_
  exact Kn.ret1 fh14 rfl rfl ⟨by rw [← HU.out, HR.out, ← HD.out, Nat.mod_eq_of_lt hsm], rfl⟩

set_option maxRecDepth 100000 in
set_option maxHeartbeats 200000 in
theorem digits_b (n : Int) (m : Nat) (w : World) (hn : n = (m : Int)) (hb : m ≤ 9007199254740992) (hneg : ¬ n < 0) (hsm : ¬ m < 10) (ht : ¬ n < 10) (HR : Hid (dgI n = dgI (n.tdiv 10) ++ [UInt8.ofNat (48 + m % 10)])) (hqb : ∀ q : Int, q = n.tdiv 10 → q.natAbs ≤ 9007199254740992) (ih : ∀ q : Int, q = n.tdiv 10 → ∀ w, Calls Tryz.prog 19 #[.int .i64 q] w fun e w' => e = .returned (.string (sbl (dgI q))) ∧ w = w') :
    Calls Tryz.prog 19 #[.int .i64 n] w fun e w' => e = .returned (.string (sbl (dgI n))) ∧ w = w' := by
  have HN := Lib.hid hn
  clear hn
  have HQB := Lib.hid hqb
  have IH := Lib.hid ih
  clear hqb ih
  refine Kn.calls Tryz.func19 rfl Tryz.ntmps19 rfl (.cons (t := 0) rfl .nil) fun fa0 fh0 => ?_
  refine wp_seq_k fun K1 hK1 => ?_
  refine wp_region_lit ?_
  refine Kn.pure fh0 rfl rfl .none (Kn.ex_assign fh0 .const) fun fa1 fh1 => ?_
  clear fh0 fa0
  refine wpList_nil ?_
  refine hK1 _ _ ?_
  clear hK1 K1
  refine wp_seq_k fun K2 hK2 => ?_
  refine wp_seq_k fun K3 hK3 => ?_
  refine wp_region_lit ?_
  refine Kn.pure fh1 rfl rfl .none (Kn.ex_move fh1 (.tmp rfl)) fun fa2 fh2 => ?_
  clear fh1 fa1
  refine Kn.step fh2 rfl rfl .none (Kn.ex_bin fh2 (.tmp rfl) .const) fun Ko hKo => ?_
  go_simp
  try go_bits
  refine hKo _ _ fun fa3 fh3 => ?_
  clear hKo Ko fh2 fa2
  refine wpList_nil ?_
  refine hK3 _ _ ?_
  clear hK3 K3
  replace fh3 := fh3.cut (.cons (t := 6) rfl (.cons (t := 2) rfl (.cons (t := 0) rfl .nil)))
  refine Kn.no fh3 (.tmp rfl) ?_
  refine wp_skip ?_
  refine hK2 _ _ ?_
  clear hK2 K2
  replace fh3 := fh3.cut (.cons (t := 2) rfl (.cons (t := 0) rfl .nil))
  obtain ⟨d, hd⟩ : ∃ d, m % 10 = d := ⟨_, rfl⟩
  have hdl : d < 10 := by omega
  obtain ⟨d1, hd1⟩ : ∃ k, d + 1 = k := ⟨_, rfl⟩
  have hd1l : d1 ≤ 10 := by omega
  have hdd : d ≤ d1 := by omega
  obtain ⟨U, hU⟩ : ∃ U, sbl [UInt8.ofNat (48 + d)] = U := ⟨_, rfl⟩
  have hcut := cut_lh (P := Tryz.prog) w 9 (⟨#[48, 49, 50, 51, 52, 53, 54, 55, 56, 57]⟩ : ByteArray) Tryz.underlying9 .i64 .i64 d d1 hdd hd1l
  rw [← hd1, ten_cut d hdl, hU, hd1] at hcut
  have hUs : U.size = 1 := by rw [← hU]; rfl
  have HU := Lib.hid hU
  have HD := Lib.hid hd
  have r1 : n % 10 = (d : Int) := by have := HN.out; omega
  have r2 : (d : Int) + 1 = (d1 : Int) := by omega
  clear hd hU hd1
  refine wp_seq_k fun K4 hK4 => ?_
  refine wp_region_lit ?_
  refine Kn.pure fh3 rfl rfl .none (Kn.ex_move fh3 (.tmp rfl)) fun fa4 fh4 => ?_
  clear fh3 fa3
  refine Kn.step fh4 rfl rfl .none (Kn.ex_bin fh4 (.tmp rfl) .const) fun Ko hKo => ?_
  go_simp
  try go_bits
  try simp only [r1]
  refine hKo _ _ fun fa5 fh5 => ?_
  clear hKo Ko fh4 fa4
  refine Kn.pure fh5 rfl rfl .none (Kn.ex_move fh5 (.tmp rfl)) fun fa6 fh6 => ?_
  clear fh5 fa5
  refine Kn.step fh6 rfl rfl .none (Kn.ex_bin fh6 (.tmp rfl) .const) fun Ko hKo => ?_
  go_simp
  try go_bits
  try simp only [r1]
  refine hKo _ _ fun fa7 fh7 => ?_
  clear hKo Ko fh6 fa6
  refine Kn.step fh7 rfl rfl .none (Kn.ex_bin fh7 (.tmp rfl) .const) fun Ko hKo => ?_
  go_simp
  try go_bits
  try simp only [r2]
  refine hKo _ _ fun fa8 fh8 => ?_
  clear hKo Ko fh7 fa7
  refine Kn.known fh8 rfl rfl .none (Kn.ex_sliceLH fh8 .const (.tmp rfl) (.tmp rfl)) hcut fun fa9 fh9 => ?_
  clear fh8 fa8
  refine Kn.pure fh9 rfl rfl .none (Kn.ex_assign fh9 (.tmp rfl)) fun fa10 fh10 => ?_
  clear fh9 fa9
  refine wpList_nil ?_
  refine hK4 _ _ ?_
  clear hK4 K4
  replace fh10 := fh10.cut (.cons (t := 4) rfl (.cons (t := 2) rfl (.cons (t := 0) rfl .nil)))
  clear hcut r1 r2
  refine wp_seq_k fun K5 hK5 => ?_
  refine wp_seq_k fun K6 hK6 => ?_
  refine wp_region_lit ?_
  refine Kn.pure fh10 rfl rfl .none (Kn.ex_move fh10 (.tmp rfl)) fun fa11 fh11 => ?_
  clear fh10 fa10
  refine Kn.step fh11 rfl rfl .none (Kn.ex_bin fh11 (.tmp rfl) .const) fun Ko hKo => ?_
  go_simp
  try go_bits
  refine hKo _ _ fun fa12 fh12 => ?_
  clear hKo Ko fh11 fa11
  refine wpList_nil ?_
  refine hK6 _ _ ?_
  clear hK6 K6
  replace fh12 := fh12.cut (.cons (t := 30) rfl (.cons (t := 4) rfl (.cons (t := 2) rfl (.cons (t := 0) rfl .nil))))
  refine Kn.no fh12 (.tmp rfl) ?_
  refine wp_skip ?_
  refine hK5 _ _ ?_
  clear hK5 K5
  replace fh12 := fh12.cut (.cons (t := 4) rfl (.cons (t := 2) rfl (.cons (t := 0) rfl .nil)))
  obtain ⟨q, hq⟩ : ∃ q, n.tdiv 10 = q := ⟨_, rfl⟩
  have hq2 : n / 10 = q := by rw [← hq, Int.tdiv_eq_ediv_of_nonneg (by omega)]
  have HI := Lib.hid (IH.out q hq.symm)
  have hql : q.natAbs ≤ 9007199254740992 := HQB.out q hq.symm
  have hqlo : -9007199254740992 ≤ q := by omega
  have hqhi : q ≤ 9007199254740992 := by omega
  obtain ⟨V, hV⟩ : ∃ V, sbl (dgI q) = V := ⟨_, rfl⟩
  have HI2 : Hid (∀ w, Calls Tryz.prog 19 #[.int .i64 q] w fun e w' => e = .returned (.string V) ∧ w = w') := Lib.hid (by rw [← hV]; exact HI.out)
  have HV := Lib.hid hV
  have HQ := Lib.hid hq
  have hVs : V.size ≤ 21 := by rw [← hV, sbl_size]; exact dgI_len _ (by omega)
  clear HI hql
  clear hV
  refine wp_seq_k fun K7 hK7 => ?_
  refine wp_region_lit ?_
  refine Kn.pure fh12 rfl rfl .none (Kn.ex_move fh12 (.tmp rfl)) fun fa13 fh13 => ?_
  clear fh12 fa12
  refine Kn.step fh13 rfl rfl .none (Kn.ex_bin fh13 (.tmp rfl) .const) fun Ko hKo => ?_
  go_simp
  try go_bits
  try simp only [hq2]
  refine hKo _ _ fun fa14 fh14 => ?_
  clear hKo Ko fh13 fa13
  refine Kn.call fh14 rfl rfl .none (Kn.ex_call fh14 (.cons (.tmp rfl) .nil)) Tryz.call19 (HI2.out _) fun e w1 hp => ?_
  obtain ⟨rfl, rfl⟩ := hp
  refine ⟨_, rfl, fun fa15 fh15 => ?_⟩
  clear fh14 fa14
  refine Kn.pure fh15 rfl rfl .none (Kn.ex_move fh15 (.tmp rfl)) fun fa16 fh16 => ?_
  clear fh15 fa15
  refine Kn.step fh16 rfl rfl .none (Kn.ex_bin fh16 (.tmp rfl) (.tmp rfl)) fun Ko hKo => ?_
  go_simp
  try rw [if_neg (by omega)]
  refine hKo _ _ fun fa17 fh17 => ?_
  clear hKo Ko fh16 fa16
  refine Kn.pure fh17 rfl rfl .none (Kn.ex_assign fh17 (.tmp rfl)) fun fa18 fh18 => ?_
  clear fh17 fa17
  refine wpList_nil ?_
  refine hK7 _ _ ?_
  clear hK7 K7
  replace fh18 := fh18.cut (.cons (t := 2) rfl .nil)
  refine wp_ret ?_
  exact Kn.ret1 fh18 rfl rfl ⟨by rw [← HU.out, ← HV.out, HR.out, sbl_app, ← HD.out, HQ.out], rfl⟩

set_option maxRecDepth 100000 in
set_option maxHeartbeats 200000 in
theorem digits_c (n : Int) (m : Nat) (w : World) (hn : n = -(m : Int)) (hm : 0 < m) (hb : m ≤ 9007199254740992) (hneg : n < 0) (hsm : m < 10) (ht : -10 < n) (HR : Hid (dgI n = [45] ++ [UInt8.ofNat (48 + m)]))  :
    Calls Tryz.prog 19 #[.int .i64 n] w fun e w' => e = .returned (.string (sbl (dgI n))) ∧ w = w' := by
  have HN := Lib.hid hn
  clear hn
  refine Kn.calls Tryz.func19 rfl Tryz.ntmps19 rfl (.cons (t := 0) rfl .nil) fun fa0 fh0 => ?_
  refine wp_seq_k fun K1 hK1 => ?_
  refine wp_region_lit ?_
  refine Kn.pure fh0 rfl rfl .none (Kn.ex_assign fh0 .const) fun fa1 fh1 => ?_
  clear fh0 fa0
  refine wpList_nil ?_
  refine hK1 _ _ ?_
  clear hK1 K1
  refine wp_seq_k fun K2 hK2 => ?_
  refine wp_seq_k fun K3 hK3 => ?_
  refine wp_region_lit ?_
  refine Kn.pure fh1 rfl rfl .none (Kn.ex_move fh1 (.tmp rfl)) fun fa2 fh2 => ?_
  clear fh1 fa1
  refine Kn.step fh2 rfl rfl .none (Kn.ex_bin fh2 (.tmp rfl) .const) fun Ko hKo => ?_
  go_simp
  try go_bits
  refine hKo _ _ fun fa3 fh3 => ?_
  clear hKo Ko fh2 fa2
  refine wpList_nil ?_
  refine hK3 _ _ ?_
  clear hK3 K3
  replace fh3 := fh3.cut (.cons (t := 6) rfl (.cons (t := 2) rfl (.cons (t := 0) rfl .nil)))
  refine Kn.yes fh3 (.tmp rfl) ?_
  replace fh3 := fh3.cut (.cons (t := 2) rfl (.cons (t := 0) rfl .nil))
  obtain ⟨d, hd⟩ : ∃ d, m % 10 = d := ⟨_, rfl⟩
  have hdl : d < 10 := by omega
  obtain ⟨d1, hd1⟩ : ∃ k, d + 1 = k := ⟨_, rfl⟩
  have hd1l : d1 ≤ 10 := by omega
  have hdd : d ≤ d1 := by omega
  obtain ⟨U, hU⟩ : ∃ U, sbl [UInt8.ofNat (48 + d)] = U := ⟨_, rfl⟩
  have hcut := cut_lh (P := Tryz.prog) w 9 (⟨#[48, 49, 50, 51, 52, 53, 54, 55, 56, 57]⟩ : ByteArray) Tryz.underlying9 .i64 .i64 d d1 hdd hd1l
  rw [← hd1, ten_cut d hdl, hU, hd1] at hcut
  have hUs : U.size = 1 := by rw [← hU]; rfl
  have HU := Lib.hid hU
  have HD := Lib.hid hd
  have r1 : n.tmod 10 = -(d : Int) := by rw [HN.out, Int.neg_tmod, Int.tmod_eq_emod_of_nonneg (by omega)]; omega
  have r2 : 1 - -(d : Int) = (d1 : Int) := by omega
  have r2' : 1 + (d : Int) = (d1 : Int) := by omega
  clear hd hU hd1
  refine wp_seq_k fun K4 hK4 => ?_
  refine wp_region_lit ?_
  refine Kn.pure fh3 rfl rfl .none (Kn.ex_move fh3 (.tmp rfl)) fun fa4 fh4 => ?_
  clear fh3 fa3
  refine Kn.step fh4 rfl rfl .none (Kn.ex_bin fh4 (.tmp rfl) .const) fun Ko hKo => ?_
  go_simp
  try simp only [r1]
  refine hKo _ _ fun fa5 fh5 => ?_
  clear hKo Ko fh4 fa4
  refine Kn.step fh5 rfl rfl .none (Kn.ex_un fh5 (.tmp rfl)) fun Ko hKo => ?_
  go_simp
  try go_bits
  try simp only [Int.neg_neg]
  refine hKo _ _ fun fa6 fh6 => ?_
  clear hKo Ko fh5 fa5
  refine Kn.pure fh6 rfl rfl .none (Kn.ex_move fh6 (.tmp rfl)) fun fa7 fh7 => ?_
  clear fh6 fa6
  refine Kn.step fh7 rfl rfl .none (Kn.ex_bin fh7 (.tmp rfl) .const) fun Ko hKo => ?_
  go_simp
  try simp only [r1]
  refine hKo _ _ fun fa8 fh8 => ?_
  clear hKo Ko fh7 fa7
  refine Kn.step fh8 rfl rfl .none (Kn.ex_bin fh8 .const (.tmp rfl)) fun Ko hKo => ?_
  go_simp
  try go_bits
  try simp only [r2]
  refine hKo _ _ fun fa9 fh9 => ?_
  clear hKo Ko fh8 fa8
  refine Kn.known fh9 rfl rfl .none (Kn.ex_sliceLH fh9 .const (.tmp rfl) (.tmp rfl)) hcut fun fa10 fh10 => ?_
  clear fh9 fa9
  refine Kn.pure fh10 rfl rfl .none (Kn.ex_assign fh10 (.tmp rfl)) fun fa11 fh11 => ?_
  clear fh10 fa10
  refine wpList_nil ?_
  refine hK4 _ _ ?_
  clear hK4 K4
  replace fh11 := fh11.cut (.cons (t := 3) rfl (.cons (t := 2) rfl (.cons (t := 0) rfl .nil)))
  clear hcut r1 r2
  clear r2'
  refine wp_seq_k fun K5 hK5 => ?_
  refine wp_seq_k fun K6 hK6 => ?_
  refine wp_region_lit ?_
  refine Kn.pure fh11 rfl rfl .none (Kn.ex_move fh11 (.tmp rfl)) fun fa12 fh12 => ?_
  clear fh11 fa11
  refine Kn.step fh12 rfl rfl .none (Kn.ex_bin fh12 (.tmp rfl) .const) fun Ko hKo => ?_
  go_simp
  try go_bits
  refine hKo _ _ fun fa13 fh13 => ?_
  clear hKo Ko fh12 fa12
  refine wpList_nil ?_
  refine hK6 _ _ ?_
  clear hK6 K6
  replace fh13 := fh13.cut (.cons (t := 15) rfl (.cons (t := 3) rfl (.cons (t := 2) rfl (.cons (t := 0) rfl .nil))))
  refine Kn.yes fh13 (.tmp rfl) ?_
  replace fh13 := fh13.cut (.cons (t := 3) rfl (.cons (t := 2) rfl (.cons (t := 0) rfl .nil)))
  refine wp_seq_k fun K7 hK7 => ?_
  refine wp_region_lit ?_
  refine Kn.pure fh13 rfl rfl .none (Kn.ex_move fh13 (.tmp rfl)) fun fa14 fh14 => ?_
  clear fh13 fa13
  refine Kn.step fh14 rfl rfl .none (Kn.ex_bin fh14 .const (.tmp rfl)) fun Ko hKo => ?_
  go_simp
  try rw [if_neg (by omega)]
  refine hKo _ _ fun fa15 fh15 => ?_
  clear hKo Ko fh14 fa14
  refine Kn.pure fh15 rfl rfl .none (Kn.ex_assign fh15 (.tmp rfl)) fun fa16 fh16 => ?_
  clear fh15 fa15
  refine wpList_nil ?_
  refine hK7 _ _ ?_
  clear hK7 K7
  replace fh16 := fh16.cut (.cons (t := 2) rfl (.cons (t := 3) rfl (.cons (t := 0) rfl .nil)))
  refine wp_ret ?_
  refine Kn.then_ret ?_
  refine Kn.then_ret ?_
  exact Kn.ret1 fh16 rfl rfl ⟨by rw [← HU.out, HR.out, show (⟨#[45]⟩ : ByteArray) = sbl [45] from rfl, sbl_app, ← HD.out, Nat.mod_eq_of_lt hsm], rfl⟩

set_option maxRecDepth 100000 in
set_option maxHeartbeats 200000 in
theorem digits_d (n : Int) (m : Nat) (w : World) (hn : n = -(m : Int)) (hm : 0 < m) (hb : m ≤ 9007199254740992) (hneg : n < 0) (hsm : ¬ m < 10) (ht : ¬ -10 < n) (HR : Hid (dgI n = dgI (n.tdiv 10) ++ [UInt8.ofNat (48 + m % 10)])) (hqb : ∀ q : Int, q = n.tdiv 10 → q.natAbs ≤ 9007199254740992) (ih : ∀ q : Int, q = n.tdiv 10 → ∀ w, Calls Tryz.prog 19 #[.int .i64 q] w fun e w' => e = .returned (.string (sbl (dgI q))) ∧ w = w') :
    Calls Tryz.prog 19 #[.int .i64 n] w fun e w' => e = .returned (.string (sbl (dgI n))) ∧ w = w' := by
  have HN := Lib.hid hn
  clear hn
  have HQB := Lib.hid hqb
  have IH := Lib.hid ih
  clear hqb ih
  refine Kn.calls Tryz.func19 rfl Tryz.ntmps19 rfl (.cons (t := 0) rfl .nil) fun fa0 fh0 => ?_
  refine wp_seq_k fun K1 hK1 => ?_
  refine wp_region_lit ?_
  refine Kn.pure fh0 rfl rfl .none (Kn.ex_assign fh0 .const) fun fa1 fh1 => ?_
  clear fh0 fa0
  refine wpList_nil ?_
  refine hK1 _ _ ?_
  clear hK1 K1
  refine wp_seq_k fun K2 hK2 => ?_
  refine wp_seq_k fun K3 hK3 => ?_
  refine wp_region_lit ?_
  refine Kn.pure fh1 rfl rfl .none (Kn.ex_move fh1 (.tmp rfl)) fun fa2 fh2 => ?_
  clear fh1 fa1
  refine Kn.step fh2 rfl rfl .none (Kn.ex_bin fh2 (.tmp rfl) .const) fun Ko hKo => ?_
  go_simp
  try go_bits
  refine hKo _ _ fun fa3 fh3 => ?_
  clear hKo Ko fh2 fa2
  refine wpList_nil ?_
  refine hK3 _ _ ?_
  clear hK3 K3
  replace fh3 := fh3.cut (.cons (t := 6) rfl (.cons (t := 2) rfl (.cons (t := 0) rfl .nil)))
  refine Kn.yes fh3 (.tmp rfl) ?_
  replace fh3 := fh3.cut (.cons (t := 2) rfl (.cons (t := 0) rfl .nil))
  obtain ⟨d, hd⟩ : ∃ d, m % 10 = d := ⟨_, rfl⟩
  have hdl : d < 10 := by omega
  obtain ⟨d1, hd1⟩ : ∃ k, d + 1 = k := ⟨_, rfl⟩
  have hd1l : d1 ≤ 10 := by omega
  have hdd : d ≤ d1 := by omega
  obtain ⟨U, hU⟩ : ∃ U, sbl [UInt8.ofNat (48 + d)] = U := ⟨_, rfl⟩
  have hcut := cut_lh (P := Tryz.prog) w 9 (⟨#[48, 49, 50, 51, 52, 53, 54, 55, 56, 57]⟩ : ByteArray) Tryz.underlying9 .i64 .i64 d d1 hdd hd1l
  rw [← hd1, ten_cut d hdl, hU, hd1] at hcut
  have hUs : U.size = 1 := by rw [← hU]; rfl
  have HU := Lib.hid hU
  have HD := Lib.hid hd
  have r1 : n.tmod 10 = -(d : Int) := by rw [HN.out, Int.neg_tmod, Int.tmod_eq_emod_of_nonneg (by omega)]; omega
  have r2 : 1 - -(d : Int) = (d1 : Int) := by omega
  have r2' : 1 + (d : Int) = (d1 : Int) := by omega
  clear hd hU hd1
  refine wp_seq_k fun K4 hK4 => ?_
  refine wp_region_lit ?_
  refine Kn.pure fh3 rfl rfl .none (Kn.ex_move fh3 (.tmp rfl)) fun fa4 fh4 => ?_
  clear fh3 fa3
  refine Kn.step fh4 rfl rfl .none (Kn.ex_bin fh4 (.tmp rfl) .const) fun Ko hKo => ?_
  go_simp
  try simp only [r1]
  refine hKo _ _ fun fa5 fh5 => ?_
  clear hKo Ko fh4 fa4
  refine Kn.step fh5 rfl rfl .none (Kn.ex_un fh5 (.tmp rfl)) fun Ko hKo => ?_
  go_simp
  try go_bits
  try simp only [Int.neg_neg]
  refine hKo _ _ fun fa6 fh6 => ?_
  clear hKo Ko fh5 fa5
  refine Kn.pure fh6 rfl rfl .none (Kn.ex_move fh6 (.tmp rfl)) fun fa7 fh7 => ?_
  clear fh6 fa6
  refine Kn.step fh7 rfl rfl .none (Kn.ex_bin fh7 (.tmp rfl) .const) fun Ko hKo => ?_
  go_simp
  try simp only [r1]
  refine hKo _ _ fun fa8 fh8 => ?_
  clear hKo Ko fh7 fa7
  refine Kn.step fh8 rfl rfl .none (Kn.ex_bin fh8 .const (.tmp rfl)) fun Ko hKo => ?_
  go_simp
  try go_bits
  try simp only [r2]
  refine hKo _ _ fun fa9 fh9 => ?_
  clear hKo Ko fh8 fa8
  refine Kn.known fh9 rfl rfl .none (Kn.ex_sliceLH fh9 .const (.tmp rfl) (.tmp rfl)) hcut fun fa10 fh10 => ?_
  clear fh9 fa9
  refine Kn.pure fh10 rfl rfl .none (Kn.ex_assign fh10 (.tmp rfl)) fun fa11 fh11 => ?_
  clear fh10 fa10
  refine wpList_nil ?_
  refine hK4 _ _ ?_
  clear hK4 K4
  replace fh11 := fh11.cut (.cons (t := 3) rfl (.cons (t := 2) rfl (.cons (t := 0) rfl .nil)))
  clear hcut r1 r2
  clear r2'
  refine wp_seq_k fun K5 hK5 => ?_
  refine wp_seq_k fun K6 hK6 => ?_
  refine wp_region_lit ?_
  refine Kn.pure fh11 rfl rfl .none (Kn.ex_move fh11 (.tmp rfl)) fun fa12 fh12 => ?_
  clear fh11 fa11
  refine Kn.step fh12 rfl rfl .none (Kn.ex_bin fh12 (.tmp rfl) .const) fun Ko hKo => ?_
  go_simp
  try go_bits
  refine hKo _ _ fun fa13 fh13 => ?_
  clear hKo Ko fh12 fa12
  refine wpList_nil ?_
  refine hK6 _ _ ?_
  clear hK6 K6
  replace fh13 := fh13.cut (.cons (t := 15) rfl (.cons (t := 3) rfl (.cons (t := 2) rfl (.cons (t := 0) rfl .nil))))
  refine Kn.no fh13 (.tmp rfl) ?_
  refine wp_skip ?_
  refine hK5 _ _ ?_
  clear hK5 K5
  replace fh13 := fh13.cut (.cons (t := 3) rfl (.cons (t := 2) rfl (.cons (t := 0) rfl .nil)))
  obtain ⟨q, hq⟩ : ∃ q, n.tdiv 10 = q := ⟨_, rfl⟩
  have HI := Lib.hid (IH.out q hq.symm)
  have hql : q.natAbs ≤ 9007199254740992 := HQB.out q hq.symm
  have hqlo : -9007199254740992 ≤ q := by omega
  have hqhi : q ≤ 9007199254740992 := by omega
  obtain ⟨V, hV⟩ : ∃ V, sbl (dgI q) = V := ⟨_, rfl⟩
  have HI2 : Hid (∀ w, Calls Tryz.prog 19 #[.int .i64 q] w fun e w' => e = .returned (.string V) ∧ w = w') := Lib.hid (by rw [← hV]; exact HI.out)
  have HV := Lib.hid hV
  have HQ := Lib.hid hq
  have hVs : V.size ≤ 21 := by rw [← hV, sbl_size]; exact dgI_len _ (by omega)
  clear HI hql
  clear hV
  refine wp_seq_k fun K7 hK7 => ?_
  refine wp_region_lit ?_
  refine Kn.pure fh13 rfl rfl .none (Kn.ex_move fh13 (.tmp rfl)) fun fa14 fh14 => ?_
  clear fh13 fa13
  refine Kn.step fh14 rfl rfl .none (Kn.ex_bin fh14 (.tmp rfl) .const) fun Ko hKo => ?_
  go_simp
  try go_bits
  try simp only [hq]
  refine hKo _ _ fun fa15 fh15 => ?_
  clear hKo Ko fh14 fa14
  refine Kn.call fh15 rfl rfl .none (Kn.ex_call fh15 (.cons (.tmp rfl) .nil)) Tryz.call19 (HI2.out _) fun e w1 hp => ?_
  obtain ⟨rfl, rfl⟩ := hp
  refine ⟨_, rfl, fun fa16 fh16 => ?_⟩
  clear fh15 fa15
  refine Kn.pure fh16 rfl rfl .none (Kn.ex_move fh16 (.tmp rfl)) fun fa17 fh17 => ?_
  clear fh16 fa16
  refine Kn.step fh17 rfl rfl .none (Kn.ex_bin fh17 (.tmp rfl) (.tmp rfl)) fun Ko hKo => ?_
  go_simp
  try rw [if_neg (by omega)]
  refine hKo _ _ fun fa18 fh18 => ?_
  clear hKo Ko fh17 fa17
  refine Kn.pure fh18 rfl rfl .none (Kn.ex_assign fh18 (.tmp rfl)) fun fa19 fh19 => ?_
  clear fh18 fa18
  refine wpList_nil ?_
  refine hK7 _ _ ?_
  clear hK7 K7
  replace fh19 := fh19.cut (.cons (t := 2) rfl (.cons (t := 0) rfl .nil))
  refine wp_ret ?_
  refine Kn.then_ret ?_
  exact Kn.ret1 fh19 rfl rfl ⟨by rw [← HU.out, ← HV.out, HR.out, sbl_app, ← HD.out, HQ.out], rfl⟩

theorem dgI_nn (m : Nat) : dgI (m : Int) = digN m := by unfold dgI; rw [if_neg (by omega)]; rfl
theorem dgI_neg (m : Nat) (h : 0 < m) : dgI (-(m : Int)) = 45 :: digN m := by unfold dgI; rw [if_pos (by omega)]; simp
theorem digits_any (n : Int) (w : World) (h1 : -9007199254740992 ≤ n) (h2 : n ≤ 9007199254740992) :
    Calls Tryz.prog 19 #[.int .i64 n] w fun e w' => e = .returned (.string (sbl (dgI n))) ∧ w = w' := by
  have key : ∀ (k : Nat) (n : Int) (w : World), n.natAbs = k → k ≤ 9007199254740992 → Calls Tryz.prog 19 #[.int .i64 n] w fun e w' => e = .returned (.string (sbl (dgI n))) ∧ w = w' := by
    intro k
    induction k using Nat.strongRecOn with
    | _ k ih =>
      intro n w hk hb
      by_cases hneg : n < 0
      · have hn : n = -(k : Int) := by omega
        have hkp : 0 < k := by omega
        by_cases hsm : k < 10
        · exact digits_c n k w hn hkp hb hneg hsm (by omega) (Lib.hid (by rw [hn, dgI_neg k hkp, digN_lt hsm]; rfl))
        · have hq : n.tdiv 10 = -((k / 10 : Nat) : Int) := by rw [hn, Int.neg_tdiv, Int.tdiv_eq_ediv_of_nonneg (by omega)]; omega
          refine digits_d n k w hn hkp hb hneg hsm (by omega) (Lib.hid ?_) (fun q e => by rw [hq] at e; omega) (fun q e w => ?_)
          · rw [hq, hn, dgI_neg k hkp, dgI_neg (k / 10) (by omega), digN_ge hsm]; rfl
          · rw [hq] at e; exact ih (k / 10) (by omega) q w (by omega) (by omega)
      · have hn : n = (k : Int) := by omega
        by_cases hsm : k < 10
        · exact digits_a n k w hn hb hneg hsm (by omega) (Lib.hid (by rw [hn, dgI_nn, digN_lt hsm]))
        · have hq : n.tdiv 10 = ((k / 10 : Nat) : Int) := by rw [hn, Int.tdiv_eq_ediv_of_nonneg (by omega)]; omega
          refine digits_b n k w hn hb hneg hsm (by omega) (Lib.hid ?_) (fun q e => by rw [hq] at e; omega) (fun q e w => ?_)
          · rw [hq, hn, dgI_nn, dgI_nn, digN_ge hsm]
          · rw [hq] at e; exact ih (k / 10) (by omega) q w (by omega) (by omega)
  exact key _ n w rfl (by omega)

/-- A graph's text. -/
def txt (n : Int) (xs : List (Int × Int)) : List UInt8 := dgI n ++ xs.flatMap fun e => [32] ++ dgI e.1 ++ [62] ++ dgI e.2
theorem txt_snoc (n : Int) (xs : List (Int × Int)) (e : Int × Int) : txt n (xs ++ [e]) = txt n xs ++ ([32] ++ dgI e.1 ++ [62] ++ dgI e.2) := by simp [txt]
set_option maxRecDepth 100000 in
set_option maxHeartbeats 2000000 in
theorem refText_any (n : Int) (A : Option Addr) (c : Nat) (xs : List (Int × Int)) (w : World) (hn1 : -9007199254740992 ≤ n) (hn2 : n ≤ 9007199254740992) (hl : xs.length ≤ 300) (hA : EIn w A xs) (hBd : ∀ i, i < xs.length → -9007199254740992 ≤ (ed xs i).1 ∧ (ed xs i).1 ≤ 9007199254740992 ∧ -9007199254740992 ≤ (ed xs i).2 ∧ (ed xs i).2 ≤ 9007199254740992) :
    Calls Tryz.prog 8 #[.int .i64 n, .slice A xs.length c] w fun e w' => e = .returned (.string (sbl (txt n xs))) ∧ ∃ q, w' = w.drewN q := by
  have HA := Lib.hid hA
  have HBd := Lib.hid hBd
  clear hA hBd
  refine Kn.calls Tryz.func8 rfl Tryz.ntmps8 rfl (.cons (t := 0) rfl (.cons (t := 1) rfl .nil)) fun fa0 fh0 => ?_
  refine wp_seq_k fun K1 hK1 => ?_
  refine wp_region_lit ?_
  refine Kn.pure fh0 rfl rfl .none (Kn.ex_assign fh0 .const) fun fa1 fh1 => ?_
  clear fh0 fa0
  refine wpList_nil ?_
  refine hK1 _ _ ?_
  clear hK1 K1
  refine wp_seq_k fun K2 hK2 => ?_
  refine wp_region_lit ?_
  refine Kn.pure fh1 rfl rfl .none (Kn.ex_move fh1 (.tmp rfl)) fun fa2 fh2 => ?_
  clear fh1 fa1
  refine Kn.call fh2 rfl rfl .none (Kn.ex_call fh2 (.cons (.tmp rfl) .nil)) Tryz.call19 (digits_any n _ hn1 hn2) fun e w1 hp => ?_
  obtain ⟨rfl, rfl⟩ := hp
  refine ⟨_, rfl, fun fa3 fh3 => ?_⟩
  clear fh2 fa2
  refine Kn.pure fh3 rfl rfl .none (Kn.ex_assign fh3 (.tmp rfl)) fun fa4 fh4 => ?_
  clear fh3 fa3
  refine wpList_nil ?_
  refine hK2 _ _ ?_
  clear hK2 K2
  replace fh4 := fh4.cut (.cons (t := 5) rfl (.cons (t := 4) rfl (.cons (t := 1) rfl .nil)))
  obtain ⟨S0, hS0⟩ : ∃ S, sbl (dgI n) = S := ⟨_, rfl⟩
  have hs0 : S0.size ≤ 21 := by rw [← hS0, sbl_size]; exact dgI_len _ (by omega)
  have HS0 : Hid (S0 = sbl (txt n [])) := Lib.hid (by rw [← hS0]; simp [txt])
  rw [hS0] at fh4
  clear hS0
  refine wp_seq_k fun K3 hK3 => ?_
  refine wp_seq_k fun K4 hK4 => ?_
  refine wp_region_lit ?_
  refine Kn.pure fh4 rfl rfl .none (Kn.ex_assign fh4 .const) fun fa5 fh5 => ?_
  clear fh4 fa4
  refine wpList_nil ?_
  refine hK4 _ _ ?_
  clear hK4 K4
  refine wp_block ?_
  refine Kn.loop (fun m fr v => ∃ (k q : Nat) (S : ByteArray), Kn.Kn 33 [(6, .int .i64 (k : Int)), (5, .string S), (1, .slice A xs.length c)] fr ∧ k + m = xs.length ∧ Hid (S = sbl (txt n (xs.take k))) ∧ S.size ≤ 21 + 44 * k ∧ v = w.drewN q) xs.length ⟨0, 0, S0, fh5.cut (.cons (t := 6) rfl (.cons (t := 5) rfl (.cons (t := 1) rfl .nil))), by omega, HS0, by omega, rfl⟩ ?_
  clear fh5 fa5
  intro m5 fa6 v hI Kl5 hKl5
  obtain ⟨k, q, S, fh6, hk, HS, hSz, rfl⟩ := hI
  by_cases hlt : k < xs.length
  · obtain ⟨b, o, rfl, -, c1, c2⟩ := HA.out k hlt
    have hbd := HBd.out k hlt
    obtain ⟨x, hx⟩ : ∃ x, (ed xs k).1 = x := ⟨_, rfl⟩
    obtain ⟨y, hy⟩ : ∃ x, (ed xs k).2 = x := ⟨_, rfl⟩
    rw [hx] at c1 hbd
    rw [hy] at c2 hbd
    have HT : Hid (txt n (xs.take (k + 1)) = txt n (xs.take k) ++ ([32] ++ dgI x ++ [62] ++ dgI y)) := Lib.hid (by rw [take_ed _ _ hlt, txt_snoc, hx, hy])
    obtain ⟨U, hU⟩ : ∃ S, sbl (dgI x) = S := ⟨_, rfl⟩
    obtain ⟨V, hV⟩ : ∃ S, sbl (dgI y) = S := ⟨_, rfl⟩
    have hUs : U.size ≤ 21 := by rw [← hU, sbl_size]; exact dgI_len _ (by omega)
    have hVs : V.size ≤ 21 := by rw [← hV, sbl_size]; exact dgI_len _ (by omega)
    have HU := Lib.hid (fun w => digits_any x w hbd.1 hbd.2.1)
    have HV := Lib.hid (fun w => digits_any y w hbd.2.2.1 hbd.2.2.2)
    rw [hU] at HU
    rw [hV] at HV
    have HUe := Lib.hid hU
    have HVe := Lib.hid hV
    clear hx hy hU hV hbd
    obtain ⟨S1, hS1⟩ : ∃ T, S ++ ⟨#[32]⟩ = T := ⟨_, rfl⟩
    obtain ⟨S2, hS2⟩ : ∃ T, S1 ++ U = T := ⟨_, rfl⟩
    obtain ⟨S3, hS3⟩ : ∃ T, S2 ++ ⟨#[62]⟩ = T := ⟨_, rfl⟩
    obtain ⟨S4, hS4⟩ : ∃ T, S3 ++ V = T := ⟨_, rfl⟩
    have z1 : S1.size = S.size + 1 := by rw [← hS1, ByteArray.size_append]; rfl
    have z2 : S2.size = S1.size + U.size := by rw [← hS2, ByteArray.size_append]
    have z3 : S3.size = S2.size + 1 := by rw [← hS3, ByteArray.size_append]; rfl
    have z4 : S4.size = S3.size + V.size := by rw [← hS4, ByteArray.size_append]
    have b1 : S1.size ≤ 30000 := by omega
    have b2 : S2.size ≤ 30000 := by omega
    have b3 : S3.size ≤ 30000 := by omega
    have b4 : S4.size ≤ 21 + 44 * (k + 1) := by omega
    have H4 : Hid (S4 = sbl (txt n (xs.take (k + 1)))) := Lib.hid (by rw [HT.out, ← hS4, ← hS3, ← hS2, ← hS1, HS.out, ← HUe.out, ← HVe.out, show (⟨#[32]⟩ : ByteArray) = sbl [32] from rfl, show (⟨#[62]⟩ : ByteArray) = sbl [62] from rfl, sbl_app, sbl_app, sbl_app, sbl_app]; simp)
    clear z1 z2 z3 z4
    refine wp_seq_k fun K6 hK6 => ?_
    refine wp_seq_k fun K7 hK7 => ?_
    refine wp_region_lit ?_
    refine Kn.pure fh6 rfl rfl .none (Kn.ex_move fh6 (.tmp rfl)) fun fa7 fh7 => ?_
    clear fh6 fa6
    refine Kn.pure fh7 rfl rfl .none (Kn.ex_move fh7 (.tmp rfl)) fun fa8 fh8 => ?_
    clear fh7 fa7
    refine Kn.step fh8 rfl rfl .none (Kn.ex_len fh8 (.tmp rfl)) fun Ko hKo => ?_
    go_simp
    try go_bits
    refine hKo _ _ fun fa9 fh9 => ?_
    clear hKo Ko fh8 fa8
    refine Kn.step fh9 rfl rfl .none (Kn.ex_bin fh9 (.tmp rfl) (.tmp rfl)) fun Ko hKo => ?_
    go_simp
    try go_bits
    refine hKo _ _ fun fa10 fh10 => ?_
    clear hKo Ko fh9 fa9
    refine wpList_nil ?_
    refine hK7 _ _ ?_
    clear hK7 K7
    replace fh10 := fh10.cut (.cons (t := 12) rfl (.cons (t := 6) rfl (.cons (t := 5) rfl (.cons (t := 1) rfl .nil))))
    refine Kn.yes fh10 (.tmp rfl) ?_
    refine wp_skip ?_
    refine hK6 _ _ ?_
    clear hK6 K6
    replace fh10 := fh10.cut (.cons (t := 6) rfl (.cons (t := 5) rfl (.cons (t := 1) rfl .nil)))
    refine wp_seq_k fun K8 hK8 => ?_
    refine wp_block ?_
    refine Kn.still (by kernel_rfl) (by kernel_rfl) ?_
    refine Kn.spure fh10 rfl rfl .none (Kn.ex_move fh10 (.tmp rfl)) fun fa11 fh11 => ?_
    clear fh10 fa10
    refine Kn.sstep fh11 rfl rfl .none (Kn.ex_bin fh11 (.tmp rfl) .const) fun Ko hKo => ?_
    go_simp
    try rw [if_neg (by omega)]
    refine hKo _ fun fa12 fh12 => ?_
    clear hKo Ko fh11 fa11
    refine Kn.spure fh12 rfl rfl .none (Kn.ex_move fh12 (.tmp rfl)) fun fa13 fh13 => ?_
    clear fh12 fa12
    refine Kn.spure fh13 rfl rfl .none (Kn.ex_move fh13 (.tmp rfl)) fun fa14 fh14 => ?_
    clear fh13 fa13
    refine Kn.sstep fh14 rfl rfl .none (Kn.ex_indexAddr fh14 (.tmp rfl) (.tmp rfl)) fun Ko hKo => ?_
    go_simp
    try go_bits
    refine hKo _ fun fa15 fh15 => ?_
    clear hKo Ko fh14 fa14
    refine Kn.sstep fh15 rfl rfl .none (Kn.ex_fieldAddr fh15 (.tmp rfl)) fun Ko hKo => ?_
    go_simp
    try go_bits
    refine hKo _ fun fa16 fh16 => ?_
    clear hKo Ko fh15 fa15
    refine Kn.sstep fh16 rfl rfl .none (Kn.ex_load fh16 (.tmp rfl)) fun Ko hKo => ?_
    go_simp
    try go_bits
    refine hKo _ fun fa17 fh17 => ?_
    clear hKo Ko fh16 fa16
    refine Kn.scall fh17 rfl rfl .none (Kn.ex_call fh17 (.cons (.tmp rfl) .nil)) Tryz.call19 (HU.out _) fun fa18 fh18 => ?_
    clear fh17 fa17
    refine Kn.sstep fh18 rfl rfl .none (Kn.ex_bin fh18 (.tmp rfl) (.tmp rfl)) fun Ko hKo => ?_
    go_simp
    try rw [if_neg (by omega)]
    refine hKo _ fun fa19 fh19 => ?_
    clear hKo Ko fh18 fa18
    refine Kn.sstep fh19 rfl rfl .none (Kn.ex_bin fh19 (.tmp rfl) .const) fun Ko hKo => ?_
    go_simp
    try rw [if_neg (by omega)]
    refine hKo _ fun fa20 fh20 => ?_
    clear hKo Ko fh19 fa19
    refine Kn.spure fh20 rfl rfl .none (Kn.ex_move fh20 (.tmp rfl)) fun fa21 fh21 => ?_
    clear fh20 fa20
    refine Kn.spure fh21 rfl rfl .none (Kn.ex_move fh21 (.tmp rfl)) fun fa22 fh22 => ?_
    clear fh21 fa21
    refine Kn.sstep fh22 rfl rfl .none (Kn.ex_indexAddr fh22 (.tmp rfl) (.tmp rfl)) fun Ko hKo => ?_
    go_simp
    try go_bits
    refine hKo _ fun fa23 fh23 => ?_
    clear hKo Ko fh22 fa22
    refine Kn.sstep fh23 rfl rfl .none (Kn.ex_fieldAddr fh23 (.tmp rfl)) fun Ko hKo => ?_
    go_simp
    try go_bits
    refine hKo _ fun fa24 fh24 => ?_
    clear hKo Ko fh23 fa23
    refine Kn.sstep fh24 rfl rfl .none (Kn.ex_load fh24 (.tmp rfl)) fun Ko hKo => ?_
    go_simp
    try go_bits
    refine hKo _ fun fa25 fh25 => ?_
    clear hKo Ko fh24 fa24
    refine Kn.scall fh25 rfl rfl .none (Kn.ex_call fh25 (.cons (.tmp rfl) .nil)) Tryz.call19 (HV.out _) fun fa26 fh26 => ?_
    clear fh25 fa25
    refine Kn.sstep fh26 rfl rfl .none (Kn.ex_bin fh26 (.tmp rfl) (.tmp rfl)) fun Ko hKo => ?_
    go_simp
    try rw [if_neg (by omega)]
    refine hKo _ fun fa27 fh27 => ?_
    clear hKo Ko fh26 fa26
    refine Kn.spure fh27 rfl rfl .none (Kn.ex_assign fh27 (.tmp rfl)) fun fa28 fh28 => ?_
    clear fh27 fa27
    refine wpStill_nil ?_
    refine Kn.block_normal ?_
    refine hK8 _ _ ?_
    clear hK8 K8
    replace fh28 := fh28.cut (.cons (t := 5) rfl (.cons (t := 6) rfl (.cons (t := 1) rfl .nil)))
    clear hS1 hS2 hS3 hS4 c1 c2
    refine wp_region_lit ?_
    refine Kn.pure fh28 rfl rfl .none (Kn.ex_move fh28 (.tmp rfl)) fun fa29 fh29 => ?_
    clear fh28 fa28
    refine Kn.step fh29 rfl rfl .none (Kn.ex_bin fh29 (.tmp rfl) .const) fun Ko hKo => ?_
    go_simp
    try go_bits
    refine hKo _ _ fun fa30 fh30 => ?_
    clear hKo Ko fh29 fa29
    refine Kn.pure fh30 rfl rfl .none (Kn.ex_assign fh30 (.tmp rfl)) fun fa31 fh31 => ?_
    clear fh30 fa30
    refine wpList_nil ?_
    replace fh31 := fh31.cut (.cons (t := 6) rfl (.cons (t := 5) rfl (.cons (t := 1) rfl .nil)))
    exact hKl5 (m5 - 1) _ _ (by omega) ⟨k + 1, q + 1, S4, fh31.cut (.turn (t := 6) rfl (by go_num) (.cons (t := 5) rfl (.cons (t := 1) rfl .nil))), by omega, H4, b4, rfl⟩
  · obtain rfl : k = xs.length := by omega
    refine wp_seq_k fun K6 hK6 => ?_
    refine wp_seq_k fun K7 hK7 => ?_
    refine wp_region_lit ?_
    refine Kn.pure fh6 rfl rfl .none (Kn.ex_move fh6 (.tmp rfl)) fun fa7 fh7 => ?_
    clear fh6 fa6
    refine Kn.pure fh7 rfl rfl .none (Kn.ex_move fh7 (.tmp rfl)) fun fa8 fh8 => ?_
    clear fh7 fa7
    refine Kn.step fh8 rfl rfl .none (Kn.ex_len fh8 (.tmp rfl)) fun Ko hKo => ?_
    go_simp
    try go_bits
    refine hKo _ _ fun fa9 fh9 => ?_
    clear hKo Ko fh8 fa8
    refine Kn.step fh9 rfl rfl .none (Kn.ex_bin fh9 (.tmp rfl) (.tmp rfl)) fun Ko hKo => ?_
    go_simp
    try go_bits
    refine hKo _ _ fun fa10 fh10 => ?_
    clear hKo Ko fh9 fa9
    refine wpList_nil ?_
    refine hK7 _ _ ?_
    clear hK7 K7
    replace fh10 := fh10.cut (.cons (t := 12) rfl (.cons (t := 6) rfl (.cons (t := 5) rfl (.cons (t := 1) rfl .nil))))
    refine Kn.no fh10 (.tmp rfl) ?_
    replace fh10 := fh10.cut (.cons (t := 6) rfl (.cons (t := 5) rfl (.cons (t := 1) rfl .nil)))
    refine wp_exit ?_
    refine Kn.then_exit ?_
    clear hK6 K6
    refine Kn.then_exit ?_
    clear hKl5 Kl5
    refine Kn.block_exit ?_
    refine hK3 _ _ ?_
    clear hK3 K3
    replace fh10 := fh10.cut (.cons (t := 5) rfl .nil)
    refine wp_seq_k fun K8 hK8 => ?_
    refine wp_region_lit ?_
    refine Kn.pure fh10 rfl rfl .none (Kn.ex_move fh10 (.tmp rfl)) fun fa11 fh11 => ?_
    clear fh10 fa10
    refine Kn.pure fh11 rfl rfl .none (Kn.ex_assign fh11 (.tmp rfl)) fun fa12 fh12 => ?_
    clear fh11 fa11
    refine wpList_nil ?_
    refine hK8 _ _ ?_
    clear hK8 K8
    replace fh12 := fh12.cut (.cons (t := 4) rfl .nil)
    refine wp_ret ?_
    exact Kn.ret1 fh12 rfl rfl ⟨by have := HS.out; rw [List.take_length] at this; rw [this], q, rfl⟩

end Go.Proofs.YtnmpcendimdoeaaGreatDoor.Edg
