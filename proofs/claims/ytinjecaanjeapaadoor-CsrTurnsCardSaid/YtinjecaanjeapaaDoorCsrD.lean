/- Contracts of the program's csr: Turned, Same (written by gen_csrd.py). -/
import Derived.Test.YtinjecaanjeapaaDoorCsrC
import Derived.Test.YtinjecaanjeapaaDoorEdgD
import Derived.Shelf.SlicesG.Equal
namespace Go.Proofs.YtinjecaanjeapaaDoor.Csr
open Go Go.RowKit Go.Lib Edg Num

theorem turn_mem (xs : List (Int × Int)) (a b : Int) : (a, b) ∈ turn xs ↔ (b, a) ∈ xs := by
  unfold turn
  rw [List.mem_map]
  constructor
  · rintro ⟨⟨x, y⟩, h, e⟩
    cases e
    exact h
  · intro h
    exact ⟨(b, a), h, rfl⟩
theorem turn_good {N : Int} {xs : List (Int × Int)} (h : Edg.Good N xs) : Edg.Good N (turn xs) := ⟨h.lo, h.hi, by rw [turn_len]; exact h.len, fun e he => by
  obtain ⟨a, b⟩ := e
  have h1 := (badB_iff _ _).1 (h.all _ ((turn_mem xs a b).1 he))
  exact (badB_iff _ _).2 ⟨h1.2, h1.1⟩⟩
/-- Turned, normalised, turned again, and normalised. -/
theorem turn_back {ys zs us : List (Int × Int)} (hs : Srt ys) (h1 : NormOf (turn ys) zs) (h2 : NormOf (turn zs) us) : us = ys := srt_unique h2.srt hs fun e => by
  obtain ⟨a, b⟩ := e
  rw [h2.mem, turn_mem, h1.mem, turn_mem]
theorem norm_turn {ys zs : List (Int × Int)} (hs : Srt ys) (h1 : NormOf (turn ys) zs) : NormOf (turn zs) ys := ⟨hs, fun e => by
  obtain ⟨a, b⟩ := e
  rw [turn_mem, h1.mem, turn_mem]⟩
theorem turn_size {ys zs : List (Int × Int)} (hs : Srt ys) (h1 : NormOf (turn ys) zs) : zs.length = ys.length := by
  have a := h1.len
  have b := (norm_turn hs h1).len
  rw [turn_len] at a b
  omega

set_option maxRecDepth 100000 in
set_option maxHeartbeats 2000000 in
theorem turnedC_nil (w : World) : Calls Tryd.prog 23 #[.pointer none] w fun e w' => e = .returned (.pointer none) ∧ w = w' := by
  refine Kn.calls Tryd.func23 rfl Tryd.ntmps23 rfl (.cons (t := 0) rfl .nil) fun fa0 fh0 => ?_
  refine wp_seq_k fun K1 hK1 => ?_
  refine wp_region_lit ?_
  refine Kn.pure fh0 rfl rfl .none (Kn.ex_assign fh0 .const) fun fa1 fh1 => ?_
  clear fh0 fa0
  refine wpList_nil ?_
  refine hK1 _ _ ?_
  clear hK1 K1
  refine wp_seq_k fun K2 hK2 => ?_
  refine wp_seq_k fun K3 hK3 => ?_
  refine wp_region_lit ?_
  refine Kn.pure fh1 rfl rfl .none (Kn.ex_move fh1 (.tmp rfl)) fun fa2 fh2 => ?_
  clear fh1 fa1
  refine Kn.step fh2 rfl rfl .none (Kn.ex_bin fh2 (.tmp rfl) .const) fun Ko hKo => ?_
  go_simp
  try go_bits
  refine hKo _ _ fun fa3 fh3 => ?_
  clear hKo Ko fh2 fa2
  refine wpList_nil ?_
  refine hK3 _ _ ?_
  clear hK3 K3
  replace fh3 := fh3.cut (.cons (t := 6) rfl (.cons (t := 2) rfl (.cons (t := 0) rfl .nil)))
  refine Kn.yes fh3 (.tmp rfl) ?_
  replace fh3 := fh3.cut (.cons (t := 2) rfl (.cons (t := 0) rfl .nil))
  refine wp_seq_k fun K4 hK4 => ?_
  refine wp_region_lit ?_
  refine Kn.pure fh3 rfl rfl .none (Kn.ex_assign fh3 .const) fun fa4 fh4 => ?_
  clear fh3 fa3
  refine wpList_nil ?_
  refine hK4 _ _ ?_
  clear hK4 K4
  refine wp_ret ?_
  refine Kn.then_ret ?_
  exact Kn.ret1 fh4 rfl rfl ⟨rfl, rfl⟩

set_option maxRecDepth 100000 in
set_option maxHeartbeats 2000000 in
theorem turnedC_any (w : World) (B g N : Nat) (ys : List (Int × Int)) (hR : Rep w B g N ys) : Calls Tryd.prog 23 #[.pointer (some ⟨g, 0, none⟩)] w fun e w' => ∃ g' zs, e = .returned (.pointer (some ⟨g', 0, none⟩)) ∧ NormOf (turn ys) zs ∧ Rep w' w.heap.size g' N zs ∧ Below w.heap.size w w' := by
  refine Kn.calls Tryd.func23 rfl Tryd.ntmps23 rfl (.cons (t := 0) rfl .nil) fun fa0 fh0 => ?_
  refine wp_seq_k fun K1 hK1 => ?_
  refine wp_region_lit ?_
  refine Kn.pure fh0 rfl rfl .none (Kn.ex_assign fh0 .const) fun fa1 fh1 => ?_
  clear fh0 fa0
  refine wpList_nil ?_
  refine hK1 _ _ ?_
  clear hK1 K1
  have hL := hR.len
  have hG := turn_good hR.good
  have hno := nodes_any w B g N ys hR
  have hli := list_any w B g N ys hR
  refine wp_seq_k fun K2 hK2 => ?_
  refine wp_seq_k fun K3 hK3 => ?_
  refine wp_region_lit ?_
  refine Kn.pure fh1 rfl rfl .none (Kn.ex_move fh1 (.tmp rfl)) fun fa2 fh2 => ?_
  clear fh1 fa1
  refine Kn.step fh2 rfl rfl .none (Kn.ex_bin fh2 (.tmp rfl) .const) fun Ko hKo => ?_
  go_simp
  try go_bits
  refine hKo _ _ fun fa3 fh3 => ?_
  clear hKo Ko fh2 fa2
  refine wpList_nil ?_
  refine hK3 _ _ ?_
  clear hK3 K3
  replace fh3 := fh3.cut (.cons (t := 6) rfl (.cons (t := 2) rfl (.cons (t := 0) rfl .nil)))
  refine Kn.no fh3 (.tmp rfl) ?_
  refine wp_skip ?_
  refine hK2 _ _ ?_
  clear hK2 K2
  replace fh3 := fh3.cut (.cons (t := 2) rfl (.cons (t := 0) rfl .nil))
  refine wp_seq_k fun K4 hK4 => ?_
  refine wp_region_lit ?_
  refine Kn.pure fh3 rfl rfl .none (Kn.ex_move fh3 (.tmp rfl)) fun fa4 fh4 => ?_
  clear fh3 fa3
  refine Kn.call fh4 rfl rfl .none (Kn.ex_call fh4 (.cons (.tmp rfl) .nil)) Tryd.call11 (hno) fun e w0 hp => ?_
  obtain ⟨rfl, rfl⟩ := hp
  refine ⟨_, rfl, fun fa5 fh5 => ?_⟩
  clear fh4 fa4
  refine Kn.pure fh5 rfl rfl .none (Kn.ex_move fh5 (.tmp rfl)) fun fa6 fh6 => ?_
  clear fh5 fa5
  refine Kn.call fh6 rfl rfl .none (Kn.ex_call fh6 (.cons (.tmp rfl) .nil)) Tryd.call14 (hli) fun e w1 hp => ?_
  obtain ⟨gl, n, cap, rfl, hO, hb1⟩ := hp
  refine ⟨_, rfl, fun fa7 fh7 => ?_⟩
  clear fh6 fa6
  have hn := hO.1
  subst hn
  have htu := turned_any (some ⟨gl, 0, none⟩) cap ys w1 (by omega) hO.ein
  clear hno hli
  refine Kn.call fh7 rfl rfl .none (Kn.ex_call fh7 (.cons (.tmp rfl) .nil)) Tryd.call32 (htu) fun e w2 hp => ?_
  obtain ⟨g2, rfl, hg2, hH2, hb2⟩ := hp
  refine ⟨_, rfl, fun fa8 fh8 => ?_⟩
  clear fh7 fa7
  clear htu
  have hbu := build_yes N (some ⟨g2, 0, none⟩) ys.length (turn ys) w2 hH2.ein hG
  rw [turn_len] at hbu
  refine Kn.call fh8 rfl rfl .none (Kn.ex_call fh8 (.cons (.tmp rfl) (.cons (.tmp rfl) .nil))) Tryd.call6 (hbu) fun e w3 hp => ?_
  obtain ⟨g3, zs, rfl, hNo, hR3, hb3⟩ := hp
  refine ⟨_, rfl, fun fa9 fh9 => ?_⟩
  clear fh8 fa8
  clear hbu
  refine Kn.pure fh9 rfl rfl .none (Kn.ex_move fh9 (.tmp rfl)) fun fa10 fh10 => ?_
  clear fh9 fa9
  refine Kn.pure fh10 rfl rfl .none (Kn.ex_extract fh10 (.tmp rfl) rfl) fun fa11 fh11 => ?_
  clear fh10 fa10
  refine Kn.pure fh11 rfl rfl .none (Kn.ex_extract fh11 (.tmp rfl) rfl) fun fa12 fh12 => ?_
  clear fh11 fa11
  refine Kn.pure fh12 rfl rfl .none (Kn.ex_assign fh12 (.tmp rfl)) fun fa13 fh13 => ?_
  clear fh12 fa12
  refine Kn.pure fh13 rfl rfl .none (Kn.ex_assign fh13 (.tmp rfl)) fun fa14 fh14 => ?_
  clear fh13 fa13
  refine wpList_nil ?_
  refine hK4 _ _ ?_
  clear hK4 K4
  replace fh14 := fh14.cut (.cons (t := 4) rfl (.cons (t := 3) rfl (.cons (t := 2) rfl .nil)))
  refine wp_seq_k fun K5 hK5 => ?_
  refine wp_seq_k fun K6 hK6 => ?_
  refine wp_region_lit ?_
  refine Kn.pure fh14 rfl rfl .none (Kn.ex_move fh14 (.tmp rfl)) fun fa15 fh15 => ?_
  clear fh14 fa14
  refine Kn.step fh15 rfl rfl .none (Kn.ex_bin fh15 (.tmp rfl) .const) fun Ko hKo => ?_
  go_simp
  try go_bits
  refine hKo _ _ fun fa16 fh16 => ?_
  clear hKo Ko fh15 fa15
  refine wpList_nil ?_
  refine hK6 _ _ ?_
  clear hK6 K6
  replace fh16 := fh16.cut (.cons (t := 17) rfl (.cons (t := 3) rfl (.cons (t := 2) rfl .nil)))
  refine Kn.no fh16 (.tmp rfl) ?_
  refine wp_skip ?_
  refine hK5 _ _ ?_
  clear hK5 K5
  replace fh16 := fh16.cut (.cons (t := 3) rfl (.cons (t := 2) rfl .nil))
  refine wp_seq_k fun K7 hK7 => ?_
  refine wp_region_lit ?_
  refine Kn.pure fh16 rfl rfl .none (Kn.ex_move fh16 (.tmp rfl)) fun fa17 fh17 => ?_
  clear fh16 fa16
  refine Kn.pure fh17 rfl rfl .none (Kn.ex_assign fh17 (.tmp rfl)) fun fa18 fh18 => ?_
  clear fh17 fa17
  refine wpList_nil ?_
  refine hK7 _ _ ?_
  clear hK7 K7
  replace fh18 := fh18.cut (.cons (t := 2) rfl .nil)
  refine wp_ret ?_
  exact Kn.ret1 fh18 rfl rfl ⟨g3, zs, rfl, hNo, ⟨hR3.srt, hR3.good, by obtain ⟨gb, gt, h1, h2⟩ := hR3.mem; have s1 := hb1.size; have s2 := hb2.size; exact ⟨gb, gt, ⟨by omega, by omega, by omega⟩, h2⟩⟩, (hb1.trans (hb2.mono hb1.size)).trans (hb3.mono (Nat.le_trans hb1.size hb2.size))⟩

set_option maxRecDepth 100000 in
set_option maxHeartbeats 2000000 in
theorem sameC_nil (w : World) : Calls Tryd.prog 24 #[.pointer none, .pointer none] w fun e w' => e = .returned (.bool true) ∧ w = w' := by
  refine Kn.calls Tryd.func24 rfl Tryd.ntmps24 rfl (.cons (t := 0) rfl (.cons (t := 1) rfl .nil)) fun fa0 fh0 => ?_
  refine wp_seq_k fun K1 hK1 => ?_
  refine wp_region_lit ?_
  refine Kn.pure fh0 rfl rfl .none (Kn.ex_assign fh0 .const) fun fa1 fh1 => ?_
  clear fh0 fa0
  refine wpList_nil ?_
  refine hK1 _ _ ?_
  clear hK1 K1
  refine wp_seq_k fun K2 hK2 => ?_
  refine wp_seq_k fun K3 hK3 => ?_
  refine wp_region_lit ?_
  refine Kn.pure fh1 rfl rfl .none (Kn.ex_move fh1 (.tmp rfl)) fun fa2 fh2 => ?_
  clear fh1 fa1
  refine Kn.step fh2 rfl rfl .none (Kn.ex_bin fh2 (.tmp rfl) .const) fun Ko hKo => ?_
  go_simp
  try go_bits
  refine hKo _ _ fun fa3 fh3 => ?_
  clear hKo Ko fh2 fa2
  refine Kn.pure fh3 rfl rfl .none (Kn.ex_move fh3 (.tmp rfl)) fun fa4 fh4 => ?_
  clear fh3 fa3
  refine Kn.skip fh4 rfl rfl (.some rfl rfl rfl) fun fa5 fh5 => ?_
  clear fh4 fa4
  refine Kn.skip fh5 rfl rfl (.some rfl rfl rfl) fun fa6 fh6 => ?_
  clear fh5 fa5
  refine Kn.pure fh6 rfl rfl .none (Kn.ex_pick fh6 (.tmp rfl) .const) fun fa7 fh7 => ?_
  clear fh6 fa6
  refine wpList_nil ?_
  refine hK3 _ _ ?_
  clear hK3 K3
  replace fh7 := fh7.cut (.cons (t := 10) rfl (.cons (t := 4) rfl (.cons (t := 0) rfl (.cons (t := 1) rfl .nil))))
  refine Kn.yes fh7 (.tmp rfl) ?_
  replace fh7 := fh7.cut (.cons (t := 4) rfl (.cons (t := 0) rfl (.cons (t := 1) rfl .nil)))
  refine wp_seq_k fun K4 hK4 => ?_
  refine wp_region_lit ?_
  refine Kn.pure fh7 rfl rfl .none (Kn.ex_move fh7 (.tmp rfl)) fun fa8 fh8 => ?_
  clear fh7 fa7
  refine Kn.step fh8 rfl rfl .none (Kn.ex_bin fh8 (.tmp rfl) .const) fun Ko hKo => ?_
  go_simp
  try go_bits
  refine hKo _ _ fun fa9 fh9 => ?_
  clear hKo Ko fh8 fa8
  refine Kn.pure fh9 rfl rfl .none (Kn.ex_move fh9 (.tmp rfl)) fun fa10 fh10 => ?_
  clear fh9 fa9
  refine Kn.pure fh10 rfl rfl (.some rfl rfl rfl) (Kn.ex_move fh10 (.tmp rfl)) fun fa11 fh11 => ?_
  clear fh10 fa10
  refine Kn.step fh11 rfl rfl (.some rfl rfl rfl) (Kn.ex_bin fh11 (.tmp rfl) .const) fun Ko hKo => ?_
  go_simp
  try go_bits
  refine hKo _ _ fun fa12 fh12 => ?_
  clear hKo Ko fh11 fa11
  refine Kn.pure fh12 rfl rfl .none (Kn.ex_pick fh12 (.tmp rfl) (.tmp rfl)) fun fa13 fh13 => ?_
  clear fh12 fa12
  refine Kn.pure fh13 rfl rfl .none (Kn.ex_assign fh13 (.tmp rfl)) fun fa14 fh14 => ?_
  clear fh13 fa13
  refine wpList_nil ?_
  refine hK4 _ _ ?_
  clear hK4 K4
  replace fh14 := fh14.cut (.cons (t := 4) rfl (.cons (t := 0) rfl (.cons (t := 1) rfl .nil)))
  refine wp_ret ?_
  refine Kn.then_ret ?_
  exact Kn.ret1 fh14 rfl rfl ⟨rfl, rfl⟩

set_option maxRecDepth 100000 in
set_option maxHeartbeats 2000000 in
theorem sameC_other (p : Addr) (w : World) : Calls Tryd.prog 24 #[.pointer none, .pointer (some p)] w fun e w' => e = .returned (.bool false) ∧ w = w' := by
  refine Kn.calls Tryd.func24 rfl Tryd.ntmps24 rfl (.cons (t := 0) rfl (.cons (t := 1) rfl .nil)) fun fa0 fh0 => ?_
  refine wp_seq_k fun K1 hK1 => ?_
  refine wp_region_lit ?_
  refine Kn.pure fh0 rfl rfl .none (Kn.ex_assign fh0 .const) fun fa1 fh1 => ?_
  clear fh0 fa0
  refine wpList_nil ?_
  refine hK1 _ _ ?_
  clear hK1 K1
  refine wp_seq_k fun K2 hK2 => ?_
  refine wp_seq_k fun K3 hK3 => ?_
  refine wp_region_lit ?_
  refine Kn.pure fh1 rfl rfl .none (Kn.ex_move fh1 (.tmp rfl)) fun fa2 fh2 => ?_
  clear fh1 fa1
  refine Kn.step fh2 rfl rfl .none (Kn.ex_bin fh2 (.tmp rfl) .const) fun Ko hKo => ?_
  go_simp
  try go_bits
  refine hKo _ _ fun fa3 fh3 => ?_
  clear hKo Ko fh2 fa2
  refine Kn.pure fh3 rfl rfl .none (Kn.ex_move fh3 (.tmp rfl)) fun fa4 fh4 => ?_
  clear fh3 fa3
  refine Kn.skip fh4 rfl rfl (.some rfl rfl rfl) fun fa5 fh5 => ?_
  clear fh4 fa4
  refine Kn.skip fh5 rfl rfl (.some rfl rfl rfl) fun fa6 fh6 => ?_
  clear fh5 fa5
  refine Kn.pure fh6 rfl rfl .none (Kn.ex_pick fh6 (.tmp rfl) .const) fun fa7 fh7 => ?_
  clear fh6 fa6
  refine wpList_nil ?_
  refine hK3 _ _ ?_
  clear hK3 K3
  replace fh7 := fh7.cut (.cons (t := 10) rfl (.cons (t := 4) rfl (.cons (t := 0) rfl (.cons (t := 1) rfl .nil))))
  refine Kn.yes fh7 (.tmp rfl) ?_
  replace fh7 := fh7.cut (.cons (t := 4) rfl (.cons (t := 0) rfl (.cons (t := 1) rfl .nil)))
  refine wp_seq_k fun K4 hK4 => ?_
  refine wp_region_lit ?_
  refine Kn.pure fh7 rfl rfl .none (Kn.ex_move fh7 (.tmp rfl)) fun fa8 fh8 => ?_
  clear fh7 fa7
  refine Kn.step fh8 rfl rfl .none (Kn.ex_bin fh8 (.tmp rfl) .const) fun Ko hKo => ?_
  go_simp
  try go_bits
  refine hKo _ _ fun fa9 fh9 => ?_
  clear hKo Ko fh8 fa8
  refine Kn.pure fh9 rfl rfl .none (Kn.ex_move fh9 (.tmp rfl)) fun fa10 fh10 => ?_
  clear fh9 fa9
  refine Kn.pure fh10 rfl rfl (.some rfl rfl rfl) (Kn.ex_move fh10 (.tmp rfl)) fun fa11 fh11 => ?_
  clear fh10 fa10
  refine Kn.step fh11 rfl rfl (.some rfl rfl rfl) (Kn.ex_bin fh11 (.tmp rfl) .const) fun Ko hKo => ?_
  go_simp
  try go_bits
  refine hKo _ _ fun fa12 fh12 => ?_
  clear hKo Ko fh11 fa11
  refine Kn.pure fh12 rfl rfl .none (Kn.ex_pick fh12 (.tmp rfl) (.tmp rfl)) fun fa13 fh13 => ?_
  clear fh12 fa12
  refine Kn.pure fh13 rfl rfl .none (Kn.ex_assign fh13 (.tmp rfl)) fun fa14 fh14 => ?_
  clear fh13 fa13
  refine wpList_nil ?_
  refine hK4 _ _ ?_
  clear hK4 K4
  replace fh14 := fh14.cut (.cons (t := 4) rfl (.cons (t := 0) rfl (.cons (t := 1) rfl .nil)))
  refine wp_ret ?_
  refine Kn.then_ret ?_
  exact Kn.ret1 fh14 rfl rfl ⟨rfl, rfl⟩

theorem equalI_any (b1 b2 : Nat) (xs ys : List Int) (w : World) (hx : xs.length ≤ 20000) (hy : ys.length ≤ 20000) (hA : HoldI w b1 xs) (hB : HoldI w b2 ys) :
    Calls Tryd.prog 33 #[.slice (some ⟨b1, 0, none⟩) xs.length xs.length, .slice (some ⟨b2, 0, none⟩) ys.length ys.length] w fun e w' => e = .returned (.bool (decide (xs = ys))) ∧ ∃ q, w' = w.drewN q := by
  refine (AnyG.slices_Equal_int Tryd.layEqualI b1 0 xs.length xs.length b2 0 ys.length ys.length xs ys w (Nat.le_refl _) (Nat.le_refl _) (by omega) (by omega) (fun j hj => by rw [Nat.zero_add]; exact (hA j hj).1) (fun j hj => by rw [Nat.zero_add]; exact (hB j hj).1)).mono fun e w' hp => ?_
  obtain ⟨he, hq⟩ := hp
  rw [List.take_length, List.take_length] at he
  refine ⟨he.trans ?_, hq⟩
  congr 2
  rw [Bool.eq_iff_iff]
  simp

set_option maxRecDepth 100000 in
set_option maxHeartbeats 2000000 in
theorem sameC_any (w : World) (B B' g g' N M : Nat) (ys zs : List (Int × Int)) (hR : Rep w B g N ys) (hR2 : Rep w B' g' M zs) : Calls Tryd.prog 24 #[.pointer (some ⟨g, 0, none⟩), .pointer (some ⟨g', 0, none⟩)] w fun e w' => e = .returned (.bool (decide (N = M ∧ ys = zs))) ∧ ∃ q, w' = w.drewN q := by
  refine Kn.calls Tryd.func24 rfl Tryd.ntmps24 rfl (.cons (t := 0) rfl (.cons (t := 1) rfl .nil)) fun fa0 fh0 => ?_
  refine wp_seq_k fun K1 hK1 => ?_
  refine wp_region_lit ?_
  refine Kn.pure fh0 rfl rfl .none (Kn.ex_assign fh0 .const) fun fa1 fh1 => ?_
  clear fh0 fa0
  refine wpList_nil ?_
  refine hK1 _ _ ?_
  clear hK1 K1
  have hN := hR.hi
  have hL := hR.len
  have hM := hR2.hi
  have hL2 := hR2.len
  obtain ⟨gb, gt, -, -, hS, hH, hT⟩ := hR.mem
  obtain ⟨gb', gt', -, -, hS', hH', hT'⟩ := hR2.mem
  have c0 := fun q => (hS.drewN q).cell 0 rfl
  have c1 := fun q => (hS.drewN q).cell 1 rfl
  have d0 := fun q => (hS'.drewN q).cell 0 rfl
  have d1 := fun q => (hS'.drewN q).cell 1 rfl
  have hQ1 := fun q => equalI_any gb gb' (bgs ys N) (bgs zs M) (w.drewN q) (by rw [bgs_len]; omega) (by rw [bgs_len]; omega) (hH.drewN q) (hH'.drewN q)
  have hQ2 := fun q => equalI_any gt gt' (tgs ys) (tgs zs) (w.drewN q) (by rw [tgs_len]; omega) (by rw [tgs_len]; omega) (hT.drewN q) (hT'.drewN q)
  simp only [bgs_len] at hQ1
  simp only [tgs_len] at hQ2
  by_cases hb : bgs ys N = bgs zs M
  · rw [decide_eq_true hb] at hQ1
    obtain rfl : N = M := by rw [← bgs_len ys N, hb, bgs_len]
    have HF : Hid (decide (N = N ∧ ys = zs) = decide (tgs ys = tgs zs)) := Lib.hid (decide_eq_decide.2 ⟨fun h => by rw [h.2], fun h => ⟨rfl, rows_eq hR.srt hR2.srt hR.good hR2.good hb h⟩⟩)
    rw [HF.out]
    generalize decide (tgs ys = tgs zs) = bb at hQ2 ⊢
    have HQ1 := Lib.hid hQ1
    have HQ2 := Lib.hid hQ2
    clear hQ1 hQ2 HF
    refine wp_seq_k fun K2 hK2 => ?_
    refine wp_seq_k fun K3 hK3 => ?_
    refine wp_region_lit ?_
    refine Kn.pure fh1 rfl rfl .none (Kn.ex_move fh1 (.tmp rfl)) fun fa2 fh2 => ?_
    clear fh1 fa1
    refine Kn.step fh2 rfl rfl .none (Kn.ex_bin fh2 (.tmp rfl) .const) fun Ko hKo => ?_
    go_simp
    try go_bits
    refine hKo _ _ fun fa3 fh3 => ?_
    clear hKo Ko fh2 fa2
    refine Kn.pure fh3 rfl rfl .none (Kn.ex_move fh3 (.tmp rfl)) fun fa4 fh4 => ?_
    clear fh3 fa3
    refine Kn.pure fh4 rfl rfl (.some rfl rfl rfl) (Kn.ex_move fh4 (.tmp rfl)) fun fa5 fh5 => ?_
    clear fh4 fa4
    refine Kn.step fh5 rfl rfl (.some rfl rfl rfl) (Kn.ex_bin fh5 (.tmp rfl) .const) fun Ko hKo => ?_
    go_simp
    try go_bits
    refine hKo _ _ fun fa6 fh6 => ?_
    clear hKo Ko fh5 fa5
    refine Kn.pure fh6 rfl rfl .none (Kn.ex_pick fh6 (.tmp rfl) (.tmp rfl)) fun fa7 fh7 => ?_
    clear fh6 fa6
    refine wpList_nil ?_
    refine hK3 _ _ ?_
    clear hK3 K3
    replace fh7 := fh7.cut (.cons (t := 10) rfl (.cons (t := 4) rfl (.cons (t := 0) rfl (.cons (t := 1) rfl .nil))))
    refine Kn.no fh7 (.tmp rfl) ?_
    refine wp_skip ?_
    refine hK2 _ _ ?_
    clear hK2 K2
    replace fh7 := fh7.cut (.cons (t := 4) rfl (.cons (t := 0) rfl (.cons (t := 1) rfl .nil)))
    refine wp_seq_k fun K4 hK4 => ?_
    replace fh7 := fh7.cut (.cons (t := 0) rfl (.cons (t := 1) rfl .nil))
    refine Kn.any (fun u => ∃ q, u = w.drewN q) (fun _ _ => True) (Kn.TL [Kn.Is (.pointer (some ⟨g, 0, none⟩)), Kn.Is (.pointer (some ⟨g, 0, none⟩)), Kn.Is (.pointer (some ⟨g, 0, none⟩)), Kn.Is (.slice (some ⟨gb, 0, none⟩) N N), Kn.Is (.pointer (some ⟨g', 0, none⟩)), Kn.Is (.pointer (some ⟨g', 0, none⟩)), Kn.Is (.pointer (some ⟨g', 0, none⟩)), Kn.Is (.slice (some ⟨gb', 0, none⟩) N N), Kn.Is (.bool true), Kn.Is (.bool true), Kn.Is (.pointer (some ⟨g, 0, none⟩)), Kn.Is (.pointer (some ⟨g, 0, none⟩)), Kn.Is (.pointer (some ⟨g, 1, none⟩)), Kn.Is (.slice (some ⟨gt, 0, none⟩) ys.length ys.length), Kn.Is (.pointer (some ⟨g', 0, none⟩)), Kn.Is (.pointer (some ⟨g', 0, none⟩)), Kn.Is (.pointer (some ⟨g', 1, none⟩)), Kn.Is (.slice (some ⟨gt', 0, none⟩) zs.length zs.length), Kn.Is (.bool bb), Kn.Is (.bool bb), Kn.Is (.bool bb)]) (by kernel_rfl) fh7 (by kernel_rfl) (by kernel_rfl) rfl (Kn.Keeps.all (.cons Kn.Is.keep (.cons Kn.Is.keep (.cons Kn.Is.keep (.cons Kn.Is.keep (.cons Kn.Is.keep (.cons Kn.Is.keep (.cons Kn.Is.keep (.cons Kn.Is.keep (.cons Kn.Is.keep (.cons Kn.Is.keep (.cons Kn.Is.keep (.cons Kn.Is.keep (.cons Kn.Is.keep (.cons Kn.Is.keep (.cons Kn.Is.keep (.cons Kn.Is.keep (.cons Kn.Is.keep (.cons Kn.Is.keep (.cons Kn.Is.keep (.cons Kn.Is.keep (.cons Kn.Is.keep .nil)))))))))))))))))))))) ⟨1, rfl⟩ ⟨?_, ?_, ?_, ?_, ?_, ?_, ?_, ?_, ?_, ?_, ?_, ?_, ?_, ?_, ?_, ?_, ?_, ?_, ?_, ?_, ?_, trivial⟩ ?_
    · refine Kn.ok fun fa8 u L fh8 hS hH => ?_
      exact Kn.apure fh8 .none (Kn.ex_move fh8 (.tmp rfl)) rfl hS trivial
    · refine Kn.ok fun fa8 u L fh8 hS hH => ?_
      replace fh8 := fh8.more (show fa8.eval (.tmp 17) = .pointer (some ⟨g, 0, none⟩) from hH 0 17 rfl rfl)
      exact Kn.apure fh8 .none (Kn.ex_nilCheck fh8 (.tmp rfl)) rfl hS trivial
    · refine Kn.ok fun fa8 u L fh8 hS hH => ?_
      replace fh8 := fh8.more (show fa8.eval (.tmp 18) = .pointer (some ⟨g, 0, none⟩) from hH 1 18 rfl rfl)
      refine Kn.aop fh8 .none (Kn.ex_fieldAddr fh8 (.tmp rfl)) fun Ko hKo => ?_
      go_simp
      try go_bits
      exact hKo _ _ rfl hS trivial
    · refine Kn.ok fun fa8 u L fh8 hS hH => ?_
      replace fh8 := fh8.more (show fa8.eval (.tmp 19) = .pointer (some ⟨g, 0, none⟩) from hH 2 19 rfl rfl)
      obtain ⟨q, rfl⟩ := hS
      refine Kn.aop fh8 .none (Kn.ex_load fh8 (.tmp rfl)) fun Ko hKo => ?_
      go_simp
      try go_bits
      exact hKo _ _ rfl ⟨q, rfl⟩ trivial
    · refine Kn.ok fun fa8 u L fh8 hS hH => ?_
      exact Kn.apure fh8 .none (Kn.ex_move fh8 (.tmp rfl)) rfl hS trivial
    · refine Kn.ok fun fa8 u L fh8 hS hH => ?_
      replace fh8 := fh8.more (show fa8.eval (.tmp 21) = .pointer (some ⟨g', 0, none⟩) from hH 4 21 rfl rfl)
      exact Kn.apure fh8 .none (Kn.ex_nilCheck fh8 (.tmp rfl)) rfl hS trivial
    · refine Kn.ok fun fa8 u L fh8 hS hH => ?_
      replace fh8 := fh8.more (show fa8.eval (.tmp 22) = .pointer (some ⟨g', 0, none⟩) from hH 5 22 rfl rfl)
      refine Kn.aop fh8 .none (Kn.ex_fieldAddr fh8 (.tmp rfl)) fun Ko hKo => ?_
      go_simp
      try go_bits
      exact hKo _ _ rfl hS trivial
    · refine Kn.ok fun fa8 u L fh8 hS hH => ?_
      replace fh8 := fh8.more (show fa8.eval (.tmp 23) = .pointer (some ⟨g', 0, none⟩) from hH 6 23 rfl rfl)
      obtain ⟨q, rfl⟩ := hS
      refine Kn.aop fh8 .none (Kn.ex_load fh8 (.tmp rfl)) fun Ko hKo => ?_
      go_simp
      try go_bits
      exact hKo _ _ rfl ⟨q, rfl⟩ trivial
    · refine Kn.ok fun fa8 u L fh8 hS hH => ?_
      replace fh8 := fh8.more (show fa8.eval (.tmp 20) = .slice (some ⟨gb, 0, none⟩) N N from hH 3 20 rfl rfl)
      replace fh8 := fh8.more (show fa8.eval (.tmp 24) = .slice (some ⟨gb', 0, none⟩) N N from hH 7 24 rfl rfl)
      obtain ⟨q, rfl⟩ := hS
      refine Kn.acall fh8 .none (Kn.ex_call fh8 (.cons (.tmp rfl) (.cons (.tmp rfl) .nil))) Tryd.call33 (HQ1.out q) fun e u2 hp => ?_
      obtain ⟨rfl, q2, rfl⟩ := hp
      exact ⟨_, rfl, rfl, ⟨q + q2, by rw [World.drewN_drewN]⟩, trivial⟩
    · refine Kn.ok fun fa8 u L fh8 hS hH => ?_
      replace fh8 := fh8.more (show fa8.eval (.tmp 25) = .bool true from hH 8 25 rfl rfl)
      exact Kn.apure fh8 .none (Kn.ex_move fh8 (.tmp rfl)) rfl hS trivial
    · refine Kn.ok fun fa8 u L fh8 hS hH => ?_
      replace fh8 := fh8.more (show fa8.eval (.tmp 26) = .bool true from hH 9 26 rfl rfl)
      exact Kn.apure fh8 (.some rfl rfl rfl) (Kn.ex_move fh8 (.tmp rfl)) rfl hS trivial
    · refine Kn.ok fun fa8 u L fh8 hS hH => ?_
      replace fh8 := fh8.more (show fa8.eval (.tmp 27) = .pointer (some ⟨g, 0, none⟩) from hH 10 27 rfl rfl)
      replace fh8 := fh8.more (show fa8.eval (.tmp 26) = .bool true from hH 9 26 rfl rfl)
      exact Kn.apure fh8 (.some rfl rfl rfl) (Kn.ex_nilCheck fh8 (.tmp rfl)) rfl hS trivial
    · refine Kn.ok fun fa8 u L fh8 hS hH => ?_
      replace fh8 := fh8.more (show fa8.eval (.tmp 28) = .pointer (some ⟨g, 0, none⟩) from hH 11 28 rfl rfl)
      replace fh8 := fh8.more (show fa8.eval (.tmp 26) = .bool true from hH 9 26 rfl rfl)
      refine Kn.aop fh8 (.some rfl rfl rfl) (Kn.ex_fieldAddr fh8 (.tmp rfl)) fun Ko hKo => ?_
      go_simp
      try go_bits
      exact hKo _ _ rfl hS trivial
    · refine Kn.ok fun fa8 u L fh8 hS hH => ?_
      replace fh8 := fh8.more (show fa8.eval (.tmp 29) = .pointer (some ⟨g, 1, none⟩) from hH 12 29 rfl rfl)
      replace fh8 := fh8.more (show fa8.eval (.tmp 26) = .bool true from hH 9 26 rfl rfl)
      obtain ⟨q, rfl⟩ := hS
      refine Kn.aop fh8 (.some rfl rfl rfl) (Kn.ex_load fh8 (.tmp rfl)) fun Ko hKo => ?_
      go_simp
      try go_bits
      exact hKo _ _ rfl ⟨q, rfl⟩ trivial
    · refine Kn.ok fun fa8 u L fh8 hS hH => ?_
      replace fh8 := fh8.more (show fa8.eval (.tmp 26) = .bool true from hH 9 26 rfl rfl)
      exact Kn.apure fh8 (.some rfl rfl rfl) (Kn.ex_move fh8 (.tmp rfl)) rfl hS trivial
    · refine Kn.ok fun fa8 u L fh8 hS hH => ?_
      replace fh8 := fh8.more (show fa8.eval (.tmp 31) = .pointer (some ⟨g', 0, none⟩) from hH 14 31 rfl rfl)
      replace fh8 := fh8.more (show fa8.eval (.tmp 26) = .bool true from hH 9 26 rfl rfl)
      exact Kn.apure fh8 (.some rfl rfl rfl) (Kn.ex_nilCheck fh8 (.tmp rfl)) rfl hS trivial
    · refine Kn.ok fun fa8 u L fh8 hS hH => ?_
      replace fh8 := fh8.more (show fa8.eval (.tmp 32) = .pointer (some ⟨g', 0, none⟩) from hH 15 32 rfl rfl)
      replace fh8 := fh8.more (show fa8.eval (.tmp 26) = .bool true from hH 9 26 rfl rfl)
      refine Kn.aop fh8 (.some rfl rfl rfl) (Kn.ex_fieldAddr fh8 (.tmp rfl)) fun Ko hKo => ?_
      go_simp
      try go_bits
      exact hKo _ _ rfl hS trivial
    · refine Kn.ok fun fa8 u L fh8 hS hH => ?_
      replace fh8 := fh8.more (show fa8.eval (.tmp 33) = .pointer (some ⟨g', 1, none⟩) from hH 16 33 rfl rfl)
      replace fh8 := fh8.more (show fa8.eval (.tmp 26) = .bool true from hH 9 26 rfl rfl)
      obtain ⟨q, rfl⟩ := hS
      refine Kn.aop fh8 (.some rfl rfl rfl) (Kn.ex_load fh8 (.tmp rfl)) fun Ko hKo => ?_
      go_simp
      try go_bits
      exact hKo _ _ rfl ⟨q, rfl⟩ trivial
    · refine Kn.ok fun fa8 u L fh8 hS hH => ?_
      replace fh8 := fh8.more (show fa8.eval (.tmp 30) = .slice (some ⟨gt, 0, none⟩) ys.length ys.length from hH 13 30 rfl rfl)
      replace fh8 := fh8.more (show fa8.eval (.tmp 34) = .slice (some ⟨gt', 0, none⟩) zs.length zs.length from hH 17 34 rfl rfl)
      replace fh8 := fh8.more (show fa8.eval (.tmp 26) = .bool true from hH 9 26 rfl rfl)
      obtain ⟨q, rfl⟩ := hS
      refine Kn.acall fh8 (.some rfl rfl rfl) (Kn.ex_call fh8 (.cons (.tmp rfl) (.cons (.tmp rfl) .nil))) Tryd.call33 (HQ2.out q) fun e u2 hp => ?_
      obtain ⟨rfl, q2, rfl⟩ := hp
      exact ⟨_, rfl, rfl, ⟨q + q2, by rw [World.drewN_drewN]⟩, trivial⟩
    · refine Kn.ok fun fa8 u L fh8 hS hH => ?_
      replace fh8 := fh8.more (show fa8.eval (.tmp 26) = .bool true from hH 9 26 rfl rfl)
      replace fh8 := fh8.more (show fa8.eval (.tmp 35) = .bool bb from hH 18 35 rfl rfl)
      exact Kn.apure fh8 .none (Kn.ex_pick fh8 (.tmp rfl) (.tmp rfl)) rfl hS trivial
    · refine Kn.ok fun fa8 u L fh8 hS hH => ?_
      replace fh8 := fh8.more (show fa8.eval (.tmp 36) = .bool bb from hH 19 36 rfl rfl)
      exact Kn.apure fh8 .none (Kn.ex_assign fh8 (.tmp rfl)) rfl hS trivial
    intro fa8 w1 fh8 hS hT
    clear fh7 fa7
    replace fh8 := fh8.more (show fa8.eval (.tmp 4) = .bool bb from hT 20 4 rfl)
    clear hT
    refine hK4 _ _ ?_
    clear hK4 K4
    replace fh8 := fh8.cut (.cons (t := 4) rfl .nil)
    obtain ⟨q, rfl⟩ := hS
    refine wp_ret ?_
    exact Kn.ret1 fh8 rfl rfl ⟨rfl, q, rfl⟩
  · rw [decide_eq_false hb] at hQ1
    have HF : Hid (decide (N = M ∧ ys = zs) = false) := Lib.hid (decide_eq_false fun h => hb (by rw [h.1, h.2]))
    rw [HF.out]
    have HQ1 := Lib.hid hQ1
    clear hQ1 hQ2 HF
    refine wp_seq_k fun K2 hK2 => ?_
    refine wp_seq_k fun K3 hK3 => ?_
    refine wp_region_lit ?_
    refine Kn.pure fh1 rfl rfl .none (Kn.ex_move fh1 (.tmp rfl)) fun fa2 fh2 => ?_
    clear fh1 fa1
    refine Kn.step fh2 rfl rfl .none (Kn.ex_bin fh2 (.tmp rfl) .const) fun Ko hKo => ?_
    go_simp
    try go_bits
    refine hKo _ _ fun fa3 fh3 => ?_
    clear hKo Ko fh2 fa2
    refine Kn.pure fh3 rfl rfl .none (Kn.ex_move fh3 (.tmp rfl)) fun fa4 fh4 => ?_
    clear fh3 fa3
    refine Kn.pure fh4 rfl rfl (.some rfl rfl rfl) (Kn.ex_move fh4 (.tmp rfl)) fun fa5 fh5 => ?_
    clear fh4 fa4
    refine Kn.step fh5 rfl rfl (.some rfl rfl rfl) (Kn.ex_bin fh5 (.tmp rfl) .const) fun Ko hKo => ?_
    go_simp
    try go_bits
    refine hKo _ _ fun fa6 fh6 => ?_
    clear hKo Ko fh5 fa5
    refine Kn.pure fh6 rfl rfl .none (Kn.ex_pick fh6 (.tmp rfl) (.tmp rfl)) fun fa7 fh7 => ?_
    clear fh6 fa6
    refine wpList_nil ?_
    refine hK3 _ _ ?_
    clear hK3 K3
    replace fh7 := fh7.cut (.cons (t := 10) rfl (.cons (t := 4) rfl (.cons (t := 0) rfl (.cons (t := 1) rfl .nil))))
    refine Kn.no fh7 (.tmp rfl) ?_
    refine wp_skip ?_
    refine hK2 _ _ ?_
    clear hK2 K2
    replace fh7 := fh7.cut (.cons (t := 4) rfl (.cons (t := 0) rfl (.cons (t := 1) rfl .nil)))
    refine wp_seq_k fun K4 hK4 => ?_
    replace fh7 := fh7.cut (.cons (t := 0) rfl (.cons (t := 1) rfl .nil))
    refine Kn.any (fun u => ∃ q, u = w.drewN q) (fun _ _ => True) (Kn.TL [Kn.Is (.pointer (some ⟨g, 0, none⟩)), Kn.Is (.pointer (some ⟨g, 0, none⟩)), Kn.Is (.pointer (some ⟨g, 0, none⟩)), Kn.Is (.slice (some ⟨gb, 0, none⟩) N N), Kn.Is (.pointer (some ⟨g', 0, none⟩)), Kn.Is (.pointer (some ⟨g', 0, none⟩)), Kn.Is (.pointer (some ⟨g', 0, none⟩)), Kn.Is (.slice (some ⟨gb', 0, none⟩) M M), Kn.Is (.bool false), Kn.Is (.bool false), Kn.Is (undef), Kn.Is (undef), Kn.Is (undef), Kn.Is (undef), Kn.Is (undef), Kn.Is (undef), Kn.Is (undef), Kn.Is (undef), Kn.Is (undef), Kn.Is (.bool false), Kn.Is (.bool false)]) (by kernel_rfl) fh7 (by kernel_rfl) (by kernel_rfl) rfl (Kn.Keeps.all (.cons Kn.Is.keep (.cons Kn.Is.keep (.cons Kn.Is.keep (.cons Kn.Is.keep (.cons Kn.Is.keep (.cons Kn.Is.keep (.cons Kn.Is.keep (.cons Kn.Is.keep (.cons Kn.Is.keep (.cons Kn.Is.keep (.cons Kn.Is.keep (.cons Kn.Is.keep (.cons Kn.Is.keep (.cons Kn.Is.keep (.cons Kn.Is.keep (.cons Kn.Is.keep (.cons Kn.Is.keep (.cons Kn.Is.keep (.cons Kn.Is.keep (.cons Kn.Is.keep (.cons Kn.Is.keep .nil)))))))))))))))))))))) ⟨1, rfl⟩ ⟨?_, ?_, ?_, ?_, ?_, ?_, ?_, ?_, ?_, ?_, ?_, ?_, ?_, ?_, ?_, ?_, ?_, ?_, ?_, ?_, ?_, trivial⟩ ?_
    · refine Kn.ok fun fa8 u L fh8 hS hH => ?_
      exact Kn.apure fh8 .none (Kn.ex_move fh8 (.tmp rfl)) rfl hS trivial
    · refine Kn.ok fun fa8 u L fh8 hS hH => ?_
      replace fh8 := fh8.more (show fa8.eval (.tmp 17) = .pointer (some ⟨g, 0, none⟩) from hH 0 17 rfl rfl)
      exact Kn.apure fh8 .none (Kn.ex_nilCheck fh8 (.tmp rfl)) rfl hS trivial
    · refine Kn.ok fun fa8 u L fh8 hS hH => ?_
      replace fh8 := fh8.more (show fa8.eval (.tmp 18) = .pointer (some ⟨g, 0, none⟩) from hH 1 18 rfl rfl)
      refine Kn.aop fh8 .none (Kn.ex_fieldAddr fh8 (.tmp rfl)) fun Ko hKo => ?_
      go_simp
      try go_bits
      exact hKo _ _ rfl hS trivial
    · refine Kn.ok fun fa8 u L fh8 hS hH => ?_
      replace fh8 := fh8.more (show fa8.eval (.tmp 19) = .pointer (some ⟨g, 0, none⟩) from hH 2 19 rfl rfl)
      obtain ⟨q, rfl⟩ := hS
      refine Kn.aop fh8 .none (Kn.ex_load fh8 (.tmp rfl)) fun Ko hKo => ?_
      go_simp
      try go_bits
      exact hKo _ _ rfl ⟨q, rfl⟩ trivial
    · refine Kn.ok fun fa8 u L fh8 hS hH => ?_
      exact Kn.apure fh8 .none (Kn.ex_move fh8 (.tmp rfl)) rfl hS trivial
    · refine Kn.ok fun fa8 u L fh8 hS hH => ?_
      replace fh8 := fh8.more (show fa8.eval (.tmp 21) = .pointer (some ⟨g', 0, none⟩) from hH 4 21 rfl rfl)
      exact Kn.apure fh8 .none (Kn.ex_nilCheck fh8 (.tmp rfl)) rfl hS trivial
    · refine Kn.ok fun fa8 u L fh8 hS hH => ?_
      replace fh8 := fh8.more (show fa8.eval (.tmp 22) = .pointer (some ⟨g', 0, none⟩) from hH 5 22 rfl rfl)
      refine Kn.aop fh8 .none (Kn.ex_fieldAddr fh8 (.tmp rfl)) fun Ko hKo => ?_
      go_simp
      try go_bits
      exact hKo _ _ rfl hS trivial
    · refine Kn.ok fun fa8 u L fh8 hS hH => ?_
      replace fh8 := fh8.more (show fa8.eval (.tmp 23) = .pointer (some ⟨g', 0, none⟩) from hH 6 23 rfl rfl)
      obtain ⟨q, rfl⟩ := hS
      refine Kn.aop fh8 .none (Kn.ex_load fh8 (.tmp rfl)) fun Ko hKo => ?_
      go_simp
      try go_bits
      exact hKo _ _ rfl ⟨q, rfl⟩ trivial
    · refine Kn.ok fun fa8 u L fh8 hS hH => ?_
      replace fh8 := fh8.more (show fa8.eval (.tmp 20) = .slice (some ⟨gb, 0, none⟩) N N from hH 3 20 rfl rfl)
      replace fh8 := fh8.more (show fa8.eval (.tmp 24) = .slice (some ⟨gb', 0, none⟩) M M from hH 7 24 rfl rfl)
      obtain ⟨q, rfl⟩ := hS
      refine Kn.acall fh8 .none (Kn.ex_call fh8 (.cons (.tmp rfl) (.cons (.tmp rfl) .nil))) Tryd.call33 (HQ1.out q) fun e u2 hp => ?_
      obtain ⟨rfl, q2, rfl⟩ := hp
      exact ⟨_, rfl, rfl, ⟨q + q2, by rw [World.drewN_drewN]⟩, trivial⟩
    · refine Kn.ok fun fa8 u L fh8 hS hH => ?_
      replace fh8 := fh8.more (show fa8.eval (.tmp 25) = .bool false from hH 8 25 rfl rfl)
      exact Kn.apure fh8 .none (Kn.ex_move fh8 (.tmp rfl)) rfl hS trivial
    · refine Kn.ok fun fa8 u L fh8 hS hH => ?_
      replace fh8 := fh8.more (show fa8.eval (.tmp 26) = .bool false from hH 9 26 rfl rfl)
      exact Kn.askip fh8 (.some rfl rfl rfl) rfl
    · refine Kn.ok fun fa8 u L fh8 hS hH => ?_
      replace fh8 := fh8.more (show fa8.eval (.tmp 26) = .bool false from hH 9 26 rfl rfl)
      exact Kn.askip fh8 (.some rfl rfl rfl) rfl
    · refine Kn.ok fun fa8 u L fh8 hS hH => ?_
      replace fh8 := fh8.more (show fa8.eval (.tmp 26) = .bool false from hH 9 26 rfl rfl)
      exact Kn.askip fh8 (.some rfl rfl rfl) rfl
    · refine Kn.ok fun fa8 u L fh8 hS hH => ?_
      replace fh8 := fh8.more (show fa8.eval (.tmp 26) = .bool false from hH 9 26 rfl rfl)
      obtain ⟨q, rfl⟩ := hS
      exact Kn.askip fh8 (.some rfl rfl rfl) rfl
    · refine Kn.ok fun fa8 u L fh8 hS hH => ?_
      replace fh8 := fh8.more (show fa8.eval (.tmp 26) = .bool false from hH 9 26 rfl rfl)
      exact Kn.askip fh8 (.some rfl rfl rfl) rfl
    · refine Kn.ok fun fa8 u L fh8 hS hH => ?_
      replace fh8 := fh8.more (show fa8.eval (.tmp 26) = .bool false from hH 9 26 rfl rfl)
      exact Kn.askip fh8 (.some rfl rfl rfl) rfl
    · refine Kn.ok fun fa8 u L fh8 hS hH => ?_
      replace fh8 := fh8.more (show fa8.eval (.tmp 26) = .bool false from hH 9 26 rfl rfl)
      exact Kn.askip fh8 (.some rfl rfl rfl) rfl
    · refine Kn.ok fun fa8 u L fh8 hS hH => ?_
      replace fh8 := fh8.more (show fa8.eval (.tmp 26) = .bool false from hH 9 26 rfl rfl)
      obtain ⟨q, rfl⟩ := hS
      exact Kn.askip fh8 (.some rfl rfl rfl) rfl
    · refine Kn.ok fun fa8 u L fh8 hS hH => ?_
      replace fh8 := fh8.more (show fa8.eval (.tmp 26) = .bool false from hH 9 26 rfl rfl)
      obtain ⟨q, rfl⟩ := hS
      exact Kn.askip fh8 (.some rfl rfl rfl) rfl
    · refine Kn.ok fun fa8 u L fh8 hS hH => ?_
      replace fh8 := fh8.more (show fa8.eval (.tmp 26) = .bool false from hH 9 26 rfl rfl)
      exact Kn.apure fh8 .none (Kn.ex_pick fh8 (.tmp rfl) .const) rfl hS trivial
    · refine Kn.ok fun fa8 u L fh8 hS hH => ?_
      replace fh8 := fh8.more (show fa8.eval (.tmp 36) = .bool false from hH 19 36 rfl rfl)
      exact Kn.apure fh8 .none (Kn.ex_assign fh8 (.tmp rfl)) rfl hS trivial
    intro fa8 w1 fh8 hS hT
    clear fh7 fa7
    replace fh8 := fh8.more (show fa8.eval (.tmp 4) = .bool false from hT 20 4 rfl)
    clear hT
    refine hK4 _ _ ?_
    clear hK4 K4
    replace fh8 := fh8.cut (.cons (t := 4) rfl .nil)
    obtain ⟨q, rfl⟩ := hS
    refine wp_ret ?_
    exact Kn.ret1 fh8 rfl rfl ⟨rfl, q, rfl⟩

end Go.Proofs.YtinjecaanjeapaaDoor.Csr
