/- The document's example of layer 4 (written by gen_awake4.py). -/
import Derived.Test.YtnmpcendimdoeaaGreatDoorEdgN
namespace Go.Proofs.YtnmpcendimdoeaaGreatDoor.Edg
open Go Go.RowKit Go.Lib

theorem ein_block (w : World) (g : Nat) (l : List (Int × Int)) (h : w.heap[g]? = some (.cells (eC l).toArray 26)) : EIn w (some ⟨g, 0, none⟩) l := fun i hi => by
  have hlt := (Array.getElem?_eq_some_iff.1 h).1
  have h1 := eC_at l i hi
  have hc := World.news_of_block (cs := (eC l).toArray) h
  have a1 := hc (i * 2) _ (by simpa using h1.1)
  have a2 := hc (i * 2 + 1) _ (by simpa using h1.2)
  rw [addr_add] at a1 a2
  exact ⟨g, 0, rfl, hlt, a1, by rw [Nat.add_assoc]; exact a2⟩
def ex1 : List (Int × Int) := [(2, 0), (0, 1), (2, 0)]
def ex2 : List (Int × Int) := [(0, 1), (2, 0)]
theorem ex_norm : NormOf ex1 ex2 := ⟨by unfold Srt ex2; simp [lessB], fun e => by
  simp only [ex1, ex2, List.mem_cons, List.not_mem_nil, or_false]
  constructor
  · rintro (h | h) <;> simp [h]
  · rintro (h | h | h) <;> simp [h]⟩
theorem check_ok (n : Int) (A : Option Addr) (ca : Nat) (xs : List (Int × Int)) (w : World) (h1 : 0 ≤ n) (h2 : n ≤ 4096) (hx : xs.length ≤ 20000) (hA : EIn w A xs) (hG : ∀ e ∈ xs, badB n e = false) :
    Calls Tryz.prog 23 #[.int .i64 n, .slice A xs.length ca] w fun e w' => e = .returned .nilIface ∧ Below w.heap.size w w' := by
  have := check_any n A ca xs.length xs w (by omega) (by omega) (by omega) hA (fun i hi => by rw [ed_at xs i hi]; exact hG _ (List.getElem_mem hi)) (fun h => absurd h (by omega))
  rw [if_neg (by omega)] at this
  exact this

set_option maxRecDepth 100000 in
set_option maxHeartbeats 2000000 in
theorem awake_any (w : World) : Calls Tryz.prog 4 #[] w fun e w' => e = .returned (.bool true) ∧ Below w.heap.size w w' := by
  refine Kn.calls Tryz.func4 rfl Tryz.ntmps4 rfl .nil fun fa0 fh0 => ?_
  refine wp_seq_k fun K1 hK1 => ?_
  refine wp_region_lit ?_
  refine Kn.pure fh0 rfl rfl .none (Kn.ex_assign fh0 .const) fun fa1 fh1 => ?_
  clear fh0 fa0
  refine wpList_nil ?_
  refine hK1 _ _ ?_
  clear hK1 K1
  refine wp_seq_k fun K2 hK2 => ?_
  refine wp_region_lit ?_
  refine Kn.step fh1 rfl rfl .none (Kn.ex_build fh1 (.cons .const .nil)) fun Ko hKo => ?_
  go_simp
  try go_bits
  refine hKo _ _ fun fa2 fh2 => ?_
  clear hKo Ko fh1 fa1
  refine Kn.step fh2 rfl rfl .none (Kn.ex_build fh2 (.cons .const .nil)) fun Ko hKo => ?_
  go_simp
  try go_bits
  refine hKo _ _ fun fa3 fh3 => ?_
  clear hKo Ko fh2 fa2
  refine Kn.step fh3 rfl rfl .none (Kn.ex_build fh3 (.cons .const .nil)) fun Ko hKo => ?_
  go_simp
  try go_bits
  refine hKo _ _ fun fa4 fh4 => ?_
  clear hKo Ko fh3 fa3
  refine Kn.step fh4 rfl rfl .none (Kn.ex_buildSlice fh4 (.cons (.tmp rfl) (.cons (.tmp rfl) (.cons (.tmp rfl) .nil)))) fun Ko hKo => ?_
  go_simp
  try go_bits
  refine hKo _ _ fun fa5 fh5 => ?_
  clear hKo Ko fh4 fa4
  have hE1 := ein_block _ w.heap.size ex1 (heap_alloc_new w (.cells (eC ex1).toArray 26))
  refine Kn.call fh5 rfl rfl .none (Kn.ex_call fh5 (.cons .const (.cons (.tmp rfl) .nil))) Tryz.call13 (norm_ok 3 _ 3 ex1 _ (by decide) hE1 (check_ok 3 _ 3 ex1 _ (by decide) (by decide) (by decide) hE1 (by decide))) fun e w2 hp => ?_
  obtain ⟨A', n', c', ys, rfl, hn, hN, hE, hb⟩ := hp
  refine ⟨_, rfl, fun fa6 fh6 => ?_⟩
  clear fh5 fa5
  refine Kn.pure fh6 rfl rfl .none (Kn.ex_move fh6 (.tmp rfl)) fun fa7 fh7 => ?_
  clear fh6 fa6
  refine Kn.pure fh7 rfl rfl .none (Kn.ex_extract fh7 (.tmp rfl) rfl) fun fa8 fh8 => ?_
  clear fh7 fa7
  refine Kn.pure fh8 rfl rfl .none (Kn.ex_extract fh8 (.tmp rfl) rfl) fun fa9 fh9 => ?_
  clear fh8 fa8
  refine Kn.pure fh9 rfl rfl .none (Kn.ex_assign fh9 (.tmp rfl)) fun fa10 fh10 => ?_
  clear fh9 fa9
  refine Kn.pure fh10 rfl rfl .none (Kn.ex_assign fh10 (.tmp rfl)) fun fa11 fh11 => ?_
  clear fh10 fa10
  refine wpList_nil ?_
  refine hK2 _ _ ?_
  clear hK2 K2
  replace fh11 := fh11.cut (.cons (t := 2) rfl (.cons (t := 1) rfl (.cons (t := 0) rfl .nil)))
  obtain rfl : ys = ex2 := hN.unique ex_norm
  have HE := Lib.hid hE
  have HB := Lib.hid (((Below.refl _ w).alloc (Nat.le_refl _) _).trans (hb.mono (by simp)))
  clear hE hb hN hE1
  subst hn
  refine wp_seq_k fun K3 hK3 => ?_
  refine wp_region_lit ?_
  refine Kn.pure fh11 rfl rfl .none (Kn.ex_move fh11 (.tmp rfl)) fun fa12 fh12 => ?_
  clear fh11 fa11
  refine Kn.step fh12 rfl rfl .none (Kn.ex_bin fh12 (.tmp rfl) .const) fun Ko hKo => ?_
  go_simp
  try go_bits
  refine hKo _ _ fun fa13 fh13 => ?_
  clear hKo Ko fh12 fa12
  refine Kn.pure fh13 rfl rfl .none (Kn.ex_move fh13 (.tmp rfl)) fun fa14 fh14 => ?_
  clear fh13 fa13
  refine Kn.pure fh14 rfl rfl (.some rfl rfl rfl) (Kn.ex_move fh14 (.tmp rfl)) fun fa15 fh15 => ?_
  clear fh14 fa14
  refine Kn.step fh15 rfl rfl (.some rfl rfl rfl) (Kn.ex_build fh15 (.cons .const .nil)) fun Ko hKo => ?_
  go_simp
  try go_bits
  refine hKo _ _ fun fa16 fh16 => ?_
  clear hKo Ko fh15 fa15
  refine Kn.step fh16 rfl rfl (.some rfl rfl rfl) (Kn.ex_build fh16 (.cons .const .nil)) fun Ko hKo => ?_
  go_simp
  try go_bits
  refine hKo _ _ fun fa17 fh17 => ?_
  clear hKo Ko fh16 fa16
  refine Kn.step fh17 rfl rfl (.some rfl rfl rfl) (Kn.ex_buildSlice fh17 (.cons (.tmp rfl) (.cons (.tmp rfl) .nil))) fun Ko hKo => ?_
  go_simp
  try go_bits
  refine hKo _ _ fun fa18 fh18 => ?_
  clear hKo Ko fh17 fa17
  have hE2 := ein_block _ w2.heap.size ex2 (heap_alloc_new w2 (.cells (eC ex2).toArray 26))
  refine Kn.call fh18 rfl rfl (.some rfl rfl rfl) (Kn.ex_call fh18 (.cons (.tmp rfl) (.cons (.tmp rfl) .nil))) Tryz.call9 (same_any A' _ c' 2 ex2 ex2 _ (by decide) (by decide) (HE.out.on ((Below.refl _ w2).alloc (Nat.le_refl _) _)) hE2) fun e w3 hp => ?_
  obtain ⟨rfl, q, rfl⟩ := hp
  refine ⟨_, rfl, fun fa19 fh19 => ?_⟩
  clear fh18 fa18
  refine Kn.pure fh19 rfl rfl .none (Kn.ex_pick fh19 (.tmp rfl) (.tmp rfl)) fun fa20 fh20 => ?_
  clear fh19 fa19
  refine Kn.pure fh20 rfl rfl .none (Kn.ex_assign fh20 (.tmp rfl)) fun fa21 fh21 => ?_
  clear fh20 fa20
  refine wpList_nil ?_
  refine hK3 _ _ ?_
  clear hK3 K3
  replace fh21 := fh21.cut (.cons (t := 0) rfl .nil)
  refine wp_ret ?_
  exact Kn.ret1 fh21 rfl rfl ⟨by simp, (HB.out.alloc HB.out.size _).trans ⟨rfl, rfl, rfl, Nat.le_refl _, fun _ _ => rfl⟩⟩

end Go.Proofs.YtnmpcendimdoeaaGreatDoor.Edg
