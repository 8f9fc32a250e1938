/- The document's example of layer 5 (written by gen_awake5.py). -/
import Derived.Test.YtinjecaanjeapaaDoorCsrC
import Derived.Test.YtinjecaanjeapaaDoorEdgW
namespace Go.Proofs.YtinjecaanjeapaaDoor.Csr
open Go Go.RowKit Go.Lib Edg Num

def ex5 : List (Int × Int) := [(2, 0), (0, 1)]
theorem ex5_norm : NormOf ex5 ex2 := ⟨by unfold Srt ex2; simp [lessB], fun e => by
  simp only [ex5, ex2, List.mem_cons, List.not_mem_nil, or_false]
  constructor
  · rintro (h | h) <;> simp [h]
  · rintro (h | h) <;> simp [h]⟩
theorem ex5_good : Edg.Good ((3 : Nat) : Int) ex5 := ⟨by decide, by decide, by decide, by decide⟩
theorem iin_block (w : World) (g : Nat) (l : List Int) (h : w.heap[g]? = some (.cells (l.map iV).toArray 3)) : IIn w (some ⟨g, 0, none⟩) l := fun i hi => by
  have hlt := (Array.getElem?_eq_some_iff.1 h).1
  have hc := World.news_of_block (cs := (l.map iV).toArray) h
  have a1 := hc i (iV (nt l i)) (by rw [nt_at _ _ hi]; simp [hi])
  rw [Num.addr_add] at a1
  exact ⟨g, 0, rfl, hlt, a1⟩

set_option maxRecDepth 100000 in
set_option maxHeartbeats 2000000 in
theorem awake5 (w : World) : Calls Tryd.prog 5 #[] w fun e w' => e = .returned (.bool true) ∧ Below w.heap.size w w' := by
  refine Kn.calls Tryd.func5 rfl Tryd.ntmps5 rfl .nil fun fa0 fh0 => ?_
  refine wp_seq_k fun K1 hK1 => ?_
  refine wp_region_lit ?_
  refine Kn.pure fh0 rfl rfl .none (Kn.ex_assign fh0 .const) fun fa1 fh1 => ?_
  clear fh0 fa0
  refine wpList_nil ?_
  refine hK1 _ _ ?_
  clear hK1 K1
  refine wp_seq_k fun K2 hK2 => ?_
  refine wp_region_lit ?_
  refine Kn.step fh1 rfl rfl .none (Kn.ex_build fh1 (.cons .const .nil)) fun Ko hKo => ?_
  go_simp
  try go_bits
  refine hKo _ _ fun fa2 fh2 => ?_
  clear hKo Ko fh1 fa1
  refine Kn.step fh2 rfl rfl .none (Kn.ex_build fh2 (.cons .const .nil)) fun Ko hKo => ?_
  go_simp
  try go_bits
  refine hKo _ _ fun fa3 fh3 => ?_
  clear hKo Ko fh2 fa2
  refine Kn.step fh3 rfl rfl .none (Kn.ex_buildSlice fh3 (.cons (.tmp rfl) (.cons (.tmp rfl) .nil))) fun Ko hKo => ?_
  go_simp
  try go_bits
  refine hKo _ _ fun fa4 fh4 => ?_
  clear hKo Ko fh3 fa3
  have hE1 := ein_block _ w.heap.size ex5 (heap_alloc_new w (.cells (eC ex5).toArray 51))
  refine Kn.call fh4 rfl rfl .none (Kn.ex_call fh4 (.cons .const (.cons (.tmp rfl) .nil))) Tryd.call6 (build_yes 3 _ 2 ex5 _ hE1 ex5_good) fun e w2 hp => ?_
  obtain ⟨g, ys, rfl, hN, hR, hb⟩ := hp
  refine ⟨_, rfl, fun fa5 fh5 => ?_⟩
  clear fh4 fa4
  refine Kn.pure fh5 rfl rfl .none (Kn.ex_move fh5 (.tmp rfl)) fun fa6 fh6 => ?_
  clear fh5 fa5
  refine Kn.pure fh6 rfl rfl .none (Kn.ex_extract fh6 (.tmp rfl) rfl) fun fa7 fh7 => ?_
  clear fh6 fa6
  refine Kn.pure fh7 rfl rfl .none (Kn.ex_extract fh7 (.tmp rfl) rfl) fun fa8 fh8 => ?_
  clear fh7 fa7
  refine Kn.pure fh8 rfl rfl .none (Kn.ex_assign fh8 (.tmp rfl)) fun fa9 fh9 => ?_
  clear fh8 fa8
  refine Kn.pure fh9 rfl rfl .none (Kn.ex_assign fh9 (.tmp rfl)) fun fa10 fh10 => ?_
  clear fh9 fa9
  refine wpList_nil ?_
  refine hK2 _ _ ?_
  clear hK2 K2
  replace fh10 := fh10.cut (.cons (t := 2) rfl (.cons (t := 1) rfl (.cons (t := 0) rfl .nil)))
  obtain rfl : ys = ex2 := hN.unique ex5_norm
  have HR := Lib.hid hR
  have HB := Lib.hid (((Below.refl _ w).alloc (Nat.le_refl _) _).trans (hb.mono (by simp)))
  clear hR hb hN hE1
  have ht := targets_in 2 w2 _ g 3 ex2 HR.out (by decide)
  refine wp_seq_k fun K3 hK3 => ?_
  refine wp_seq_k fun K4 hK4 => ?_
  refine wp_region_lit ?_
  refine Kn.pure fh10 rfl rfl .none (Kn.ex_move fh10 (.tmp rfl)) fun fa11 fh11 => ?_
  clear fh10 fa10
  refine Kn.step fh11 rfl rfl .none (Kn.ex_bin fh11 (.tmp rfl) .const) fun Ko hKo => ?_
  go_simp
  try go_bits
  refine hKo _ _ fun fa12 fh12 => ?_
  clear hKo Ko fh11 fa11
  refine wpList_nil ?_
  refine hK4 _ _ ?_
  clear hK4 K4
  replace fh12 := fh12.cut (.cons (t := 13) rfl (.cons (t := 1) rfl (.cons (t := 0) rfl .nil)))
  refine Kn.no fh12 (.tmp rfl) ?_
  refine wp_skip ?_
  refine hK3 _ _ ?_
  clear hK3 K3
  replace fh12 := fh12.cut (.cons (t := 1) rfl (.cons (t := 0) rfl .nil))
  refine wp_seq_k fun K5 hK5 => ?_
  refine wp_region_lit ?_
  refine Kn.pure fh12 rfl rfl .none (Kn.ex_move fh12 (.tmp rfl)) fun fa13 fh13 => ?_
  clear fh12 fa12
  refine Kn.call fh13 rfl rfl .none (Kn.ex_call fh13 (.cons (.tmp rfl) (.cons .const .nil))) Tryd.call15 (ht) fun e w3 hp => ?_
  obtain ⟨A', n', c', rfl, hO, hb3⟩ := hp
  refine ⟨_, rfl, fun fa14 fh14 => ?_⟩
  clear fh13 fa13
  refine Kn.pure fh14 rfl rfl .none (Kn.ex_move fh14 (.tmp rfl)) fun fa15 fh15 => ?_
  clear fh14 fa14
  refine Kn.pure fh15 rfl rfl .none (Kn.ex_extract fh15 (.tmp rfl) rfl) fun fa16 fh16 => ?_
  clear fh15 fa15
  refine Kn.pure fh16 rfl rfl .none (Kn.ex_extract fh16 (.tmp rfl) rfl) fun fa17 fh17 => ?_
  clear fh16 fa16
  refine Kn.pure fh17 rfl rfl .none (Kn.ex_assign fh17 (.tmp rfl)) fun fa18 fh18 => ?_
  clear fh17 fa17
  refine Kn.pure fh18 rfl rfl .none (Kn.ex_assign fh18 (.tmp rfl)) fun fa19 fh19 => ?_
  clear fh18 fa18
  refine wpList_nil ?_
  refine hK5 _ _ ?_
  clear hK5 K5
  replace fh19 := fh19.cut (.cons (t := 4) rfl (.cons (t := 3) rfl (.cons (t := 1) rfl (.cons (t := 0) rfl .nil))))
  have HO : Hid (OwnI w3 w2.heap.size A' n' c' [0]) := Lib.hid hO
  have HR3 := Lib.hid (HR.out.on hb3)
  have HB3 := Lib.hid (HB.out.trans (hb3.mono HB.out.size))
  obtain rfl : n' = 1 := HO.out.1
  clear hO hb3 HR HB ht
  refine wp_seq_k fun K6 hK6 => ?_
  refine wp_region_lit ?_
  refine Kn.pure fh19 rfl rfl .none (Kn.ex_move fh19 (.tmp rfl)) fun fa20 fh20 => ?_
  clear fh19 fa19
  refine Kn.step fh20 rfl rfl .none (Kn.ex_bin fh20 (.tmp rfl) .const) fun Ko hKo => ?_
  go_simp
  try go_bits
  refine hKo _ _ fun fa21 fh21 => ?_
  clear hKo Ko fh20 fa20
  refine Kn.pure fh21 rfl rfl .none (Kn.ex_move fh21 (.tmp rfl)) fun fa22 fh22 => ?_
  clear fh21 fa21
  refine Kn.pure fh22 rfl rfl (.some rfl rfl rfl) (Kn.ex_move fh22 (.tmp rfl)) fun fa23 fh23 => ?_
  clear fh22 fa22
  refine Kn.step fh23 rfl rfl (.some rfl rfl rfl) (Kn.ex_buildSlice fh23 (.cons .const .nil)) fun Ko hKo => ?_
  go_simp
  try go_bits
  refine hKo _ _ fun fa24 fh24 => ?_
  clear hKo Ko fh23 fa23
  have hI := iin_block _ w3.heap.size [0] (heap_alloc_new w3 (.cells ([(0 : Int)].map iV).toArray 3))
  have hal : Below w3.heap.size w3 (w3.alloc (.cells ([(0 : Int)].map iV).toArray 3)) := (Below.refl _ w3).alloc (Nat.le_refl _) _
  refine Kn.call fh24 rfl rfl (.some rfl rfl rfl) (Kn.ex_call fh24 (.cons (.tmp rfl) (.cons (.tmp rfl) .nil))) Tryd.call19 (refInts_any A' _ c' 1 [0] [0] _ (by decide) (by decide) (HO.out.iin.on hal) hI) fun e w4 hp => ?_
  obtain ⟨rfl, q, rfl⟩ := hp
  refine ⟨_, rfl, fun fa25 fh25 => ?_⟩
  clear fh24 fa24
  refine Kn.pure fh25 rfl rfl .none (Kn.ex_pick fh25 (.tmp rfl) (.tmp rfl)) fun fa26 fh26 => ?_
  clear fh25 fa25
  refine Kn.pure fh26 rfl rfl .none (Kn.ex_move fh26 (.tmp rfl)) fun fa27 fh27 => ?_
  clear fh26 fa26
  refine Kn.pure fh27 rfl rfl (.some rfl rfl rfl) (Kn.ex_move fh27 (.tmp rfl)) fun fa28 fh28 => ?_
  clear fh27 fa27
  refine Kn.call fh28 rfl rfl (.some rfl rfl rfl) (Kn.ex_call fh28 (.cons (.tmp rfl) (.cons .const .nil))) Tryd.call21 (begin_any 3 _ _ g 3 ex2 ((HR3.out.on hal).drewN q)) fun e w5 hp => ?_
  obtain ⟨rfl, rfl⟩ := hp
  refine ⟨_, rfl, fun fa29 fh29 => ?_⟩
  clear fh28 fa28
  refine Kn.step fh29 rfl rfl (.some rfl rfl rfl) (Kn.ex_bin fh29 (.tmp rfl) .const) fun Ko hKo => ?_
  go_simp
  try go_bits
  refine hKo _ _ fun fa30 fh30 => ?_
  clear hKo Ko fh29 fa29
  refine Kn.pure fh30 rfl rfl .none (Kn.ex_pick fh30 (.tmp rfl) (.tmp rfl)) fun fa31 fh31 => ?_
  clear fh30 fa30
  refine Kn.pure fh31 rfl rfl .none (Kn.ex_assign fh31 (.tmp rfl)) fun fa32 fh32 => ?_
  clear fh31 fa31
  refine wpList_nil ?_
  refine hK6 _ _ ?_
  clear hK6 K6
  replace fh32 := fh32.cut (.cons (t := 0) rfl .nil)
  refine wp_ret ?_
  exact Kn.ret1 fh32 rfl rfl ⟨rfl, (HB3.out.trans (hal.mono HB3.out.size)).trans ⟨rfl, rfl, rfl, Nat.le_refl _, fun _ _ => rfl⟩⟩

end Go.Proofs.YtinjecaanjeapaaDoor.Csr
