/- Loop 8 of the document's digest (written by gen_refsum.py). -/
import Derived.Test.YteciidnjikcimaaDoorSumS
namespace Go.Proofs.YteciidnjikcimaaDoor.Sha
open Go.RowKit Go.Lib

theorem own_set {w : World} {B g cap : Nat} {l : List Nat} (h : OwnI w B g cap l) (k n : Nat) : OwnI (w.setCell ⟨g, k, none⟩ (.int .i64 (n : Int))) B g cap (l.set k n) := by
  have := (World.ownsRow.stored h k (.int .i64 (n : Int))).1
  unfold OwnI
  rw [List.length_set, List.map_set]
  exact this
theorem own_other {w : World} {B g g' cap k : Nat} {l : List Nat} {u : Value} (h : OwnI w B g cap l) (hne : g ≠ g') : OwnI (w.setCell ⟨g', k, none⟩ u) B g cap l := ownsRow_setCell_other h (by simp [Value.ownBlock]; exact hne) u
theorem rn_other {w : World} {g g' k : Nat} {l : List Nat} {u : Value} (h : RN w g l) (hne : g ≠ g') : RN (w.setCell ⟨g', k, none⟩ u) g l := ⟨by simpa [World.setCell] using h.1, fun j hj => by
  rw [World.cell?_setCell_far _ _ _ _ (Ne.symm hne)]; exact h.2 j hj⟩
set_option maxRecDepth 100000 in
set_option maxHeartbeats 4000000 in
theorem lp8 (w0 v : World) (fa0 : Act) (v1 : Value) (A n2 g2 cap2 gh caph gv cv : Nat) (Hm PL : List Nat) (s : V8) (Q : Exit → Act → World → Prop)
    (fh0 : Kn.Kn 354 [(29, .int .i64 0), (21, .slice (some ⟨gv, 0, none⟩) 8 cv), (13, .int .i64 (A : Int)), (12, .slice (some ⟨gh, 0, none⟩) 8 caph), (7, .slice (some ⟨g2, 0, none⟩) n2 cap2), (1, v1)] fa0)
    (HHl : Hid (Hm.length = 8)) (HHb : Hid (∀ i, wd Hm i < 4294967296)) (HSb : Hid (∀ i, wd s.list i < 4294967296)) (hgv : gv ≠ gh) (hne : gh ≠ g2)
    (ho : OwnI v w0.heap.size gh caph Hm) (hb2 : OwnI v w0.heap.size g2 cap2 PL) (hold : Below w0.heap.size w0 v) (hV : RN v gv s.list)
    (hQ : ∀ a v, Kn.Kn 354 [(13, .int .i64 (A : Int)), (12, .slice (some ⟨gh, 0, none⟩) 8 caph), (7, .slice (some ⟨g2, 0, none⟩) n2 cap2), (1, v1)] a → OwnI v w0.heap.size gh caph (mix Hm s 8) → OwnI v w0.heap.size g2 cap2 PL → Below w0.heap.size w0 v → Q .normal a v) :
    (Code.block 14 (.loop (bodyS 7))).wp Tryd.prog Q fa0 v := by
  refine wp_block ?_
  refine Kn.loop (fun m a v => ∃ (k : Nat), Kn.Kn 354 [(29, .int .i64 (k : Int)), (21, .slice (some ⟨gv, 0, none⟩) 8 cv), (13, .int .i64 (A : Int)), (12, .slice (some ⟨gh, 0, none⟩) 8 caph), (7, .slice (some ⟨g2, 0, none⟩) n2 cap2), (1, v1)] a ∧ k + m = 8 ∧ Hid (OwnI v w0.heap.size gh caph (mix Hm s k)) ∧ Hid (OwnI v w0.heap.size g2 cap2 PL) ∧ Hid (Below w0.heap.size w0 v) ∧ Hid (RN v gv s.list)) 8 ⟨0, fh0.cut (.cons (t := 29) rfl (.cons (t := 21) rfl (.cons (t := 13) rfl (.cons (t := 12) rfl (.cons (t := 7) rfl (.cons (t := 1) rfl .nil)))))), rfl, Lib.hid ho, Lib.hid hb2, Lib.hid hold, Lib.hid hV⟩ ?_
  clear fh0 fa0
  intro m fa1 v hI Kl1 hKl1
  conv => arg 2; whnf
  obtain ⟨k, fh1, hk, HO, HB, HL, HV⟩ := hI
  clear ho hb2 hold hV
  by_cases hlt : k < 8
  · refine wp_seq_k fun K2 hK2 => ?_
    refine wp_seq_k fun K3 hK3 => ?_
    refine wp_region_lit ?_
    refine Kn.pure fh1 rfl rfl .none (Kn.ex_move fh1 (.tmp rfl)) fun fa2 fh2 => ?_
    clear fh1 fa1
    have qd : decide ((k : Int) < 8) = true := decide_eq_true (by omega)
    refine Kn.step fh2 rfl rfl .none (Kn.ex_bin fh2 (.tmp rfl) .const) fun Ko hKo => ?_
    go_simp
    try go_bits
    refine hKo _ _ fun fa3 fh3 => ?_
    clear hKo Ko fh2 fa2
    clear qd
    refine wpList_nil ?_
    refine hK3 _ _ ?_
    clear hK3 K3
    replace fh3 := fh3.cut (.cons (t := 303) rfl (.cons (t := 29) rfl (.cons (t := 21) rfl (.cons (t := 13) rfl (.cons (t := 12) rfl (.cons (t := 7) rfl (.cons (t := 1) rfl .nil)))))))
    refine Kn.yes fh3 (.tmp rfl) ?_
    refine wp_skip ?_
    refine hK2 _ _ ?_
    clear hK2 K2
    replace fh3 := fh3.cut (.cons (t := 29) rfl (.cons (t := 21) rfl (.cons (t := 13) rfl (.cons (t := 12) rfl (.cons (t := 7) rfl (.cons (t := 1) rfl .nil))))))
    refine wp_seq_k fun K4 hK4 => ?_
    refine wp_block ?_
    have hlti : (k : Int) < 8 := by omega
    obtain ⟨x, hx⟩ : ∃ x, wd Hm k = x := ⟨_, rfl⟩
    obtain ⟨y, hy⟩ : ∃ y, wd s.list k = y := ⟨_, rfl⟩
    have bx : x < 4294967296 := by rw [← hx]; exact HHb.out k
    have by' : y < 4294967296 := by rw [← hy]; exact HSb.out k
    have cx : v.cell? ⟨gh, k, none⟩ = some (.int .i64 (x : Int)) := by rw [HO.out.cell (by rw [mix_len, HHl.out]; exact hlt), mix_at _ _ _ _ (Nat.le_refl _), hx]
    have cy : v.cell? ⟨gv, k, none⟩ = some (.int .i64 (y : Int)) := by rw [HV.out.2 k (by exact hlt), hy]
    have fx : v.frozen? ⟨gh, k, none⟩ = false := World.ownsRow.frozenAt HO.out k
    obtain ⟨z, hz⟩ : ∃ z, x + y = z := ⟨_, rfl⟩
    obtain ⟨n, hn⟩ : ∃ n, z % 4294967296 = n := ⟨_, rfl⟩
    have a1 : (x : Int) + (y : Int) = (z : Int) := by omega
    have a2 : (z : Int) % 4294967296 = (n : Int) := by omega
    have l1 : z < 22000000000 := by omega
    have HM : Hid (mix Hm s (k + 1) = (mix Hm s k).set k n) := Lib.hid (by rw [mix, hx, hy, hz, hn])
    clear hx hy hz hn
    refine Kn.tail 13 (by kernel_rfl) (by kernel_rfl) rfl rfl ?_
    refine Kn.spure fh3 rfl rfl .none (Kn.ex_move fh3 (.tmp rfl)) fun fa4 fh4 => ?_
    clear fh3 fa3
    refine Kn.spure fh4 rfl rfl .none (Kn.ex_move fh4 (.tmp rfl)) fun fa5 fh5 => ?_
    clear fh4 fa4
    refine Kn.spure fh5 rfl rfl .none (Kn.ex_move fh5 (.tmp rfl)) fun fa6 fh6 => ?_
    clear fh5 fa5
    refine Kn.spure fh6 rfl rfl .none (Kn.ex_move fh6 (.tmp rfl)) fun fa7 fh7 => ?_
    clear fh6 fa6
    refine Kn.sstep fh7 rfl rfl .none (Kn.ex_indexAddr fh7 (.tmp rfl) (.tmp rfl)) fun Ko hKo => ?_
    go_simp
    try go_bits
    refine hKo _ fun fa8 fh8 => ?_
    clear hKo Ko fh7 fa7
    refine Kn.sstep fh8 rfl rfl .none (Kn.ex_load fh8 (.tmp rfl)) fun Ko hKo => ?_
    go_simp
    try go_bits
    refine hKo _ fun fa9 fh9 => ?_
    clear hKo Ko fh8 fa8
    refine Kn.spure fh9 rfl rfl .none (Kn.ex_move fh9 (.tmp rfl)) fun fa10 fh10 => ?_
    clear fh9 fa9
    refine Kn.spure fh10 rfl rfl .none (Kn.ex_move fh10 (.tmp rfl)) fun fa11 fh11 => ?_
    clear fh10 fa10
    refine Kn.sstep fh11 rfl rfl .none (Kn.ex_indexAddr fh11 (.tmp rfl) (.tmp rfl)) fun Ko hKo => ?_
    go_simp
    try go_bits
    refine hKo _ fun fa12 fh12 => ?_
    clear hKo Ko fh11 fa11
    refine Kn.sstep fh12 rfl rfl .none (Kn.ex_load fh12 (.tmp rfl)) fun Ko hKo => ?_
    go_simp
    try go_bits
    refine hKo _ fun fa13 fh13 => ?_
    clear hKo Ko fh12 fa12
    refine Kn.sstep fh13 rfl rfl .none (Kn.ex_bin fh13 (.tmp rfl) (.tmp rfl)) fun Ko hKo => ?_
    go_simp
    try go_bits
    refine hKo _ fun fa14 fh14 => ?_
    clear hKo Ko fh13 fa13
    refine Kn.sstep fh14 rfl rfl .none (Kn.ex_bin fh14 (.tmp rfl) .const) fun Ko hKo => ?_
    go_simp
    try go_bits
    try rw [a2]
    refine hKo _ fun fa15 fh15 => ?_
    clear hKo Ko fh14 fa14
    refine Kn.sstep fh15 rfl rfl .none (Kn.ex_indexAddr fh15 (.tmp rfl) (.tmp rfl)) fun Ko hKo => ?_
    go_simp
    try go_bits
    refine hKo _ fun fa16 fh16 => ?_
    clear hKo Ko fh15 fa15
    refine wpStill_nil ?_
    refine Kn.stepU fh16 rfl .none (Kn.ex_store fh16 (.tmp rfl) (.tmp rfl)) fun Ko hKo => ?_
    go_simp
    try go_bits
    refine hKo _ ?_
    clear hKo Ko
    refine wpList_nil ?_
    refine Kn.block_normal ?_
    refine hK4 _ _ ?_
    clear hK4 K4
    replace fh16 := fh16.cut (.cons (t := 29) rfl (.cons (t := 21) rfl (.cons (t := 13) rfl (.cons (t := 12) rfl (.cons (t := 7) rfl (.cons (t := 1) rfl .nil))))))
    clear cx cy fx a1 a2 l1
    have HO2 := Lib.hid (own_set (w := v.drew) HO.out k n)
    have HB2 := Lib.hid (own_other (w := v.drew) HB.out (k := k) (u := .int .i64 (n : Int)) (Ne.symm hne))
    have HV2 := Lib.hid (rn_other (w := v.drew) HV.out (k := k) (u := .int .i64 (n : Int)) hgv)
    have HL2 := Lib.hid ((below_drew HL.out).setCell (p := ⟨gh, k, none⟩) HO.out.ge (.int .i64 (n : Int)))
    rw [← HM.out] at HO2
    refine wp_region_lit ?_
    refine Kn.pure fh16 rfl rfl .none (Kn.ex_move fh16 (.tmp rfl)) fun fa17 fh17 => ?_
    clear fh16 fa16
    refine Kn.step fh17 rfl rfl .none (Kn.ex_bin fh17 (.tmp rfl) .const) fun Ko hKo => ?_
    go_simp
    try go_bits
    refine hKo _ _ fun fa18 fh18 => ?_
    clear hKo Ko fh17 fa17
    refine Kn.pure fh18 rfl rfl .none (Kn.ex_assign fh18 (.tmp rfl)) fun fa19 fh19 => ?_
    clear fh18 fa18
    refine wpList_nil ?_
    replace fh19 := fh19.cut (.cons (t := 29) rfl (.cons (t := 21) rfl (.cons (t := 13) rfl (.cons (t := 12) rfl (.cons (t := 7) rfl (.cons (t := 1) rfl .nil))))))
    exact hKl1 (m - 1) _ _ (by omega) ⟨k + 1, fh19.cut (.turn (t := 29) rfl (by go_num) (.cons (t := 21) rfl (.cons (t := 13) rfl (.cons (t := 12) rfl (.cons (t := 7) rfl (.cons (t := 1) rfl .nil)))))), by omega, HO2, HB2, HL2, HV2⟩
  · obtain rfl : k = 8 := by omega
    refine wp_seq_k fun K2 hK2 => ?_
    refine wp_seq_k fun K3 hK3 => ?_
    refine wp_region_lit ?_
    refine Kn.pure fh1 rfl rfl .none (Kn.ex_move fh1 (.tmp rfl)) fun fa2 fh2 => ?_
    clear fh1 fa1
    have qd : decide (((8 : Nat) : Int) < 8) = false := decide_eq_false (by omega)
    refine Kn.step fh2 rfl rfl .none (Kn.ex_bin fh2 (.tmp rfl) .const) fun Ko hKo => ?_
    go_simp
    try go_bits
    refine hKo _ _ fun fa3 fh3 => ?_
    clear hKo Ko fh2 fa2
    clear qd
    refine wpList_nil ?_
    refine hK3 _ _ ?_
    clear hK3 K3
    replace fh3 := fh3.cut (.cons (t := 303) rfl (.cons (t := 29) rfl (.cons (t := 21) rfl (.cons (t := 13) rfl (.cons (t := 12) rfl (.cons (t := 7) rfl (.cons (t := 1) rfl .nil)))))))
    refine Kn.no fh3 (.tmp rfl) ?_
    replace fh3 := fh3.cut (.cons (t := 29) rfl (.cons (t := 21) rfl (.cons (t := 13) rfl (.cons (t := 12) rfl (.cons (t := 7) rfl (.cons (t := 1) rfl .nil))))))
    refine wp_exit ?_
    refine Kn.then_exit ?_
    clear hK2 K2
    refine Kn.then_exit ?_
    clear hKl1 Kl1
    refine Kn.block_exit ?_
    replace fh3 := fh3.cut (.cons (t := 13) rfl (.cons (t := 12) rfl (.cons (t := 7) rfl (.cons (t := 1) rfl .nil))))
    exact hQ _ _ fh3 HO.out HB.out HL.out
end Go.Proofs.YteciidnjikcimaaDoor.Sha
