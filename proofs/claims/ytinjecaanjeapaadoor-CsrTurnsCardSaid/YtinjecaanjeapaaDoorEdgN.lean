/- Contracts of the program's edges: Norm (written by gen_norm.py). -/
import Derived.Test.YtinjecaanjeapaaDoorEdgS
import Derived.Test.YtinjecaanjeapaaDoorEdgC
import Derived.Test.YtinjecaanjeapaaDoorCompact
namespace Go.Proofs.YtinjecaanjeapaaDoor.Edg
open Go Go.RowKit Go.Lib


set_option maxRecDepth 100000 in
set_option maxHeartbeats 2000000 in
theorem norm_bad (n p c : Int) (A : Option Addr) (m ca : Nat) (w : World) (hck : Calls Tryd.prog 34 #[.int .i64 n, .slice A m ca] w fun e w' => e = .returned (faultV p c) ∧ Below w.heap.size w w') :
    Calls Tryd.prog 25 #[.int .i64 n, .slice A m ca] w fun e w' => e = .returned (.tuple #[.slice none 0 0, faultV p c]) ∧ Below w.heap.size w w' := by
  unfold faultV at *
  refine Kn.calls Tryd.func25 rfl Tryd.ntmps25 rfl (.cons (t := 0) rfl (.cons (t := 1) rfl .nil)) fun fa0 fh0 => ?_
  refine wp_seq_k fun K1 hK1 => ?_
  refine wp_region_lit ?_
  refine Kn.pure fh0 rfl rfl .none (Kn.ex_assign fh0 .const) fun fa1 fh1 => ?_
  clear fh0 fa0
  refine Kn.pure fh1 rfl rfl .none (Kn.ex_assign fh1 .const) fun fa2 fh2 => ?_
  clear fh1 fa1
  refine wpList_nil ?_
  refine hK1 _ _ ?_
  clear hK1 K1
  refine wp_seq_k fun K2 hK2 => ?_
  refine wp_seq_k fun K3 hK3 => ?_
  refine wp_region_lit ?_
  refine Kn.pure fh2 rfl rfl .none (Kn.ex_move fh2 (.tmp rfl)) fun fa3 fh3 => ?_
  clear fh2 fa2
  refine Kn.pure fh3 rfl rfl .none (Kn.ex_move fh3 (.tmp rfl)) fun fa4 fh4 => ?_
  clear fh3 fa3
  refine Kn.call fh4 rfl rfl .none (Kn.ex_call fh4 (.cons (.tmp rfl) (.cons (.tmp rfl) .nil))) Tryd.call34 (hck) fun e w1 hp => ?_
  obtain ⟨rfl, hb⟩ := hp
  refine ⟨_, rfl, fun fa5 fh5 => ?_⟩
  clear fh4 fa4
  refine Kn.pure fh5 rfl rfl .none (Kn.ex_assign fh5 (.tmp rfl)) fun fa6 fh6 => ?_
  clear fh5 fa5
  refine wpList_nil ?_
  refine hK3 _ _ ?_
  clear hK3 K3
  replace fh6 := fh6.cut (.cons (t := 6) rfl (.cons (t := 5) rfl (.cons (t := 4) rfl (.cons (t := 1) rfl .nil))))
  refine wp_seq_k fun K4 hK4 => ?_
  refine wp_region_lit ?_
  refine Kn.pure fh6 rfl rfl .none (Kn.ex_move fh6 (.tmp rfl)) fun fa7 fh7 => ?_
  clear fh6 fa6
  refine Kn.step fh7 rfl rfl .none (Kn.ex_bin fh7 (.tmp rfl) .const) fun Ko hKo => ?_
  go_simp
  try go_bits
  refine hKo _ _ fun fa8 fh8 => ?_
  clear hKo Ko fh7 fa7
  refine wpList_nil ?_
  refine hK4 _ _ ?_
  clear hK4 K4
  replace fh8 := fh8.cut (.cons (t := 12) rfl (.cons (t := 6) rfl (.cons (t := 5) rfl (.cons (t := 4) rfl (.cons (t := 1) rfl .nil)))))
  refine Kn.yes fh8 (.tmp rfl) ?_
  replace fh8 := fh8.cut (.cons (t := 6) rfl (.cons (t := 5) rfl (.cons (t := 4) rfl (.cons (t := 1) rfl .nil))))
  refine wp_seq_k fun K5 hK5 => ?_
  refine wp_region_lit ?_
  refine Kn.pure fh8 rfl rfl .none (Kn.ex_move fh8 (.tmp rfl)) fun fa9 fh9 => ?_
  clear fh8 fa8
  refine Kn.pure fh9 rfl rfl .none (Kn.ex_assign fh9 .const) fun fa10 fh10 => ?_
  clear fh9 fa9
  refine Kn.pure fh10 rfl rfl .none (Kn.ex_assign fh10 (.tmp rfl)) fun fa11 fh11 => ?_
  clear fh10 fa10
  refine wpList_nil ?_
  refine hK5 _ _ ?_
  clear hK5 K5
  replace fh11 := fh11.cut (.cons (t := 5) rfl (.cons (t := 4) rfl (.cons (t := 1) rfl .nil)))
  refine wp_ret ?_
  refine Kn.then_ret ?_
  exact Kn.ret2 fh11 rfl rfl rfl ⟨rfl, hb⟩

/-- A row of edges that Norm works on. -/
def RowS (w : World) (B : Nat) (A : Option Addr) (n c : Nat) (l : List (Int × Int)) : Prop := n = l.length ∧ n ≤ c ∧ c ≤ maxLen ∧ ((A = none ∧ l = []) ∨ ∃ g, A = some ⟨g, 0, none⟩ ∧ B ≤ g ∧ g < w.heap.size ∧ HoldE w g l)
theorem rowS_of_own {w : World} {B n c : Nat} {A : Option Addr} {l : List (Int × Int)} (h : OwnE w B A n c l) : RowS w B A n c l := by
  have h' := h
  obtain ⟨hn, hl, hr⟩ := h'
  rcases hr with ⟨hv, hz⟩ | ⟨g', cap', cur, hv, hB, hg, hle, hm, hs, ht⟩
  · simp only [Value.slice.injEq] at hv
    obtain ⟨rfl, rfl, rfl⟩ := hv
    exact ⟨hn, Nat.le_refl _, Nat.zero_le _, .inl ⟨rfl, List.eq_nil_of_length_eq_zero hn.symm⟩⟩
  · simp only [Value.slice.injEq] at hv
    obtain ⟨rfl, _, rfl⟩ := hv
    exact ⟨hn, hle, hm, .inr ⟨g', rfl, hB, (Array.getElem?_eq_some_iff.1 hg).1, hold_of_own h⟩⟩
theorem sort_row (B n c : Nat) (A : Option Addr) (l : List (Int × Int)) (w : World) (h : RowS w B A n c l) (hl : l.length ≤ 20000) :
    Calls Tryd.prog 36 #[.slice A n c, .func (.func 37) #[] #[]] w fun e w' => e = .returned (.tuple #[]) ∧ ∃ s, WSrt s ∧ (∀ e, e ∈ s ↔ e ∈ l) ∧ s.length ≤ 20000 ∧ RowS w' B A n c s ∧ Below B w w' := by
  obtain ⟨rfl, hnc, hcm, ⟨rfl, rfl⟩ | ⟨g, rfl, hB, hg, hH⟩⟩ := h
  · exact (AnyF.slices_SortFunc_none Tryd.laySort none c _ w).mono fun e w' ⟨he, hw⟩ => ⟨he, [], fun i j _ hj => absurd hj (by simp), fun e => Iff.rfl, by simp, by subst hw; exact ⟨rfl, hnc, hcm, .inl ⟨rfl, rfl⟩⟩, by subst hw; exact Below.refl _ _⟩
  · refine (sort_any g c l w hH hg hl).mono fun e w' hp => ?_
    obtain ⟨he, s, hs1, hs2, hs3, hs4, hs5, hs6⟩ := hp
    exact ⟨he, s, hs2, hs3, by omega, ⟨hs1.symm, hnc, hcm, .inr ⟨g, rfl, hB, hs6, hs4⟩⟩, hs5.mono hB⟩
theorem compact_row (B n c : Nat) (A : Option Addr) (l : List (Int × Int)) (w : World) (h : RowS w B A n c l) (hl : l.length ≤ 20000) :
    Calls Tryd.prog 38 #[.slice A n c] w fun e w' => ∃ n' c', n' = (ddk l l.length).length ∧ e = .returned (.slice A n' c') ∧ EIn w' A (ddk l l.length) ∧ Below B w w' := by
  obtain ⟨rfl, hnc, hcm, hr⟩ := h
  have hE : EIn w A l := by
    rcases hr with ⟨rfl, rfl⟩ | ⟨g, rfl, hB, hg, hH⟩
    · exact EIn.nil _ _
    · exact hH.ein
  rcases Nat.lt_or_ge l.length 2 with h2 | h2
  · have hd : ddk l l.length = l := by
      rcases (show l.length = 0 ∨ l.length = 1 by omega) with h0 | h0
      · rw [h0, List.eq_nil_of_length_eq_zero h0]; rfl
      · rw [h0, ddk_one l (by omega), List.take_of_length_le (by omega)]
    exact (compact_few A l.length c w (by omega) h2).mono fun e w' ⟨he, hw⟩ => ⟨l.length, c, by rw [hd], he, by rw [hd, ← hw]; exact hE, by rw [← hw]; exact Below.refl _ _⟩
  · rcases hr with ⟨rfl, rfl⟩ | ⟨g, rfl, hB, hg, hH⟩
    · simp at h2
    · refine (compact_any g l.length c l w rfl h2 hnc hcm hH hl).mono fun e w' hp => ?_
      obtain ⟨n', c', h1, h3, h4, h5⟩ := hp
      exact ⟨n', c', h1, h3, h4.ein, h5.mono hB⟩

set_option maxRecDepth 100000 in
set_option maxHeartbeats 2000000 in
theorem norm_ok (n : Int) (A : Option Addr) (ca : Nat) (xs : List (Int × Int)) (w : World) (hx : xs.length ≤ 20000) (hA : EIn w A xs) (hck : Calls Tryd.prog 34 #[.int .i64 n, .slice A xs.length ca] w fun e w' => e = .returned .nilIface ∧ Below w.heap.size w w') :
    Calls Tryd.prog 25 #[.int .i64 n, .slice A xs.length ca] w fun e w' => ∃ A' n' c' ys, e = .returned (.tuple #[.slice A' n' c', .nilIface]) ∧ n' = ys.length ∧ NormOf xs ys ∧ EIn w' A' ys ∧ Below w.heap.size w w' := by
  refine Kn.calls Tryd.func25 rfl Tryd.ntmps25 rfl (.cons (t := 0) rfl (.cons (t := 1) rfl .nil)) fun fa0 fh0 => ?_
  refine wp_seq_k fun K1 hK1 => ?_
  refine wp_region_lit ?_
  refine Kn.pure fh0 rfl rfl .none (Kn.ex_assign fh0 .const) fun fa1 fh1 => ?_
  clear fh0 fa0
  refine Kn.pure fh1 rfl rfl .none (Kn.ex_assign fh1 .const) fun fa2 fh2 => ?_
  clear fh1 fa1
  refine wpList_nil ?_
  refine hK1 _ _ ?_
  clear hK1 K1
  refine wp_seq_k fun K2 hK2 => ?_
  refine wp_seq_k fun K3 hK3 => ?_
  refine wp_region_lit ?_
  refine Kn.pure fh2 rfl rfl .none (Kn.ex_move fh2 (.tmp rfl)) fun fa3 fh3 => ?_
  clear fh2 fa2
  refine Kn.pure fh3 rfl rfl .none (Kn.ex_move fh3 (.tmp rfl)) fun fa4 fh4 => ?_
  clear fh3 fa3
  refine Kn.call fh4 rfl rfl .none (Kn.ex_call fh4 (.cons (.tmp rfl) (.cons (.tmp rfl) .nil))) Tryd.call34 (hck) fun e w1 hp => ?_
  obtain ⟨rfl, hb1⟩ := hp
  refine ⟨_, rfl, fun fa5 fh5 => ?_⟩
  clear fh4 fa4
  refine Kn.pure fh5 rfl rfl .none (Kn.ex_assign fh5 (.tmp rfl)) fun fa6 fh6 => ?_
  clear fh5 fa5
  refine wpList_nil ?_
  refine hK3 _ _ ?_
  clear hK3 K3
  replace fh6 := fh6.cut (.cons (t := 6) rfl (.cons (t := 5) rfl (.cons (t := 4) rfl (.cons (t := 1) rfl .nil))))
  refine wp_seq_k fun K4 hK4 => ?_
  refine wp_region_lit ?_
  refine Kn.pure fh6 rfl rfl .none (Kn.ex_move fh6 (.tmp rfl)) fun fa7 fh7 => ?_
  clear fh6 fa6
  refine Kn.step fh7 rfl rfl .none (Kn.ex_bin fh7 (.tmp rfl) .const) fun Ko hKo => ?_
  go_simp
  try go_bits
  refine hKo _ _ fun fa8 fh8 => ?_
  clear hKo Ko fh7 fa7
  refine wpList_nil ?_
  refine hK4 _ _ ?_
  clear hK4 K4
  replace fh8 := fh8.cut (.cons (t := 12) rfl (.cons (t := 6) rfl (.cons (t := 5) rfl (.cons (t := 4) rfl (.cons (t := 1) rfl .nil)))))
  refine Kn.no fh8 (.tmp rfl) ?_
  refine wp_skip ?_
  refine hK2 _ _ ?_
  clear hK2 K2
  replace fh8 := fh8.cut (.cons (t := 5) rfl (.cons (t := 4) rfl (.cons (t := 1) rfl .nil)))
  have HA1 := Lib.hid (hA.on hb1)
  have HB1 := Lib.hid hb1
  clear hA hb1 hck
  refine wp_seq_k fun K5 hK5 => ?_
  refine wp_region_lit ?_
  refine Kn.pure fh8 rfl rfl .none (Kn.ex_move fh8 (.tmp rfl)) fun fa9 fh9 => ?_
  clear fh8 fa8
  refine Kn.call fh9 rfl rfl .none (Kn.ex_call fh9 (.cons (.tmp rfl) .nil)) Tryd.call35 (clone_any A ca xs w1 hx HA1.out) fun e w2 hp => ?_
  obtain ⟨A', n', c', rfl, hO, hb2⟩ := hp
  refine ⟨_, rfl, fun fa10 fh10 => ?_⟩
  clear fh9 fa9
  refine Kn.pure fh10 rfl rfl .none (Kn.ex_assign fh10 (.tmp rfl)) fun fa11 fh11 => ?_
  clear fh10 fa10
  refine wpList_nil ?_
  refine hK5 _ _ ?_
  clear hK5 K5
  replace fh11 := fh11.cut (.cons (t := 7) rfl (.cons (t := 5) rfl (.cons (t := 4) rfl .nil)))
  have HR2 := Lib.hid (rowS_of_own hO)
  have HB2 := Lib.hid hb2
  clear hO hb2
  refine wp_seq_k fun K6 hK6 => ?_
  refine wp_region_lit ?_
  refine Kn.pure fh11 rfl rfl .none (Kn.ex_move fh11 (.tmp rfl)) fun fa12 fh12 => ?_
  clear fh11 fa11
  refine Kn.call fh12 rfl rfl .none (Kn.ex_call fh12 (.cons (.tmp rfl) (.cons .func .nil))) Tryd.call36 (sort_row w1.heap.size n' c' A' xs w2 HR2.out hx) fun e w3 hp => ?_
  obtain ⟨rfl, s, hs1, hs2, hs3, hR3, hb3⟩ := hp
  refine ⟨_, rfl, fun fa13 fh13 => ?_⟩
  clear fh12 fa12
  refine wpList_nil ?_
  refine hK6 _ _ ?_
  clear hK6 K6
  replace fh13 := fh13.cut (.cons (t := 7) rfl (.cons (t := 5) rfl (.cons (t := 4) rfl .nil)))
  have HR3 := Lib.hid hR3
  have HS := Lib.hid (And.intro hs1 hs2)
  have HB3 := Lib.hid hb3
  clear hR3 hs1 hs2 hb3
  refine wp_seq_k fun K7 hK7 => ?_
  refine wp_region_lit ?_
  refine Kn.pure fh13 rfl rfl .none (Kn.ex_move fh13 (.tmp rfl)) fun fa14 fh14 => ?_
  clear fh13 fa13
  refine Kn.call fh14 rfl rfl .none (Kn.ex_call fh14 (.cons (.tmp rfl) .nil)) Tryd.call38 (compact_row w1.heap.size n' c' A' s w3 HR3.out hs3) fun e w4 hp => ?_
  obtain ⟨n2, c2, hn2, rfl, hE4, hb4⟩ := hp
  refine ⟨_, rfl, fun fa15 fh15 => ?_⟩
  clear fh14 fa14
  refine Kn.pure fh15 rfl rfl .none (Kn.ex_assign fh15 (.tmp rfl)) fun fa16 fh16 => ?_
  clear fh15 fa15
  refine Kn.pure fh16 rfl rfl .none (Kn.ex_assign fh16 .const) fun fa17 fh17 => ?_
  clear fh16 fa16
  refine wpList_nil ?_
  refine hK7 _ _ ?_
  clear hK7 K7
  replace fh17 := fh17.cut (.cons (t := 5) rfl (.cons (t := 4) rfl .nil))
  refine wp_ret ?_
  exact Kn.ret2 fh17 rfl rfl rfl ⟨_, _, _, _, rfl, hn2, ddk_norm s xs HS.out.1 HS.out.2, hE4, HB1.out.trans (((HB2.out.trans HB3.out).trans hb4).mono HB1.out.size)⟩

end Go.Proofs.YtinjecaanjeapaaDoor.Edg
