/- The law CsrApart, walked (written by gen_capart.py). -/
import Derived.Test.YtinjecaanjeapaaCsrW
import Derived.Test.YtinjecaanjeapaaEdgP
namespace Go.Proofs.Ytinjecaanjeapaa.Csr
open Go Go.RowKit Go.Lib Edg Num

theorem heap_setCells_other (g b : Nat) (hb : b ≠ g) : ∀ (vs : List Value) (o : Nat) (w : World), (w.setCells g o vs).heap[b]? = w.heap[b]?
  | [], _, _ => rfl
  | v :: vs, o, w => by
    rw [World.setCells, heap_setCells_other g b hb vs]
    exact heap_setCell_other w _ b v hb
theorem size_setCells (g : Nat) : ∀ (vs : List Value) (o : Nat) (w : World), (w.setCells g o vs).heap.size = w.heap.size
  | [], _, _ => rfl
  | v :: vs, o, w => by
    rw [World.setCells, size_setCells g vs]
    simp [World.setCell]
/-- An edge is stored into a row: no other block is turned. -/
theorem storeE {w : World} {g : Nat} {l : List (Int × Int)} (h : HoldE w g l) (k : Nat) (hk : k < l.length) (a b : Int) :
    ∃ w', (Instr.storeAt 32 (.pointer (some ⟨g, k * 2, none⟩)) (.agg #[.int .i64 a, .int .i64 b])).run Try.prog w = .ok () w' ∧ HoldE w' g (l.set k (a, b)) ∧ (∀ B, B ≤ g → Below B w w') ∧ (∀ c, c ≠ g → w'.heap[c]? = w.heap[c]?) ∧ w'.heap.size = w.heap.size := by
  obtain ⟨w', hr, h1, h2, -⟩ := h.store k hk a b
  obtain ⟨⟨c1, c2⟩, f1, f2⟩ := h k hk
  have ht : w.there g (k * 2) 2 := fun j hj => by
    rcases (show j = 0 ∨ j = 1 by omega) with rfl | rfl
    · exact ⟨by rw [Nat.add_zero, c1]; rfl, f1⟩
    · exact ⟨by rw [c2]; rfl, f2⟩
  have hr2 := run_storeAt_mid (P := Try.prog) w g (k * 2) 32 #[.int .i64 a, .int .i64 b] ht (by kernel_rfl) (by simp [Value.oneCell'])
  have e := hr.symm.trans hr2
  injection e with _ e
  refine ⟨w', hr, h1, h2, fun c hc => ?_, ?_⟩
  · rw [e]; exact heap_setCells_other g c hc _ _ _
  · rw [e]; exact size_setCells g _ _ _
/-- A row between two bounds that may be written to. -/
def OwnRow (lo hi : Nat) (A : Option Addr) (l : List (Int × Int)) (u : World) : Prop := (A = none ∧ l = []) ∨ ∃ g, A = some ⟨g, 0, none⟩ ∧ lo ≤ g ∧ g < hi ∧ HoldE u g l
theorem ein_up {w w' : World} {B gl : Nat} {l : List (Int × Int)} (h : EIn w (some ⟨gl, 0, none⟩) l) (hB : B ≤ gl) (hs : w.heap.size ≤ w'.heap.size) (hb : ∀ b, B ≤ b → b < w.heap.size → w'.heap[b]? = w.heap[b]?) : EIn w' (some ⟨gl, 0, none⟩) l := fun i hi => by
  obtain ⟨b, o, e, hlt, h1, h2⟩ := h i hi
  cases e
  have hc := hb gl hB hlt
  exact ⟨gl, 0, rfl, by omega, by simp only [World.cell?, hc]; exact h1, by simp only [World.cell?, hc]; exact h2⟩

set_option maxRecDepth 100000 in
set_option maxHeartbeats 2000000 in
theorem apart_all (n : Int) (A : Option Addr) (ca : Nat) (xs : List (Int × Int)) (w : World) (hx : xs.length ≤ maxLen) (hA : EIn w A xs) :
    Calls Try.prog 3 #[.int .i64 n, .slice A xs.length ca] w fun e w' => e = .returned (.bool true) ∧ Below w.heap.size w w' := by
  unfold maxLen at hx
  refine Kn.calls Try.func3 rfl Try.ntmps3 rfl (.cons (t := 0) rfl (.cons (t := 1) rfl .nil)) fun fa0 fh0 => ?_
  refine wp_seq_k fun K1 hK1 => ?_
  refine wp_region_lit ?_
  refine Kn.pure fh0 rfl rfl .none (Kn.ex_assign fh0 .const) fun fa1 fh1 => ?_
  clear fh0 fa0
  refine wpList_nil ?_
  refine hK1 _ _ ?_
  clear hK1 K1
  refine wp_seq_k fun K2 hK2 => ?_
  refine wp_seq_k fun K3 hK3 => ?_
  refine wp_region_lit ?_
  refine Kn.call fh1 rfl rfl .none (Kn.ex_call fh1 .nil) Try.call5 (awake5 w) fun e w1 hp => ?_
  obtain ⟨rfl, hb1⟩ := hp
  refine ⟨_, rfl, fun fa2 fh2 => ?_⟩
  clear fh1 fa1
  refine Kn.step fh2 rfl rfl .none (Kn.ex_un fh2 (.tmp rfl)) fun Ko hKo => ?_
  go_simp
  try go_bits
  refine hKo _ _ fun fa3 fh3 => ?_
  clear hKo Ko fh2 fa2
  refine wpList_nil ?_
  refine hK3 _ _ ?_
  clear hK3 K3
  replace fh3 := fh3.cut (.cons (t := 17) rfl (.cons (t := 4) rfl (.cons (t := 0) rfl (.cons (t := 1) rfl .nil))))
  refine Kn.no fh3 (.tmp rfl) ?_
  refine wp_skip ?_
  refine hK2 _ _ ?_
  clear hK2 K2
  replace fh3 := fh3.cut (.cons (t := 4) rfl (.cons (t := 0) rfl (.cons (t := 1) rfl .nil)))
  have HA1 := Lib.hid (hA.on hb1)
  have HB1 := Lib.hid hb1
  clear hA hb1
  by_cases h1 : (200 : Int) < (xs.length : Int)
  · refine wp_seq_k fun K4 hK4 => ?_
    refine wp_seq_k fun K5 hK5 => ?_
    refine wp_region_lit ?_
    refine Kn.pure fh3 rfl rfl .none (Kn.ex_move fh3 (.tmp rfl)) fun fa4 fh4 => ?_
    clear fh3 fa3
    refine Kn.step fh4 rfl rfl .none (Kn.ex_len fh4 (.tmp rfl)) fun Ko hKo => ?_
    go_simp
    try go_bits
    refine hKo _ _ fun fa5 fh5 => ?_
    clear hKo Ko fh4 fa4
    refine Kn.step fh5 rfl rfl .none (Kn.ex_bin fh5 (.tmp rfl) .const) fun Ko hKo => ?_
    go_simp
    try go_bits
    refine hKo _ _ fun fa6 fh6 => ?_
    clear hKo Ko fh5 fa5
    refine wpList_nil ?_
    refine hK5 _ _ ?_
    clear hK5 K5
    replace fh6 := fh6.cut (.cons (t := 20) rfl (.cons (t := 4) rfl (.cons (t := 0) rfl (.cons (t := 1) rfl .nil))))
    refine Kn.yes fh6 (.tmp rfl) ?_
    replace fh6 := fh6.cut (.cons (t := 4) rfl (.cons (t := 0) rfl (.cons (t := 1) rfl .nil)))
    refine wp_seq_k fun K6 hK6 => ?_
    refine wp_region_lit ?_
    refine Kn.pure fh6 rfl rfl .none (Kn.ex_assign fh6 .const) fun fa7 fh7 => ?_
    clear fh6 fa6
    refine wpList_nil ?_
    refine hK6 _ _ ?_
    clear hK6 K6
    refine wp_ret ?_
    refine Kn.then_ret ?_
    exact Kn.ret1 fh7 rfl rfl ⟨rfl, HB1.out⟩
  refine wp_seq_k fun K4 hK4 => ?_
  refine wp_seq_k fun K5 hK5 => ?_
  refine wp_region_lit ?_
  refine Kn.pure fh3 rfl rfl .none (Kn.ex_move fh3 (.tmp rfl)) fun fa4 fh4 => ?_
  clear fh3 fa3
  refine Kn.step fh4 rfl rfl .none (Kn.ex_len fh4 (.tmp rfl)) fun Ko hKo => ?_
  go_simp
  try go_bits
  refine hKo _ _ fun fa5 fh5 => ?_
  clear hKo Ko fh4 fa4
  refine Kn.step fh5 rfl rfl .none (Kn.ex_bin fh5 (.tmp rfl) .const) fun Ko hKo => ?_
  go_simp
  try go_bits
  refine hKo _ _ fun fa6 fh6 => ?_
  clear hKo Ko fh5 fa5
  refine wpList_nil ?_
  refine hK5 _ _ ?_
  clear hK5 K5
  replace fh6 := fh6.cut (.cons (t := 20) rfl (.cons (t := 4) rfl (.cons (t := 0) rfl (.cons (t := 1) rfl .nil))))
  refine Kn.no fh6 (.tmp rfl) ?_
  refine wp_skip ?_
  refine hK4 _ _ ?_
  clear hK4 K4
  replace fh6 := fh6.cut (.cons (t := 4) rfl (.cons (t := 0) rfl (.cons (t := 1) rfl .nil)))
  have hxs : xs.length ≤ 200 := by omega
  clear h1 hx
  have hal : Below w1.heap.size w1 (w1.alloc (.cells #[] 32)) := (Below.refl _ w1).alloc (Nat.le_refl _) _
  obtain ⟨A0, cap0, w2, hrun, hO2, hb2⟩ := pushAny w1 (w1.alloc (.cells #[] 32)) 22 (some ⟨w1.heap.size, 0, none⟩) 0 0 [] A ca xs (OwnE.new w1 _ (Nat.le_refl _)) (HA1.out.on hal) hal (by omega)
  rw [List.nil_append] at hrun hO2
  refine wp_seq_k fun K6 hK6 => ?_
  refine wp_region_lit ?_
  refine Kn.step fh6 rfl rfl .none (Kn.ex_buildSlice fh6 .nil) fun Ko hKo => ?_
  go_simp
  try go_bits
  refine hKo _ _ fun fa7 fh7 => ?_
  clear hKo Ko fh6 fa6
  refine Kn.pure fh7 rfl rfl .none (Kn.ex_move fh7 (.tmp rfl)) fun fa8 fh8 => ?_
  clear fh7 fa7
  refine Kn.known fh8 rfl rfl .none (Kn.ex_append fh8 (.cons (.tmp rfl) (.cons (.tmp rfl) .nil))) hrun fun fa9 fh9 => ?_
  clear fh8 fa8
  refine Kn.pure fh9 rfl rfl .none (Kn.ex_assign fh9 (.tmp rfl)) fun fa10 fh10 => ?_
  clear fh9 fa9
  refine wpList_nil ?_
  refine hK6 _ _ ?_
  clear hK6 K6
  replace fh10 := fh10.cut (.cons (t := 5) rfl (.cons (t := 4) rfl (.cons (t := 0) rfl (.cons (t := 1) rfl .nil))))
  have HA2 := Lib.hid (HA1.out.on hb2)
  have HB2 := Lib.hid (HB1.out.trans (hb2.mono HB1.out.size))
  have hE2 := hO2.ein
  have HO2 : Hid (OwnRow w1.heap.size w2.heap.size A0 xs w2) := Lib.hid (by
    obtain ⟨-, -, -, hr⟩ := rowS_of_own hO2
    rcases hr with ⟨h1, h2⟩ | ⟨g, h1, h2, h3, h4⟩
    · exact .inl ⟨h1, h2⟩
    · exact .inr ⟨g, h1, h2, h3, h4⟩)
  have hs01 := HB1.out.size
  have hs12 := hb2.size
  clear hrun hal hb2 hO2 HA1 HB1
  by_cases hg : Edg.Good n xs
  · obtain ⟨N, rfl⟩ := Int.eq_ofNat_of_zero_le hg.lo
    have hbu := build_yes N A0 cap0 xs w2 hE2 hg
    refine wp_seq_k fun K7 hK7 => ?_
    refine wp_region_lit ?_
    refine Kn.pure fh10 rfl rfl .none (Kn.ex_move fh10 (.tmp rfl)) fun fa11 fh11 => ?_
    clear fh10 fa10
    refine Kn.pure fh11 rfl rfl .none (Kn.ex_move fh11 (.tmp rfl)) fun fa12 fh12 => ?_
    clear fh11 fa11
    refine Kn.call fh12 rfl rfl .none (Kn.ex_call fh12 (.cons (.tmp rfl) (.cons (.tmp rfl) .nil))) Try.call6 (hbu) fun e w3 hp => ?_
    obtain ⟨g, ys, rfl, hNo, hR, hb3⟩ := hp
    refine ⟨_, rfl, fun fa13 fh13 => ?_⟩
    clear fh12 fa12
    refine Kn.pure fh13 rfl rfl .none (Kn.ex_move fh13 (.tmp rfl)) fun fa14 fh14 => ?_
    clear fh13 fa13
    refine Kn.pure fh14 rfl rfl .none (Kn.ex_extract fh14 (.tmp rfl) rfl) fun fa15 fh15 => ?_
    clear fh14 fa14
    refine Kn.pure fh15 rfl rfl .none (Kn.ex_extract fh15 (.tmp rfl) rfl) fun fa16 fh16 => ?_
    clear fh15 fa15
    refine Kn.pure fh16 rfl rfl .none (Kn.ex_assign fh16 (.tmp rfl)) fun fa17 fh17 => ?_
    clear fh16 fa16
    refine Kn.pure fh17 rfl rfl .none (Kn.ex_assign fh17 (.tmp rfl)) fun fa18 fh18 => ?_
    clear fh17 fa17
    refine wpList_nil ?_
    refine hK7 _ _ ?_
    clear hK7 K7
    replace fh18 := fh18.cut (.cons (t := 7) rfl (.cons (t := 6) rfl (.cons (t := 5) rfl (.cons (t := 4) rfl (.cons (t := 0) rfl (.cons (t := 1) rfl .nil))))))
    have hN4 := hR.hi
    have hL4 := hR.len
    have HR3 := Lib.hid hR
    have HB3 := Lib.hid (HB2.out.trans (hb3.mono HB2.out.size))
    have HO3 : Hid (OwnRow w1.heap.size w2.heap.size A0 xs w3) := Lib.hid (by
      rcases HO2.out with h | ⟨g, h1, h2, h3, h4⟩
      · exact .inl h
      · exact .inr ⟨g, h1, h2, h3, h4.on hb3⟩)
    have hs23 := hb3.size
    have hli := list_any w3 _ g N ys hR
    clear hR hb3 HO2 HB2 HA2 hg hbu hE2 hNo
    refine wp_seq_k fun K8 hK8 => ?_
    refine wp_seq_k fun K9 hK9 => ?_
    refine wp_region_lit ?_
    refine Kn.pure fh18 rfl rfl .none (Kn.ex_move fh18 (.tmp rfl)) fun fa19 fh19 => ?_
    clear fh18 fa18
    refine Kn.step fh19 rfl rfl .none (Kn.ex_bin fh19 (.tmp rfl) .const) fun Ko hKo => ?_
    go_simp
    try go_bits
    refine hKo _ _ fun fa20 fh20 => ?_
    clear hKo Ko fh19 fa19
    refine wpList_nil ?_
    refine hK9 _ _ ?_
    clear hK9 K9
    replace fh20 := fh20.cut (.cons (t := 31) rfl (.cons (t := 6) rfl (.cons (t := 5) rfl (.cons (t := 4) rfl (.cons (t := 0) rfl (.cons (t := 1) rfl .nil))))))
    refine Kn.no fh20 (.tmp rfl) ?_
    refine wp_skip ?_
    refine hK8 _ _ ?_
    clear hK8 K8
    replace fh20 := fh20.cut (.cons (t := 6) rfl (.cons (t := 5) rfl (.cons (t := 4) rfl (.cons (t := 0) rfl .nil))))
    refine wp_seq_k fun K10 hK10 => ?_
    refine wp_region_lit ?_
    refine Kn.pure fh20 rfl rfl .none (Kn.ex_move fh20 (.tmp rfl)) fun fa21 fh21 => ?_
    clear fh20 fa20
    refine Kn.call fh21 rfl rfl .none (Kn.ex_call fh21 (.cons (.tmp rfl) .nil)) Try.call8 (hli) fun e w4 hp => ?_
    obtain ⟨gl, nl, cl, rfl, hO4, hb4⟩ := hp
    refine ⟨_, rfl, fun fa22 fh22 => ?_⟩
    clear fh21 fa21
    refine Kn.pure fh22 rfl rfl .none (Kn.ex_assign fh22 (.tmp rfl)) fun fa23 fh23 => ?_
    clear fh22 fa22
    refine wpList_nil ?_
    refine hK10 _ _ ?_
    clear hK10 K10
    replace fh23 := fh23.cut (.cons (t := 8) rfl (.cons (t := 6) rfl (.cons (t := 5) rfl (.cons (t := 4) rfl (.cons (t := 0) rfl .nil)))))
    have hnl := hO4.1
    subst hnl
    have hgl := hO4.ge
    have HR4 := Lib.hid (HR3.out.on hb4)
    have HB4 := Lib.hid (HB3.out.trans (hb4.mono HB3.out.size))
    have HE4 := Lib.hid hO4.ein
    have HO4 : Hid (OwnRow w1.heap.size w2.heap.size A0 xs w4) := Lib.hid (by
      rcases HO3.out with h | ⟨g, h1, h2, h3, h4⟩
      · exact .inl h
      · exact .inr ⟨g, h1, h2, h3, h4.on hb4⟩)
    have hs34 := hb4.size
    have hw12 : w.heap.size ≤ w1.heap.size := hs01
    clear hO4 hb4 HR3 HB3 HO3 hli
    refine wp_seq_k fun K11 hK11 => ?_
    refine wp_seq_k fun K12 hK12 => ?_
    refine wp_region_lit ?_
    refine Kn.pure fh23 rfl rfl .none (Kn.ex_move fh23 (.tmp rfl)) fun fa24 fh24 => ?_
    clear fh23 fa23
    refine Kn.step fh24 rfl rfl .none (Kn.ex_len fh24 (.tmp rfl)) fun Ko hKo => ?_
    go_simp
    try go_bits
    refine hKo _ _ fun fa25 fh25 => ?_
    clear hKo Ko fh24 fa24
    refine Kn.pure fh25 rfl rfl .none (Kn.ex_move fh25 .const) fun fa26 fh26 => ?_
    clear fh25 fa25
    refine wpList_nil ?_
    refine hK12 _ _ ?_
    clear hK12 K12
    replace fh26 := fh26.cut (.cons (t := 39) rfl (.cons (t := 38) rfl (.cons (t := 8) rfl (.cons (t := 6) rfl (.cons (t := 5) rfl (.cons (t := 4) rfl (.cons (t := 0) rfl .nil)))))))
    refine wp_block ?_
    refine Kn.loop (fun m fr u => ∃ (k : Nat), Kn.Kn 83 [(39, .int .i64 (k : Int)), (38, .int .i64 (xs.length : Int)), (5, .slice A0 xs.length cap0), (6, .pointer (some ⟨g, 0, none⟩)), (8, .slice (some ⟨gl, 0, none⟩) ys.length cl), (0, .int .i64 (N : Int))] fr ∧ k + m = xs.length ∧ Hid (∃ l, l.length = xs.length ∧ OwnRow w1.heap.size w2.heap.size A0 l u) ∧ Hid (Rep u w2.heap.size g N ys) ∧ Hid (EIn u (some ⟨gl, 0, none⟩) ys) ∧ Hid (Below w.heap.size w u)) xs.length ⟨0, fh26.cut (.turn (t := 39) rfl rfl (.cons (t := 38) rfl (.cons (t := 5) rfl (.cons (t := 6) rfl (.cons (t := 8) rfl (.cons (t := 0) rfl .nil)))))), by omega, Lib.hid ⟨xs, rfl, HO4.out⟩, HR4, HE4, HB4⟩ ?_
    clear fh26 fa26
    intro m13 fa27 u hI Kl13 hKl13
    obtain ⟨k, fh27, hk, HO, HR, HE, HB⟩ := hI
    by_cases hlt : k < xs.length
    · obtain ⟨l, hl, hO⟩ := HO.out
      rcases hO with ⟨-, h0⟩ | ⟨g0, h1, h2, h3, h4⟩
      · rw [h0] at hl; simp at hl; omega
      subst h1
      obtain ⟨u2, hst, hH, hBl, hot, hsz⟩ := storeE h4 k (by omega) 0 0
      have HO2 : Hid (∃ l, l.length = xs.length ∧ OwnRow w1.heap.size w2.heap.size (some ⟨g0, 0, none⟩) l u2) := Lib.hid ⟨_, by rw [List.length_set]; exact hl, .inr ⟨g0, rfl, h2, h3, hH⟩⟩
      have HR2 := Lib.hid (HR.out.up (Nat.le_of_eq hsz.symm) (fun b hb _ => hot b (by omega)))
      have HE2 := Lib.hid (ein_up (B := w2.heap.size) HE.out (by omega) (Nat.le_of_eq hsz.symm) (fun b hb _ => hot b (by omega)))
      have HB2 := Lib.hid (HB.out.trans (hBl _ (by omega)))
      clear hl h2 h3 h4 hH hBl hot hsz
      refine wp_seq_k fun K14 hK14 => ?_
      refine wp_region_lit ?_
      refine Kn.step fh27 rfl rfl .none (Kn.ex_bin fh27 (.tmp rfl) (.tmp rfl)) fun Ko hKo => ?_
      go_simp
      try go_bits
      refine hKo _ _ fun fa28 fh28 => ?_
      clear hKo Ko fh27 fa27
      refine wpList_nil ?_
      refine hK14 _ _ ?_
      clear hK14 K14
      refine wp_seq_k fun K15 hK15 => ?_
      refine Kn.yes fh28 (.tmp rfl) ?_
      refine wp_skip ?_
      refine hK15 _ _ ?_
      clear hK15 K15
      replace fh28 := fh28.cut (.cons (t := 39) rfl (.cons (t := 38) rfl (.cons (t := 5) rfl (.cons (t := 6) rfl (.cons (t := 8) rfl (.cons (t := 0) rfl .nil))))))
      refine wp_seq_k fun K16 hK16 => ?_
      refine wp_block ?_
      refine wp_seq_k fun K17 hK17 => ?_
      refine wp_region_lit ?_
      refine Kn.pure fh28 rfl rfl .none (Kn.ex_move fh28 (.tmp rfl)) fun fa29 fh29 => ?_
      clear fh28 fa28
      refine Kn.pure fh29 rfl rfl .none (Kn.ex_assign fh29 (.tmp rfl)) fun fa30 fh30 => ?_
      clear fh29 fa29
      refine wpList_nil ?_
      refine hK17 _ _ ?_
      clear hK17 K17
      replace fh30 := fh30.cut (.cons (t := 9) rfl (.cons (t := 39) rfl (.cons (t := 38) rfl (.cons (t := 5) rfl (.cons (t := 6) rfl (.cons (t := 8) rfl (.cons (t := 0) rfl .nil)))))))
      refine wp_region_lit ?_
      refine Kn.pure fh30 rfl rfl .none (Kn.ex_move fh30 (.tmp rfl)) fun fa31 fh31 => ?_
      clear fh30 fa30
      refine Kn.pure fh31 rfl rfl .none (Kn.ex_move fh31 (.tmp rfl)) fun fa32 fh32 => ?_
      clear fh31 fa31
      refine Kn.step fh32 rfl rfl .none (Kn.ex_build fh32 .nil) fun Ko hKo => ?_
      go_simp
      try go_bits
      refine hKo _ _ fun fa33 fh33 => ?_
      clear hKo Ko fh32 fa32
      refine Kn.step fh33 rfl rfl .none (Kn.ex_indexAddr fh33 (.tmp rfl) (.tmp rfl)) fun Ko hKo => ?_
      go_simp
      try go_bits
      refine hKo _ _ fun fa34 fh34 => ?_
      clear hKo Ko fh33 fa33
      refine Kn.stepU fh34 rfl .none (Kn.ex_store fh34 (.tmp rfl) (.tmp rfl)) fun Ko hKo => ?_
      rw [hst]
      refine hKo _ ?_
      clear hKo Ko
      refine wpList_nil ?_
      refine Kn.block_normal ?_
      refine hK16 _ _ ?_
      clear hK16 K16
      replace fh34 := fh34.cut (.cons (t := 39) rfl (.cons (t := 38) rfl (.cons (t := 5) rfl (.cons (t := 6) rfl (.cons (t := 8) rfl (.cons (t := 0) rfl .nil))))))
      clear hst
      refine wp_region_lit ?_
      refine Kn.step fh34 rfl rfl .none (Kn.ex_bin fh34 (.tmp rfl) .const) fun Ko hKo => ?_
      go_simp
      try go_bits
      refine hKo _ _ fun fa35 fh35 => ?_
      clear hKo Ko fh34 fa34
      refine Kn.pure fh35 rfl rfl .none (Kn.ex_move fh35 (.tmp rfl)) fun fa36 fh36 => ?_
      clear fh35 fa35
      refine wpList_nil ?_
      replace fh36 := fh36.cut (.cons (t := 39) rfl (.cons (t := 38) rfl (.cons (t := 5) rfl (.cons (t := 6) rfl (.cons (t := 8) rfl (.cons (t := 0) rfl .nil))))))
      exact hKl13 (m13 - 1) _ _ (by omega) ⟨k + 1, fh36.cut (.turn (t := 39) rfl (by go_num) (.cons (t := 38) rfl (.cons (t := 5) rfl (.cons (t := 6) rfl (.cons (t := 8) rfl (.cons (t := 0) rfl .nil)))))), by omega, HO2, HR2, HE2, HB2⟩
    · clear HO HR4 HE4 HB4 HO4
      refine wp_seq_k fun K14 hK14 => ?_
      refine wp_region_lit ?_
      refine Kn.step fh27 rfl rfl .none (Kn.ex_bin fh27 (.tmp rfl) (.tmp rfl)) fun Ko hKo => ?_
      go_simp
      try go_bits
      refine hKo _ _ fun fa28 fh28 => ?_
      clear hKo Ko fh27 fa27
      refine wpList_nil ?_
      refine hK14 _ _ ?_
      clear hK14 K14
      refine wp_seq_k fun K15 hK15 => ?_
      refine Kn.no fh28 (.tmp rfl) ?_
      replace fh28 := fh28.cut (.cons (t := 39) rfl (.cons (t := 38) rfl (.cons (t := 5) rfl (.cons (t := 6) rfl (.cons (t := 8) rfl (.cons (t := 0) rfl .nil))))))
      refine wp_exit ?_
      refine Kn.then_exit ?_
      clear hK15 K15
      refine Kn.then_exit ?_
      clear hKl13 Kl13
      refine Kn.block_exit ?_
      refine hK11 _ _ ?_
      clear hK11 K11
      replace fh28 := fh28.cut (.cons (t := 6) rfl (.cons (t := 8) rfl (.cons (t := 0) rfl .nil)))
      refine wp_seq_k fun K16 hK16 => ?_
      refine wp_seq_k fun K17 hK17 => ?_
      refine wp_region_lit ?_
      refine Kn.pure fh28 rfl rfl .none (Kn.ex_assign fh28 .const) fun fa29 fh29 => ?_
      clear fh28 fa28
      refine wpList_nil ?_
      refine hK17 _ _ ?_
      clear hK17 K17
      refine wp_block ?_
      refine Kn.loop (fun m fr v => ∃ (j : Nat), Kn.Kn 83 [(10, .int .i64 (j : Int)), (0, .int .i64 (N : Int)), (6, .pointer (some ⟨g, 0, none⟩)), (8, .slice (some ⟨gl, 0, none⟩) ys.length cl)] fr ∧ j + m = N ∧ Hid (Below u.heap.size u v)) N ⟨0, fh29.cut (.turn (t := 10) rfl rfl (.cons (t := 0) rfl (.cons (t := 6) rfl (.cons (t := 8) rfl .nil)))), by omega, Lib.hid (Below.refl _ _)⟩ ?_
      clear fh29 fa29
      intro m18 fa30 v hI Kl18 hKl18
      obtain ⟨j, fh30, hj, HBv⟩ := hI
      by_cases hjl : j < N
      · have ht := targets_in j v _ g N ys (HR.out.on HBv.out) hjl
        have htl := trg_len ys (j : Int)
        generalize trg ys (j : Int) = ts at ht htl
        have htl2 : ts.length ≤ 20000 := by omega
        clear htl
        refine wp_seq_k fun K19 hK19 => ?_
        refine wp_seq_k fun K20 hK20 => ?_
        refine wp_region_lit ?_
        refine Kn.pure fh30 rfl rfl .none (Kn.ex_move fh30 (.tmp rfl)) fun fa31 fh31 => ?_
        clear fh30 fa30
        refine Kn.pure fh31 rfl rfl .none (Kn.ex_move fh31 (.tmp rfl)) fun fa32 fh32 => ?_
        clear fh31 fa31
        refine Kn.step fh32 rfl rfl .none (Kn.ex_bin fh32 (.tmp rfl) (.tmp rfl)) fun Ko hKo => ?_
        go_simp
        try go_bits
        refine hKo _ _ fun fa33 fh33 => ?_
        clear hKo Ko fh32 fa32
        refine wpList_nil ?_
        refine hK20 _ _ ?_
        clear hK20 K20
        replace fh33 := fh33.cut (.cons (t := 49) rfl (.cons (t := 10) rfl (.cons (t := 0) rfl (.cons (t := 6) rfl (.cons (t := 8) rfl .nil)))))
        refine Kn.yes fh33 (.tmp rfl) ?_
        refine wp_skip ?_
        refine hK19 _ _ ?_
        clear hK19 K19
        replace fh33 := fh33.cut (.cons (t := 10) rfl (.cons (t := 0) rfl (.cons (t := 6) rfl (.cons (t := 8) rfl .nil))))
        refine wp_seq_k fun K21 hK21 => ?_
        refine wp_block ?_
        refine wp_seq_k fun K22 hK22 => ?_
        refine wp_region_lit ?_
        refine Kn.pure fh33 rfl rfl .none (Kn.ex_move fh33 (.tmp rfl)) fun fa34 fh34 => ?_
        clear fh33 fa33
        refine Kn.pure fh34 rfl rfl .none (Kn.ex_move fh34 (.tmp rfl)) fun fa35 fh35 => ?_
        clear fh34 fa34
        refine Kn.call fh35 rfl rfl .none (Kn.ex_call fh35 (.cons (.tmp rfl) (.cons (.tmp rfl) .nil))) Try.call9 (ht) fun e w5 hp => ?_
        obtain ⟨A5, n5, c5, rfl, hO5, hb5⟩ := hp
        refine ⟨_, rfl, fun fa36 fh36 => ?_⟩
        clear fh35 fa35
        refine Kn.pure fh36 rfl rfl .none (Kn.ex_move fh36 (.tmp rfl)) fun fa37 fh37 => ?_
        clear fh36 fa36
        refine Kn.pure fh37 rfl rfl .none (Kn.ex_extract fh37 (.tmp rfl) rfl) fun fa38 fh38 => ?_
        clear fh37 fa37
        refine Kn.pure fh38 rfl rfl .none (Kn.ex_extract fh38 (.tmp rfl) rfl) fun fa39 fh39 => ?_
        clear fh38 fa38
        refine Kn.pure fh39 rfl rfl .none (Kn.ex_assign fh39 (.tmp rfl)) fun fa40 fh40 => ?_
        clear fh39 fa39
        refine Kn.pure fh40 rfl rfl .none (Kn.ex_assign fh40 (.tmp rfl)) fun fa41 fh41 => ?_
        clear fh40 fa40
        refine wpList_nil ?_
        refine hK22 _ _ ?_
        clear hK22 K22
        replace fh41 := fh41.cut (.cons (t := 11) rfl (.cons (t := 10) rfl (.cons (t := 0) rfl (.cons (t := 6) rfl (.cons (t := 8) rfl .nil)))))
        have hn5 := hO5.1
        subst hn5
        have HO5 : Hid (ts = [] ∨ ∃ g5, A5 = some ⟨g5, 0, none⟩ ∧ v.heap.size ≤ g5 ∧ HoldI w5 g5 ts) := Lib.hid (by
          rcases Nat.eq_zero_or_pos ts.length with h | h
          · exact .inl (List.eq_nil_of_length_eq_zero h)
          · obtain ⟨b, o, e, -, -⟩ := hO5.iin 0 h
            obtain ⟨g5, cap', hv, hlo, -⟩ := hO5.2.form h
            simp only [Value.slice.injEq] at hv
            obtain ⟨rfl, -, -⟩ := hv
            exact .inr ⟨g5, rfl, hlo, hold_of_own hO5⟩)
        have HB5 := Lib.hid hb5
        clear ht hO5 hb5
        refine wp_seq_k fun K23 hK23 => ?_
        refine wp_region_lit ?_
        refine Kn.pure fh41 rfl rfl .none (Kn.ex_move fh41 (.tmp rfl)) fun fa42 fh42 => ?_
        clear fh41 fa41
        refine Kn.step fh42 rfl rfl .none (Kn.ex_len fh42 (.tmp rfl)) fun Ko hKo => ?_
        go_simp
        try go_bits
        refine hKo _ _ fun fa43 fh43 => ?_
        clear hKo Ko fh42 fa42
        refine Kn.pure fh43 rfl rfl .none (Kn.ex_move fh43 .const) fun fa44 fh44 => ?_
        clear fh43 fa43
        refine wpList_nil ?_
        refine hK23 _ _ ?_
        clear hK23 K23
        replace fh44 := fh44.cut (.cons (t := 60) rfl (.cons (t := 59) rfl (.cons (t := 11) rfl (.cons (t := 10) rfl (.cons (t := 0) rfl (.cons (t := 6) rfl (.cons (t := 8) rfl .nil)))))))
        refine wp_block ?_
        refine Kn.loop (fun m fr x => ∃ (i : Nat), Kn.Kn 83 [(60, .int .i64 (i : Int)), (59, .int .i64 (ts.length : Int)), (11, .slice A5 ts.length c5), (10, .int .i64 (j : Int)), (0, .int .i64 (N : Int)), (6, .pointer (some ⟨g, 0, none⟩)), (8, .slice (some ⟨gl, 0, none⟩) ys.length cl)] fr ∧ i + m = ts.length ∧ Hid (∃ l, l.length = ts.length ∧ (l = [] ∨ ∃ g5, A5 = some ⟨g5, 0, none⟩ ∧ v.heap.size ≤ g5 ∧ HoldI x g5 l)) ∧ Hid (Below v.heap.size v x)) ts.length ⟨0, fh44.cut (.turn (t := 60) rfl rfl (.cons (t := 59) rfl (.cons (t := 11) rfl (.cons (t := 10) rfl (.cons (t := 0) rfl (.cons (t := 6) rfl (.cons (t := 8) rfl .nil))))))), by omega, Lib.hid ⟨ts, rfl, HO5.out⟩, HB5⟩ ?_
        clear fh44 fa44
        intro m24 fa45 x hI Kl24 hKl24
        obtain ⟨i, fh45, hi, HO6, HB6⟩ := hI
        by_cases hil : i < ts.length
        · obtain ⟨l, hl, hO⟩ := HO6.out
          rcases hO with h0 | ⟨g5, h1, h2, h3⟩
          · rw [h0] at hl; simp at hl; omega
          subst h1
          obtain ⟨x2, hst, hH, -, -, hBl⟩ := h3.store i (by omega) (-1)
          have HO7 : Hid (∃ l, l.length = ts.length ∧ (l = [] ∨ ∃ g', (some (⟨g5, 0, none⟩ : Addr)) = some ⟨g', 0, none⟩ ∧ v.heap.size ≤ g' ∧ HoldI x2 g' l)) := Lib.hid ⟨_, by rw [List.length_set]; exact hl, .inr ⟨g5, rfl, h2, hH⟩⟩
          have HB7 := Lib.hid (HB6.out.trans (hBl _ h2))
          clear hl h2 h3 hH hBl
          refine wp_seq_k fun K25 hK25 => ?_
          refine wp_region_lit ?_
          refine Kn.step fh45 rfl rfl .none (Kn.ex_bin fh45 (.tmp rfl) (.tmp rfl)) fun Ko hKo => ?_
          go_simp
          try go_bits
          refine hKo _ _ fun fa46 fh46 => ?_
          clear hKo Ko fh45 fa45
          refine wpList_nil ?_
          refine hK25 _ _ ?_
          clear hK25 K25
          refine wp_seq_k fun K26 hK26 => ?_
          refine Kn.yes fh46 (.tmp rfl) ?_
          refine wp_skip ?_
          refine hK26 _ _ ?_
          clear hK26 K26
          replace fh46 := fh46.cut (.cons (t := 60) rfl (.cons (t := 59) rfl (.cons (t := 11) rfl (.cons (t := 10) rfl (.cons (t := 0) rfl (.cons (t := 6) rfl (.cons (t := 8) rfl .nil)))))))
          refine wp_seq_k fun K27 hK27 => ?_
          refine wp_block ?_
          refine wp_seq_k fun K28 hK28 => ?_
          refine wp_region_lit ?_
          refine Kn.pure fh46 rfl rfl .none (Kn.ex_move fh46 (.tmp rfl)) fun fa47 fh47 => ?_
          clear fh46 fa46
          refine Kn.pure fh47 rfl rfl .none (Kn.ex_assign fh47 (.tmp rfl)) fun fa48 fh48 => ?_
          clear fh47 fa47
          refine wpList_nil ?_
          refine hK28 _ _ ?_
          clear hK28 K28
          replace fh48 := fh48.cut (.cons (t := 13) rfl (.cons (t := 60) rfl (.cons (t := 59) rfl (.cons (t := 11) rfl (.cons (t := 10) rfl (.cons (t := 0) rfl (.cons (t := 6) rfl (.cons (t := 8) rfl .nil))))))))
          refine wp_region_lit ?_
          refine Kn.pure fh48 rfl rfl .none (Kn.ex_move fh48 (.tmp rfl)) fun fa49 fh49 => ?_
          clear fh48 fa48
          refine Kn.pure fh49 rfl rfl .none (Kn.ex_move fh49 (.tmp rfl)) fun fa50 fh50 => ?_
          clear fh49 fa49
          refine Kn.step fh50 rfl rfl .none (Kn.ex_indexAddr fh50 (.tmp rfl) (.tmp rfl)) fun Ko hKo => ?_
          go_simp
          try go_bits
          refine hKo _ _ fun fa51 fh51 => ?_
          clear hKo Ko fh50 fa50
          refine Kn.stepU fh51 rfl .none (Kn.ex_store fh51 (.tmp rfl) .const) fun Ko hKo => ?_
          rw [hst]
          refine hKo _ ?_
          clear hKo Ko
          refine wpList_nil ?_
          refine Kn.block_normal ?_
          refine hK27 _ _ ?_
          clear hK27 K27
          replace fh51 := fh51.cut (.cons (t := 60) rfl (.cons (t := 59) rfl (.cons (t := 11) rfl (.cons (t := 10) rfl (.cons (t := 0) rfl (.cons (t := 6) rfl (.cons (t := 8) rfl .nil)))))))
          clear hst
          refine wp_region_lit ?_
          refine Kn.step fh51 rfl rfl .none (Kn.ex_bin fh51 (.tmp rfl) .const) fun Ko hKo => ?_
          go_simp
          try go_bits
          refine hKo _ _ fun fa52 fh52 => ?_
          clear hKo Ko fh51 fa51
          refine Kn.pure fh52 rfl rfl .none (Kn.ex_move fh52 (.tmp rfl)) fun fa53 fh53 => ?_
          clear fh52 fa52
          refine wpList_nil ?_
          replace fh53 := fh53.cut (.cons (t := 60) rfl (.cons (t := 59) rfl (.cons (t := 11) rfl (.cons (t := 10) rfl (.cons (t := 0) rfl (.cons (t := 6) rfl (.cons (t := 8) rfl .nil)))))))
          exact hKl24 (m24 - 1) _ _ (by omega) ⟨i + 1, fh53.cut (.turn (t := 60) rfl (by go_num) (.cons (t := 59) rfl (.cons (t := 11) rfl (.cons (t := 10) rfl (.cons (t := 0) rfl (.cons (t := 6) rfl (.cons (t := 8) rfl .nil))))))), by omega, HO7, HB7⟩
        · refine wp_seq_k fun K25 hK25 => ?_
          refine wp_region_lit ?_
          refine Kn.step fh45 rfl rfl .none (Kn.ex_bin fh45 (.tmp rfl) (.tmp rfl)) fun Ko hKo => ?_
          go_simp
          try go_bits
          refine hKo _ _ fun fa46 fh46 => ?_
          clear hKo Ko fh45 fa45
          refine wpList_nil ?_
          refine hK25 _ _ ?_
          clear hK25 K25
          refine wp_seq_k fun K26 hK26 => ?_
          refine Kn.no fh46 (.tmp rfl) ?_
          replace fh46 := fh46.cut (.cons (t := 60) rfl (.cons (t := 59) rfl (.cons (t := 11) rfl (.cons (t := 10) rfl (.cons (t := 0) rfl (.cons (t := 6) rfl (.cons (t := 8) rfl .nil)))))))
          refine wp_exit ?_
          refine Kn.then_exit ?_
          clear hK26 K26
          refine Kn.then_exit ?_
          clear hKl24 Kl24
          refine Kn.block_exit ?_
          refine Kn.block_normal ?_
          refine hK21 _ _ ?_
          clear hK21 K21
          replace fh46 := fh46.cut (.cons (t := 10) rfl (.cons (t := 0) rfl (.cons (t := 6) rfl (.cons (t := 8) rfl .nil))))
          refine wp_region_lit ?_
          refine Kn.pure fh46 rfl rfl .none (Kn.ex_move fh46 (.tmp rfl)) fun fa47 fh47 => ?_
          clear fh46 fa46
          refine Kn.step fh47 rfl rfl .none (Kn.ex_bin fh47 (.tmp rfl) .const) fun Ko hKo => ?_
          go_simp
          try go_bits
          refine hKo _ _ fun fa48 fh48 => ?_
          clear hKo Ko fh47 fa47
          refine Kn.pure fh48 rfl rfl .none (Kn.ex_assign fh48 (.tmp rfl)) fun fa49 fh49 => ?_
          clear fh48 fa48
          refine wpList_nil ?_
          replace fh49 := fh49.cut (.cons (t := 10) rfl (.cons (t := 0) rfl (.cons (t := 6) rfl (.cons (t := 8) rfl .nil))))
          exact hKl18 (m18 - 1) _ _ (by omega) ⟨j + 1, fh49.cut (.turn (t := 10) rfl (by go_num) (.cons (t := 0) rfl (.cons (t := 6) rfl (.cons (t := 8) rfl .nil)))), by omega, Lib.hid (HBv.out.trans (HB6.out.mono HBv.out.size))⟩
      · have HRv := Lib.hid (HR.out.on HBv.out)
        have HEv := Lib.hid (HE.out.on HBv.out)
        have HBw := Lib.hid (HB.out.trans (HBv.out.mono HB.out.size))
        have hli := list_any v _ g N ys HRv.out
        refine wp_seq_k fun K19 hK19 => ?_
        refine wp_seq_k fun K20 hK20 => ?_
        refine wp_region_lit ?_
        refine Kn.pure fh30 rfl rfl .none (Kn.ex_move fh30 (.tmp rfl)) fun fa31 fh31 => ?_
        clear fh30 fa30
        refine Kn.pure fh31 rfl rfl .none (Kn.ex_move fh31 (.tmp rfl)) fun fa32 fh32 => ?_
        clear fh31 fa31
        refine Kn.step fh32 rfl rfl .none (Kn.ex_bin fh32 (.tmp rfl) (.tmp rfl)) fun Ko hKo => ?_
        go_simp
        try go_bits
        refine hKo _ _ fun fa33 fh33 => ?_
        clear hKo Ko fh32 fa32
        refine wpList_nil ?_
        refine hK20 _ _ ?_
        clear hK20 K20
        replace fh33 := fh33.cut (.cons (t := 49) rfl (.cons (t := 10) rfl (.cons (t := 0) rfl (.cons (t := 6) rfl (.cons (t := 8) rfl .nil)))))
        refine Kn.no fh33 (.tmp rfl) ?_
        replace fh33 := fh33.cut (.cons (t := 10) rfl (.cons (t := 0) rfl (.cons (t := 6) rfl (.cons (t := 8) rfl .nil))))
        refine wp_exit ?_
        refine Kn.then_exit ?_
        clear hK19 K19
        refine Kn.then_exit ?_
        clear hKl18 Kl18
        refine Kn.block_exit ?_
        refine hK16 _ _ ?_
        clear hK16 K16
        replace fh33 := fh33.cut (.cons (t := 6) rfl (.cons (t := 8) rfl .nil))
        refine wp_seq_k fun K21 hK21 => ?_
        refine wp_region_lit ?_
        refine Kn.pure fh33 rfl rfl .none (Kn.ex_move fh33 (.tmp rfl)) fun fa34 fh34 => ?_
        clear fh33 fa33
        refine Kn.call fh34 rfl rfl .none (Kn.ex_call fh34 (.cons (.tmp rfl) .nil)) Try.call8 (hli) fun e w6 hp => ?_
        obtain ⟨gx, nx, cx, rfl, hO6, hb6⟩ := hp
        refine ⟨_, rfl, fun fa35 fh35 => ?_⟩
        clear fh34 fa34
        refine Kn.pure fh35 rfl rfl .none (Kn.ex_assign fh35 (.tmp rfl)) fun fa36 fh36 => ?_
        clear fh35 fa35
        refine wpList_nil ?_
        refine hK21 _ _ ?_
        clear hK21 K21
        replace fh36 := fh36.cut (.cons (t := 14) rfl (.cons (t := 6) rfl (.cons (t := 8) rfl .nil)))
        have hnx := hO6.1
        subst hnx
        have hgx := hO6.ge
        have HX6 := Lib.hid (Edg.hold_of_own hO6)
        have HB6 := Lib.hid hb6
        clear hO6 hb6 hli
        refine wp_seq_k fun K22 hK22 => ?_
        refine wp_seq_k fun K23 hK23 => ?_
        refine wp_region_lit ?_
        refine Kn.pure fh36 rfl rfl .none (Kn.ex_move fh36 (.tmp rfl)) fun fa37 fh37 => ?_
        clear fh36 fa36
        refine Kn.step fh37 rfl rfl .none (Kn.ex_len fh37 (.tmp rfl)) fun Ko hKo => ?_
        go_simp
        try go_bits
        refine hKo _ _ fun fa38 fh38 => ?_
        clear hKo Ko fh37 fa37
        refine Kn.pure fh38 rfl rfl .none (Kn.ex_move fh38 .const) fun fa39 fh39 => ?_
        clear fh38 fa38
        refine wpList_nil ?_
        refine hK23 _ _ ?_
        clear hK23 K23
        replace fh39 := fh39.cut (.cons (t := 71) rfl (.cons (t := 70) rfl (.cons (t := 14) rfl (.cons (t := 6) rfl (.cons (t := 8) rfl .nil)))))
        refine wp_block ?_
        refine Kn.loop (fun m fr x => ∃ (i : Nat), Kn.Kn 83 [(71, .int .i64 (i : Int)), (70, .int .i64 (ys.length : Int)), (14, .slice (some ⟨gx, 0, none⟩) ys.length cx), (6, .pointer (some ⟨g, 0, none⟩)), (8, .slice (some ⟨gl, 0, none⟩) ys.length cl)] fr ∧ i + m = ys.length ∧ Hid (∃ l, l.length = ys.length ∧ HoldE x gx l) ∧ Hid (Below v.heap.size v x)) ys.length ⟨0, fh39.cut (.turn (t := 71) rfl rfl (.cons (t := 70) rfl (.cons (t := 14) rfl (.cons (t := 6) rfl (.cons (t := 8) rfl .nil))))), by omega, Lib.hid ⟨ys, rfl, HX6.out⟩, HB6⟩ ?_
        clear fh39 fa39
        intro m24 fa40 x hI Kl24 hKl24
        obtain ⟨i, fh40, hi, HX, HBx⟩ := hI
        by_cases hil : i < ys.length
        · obtain ⟨l, hl, hH⟩ := HX.out
          obtain ⟨x2, hst, hH2, hBl, -, -⟩ := storeE hH i (by omega) 0 0
          have HX2 : Hid (∃ l, l.length = ys.length ∧ HoldE x2 gx l) := Lib.hid ⟨_, by rw [List.length_set]; exact hl, hH2⟩
          have HB2 := Lib.hid (HBx.out.trans (hBl _ hgx))
          clear hl hH hH2 hBl
          refine wp_seq_k fun K25 hK25 => ?_
          refine wp_region_lit ?_
          refine Kn.step fh40 rfl rfl .none (Kn.ex_bin fh40 (.tmp rfl) (.tmp rfl)) fun Ko hKo => ?_
          go_simp
          try go_bits
          refine hKo _ _ fun fa41 fh41 => ?_
          clear hKo Ko fh40 fa40
          refine wpList_nil ?_
          refine hK25 _ _ ?_
          clear hK25 K25
          refine wp_seq_k fun K26 hK26 => ?_
          refine Kn.yes fh41 (.tmp rfl) ?_
          refine wp_skip ?_
          refine hK26 _ _ ?_
          clear hK26 K26
          replace fh41 := fh41.cut (.cons (t := 71) rfl (.cons (t := 70) rfl (.cons (t := 14) rfl (.cons (t := 6) rfl (.cons (t := 8) rfl .nil)))))
          refine wp_seq_k fun K27 hK27 => ?_
          refine wp_block ?_
          refine wp_seq_k fun K28 hK28 => ?_
          refine wp_region_lit ?_
          refine Kn.pure fh41 rfl rfl .none (Kn.ex_move fh41 (.tmp rfl)) fun fa42 fh42 => ?_
          clear fh41 fa41
          refine Kn.pure fh42 rfl rfl .none (Kn.ex_assign fh42 (.tmp rfl)) fun fa43 fh43 => ?_
          clear fh42 fa42
          refine wpList_nil ?_
          refine hK28 _ _ ?_
          clear hK28 K28
          replace fh43 := fh43.cut (.cons (t := 15) rfl (.cons (t := 71) rfl (.cons (t := 70) rfl (.cons (t := 14) rfl (.cons (t := 6) rfl (.cons (t := 8) rfl .nil))))))
          refine wp_region_lit ?_
          refine Kn.pure fh43 rfl rfl .none (Kn.ex_move fh43 (.tmp rfl)) fun fa44 fh44 => ?_
          clear fh43 fa43
          refine Kn.pure fh44 rfl rfl .none (Kn.ex_move fh44 (.tmp rfl)) fun fa45 fh45 => ?_
          clear fh44 fa44
          refine Kn.step fh45 rfl rfl .none (Kn.ex_build fh45 .nil) fun Ko hKo => ?_
          go_simp
          try go_bits
          refine hKo _ _ fun fa46 fh46 => ?_
          clear hKo Ko fh45 fa45
          refine Kn.step fh46 rfl rfl .none (Kn.ex_indexAddr fh46 (.tmp rfl) (.tmp rfl)) fun Ko hKo => ?_
          go_simp
          try go_bits
          refine hKo _ _ fun fa47 fh47 => ?_
          clear hKo Ko fh46 fa46
          refine Kn.stepU fh47 rfl .none (Kn.ex_store fh47 (.tmp rfl) (.tmp rfl)) fun Ko hKo => ?_
          rw [hst]
          refine hKo _ ?_
          clear hKo Ko
          refine wpList_nil ?_
          refine Kn.block_normal ?_
          refine hK27 _ _ ?_
          clear hK27 K27
          replace fh47 := fh47.cut (.cons (t := 71) rfl (.cons (t := 70) rfl (.cons (t := 14) rfl (.cons (t := 6) rfl (.cons (t := 8) rfl .nil)))))
          clear hst
          refine wp_region_lit ?_
          refine Kn.step fh47 rfl rfl .none (Kn.ex_bin fh47 (.tmp rfl) .const) fun Ko hKo => ?_
          go_simp
          try go_bits
          refine hKo _ _ fun fa48 fh48 => ?_
          clear hKo Ko fh47 fa47
          refine Kn.pure fh48 rfl rfl .none (Kn.ex_move fh48 (.tmp rfl)) fun fa49 fh49 => ?_
          clear fh48 fa48
          refine wpList_nil ?_
          replace fh49 := fh49.cut (.cons (t := 71) rfl (.cons (t := 70) rfl (.cons (t := 14) rfl (.cons (t := 6) rfl (.cons (t := 8) rfl .nil)))))
          exact hKl24 (m24 - 1) _ _ (by omega) ⟨i + 1, fh49.cut (.turn (t := 71) rfl (by go_num) (.cons (t := 70) rfl (.cons (t := 14) rfl (.cons (t := 6) rfl (.cons (t := 8) rfl .nil))))), by omega, HX2, HB2⟩
        · have hl2 := list_any x _ g N ys (HRv.out.on HBx.out)
          refine wp_seq_k fun K25 hK25 => ?_
          refine wp_region_lit ?_
          refine Kn.step fh40 rfl rfl .none (Kn.ex_bin fh40 (.tmp rfl) (.tmp rfl)) fun Ko hKo => ?_
          go_simp
          try go_bits
          refine hKo _ _ fun fa41 fh41 => ?_
          clear hKo Ko fh40 fa40
          refine wpList_nil ?_
          refine hK25 _ _ ?_
          clear hK25 K25
          refine wp_seq_k fun K26 hK26 => ?_
          refine Kn.no fh41 (.tmp rfl) ?_
          replace fh41 := fh41.cut (.cons (t := 71) rfl (.cons (t := 70) rfl (.cons (t := 14) rfl (.cons (t := 6) rfl (.cons (t := 8) rfl .nil)))))
          refine wp_exit ?_
          refine Kn.then_exit ?_
          clear hK26 K26
          refine Kn.then_exit ?_
          clear hKl24 Kl24
          refine Kn.block_exit ?_
          refine hK22 _ _ ?_
          clear hK22 K22
          replace fh41 := fh41.cut (.cons (t := 6) rfl (.cons (t := 8) rfl .nil))
          refine wp_seq_k fun K27 hK27 => ?_
          refine wp_region_lit ?_
          refine Kn.pure fh41 rfl rfl .none (Kn.ex_move fh41 (.tmp rfl)) fun fa42 fh42 => ?_
          clear fh41 fa41
          refine Kn.call fh42 rfl rfl .none (Kn.ex_call fh42 (.cons (.tmp rfl) .nil)) Try.call8 (hl2) fun e w7 hp => ?_
          obtain ⟨gy, ny, cy, rfl, hO7, hb7⟩ := hp
          refine ⟨_, rfl, fun fa43 fh43 => ?_⟩
          clear fh42 fa42
          have hny := hO7.1
          subst hny
          have hs := same_any (some ⟨gy, 0, none⟩) (some ⟨gl, 0, none⟩) cy cl ys ys w7 (by unfold maxLen; omega) (by unfold maxLen; omega) hO7.ein ((HEv.out.on HBx.out).on hb7)
          rw [decide_eq_true rfl] at hs
          refine Kn.pure fh43 rfl rfl .none (Kn.ex_move fh43 (.tmp rfl)) fun fa44 fh44 => ?_
          clear fh43 fa43
          refine Kn.call fh44 rfl rfl .none (Kn.ex_call fh44 (.cons (.tmp rfl) (.cons (.tmp rfl) .nil))) Try.call7 (hs) fun e w8 hp => ?_
          obtain ⟨rfl, q, rfl⟩ := hp
          refine ⟨_, rfl, fun fa45 fh45 => ?_⟩
          clear fh44 fa44
          refine Kn.pure fh45 rfl rfl .none (Kn.ex_assign fh45 (.tmp rfl)) fun fa46 fh46 => ?_
          clear fh45 fa45
          refine wpList_nil ?_
          refine hK27 _ _ ?_
          clear hK27 K27
          replace fh46 := fh46.cut (.cons (t := 4) rfl .nil)
          refine wp_ret ?_
          exact Kn.ret1 fh46 rfl rfl ⟨rfl, (HBw.out.trans (HBx.out.mono HBw.out.size)).trans ((hb7.trans ((below_of_drew ⟨q, rfl⟩).mono hb7.size)).mono (Nat.le_trans HBw.out.size HBx.out.size))⟩
  · have hn := build_no n A0 cap0 xs w2 hE2 hg
    unfold faultV at hn
    refine wp_seq_k fun K7 hK7 => ?_
    refine wp_region_lit ?_
    refine Kn.pure fh10 rfl rfl .none (Kn.ex_move fh10 (.tmp rfl)) fun fa11 fh11 => ?_
    clear fh10 fa10
    refine Kn.pure fh11 rfl rfl .none (Kn.ex_move fh11 (.tmp rfl)) fun fa12 fh12 => ?_
    clear fh11 fa11
    refine Kn.call fh12 rfl rfl .none (Kn.ex_call fh12 (.cons (.tmp rfl) (.cons (.tmp rfl) .nil))) Try.call6 (hn) fun e w3 hp => ?_
    obtain ⟨rfl, hb3⟩ := hp
    refine ⟨_, rfl, fun fa13 fh13 => ?_⟩
    clear fh12 fa12
    refine Kn.pure fh13 rfl rfl .none (Kn.ex_move fh13 (.tmp rfl)) fun fa14 fh14 => ?_
    clear fh13 fa13
    refine Kn.pure fh14 rfl rfl .none (Kn.ex_extract fh14 (.tmp rfl) rfl) fun fa15 fh15 => ?_
    clear fh14 fa14
    refine Kn.pure fh15 rfl rfl .none (Kn.ex_extract fh15 (.tmp rfl) rfl) fun fa16 fh16 => ?_
    clear fh15 fa15
    refine Kn.pure fh16 rfl rfl .none (Kn.ex_assign fh16 (.tmp rfl)) fun fa17 fh17 => ?_
    clear fh16 fa16
    refine Kn.pure fh17 rfl rfl .none (Kn.ex_assign fh17 (.tmp rfl)) fun fa18 fh18 => ?_
    clear fh17 fa17
    refine wpList_nil ?_
    refine hK7 _ _ ?_
    clear hK7 K7
    replace fh18 := fh18.cut (.cons (t := 7) rfl (.cons (t := 6) rfl (.cons (t := 5) rfl (.cons (t := 4) rfl (.cons (t := 0) rfl (.cons (t := 1) rfl .nil))))))
    have hs := same_any A0 A cap0 ca xs xs w3 (by unfold maxLen; omega) (by unfold maxLen; omega) (hE2.on hb3) (HA2.out.on hb3)
    rw [decide_eq_true rfl] at hs
    clear hn
    refine wp_seq_k fun K8 hK8 => ?_
    refine wp_seq_k fun K9 hK9 => ?_
    refine wp_region_lit ?_
    refine Kn.pure fh18 rfl rfl .none (Kn.ex_move fh18 (.tmp rfl)) fun fa19 fh19 => ?_
    clear fh18 fa18
    refine Kn.step fh19 rfl rfl .none (Kn.ex_bin fh19 (.tmp rfl) .const) fun Ko hKo => ?_
    go_simp
    try go_bits
    refine hKo _ _ fun fa20 fh20 => ?_
    clear hKo Ko fh19 fa19
    refine wpList_nil ?_
    refine hK9 _ _ ?_
    clear hK9 K9
    replace fh20 := fh20.cut (.cons (t := 31) rfl (.cons (t := 6) rfl (.cons (t := 5) rfl (.cons (t := 4) rfl (.cons (t := 0) rfl (.cons (t := 1) rfl .nil))))))
    refine Kn.yes fh20 (.tmp rfl) ?_
    replace fh20 := fh20.cut (.cons (t := 6) rfl (.cons (t := 5) rfl (.cons (t := 4) rfl (.cons (t := 0) rfl (.cons (t := 1) rfl .nil)))))
    refine wp_seq_k fun K10 hK10 => ?_
    refine wp_region_lit ?_
    refine Kn.pure fh20 rfl rfl .none (Kn.ex_move fh20 (.tmp rfl)) fun fa21 fh21 => ?_
    clear fh20 fa20
    refine Kn.pure fh21 rfl rfl .none (Kn.ex_move fh21 (.tmp rfl)) fun fa22 fh22 => ?_
    clear fh21 fa21
    refine Kn.call fh22 rfl rfl .none (Kn.ex_call fh22 (.cons (.tmp rfl) (.cons (.tmp rfl) .nil))) Try.call7 (hs) fun e w4 hp => ?_
    obtain ⟨rfl, q, rfl⟩ := hp
    refine ⟨_, rfl, fun fa23 fh23 => ?_⟩
    clear fh22 fa22
    refine Kn.pure fh23 rfl rfl .none (Kn.ex_assign fh23 (.tmp rfl)) fun fa24 fh24 => ?_
    clear fh23 fa23
    refine wpList_nil ?_
    refine hK10 _ _ ?_
    clear hK10 K10
    replace fh24 := fh24.cut (.cons (t := 4) rfl (.cons (t := 6) rfl (.cons (t := 5) rfl (.cons (t := 0) rfl .nil))))
    refine wp_ret ?_
    refine Kn.then_ret ?_
    exact Kn.ret1 fh24 rfl rfl ⟨rfl, HB2.out.trans ((hb3.trans ((below_of_drew ⟨q, rfl⟩).mono hb3.size)).mono HB2.out.size)⟩

end Go.Proofs.Ytinjecaanjeapaa.Csr
