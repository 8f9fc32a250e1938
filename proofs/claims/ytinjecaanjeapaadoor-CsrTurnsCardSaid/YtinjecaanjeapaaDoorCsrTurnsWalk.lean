/- The law CsrTurns, walked (written by gen_cturns.py). -/
import Derived.Test.YtinjecaanjeapaaDoorCsrW
import Derived.Test.YtinjecaanjeapaaDoorCsrD
import Derived.Test.YtinjecaanjeapaaDoorRef04N
import Derived.Test.YtinjecaanjeapaaDoorErrCode
namespace Go.Proofs.YtinjecaanjeapaaDoor.Csr
open Go Go.RowKit Go.Lib Edg Num

/-- What the law keeps of its arguments. -/
structure Cx (w : World) (A B : Option Addr) (xs zs : List (Int × Int)) (p q : Int) (u : World) : Prop where
  ea : EIn u A xs
  eb : EIn u B zs
  tab : Err.ErrTab u
  c0 : u.cell? ⟨w.heap.size, 0, none⟩ = some (.int .i64 p)
  c1 : u.cell? ⟨w.heap.size, 1, none⟩ = some (.int .i64 q)
  lt : w.heap.size < u.heap.size
  bel : Below w.heap.size w u
theorem Cx.on {w u u' : World} {A B : Option Addr} {xs zs : List (Int × Int)} {p q : Int} (h : Cx w A B xs zs p q u) (hb : Below u.heap.size u u') : Cx w A B xs zs p q u' :=
  ⟨h.ea.on hb, h.eb.on hb, h.tab.on hb, (hb.cell (p := ⟨w.heap.size, 0, none⟩) h.lt).trans h.c0, (hb.cell (p := ⟨w.heap.size, 1, none⟩) h.lt).trans h.c1, Nat.lt_of_lt_of_le h.lt hb.size, h.bel.trans (hb.mono (Nat.le_of_lt h.lt))⟩
/-- A row of these edges. -/
def NRow (ys : List (Int × Int)) : Value → World → Prop := fun v u => ∃ g n cap, v = .slice (some ⟨g, 0, none⟩) n cap ∧ n = ys.length ∧ EIn u (some ⟨g, 0, none⟩) ys
theorem NRow.keep {ys : List (Int × Int)} : ∀ v w w', Below w.heap.size w w' → NRow ys v w → NRow ys v w' := fun v w w' hb ⟨g, n, cap, e, h1, h2⟩ => ⟨g, n, cap, e, h1, h2.on hb⟩

set_option maxRecDepth 100000 in
set_option maxHeartbeats 2000000 in
theorem turns_all (p q : Int) (A B : Option Addr) (ca cb : Nat) (xs zs : List (Int × Int)) (w : World) (hT : Err.ErrTab w) (hx : xs.length ≤ maxLen) (hz : zs.length ≤ maxLen) (hA : EIn w A xs) (hB : EIn w B zs) :
    Calls Tryd.prog 4 #[.agg #[.int .i64 p, .int .i64 q], .slice A xs.length ca, .slice B zs.length cb] w fun e w' => e = .returned (.bool true) ∧ Below w.heap.size w w' := by
  unfold maxLen at hx hz
  refine Kn.calls Tryd.func4 rfl Tryd.ntmps4 rfl (.cons (t := 0) rfl (.cons (t := 1) rfl (.cons (t := 2) rfl .nil))) fun fa0 fh0 => ?_
  refine wp_seq_k fun K1 hK1 => ?_
  refine wp_region_lit ?_
  refine Kn.step fh0 rfl rfl .none (Kn.ex_box fh0 (.tmp rfl)) fun Ko hKo => ?_
  go_simp
  try go_bits
  refine hKo _ _ fun fa1 fh1 => ?_
  clear hKo Ko fh0 fa0
  refine Kn.pure fh1 rfl rfl .none (Kn.ex_assign fh1 .const) fun fa2 fh2 => ?_
  clear fh1 fa1
  refine wpList_nil ?_
  refine hK1 _ _ ?_
  clear hK1 K1
  replace fh2 := fh2.cut (.cons (t := 6) rfl (.cons (t := 3) rfl (.cons (t := 1) rfl (.cons (t := 2) rfl .nil))))
  refine Kn.gen (Cx w A B xs zs p q) ⟨hA.on ((Below.refl _ w).alloc (Nat.le_refl _) _), hB.on ((Below.refl _ w).alloc (Nat.le_refl _) _), hT.alloc _, (St.St.new _ _ _).cell 0 rfl, (St.St.new _ _ _).cell 1 rfl, by simp, (Below.refl _ w).alloc (Nat.le_refl _) _⟩ fun w0 hX0 => ?_
  refine wp_seq_k fun K2 hK2 => ?_
  refine wp_seq_k fun K3 hK3 => ?_
  refine wp_region_lit ?_
  refine Kn.call fh2 rfl rfl .none (Kn.ex_call fh2 .nil) Tryd.call5 (awake5 w0) fun e w1 hp => ?_
  obtain ⟨rfl, hb1⟩ := hp
  refine ⟨_, rfl, fun fa3 fh3 => ?_⟩
  clear fh2 fa2
  refine Kn.step fh3 rfl rfl .none (Kn.ex_un fh3 (.tmp rfl)) fun Ko hKo => ?_
  go_simp
  try go_bits
  refine hKo _ _ fun fa4 fh4 => ?_
  clear hKo Ko fh3 fa3
  refine wpList_nil ?_
  refine hK3 _ _ ?_
  clear hK3 K3
  replace fh4 := fh4.cut (.cons (t := 20) rfl (.cons (t := 6) rfl (.cons (t := 3) rfl (.cons (t := 1) rfl (.cons (t := 2) rfl .nil)))))
  refine Kn.no fh4 (.tmp rfl) ?_
  refine wp_skip ?_
  refine hK2 _ _ ?_
  clear hK2 K2
  replace fh4 := fh4.cut (.cons (t := 6) rfl (.cons (t := 3) rfl (.cons (t := 1) rfl (.cons (t := 2) rfl .nil))))
  have HX1 := Lib.hid (hX0.on hb1)
  clear hX0 hb1 hA hB hT
  by_cases h1 : (200 : Int) < (xs.length : Int)
  · refine wp_seq_k fun K4 hK4 => ?_
    refine wp_seq_k fun K5 hK5 => ?_
    refine wp_region_lit ?_
    refine Kn.pure fh4 rfl rfl .none (Kn.ex_move fh4 (.tmp rfl)) fun fa5 fh5 => ?_
    clear fh4 fa4
    refine Kn.step fh5 rfl rfl .none (Kn.ex_len fh5 (.tmp rfl)) fun Ko hKo => ?_
    go_simp
    try go_bits
    refine hKo _ _ fun fa6 fh6 => ?_
    clear hKo Ko fh5 fa5
    refine Kn.step fh6 rfl rfl .none (Kn.ex_bin fh6 (.tmp rfl) .const) fun Ko hKo => ?_
    go_simp
    try go_bits
    refine hKo _ _ fun fa7 fh7 => ?_
    clear hKo Ko fh6 fa6
    refine Kn.pure fh7 rfl rfl .none (Kn.ex_move fh7 (.tmp rfl)) fun fa8 fh8 => ?_
    clear fh7 fa7
    refine Kn.skip fh8 rfl rfl (.some rfl rfl rfl) fun fa9 fh9 => ?_
    clear fh8 fa8
    refine Kn.skip fh9 rfl rfl (.some rfl rfl rfl) fun fa10 fh10 => ?_
    clear fh9 fa9
    refine Kn.skip fh10 rfl rfl (.some rfl rfl rfl) fun fa11 fh11 => ?_
    clear fh10 fa10
    refine Kn.pure fh11 rfl rfl .none (Kn.ex_pick fh11 (.tmp rfl) .const) fun fa12 fh12 => ?_
    clear fh11 fa11
    refine wpList_nil ?_
    refine hK5 _ _ ?_
    clear hK5 K5
    replace fh12 := fh12.cut (.cons (t := 28) rfl (.cons (t := 6) rfl (.cons (t := 3) rfl (.cons (t := 1) rfl (.cons (t := 2) rfl .nil)))))
    refine Kn.yes fh12 (.tmp rfl) ?_
    replace fh12 := fh12.cut (.cons (t := 6) rfl (.cons (t := 3) rfl (.cons (t := 1) rfl (.cons (t := 2) rfl .nil))))
    refine wp_seq_k fun K6 hK6 => ?_
    refine wp_region_lit ?_
    refine Kn.pure fh12 rfl rfl .none (Kn.ex_assign fh12 .const) fun fa13 fh13 => ?_
    clear fh12 fa12
    refine wpList_nil ?_
    refine hK6 _ _ ?_
    clear hK6 K6
    refine wp_ret ?_
    refine Kn.then_ret ?_
    exact Kn.ret1 fh13 rfl rfl ⟨rfl, HX1.out.bel⟩
  by_cases h2 : (200 : Int) < (zs.length : Int)
  · refine wp_seq_k fun K4 hK4 => ?_
    refine wp_seq_k fun K5 hK5 => ?_
    refine wp_region_lit ?_
    refine Kn.pure fh4 rfl rfl .none (Kn.ex_move fh4 (.tmp rfl)) fun fa5 fh5 => ?_
    clear fh4 fa4
    refine Kn.step fh5 rfl rfl .none (Kn.ex_len fh5 (.tmp rfl)) fun Ko hKo => ?_
    go_simp
    try go_bits
    refine hKo _ _ fun fa6 fh6 => ?_
    clear hKo Ko fh5 fa5
    refine Kn.step fh6 rfl rfl .none (Kn.ex_bin fh6 (.tmp rfl) .const) fun Ko hKo => ?_
    go_simp
    try go_bits
    refine hKo _ _ fun fa7 fh7 => ?_
    clear hKo Ko fh6 fa6
    refine Kn.pure fh7 rfl rfl .none (Kn.ex_move fh7 (.tmp rfl)) fun fa8 fh8 => ?_
    clear fh7 fa7
    refine Kn.pure fh8 rfl rfl (.some rfl rfl rfl) (Kn.ex_move fh8 (.tmp rfl)) fun fa9 fh9 => ?_
    clear fh8 fa8
    refine Kn.step fh9 rfl rfl (.some rfl rfl rfl) (Kn.ex_len fh9 (.tmp rfl)) fun Ko hKo => ?_
    go_simp
    try go_bits
    refine hKo _ _ fun fa10 fh10 => ?_
    clear hKo Ko fh9 fa9
    refine Kn.step fh10 rfl rfl (.some rfl rfl rfl) (Kn.ex_bin fh10 (.tmp rfl) .const) fun Ko hKo => ?_
    go_simp
    try go_bits
    refine hKo _ _ fun fa11 fh11 => ?_
    clear hKo Ko fh10 fa10
    refine Kn.pure fh11 rfl rfl .none (Kn.ex_pick fh11 (.tmp rfl) (.tmp rfl)) fun fa12 fh12 => ?_
    clear fh11 fa11
    refine wpList_nil ?_
    refine hK5 _ _ ?_
    clear hK5 K5
    replace fh12 := fh12.cut (.cons (t := 28) rfl (.cons (t := 6) rfl (.cons (t := 3) rfl (.cons (t := 1) rfl (.cons (t := 2) rfl .nil)))))
    refine Kn.yes fh12 (.tmp rfl) ?_
    replace fh12 := fh12.cut (.cons (t := 6) rfl (.cons (t := 3) rfl (.cons (t := 1) rfl (.cons (t := 2) rfl .nil))))
    refine wp_seq_k fun K6 hK6 => ?_
    refine wp_region_lit ?_
    refine Kn.pure fh12 rfl rfl .none (Kn.ex_assign fh12 .const) fun fa13 fh13 => ?_
    clear fh12 fa12
    refine wpList_nil ?_
    refine hK6 _ _ ?_
    clear hK6 K6
    refine wp_ret ?_
    refine Kn.then_ret ?_
    exact Kn.ret1 fh13 rfl rfl ⟨rfl, HX1.out.bel⟩
  refine wp_seq_k fun K4 hK4 => ?_
  refine wp_seq_k fun K5 hK5 => ?_
  refine wp_region_lit ?_
  refine Kn.pure fh4 rfl rfl .none (Kn.ex_move fh4 (.tmp rfl)) fun fa5 fh5 => ?_
  clear fh4 fa4
  refine Kn.step fh5 rfl rfl .none (Kn.ex_len fh5 (.tmp rfl)) fun Ko hKo => ?_
  go_simp
  try go_bits
  refine hKo _ _ fun fa6 fh6 => ?_
  clear hKo Ko fh5 fa5
  refine Kn.step fh6 rfl rfl .none (Kn.ex_bin fh6 (.tmp rfl) .const) fun Ko hKo => ?_
  go_simp
  try go_bits
  refine hKo _ _ fun fa7 fh7 => ?_
  clear hKo Ko fh6 fa6
  refine Kn.pure fh7 rfl rfl .none (Kn.ex_move fh7 (.tmp rfl)) fun fa8 fh8 => ?_
  clear fh7 fa7
  refine Kn.pure fh8 rfl rfl (.some rfl rfl rfl) (Kn.ex_move fh8 (.tmp rfl)) fun fa9 fh9 => ?_
  clear fh8 fa8
  refine Kn.step fh9 rfl rfl (.some rfl rfl rfl) (Kn.ex_len fh9 (.tmp rfl)) fun Ko hKo => ?_
  go_simp
  try go_bits
  refine hKo _ _ fun fa10 fh10 => ?_
  clear hKo Ko fh9 fa9
  refine Kn.step fh10 rfl rfl (.some rfl rfl rfl) (Kn.ex_bin fh10 (.tmp rfl) .const) fun Ko hKo => ?_
  go_simp
  try go_bits
  refine hKo _ _ fun fa11 fh11 => ?_
  clear hKo Ko fh10 fa10
  refine Kn.pure fh11 rfl rfl .none (Kn.ex_pick fh11 (.tmp rfl) (.tmp rfl)) fun fa12 fh12 => ?_
  clear fh11 fa11
  refine wpList_nil ?_
  refine hK5 _ _ ?_
  clear hK5 K5
  replace fh12 := fh12.cut (.cons (t := 28) rfl (.cons (t := 6) rfl (.cons (t := 3) rfl (.cons (t := 1) rfl (.cons (t := 2) rfl .nil)))))
  refine Kn.no fh12 (.tmp rfl) ?_
  refine wp_skip ?_
  refine hK4 _ _ ?_
  clear hK4 K4
  replace fh12 := fh12.cut (.cons (t := 6) rfl (.cons (t := 3) rfl (.cons (t := 1) rfl (.cons (t := 2) rfl .nil))))
  have hxs : xs.length ≤ 200 := by omega
  have hzs : zs.length ≤ 200 := by omega
  clear h1 h2 hx hz
  have hc := fun u h => Err.code_E 1 u h
  unfold Err.errnoV at hc
  have HC := Lib.hid hc
  have htn := fun u => targets_nil 0 u
  have hdn := fun u => degree_nil 0 u
  unfold errV at htn hdn
  have HTN := Lib.hid htn
  have HDN := Lib.hid hdn
  clear hc htn hdn
  by_cases hg1 : Edg.Good p xs
  · have c0 := HX1.out.c0
    obtain ⟨N, rfl⟩ := Int.eq_ofNat_of_zero_le hg1.lo
    have hbu := build_yes N A ca xs w1 HX1.out.ea hg1
    refine wp_seq_k fun K6 hK6 => ?_
    refine wp_region_lit ?_
    refine Kn.step fh12 rfl rfl .none (Kn.ex_indexAddr fh12 (.tmp rfl) .const) fun Ko hKo => ?_
    go_simp
    try go_bits
    refine hKo _ _ fun fa13 fh13 => ?_
    clear hKo Ko fh12 fa12
    refine Kn.step fh13 rfl rfl .none (Kn.ex_load fh13 (.tmp rfl)) fun Ko hKo => ?_
    go_simp
    try go_bits
    refine hKo _ _ fun fa14 fh14 => ?_
    clear hKo Ko fh13 fa13
    refine Kn.pure fh14 rfl rfl .none (Kn.ex_move fh14 (.tmp rfl)) fun fa15 fh15 => ?_
    clear fh14 fa14
    refine Kn.call fh15 rfl rfl .none (Kn.ex_call fh15 (.cons (.tmp rfl) (.cons (.tmp rfl) .nil))) Tryd.call6 (hbu) fun e w2 hp => ?_
    obtain ⟨ga, ys, rfl, hNo, hR, hb⟩ := hp
    refine ⟨_, rfl, fun fa16 fh16 => ?_⟩
    clear fh15 fa15
    refine Kn.pure fh16 rfl rfl .none (Kn.ex_move fh16 (.tmp rfl)) fun fa17 fh17 => ?_
    clear fh16 fa16
    refine Kn.pure fh17 rfl rfl .none (Kn.ex_extract fh17 (.tmp rfl) rfl) fun fa18 fh18 => ?_
    clear fh17 fa17
    refine Kn.pure fh18 rfl rfl .none (Kn.ex_extract fh18 (.tmp rfl) rfl) fun fa19 fh19 => ?_
    clear fh18 fa18
    refine Kn.pure fh19 rfl rfl .none (Kn.ex_assign fh19 (.tmp rfl)) fun fa20 fh20 => ?_
    clear fh19 fa19
    refine Kn.pure fh20 rfl rfl .none (Kn.ex_assign fh20 (.tmp rfl)) fun fa21 fh21 => ?_
    clear fh20 fa20
    refine wpList_nil ?_
    refine hK6 _ _ ?_
    clear hK6 K6
    replace fh21 := fh21.cut (.cons (t := 8) rfl (.cons (t := 7) rfl (.cons (t := 6) rfl (.cons (t := 3) rfl (.cons (t := 1) rfl (.cons (t := 2) rfl .nil))))))
    have HX2 := Lib.hid (HX1.out.on hb)
    have HN1 := Lib.hid hNo
    have HR1 := Lib.hid hR
    have hle1 := hR.len
    have hi1 := hR.hi
    clear hR hNo
    clear hb hbu c0 HX1 hg1
    by_cases hg2 : Edg.Good q zs
    · have c1 := HX2.out.c1
      obtain ⟨M, rfl⟩ := Int.eq_ofNat_of_zero_le hg2.lo
      have hbu := build_yes M B cb zs w2 HX2.out.eb hg2
      refine wp_seq_k fun K7 hK7 => ?_
      refine wp_region_lit ?_
      refine Kn.step fh21 rfl rfl .none (Kn.ex_indexAddr fh21 (.tmp rfl) .const) fun Ko hKo => ?_
      go_simp
      try go_bits
      refine hKo _ _ fun fa22 fh22 => ?_
      clear hKo Ko fh21 fa21
      refine Kn.step fh22 rfl rfl .none (Kn.ex_load fh22 (.tmp rfl)) fun Ko hKo => ?_
      go_simp
      try go_bits
      refine hKo _ _ fun fa23 fh23 => ?_
      clear hKo Ko fh22 fa22
      refine Kn.pure fh23 rfl rfl .none (Kn.ex_move fh23 (.tmp rfl)) fun fa24 fh24 => ?_
      clear fh23 fa23
      refine Kn.call fh24 rfl rfl .none (Kn.ex_call fh24 (.cons (.tmp rfl) (.cons (.tmp rfl) .nil))) Tryd.call6 (hbu) fun e w3 hp => ?_
      obtain ⟨gb, us, rfl, hNo, hR, hb⟩ := hp
      refine ⟨_, rfl, fun fa25 fh25 => ?_⟩
      clear fh24 fa24
      refine Kn.pure fh25 rfl rfl .none (Kn.ex_move fh25 (.tmp rfl)) fun fa26 fh26 => ?_
      clear fh25 fa25
      refine Kn.pure fh26 rfl rfl .none (Kn.ex_extract fh26 (.tmp rfl) rfl) fun fa27 fh27 => ?_
      clear fh26 fa26
      refine Kn.pure fh27 rfl rfl .none (Kn.ex_extract fh27 (.tmp rfl) rfl) fun fa28 fh28 => ?_
      clear fh27 fa27
      refine Kn.pure fh28 rfl rfl .none (Kn.ex_assign fh28 (.tmp rfl)) fun fa29 fh29 => ?_
      clear fh28 fa28
      refine Kn.pure fh29 rfl rfl .none (Kn.ex_assign fh29 (.tmp rfl)) fun fa30 fh30 => ?_
      clear fh29 fa29
      refine wpList_nil ?_
      refine hK7 _ _ ?_
      clear hK7 K7
      replace fh30 := fh30.cut (.cons (t := 10) rfl (.cons (t := 9) rfl (.cons (t := 8) rfl (.cons (t := 7) rfl (.cons (t := 6) rfl (.cons (t := 3) rfl (.cons (t := 1) rfl (.cons (t := 2) rfl .nil))))))))
      have HX3 := Lib.hid (HX2.out.on hb)
      have HN2 := Lib.hid hNo
      have HR2 := Lib.hid hR
      have hle2 := hR.len
      have hi2 := hR.hi
      clear hR hNo
      try replace HR1 := Lib.hid (HR1.out.on hb)
      clear hb hbu c1 HX2 hg2
      refine wp_seq_k fun K8 hK8 => ?_
      refine wp_region_lit ?_
      refine Kn.pure fh30 rfl rfl .none (Kn.ex_assign fh30 .const) fun fa31 fh31 => ?_
      clear fh30 fa30
      refine wpList_nil ?_
      refine hK8 _ _ ?_
      clear hK8 K8
      refine wp_seq_k fun K9 hK9 => ?_
      refine wp_region_lit ?_
      refine Kn.pure fh31 rfl rfl .none (Kn.ex_move fh31 (.tmp rfl)) fun fa32 fh32 => ?_
      clear fh31 fa31
      refine Kn.call fh32 rfl rfl .none (Kn.ex_call fh32 (.cons (.tmp rfl) (.cons .const .nil))) Tryd.call15 (HTN.out w3) fun e w4 hp => ?_
      obtain ⟨rfl, rfl⟩ := hp
      refine ⟨_, rfl, fun fa33 fh33 => ?_⟩
      clear fh32 fa32
      refine Kn.pure fh33 rfl rfl .none (Kn.ex_move fh33 (.tmp rfl)) fun fa34 fh34 => ?_
      clear fh33 fa33
      refine Kn.pure fh34 rfl rfl .none (Kn.ex_extract fh34 (.tmp rfl) rfl) fun fa35 fh35 => ?_
      clear fh34 fa34
      refine Kn.pure fh35 rfl rfl .none (Kn.ex_extract fh35 (.tmp rfl) rfl) fun fa36 fh36 => ?_
      clear fh35 fa35
      refine Kn.pure fh36 rfl rfl .none (Kn.ex_assign fh36 (.tmp rfl)) fun fa37 fh37 => ?_
      clear fh36 fa36
      refine Kn.pure fh37 rfl rfl .none (Kn.ex_assign fh37 (.tmp rfl)) fun fa38 fh38 => ?_
      clear fh37 fa37
      refine wpList_nil ?_
      refine hK9 _ _ ?_
      clear hK9 K9
      replace fh38 := fh38.cut (.cons (t := 13) rfl (.cons (t := 11) rfl (.cons (t := 10) rfl (.cons (t := 9) rfl (.cons (t := 8) rfl (.cons (t := 7) rfl (.cons (t := 6) rfl (.cons (t := 3) rfl (.cons (t := 1) rfl (.cons (t := 2) rfl .nil))))))))))
      refine wp_seq_k fun K10 hK10 => ?_
      refine wp_region_lit ?_
      refine Kn.pure fh38 rfl rfl .none (Kn.ex_move fh38 (.tmp rfl)) fun fa39 fh39 => ?_
      clear fh38 fa38
      refine Kn.call fh39 rfl rfl .none (Kn.ex_call fh39 (.cons (.tmp rfl) (.cons .const .nil))) Tryd.call16 (HDN.out w3) fun e w4 hp => ?_
      obtain ⟨rfl, rfl⟩ := hp
      refine ⟨_, rfl, fun fa40 fh40 => ?_⟩
      clear fh39 fa39
      refine Kn.pure fh40 rfl rfl .none (Kn.ex_move fh40 (.tmp rfl)) fun fa41 fh41 => ?_
      clear fh40 fa40
      refine Kn.pure fh41 rfl rfl .none (Kn.ex_extract fh41 (.tmp rfl) rfl) fun fa42 fh42 => ?_
      clear fh41 fa41
      refine Kn.pure fh42 rfl rfl .none (Kn.ex_extract fh42 (.tmp rfl) rfl) fun fa43 fh43 => ?_
      clear fh42 fa42
      refine Kn.pure fh43 rfl rfl .none (Kn.ex_assign fh43 (.tmp rfl)) fun fa44 fh44 => ?_
      clear fh43 fa43
      refine Kn.pure fh44 rfl rfl .none (Kn.ex_assign fh44 (.tmp rfl)) fun fa45 fh45 => ?_
      clear fh44 fa44
      refine wpList_nil ?_
      refine hK10 _ _ ?_
      clear hK10 K10
      replace fh45 := fh45.cut (.cons (t := 15) rfl (.cons (t := 13) rfl (.cons (t := 11) rfl (.cons (t := 10) rfl (.cons (t := 9) rfl (.cons (t := 8) rfl (.cons (t := 7) rfl (.cons (t := 6) rfl (.cons (t := 3) rfl (.cons (t := 1) rfl (.cons (t := 2) rfl .nil)))))))))))
      refine wp_seq_k fun K11 hK11 => ?_
      refine wp_seq_k fun K12 hK12 => ?_
      refine wp_region_lit ?_
      refine Kn.pure fh45 rfl rfl .none (Kn.ex_move fh45 (.tmp rfl)) fun fa46 fh46 => ?_
      clear fh45 fa45
      refine Kn.call fh46 rfl rfl .none (Kn.ex_call fh46 (.cons (.tmp rfl) .nil)) Tryd.call8 (HC.out w3 HX3.out.tab) fun e w4 hp => ?_
      obtain ⟨rfl, hb⟩ := hp
      refine ⟨_, rfl, fun fa47 fh47 => ?_⟩
      clear fh46 fa46
      have HX4 := Lib.hid (HX3.out.on hb)
      try replace HR1 := Lib.hid (HR1.out.on hb)
      try replace HR2 := Lib.hid (HR2.out.on hb)
      clear hb
      refine Kn.step fh47 rfl rfl .none (Kn.ex_bin fh47 (.tmp rfl) .const) fun Ko hKo => ?_
      go_simp
      try go_bits
      refine hKo _ _ fun fa48 fh48 => ?_
      clear hKo Ko fh47 fa47
      refine Kn.pure fh48 rfl rfl .none (Kn.ex_move fh48 (.tmp rfl)) fun fa49 fh49 => ?_
      clear fh48 fa48
      refine Kn.pure fh49 rfl rfl (.some rfl rfl rfl) (Kn.ex_move fh49 (.tmp rfl)) fun fa50 fh50 => ?_
      clear fh49 fa49
      refine Kn.call fh50 rfl rfl (.some rfl rfl rfl) (Kn.ex_call fh50 (.cons (.tmp rfl) .nil)) Tryd.call8 (HC.out w4 HX4.out.tab) fun e w5 hp => ?_
      obtain ⟨rfl, hb⟩ := hp
      refine ⟨_, rfl, fun fa51 fh51 => ?_⟩
      clear fh50 fa50
      have HX5 := Lib.hid (HX4.out.on hb)
      try replace HR1 := Lib.hid (HR1.out.on hb)
      try replace HR2 := Lib.hid (HR2.out.on hb)
      clear hb
      refine Kn.step fh51 rfl rfl (.some rfl rfl rfl) (Kn.ex_bin fh51 (.tmp rfl) .const) fun Ko hKo => ?_
      go_simp
      try go_bits
      refine hKo _ _ fun fa52 fh52 => ?_
      clear hKo Ko fh51 fa51
      refine Kn.pure fh52 rfl rfl .none (Kn.ex_pick fh52 (.tmp rfl) (.tmp rfl)) fun fa53 fh53 => ?_
      clear fh52 fa52
      refine Kn.pure fh53 rfl rfl .none (Kn.ex_move fh53 (.tmp rfl)) fun fa54 fh54 => ?_
      clear fh53 fa53
      refine Kn.pure fh54 rfl rfl (.some rfl rfl rfl) (Kn.ex_move fh54 (.tmp rfl)) fun fa55 fh55 => ?_
      clear fh54 fa54
      refine Kn.call fh55 rfl rfl (.some rfl rfl rfl) (Kn.ex_call fh55 (.cons (.tmp rfl) .nil)) Tryd.call11 (nodes_nil w5) fun e wa hp => ?_
      obtain ⟨rfl, rfl⟩ := hp
      refine ⟨_, rfl, fun fa56 fh56 => ?_⟩
      clear fh55 fa55
      refine Kn.pure fh56 rfl rfl (.some rfl rfl rfl) (Kn.ex_move fh56 (.tmp rfl)) fun fa57 fh57 => ?_
      clear fh56 fa56
      refine Kn.call fh57 rfl rfl (.some rfl rfl rfl) (Kn.ex_call fh57 (.cons (.tmp rfl) .nil)) Tryd.call12 (edges_nil w5) fun e wa hp => ?_
      obtain ⟨rfl, rfl⟩ := hp
      refine ⟨_, rfl, fun fa58 fh58 => ?_⟩
      clear fh57 fa57
      refine Kn.step fh58 rfl rfl (.some rfl rfl rfl) (Kn.ex_bin fh58 (.tmp rfl) (.tmp rfl)) fun Ko hKo => ?_
      go_simp
      try go_bits
      refine hKo _ _ fun fa59 fh59 => ?_
      clear hKo Ko fh58 fa58
      refine Kn.pure fh59 rfl rfl (.some rfl rfl rfl) (Kn.ex_move fh59 (.tmp rfl)) fun fa60 fh60 => ?_
      clear fh59 fa59
      refine Kn.call fh60 rfl rfl (.some rfl rfl rfl) (Kn.ex_call fh60 (.cons (.tmp rfl) .nil)) Tryd.call14 (list_nil w5) fun e w6 hp => ?_
      obtain ⟨Al, rfl, hb⟩ := hp
      refine ⟨_, rfl, fun fa61 fh61 => ?_⟩
      clear fh60 fa60
      have HX6 := Lib.hid (HX5.out.on hb)
      try replace HR1 := Lib.hid (HR1.out.on hb)
      try replace HR2 := Lib.hid (HR2.out.on hb)
      clear hb
      refine Kn.step fh61 rfl rfl (.some rfl rfl rfl) (Kn.ex_len fh61 (.tmp rfl)) fun Ko hKo => ?_
      go_simp
      try go_bits
      refine hKo _ _ fun fa62 fh62 => ?_
      clear hKo Ko fh61 fa61
      refine Kn.step fh62 rfl rfl (.some rfl rfl rfl) (Kn.ex_bin fh62 (.tmp rfl) (.tmp rfl)) fun Ko hKo => ?_
      go_simp
      try go_bits
      refine hKo _ _ fun fa63 fh63 => ?_
      clear hKo Ko fh62 fa62
      refine Kn.step fh63 rfl rfl (.some rfl rfl rfl) (Kn.ex_bin fh63 (.tmp rfl) .const) fun Ko hKo => ?_
      go_simp
      try go_bits
      refine hKo _ _ fun fa64 fh64 => ?_
      clear hKo Ko fh63 fa63
      refine Kn.pure fh64 rfl rfl .none (Kn.ex_pick fh64 (.tmp rfl) (.tmp rfl)) fun fa65 fh65 => ?_
      clear fh64 fa64
      refine Kn.pure fh65 rfl rfl .none (Kn.ex_move fh65 (.tmp rfl)) fun fa66 fh66 => ?_
      clear fh65 fa65
      refine Kn.pure fh66 rfl rfl (.some rfl rfl rfl) (Kn.ex_move fh66 (.tmp rfl)) fun fa67 fh67 => ?_
      clear fh66 fa66
      refine Kn.call fh67 rfl rfl (.some rfl rfl rfl) (Kn.ex_call fh67 (.cons (.tmp rfl) (.cons .const (.cons .const .nil)))) Tryd.call17 (has_nil 0 0 w6) fun e wa hp => ?_
      obtain ⟨rfl, rfl⟩ := hp
      refine ⟨_, rfl, fun fa68 fh68 => ?_⟩
      clear fh67 fa67
      refine Kn.pure fh68 rfl rfl .none (Kn.ex_pick fh68 (.tmp rfl) (.tmp rfl)) fun fa69 fh69 => ?_
      clear fh68 fa68
      refine Kn.pure fh69 rfl rfl .none (Kn.ex_move fh69 (.tmp rfl)) fun fa70 fh70 => ?_
      clear fh69 fa69
      refine Kn.pure fh70 rfl rfl (.some rfl rfl rfl) (Kn.ex_move fh70 (.tmp rfl)) fun fa71 fh71 => ?_
      clear fh70 fa70
      refine Kn.call fh71 rfl rfl (.some rfl rfl rfl) (Kn.ex_call fh71 (.cons (.tmp rfl) (.cons .const .nil))) Tryd.call21 (begin_nil 0 w6) fun e wa hp => ?_
      obtain ⟨rfl, rfl⟩ := hp
      refine ⟨_, rfl, fun fa72 fh72 => ?_⟩
      clear fh71 fa71
      refine Kn.step fh72 rfl rfl (.some rfl rfl rfl) (Kn.ex_bin fh72 (.tmp rfl) .const) fun Ko hKo => ?_
      go_simp
      try go_bits
      refine hKo _ _ fun fa73 fh73 => ?_
      clear hKo Ko fh72 fa72
      refine Kn.pure fh73 rfl rfl .none (Kn.ex_pick fh73 (.tmp rfl) (.tmp rfl)) fun fa74 fh74 => ?_
      clear fh73 fa73
      refine Kn.pure fh74 rfl rfl .none (Kn.ex_move fh74 (.tmp rfl)) fun fa75 fh75 => ?_
      clear fh74 fa74
      refine Kn.pure fh75 rfl rfl (.some rfl rfl rfl) (Kn.ex_move fh75 (.tmp rfl)) fun fa76 fh76 => ?_
      clear fh75 fa75
      refine Kn.call fh76 rfl rfl (.some rfl rfl rfl) (Kn.ex_call fh76 (.cons (.tmp rfl) .nil)) Tryd.call23 (turnedC_nil w6) fun e wa hp => ?_
      obtain ⟨rfl, rfl⟩ := hp
      refine ⟨_, rfl, fun fa77 fh77 => ?_⟩
      clear fh76 fa76
      refine Kn.step fh77 rfl rfl (.some rfl rfl rfl) (Kn.ex_bin fh77 (.tmp rfl) .const) fun Ko hKo => ?_
      go_simp
      try go_bits
      refine hKo _ _ fun fa78 fh78 => ?_
      clear hKo Ko fh77 fa77
      refine Kn.pure fh78 rfl rfl .none (Kn.ex_pick fh78 (.tmp rfl) (.tmp rfl)) fun fa79 fh79 => ?_
      clear fh78 fa78
      refine Kn.pure fh79 rfl rfl .none (Kn.ex_move fh79 (.tmp rfl)) fun fa80 fh80 => ?_
      clear fh79 fa79
      refine Kn.pure fh80 rfl rfl (.some rfl rfl rfl) (Kn.ex_move fh80 (.tmp rfl)) fun fa81 fh81 => ?_
      clear fh80 fa80
      refine Kn.call fh81 rfl rfl (.some rfl rfl rfl) (Kn.ex_call fh81 (.cons (.tmp rfl) (.cons .const .nil))) Tryd.call24 (sameC_nil w6) fun e wa hp => ?_
      obtain ⟨rfl, rfl⟩ := hp
      refine ⟨_, rfl, fun fa82 fh82 => ?_⟩
      clear fh81 fa81
      refine Kn.step fh82 rfl rfl (.some rfl rfl rfl) (Kn.ex_un fh82 (.tmp rfl)) fun Ko hKo => ?_
      go_simp
      try go_bits
      refine hKo _ _ fun fa83 fh83 => ?_
      clear hKo Ko fh82 fa82
      refine Kn.pure fh83 rfl rfl .none (Kn.ex_pick fh83 (.tmp rfl) (.tmp rfl)) fun fa84 fh84 => ?_
      clear fh83 fa83
      refine Kn.pure fh84 rfl rfl .none (Kn.ex_move fh84 (.tmp rfl)) fun fa85 fh85 => ?_
      clear fh84 fa84
      refine Kn.pure fh85 rfl rfl (.some rfl rfl rfl) (Kn.ex_move fh85 (.tmp rfl)) fun fa86 fh86 => ?_
      clear fh85 fa85
      refine Kn.step fh86 rfl rfl (.some rfl rfl rfl) (Kn.ex_bin fh86 (.tmp rfl) .const) fun Ko hKo => ?_
      go_simp
      try go_bits
      refine hKo _ _ fun fa87 fh87 => ?_
      clear hKo Ko fh86 fa86
      refine Kn.pure fh87 rfl rfl (.some rfl rfl rfl) (Kn.ex_move fh87 (.tmp rfl)) fun fa88 fh88 => ?_
      clear fh87 fa87
      refine Kn.pure fh88 rfl rfl (.some rfl rfl rfl) (Kn.ex_move fh88 (.tmp rfl)) fun fa89 fh89 => ?_
      clear fh88 fa88
      refine Kn.pure fh89 rfl rfl (.some rfl rfl rfl) (Kn.ex_move fh89 (.tmp rfl)) fun fa90 fh90 => ?_
      clear fh89 fa89
      refine Kn.call fh90 rfl rfl (.some rfl rfl rfl) (Kn.ex_call fh90 (.cons (.tmp rfl) (.cons (.tmp rfl) .nil))) Tryd.call24 (sameC_other _ w6) fun e wa hp => ?_
      obtain ⟨rfl, rfl⟩ := hp
      refine ⟨_, rfl, fun fa91 fh91 => ?_⟩
      clear fh90 fa90
      refine Kn.pure fh91 rfl rfl (.some rfl rfl rfl) (Kn.ex_pick fh91 (.tmp rfl) (.tmp rfl)) fun fa92 fh92 => ?_
      clear fh91 fa91
      refine Kn.pure fh92 rfl rfl .none (Kn.ex_pick fh92 (.tmp rfl) (.tmp rfl)) fun fa93 fh93 => ?_
      clear fh92 fa92
      refine wpList_nil ?_
      refine hK12 _ _ ?_
      clear hK12 K12
      replace fh93 := fh93.cut (.cons (t := 100) rfl (.cons (t := 10) rfl (.cons (t := 9) rfl (.cons (t := 8) rfl (.cons (t := 7) rfl (.cons (t := 6) rfl (.cons (t := 3) rfl (.cons (t := 1) rfl (.cons (t := 2) rfl .nil)))))))))
      refine Kn.no fh93 (.tmp rfl) ?_
      refine wp_skip ?_
      refine hK11 _ _ ?_
      clear hK11 K11
      replace fh93 := fh93.cut (.cons (t := 10) rfl (.cons (t := 9) rfl (.cons (t := 8) rfl (.cons (t := 7) rfl (.cons (t := 6) rfl (.cons (t := 3) rfl (.cons (t := 1) rfl (.cons (t := 2) rfl .nil))))))))
      clear HX3 HX4 HX5 HC HTN HDN
      refine wp_seq_k fun K13 hK13 => ?_
      refine wp_seq_k fun K14 hK14 => ?_
      refine wp_region_lit ?_
      refine Kn.pure fh93 rfl rfl .none (Kn.ex_move fh93 (.tmp rfl)) fun fa94 fh94 => ?_
      clear fh93 fa93
      refine Kn.step fh94 rfl rfl .none (Kn.ex_bin fh94 (.tmp rfl) .const) fun Ko hKo => ?_
      go_simp
      try go_bits
      refine hKo _ _ fun fa95 fh95 => ?_
      clear hKo Ko fh94 fa94
      refine Kn.pure fh95 rfl rfl .none (Kn.ex_move fh95 (.tmp rfl)) fun fa96 fh96 => ?_
      clear fh95 fa95
      refine Kn.pure fh96 rfl rfl (.some rfl rfl rfl) (Kn.ex_move fh96 (.tmp rfl)) fun fa97 fh97 => ?_
      clear fh96 fa96
      refine Kn.step fh97 rfl rfl (.some rfl rfl rfl) (Kn.ex_bin fh97 (.tmp rfl) .const) fun Ko hKo => ?_
      go_simp
      try go_bits
      refine hKo _ _ fun fa98 fh98 => ?_
      clear hKo Ko fh97 fa97
      refine Kn.pure fh98 rfl rfl .none (Kn.ex_pick fh98 (.tmp rfl) (.tmp rfl)) fun fa99 fh99 => ?_
      clear fh98 fa98
      refine wpList_nil ?_
      refine hK14 _ _ ?_
      clear hK14 K14
      replace fh99 := fh99.cut (.cons (t := 106) rfl (.cons (t := 9) rfl (.cons (t := 7) rfl (.cons (t := 6) rfl (.cons (t := 3) rfl (.cons (t := 1) rfl (.cons (t := 2) rfl .nil)))))))
      refine Kn.no fh99 (.tmp rfl) ?_
      refine wp_skip ?_
      refine hK13 _ _ ?_
      clear hK13 K13
      replace fh99 := fh99.cut (.cons (t := 9) rfl (.cons (t := 7) rfl (.cons (t := 6) rfl (.cons (t := 3) rfl (.cons (t := 1) rfl (.cons (t := 2) rfl .nil))))))
      have htu := turnedC_any w6 _ ga N ys HR1.out
      refine wp_seq_k fun K15 hK15 => ?_
      refine wp_region_lit ?_
      refine Kn.pure fh99 rfl rfl .none (Kn.ex_move fh99 (.tmp rfl)) fun fa100 fh100 => ?_
      clear fh99 fa99
      refine Kn.call fh100 rfl rfl .none (Kn.ex_call fh100 (.cons (.tmp rfl) .nil)) Tryd.call23 (htu) fun e w7 hp => ?_
      obtain ⟨gt, ts, rfl, hNt, hRt, hb⟩ := hp
      refine ⟨_, rfl, fun fa101 fh101 => ?_⟩
      clear fh100 fa100
      refine Kn.pure fh101 rfl rfl .none (Kn.ex_assign fh101 (.tmp rfl)) fun fa102 fh102 => ?_
      clear fh101 fa101
      refine wpList_nil ?_
      refine hK15 _ _ ?_
      clear hK15 K15
      replace fh102 := fh102.cut (.cons (t := 16) rfl (.cons (t := 9) rfl (.cons (t := 7) rfl (.cons (t := 6) rfl (.cons (t := 3) rfl (.cons (t := 1) rfl (.cons (t := 2) rfl .nil)))))))
      have HX7 := Lib.hid (HX6.out.on hb)
      replace HR1 := Lib.hid (HR1.out.on hb)
      replace HR2 := Lib.hid (HR2.out.on hb)
      have HRT := Lib.hid hRt
      have HNT := Lib.hid hNt
      have hsz : ts.length = ys.length := turn_size HR1.out.srt hNt
      have htu2 := turnedC_any w7 _ gt N ts hRt
      clear hb hNt hRt HX6 htu
      refine wp_seq_k fun K16 hK16 => ?_
      refine wp_seq_k fun K17 hK17 => ?_
      refine wp_region_lit ?_
      refine Kn.pure fh102 rfl rfl .none (Kn.ex_move fh102 (.tmp rfl)) fun fa103 fh103 => ?_
      clear fh102 fa102
      refine Kn.call fh103 rfl rfl .none (Kn.ex_call fh103 (.cons (.tmp rfl) .nil)) Tryd.call23 (htu2) fun e w8 hp => ?_
      obtain ⟨g3, vs, rfl, hNv, hRv, hb⟩ := hp
      refine ⟨_, rfl, fun fa104 fh104 => ?_⟩
      clear fh103 fa103
      have HX8 := Lib.hid (HX7.out.on hb)
      replace HR1 := Lib.hid (HR1.out.on hb)
      replace HR2 := Lib.hid (HR2.out.on hb)
      replace HRT := Lib.hid (HRT.out.on hb)
      obtain rfl : vs = ys := turn_back HR1.out.srt HNT.out hNv
      have hs := sameC_any w8 _ _ g3 ga N N vs vs hRv HR1.out
      rw [decide_eq_true ⟨rfl, rfl⟩] at hs
      clear hb HX7 htu2
      refine Kn.pure fh104 rfl rfl .none (Kn.ex_move fh104 (.tmp rfl)) fun fa105 fh105 => ?_
      clear fh104 fa104
      refine Kn.call fh105 rfl rfl .none (Kn.ex_call fh105 (.cons (.tmp rfl) (.cons (.tmp rfl) .nil))) Tryd.call24 (hs) fun e wa hp => ?_
      obtain ⟨rfl, q1, rfl⟩ := hp
      refine ⟨_, rfl, fun fa106 fh106 => ?_⟩
      clear fh105 fa105
      refine Kn.step fh106 rfl rfl .none (Kn.ex_un fh106 (.tmp rfl)) fun Ko hKo => ?_
      go_simp
      try go_bits
      refine hKo _ _ fun fa107 fh107 => ?_
      clear hKo Ko fh106 fa106
      refine Kn.pure fh107 rfl rfl .none (Kn.ex_move fh107 (.tmp rfl)) fun fa108 fh108 => ?_
      clear fh107 fa107
      refine Kn.pure fh108 rfl rfl (.some rfl rfl rfl) (Kn.ex_move fh108 (.tmp rfl)) fun fa109 fh109 => ?_
      clear fh108 fa108
      refine Kn.call fh109 rfl rfl (.some rfl rfl rfl) (Kn.ex_call fh109 (.cons (.tmp rfl) .nil)) Tryd.call11 (nodes_any (w8.drewN q1) _ gt N ts (HRT.out.drewN q1)) fun e wa hp => ?_
      obtain ⟨rfl, rfl⟩ := hp
      refine ⟨_, rfl, fun fa110 fh110 => ?_⟩
      clear fh109 fa109
      refine Kn.pure fh110 rfl rfl (.some rfl rfl rfl) (Kn.ex_move fh110 (.tmp rfl)) fun fa111 fh111 => ?_
      clear fh110 fa110
      refine Kn.call fh111 rfl rfl (.some rfl rfl rfl) (Kn.ex_call fh111 (.cons (.tmp rfl) .nil)) Tryd.call11 (nodes_any (w8.drewN q1) _ ga N vs (HR1.out.drewN q1)) fun e wa hp => ?_
      obtain ⟨rfl, rfl⟩ := hp
      refine ⟨_, rfl, fun fa112 fh112 => ?_⟩
      clear fh111 fa111
      refine Kn.step fh112 rfl rfl (.some rfl rfl rfl) (Kn.ex_bin fh112 (.tmp rfl) (.tmp rfl)) fun Ko hKo => ?_
      go_simp
      try go_bits
      refine hKo _ _ fun fa113 fh113 => ?_
      clear hKo Ko fh112 fa112
      refine Kn.pure fh113 rfl rfl .none (Kn.ex_pick fh113 (.tmp rfl) (.tmp rfl)) fun fa114 fh114 => ?_
      clear fh113 fa113
      refine Kn.pure fh114 rfl rfl .none (Kn.ex_move fh114 (.tmp rfl)) fun fa115 fh115 => ?_
      clear fh114 fa114
      refine Kn.pure fh115 rfl rfl (.some rfl rfl rfl) (Kn.ex_move fh115 (.tmp rfl)) fun fa116 fh116 => ?_
      clear fh115 fa115
      refine Kn.call fh116 rfl rfl (.some rfl rfl rfl) (Kn.ex_call fh116 (.cons (.tmp rfl) .nil)) Tryd.call12 (edges_any (w8.drewN q1) _ gt N ts (HRT.out.drewN q1)) fun e wa hp => ?_
      obtain ⟨rfl, rfl⟩ := hp
      refine ⟨_, rfl, fun fa117 fh117 => ?_⟩
      clear fh116 fa116
      rw [hsz] at fh117
      refine Kn.pure fh117 rfl rfl (.some rfl rfl rfl) (Kn.ex_move fh117 (.tmp rfl)) fun fa118 fh118 => ?_
      clear fh117 fa117
      refine Kn.call fh118 rfl rfl (.some rfl rfl rfl) (Kn.ex_call fh118 (.cons (.tmp rfl) .nil)) Tryd.call12 (edges_any (w8.drewN q1) _ ga N vs (HR1.out.drewN q1)) fun e wa hp => ?_
      obtain ⟨rfl, rfl⟩ := hp
      refine ⟨_, rfl, fun fa119 fh119 => ?_⟩
      clear fh118 fa118
      refine Kn.step fh119 rfl rfl (.some rfl rfl rfl) (Kn.ex_bin fh119 (.tmp rfl) (.tmp rfl)) fun Ko hKo => ?_
      go_simp
      try go_bits
      refine hKo _ _ fun fa120 fh120 => ?_
      clear hKo Ko fh119 fa119
      refine Kn.pure fh120 rfl rfl .none (Kn.ex_pick fh120 (.tmp rfl) (.tmp rfl)) fun fa121 fh121 => ?_
      clear fh120 fa120
      refine wpList_nil ?_
      refine hK17 _ _ ?_
      clear hK17 K17
      replace fh121 := fh121.cut (.cons (t := 127) rfl (.cons (t := 16) rfl (.cons (t := 9) rfl (.cons (t := 7) rfl (.cons (t := 6) rfl (.cons (t := 3) rfl (.cons (t := 1) rfl (.cons (t := 2) rfl .nil))))))))
      refine Kn.no fh121 (.tmp rfl) ?_
      refine wp_skip ?_
      refine hK16 _ _ ?_
      clear hK16 K16
      replace fh121 := fh121.cut (.cons (t := 16) rfl (.cons (t := 9) rfl (.cons (t := 7) rfl (.cons (t := 6) rfl (.cons (t := 3) rfl (.cons (t := 1) rfl (.cons (t := 2) rfl .nil)))))))
      have hbq := below_of_drew (w := w8) ⟨q1, rfl⟩
      have HX9 := Lib.hid (HX8.out.on hbq)
      replace HR1 := Lib.hid (HR1.out.on hbq)
      replace HR2 := Lib.hid (HR2.out.on hbq)
      replace HRT := Lib.hid (HRT.out.on hbq)
      clear hs hRv hNv hsz HX8
      generalize w8.drewN q1 = w9 at HX9 HR1 HR2 HRT hbq ⊢
      clear hbq
      have hr := refNorm_any A ca xs w9 (by omega) HX9.out.ea
      unfold NormRet at hr
      refine wp_seq_k fun K18 hK18 => ?_
      refine wp_seq_k fun K19 hK19 => ?_
      refine wp_region_lit ?_
      refine Kn.pure fh121 rfl rfl .none (Kn.ex_move fh121 (.tmp rfl)) fun fa122 fh122 => ?_
      clear fh121 fa121
      refine Kn.call fh122 rfl rfl .none (Kn.ex_call fh122 (.cons (.tmp rfl) .nil)) Tryd.call10 (hr) fun e w10 hp => ?_
      obtain ⟨gn, m, cap, ns, rfl, hm, hNz, hEz, hb, hgz⟩ := hp
      refine ⟨_, rfl, fun fa123 fh123 => ?_⟩
      clear fh122 fa122
      refine Kn.step fh123 rfl rfl .none (Kn.ex_len fh123 (.tmp rfl)) fun Ko hKo => ?_
      go_simp
      try go_bits
      refine hKo _ _ fun fa124 fh124 => ?_
      clear hKo Ko fh123 fa123
      refine Kn.pure fh124 rfl rfl .none (Kn.ex_move fh124 .const) fun fa125 fh125 => ?_
      clear fh124 fa124
      refine wpList_nil ?_
      refine hK19 _ _ ?_
      clear hK19 K19
      replace fh125 := fh125.cut (.cons (t := 131) rfl (.cons (t := 130) rfl (.cons (t := 129) rfl (.cons (t := 16) rfl (.cons (t := 9) rfl (.cons (t := 7) rfl (.cons (t := 6) rfl (.cons (t := 3) rfl (.cons (t := 1) rfl (.cons (t := 2) rfl .nil))))))))))
      subst hm
      obtain rfl : vs = ns := HN1.out.unique hNz
      have HE := Lib.hid hEz
      have HX10 := Lib.hid (HX9.out.on hb)
      replace HR1 := Lib.hid (HR1.out.on hb)
      replace HR2 := Lib.hid (HR2.out.on hb)
      replace HRT := Lib.hid (HRT.out.on hb)
      clear hr hNz hEz hb hgz HX9
      refine wp_block ?_
      refine Kn.loop (fun m fr u => ∃ (k : Nat), Kn.Kn 159 [(131, .int .i64 (k : Int)), (130, .int .i64 (vs.length : Int)), (129, .slice (some ⟨gn, 0, none⟩) vs.length cap), (16, .pointer (some ⟨gt, 0, none⟩)), (7, .pointer (some ⟨ga, 0, none⟩)), (9, .pointer (some ⟨gb, 0, none⟩)), (3, .pointer (some ⟨w.heap.size, 0, none⟩)), (1, .slice A xs.length ca), (2, .slice B zs.length cb)] fr ∧ k + m = vs.length ∧ Hid (Below w10.heap.size w10 u)) vs.length ⟨0, fh125.cut (.turn (t := 131) rfl rfl (.cons (t := 130) rfl (.cons (t := 129) rfl (.cons (t := 16) rfl (.cons (t := 7) rfl (.cons (t := 9) rfl (.cons (t := 3) rfl (.cons (t := 1) rfl (.cons (t := 2) rfl .nil))))))))), by omega, Lib.hid (Below.refl _ _)⟩ ?_
      clear fh125 fa125
      intro m20 fa126 u hI Kl20 hKl20
      obtain ⟨k, fh126, hk, HB⟩ := hI
      by_cases hlt : k < vs.length
      · have ca12 := (HE.out.on HB.out).cells hlt
        obtain ⟨x1, hx1⟩ : ∃ x, (ed vs k).1 = x := ⟨_, rfl⟩
        obtain ⟨x2, hx2⟩ : ∃ x, (ed vs k).2 = x := ⟨_, rfl⟩
        rw [hx1, hx2, Nat.zero_add] at ca12
        obtain ⟨ca1, ca2⟩ := ca12
        have hmem : (x2, x1) ∈ ts := (HNT.out.mem _).2 ((turn_mem vs x2 x1).2 (by rw [← hx1, ← hx2, ed_at vs k hlt]; exact List.getElem_mem _))
        have hha := fun v h => has_any x2 x1 v w6.heap.size gt N ts h
        simp only [decide_eq_true hmem] at hha
        have HHA := Lib.hid hha
        clear hx1 hx2 hmem hha
        refine wp_seq_k fun K21 hK21 => ?_
        refine wp_region_lit ?_
        refine Kn.step fh126 rfl rfl .none (Kn.ex_bin fh126 (.tmp rfl) (.tmp rfl)) fun Ko hKo => ?_
        go_simp
        try go_bits
        refine hKo _ _ fun fa127 fh127 => ?_
        clear hKo Ko fh126 fa126
        refine wpList_nil ?_
        refine hK21 _ _ ?_
        clear hK21 K21
        refine wp_seq_k fun K22 hK22 => ?_
        refine Kn.yes fh127 (.tmp rfl) ?_
        refine wp_skip ?_
        refine hK22 _ _ ?_
        clear hK22 K22
        replace fh127 := fh127.cut (.cons (t := 131) rfl (.cons (t := 130) rfl (.cons (t := 129) rfl (.cons (t := 16) rfl (.cons (t := 7) rfl (.cons (t := 9) rfl (.cons (t := 3) rfl (.cons (t := 1) rfl (.cons (t := 2) rfl .nil)))))))))
        refine wp_seq_k fun K23 hK23 => ?_
        refine wp_block ?_
        refine wp_seq_k fun K24 hK24 => ?_
        refine wp_region_lit ?_
        refine Kn.step fh127 rfl rfl .none (Kn.ex_indexAddr fh127 (.tmp rfl) (.tmp rfl)) fun Ko hKo => ?_
        go_simp
        try go_bits
        refine hKo _ _ fun fa128 fh128 => ?_
        clear hKo Ko fh127 fa127
        refine Kn.step fh128 rfl rfl .none (Kn.ex_load fh128 (.tmp rfl)) fun Ko hKo => ?_
        go_simp
        try go_bits
        refine hKo _ _ fun fa129 fh129 => ?_
        clear hKo Ko fh128 fa128
        refine Kn.step fh129 rfl rfl .none Kn.ex_alloc fun Ko hKo => ?_
        go_simp
        try go_bits
        refine hKo _ _ fun fa130 fh130 => ?_
        clear hKo Ko fh129 fa129
        refine Kn.stepU fh130 rfl .none (Kn.ex_store fh130 (.tmp rfl) (.tmp rfl)) fun Ko hKo => ?_
        go_simp
        try go_bits
        refine hKo _ ?_
        clear hKo Ko
        refine wpList_nil ?_
        refine hK24 _ _ ?_
        clear hK24 K24
        replace fh130 := fh130.cut (.cons (t := 18) rfl (.cons (t := 131) rfl (.cons (t := 130) rfl (.cons (t := 129) rfl (.cons (t := 16) rfl (.cons (t := 7) rfl (.cons (t := 9) rfl (.cons (t := 3) rfl (.cons (t := 1) rfl (.cons (t := 2) rfl .nil))))))))))
        refine Kn.gen (fun v => v.cell? ⟨u.heap.size, 0, none⟩ = some (.int .i64 x1) ∧ v.cell? ⟨u.heap.size, 1, none⟩ = some (.int .i64 x2) ∧ Below u.heap.size u v) ⟨(St.St.new _ _ _).cell 0 rfl, (St.St.new _ _ _).cell 1 rfl, (Below.refl _ u).alloc (Nat.le_refl _) _⟩ fun v hv => ?_
        obtain ⟨d0, d1, hbv⟩ := hv
        have HBv := Lib.hid (HB.out.trans (hbv.mono HB.out.size))
        clear ca1 ca2 hbv
        refine wp_seq_k fun K25 hK25 => ?_
        refine wp_region_lit ?_
        refine Kn.pure fh130 rfl rfl .none (Kn.ex_move fh130 (.tmp rfl)) fun fa131 fh131 => ?_
        clear fh130 fa130
        refine Kn.step fh131 rfl rfl .none (Kn.ex_fieldAddr fh131 (.tmp rfl)) fun Ko hKo => ?_
        go_simp
        try go_bits
        refine hKo _ _ fun fa132 fh132 => ?_
        clear hKo Ko fh131 fa131
        refine Kn.step fh132 rfl rfl .none (Kn.ex_load fh132 (.tmp rfl)) fun Ko hKo => ?_
        go_simp
        try go_bits
        refine hKo _ _ fun fa133 fh133 => ?_
        clear hKo Ko fh132 fa132
        refine Kn.step fh133 rfl rfl .none (Kn.ex_fieldAddr fh133 (.tmp rfl)) fun Ko hKo => ?_
        go_simp
        try go_bits
        refine hKo _ _ fun fa134 fh134 => ?_
        clear hKo Ko fh133 fa133
        refine Kn.step fh134 rfl rfl .none (Kn.ex_load fh134 (.tmp rfl)) fun Ko hKo => ?_
        go_simp
        try go_bits
        refine hKo _ _ fun fa135 fh135 => ?_
        clear hKo Ko fh134 fa134
        refine Kn.call fh135 rfl rfl .none (Kn.ex_call fh135 (.cons (.tmp rfl) (.cons (.tmp rfl) (.cons (.tmp rfl) .nil)))) Tryd.call17 (HHA.out v (HRT.out.on HBv.out)) fun e v2 hp => ?_
        obtain ⟨rfl, q2, rfl⟩ := hp
        refine ⟨_, rfl, fun fa136 fh136 => ?_⟩
        clear fh135 fa135
        refine Kn.step fh136 rfl rfl .none (Kn.ex_un fh136 (.tmp rfl)) fun Ko hKo => ?_
        go_simp
        try go_bits
        refine hKo _ _ fun fa137 fh137 => ?_
        clear hKo Ko fh136 fa136
        refine wpList_nil ?_
        refine hK25 _ _ ?_
        clear hK25 K25
        replace fh137 := fh137.cut (.cons (t := 141) rfl (.cons (t := 131) rfl (.cons (t := 130) rfl (.cons (t := 129) rfl (.cons (t := 16) rfl (.cons (t := 7) rfl (.cons (t := 9) rfl (.cons (t := 3) rfl (.cons (t := 1) rfl (.cons (t := 2) rfl .nil))))))))))
        refine Kn.no fh137 (.tmp rfl) ?_
        refine wp_skip ?_
        refine Kn.block_normal ?_
        refine hK23 _ _ ?_
        clear hK23 K23
        replace fh137 := fh137.cut (.cons (t := 131) rfl (.cons (t := 130) rfl (.cons (t := 129) rfl (.cons (t := 16) rfl (.cons (t := 7) rfl (.cons (t := 9) rfl (.cons (t := 3) rfl (.cons (t := 1) rfl (.cons (t := 2) rfl .nil)))))))))
        clear d0 d1
        refine wp_region_lit ?_
        refine Kn.step fh137 rfl rfl .none (Kn.ex_bin fh137 (.tmp rfl) .const) fun Ko hKo => ?_
        go_simp
        try go_bits
        refine hKo _ _ fun fa138 fh138 => ?_
        clear hKo Ko fh137 fa137
        refine Kn.pure fh138 rfl rfl .none (Kn.ex_move fh138 (.tmp rfl)) fun fa139 fh139 => ?_
        clear fh138 fa138
        refine wpList_nil ?_
        replace fh139 := fh139.cut (.cons (t := 131) rfl (.cons (t := 130) rfl (.cons (t := 129) rfl (.cons (t := 16) rfl (.cons (t := 7) rfl (.cons (t := 9) rfl (.cons (t := 3) rfl (.cons (t := 1) rfl (.cons (t := 2) rfl .nil)))))))))
        exact hKl20 (m20 - 1) _ _ (by omega) ⟨k + 1, fh139.cut (.turn (t := 131) rfl (by go_num) (.cons (t := 130) rfl (.cons (t := 129) rfl (.cons (t := 16) rfl (.cons (t := 7) rfl (.cons (t := 9) rfl (.cons (t := 3) rfl (.cons (t := 1) rfl (.cons (t := 2) rfl .nil))))))))), by omega, Lib.hid (HBv.out.trans ((below_of_drew ⟨q2, rfl⟩).mono HBv.out.size))⟩
      · obtain rfl : k = vs.length := by omega
        refine wp_seq_k fun K21 hK21 => ?_
        refine wp_region_lit ?_
        refine Kn.step fh126 rfl rfl .none (Kn.ex_bin fh126 (.tmp rfl) (.tmp rfl)) fun Ko hKo => ?_
        go_simp
        try go_bits
        refine hKo _ _ fun fa127 fh127 => ?_
        clear hKo Ko fh126 fa126
        refine wpList_nil ?_
        refine hK21 _ _ ?_
        clear hK21 K21
        refine wp_seq_k fun K22 hK22 => ?_
        refine Kn.no fh127 (.tmp rfl) ?_
        replace fh127 := fh127.cut (.cons (t := 131) rfl (.cons (t := 130) rfl (.cons (t := 129) rfl (.cons (t := 16) rfl (.cons (t := 7) rfl (.cons (t := 9) rfl (.cons (t := 3) rfl (.cons (t := 1) rfl (.cons (t := 2) rfl .nil)))))))))
        refine wp_exit ?_
        refine Kn.then_exit ?_
        clear hK22 K22
        refine Kn.then_exit ?_
        clear hKl20 Kl20
        refine Kn.block_exit ?_
        refine hK18 _ _ ?_
        clear hK18 K18
        replace fh127 := fh127.cut (.cons (t := 7) rfl (.cons (t := 9) rfl (.cons (t := 3) rfl (.cons (t := 1) rfl (.cons (t := 2) rfl .nil)))))
        have HXu := Lib.hid (HX10.out.on HB.out)
        replace HR1 := Lib.hid (HR1.out.on HB.out)
        replace HR2 := Lib.hid (HR2.out.on HB.out)
        have hQ1 := fun v h1 h2 => sameC_any v w1.heap.size w2.heap.size ga gb N M vs us h1 h2
        have hQ2 := fun v A1 A2 c1 c2 h1 h2 => same_any A1 A2 c1 c2 vs us v (by unfold maxLen; omega) (by unfold maxLen; omega) h1 h2
        have hn1 := fun v h => refNorm_any A ca xs v (by omega) h
        have hn2 := fun v h => refNorm_any B cb zs v (by omega) h
        have HNR1 := Lib.hid hn1
        have HNR2 := Lib.hid hn2
        clear hn1 hn2 HE HX10 HRT HNT HB hk
        by_cases hNM : N = M
        · subst hNM
          have ee : decide (N = N ∧ vs = us) = decide (vs = us) := by simp
          replace hQ1 : ∀ v, Rep v w1.heap.size ga N vs → Rep v w2.heap.size gb N us → Calls Tryd.prog 24 #[.pointer (some ⟨ga, 0, none⟩), .pointer (some ⟨gb, 0, none⟩)] v fun e w' => e = .returned (.bool (decide (vs = us))) ∧ ∃ q, w' = v.drewN q := fun v h1 h2 => by have := hQ1 v h1 h2; rwa [ee] at this
          clear ee
          generalize decide (vs = us) = bb at hQ1 hQ2
          have HQ1 := Lib.hid hQ1
          have HQ2 := Lib.hid hQ2
          clear hQ1 hQ2
          refine wp_seq_k fun K23 hK23 => ?_
          refine Kn.any (fun v => Below u.heap.size u v) (fun v v' => Below v.heap.size v v') (Kn.TL [Kn.Is (.pointer (some ⟨ga, 0, none⟩)), Kn.Is (.pointer (some ⟨gb, 0, none⟩)), Kn.Is (.bool bb), Kn.Is (.pointer (some ⟨w.heap.size, 0, none⟩)), Kn.Is (.int .i64 (N : Int)), Kn.Is (.pointer (some ⟨w.heap.size, 1, none⟩)), Kn.Is (.int .i64 (N : Int)), Kn.Is (.bool true), Kn.Is (.bool true), Kn.Is (.slice A xs.length ca), (NRow vs), Kn.Is (.slice B zs.length cb), (NRow us), Kn.Is (.bool bb), Kn.Is (.bool bb), Kn.Is (.bool true), Kn.Is (.bool true)]) (by kernel_rfl) fh127 (by kernel_rfl) (by kernel_rfl) rfl (Kn.Keeps.all (.cons Kn.Is.keep (.cons Kn.Is.keep (.cons Kn.Is.keep (.cons Kn.Is.keep (.cons Kn.Is.keep (.cons Kn.Is.keep (.cons Kn.Is.keep (.cons Kn.Is.keep (.cons Kn.Is.keep (.cons Kn.Is.keep (.cons NRow.keep (.cons Kn.Is.keep (.cons NRow.keep (.cons Kn.Is.keep (.cons Kn.Is.keep (.cons Kn.Is.keep (.cons Kn.Is.keep .nil)))))))))))))))))) (Below.refl _ u).drew ⟨?_, ?_, ?_, ?_, ?_, ?_, ?_, ?_, ?_, ?_, ?_, ?_, ?_, ?_, ?_, ?_, ?_, trivial⟩ ?_
          · refine Kn.ok fun fa128 u2 L fh128 hS hH => ?_
            exact Kn.apure fh128 .none (Kn.ex_move fh128 (.tmp rfl)) rfl hS (Below.refl _ _)
          · refine Kn.ok fun fa128 u2 L fh128 hS hH => ?_
            exact Kn.apure fh128 .none (Kn.ex_move fh128 (.tmp rfl)) rfl hS (Below.refl _ _)
          · refine Kn.ok fun fa128 u2 L fh128 hS hH => ?_
            replace fh128 := fh128.more (show fa128.eval (.tmp 143) = .pointer (some ⟨ga, 0, none⟩) from hH 0 143 rfl rfl)
            replace fh128 := fh128.more (show fa128.eval (.tmp 144) = .pointer (some ⟨gb, 0, none⟩) from hH 1 144 rfl rfl)
            refine Kn.acall fh128 .none (Kn.ex_call fh128 (.cons (.tmp rfl) (.cons (.tmp rfl) .nil))) Tryd.call24 (HQ1.out u2 (HR1.out.on hS) (HR2.out.on hS)) fun e u3 hp => ?_
            obtain ⟨rfl, q5, rfl⟩ := hp
            exact ⟨_, rfl, rfl, (hS.trans ((below_of_drew ⟨q5, rfl⟩).mono hS.size)), (below_of_drew ⟨q5, rfl⟩)⟩
          · refine Kn.ok fun fa128 u2 L fh128 hS hH => ?_
            refine Kn.aop fh128 .none (Kn.ex_indexAddr fh128 (.tmp rfl) .const) fun Ko hKo => ?_
            go_simp
            try go_bits
            exact hKo _ _ rfl hS (Below.refl _ _)
          · refine Kn.ok fun fa128 u2 L fh128 hS hH => ?_
            replace fh128 := fh128.more (show fa128.eval (.tmp 146) = .pointer (some ⟨w.heap.size, 0, none⟩) from hH 3 146 rfl rfl)
            have c0 := (HXu.out.on hS).c0
            refine Kn.aop fh128 .none (Kn.ex_load fh128 (.tmp rfl)) fun Ko hKo => ?_
            go_simp
            try go_bits
            exact hKo _ _ rfl hS (Below.refl _ _)
          · refine Kn.ok fun fa128 u2 L fh128 hS hH => ?_
            refine Kn.aop fh128 .none (Kn.ex_indexAddr fh128 (.tmp rfl) .const) fun Ko hKo => ?_
            go_simp
            try go_bits
            exact hKo _ _ rfl hS (Below.refl _ _)
          · refine Kn.ok fun fa128 u2 L fh128 hS hH => ?_
            replace fh128 := fh128.more (show fa128.eval (.tmp 148) = .pointer (some ⟨w.heap.size, 1, none⟩) from hH 5 148 rfl rfl)
            have c1 := (HXu.out.on hS).c1
            refine Kn.aop fh128 .none (Kn.ex_load fh128 (.tmp rfl)) fun Ko hKo => ?_
            go_simp
            try go_bits
            exact hKo _ _ rfl hS (Below.refl _ _)
          · refine Kn.ok fun fa128 u2 L fh128 hS hH => ?_
            replace fh128 := fh128.more (show fa128.eval (.tmp 147) = .int .i64 (N : Int) from hH 4 147 rfl rfl)
            replace fh128 := fh128.more (show fa128.eval (.tmp 149) = .int .i64 (N : Int) from hH 6 149 rfl rfl)
            refine Kn.aop fh128 .none (Kn.ex_bin fh128 (.tmp rfl) (.tmp rfl)) fun Ko hKo => ?_
            go_simp
            try go_bits
            exact hKo _ _ rfl hS (Below.refl _ _)
          · refine Kn.ok fun fa128 u2 L fh128 hS hH => ?_
            replace fh128 := fh128.more (show fa128.eval (.tmp 150) = .bool true from hH 7 150 rfl rfl)
            exact Kn.apure fh128 .none (Kn.ex_move fh128 (.tmp rfl)) rfl hS (Below.refl _ _)
          · refine Kn.ok fun fa128 u2 L fh128 hS hH => ?_
            replace fh128 := fh128.more (show fa128.eval (.tmp 151) = .bool true from hH 8 151 rfl rfl)
            exact Kn.apure fh128 (.some rfl rfl rfl) (Kn.ex_move fh128 (.tmp rfl)) rfl hS (Below.refl _ _)
          · refine Kn.ok fun fa128 u2 L fh128 hS hH => ?_
            replace fh128 := fh128.more (show fa128.eval (.tmp 152) = .slice A xs.length ca from hH 9 152 rfl rfl)
            replace fh128 := fh128.more (show fa128.eval (.tmp 151) = .bool true from hH 8 151 rfl rfl)
            refine Kn.acall fh128 (.some rfl rfl rfl) (Kn.ex_call fh128 (.cons (.tmp rfl) .nil)) Tryd.call10 (HNR1.out u2 (HXu.out.on hS).ea) fun e u3 hp => ?_
            obtain ⟨gn, nn, cn, ls, rfl, hm, hNz, hEz, hbz, hgz⟩ := hp
            exact ⟨_, rfl, ⟨gn, nn, cn, rfl, by rw [HN1.out.unique hNz]; exact hm, by rw [HN1.out.unique hNz]; exact hEz⟩, (hS.trans (hbz.mono hS.size)), hbz⟩
          · refine Kn.ok fun fa128 u2 L fh128 hS hH => ?_
            replace fh128 := fh128.more (show fa128.eval (.tmp 151) = .bool true from hH 8 151 rfl rfl)
            exact Kn.apure fh128 (.some rfl rfl rfl) (Kn.ex_move fh128 (.tmp rfl)) rfl hS (Below.refl _ _)
          · refine Kn.ok fun fa128 u2 L fh128 hS hH => ?_
            replace fh128 := fh128.more (show fa128.eval (.tmp 154) = .slice B zs.length cb from hH 11 154 rfl rfl)
            replace fh128 := fh128.more (show fa128.eval (.tmp 151) = .bool true from hH 8 151 rfl rfl)
            refine Kn.acall fh128 (.some rfl rfl rfl) (Kn.ex_call fh128 (.cons (.tmp rfl) .nil)) Tryd.call10 (HNR2.out u2 (HXu.out.on hS).eb) fun e u3 hp => ?_
            obtain ⟨gn, nn, cn, ls, rfl, hm, hNz, hEz, hbz, hgz⟩ := hp
            exact ⟨_, rfl, ⟨gn, nn, cn, rfl, by rw [HN2.out.unique hNz]; exact hm, by rw [HN2.out.unique hNz]; exact hEz⟩, (hS.trans (hbz.mono hS.size)), hbz⟩
          · refine Kn.ok fun fa128 u2 L fh128 hS hH => ?_
            obtain ⟨g153, n153, c153, e153, hn153, hE153⟩ : (NRow vs) (fa128.eval (.tmp 153)) u2 := hH 10 153 rfl rfl
            replace fh128 := fh128.more e153
            clear e153
            obtain ⟨g155, n155, c155, e155, hn155, hE155⟩ : (NRow us) (fa128.eval (.tmp 155)) u2 := hH 12 155 rfl rfl
            replace fh128 := fh128.more e155
            clear e155
            replace fh128 := fh128.more (show fa128.eval (.tmp 151) = .bool true from hH 8 151 rfl rfl)
            subst hn153
            subst hn155
            refine Kn.acall fh128 (.some rfl rfl rfl) (Kn.ex_call fh128 (.cons (.tmp rfl) (.cons (.tmp rfl) .nil))) Tryd.call13 (HQ2.out u2 _ _ _ _ hE153 hE155) fun e u3 hp => ?_
            obtain ⟨rfl, q6, rfl⟩ := hp
            exact ⟨_, rfl, rfl, (hS.trans ((below_of_drew ⟨q6, rfl⟩).mono hS.size)), (below_of_drew ⟨q6, rfl⟩)⟩
          · refine Kn.ok fun fa128 u2 L fh128 hS hH => ?_
            replace fh128 := fh128.more (show fa128.eval (.tmp 151) = .bool true from hH 8 151 rfl rfl)
            replace fh128 := fh128.more (show fa128.eval (.tmp 156) = .bool bb from hH 13 156 rfl rfl)
            exact Kn.apure fh128 .none (Kn.ex_pick fh128 (.tmp rfl) (.tmp rfl)) rfl hS (Below.refl _ _)
          · refine Kn.ok fun fa128 u2 L fh128 hS hH => ?_
            replace fh128 := fh128.more (show fa128.eval (.tmp 145) = .bool bb from hH 2 145 rfl rfl)
            replace fh128 := fh128.more (show fa128.eval (.tmp 157) = .bool bb from hH 14 157 rfl rfl)
            refine Kn.aop fh128 .none (Kn.ex_bin fh128 (.tmp rfl) (.tmp rfl)) fun Ko hKo => ?_
            go_simp
            try go_bits
            exact hKo _ _ rfl hS (Below.refl _ _)
          · refine Kn.ok fun fa128 u2 L fh128 hS hH => ?_
            replace fh128 := fh128.more (show fa128.eval (.tmp 158) = .bool true from hH 15 158 rfl rfl)
            exact Kn.apure fh128 .none (Kn.ex_assign fh128 (.tmp rfl)) rfl hS (Below.refl _ _)
          intro fa128 w11 fh128 hS hT
          clear fh127 fa127
          replace fh128 := fh128.more (show fa128.eval (.tmp 6) = .bool true from hT 16 6 rfl)
          clear hT
          refine hK23 _ _ ?_
          clear hK23 K23
          replace fh128 := fh128.cut (.cons (t := 6) rfl .nil)
          refine wp_ret ?_
          exact Kn.ret1 fh128 rfl rfl ⟨rfl, HXu.out.bel.trans (hS.mono (Nat.le_of_lt HXu.out.lt))⟩
        · have ee : decide (N = M ∧ vs = us) = false := decide_eq_false (fun h => hNM h.1)
          simp only [ee] at hQ1
          have qn : ((N : Int) == (M : Int)) = false := by rw [beq_eq_false_iff_ne]; omega
          have qn2 : (N == M) = false := by rw [beq_eq_false_iff_ne]; omega
          have HQ1 := Lib.hid hQ1
          clear hQ1 hQ2 ee hNM
          refine wp_seq_k fun K23 hK23 => ?_
          refine Kn.any (fun v => Below u.heap.size u v) (fun v v' => Below v.heap.size v v') (Kn.TL [Kn.Is (.pointer (some ⟨ga, 0, none⟩)), Kn.Is (.pointer (some ⟨gb, 0, none⟩)), Kn.Is (.bool false), Kn.Is (.pointer (some ⟨w.heap.size, 0, none⟩)), Kn.Is (.int .i64 (N : Int)), Kn.Is (.pointer (some ⟨w.heap.size, 1, none⟩)), Kn.Is (.int .i64 (M : Int)), Kn.Is (.bool false), Kn.Is (.bool false), Kn.Is (undef), Kn.Is (undef), Kn.Is (undef), Kn.Is (undef), Kn.Is (undef), Kn.Is (.bool false), Kn.Is (.bool true), Kn.Is (.bool true)]) (by kernel_rfl) fh127 (by kernel_rfl) (by kernel_rfl) rfl (Kn.Keeps.all (.cons Kn.Is.keep (.cons Kn.Is.keep (.cons Kn.Is.keep (.cons Kn.Is.keep (.cons Kn.Is.keep (.cons Kn.Is.keep (.cons Kn.Is.keep (.cons Kn.Is.keep (.cons Kn.Is.keep (.cons Kn.Is.keep (.cons Kn.Is.keep (.cons Kn.Is.keep (.cons Kn.Is.keep (.cons Kn.Is.keep (.cons Kn.Is.keep (.cons Kn.Is.keep (.cons Kn.Is.keep .nil)))))))))))))))))) (Below.refl _ u).drew ⟨?_, ?_, ?_, ?_, ?_, ?_, ?_, ?_, ?_, ?_, ?_, ?_, ?_, ?_, ?_, ?_, ?_, trivial⟩ ?_
          · refine Kn.ok fun fa128 u2 L fh128 hS hH => ?_
            exact Kn.apure fh128 .none (Kn.ex_move fh128 (.tmp rfl)) rfl hS (Below.refl _ _)
          · refine Kn.ok fun fa128 u2 L fh128 hS hH => ?_
            exact Kn.apure fh128 .none (Kn.ex_move fh128 (.tmp rfl)) rfl hS (Below.refl _ _)
          · refine Kn.ok fun fa128 u2 L fh128 hS hH => ?_
            replace fh128 := fh128.more (show fa128.eval (.tmp 143) = .pointer (some ⟨ga, 0, none⟩) from hH 0 143 rfl rfl)
            replace fh128 := fh128.more (show fa128.eval (.tmp 144) = .pointer (some ⟨gb, 0, none⟩) from hH 1 144 rfl rfl)
            refine Kn.acall fh128 .none (Kn.ex_call fh128 (.cons (.tmp rfl) (.cons (.tmp rfl) .nil))) Tryd.call24 (HQ1.out u2 (HR1.out.on hS) (HR2.out.on hS)) fun e u3 hp => ?_
            obtain ⟨rfl, q5, rfl⟩ := hp
            exact ⟨_, rfl, rfl, (hS.trans ((below_of_drew ⟨q5, rfl⟩).mono hS.size)), (below_of_drew ⟨q5, rfl⟩)⟩
          · refine Kn.ok fun fa128 u2 L fh128 hS hH => ?_
            refine Kn.aop fh128 .none (Kn.ex_indexAddr fh128 (.tmp rfl) .const) fun Ko hKo => ?_
            go_simp
            try go_bits
            exact hKo _ _ rfl hS (Below.refl _ _)
          · refine Kn.ok fun fa128 u2 L fh128 hS hH => ?_
            replace fh128 := fh128.more (show fa128.eval (.tmp 146) = .pointer (some ⟨w.heap.size, 0, none⟩) from hH 3 146 rfl rfl)
            have c0 := (HXu.out.on hS).c0
            refine Kn.aop fh128 .none (Kn.ex_load fh128 (.tmp rfl)) fun Ko hKo => ?_
            go_simp
            try go_bits
            exact hKo _ _ rfl hS (Below.refl _ _)
          · refine Kn.ok fun fa128 u2 L fh128 hS hH => ?_
            refine Kn.aop fh128 .none (Kn.ex_indexAddr fh128 (.tmp rfl) .const) fun Ko hKo => ?_
            go_simp
            try go_bits
            exact hKo _ _ rfl hS (Below.refl _ _)
          · refine Kn.ok fun fa128 u2 L fh128 hS hH => ?_
            replace fh128 := fh128.more (show fa128.eval (.tmp 148) = .pointer (some ⟨w.heap.size, 1, none⟩) from hH 5 148 rfl rfl)
            have c1 := (HXu.out.on hS).c1
            refine Kn.aop fh128 .none (Kn.ex_load fh128 (.tmp rfl)) fun Ko hKo => ?_
            go_simp
            try go_bits
            exact hKo _ _ rfl hS (Below.refl _ _)
          · refine Kn.ok fun fa128 u2 L fh128 hS hH => ?_
            replace fh128 := fh128.more (show fa128.eval (.tmp 147) = .int .i64 (N : Int) from hH 4 147 rfl rfl)
            replace fh128 := fh128.more (show fa128.eval (.tmp 149) = .int .i64 (M : Int) from hH 6 149 rfl rfl)
            refine Kn.aop fh128 .none (Kn.ex_bin fh128 (.tmp rfl) (.tmp rfl)) fun Ko hKo => ?_
            go_simp
            try go_bits
            exact hKo _ _ rfl hS (Below.refl _ _)
          · refine Kn.ok fun fa128 u2 L fh128 hS hH => ?_
            replace fh128 := fh128.more (show fa128.eval (.tmp 150) = .bool false from hH 7 150 rfl rfl)
            exact Kn.apure fh128 .none (Kn.ex_move fh128 (.tmp rfl)) rfl hS (Below.refl _ _)
          · refine Kn.ok fun fa128 u2 L fh128 hS hH => ?_
            replace fh128 := fh128.more (show fa128.eval (.tmp 151) = .bool false from hH 8 151 rfl rfl)
            exact Kn.askip fh128 (.some rfl rfl rfl) rfl
          · refine Kn.ok fun fa128 u2 L fh128 hS hH => ?_
            replace fh128 := fh128.more (show fa128.eval (.tmp 151) = .bool false from hH 8 151 rfl rfl)
            exact Kn.askip fh128 (.some rfl rfl rfl) rfl
          · refine Kn.ok fun fa128 u2 L fh128 hS hH => ?_
            replace fh128 := fh128.more (show fa128.eval (.tmp 151) = .bool false from hH 8 151 rfl rfl)
            exact Kn.askip fh128 (.some rfl rfl rfl) rfl
          · refine Kn.ok fun fa128 u2 L fh128 hS hH => ?_
            replace fh128 := fh128.more (show fa128.eval (.tmp 151) = .bool false from hH 8 151 rfl rfl)
            exact Kn.askip fh128 (.some rfl rfl rfl) rfl
          · refine Kn.ok fun fa128 u2 L fh128 hS hH => ?_
            replace fh128 := fh128.more (show fa128.eval (.tmp 151) = .bool false from hH 8 151 rfl rfl)
            exact Kn.askip fh128 (.some rfl rfl rfl) rfl
          · refine Kn.ok fun fa128 u2 L fh128 hS hH => ?_
            replace fh128 := fh128.more (show fa128.eval (.tmp 151) = .bool false from hH 8 151 rfl rfl)
            exact Kn.apure fh128 .none (Kn.ex_pick fh128 (.tmp rfl) .const) rfl hS (Below.refl _ _)
          · refine Kn.ok fun fa128 u2 L fh128 hS hH => ?_
            replace fh128 := fh128.more (show fa128.eval (.tmp 145) = .bool false from hH 2 145 rfl rfl)
            replace fh128 := fh128.more (show fa128.eval (.tmp 157) = .bool false from hH 14 157 rfl rfl)
            refine Kn.aop fh128 .none (Kn.ex_bin fh128 (.tmp rfl) (.tmp rfl)) fun Ko hKo => ?_
            go_simp
            try go_bits
            exact hKo _ _ rfl hS (Below.refl _ _)
          · refine Kn.ok fun fa128 u2 L fh128 hS hH => ?_
            replace fh128 := fh128.more (show fa128.eval (.tmp 158) = .bool true from hH 15 158 rfl rfl)
            exact Kn.apure fh128 .none (Kn.ex_assign fh128 (.tmp rfl)) rfl hS (Below.refl _ _)
          intro fa128 w11 fh128 hS hT
          clear fh127 fa127
          replace fh128 := fh128.more (show fa128.eval (.tmp 6) = .bool true from hT 16 6 rfl)
          clear hT
          refine hK23 _ _ ?_
          clear hK23 K23
          replace fh128 := fh128.cut (.cons (t := 6) rfl .nil)
          refine wp_ret ?_
          exact Kn.ret1 fh128 rfl rfl ⟨rfl, HXu.out.bel.trans (hS.mono (Nat.le_of_lt HXu.out.lt))⟩
    · have c1 := HX2.out.c1
      have hbu := build_no q B cb zs w2 HX2.out.eb hg2
      unfold faultV at hbu
      generalize wrongP q zs = e2 at hbu
      refine wp_seq_k fun K7 hK7 => ?_
      refine wp_region_lit ?_
      refine Kn.step fh21 rfl rfl .none (Kn.ex_indexAddr fh21 (.tmp rfl) .const) fun Ko hKo => ?_
      go_simp
      try go_bits
      refine hKo _ _ fun fa22 fh22 => ?_
      clear hKo Ko fh21 fa21
      refine Kn.step fh22 rfl rfl .none (Kn.ex_load fh22 (.tmp rfl)) fun Ko hKo => ?_
      go_simp
      try go_bits
      refine hKo _ _ fun fa23 fh23 => ?_
      clear hKo Ko fh22 fa22
      refine Kn.pure fh23 rfl rfl .none (Kn.ex_move fh23 (.tmp rfl)) fun fa24 fh24 => ?_
      clear fh23 fa23
      refine Kn.call fh24 rfl rfl .none (Kn.ex_call fh24 (.cons (.tmp rfl) (.cons (.tmp rfl) .nil))) Tryd.call6 (hbu) fun e w3 hp => ?_
      obtain ⟨rfl, hb⟩ := hp
      refine ⟨_, rfl, fun fa25 fh25 => ?_⟩
      clear fh24 fa24
      refine Kn.pure fh25 rfl rfl .none (Kn.ex_move fh25 (.tmp rfl)) fun fa26 fh26 => ?_
      clear fh25 fa25
      refine Kn.pure fh26 rfl rfl .none (Kn.ex_extract fh26 (.tmp rfl) rfl) fun fa27 fh27 => ?_
      clear fh26 fa26
      refine Kn.pure fh27 rfl rfl .none (Kn.ex_extract fh27 (.tmp rfl) rfl) fun fa28 fh28 => ?_
      clear fh27 fa27
      refine Kn.pure fh28 rfl rfl .none (Kn.ex_assign fh28 (.tmp rfl)) fun fa29 fh29 => ?_
      clear fh28 fa28
      refine Kn.pure fh29 rfl rfl .none (Kn.ex_assign fh29 (.tmp rfl)) fun fa30 fh30 => ?_
      clear fh29 fa29
      refine wpList_nil ?_
      refine hK7 _ _ ?_
      clear hK7 K7
      replace fh30 := fh30.cut (.cons (t := 10) rfl (.cons (t := 9) rfl (.cons (t := 8) rfl (.cons (t := 7) rfl (.cons (t := 6) rfl (.cons (t := 3) rfl (.cons (t := 1) rfl (.cons (t := 2) rfl .nil))))))))
      have HX3 := Lib.hid (HX2.out.on hb)
      try replace HR1 := Lib.hid (HR1.out.on hb)
      clear hb hbu c1 HX2 hg2
      refine wp_seq_k fun K8 hK8 => ?_
      refine wp_region_lit ?_
      refine Kn.pure fh30 rfl rfl .none (Kn.ex_assign fh30 .const) fun fa31 fh31 => ?_
      clear fh30 fa30
      refine wpList_nil ?_
      refine hK8 _ _ ?_
      clear hK8 K8
      refine wp_seq_k fun K9 hK9 => ?_
      refine wp_region_lit ?_
      refine Kn.pure fh31 rfl rfl .none (Kn.ex_move fh31 (.tmp rfl)) fun fa32 fh32 => ?_
      clear fh31 fa31
      refine Kn.call fh32 rfl rfl .none (Kn.ex_call fh32 (.cons (.tmp rfl) (.cons .const .nil))) Tryd.call15 (HTN.out w3) fun e w4 hp => ?_
      obtain ⟨rfl, rfl⟩ := hp
      refine ⟨_, rfl, fun fa33 fh33 => ?_⟩
      clear fh32 fa32
      refine Kn.pure fh33 rfl rfl .none (Kn.ex_move fh33 (.tmp rfl)) fun fa34 fh34 => ?_
      clear fh33 fa33
      refine Kn.pure fh34 rfl rfl .none (Kn.ex_extract fh34 (.tmp rfl) rfl) fun fa35 fh35 => ?_
      clear fh34 fa34
      refine Kn.pure fh35 rfl rfl .none (Kn.ex_extract fh35 (.tmp rfl) rfl) fun fa36 fh36 => ?_
      clear fh35 fa35
      refine Kn.pure fh36 rfl rfl .none (Kn.ex_assign fh36 (.tmp rfl)) fun fa37 fh37 => ?_
      clear fh36 fa36
      refine Kn.pure fh37 rfl rfl .none (Kn.ex_assign fh37 (.tmp rfl)) fun fa38 fh38 => ?_
      clear fh37 fa37
      refine wpList_nil ?_
      refine hK9 _ _ ?_
      clear hK9 K9
      replace fh38 := fh38.cut (.cons (t := 13) rfl (.cons (t := 11) rfl (.cons (t := 10) rfl (.cons (t := 9) rfl (.cons (t := 8) rfl (.cons (t := 7) rfl (.cons (t := 6) rfl (.cons (t := 3) rfl (.cons (t := 1) rfl (.cons (t := 2) rfl .nil))))))))))
      refine wp_seq_k fun K10 hK10 => ?_
      refine wp_region_lit ?_
      refine Kn.pure fh38 rfl rfl .none (Kn.ex_move fh38 (.tmp rfl)) fun fa39 fh39 => ?_
      clear fh38 fa38
      refine Kn.call fh39 rfl rfl .none (Kn.ex_call fh39 (.cons (.tmp rfl) (.cons .const .nil))) Tryd.call16 (HDN.out w3) fun e w4 hp => ?_
      obtain ⟨rfl, rfl⟩ := hp
      refine ⟨_, rfl, fun fa40 fh40 => ?_⟩
      clear fh39 fa39
      refine Kn.pure fh40 rfl rfl .none (Kn.ex_move fh40 (.tmp rfl)) fun fa41 fh41 => ?_
      clear fh40 fa40
      refine Kn.pure fh41 rfl rfl .none (Kn.ex_extract fh41 (.tmp rfl) rfl) fun fa42 fh42 => ?_
      clear fh41 fa41
      refine Kn.pure fh42 rfl rfl .none (Kn.ex_extract fh42 (.tmp rfl) rfl) fun fa43 fh43 => ?_
      clear fh42 fa42
      refine Kn.pure fh43 rfl rfl .none (Kn.ex_assign fh43 (.tmp rfl)) fun fa44 fh44 => ?_
      clear fh43 fa43
      refine Kn.pure fh44 rfl rfl .none (Kn.ex_assign fh44 (.tmp rfl)) fun fa45 fh45 => ?_
      clear fh44 fa44
      refine wpList_nil ?_
      refine hK10 _ _ ?_
      clear hK10 K10
      replace fh45 := fh45.cut (.cons (t := 15) rfl (.cons (t := 13) rfl (.cons (t := 11) rfl (.cons (t := 10) rfl (.cons (t := 9) rfl (.cons (t := 8) rfl (.cons (t := 7) rfl (.cons (t := 6) rfl (.cons (t := 3) rfl (.cons (t := 1) rfl (.cons (t := 2) rfl .nil)))))))))))
      refine wp_seq_k fun K11 hK11 => ?_
      refine wp_seq_k fun K12 hK12 => ?_
      refine wp_region_lit ?_
      refine Kn.pure fh45 rfl rfl .none (Kn.ex_move fh45 (.tmp rfl)) fun fa46 fh46 => ?_
      clear fh45 fa45
      refine Kn.call fh46 rfl rfl .none (Kn.ex_call fh46 (.cons (.tmp rfl) .nil)) Tryd.call8 (HC.out w3 HX3.out.tab) fun e w4 hp => ?_
      obtain ⟨rfl, hb⟩ := hp
      refine ⟨_, rfl, fun fa47 fh47 => ?_⟩
      clear fh46 fa46
      have HX4 := Lib.hid (HX3.out.on hb)
      try replace HR1 := Lib.hid (HR1.out.on hb)
      try replace HR2 := Lib.hid (HR2.out.on hb)
      clear hb
      refine Kn.step fh47 rfl rfl .none (Kn.ex_bin fh47 (.tmp rfl) .const) fun Ko hKo => ?_
      go_simp
      try go_bits
      refine hKo _ _ fun fa48 fh48 => ?_
      clear hKo Ko fh47 fa47
      refine Kn.pure fh48 rfl rfl .none (Kn.ex_move fh48 (.tmp rfl)) fun fa49 fh49 => ?_
      clear fh48 fa48
      refine Kn.pure fh49 rfl rfl (.some rfl rfl rfl) (Kn.ex_move fh49 (.tmp rfl)) fun fa50 fh50 => ?_
      clear fh49 fa49
      refine Kn.call fh50 rfl rfl (.some rfl rfl rfl) (Kn.ex_call fh50 (.cons (.tmp rfl) .nil)) Tryd.call8 (HC.out w4 HX4.out.tab) fun e w5 hp => ?_
      obtain ⟨rfl, hb⟩ := hp
      refine ⟨_, rfl, fun fa51 fh51 => ?_⟩
      clear fh50 fa50
      have HX5 := Lib.hid (HX4.out.on hb)
      try replace HR1 := Lib.hid (HR1.out.on hb)
      try replace HR2 := Lib.hid (HR2.out.on hb)
      clear hb
      refine Kn.step fh51 rfl rfl (.some rfl rfl rfl) (Kn.ex_bin fh51 (.tmp rfl) .const) fun Ko hKo => ?_
      go_simp
      try go_bits
      refine hKo _ _ fun fa52 fh52 => ?_
      clear hKo Ko fh51 fa51
      refine Kn.pure fh52 rfl rfl .none (Kn.ex_pick fh52 (.tmp rfl) (.tmp rfl)) fun fa53 fh53 => ?_
      clear fh52 fa52
      refine Kn.pure fh53 rfl rfl .none (Kn.ex_move fh53 (.tmp rfl)) fun fa54 fh54 => ?_
      clear fh53 fa53
      refine Kn.pure fh54 rfl rfl (.some rfl rfl rfl) (Kn.ex_move fh54 (.tmp rfl)) fun fa55 fh55 => ?_
      clear fh54 fa54
      refine Kn.call fh55 rfl rfl (.some rfl rfl rfl) (Kn.ex_call fh55 (.cons (.tmp rfl) .nil)) Tryd.call11 (nodes_nil w5) fun e wa hp => ?_
      obtain ⟨rfl, rfl⟩ := hp
      refine ⟨_, rfl, fun fa56 fh56 => ?_⟩
      clear fh55 fa55
      refine Kn.pure fh56 rfl rfl (.some rfl rfl rfl) (Kn.ex_move fh56 (.tmp rfl)) fun fa57 fh57 => ?_
      clear fh56 fa56
      refine Kn.call fh57 rfl rfl (.some rfl rfl rfl) (Kn.ex_call fh57 (.cons (.tmp rfl) .nil)) Tryd.call12 (edges_nil w5) fun e wa hp => ?_
      obtain ⟨rfl, rfl⟩ := hp
      refine ⟨_, rfl, fun fa58 fh58 => ?_⟩
      clear fh57 fa57
      refine Kn.step fh58 rfl rfl (.some rfl rfl rfl) (Kn.ex_bin fh58 (.tmp rfl) (.tmp rfl)) fun Ko hKo => ?_
      go_simp
      try go_bits
      refine hKo _ _ fun fa59 fh59 => ?_
      clear hKo Ko fh58 fa58
      refine Kn.pure fh59 rfl rfl (.some rfl rfl rfl) (Kn.ex_move fh59 (.tmp rfl)) fun fa60 fh60 => ?_
      clear fh59 fa59
      refine Kn.call fh60 rfl rfl (.some rfl rfl rfl) (Kn.ex_call fh60 (.cons (.tmp rfl) .nil)) Tryd.call14 (list_nil w5) fun e w6 hp => ?_
      obtain ⟨Al, rfl, hb⟩ := hp
      refine ⟨_, rfl, fun fa61 fh61 => ?_⟩
      clear fh60 fa60
      have HX6 := Lib.hid (HX5.out.on hb)
      try replace HR1 := Lib.hid (HR1.out.on hb)
      try replace HR2 := Lib.hid (HR2.out.on hb)
      clear hb
      refine Kn.step fh61 rfl rfl (.some rfl rfl rfl) (Kn.ex_len fh61 (.tmp rfl)) fun Ko hKo => ?_
      go_simp
      try go_bits
      refine hKo _ _ fun fa62 fh62 => ?_
      clear hKo Ko fh61 fa61
      refine Kn.step fh62 rfl rfl (.some rfl rfl rfl) (Kn.ex_bin fh62 (.tmp rfl) (.tmp rfl)) fun Ko hKo => ?_
      go_simp
      try go_bits
      refine hKo _ _ fun fa63 fh63 => ?_
      clear hKo Ko fh62 fa62
      refine Kn.step fh63 rfl rfl (.some rfl rfl rfl) (Kn.ex_bin fh63 (.tmp rfl) .const) fun Ko hKo => ?_
      go_simp
      try go_bits
      refine hKo _ _ fun fa64 fh64 => ?_
      clear hKo Ko fh63 fa63
      refine Kn.pure fh64 rfl rfl .none (Kn.ex_pick fh64 (.tmp rfl) (.tmp rfl)) fun fa65 fh65 => ?_
      clear fh64 fa64
      refine Kn.pure fh65 rfl rfl .none (Kn.ex_move fh65 (.tmp rfl)) fun fa66 fh66 => ?_
      clear fh65 fa65
      refine Kn.pure fh66 rfl rfl (.some rfl rfl rfl) (Kn.ex_move fh66 (.tmp rfl)) fun fa67 fh67 => ?_
      clear fh66 fa66
      refine Kn.call fh67 rfl rfl (.some rfl rfl rfl) (Kn.ex_call fh67 (.cons (.tmp rfl) (.cons .const (.cons .const .nil)))) Tryd.call17 (has_nil 0 0 w6) fun e wa hp => ?_
      obtain ⟨rfl, rfl⟩ := hp
      refine ⟨_, rfl, fun fa68 fh68 => ?_⟩
      clear fh67 fa67
      refine Kn.pure fh68 rfl rfl .none (Kn.ex_pick fh68 (.tmp rfl) (.tmp rfl)) fun fa69 fh69 => ?_
      clear fh68 fa68
      refine Kn.pure fh69 rfl rfl .none (Kn.ex_move fh69 (.tmp rfl)) fun fa70 fh70 => ?_
      clear fh69 fa69
      refine Kn.pure fh70 rfl rfl (.some rfl rfl rfl) (Kn.ex_move fh70 (.tmp rfl)) fun fa71 fh71 => ?_
      clear fh70 fa70
      refine Kn.call fh71 rfl rfl (.some rfl rfl rfl) (Kn.ex_call fh71 (.cons (.tmp rfl) (.cons .const .nil))) Tryd.call21 (begin_nil 0 w6) fun e wa hp => ?_
      obtain ⟨rfl, rfl⟩ := hp
      refine ⟨_, rfl, fun fa72 fh72 => ?_⟩
      clear fh71 fa71
      refine Kn.step fh72 rfl rfl (.some rfl rfl rfl) (Kn.ex_bin fh72 (.tmp rfl) .const) fun Ko hKo => ?_
      go_simp
      try go_bits
      refine hKo _ _ fun fa73 fh73 => ?_
      clear hKo Ko fh72 fa72
      refine Kn.pure fh73 rfl rfl .none (Kn.ex_pick fh73 (.tmp rfl) (.tmp rfl)) fun fa74 fh74 => ?_
      clear fh73 fa73
      refine Kn.pure fh74 rfl rfl .none (Kn.ex_move fh74 (.tmp rfl)) fun fa75 fh75 => ?_
      clear fh74 fa74
      refine Kn.pure fh75 rfl rfl (.some rfl rfl rfl) (Kn.ex_move fh75 (.tmp rfl)) fun fa76 fh76 => ?_
      clear fh75 fa75
      refine Kn.call fh76 rfl rfl (.some rfl rfl rfl) (Kn.ex_call fh76 (.cons (.tmp rfl) .nil)) Tryd.call23 (turnedC_nil w6) fun e wa hp => ?_
      obtain ⟨rfl, rfl⟩ := hp
      refine ⟨_, rfl, fun fa77 fh77 => ?_⟩
      clear fh76 fa76
      refine Kn.step fh77 rfl rfl (.some rfl rfl rfl) (Kn.ex_bin fh77 (.tmp rfl) .const) fun Ko hKo => ?_
      go_simp
      try go_bits
      refine hKo _ _ fun fa78 fh78 => ?_
      clear hKo Ko fh77 fa77
      refine Kn.pure fh78 rfl rfl .none (Kn.ex_pick fh78 (.tmp rfl) (.tmp rfl)) fun fa79 fh79 => ?_
      clear fh78 fa78
      refine Kn.pure fh79 rfl rfl .none (Kn.ex_move fh79 (.tmp rfl)) fun fa80 fh80 => ?_
      clear fh79 fa79
      refine Kn.pure fh80 rfl rfl (.some rfl rfl rfl) (Kn.ex_move fh80 (.tmp rfl)) fun fa81 fh81 => ?_
      clear fh80 fa80
      refine Kn.call fh81 rfl rfl (.some rfl rfl rfl) (Kn.ex_call fh81 (.cons (.tmp rfl) (.cons .const .nil))) Tryd.call24 (sameC_nil w6) fun e wa hp => ?_
      obtain ⟨rfl, rfl⟩ := hp
      refine ⟨_, rfl, fun fa82 fh82 => ?_⟩
      clear fh81 fa81
      refine Kn.step fh82 rfl rfl (.some rfl rfl rfl) (Kn.ex_un fh82 (.tmp rfl)) fun Ko hKo => ?_
      go_simp
      try go_bits
      refine hKo _ _ fun fa83 fh83 => ?_
      clear hKo Ko fh82 fa82
      refine Kn.pure fh83 rfl rfl .none (Kn.ex_pick fh83 (.tmp rfl) (.tmp rfl)) fun fa84 fh84 => ?_
      clear fh83 fa83
      refine Kn.pure fh84 rfl rfl .none (Kn.ex_move fh84 (.tmp rfl)) fun fa85 fh85 => ?_
      clear fh84 fa84
      refine Kn.pure fh85 rfl rfl (.some rfl rfl rfl) (Kn.ex_move fh85 (.tmp rfl)) fun fa86 fh86 => ?_
      clear fh85 fa85
      refine Kn.step fh86 rfl rfl (.some rfl rfl rfl) (Kn.ex_bin fh86 (.tmp rfl) .const) fun Ko hKo => ?_
      go_simp
      try go_bits
      refine hKo _ _ fun fa87 fh87 => ?_
      clear hKo Ko fh86 fa86
      refine Kn.pure fh87 rfl rfl (.some rfl rfl rfl) (Kn.ex_move fh87 (.tmp rfl)) fun fa88 fh88 => ?_
      clear fh87 fa87
      refine Kn.pure fh88 rfl rfl (.some rfl rfl rfl) (Kn.ex_move fh88 (.tmp rfl)) fun fa89 fh89 => ?_
      clear fh88 fa88
      refine Kn.pure fh89 rfl rfl (.some rfl rfl rfl) (Kn.ex_move fh89 (.tmp rfl)) fun fa90 fh90 => ?_
      clear fh89 fa89
      refine Kn.call fh90 rfl rfl (.some rfl rfl rfl) (Kn.ex_call fh90 (.cons (.tmp rfl) (.cons (.tmp rfl) .nil))) Tryd.call24 (sameC_other _ w6) fun e wa hp => ?_
      obtain ⟨rfl, rfl⟩ := hp
      refine ⟨_, rfl, fun fa91 fh91 => ?_⟩
      clear fh90 fa90
      refine Kn.pure fh91 rfl rfl (.some rfl rfl rfl) (Kn.ex_pick fh91 (.tmp rfl) (.tmp rfl)) fun fa92 fh92 => ?_
      clear fh91 fa91
      refine Kn.pure fh92 rfl rfl .none (Kn.ex_pick fh92 (.tmp rfl) (.tmp rfl)) fun fa93 fh93 => ?_
      clear fh92 fa92
      refine wpList_nil ?_
      refine hK12 _ _ ?_
      clear hK12 K12
      replace fh93 := fh93.cut (.cons (t := 100) rfl (.cons (t := 10) rfl (.cons (t := 9) rfl (.cons (t := 8) rfl (.cons (t := 7) rfl (.cons (t := 6) rfl (.cons (t := 3) rfl (.cons (t := 1) rfl (.cons (t := 2) rfl .nil)))))))))
      refine Kn.no fh93 (.tmp rfl) ?_
      refine wp_skip ?_
      refine hK11 _ _ ?_
      clear hK11 K11
      replace fh93 := fh93.cut (.cons (t := 10) rfl (.cons (t := 9) rfl (.cons (t := 8) rfl (.cons (t := 7) rfl (.cons (t := 6) rfl (.cons (t := 3) rfl (.cons (t := 1) rfl (.cons (t := 2) rfl .nil))))))))
      clear HX3 HX4 HX5 HC HTN HDN
      refine wp_seq_k fun K13 hK13 => ?_
      refine wp_seq_k fun K14 hK14 => ?_
      refine wp_region_lit ?_
      refine Kn.pure fh93 rfl rfl .none (Kn.ex_move fh93 (.tmp rfl)) fun fa94 fh94 => ?_
      clear fh93 fa93
      refine Kn.step fh94 rfl rfl .none (Kn.ex_bin fh94 (.tmp rfl) .const) fun Ko hKo => ?_
      go_simp
      try go_bits
      refine hKo _ _ fun fa95 fh95 => ?_
      clear hKo Ko fh94 fa94
      refine Kn.pure fh95 rfl rfl .none (Kn.ex_move fh95 (.tmp rfl)) fun fa96 fh96 => ?_
      clear fh95 fa95
      refine Kn.pure fh96 rfl rfl (.some rfl rfl rfl) (Kn.ex_move fh96 (.tmp rfl)) fun fa97 fh97 => ?_
      clear fh96 fa96
      refine Kn.step fh97 rfl rfl (.some rfl rfl rfl) (Kn.ex_bin fh97 (.tmp rfl) .const) fun Ko hKo => ?_
      go_simp
      try go_bits
      refine hKo _ _ fun fa98 fh98 => ?_
      clear hKo Ko fh97 fa97
      refine Kn.pure fh98 rfl rfl .none (Kn.ex_pick fh98 (.tmp rfl) (.tmp rfl)) fun fa99 fh99 => ?_
      clear fh98 fa98
      refine wpList_nil ?_
      refine hK14 _ _ ?_
      clear hK14 K14
      replace fh99 := fh99.cut (.cons (t := 106) rfl (.cons (t := 9) rfl (.cons (t := 7) rfl (.cons (t := 6) rfl (.cons (t := 3) rfl (.cons (t := 1) rfl (.cons (t := 2) rfl .nil)))))))
      refine Kn.yes fh99 (.tmp rfl) ?_
      replace fh99 := fh99.cut (.cons (t := 9) rfl (.cons (t := 7) rfl (.cons (t := 6) rfl (.cons (t := 3) rfl (.cons (t := 1) rfl (.cons (t := 2) rfl .nil))))))
      refine wp_seq_k fun K15 hK15 => ?_
      refine wp_region_lit ?_
      refine Kn.pure fh99 rfl rfl .none (Kn.ex_assign fh99 .const) fun fa100 fh100 => ?_
      clear fh99 fa99
      refine wpList_nil ?_
      refine hK15 _ _ ?_
      clear hK15 K15
      refine wp_ret ?_
      refine Kn.then_ret ?_
      exact Kn.ret1 fh100 rfl rfl ⟨rfl, HX6.out.bel⟩
  have c0 := HX1.out.c0
  have hbu := build_no p A ca xs w1 HX1.out.ea hg1
  unfold faultV at hbu
  generalize wrongP p xs = e1 at hbu
  refine wp_seq_k fun K6 hK6 => ?_
  refine wp_region_lit ?_
  refine Kn.step fh12 rfl rfl .none (Kn.ex_indexAddr fh12 (.tmp rfl) .const) fun Ko hKo => ?_
  go_simp
  try go_bits
  refine hKo _ _ fun fa13 fh13 => ?_
  clear hKo Ko fh12 fa12
  refine Kn.step fh13 rfl rfl .none (Kn.ex_load fh13 (.tmp rfl)) fun Ko hKo => ?_
  go_simp
  try go_bits
  refine hKo _ _ fun fa14 fh14 => ?_
  clear hKo Ko fh13 fa13
  refine Kn.pure fh14 rfl rfl .none (Kn.ex_move fh14 (.tmp rfl)) fun fa15 fh15 => ?_
  clear fh14 fa14
  refine Kn.call fh15 rfl rfl .none (Kn.ex_call fh15 (.cons (.tmp rfl) (.cons (.tmp rfl) .nil))) Tryd.call6 (hbu) fun e w2 hp => ?_
  obtain ⟨rfl, hb⟩ := hp
  refine ⟨_, rfl, fun fa16 fh16 => ?_⟩
  clear fh15 fa15
  refine Kn.pure fh16 rfl rfl .none (Kn.ex_move fh16 (.tmp rfl)) fun fa17 fh17 => ?_
  clear fh16 fa16
  refine Kn.pure fh17 rfl rfl .none (Kn.ex_extract fh17 (.tmp rfl) rfl) fun fa18 fh18 => ?_
  clear fh17 fa17
  refine Kn.pure fh18 rfl rfl .none (Kn.ex_extract fh18 (.tmp rfl) rfl) fun fa19 fh19 => ?_
  clear fh18 fa18
  refine Kn.pure fh19 rfl rfl .none (Kn.ex_assign fh19 (.tmp rfl)) fun fa20 fh20 => ?_
  clear fh19 fa19
  refine Kn.pure fh20 rfl rfl .none (Kn.ex_assign fh20 (.tmp rfl)) fun fa21 fh21 => ?_
  clear fh20 fa20
  refine wpList_nil ?_
  refine hK6 _ _ ?_
  clear hK6 K6
  replace fh21 := fh21.cut (.cons (t := 8) rfl (.cons (t := 7) rfl (.cons (t := 6) rfl (.cons (t := 3) rfl (.cons (t := 1) rfl (.cons (t := 2) rfl .nil))))))
  have HX2 := Lib.hid (HX1.out.on hb)
  clear hb hbu c0 HX1 hg1
  by_cases hg2 : Edg.Good q zs
  · have c1 := HX2.out.c1
    obtain ⟨M, rfl⟩ := Int.eq_ofNat_of_zero_le hg2.lo
    have hbu := build_yes M B cb zs w2 HX2.out.eb hg2
    refine wp_seq_k fun K7 hK7 => ?_
    refine wp_region_lit ?_
    refine Kn.step fh21 rfl rfl .none (Kn.ex_indexAddr fh21 (.tmp rfl) .const) fun Ko hKo => ?_
    go_simp
    try go_bits
    refine hKo _ _ fun fa22 fh22 => ?_
    clear hKo Ko fh21 fa21
    refine Kn.step fh22 rfl rfl .none (Kn.ex_load fh22 (.tmp rfl)) fun Ko hKo => ?_
    go_simp
    try go_bits
    refine hKo _ _ fun fa23 fh23 => ?_
    clear hKo Ko fh22 fa22
    refine Kn.pure fh23 rfl rfl .none (Kn.ex_move fh23 (.tmp rfl)) fun fa24 fh24 => ?_
    clear fh23 fa23
    refine Kn.call fh24 rfl rfl .none (Kn.ex_call fh24 (.cons (.tmp rfl) (.cons (.tmp rfl) .nil))) Tryd.call6 (hbu) fun e w3 hp => ?_
    obtain ⟨gb, us, rfl, hNo, hR, hb⟩ := hp
    refine ⟨_, rfl, fun fa25 fh25 => ?_⟩
    clear fh24 fa24
    refine Kn.pure fh25 rfl rfl .none (Kn.ex_move fh25 (.tmp rfl)) fun fa26 fh26 => ?_
    clear fh25 fa25
    refine Kn.pure fh26 rfl rfl .none (Kn.ex_extract fh26 (.tmp rfl) rfl) fun fa27 fh27 => ?_
    clear fh26 fa26
    refine Kn.pure fh27 rfl rfl .none (Kn.ex_extract fh27 (.tmp rfl) rfl) fun fa28 fh28 => ?_
    clear fh27 fa27
    refine Kn.pure fh28 rfl rfl .none (Kn.ex_assign fh28 (.tmp rfl)) fun fa29 fh29 => ?_
    clear fh28 fa28
    refine Kn.pure fh29 rfl rfl .none (Kn.ex_assign fh29 (.tmp rfl)) fun fa30 fh30 => ?_
    clear fh29 fa29
    refine wpList_nil ?_
    refine hK7 _ _ ?_
    clear hK7 K7
    replace fh30 := fh30.cut (.cons (t := 10) rfl (.cons (t := 9) rfl (.cons (t := 8) rfl (.cons (t := 7) rfl (.cons (t := 6) rfl (.cons (t := 3) rfl (.cons (t := 1) rfl (.cons (t := 2) rfl .nil))))))))
    have HX3 := Lib.hid (HX2.out.on hb)
    have HN2 := Lib.hid hNo
    have HR2 := Lib.hid hR
    have hle2 := hR.len
    have hi2 := hR.hi
    clear hR hNo
    try replace HR1 := Lib.hid (HR1.out.on hb)
    clear hb hbu c1 HX2 hg2
    refine wp_seq_k fun K8 hK8 => ?_
    refine wp_region_lit ?_
    refine Kn.pure fh30 rfl rfl .none (Kn.ex_assign fh30 .const) fun fa31 fh31 => ?_
    clear fh30 fa30
    refine wpList_nil ?_
    refine hK8 _ _ ?_
    clear hK8 K8
    refine wp_seq_k fun K9 hK9 => ?_
    refine wp_region_lit ?_
    refine Kn.pure fh31 rfl rfl .none (Kn.ex_move fh31 (.tmp rfl)) fun fa32 fh32 => ?_
    clear fh31 fa31
    refine Kn.call fh32 rfl rfl .none (Kn.ex_call fh32 (.cons (.tmp rfl) (.cons .const .nil))) Tryd.call15 (HTN.out w3) fun e w4 hp => ?_
    obtain ⟨rfl, rfl⟩ := hp
    refine ⟨_, rfl, fun fa33 fh33 => ?_⟩
    clear fh32 fa32
    refine Kn.pure fh33 rfl rfl .none (Kn.ex_move fh33 (.tmp rfl)) fun fa34 fh34 => ?_
    clear fh33 fa33
    refine Kn.pure fh34 rfl rfl .none (Kn.ex_extract fh34 (.tmp rfl) rfl) fun fa35 fh35 => ?_
    clear fh34 fa34
    refine Kn.pure fh35 rfl rfl .none (Kn.ex_extract fh35 (.tmp rfl) rfl) fun fa36 fh36 => ?_
    clear fh35 fa35
    refine Kn.pure fh36 rfl rfl .none (Kn.ex_assign fh36 (.tmp rfl)) fun fa37 fh37 => ?_
    clear fh36 fa36
    refine Kn.pure fh37 rfl rfl .none (Kn.ex_assign fh37 (.tmp rfl)) fun fa38 fh38 => ?_
    clear fh37 fa37
    refine wpList_nil ?_
    refine hK9 _ _ ?_
    clear hK9 K9
    replace fh38 := fh38.cut (.cons (t := 13) rfl (.cons (t := 11) rfl (.cons (t := 10) rfl (.cons (t := 9) rfl (.cons (t := 8) rfl (.cons (t := 7) rfl (.cons (t := 6) rfl (.cons (t := 3) rfl (.cons (t := 1) rfl (.cons (t := 2) rfl .nil))))))))))
    refine wp_seq_k fun K10 hK10 => ?_
    refine wp_region_lit ?_
    refine Kn.pure fh38 rfl rfl .none (Kn.ex_move fh38 (.tmp rfl)) fun fa39 fh39 => ?_
    clear fh38 fa38
    refine Kn.call fh39 rfl rfl .none (Kn.ex_call fh39 (.cons (.tmp rfl) (.cons .const .nil))) Tryd.call16 (HDN.out w3) fun e w4 hp => ?_
    obtain ⟨rfl, rfl⟩ := hp
    refine ⟨_, rfl, fun fa40 fh40 => ?_⟩
    clear fh39 fa39
    refine Kn.pure fh40 rfl rfl .none (Kn.ex_move fh40 (.tmp rfl)) fun fa41 fh41 => ?_
    clear fh40 fa40
    refine Kn.pure fh41 rfl rfl .none (Kn.ex_extract fh41 (.tmp rfl) rfl) fun fa42 fh42 => ?_
    clear fh41 fa41
    refine Kn.pure fh42 rfl rfl .none (Kn.ex_extract fh42 (.tmp rfl) rfl) fun fa43 fh43 => ?_
    clear fh42 fa42
    refine Kn.pure fh43 rfl rfl .none (Kn.ex_assign fh43 (.tmp rfl)) fun fa44 fh44 => ?_
    clear fh43 fa43
    refine Kn.pure fh44 rfl rfl .none (Kn.ex_assign fh44 (.tmp rfl)) fun fa45 fh45 => ?_
    clear fh44 fa44
    refine wpList_nil ?_
    refine hK10 _ _ ?_
    clear hK10 K10
    replace fh45 := fh45.cut (.cons (t := 15) rfl (.cons (t := 13) rfl (.cons (t := 11) rfl (.cons (t := 10) rfl (.cons (t := 9) rfl (.cons (t := 8) rfl (.cons (t := 7) rfl (.cons (t := 6) rfl (.cons (t := 3) rfl (.cons (t := 1) rfl (.cons (t := 2) rfl .nil)))))))))))
    refine wp_seq_k fun K11 hK11 => ?_
    refine wp_seq_k fun K12 hK12 => ?_
    refine wp_region_lit ?_
    refine Kn.pure fh45 rfl rfl .none (Kn.ex_move fh45 (.tmp rfl)) fun fa46 fh46 => ?_
    clear fh45 fa45
    refine Kn.call fh46 rfl rfl .none (Kn.ex_call fh46 (.cons (.tmp rfl) .nil)) Tryd.call8 (HC.out w3 HX3.out.tab) fun e w4 hp => ?_
    obtain ⟨rfl, hb⟩ := hp
    refine ⟨_, rfl, fun fa47 fh47 => ?_⟩
    clear fh46 fa46
    have HX4 := Lib.hid (HX3.out.on hb)
    try replace HR1 := Lib.hid (HR1.out.on hb)
    try replace HR2 := Lib.hid (HR2.out.on hb)
    clear hb
    refine Kn.step fh47 rfl rfl .none (Kn.ex_bin fh47 (.tmp rfl) .const) fun Ko hKo => ?_
    go_simp
    try go_bits
    refine hKo _ _ fun fa48 fh48 => ?_
    clear hKo Ko fh47 fa47
    refine Kn.pure fh48 rfl rfl .none (Kn.ex_move fh48 (.tmp rfl)) fun fa49 fh49 => ?_
    clear fh48 fa48
    refine Kn.pure fh49 rfl rfl (.some rfl rfl rfl) (Kn.ex_move fh49 (.tmp rfl)) fun fa50 fh50 => ?_
    clear fh49 fa49
    refine Kn.call fh50 rfl rfl (.some rfl rfl rfl) (Kn.ex_call fh50 (.cons (.tmp rfl) .nil)) Tryd.call8 (HC.out w4 HX4.out.tab) fun e w5 hp => ?_
    obtain ⟨rfl, hb⟩ := hp
    refine ⟨_, rfl, fun fa51 fh51 => ?_⟩
    clear fh50 fa50
    have HX5 := Lib.hid (HX4.out.on hb)
    try replace HR1 := Lib.hid (HR1.out.on hb)
    try replace HR2 := Lib.hid (HR2.out.on hb)
    clear hb
    refine Kn.step fh51 rfl rfl (.some rfl rfl rfl) (Kn.ex_bin fh51 (.tmp rfl) .const) fun Ko hKo => ?_
    go_simp
    try go_bits
    refine hKo _ _ fun fa52 fh52 => ?_
    clear hKo Ko fh51 fa51
    refine Kn.pure fh52 rfl rfl .none (Kn.ex_pick fh52 (.tmp rfl) (.tmp rfl)) fun fa53 fh53 => ?_
    clear fh52 fa52
    refine Kn.pure fh53 rfl rfl .none (Kn.ex_move fh53 (.tmp rfl)) fun fa54 fh54 => ?_
    clear fh53 fa53
    refine Kn.pure fh54 rfl rfl (.some rfl rfl rfl) (Kn.ex_move fh54 (.tmp rfl)) fun fa55 fh55 => ?_
    clear fh54 fa54
    refine Kn.call fh55 rfl rfl (.some rfl rfl rfl) (Kn.ex_call fh55 (.cons (.tmp rfl) .nil)) Tryd.call11 (nodes_nil w5) fun e wa hp => ?_
    obtain ⟨rfl, rfl⟩ := hp
    refine ⟨_, rfl, fun fa56 fh56 => ?_⟩
    clear fh55 fa55
    refine Kn.pure fh56 rfl rfl (.some rfl rfl rfl) (Kn.ex_move fh56 (.tmp rfl)) fun fa57 fh57 => ?_
    clear fh56 fa56
    refine Kn.call fh57 rfl rfl (.some rfl rfl rfl) (Kn.ex_call fh57 (.cons (.tmp rfl) .nil)) Tryd.call12 (edges_nil w5) fun e wa hp => ?_
    obtain ⟨rfl, rfl⟩ := hp
    refine ⟨_, rfl, fun fa58 fh58 => ?_⟩
    clear fh57 fa57
    refine Kn.step fh58 rfl rfl (.some rfl rfl rfl) (Kn.ex_bin fh58 (.tmp rfl) (.tmp rfl)) fun Ko hKo => ?_
    go_simp
    try go_bits
    refine hKo _ _ fun fa59 fh59 => ?_
    clear hKo Ko fh58 fa58
    refine Kn.pure fh59 rfl rfl (.some rfl rfl rfl) (Kn.ex_move fh59 (.tmp rfl)) fun fa60 fh60 => ?_
    clear fh59 fa59
    refine Kn.call fh60 rfl rfl (.some rfl rfl rfl) (Kn.ex_call fh60 (.cons (.tmp rfl) .nil)) Tryd.call14 (list_nil w5) fun e w6 hp => ?_
    obtain ⟨Al, rfl, hb⟩ := hp
    refine ⟨_, rfl, fun fa61 fh61 => ?_⟩
    clear fh60 fa60
    have HX6 := Lib.hid (HX5.out.on hb)
    try replace HR1 := Lib.hid (HR1.out.on hb)
    try replace HR2 := Lib.hid (HR2.out.on hb)
    clear hb
    refine Kn.step fh61 rfl rfl (.some rfl rfl rfl) (Kn.ex_len fh61 (.tmp rfl)) fun Ko hKo => ?_
    go_simp
    try go_bits
    refine hKo _ _ fun fa62 fh62 => ?_
    clear hKo Ko fh61 fa61
    refine Kn.step fh62 rfl rfl (.some rfl rfl rfl) (Kn.ex_bin fh62 (.tmp rfl) (.tmp rfl)) fun Ko hKo => ?_
    go_simp
    try go_bits
    refine hKo _ _ fun fa63 fh63 => ?_
    clear hKo Ko fh62 fa62
    refine Kn.step fh63 rfl rfl (.some rfl rfl rfl) (Kn.ex_bin fh63 (.tmp rfl) .const) fun Ko hKo => ?_
    go_simp
    try go_bits
    refine hKo _ _ fun fa64 fh64 => ?_
    clear hKo Ko fh63 fa63
    refine Kn.pure fh64 rfl rfl .none (Kn.ex_pick fh64 (.tmp rfl) (.tmp rfl)) fun fa65 fh65 => ?_
    clear fh64 fa64
    refine Kn.pure fh65 rfl rfl .none (Kn.ex_move fh65 (.tmp rfl)) fun fa66 fh66 => ?_
    clear fh65 fa65
    refine Kn.pure fh66 rfl rfl (.some rfl rfl rfl) (Kn.ex_move fh66 (.tmp rfl)) fun fa67 fh67 => ?_
    clear fh66 fa66
    refine Kn.call fh67 rfl rfl (.some rfl rfl rfl) (Kn.ex_call fh67 (.cons (.tmp rfl) (.cons .const (.cons .const .nil)))) Tryd.call17 (has_nil 0 0 w6) fun e wa hp => ?_
    obtain ⟨rfl, rfl⟩ := hp
    refine ⟨_, rfl, fun fa68 fh68 => ?_⟩
    clear fh67 fa67
    refine Kn.pure fh68 rfl rfl .none (Kn.ex_pick fh68 (.tmp rfl) (.tmp rfl)) fun fa69 fh69 => ?_
    clear fh68 fa68
    refine Kn.pure fh69 rfl rfl .none (Kn.ex_move fh69 (.tmp rfl)) fun fa70 fh70 => ?_
    clear fh69 fa69
    refine Kn.pure fh70 rfl rfl (.some rfl rfl rfl) (Kn.ex_move fh70 (.tmp rfl)) fun fa71 fh71 => ?_
    clear fh70 fa70
    refine Kn.call fh71 rfl rfl (.some rfl rfl rfl) (Kn.ex_call fh71 (.cons (.tmp rfl) (.cons .const .nil))) Tryd.call21 (begin_nil 0 w6) fun e wa hp => ?_
    obtain ⟨rfl, rfl⟩ := hp
    refine ⟨_, rfl, fun fa72 fh72 => ?_⟩
    clear fh71 fa71
    refine Kn.step fh72 rfl rfl (.some rfl rfl rfl) (Kn.ex_bin fh72 (.tmp rfl) .const) fun Ko hKo => ?_
    go_simp
    try go_bits
    refine hKo _ _ fun fa73 fh73 => ?_
    clear hKo Ko fh72 fa72
    refine Kn.pure fh73 rfl rfl .none (Kn.ex_pick fh73 (.tmp rfl) (.tmp rfl)) fun fa74 fh74 => ?_
    clear fh73 fa73
    refine Kn.pure fh74 rfl rfl .none (Kn.ex_move fh74 (.tmp rfl)) fun fa75 fh75 => ?_
    clear fh74 fa74
    refine Kn.pure fh75 rfl rfl (.some rfl rfl rfl) (Kn.ex_move fh75 (.tmp rfl)) fun fa76 fh76 => ?_
    clear fh75 fa75
    refine Kn.call fh76 rfl rfl (.some rfl rfl rfl) (Kn.ex_call fh76 (.cons (.tmp rfl) .nil)) Tryd.call23 (turnedC_nil w6) fun e wa hp => ?_
    obtain ⟨rfl, rfl⟩ := hp
    refine ⟨_, rfl, fun fa77 fh77 => ?_⟩
    clear fh76 fa76
    refine Kn.step fh77 rfl rfl (.some rfl rfl rfl) (Kn.ex_bin fh77 (.tmp rfl) .const) fun Ko hKo => ?_
    go_simp
    try go_bits
    refine hKo _ _ fun fa78 fh78 => ?_
    clear hKo Ko fh77 fa77
    refine Kn.pure fh78 rfl rfl .none (Kn.ex_pick fh78 (.tmp rfl) (.tmp rfl)) fun fa79 fh79 => ?_
    clear fh78 fa78
    refine Kn.pure fh79 rfl rfl .none (Kn.ex_move fh79 (.tmp rfl)) fun fa80 fh80 => ?_
    clear fh79 fa79
    refine Kn.pure fh80 rfl rfl (.some rfl rfl rfl) (Kn.ex_move fh80 (.tmp rfl)) fun fa81 fh81 => ?_
    clear fh80 fa80
    refine Kn.call fh81 rfl rfl (.some rfl rfl rfl) (Kn.ex_call fh81 (.cons (.tmp rfl) (.cons .const .nil))) Tryd.call24 (sameC_nil w6) fun e wa hp => ?_
    obtain ⟨rfl, rfl⟩ := hp
    refine ⟨_, rfl, fun fa82 fh82 => ?_⟩
    clear fh81 fa81
    refine Kn.step fh82 rfl rfl (.some rfl rfl rfl) (Kn.ex_un fh82 (.tmp rfl)) fun Ko hKo => ?_
    go_simp
    try go_bits
    refine hKo _ _ fun fa83 fh83 => ?_
    clear hKo Ko fh82 fa82
    refine Kn.pure fh83 rfl rfl .none (Kn.ex_pick fh83 (.tmp rfl) (.tmp rfl)) fun fa84 fh84 => ?_
    clear fh83 fa83
    refine Kn.pure fh84 rfl rfl .none (Kn.ex_move fh84 (.tmp rfl)) fun fa85 fh85 => ?_
    clear fh84 fa84
    refine Kn.pure fh85 rfl rfl (.some rfl rfl rfl) (Kn.ex_move fh85 (.tmp rfl)) fun fa86 fh86 => ?_
    clear fh85 fa85
    refine Kn.step fh86 rfl rfl (.some rfl rfl rfl) (Kn.ex_bin fh86 (.tmp rfl) .const) fun Ko hKo => ?_
    go_simp
    try go_bits
    refine hKo _ _ fun fa87 fh87 => ?_
    clear hKo Ko fh86 fa86
    refine Kn.pure fh87 rfl rfl (.some rfl rfl rfl) (Kn.ex_move fh87 (.tmp rfl)) fun fa88 fh88 => ?_
    clear fh87 fa87
    refine Kn.skip fh88 rfl rfl (.some rfl rfl rfl) fun fa89 fh89 => ?_
    clear fh88 fa88
    refine Kn.skip fh89 rfl rfl (.some rfl rfl rfl) fun fa90 fh90 => ?_
    clear fh89 fa89
    refine Kn.skip fh90 rfl rfl (.some rfl rfl rfl) fun fa91 fh91 => ?_
    clear fh90 fa90
    refine Kn.pure fh91 rfl rfl (.some rfl rfl rfl) (Kn.ex_pick fh91 (.tmp rfl) .const) fun fa92 fh92 => ?_
    clear fh91 fa91
    refine Kn.pure fh92 rfl rfl .none (Kn.ex_pick fh92 (.tmp rfl) (.tmp rfl)) fun fa93 fh93 => ?_
    clear fh92 fa92
    refine wpList_nil ?_
    refine hK12 _ _ ?_
    clear hK12 K12
    replace fh93 := fh93.cut (.cons (t := 100) rfl (.cons (t := 10) rfl (.cons (t := 9) rfl (.cons (t := 8) rfl (.cons (t := 7) rfl (.cons (t := 6) rfl (.cons (t := 3) rfl (.cons (t := 1) rfl (.cons (t := 2) rfl .nil)))))))))
    refine Kn.no fh93 (.tmp rfl) ?_
    refine wp_skip ?_
    refine hK11 _ _ ?_
    clear hK11 K11
    replace fh93 := fh93.cut (.cons (t := 10) rfl (.cons (t := 9) rfl (.cons (t := 8) rfl (.cons (t := 7) rfl (.cons (t := 6) rfl (.cons (t := 3) rfl (.cons (t := 1) rfl (.cons (t := 2) rfl .nil))))))))
    clear HX3 HX4 HX5 HC HTN HDN
    refine wp_seq_k fun K13 hK13 => ?_
    refine wp_seq_k fun K14 hK14 => ?_
    refine wp_region_lit ?_
    refine Kn.pure fh93 rfl rfl .none (Kn.ex_move fh93 (.tmp rfl)) fun fa94 fh94 => ?_
    clear fh93 fa93
    refine Kn.step fh94 rfl rfl .none (Kn.ex_bin fh94 (.tmp rfl) .const) fun Ko hKo => ?_
    go_simp
    try go_bits
    refine hKo _ _ fun fa95 fh95 => ?_
    clear hKo Ko fh94 fa94
    refine Kn.pure fh95 rfl rfl .none (Kn.ex_move fh95 (.tmp rfl)) fun fa96 fh96 => ?_
    clear fh95 fa95
    refine Kn.skip fh96 rfl rfl (.some rfl rfl rfl) fun fa97 fh97 => ?_
    clear fh96 fa96
    refine Kn.skip fh97 rfl rfl (.some rfl rfl rfl) fun fa98 fh98 => ?_
    clear fh97 fa97
    refine Kn.pure fh98 rfl rfl .none (Kn.ex_pick fh98 (.tmp rfl) .const) fun fa99 fh99 => ?_
    clear fh98 fa98
    refine wpList_nil ?_
    refine hK14 _ _ ?_
    clear hK14 K14
    replace fh99 := fh99.cut (.cons (t := 106) rfl (.cons (t := 9) rfl (.cons (t := 7) rfl (.cons (t := 6) rfl (.cons (t := 3) rfl (.cons (t := 1) rfl (.cons (t := 2) rfl .nil)))))))
    refine Kn.yes fh99 (.tmp rfl) ?_
    replace fh99 := fh99.cut (.cons (t := 9) rfl (.cons (t := 7) rfl (.cons (t := 6) rfl (.cons (t := 3) rfl (.cons (t := 1) rfl (.cons (t := 2) rfl .nil))))))
    refine wp_seq_k fun K15 hK15 => ?_
    refine wp_region_lit ?_
    refine Kn.pure fh99 rfl rfl .none (Kn.ex_assign fh99 .const) fun fa100 fh100 => ?_
    clear fh99 fa99
    refine wpList_nil ?_
    refine hK15 _ _ ?_
    clear hK15 K15
    refine wp_ret ?_
    refine Kn.then_ret ?_
    exact Kn.ret1 fh100 rfl rfl ⟨rfl, HX6.out.bel⟩
  · have c1 := HX2.out.c1
    have hbu := build_no q B cb zs w2 HX2.out.eb hg2
    unfold faultV at hbu
    generalize wrongP q zs = e2 at hbu
    refine wp_seq_k fun K7 hK7 => ?_
    refine wp_region_lit ?_
    refine Kn.step fh21 rfl rfl .none (Kn.ex_indexAddr fh21 (.tmp rfl) .const) fun Ko hKo => ?_
    go_simp
    try go_bits
    refine hKo _ _ fun fa22 fh22 => ?_
    clear hKo Ko fh21 fa21
    refine Kn.step fh22 rfl rfl .none (Kn.ex_load fh22 (.tmp rfl)) fun Ko hKo => ?_
    go_simp
    try go_bits
    refine hKo _ _ fun fa23 fh23 => ?_
    clear hKo Ko fh22 fa22
    refine Kn.pure fh23 rfl rfl .none (Kn.ex_move fh23 (.tmp rfl)) fun fa24 fh24 => ?_
    clear fh23 fa23
    refine Kn.call fh24 rfl rfl .none (Kn.ex_call fh24 (.cons (.tmp rfl) (.cons (.tmp rfl) .nil))) Tryd.call6 (hbu) fun e w3 hp => ?_
    obtain ⟨rfl, hb⟩ := hp
    refine ⟨_, rfl, fun fa25 fh25 => ?_⟩
    clear fh24 fa24
    refine Kn.pure fh25 rfl rfl .none (Kn.ex_move fh25 (.tmp rfl)) fun fa26 fh26 => ?_
    clear fh25 fa25
    refine Kn.pure fh26 rfl rfl .none (Kn.ex_extract fh26 (.tmp rfl) rfl) fun fa27 fh27 => ?_
    clear fh26 fa26
    refine Kn.pure fh27 rfl rfl .none (Kn.ex_extract fh27 (.tmp rfl) rfl) fun fa28 fh28 => ?_
    clear fh27 fa27
    refine Kn.pure fh28 rfl rfl .none (Kn.ex_assign fh28 (.tmp rfl)) fun fa29 fh29 => ?_
    clear fh28 fa28
    refine Kn.pure fh29 rfl rfl .none (Kn.ex_assign fh29 (.tmp rfl)) fun fa30 fh30 => ?_
    clear fh29 fa29
    refine wpList_nil ?_
    refine hK7 _ _ ?_
    clear hK7 K7
    replace fh30 := fh30.cut (.cons (t := 10) rfl (.cons (t := 9) rfl (.cons (t := 8) rfl (.cons (t := 7) rfl (.cons (t := 6) rfl (.cons (t := 3) rfl (.cons (t := 1) rfl (.cons (t := 2) rfl .nil))))))))
    have HX3 := Lib.hid (HX2.out.on hb)
    try replace HR1 := Lib.hid (HR1.out.on hb)
    clear hb hbu c1 HX2 hg2
    refine wp_seq_k fun K8 hK8 => ?_
    refine wp_region_lit ?_
    refine Kn.pure fh30 rfl rfl .none (Kn.ex_assign fh30 .const) fun fa31 fh31 => ?_
    clear fh30 fa30
    refine wpList_nil ?_
    refine hK8 _ _ ?_
    clear hK8 K8
    refine wp_seq_k fun K9 hK9 => ?_
    refine wp_region_lit ?_
    refine Kn.pure fh31 rfl rfl .none (Kn.ex_move fh31 (.tmp rfl)) fun fa32 fh32 => ?_
    clear fh31 fa31
    refine Kn.call fh32 rfl rfl .none (Kn.ex_call fh32 (.cons (.tmp rfl) (.cons .const .nil))) Tryd.call15 (HTN.out w3) fun e w4 hp => ?_
    obtain ⟨rfl, rfl⟩ := hp
    refine ⟨_, rfl, fun fa33 fh33 => ?_⟩
    clear fh32 fa32
    refine Kn.pure fh33 rfl rfl .none (Kn.ex_move fh33 (.tmp rfl)) fun fa34 fh34 => ?_
    clear fh33 fa33
    refine Kn.pure fh34 rfl rfl .none (Kn.ex_extract fh34 (.tmp rfl) rfl) fun fa35 fh35 => ?_
    clear fh34 fa34
    refine Kn.pure fh35 rfl rfl .none (Kn.ex_extract fh35 (.tmp rfl) rfl) fun fa36 fh36 => ?_
    clear fh35 fa35
    refine Kn.pure fh36 rfl rfl .none (Kn.ex_assign fh36 (.tmp rfl)) fun fa37 fh37 => ?_
    clear fh36 fa36
    refine Kn.pure fh37 rfl rfl .none (Kn.ex_assign fh37 (.tmp rfl)) fun fa38 fh38 => ?_
    clear fh37 fa37
    refine wpList_nil ?_
    refine hK9 _ _ ?_
    clear hK9 K9
    replace fh38 := fh38.cut (.cons (t := 13) rfl (.cons (t := 11) rfl (.cons (t := 10) rfl (.cons (t := 9) rfl (.cons (t := 8) rfl (.cons (t := 7) rfl (.cons (t := 6) rfl (.cons (t := 3) rfl (.cons (t := 1) rfl (.cons (t := 2) rfl .nil))))))))))
    refine wp_seq_k fun K10 hK10 => ?_
    refine wp_region_lit ?_
    refine Kn.pure fh38 rfl rfl .none (Kn.ex_move fh38 (.tmp rfl)) fun fa39 fh39 => ?_
    clear fh38 fa38
    refine Kn.call fh39 rfl rfl .none (Kn.ex_call fh39 (.cons (.tmp rfl) (.cons .const .nil))) Tryd.call16 (HDN.out w3) fun e w4 hp => ?_
    obtain ⟨rfl, rfl⟩ := hp
    refine ⟨_, rfl, fun fa40 fh40 => ?_⟩
    clear fh39 fa39
    refine Kn.pure fh40 rfl rfl .none (Kn.ex_move fh40 (.tmp rfl)) fun fa41 fh41 => ?_
    clear fh40 fa40
    refine Kn.pure fh41 rfl rfl .none (Kn.ex_extract fh41 (.tmp rfl) rfl) fun fa42 fh42 => ?_
    clear fh41 fa41
    refine Kn.pure fh42 rfl rfl .none (Kn.ex_extract fh42 (.tmp rfl) rfl) fun fa43 fh43 => ?_
    clear fh42 fa42
    refine Kn.pure fh43 rfl rfl .none (Kn.ex_assign fh43 (.tmp rfl)) fun fa44 fh44 => ?_
    clear fh43 fa43
    refine Kn.pure fh44 rfl rfl .none (Kn.ex_assign fh44 (.tmp rfl)) fun fa45 fh45 => ?_
    clear fh44 fa44
    refine wpList_nil ?_
    refine hK10 _ _ ?_
    clear hK10 K10
    replace fh45 := fh45.cut (.cons (t := 15) rfl (.cons (t := 13) rfl (.cons (t := 11) rfl (.cons (t := 10) rfl (.cons (t := 9) rfl (.cons (t := 8) rfl (.cons (t := 7) rfl (.cons (t := 6) rfl (.cons (t := 3) rfl (.cons (t := 1) rfl (.cons (t := 2) rfl .nil)))))))))))
    refine wp_seq_k fun K11 hK11 => ?_
    refine wp_seq_k fun K12 hK12 => ?_
    refine wp_region_lit ?_
    refine Kn.pure fh45 rfl rfl .none (Kn.ex_move fh45 (.tmp rfl)) fun fa46 fh46 => ?_
    clear fh45 fa45
    refine Kn.call fh46 rfl rfl .none (Kn.ex_call fh46 (.cons (.tmp rfl) .nil)) Tryd.call8 (HC.out w3 HX3.out.tab) fun e w4 hp => ?_
    obtain ⟨rfl, hb⟩ := hp
    refine ⟨_, rfl, fun fa47 fh47 => ?_⟩
    clear fh46 fa46
    have HX4 := Lib.hid (HX3.out.on hb)
    try replace HR1 := Lib.hid (HR1.out.on hb)
    try replace HR2 := Lib.hid (HR2.out.on hb)
    clear hb
    refine Kn.step fh47 rfl rfl .none (Kn.ex_bin fh47 (.tmp rfl) .const) fun Ko hKo => ?_
    go_simp
    try go_bits
    refine hKo _ _ fun fa48 fh48 => ?_
    clear hKo Ko fh47 fa47
    refine Kn.pure fh48 rfl rfl .none (Kn.ex_move fh48 (.tmp rfl)) fun fa49 fh49 => ?_
    clear fh48 fa48
    refine Kn.pure fh49 rfl rfl (.some rfl rfl rfl) (Kn.ex_move fh49 (.tmp rfl)) fun fa50 fh50 => ?_
    clear fh49 fa49
    refine Kn.call fh50 rfl rfl (.some rfl rfl rfl) (Kn.ex_call fh50 (.cons (.tmp rfl) .nil)) Tryd.call8 (HC.out w4 HX4.out.tab) fun e w5 hp => ?_
    obtain ⟨rfl, hb⟩ := hp
    refine ⟨_, rfl, fun fa51 fh51 => ?_⟩
    clear fh50 fa50
    have HX5 := Lib.hid (HX4.out.on hb)
    try replace HR1 := Lib.hid (HR1.out.on hb)
    try replace HR2 := Lib.hid (HR2.out.on hb)
    clear hb
    refine Kn.step fh51 rfl rfl (.some rfl rfl rfl) (Kn.ex_bin fh51 (.tmp rfl) .const) fun Ko hKo => ?_
    go_simp
    try go_bits
    refine hKo _ _ fun fa52 fh52 => ?_
    clear hKo Ko fh51 fa51
    refine Kn.pure fh52 rfl rfl .none (Kn.ex_pick fh52 (.tmp rfl) (.tmp rfl)) fun fa53 fh53 => ?_
    clear fh52 fa52
    refine Kn.pure fh53 rfl rfl .none (Kn.ex_move fh53 (.tmp rfl)) fun fa54 fh54 => ?_
    clear fh53 fa53
    refine Kn.pure fh54 rfl rfl (.some rfl rfl rfl) (Kn.ex_move fh54 (.tmp rfl)) fun fa55 fh55 => ?_
    clear fh54 fa54
    refine Kn.call fh55 rfl rfl (.some rfl rfl rfl) (Kn.ex_call fh55 (.cons (.tmp rfl) .nil)) Tryd.call11 (nodes_nil w5) fun e wa hp => ?_
    obtain ⟨rfl, rfl⟩ := hp
    refine ⟨_, rfl, fun fa56 fh56 => ?_⟩
    clear fh55 fa55
    refine Kn.pure fh56 rfl rfl (.some rfl rfl rfl) (Kn.ex_move fh56 (.tmp rfl)) fun fa57 fh57 => ?_
    clear fh56 fa56
    refine Kn.call fh57 rfl rfl (.some rfl rfl rfl) (Kn.ex_call fh57 (.cons (.tmp rfl) .nil)) Tryd.call12 (edges_nil w5) fun e wa hp => ?_
    obtain ⟨rfl, rfl⟩ := hp
    refine ⟨_, rfl, fun fa58 fh58 => ?_⟩
    clear fh57 fa57
    refine Kn.step fh58 rfl rfl (.some rfl rfl rfl) (Kn.ex_bin fh58 (.tmp rfl) (.tmp rfl)) fun Ko hKo => ?_
    go_simp
    try go_bits
    refine hKo _ _ fun fa59 fh59 => ?_
    clear hKo Ko fh58 fa58
    refine Kn.pure fh59 rfl rfl (.some rfl rfl rfl) (Kn.ex_move fh59 (.tmp rfl)) fun fa60 fh60 => ?_
    clear fh59 fa59
    refine Kn.call fh60 rfl rfl (.some rfl rfl rfl) (Kn.ex_call fh60 (.cons (.tmp rfl) .nil)) Tryd.call14 (list_nil w5) fun e w6 hp => ?_
    obtain ⟨Al, rfl, hb⟩ := hp
    refine ⟨_, rfl, fun fa61 fh61 => ?_⟩
    clear fh60 fa60
    have HX6 := Lib.hid (HX5.out.on hb)
    try replace HR1 := Lib.hid (HR1.out.on hb)
    try replace HR2 := Lib.hid (HR2.out.on hb)
    clear hb
    refine Kn.step fh61 rfl rfl (.some rfl rfl rfl) (Kn.ex_len fh61 (.tmp rfl)) fun Ko hKo => ?_
    go_simp
    try go_bits
    refine hKo _ _ fun fa62 fh62 => ?_
    clear hKo Ko fh61 fa61
    refine Kn.step fh62 rfl rfl (.some rfl rfl rfl) (Kn.ex_bin fh62 (.tmp rfl) (.tmp rfl)) fun Ko hKo => ?_
    go_simp
    try go_bits
    refine hKo _ _ fun fa63 fh63 => ?_
    clear hKo Ko fh62 fa62
    refine Kn.step fh63 rfl rfl (.some rfl rfl rfl) (Kn.ex_bin fh63 (.tmp rfl) .const) fun Ko hKo => ?_
    go_simp
    try go_bits
    refine hKo _ _ fun fa64 fh64 => ?_
    clear hKo Ko fh63 fa63
    refine Kn.pure fh64 rfl rfl .none (Kn.ex_pick fh64 (.tmp rfl) (.tmp rfl)) fun fa65 fh65 => ?_
    clear fh64 fa64
    refine Kn.pure fh65 rfl rfl .none (Kn.ex_move fh65 (.tmp rfl)) fun fa66 fh66 => ?_
    clear fh65 fa65
    refine Kn.pure fh66 rfl rfl (.some rfl rfl rfl) (Kn.ex_move fh66 (.tmp rfl)) fun fa67 fh67 => ?_
    clear fh66 fa66
    refine Kn.call fh67 rfl rfl (.some rfl rfl rfl) (Kn.ex_call fh67 (.cons (.tmp rfl) (.cons .const (.cons .const .nil)))) Tryd.call17 (has_nil 0 0 w6) fun e wa hp => ?_
    obtain ⟨rfl, rfl⟩ := hp
    refine ⟨_, rfl, fun fa68 fh68 => ?_⟩
    clear fh67 fa67
    refine Kn.pure fh68 rfl rfl .none (Kn.ex_pick fh68 (.tmp rfl) (.tmp rfl)) fun fa69 fh69 => ?_
    clear fh68 fa68
    refine Kn.pure fh69 rfl rfl .none (Kn.ex_move fh69 (.tmp rfl)) fun fa70 fh70 => ?_
    clear fh69 fa69
    refine Kn.pure fh70 rfl rfl (.some rfl rfl rfl) (Kn.ex_move fh70 (.tmp rfl)) fun fa71 fh71 => ?_
    clear fh70 fa70
    refine Kn.call fh71 rfl rfl (.some rfl rfl rfl) (Kn.ex_call fh71 (.cons (.tmp rfl) (.cons .const .nil))) Tryd.call21 (begin_nil 0 w6) fun e wa hp => ?_
    obtain ⟨rfl, rfl⟩ := hp
    refine ⟨_, rfl, fun fa72 fh72 => ?_⟩
    clear fh71 fa71
    refine Kn.step fh72 rfl rfl (.some rfl rfl rfl) (Kn.ex_bin fh72 (.tmp rfl) .const) fun Ko hKo => ?_
    go_simp
    try go_bits
    refine hKo _ _ fun fa73 fh73 => ?_
    clear hKo Ko fh72 fa72
    refine Kn.pure fh73 rfl rfl .none (Kn.ex_pick fh73 (.tmp rfl) (.tmp rfl)) fun fa74 fh74 => ?_
    clear fh73 fa73
    refine Kn.pure fh74 rfl rfl .none (Kn.ex_move fh74 (.tmp rfl)) fun fa75 fh75 => ?_
    clear fh74 fa74
    refine Kn.pure fh75 rfl rfl (.some rfl rfl rfl) (Kn.ex_move fh75 (.tmp rfl)) fun fa76 fh76 => ?_
    clear fh75 fa75
    refine Kn.call fh76 rfl rfl (.some rfl rfl rfl) (Kn.ex_call fh76 (.cons (.tmp rfl) .nil)) Tryd.call23 (turnedC_nil w6) fun e wa hp => ?_
    obtain ⟨rfl, rfl⟩ := hp
    refine ⟨_, rfl, fun fa77 fh77 => ?_⟩
    clear fh76 fa76
    refine Kn.step fh77 rfl rfl (.some rfl rfl rfl) (Kn.ex_bin fh77 (.tmp rfl) .const) fun Ko hKo => ?_
    go_simp
    try go_bits
    refine hKo _ _ fun fa78 fh78 => ?_
    clear hKo Ko fh77 fa77
    refine Kn.pure fh78 rfl rfl .none (Kn.ex_pick fh78 (.tmp rfl) (.tmp rfl)) fun fa79 fh79 => ?_
    clear fh78 fa78
    refine Kn.pure fh79 rfl rfl .none (Kn.ex_move fh79 (.tmp rfl)) fun fa80 fh80 => ?_
    clear fh79 fa79
    refine Kn.pure fh80 rfl rfl (.some rfl rfl rfl) (Kn.ex_move fh80 (.tmp rfl)) fun fa81 fh81 => ?_
    clear fh80 fa80
    refine Kn.call fh81 rfl rfl (.some rfl rfl rfl) (Kn.ex_call fh81 (.cons (.tmp rfl) (.cons .const .nil))) Tryd.call24 (sameC_nil w6) fun e wa hp => ?_
    obtain ⟨rfl, rfl⟩ := hp
    refine ⟨_, rfl, fun fa82 fh82 => ?_⟩
    clear fh81 fa81
    refine Kn.step fh82 rfl rfl (.some rfl rfl rfl) (Kn.ex_un fh82 (.tmp rfl)) fun Ko hKo => ?_
    go_simp
    try go_bits
    refine hKo _ _ fun fa83 fh83 => ?_
    clear hKo Ko fh82 fa82
    refine Kn.pure fh83 rfl rfl .none (Kn.ex_pick fh83 (.tmp rfl) (.tmp rfl)) fun fa84 fh84 => ?_
    clear fh83 fa83
    refine Kn.pure fh84 rfl rfl .none (Kn.ex_move fh84 (.tmp rfl)) fun fa85 fh85 => ?_
    clear fh84 fa84
    refine Kn.pure fh85 rfl rfl (.some rfl rfl rfl) (Kn.ex_move fh85 (.tmp rfl)) fun fa86 fh86 => ?_
    clear fh85 fa85
    refine Kn.step fh86 rfl rfl (.some rfl rfl rfl) (Kn.ex_bin fh86 (.tmp rfl) .const) fun Ko hKo => ?_
    go_simp
    try go_bits
    refine hKo _ _ fun fa87 fh87 => ?_
    clear hKo Ko fh86 fa86
    refine Kn.pure fh87 rfl rfl (.some rfl rfl rfl) (Kn.ex_move fh87 (.tmp rfl)) fun fa88 fh88 => ?_
    clear fh87 fa87
    refine Kn.skip fh88 rfl rfl (.some rfl rfl rfl) fun fa89 fh89 => ?_
    clear fh88 fa88
    refine Kn.skip fh89 rfl rfl (.some rfl rfl rfl) fun fa90 fh90 => ?_
    clear fh89 fa89
    refine Kn.skip fh90 rfl rfl (.some rfl rfl rfl) fun fa91 fh91 => ?_
    clear fh90 fa90
    refine Kn.pure fh91 rfl rfl (.some rfl rfl rfl) (Kn.ex_pick fh91 (.tmp rfl) .const) fun fa92 fh92 => ?_
    clear fh91 fa91
    refine Kn.pure fh92 rfl rfl .none (Kn.ex_pick fh92 (.tmp rfl) (.tmp rfl)) fun fa93 fh93 => ?_
    clear fh92 fa92
    refine wpList_nil ?_
    refine hK12 _ _ ?_
    clear hK12 K12
    replace fh93 := fh93.cut (.cons (t := 100) rfl (.cons (t := 10) rfl (.cons (t := 9) rfl (.cons (t := 8) rfl (.cons (t := 7) rfl (.cons (t := 6) rfl (.cons (t := 3) rfl (.cons (t := 1) rfl (.cons (t := 2) rfl .nil)))))))))
    refine Kn.no fh93 (.tmp rfl) ?_
    refine wp_skip ?_
    refine hK11 _ _ ?_
    clear hK11 K11
    replace fh93 := fh93.cut (.cons (t := 10) rfl (.cons (t := 9) rfl (.cons (t := 8) rfl (.cons (t := 7) rfl (.cons (t := 6) rfl (.cons (t := 3) rfl (.cons (t := 1) rfl (.cons (t := 2) rfl .nil))))))))
    clear HX3 HX4 HX5 HC HTN HDN
    refine wp_seq_k fun K13 hK13 => ?_
    refine wp_seq_k fun K14 hK14 => ?_
    refine wp_region_lit ?_
    refine Kn.pure fh93 rfl rfl .none (Kn.ex_move fh93 (.tmp rfl)) fun fa94 fh94 => ?_
    clear fh93 fa93
    refine Kn.step fh94 rfl rfl .none (Kn.ex_bin fh94 (.tmp rfl) .const) fun Ko hKo => ?_
    go_simp
    try go_bits
    refine hKo _ _ fun fa95 fh95 => ?_
    clear hKo Ko fh94 fa94
    refine Kn.pure fh95 rfl rfl .none (Kn.ex_move fh95 (.tmp rfl)) fun fa96 fh96 => ?_
    clear fh95 fa95
    refine Kn.skip fh96 rfl rfl (.some rfl rfl rfl) fun fa97 fh97 => ?_
    clear fh96 fa96
    refine Kn.skip fh97 rfl rfl (.some rfl rfl rfl) fun fa98 fh98 => ?_
    clear fh97 fa97
    refine Kn.pure fh98 rfl rfl .none (Kn.ex_pick fh98 (.tmp rfl) .const) fun fa99 fh99 => ?_
    clear fh98 fa98
    refine wpList_nil ?_
    refine hK14 _ _ ?_
    clear hK14 K14
    replace fh99 := fh99.cut (.cons (t := 106) rfl (.cons (t := 9) rfl (.cons (t := 7) rfl (.cons (t := 6) rfl (.cons (t := 3) rfl (.cons (t := 1) rfl (.cons (t := 2) rfl .nil)))))))
    refine Kn.yes fh99 (.tmp rfl) ?_
    replace fh99 := fh99.cut (.cons (t := 9) rfl (.cons (t := 7) rfl (.cons (t := 6) rfl (.cons (t := 3) rfl (.cons (t := 1) rfl (.cons (t := 2) rfl .nil))))))
    refine wp_seq_k fun K15 hK15 => ?_
    refine wp_region_lit ?_
    refine Kn.pure fh99 rfl rfl .none (Kn.ex_assign fh99 .const) fun fa100 fh100 => ?_
    clear fh99 fa99
    refine wpList_nil ?_
    refine hK15 _ _ ?_
    clear hK15 K15
    refine wp_ret ?_
    refine Kn.then_ret ?_
    exact Kn.ret1 fh100 rfl rfl ⟨rfl, HX6.out.bel⟩

end Go.Proofs.YtinjecaanjeapaaDoor.Csr
