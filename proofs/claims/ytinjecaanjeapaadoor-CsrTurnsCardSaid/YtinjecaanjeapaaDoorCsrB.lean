/- Contracts of the program's csr: rows, Build (written by gen_csrb.py). -/
import Derived.Test.YtinjecaanjeapaaDoorCsrA
namespace Go.Proofs.YtinjecaanjeapaaDoor.Kn
open Go
section
variable {P : Program} {n : Nat} {ops : Array Oper} {Q : Exit → Act → World → Prop} {S : World → Prop} {G : World → World → Prop} {T : Nat → Value → World → Prop}
/-- An operation that isn't wanted. -/
theorem askip {i : Nat} {o : Oper} {L : Nat → Prop} {a : Act} {w : World} {l' : List (Nat × Value)} (h : Kn n l' a) (hw : Wants ops l' o.guard false) (h1 : T i undef w) : Op1 P ops Q S G T F0 i o L a w := by
  unfold Op1
  rw [h.wants hw, if_neg (by simp)]
  exact ⟨h1, fun _ _ _ _ _ => ⟨trivial, trivial⟩⟩
end
end Go.Proofs.YtinjecaanjeapaaDoor.Kn
namespace Go.Proofs.YtinjecaanjeapaaDoor.Csr
open Go Go.RowKit Go.Lib Edg Num

/-- The first k beginnings, noughts behind them. -/
def bk (ys : List (Int × Int)) (N k : Nat) : List Int := bgs ys k ++ List.replicate (N - k) 0
theorem bk_0 (ys : List (Int × Int)) (N : Nat) : bk ys N 0 = List.replicate N 0 := by simp [bk, bgs]
theorem bk_end (ys : List (Int × Int)) (N : Nat) : bk ys N N = bgs ys N := by simp [bk]
theorem bk_len (ys : List (Int × Int)) (N k : Nat) (h : k ≤ N) : (bk ys N k).length = N := by simp [bk, bgs]; omega
theorem bk_set (ys : List (Int × Int)) (N k : Nat) (h : k < N) : (bk ys N k).set k (bgn ys (k : Int) : Int) = bk ys N (k + 1) := by
  unfold bk
  rw [show N - k = (N - (k + 1)) + 1 by omega, List.replicate_succ]
  have hl : (bgs ys k).length = k := bgs_len ys k
  rw [List.set_append_right k _ (by omega), hl, Nat.sub_self, List.set_cons_zero]
  simp [bgs, List.range_succ]
/-- The first a targets, noughts behind them. -/
def tz (ys : List (Int × Int)) (a : Nat) : List Int := tgs (ys.take a) ++ List.replicate (ys.length - a) 0
theorem tz_0 (ys : List (Int × Int)) : tz ys 0 = List.replicate ys.length 0 := by simp [tz, tgs]
theorem tz_end (ys : List (Int × Int)) : tz ys ys.length = tgs ys := by simp [tz]
theorem tz_len (ys : List (Int × Int)) (a : Nat) (h : a ≤ ys.length) : (tz ys a).length = ys.length := by simp [tz, tgs]; omega
theorem tz_set (ys : List (Int × Int)) (a : Nat) (h : a < ys.length) : (tz ys a).set a (ed ys a).2 = tz ys (a + 1) := by
  unfold tz
  rw [take_ed ys a h, show ys.length - a = (ys.length - (a + 1)) + 1 by omega, List.replicate_succ]
  have hl : (tgs (ys.take a)).length = a := by simp [tgs]; omega
  rw [List.set_append_right a _ (by omega), hl, Nat.sub_self, List.set_cons_zero]
  simp [tgs]
/-- Rows that are being written. -/
def RMem (u : World) (B g gb gt N L : Nat) (bs ts : List Int) : Prop := (B ≤ g ∧ B ≤ gb ∧ B ≤ gt) ∧ (gb < u.heap.size ∧ gt < u.heap.size) ∧ (gb ≠ gt ∧ g ≠ gb ∧ g ≠ gt) ∧ St.St u g 64 #[.slice (some ⟨gb, 0, none⟩) N N, .slice (some ⟨gt, 0, none⟩) L L] ∧ HoldI u gb bs ∧ HoldI u gt ts
section
variable {u u' : World} {B g gb gt N L : Nat} {bs ts : List Int}
theorem RMem.on (h : RMem u B g gb gt N L bs ts) (hb : Below u.heap.size u u') : RMem u' B g gb gt N L bs ts := by
  obtain ⟨h1, h2, h3, h4, h5, h6⟩ := h
  have := hb.size
  exact ⟨h1, ⟨by omega, by omega⟩, h3, h4.on hb, h5.on hb, h6.on hb⟩
theorem RMem.drew (h : RMem u B g gb gt N L bs ts) : RMem u.drew B g gb gt N L bs ts := h
theorem RMem.storeB (h : RMem u B g gb gt N L bs ts) (k : Nat) (hk : k < bs.length) (x : Int) : ∃ u', (Instr.storeAt 3 (.pointer (some ⟨gb, k, none⟩)) (.int .i64 x)).run Tryd.prog u = .ok () u' ∧ RMem u' B g gb gt N L (bs.set k x) ts ∧ Below B u u' := by
  obtain ⟨h1, h2, h3, h4, h5, h6⟩ := h
  obtain ⟨u', e1, e2, e3, e4, e5⟩ := h5.store k hk x
  exact ⟨u', e1, ⟨h1, ⟨by omega, by omega⟩, h3, (e3 g h3.2.1).trans h4, e2, h6.at (e3 gt h3.1.symm)⟩, e5 B h1.2.1⟩
theorem RMem.storeT (h : RMem u B g gb gt N L bs ts) (k : Nat) (hk : k < ts.length) (x : Int) : ∃ u', (Instr.storeAt 3 (.pointer (some ⟨gt, k, none⟩)) (.int .i64 x)).run Tryd.prog u = .ok () u' ∧ RMem u' B g gb gt N L bs (ts.set k x) ∧ Below B u u' := by
  obtain ⟨h1, h2, h3, h4, h5, h6⟩ := h
  obtain ⟨u', e1, e2, e3, e4, e5⟩ := h6.store k hk x
  exact ⟨u', e1, ⟨h1, ⟨by omega, by omega⟩, h3, (e3 g h3.2.2).trans h4, h5.at (e3 gb h3.1), e2⟩, e5 B h1.2.2⟩
end
/-- A new row of noughts. -/
def ZRow (B n : Nat) : Value → World → Prop := fun v u => ∃ g, v = .slice (some ⟨g, 0, none⟩) n n ∧ B ≤ g ∧ g < u.heap.size ∧ HoldI u g (List.replicate n 0)
theorem ZRow.keep {B n : Nat} : ∀ v w w', Below w.heap.size w w' → ZRow B n v w → ZRow B n v w' := fun v w w' hb ⟨g, e, h1, h2, h3⟩ => ⟨g, e, h1, Nat.lt_of_lt_of_le h2 hb.size, h3.on hb⟩
def ZAgg (B N L : Nat) : Value → World → Prop := fun v u => ∃ gb gt, v = .agg #[.slice (some ⟨gb, 0, none⟩) N N, .slice (some ⟨gt, 0, none⟩) L L] ∧ gb ≠ gt ∧ (B ≤ gb ∧ gb < u.heap.size) ∧ (B ≤ gt ∧ gt < u.heap.size) ∧ HoldI u gb (List.replicate N 0) ∧ HoldI u gt (List.replicate L 0)
theorem ZAgg.keep {B N L : Nat} : ∀ v w w', Below w.heap.size w w' → ZAgg B N L v w → ZAgg B N L v w' := fun v w w' hb ⟨gb, gt, e, h1, h2, h3, h4, h5⟩ => ⟨gb, gt, e, h1, ⟨h2.1, Nat.lt_of_lt_of_le h2.2 hb.size⟩, ⟨h3.1, Nat.lt_of_lt_of_le h3.2 hb.size⟩, h4.on hb, h5.on hb⟩
def ZPtr (B N L : Nat) : Value → World → Prop := fun v u => ∃ g gb gt, v = .pointer (some ⟨g, 0, none⟩) ∧ RMem u B g gb gt N L (List.replicate N 0) (List.replicate L 0)
theorem ZPtr.keep {B N L : Nat} : ∀ v w w', Below w.heap.size w w' → ZPtr B N L v w → ZPtr B N L v w' := fun v w w' hb ⟨g, gb, gt, e, h⟩ => ⟨g, gb, gt, e, h.on hb⟩
/-- The two new rows lie apart. -/
def Fz : Nat → Nat → Value → Value → Prop := fun i k v u => i = 1 → k = 4 → v.ownBlock ≠ u.ownBlock
theorem box_mem {u : World} {B gb gt N L : Nat} (hB : B ≤ u.heap.size) (hne : gb ≠ gt) (h2 : B ≤ gb ∧ gb < u.heap.size) (h3 : B ≤ gt ∧ gt < u.heap.size) (h4 : HoldI u gb (List.replicate N 0)) (h5 : HoldI u gt (List.replicate L 0)) :
    RMem (u.alloc (.cells #[.slice (some ⟨gb, 0, none⟩) N N, .slice (some ⟨gt, 0, none⟩) L L] 64)) B u.heap.size gb gt N L (List.replicate N 0) (List.replicate L 0) := by
  have hb : Below u.heap.size u (u.alloc (.cells #[.slice (some ⟨gb, 0, none⟩) N N, .slice (some ⟨gt, 0, none⟩) L L] 64)) := (Below.refl _ u).alloc (Nat.le_refl _) _
  exact ⟨⟨hB, h2.1, h3.1⟩, ⟨Nat.lt_of_lt_of_le h2.2 hb.size, Nat.lt_of_lt_of_le h3.2 hb.size⟩, ⟨hne, by omega, by omega⟩, St.St.new _ _ _, h4.on hb, h5.on hb⟩

set_option maxRecDepth 100000 in
set_option maxHeartbeats 2000000 in
theorem rows_any (N : Nat) (A : Option Addr) (ca : Nat) (ys : List (Int × Int)) (w : World) (hs : Srt ys) (hg : Edg.Good (N : Int) ys) (hA : EIn w A ys) :
    Calls Tryd.prog 26 #[.int .i64 (N : Int), .slice A ys.length ca] w fun e w' => ∃ g, e = .returned (.pointer (some ⟨g, 0, none⟩)) ∧ Rep w' w.heap.size g N ys ∧ Below w.heap.size w w' := by
  have hN4 : N ≤ 4096 := by have := hg.hi; omega
  have hL2 := hg.len
  have HA := Lib.hid hA
  clear hA
  refine Kn.calls Tryd.func26 rfl Tryd.ntmps26 rfl (.cons (t := 0) rfl (.cons (t := 1) rfl .nil)) fun fa0 fh0 => ?_
  refine wp_seq_k fun K1 hK1 => ?_
  refine wp_region_lit ?_
  refine Kn.pure fh0 rfl rfl .none (Kn.ex_assign fh0 .const) fun fa1 fh1 => ?_
  clear fh0 fa0
  refine wpList_nil ?_
  refine hK1 _ _ ?_
  clear hK1 K1
  refine wp_seq_k fun K2 hK2 => ?_
  refine Kn.anyF (fun u => Below w.heap.size w u) (fun u u' => Below u.heap.size u u') (Kn.TL [Kn.Is (.int .i64 (N : Int)), (ZRow w.heap.size N), Kn.Is (.slice A ys.length ca), Kn.Is (.int .i64 (ys.length : Int)), (ZRow w.heap.size ys.length), (ZAgg w.heap.size N ys.length), (ZPtr w.heap.size N ys.length), (ZPtr w.heap.size N ys.length)]) Fz (by kernel_rfl) fh1 (by kernel_rfl) (by kernel_rfl) rfl (Kn.Keeps.all (.cons Kn.Is.keep (.cons ZRow.keep (.cons Kn.Is.keep (.cons Kn.Is.keep (.cons ZRow.keep (.cons ZAgg.keep (.cons ZPtr.keep (.cons ZPtr.keep .nil))))))))) (Below.refl _ w).drew ⟨?_, ?_, ?_, ?_, ?_, ?_, ?_, ?_, trivial⟩ ?_
  · refine Kn.okF fun fa2 u L fh2 hS hO hT2 hA => ?_
    exact Kn.aopF fh2 .none (Kn.ex_move fh2 (.tmp rfl)) fun Ko hKo => hKo _ _ rfl hS (Below.refl _ _) (fun _ _ _ _ _ => ⟨fun h _ => absurd h (by decide), fun _ h => absurd h (by decide)⟩)
  · refine Kn.okF fun fa2 u L fh2 hS hO hT2 hA => ?_
    replace fh2 := fh2.more (show fa2.eval (.tmp 8) = .int .i64 (N : Int) from hO 0 8 (hA 0 rfl) rfl)
    obtain ⟨u7, hrun, hH, hbel, hlt⟩ := makeI u N (by omega)
    exact Kn.aopF fh2 .none (Kn.ex_makeSlice fh2 (.tmp rfl) (.tmp rfl)) fun Ko hKo => by rw [hrun]; exact hKo _ _ ⟨u.heap.size, rfl, hS.size, hlt, hH⟩ (hS.trans (hbel.mono hS.size)) hbel (fun k d hk hl hd => ⟨fun _ h4 => by subst h4; obtain ⟨g4, e4, -, hlt4, -⟩ := (show ZRow w.heap.size ys.length _ u from hO 4 d hl hd); rw [e4]; simp [Value.ownBlock]; omega, fun _ h => absurd h (by decide)⟩)
  · refine Kn.okF fun fa2 u L fh2 hS hO hT2 hA => ?_
    exact Kn.aopF fh2 .none (Kn.ex_move fh2 (.tmp rfl)) fun Ko hKo => hKo _ _ rfl hS (Below.refl _ _) (fun _ _ _ _ _ => ⟨fun h _ => absurd h (by decide), fun _ h => absurd h (by decide)⟩)
  · refine Kn.okF fun fa2 u L fh2 hS hO hT2 hA => ?_
    replace fh2 := fh2.more (show fa2.eval (.tmp 10) = .slice A ys.length ca from hO 2 10 (hA 2 rfl) rfl)
    refine Kn.aopF fh2 .none (Kn.ex_len fh2 (.tmp rfl)) fun Ko hKo => ?_
    go_simp
    try go_bits
    exact hKo _ _ rfl hS (Below.refl _ _) (fun _ _ _ _ _ => ⟨fun h _ => absurd h (by decide), fun _ h => absurd h (by decide)⟩)
  · refine Kn.okF fun fa2 u L fh2 hS hO hT2 hA => ?_
    replace fh2 := fh2.more (show fa2.eval (.tmp 11) = .int .i64 (ys.length : Int) from hO 3 11 (hA 3 rfl) rfl)
    obtain ⟨u7, hrun, hH, hbel, hlt⟩ := makeI u ys.length (by omega)
    exact Kn.aopF fh2 .none (Kn.ex_makeSlice fh2 (.tmp rfl) (.tmp rfl)) fun Ko hKo => by rw [hrun]; exact hKo _ _ ⟨u.heap.size, rfl, hS.size, hlt, hH⟩ (hS.trans (hbel.mono hS.size)) hbel (fun k d hk hl hd => ⟨fun h _ => absurd h (by decide), fun h1 _ => by subst h1; obtain ⟨g4, e4, -, hlt4, -⟩ := (show ZRow w.heap.size N _ u from hO 1 d hl hd); rw [e4]; simp [Value.ownBlock]; omega⟩)
  · refine Kn.okF fun fa2 u L fh2 hS hO hT2 hA => ?_
    obtain ⟨g9, e9, hB9, hL9, hH9⟩ : (ZRow w.heap.size N) (fa2.eval (.tmp 9)) u := hO 1 9 (hA 1 rfl) rfl
    replace fh2 := fh2.more e9
    obtain ⟨g12, e12, hB12, hL12, hH12⟩ : (ZRow w.heap.size ys.length) (fa2.eval (.tmp 12)) u := hO 4 12 (hA 4 rfl) rfl
    replace fh2 := fh2.more e12
    have hne := hT2 1 4 9 12 (by decide) (hA 1 rfl) (hA 4 rfl) rfl rfl rfl rfl
    rw [e9, e12] at hne
    refine Kn.aopF fh2 .none (Kn.ex_build fh2 (.cons (.tmp rfl) (.cons (.tmp rfl) .nil))) fun Ko hKo => ?_
    go_simp
    try go_bits
    exact hKo _ _ ⟨g9, g12, rfl, fun h => hne (by simp [Value.ownBlock, h]), ⟨hB9, hL9⟩, ⟨hB12, hL12⟩, hH9, hH12⟩ hS (Below.refl _ _) (fun _ _ _ _ _ => ⟨fun h _ => absurd h (by decide), fun _ h => absurd h (by decide)⟩)
  · refine Kn.okF fun fa2 u L fh2 hS hO hT2 hA => ?_
    obtain ⟨gb13, gt13, e13, hn13, hB13, hL13, hH13, hJ13⟩ : (ZAgg w.heap.size N ys.length) (fa2.eval (.tmp 13)) u := hO 5 13 (hA 5 rfl) rfl
    replace fh2 := fh2.more e13
    refine Kn.aopF fh2 .none (Kn.ex_box fh2 (.tmp rfl)) fun Ko hKo => ?_
    go_simp
    try go_bits
    exact hKo _ _ ⟨u.heap.size, gb13, gt13, rfl, box_mem hS.size hn13 hB13 hL13 hH13 hJ13⟩ (hS.alloc hS.size _) ((Below.refl _ u).alloc (Nat.le_refl _) _) (fun _ _ _ _ _ => ⟨fun h _ => absurd h (by decide), fun _ h => absurd h (by decide)⟩)
  · refine Kn.okF fun fa2 u L fh2 hS hO hT2 hA => ?_
    obtain ⟨g14, gb14, gt14, e14, hM14⟩ : (ZPtr w.heap.size N ys.length) (fa2.eval (.tmp 14)) u := hO 6 14 (hA 6 rfl) rfl
    replace fh2 := fh2.more e14
    exact Kn.aopF fh2 .none (Kn.ex_assign fh2 (.tmp rfl)) fun Ko hKo => hKo _ _ ⟨g14, gb14, gt14, rfl, hM14⟩ hS (Below.refl _ _) (fun _ _ _ _ _ => ⟨fun h _ => absurd h (by decide), fun _ h => absurd h (by decide)⟩)
  intro fa2 w1 fh2 hS hT hT2
  clear fh1 fa1
  obtain ⟨g5, gb5, gt5, e5, hM5⟩ : (ZPtr w.heap.size N ys.length) (fa2.eval (.tmp 5)) w1 := hT 7 5 rfl
  replace fh2 := fh2.more e5
  clear hT
  refine hK2 _ _ ?_
  clear hK2 K2
  clear hT2 e5
  have HB1 := Lib.hid hS
  have HM1 := Lib.hid hM5
  clear hS hM5
  refine wp_seq_k fun K3 hK3 => ?_
  refine wp_region_lit ?_
  refine Kn.pure fh2 rfl rfl .none (Kn.ex_assign fh2 .const) fun fa3 fh3 => ?_
  clear fh2 fa2
  refine wpList_nil ?_
  refine hK3 _ _ ?_
  clear hK3 K3
  refine wp_seq_k fun K4 hK4 => ?_
  refine wp_seq_k fun K5 hK5 => ?_
  refine wp_region_lit ?_
  refine Kn.pure fh3 rfl rfl .none (Kn.ex_move fh3 (.tmp rfl)) fun fa4 fh4 => ?_
  clear fh3 fa3
  refine Kn.pure fh4 rfl rfl .none (Kn.ex_move fh4 .const) fun fa5 fh5 => ?_
  clear fh4 fa4
  refine wpList_nil ?_
  refine hK5 _ _ ?_
  clear hK5 K5
  replace fh5 := fh5.cut (.cons (t := 16) rfl (.cons (t := 15) rfl (.cons (t := 6) rfl (.cons (t := 5) rfl (.cons (t := 4) rfl (.cons (t := 1) rfl .nil))))))
  refine wp_block ?_
  refine Kn.loop (fun m fr u => ∃ (k : Nat), Kn.Kn 54 [(16, .int .i64 (k : Int)), (15, .int .i64 (N : Int)), (5, .pointer (some ⟨g5, 0, none⟩)), (6, .int .i64 (bgn ys (k : Int) : Int)), (1, .slice A ys.length ca)] fr ∧ k + m = N ∧ Hid (Below w.heap.size w u) ∧ Hid (RMem u w.heap.size g5 gb5 gt5 N ys.length (bk ys N k) (tz ys (bgn ys (k : Int))))) N ⟨0, fh5.cut (.turn (t := 16) rfl rfl (.cons (t := 15) rfl (.cons (t := 5) rfl (.turn (t := 6) rfl (by rw [show bgn ys ((0 : Nat) : Int) = 0 from bgn_0 hg]; rfl) (.cons (t := 1) rfl .nil))))), by omega, HB1, Lib.hid (by rw [bk_0, show bgn ys ((0 : Nat) : Int) = 0 from bgn_0 hg, tz_0]; exact HM1.out)⟩ ?_
  clear fh5 fa5
  intro m6 fa6 u hI Kl6 hKl6
  obtain ⟨k, fh6, hk, HB, HM⟩ := hI
  by_cases hlt : k < N
  · have hb1 := bgn_mono ys (k : Int)
    have hb2 := bgn_le ys ((k : Int) + 1)
    obtain ⟨k1, hk1⟩ : ∃ k1, k + 1 = k1 := ⟨_, rfl⟩
    have r1 : (k : Int) + 1 = (k1 : Int) := by omega
    rw [r1] at hb1 hb2
    obtain ⟨u2, hst, hM2, hB2⟩ := HM.out.storeB k (by rw [bk_len ys N k (by omega)]; exact hlt) (bgn ys (k : Int) : Int)
    rw [bk_set ys N k hlt, hk1] at hM2
    have HM2 := Lib.hid hM2
    have HB2 := Lib.hid (HB.out.trans hB2)
    have c0 := HM.out.2.2.2.1.cell 0 rfl
    obtain ⟨b0, hb0⟩ : ∃ b, bgn ys (k : Int) = b := ⟨_, rfl⟩
    obtain ⟨b1, hbb1⟩ : ∃ b, bgn ys (k1 : Int) = b := ⟨_, rfl⟩
    rw [hb0] at hb1 hst HM2 fh6
    rw [hbb1] at hb1 hb2
    have HB0 := Lib.hid hb0
    have HBB := Lib.hid hbb1
    clear hb0 hbb1 hM2 hB2
    refine wp_seq_k fun K7 hK7 => ?_
    refine wp_region_lit ?_
    refine Kn.step fh6 rfl rfl .none (Kn.ex_bin fh6 (.tmp rfl) (.tmp rfl)) fun Ko hKo => ?_
    go_simp
    try go_bits
    refine hKo _ _ fun fa7 fh7 => ?_
    clear hKo Ko fh6 fa6
    refine wpList_nil ?_
    refine hK7 _ _ ?_
    clear hK7 K7
    refine wp_seq_k fun K8 hK8 => ?_
    refine Kn.yes fh7 (.tmp rfl) ?_
    refine wp_skip ?_
    refine hK8 _ _ ?_
    clear hK8 K8
    replace fh7 := fh7.cut (.cons (t := 16) rfl (.cons (t := 15) rfl (.cons (t := 5) rfl (.cons (t := 6) rfl (.cons (t := 1) rfl .nil)))))
    refine wp_seq_k fun K9 hK9 => ?_
    refine wp_block ?_
    refine wp_seq_k fun K10 hK10 => ?_
    refine wp_region_lit ?_
    refine Kn.pure fh7 rfl rfl .none (Kn.ex_move fh7 (.tmp rfl)) fun fa8 fh8 => ?_
    clear fh7 fa7
    refine Kn.pure fh8 rfl rfl .none (Kn.ex_assign fh8 (.tmp rfl)) fun fa9 fh9 => ?_
    clear fh8 fa8
    refine wpList_nil ?_
    refine hK10 _ _ ?_
    clear hK10 K10
    replace fh9 := fh9.cut (.cons (t := 7) rfl (.cons (t := 16) rfl (.cons (t := 15) rfl (.cons (t := 5) rfl (.cons (t := 6) rfl (.cons (t := 1) rfl .nil))))))
    refine wp_seq_k fun K11 hK11 => ?_
    refine wp_region_lit ?_
    refine Kn.pure fh9 rfl rfl .none (Kn.ex_move fh9 (.tmp rfl)) fun fa10 fh10 => ?_
    clear fh9 fa9
    refine Kn.pure fh10 rfl rfl .none (Kn.ex_nilCheck fh10 (.tmp rfl)) fun fa11 fh11 => ?_
    clear fh10 fa10
    refine Kn.step fh11 rfl rfl .none (Kn.ex_fieldAddr fh11 (.tmp rfl)) fun Ko hKo => ?_
    go_simp
    try go_bits
    refine hKo _ _ fun fa12 fh12 => ?_
    clear hKo Ko fh11 fa11
    refine Kn.step fh12 rfl rfl .none (Kn.ex_load fh12 (.tmp rfl)) fun Ko hKo => ?_
    go_simp
    try go_bits
    refine hKo _ _ fun fa13 fh13 => ?_
    clear hKo Ko fh12 fa12
    refine Kn.pure fh13 rfl rfl .none (Kn.ex_move fh13 (.tmp rfl)) fun fa14 fh14 => ?_
    clear fh13 fa13
    refine Kn.pure fh14 rfl rfl .none (Kn.ex_move fh14 (.tmp rfl)) fun fa15 fh15 => ?_
    clear fh14 fa14
    refine Kn.step fh15 rfl rfl .none (Kn.ex_indexAddr fh15 (.tmp rfl) (.tmp rfl)) fun Ko hKo => ?_
    go_simp
    try go_bits
    refine hKo _ _ fun fa16 fh16 => ?_
    clear hKo Ko fh15 fa15
    refine Kn.stepU fh16 rfl .none (Kn.ex_store fh16 (.tmp rfl) (.tmp rfl)) fun Ko hKo => ?_
    rw [hst]
    refine hKo _ ?_
    clear hKo Ko
    refine wpList_nil ?_
    refine hK11 _ _ ?_
    clear hK11 K11
    replace fh16 := fh16.cut (.cons (t := 7) rfl (.cons (t := 16) rfl (.cons (t := 15) rfl (.cons (t := 5) rfl (.cons (t := 6) rfl (.cons (t := 1) rfl .nil))))))
    clear hst c0
    refine wp_block ?_
    refine Kn.loop (fun m fr v => ∃ (a : Nat), Kn.Kn 54 [(6, .int .i64 (a : Int)), (7, .int .i64 (k : Int)), (16, .int .i64 (k : Int)), (15, .int .i64 (N : Int)), (5, .pointer (some ⟨g5, 0, none⟩)), (1, .slice A ys.length ca)] fr ∧ a + m = ys.length ∧ (b0 ≤ a ∧ a ≤ b1) ∧ Hid (Below w.heap.size w v) ∧ Hid (RMem v w.heap.size g5 gb5 gt5 N ys.length (bk ys N k1) (tz ys a))) (ys.length - b0) ⟨b0, fh16.cut (.cons (t := 6) rfl (.cons (t := 7) rfl (.cons (t := 16) rfl (.cons (t := 15) rfl (.cons (t := 5) rfl (.cons (t := 1) rfl .nil)))))), by omega, ⟨by omega, hb1⟩, HB2, HM2⟩ ?_
    clear fh16 fa16
    intro m12 fa17 v hI Kl12 hKl12
    obtain ⟨a, fh17, ha, hab, HBv, HMv⟩ := hI
    by_cases hal : a < ys.length
    · obtain ⟨ba, oa, rfl, -, ca1, ca2⟩ := (HA.out.on HBv.out) a hal
      have hlo := bgn_at hs (k : Int) a hal
      have hhi := bgn_at hs (k1 : Int) a hal
      rw [HB0.out] at hlo
      rw [HBB.out] at hhi
      have hset := tz_set ys a hal
      obtain ⟨x1, hx1⟩ : ∃ x, (ed ys a).1 = x := ⟨_, rfl⟩
      obtain ⟨x2, hx2⟩ : ∃ x, (ed ys a).2 = x := ⟨_, rfl⟩
      rw [hx1] at ca1 hlo hhi
      rw [hx2] at ca2 hset
      clear hx1 hx2
      by_cases e1 : x1 = (k : Int)
      · have q1 : (x1 == (k : Int)) = true := by simp [e1]
        have ha1 : a + 1 ≤ b1 := by omega
        obtain ⟨v2, hst, hM3, hB3⟩ := HMv.out.drew.storeT a (by rw [tz_len ys a (by omega)]; exact hal) x2
        rw [hset] at hM3
        have HM3 := Lib.hid hM3
        have HB3 : Hid (Below w.heap.size w v2) := Lib.hid (HBv.out.drew.trans hB3)
        have c1 := HMv.out.2.2.2.1.cell 1 rfl
        clear e1 hM3 hB3 hset
        refine wp_seq_k fun K13 hK13 => ?_
        refine wp_seq_k fun K14 hK14 => ?_
        refine wp_region_lit ?_
        refine Kn.pure fh17 rfl rfl .none (Kn.ex_move fh17 (.tmp rfl)) fun fa18 fh18 => ?_
        clear fh17 fa17
        refine Kn.pure fh18 rfl rfl .none (Kn.ex_move fh18 (.tmp rfl)) fun fa19 fh19 => ?_
        clear fh18 fa18
        refine Kn.step fh19 rfl rfl .none (Kn.ex_len fh19 (.tmp rfl)) fun Ko hKo => ?_
        go_simp
        try go_bits
        refine hKo _ _ fun fa20 fh20 => ?_
        clear hKo Ko fh19 fa19
        refine Kn.step fh20 rfl rfl .none (Kn.ex_bin fh20 (.tmp rfl) (.tmp rfl)) fun Ko hKo => ?_
        go_simp
        try go_bits
        refine hKo _ _ fun fa21 fh21 => ?_
        clear hKo Ko fh20 fa20
        refine Kn.pure fh21 rfl rfl .none (Kn.ex_move fh21 (.tmp rfl)) fun fa22 fh22 => ?_
        clear fh21 fa21
        refine Kn.pure fh22 rfl rfl (.some rfl rfl rfl) (Kn.ex_move fh22 (.tmp rfl)) fun fa23 fh23 => ?_
        clear fh22 fa22
        refine Kn.pure fh23 rfl rfl (.some rfl rfl rfl) (Kn.ex_move fh23 (.tmp rfl)) fun fa24 fh24 => ?_
        clear fh23 fa23
        refine Kn.step fh24 rfl rfl (.some rfl rfl rfl) (Kn.ex_indexAddr fh24 (.tmp rfl) (.tmp rfl)) fun Ko hKo => ?_
        go_simp
        try go_bits
        refine hKo _ _ fun fa25 fh25 => ?_
        clear hKo Ko fh24 fa24
        refine Kn.step fh25 rfl rfl (.some rfl rfl rfl) (Kn.ex_fieldAddr fh25 (.tmp rfl)) fun Ko hKo => ?_
        go_simp
        try go_bits
        refine hKo _ _ fun fa26 fh26 => ?_
        clear hKo Ko fh25 fa25
        refine Kn.step fh26 rfl rfl (.some rfl rfl rfl) (Kn.ex_load fh26 (.tmp rfl)) fun Ko hKo => ?_
        go_simp
        try go_bits
        refine hKo _ _ fun fa27 fh27 => ?_
        clear hKo Ko fh26 fa26
        refine Kn.pure fh27 rfl rfl (.some rfl rfl rfl) (Kn.ex_move fh27 (.tmp rfl)) fun fa28 fh28 => ?_
        clear fh27 fa27
        refine Kn.step fh28 rfl rfl (.some rfl rfl rfl) (Kn.ex_bin fh28 (.tmp rfl) (.tmp rfl)) fun Ko hKo => ?_
        go_simp
        try go_bits
        refine hKo _ _ fun fa29 fh29 => ?_
        clear hKo Ko fh28 fa28
        refine Kn.pure fh29 rfl rfl .none (Kn.ex_pick fh29 (.tmp rfl) (.tmp rfl)) fun fa30 fh30 => ?_
        clear fh29 fa29
        refine wpList_nil ?_
        refine hK14 _ _ ?_
        clear hK14 K14
        replace fh30 := fh30.cut (.cons (t := 38) rfl (.cons (t := 6) rfl (.cons (t := 7) rfl (.cons (t := 16) rfl (.cons (t := 15) rfl (.cons (t := 5) rfl (.cons (t := 1) rfl .nil)))))))
        refine Kn.yes fh30 (.tmp rfl) ?_
        refine wp_skip ?_
        refine hK13 _ _ ?_
        clear hK13 K13
        replace fh30 := fh30.cut (.cons (t := 6) rfl (.cons (t := 7) rfl (.cons (t := 16) rfl (.cons (t := 15) rfl (.cons (t := 5) rfl (.cons (t := 1) rfl .nil))))))
        refine wp_block ?_
        refine wp_seq_k fun K15 hK15 => ?_
        refine Kn.tail 11 (by kernel_rfl) (by kernel_rfl) rfl rfl ?_
        refine Kn.spure fh30 rfl rfl .none (Kn.ex_move fh30 (.tmp rfl)) fun fa31 fh31 => ?_
        clear fh30 fa30
        refine Kn.spure fh31 rfl rfl .none (Kn.ex_nilCheck fh31 (.tmp rfl)) fun fa32 fh32 => ?_
        clear fh31 fa31
        refine Kn.sstep fh32 rfl rfl .none (Kn.ex_fieldAddr fh32 (.tmp rfl)) fun Ko hKo => ?_
        go_simp
        try go_bits
        refine hKo _ fun fa33 fh33 => ?_
        clear hKo Ko fh32 fa32
        refine Kn.sstep fh33 rfl rfl .none (Kn.ex_load fh33 (.tmp rfl)) fun Ko hKo => ?_
        go_simp
        try go_bits
        refine hKo _ fun fa34 fh34 => ?_
        clear hKo Ko fh33 fa33
        refine Kn.spure fh34 rfl rfl .none (Kn.ex_move fh34 (.tmp rfl)) fun fa35 fh35 => ?_
        clear fh34 fa34
        refine Kn.spure fh35 rfl rfl .none (Kn.ex_move fh35 (.tmp rfl)) fun fa36 fh36 => ?_
        clear fh35 fa35
        refine Kn.spure fh36 rfl rfl .none (Kn.ex_move fh36 (.tmp rfl)) fun fa37 fh37 => ?_
        clear fh36 fa36
        refine Kn.sstep fh37 rfl rfl .none (Kn.ex_indexAddr fh37 (.tmp rfl) (.tmp rfl)) fun Ko hKo => ?_
        go_simp
        try go_bits
        refine hKo _ fun fa38 fh38 => ?_
        clear hKo Ko fh37 fa37
        refine Kn.sstep fh38 rfl rfl .none (Kn.ex_fieldAddr fh38 (.tmp rfl)) fun Ko hKo => ?_
        go_simp
        try go_bits
        refine hKo _ fun fa39 fh39 => ?_
        clear hKo Ko fh38 fa38
        refine Kn.sstep fh39 rfl rfl .none (Kn.ex_load fh39 (.tmp rfl)) fun Ko hKo => ?_
        go_simp
        try go_bits
        refine hKo _ fun fa40 fh40 => ?_
        clear hKo Ko fh39 fa39
        refine Kn.sstep fh40 rfl rfl .none (Kn.ex_indexAddr fh40 (.tmp rfl) (.tmp rfl)) fun Ko hKo => ?_
        go_simp
        try go_bits
        refine hKo _ fun fa41 fh41 => ?_
        clear hKo Ko fh40 fa40
        refine wpStill_nil ?_
        refine Kn.stepU fh41 rfl .none (Kn.ex_store fh41 (.tmp rfl) (.tmp rfl)) fun Ko hKo => ?_
        rw [hst]
        refine hKo _ ?_
        clear hKo Ko
        refine wpList_nil ?_
        refine hK15 _ _ ?_
        clear hK15 K15
        replace fh41 := fh41.cut (.cons (t := 6) rfl (.cons (t := 7) rfl (.cons (t := 16) rfl (.cons (t := 15) rfl (.cons (t := 5) rfl (.cons (t := 1) rfl .nil))))))
        clear hst c1
        refine wp_region_lit ?_
        refine Kn.pure fh41 rfl rfl .none (Kn.ex_move fh41 (.tmp rfl)) fun fa42 fh42 => ?_
        clear fh41 fa41
        refine Kn.step fh42 rfl rfl .none (Kn.ex_bin fh42 (.tmp rfl) .const) fun Ko hKo => ?_
        go_simp
        try go_bits
        refine hKo _ _ fun fa43 fh43 => ?_
        clear hKo Ko fh42 fa42
        refine Kn.pure fh43 rfl rfl .none (Kn.ex_assign fh43 (.tmp rfl)) fun fa44 fh44 => ?_
        clear fh43 fa43
        refine wpList_nil ?_
        refine Kn.block_normal ?_
        replace fh44 := fh44.cut (.cons (t := 6) rfl (.cons (t := 7) rfl (.cons (t := 16) rfl (.cons (t := 15) rfl (.cons (t := 5) rfl (.cons (t := 1) rfl .nil))))))
        exact hKl12 (m12 - 1) _ _ (by omega) ⟨a + 1, fh44.cut (.turn (t := 6) rfl (by go_num) (.cons (t := 7) rfl (.cons (t := 16) rfl (.cons (t := 15) rfl (.cons (t := 5) rfl (.cons (t := 1) rfl .nil)))))), by omega, ⟨by omega, ha1⟩, HB3, HM3⟩
      · have q1 : (x1 == (k : Int)) = false := by simp [e1]
        obtain rfl : a = b1 := by omega
        clear e1 hset
        refine wp_seq_k fun K13 hK13 => ?_
        refine wp_seq_k fun K14 hK14 => ?_
        refine wp_region_lit ?_
        refine Kn.pure fh17 rfl rfl .none (Kn.ex_move fh17 (.tmp rfl)) fun fa18 fh18 => ?_
        clear fh17 fa17
        refine Kn.pure fh18 rfl rfl .none (Kn.ex_move fh18 (.tmp rfl)) fun fa19 fh19 => ?_
        clear fh18 fa18
        refine Kn.step fh19 rfl rfl .none (Kn.ex_len fh19 (.tmp rfl)) fun Ko hKo => ?_
        go_simp
        try go_bits
        refine hKo _ _ fun fa20 fh20 => ?_
        clear hKo Ko fh19 fa19
        refine Kn.step fh20 rfl rfl .none (Kn.ex_bin fh20 (.tmp rfl) (.tmp rfl)) fun Ko hKo => ?_
        go_simp
        try go_bits
        refine hKo _ _ fun fa21 fh21 => ?_
        clear hKo Ko fh20 fa20
        refine Kn.pure fh21 rfl rfl .none (Kn.ex_move fh21 (.tmp rfl)) fun fa22 fh22 => ?_
        clear fh21 fa21
        refine Kn.pure fh22 rfl rfl (.some rfl rfl rfl) (Kn.ex_move fh22 (.tmp rfl)) fun fa23 fh23 => ?_
        clear fh22 fa22
        refine Kn.pure fh23 rfl rfl (.some rfl rfl rfl) (Kn.ex_move fh23 (.tmp rfl)) fun fa24 fh24 => ?_
        clear fh23 fa23
        refine Kn.step fh24 rfl rfl (.some rfl rfl rfl) (Kn.ex_indexAddr fh24 (.tmp rfl) (.tmp rfl)) fun Ko hKo => ?_
        go_simp
        try go_bits
        refine hKo _ _ fun fa25 fh25 => ?_
        clear hKo Ko fh24 fa24
        refine Kn.step fh25 rfl rfl (.some rfl rfl rfl) (Kn.ex_fieldAddr fh25 (.tmp rfl)) fun Ko hKo => ?_
        go_simp
        try go_bits
        refine hKo _ _ fun fa26 fh26 => ?_
        clear hKo Ko fh25 fa25
        refine Kn.step fh26 rfl rfl (.some rfl rfl rfl) (Kn.ex_load fh26 (.tmp rfl)) fun Ko hKo => ?_
        go_simp
        try go_bits
        refine hKo _ _ fun fa27 fh27 => ?_
        clear hKo Ko fh26 fa26
        refine Kn.pure fh27 rfl rfl (.some rfl rfl rfl) (Kn.ex_move fh27 (.tmp rfl)) fun fa28 fh28 => ?_
        clear fh27 fa27
        refine Kn.step fh28 rfl rfl (.some rfl rfl rfl) (Kn.ex_bin fh28 (.tmp rfl) (.tmp rfl)) fun Ko hKo => ?_
        go_simp
        try go_bits
        refine hKo _ _ fun fa29 fh29 => ?_
        clear hKo Ko fh28 fa28
        refine Kn.pure fh29 rfl rfl .none (Kn.ex_pick fh29 (.tmp rfl) (.tmp rfl)) fun fa30 fh30 => ?_
        clear fh29 fa29
        refine wpList_nil ?_
        refine hK14 _ _ ?_
        clear hK14 K14
        replace fh30 := fh30.cut (.cons (t := 38) rfl (.cons (t := 6) rfl (.cons (t := 7) rfl (.cons (t := 16) rfl (.cons (t := 15) rfl (.cons (t := 5) rfl (.cons (t := 1) rfl .nil)))))))
        refine Kn.no fh30 (.tmp rfl) ?_
        replace fh30 := fh30.cut (.cons (t := 6) rfl (.cons (t := 7) rfl (.cons (t := 16) rfl (.cons (t := 15) rfl (.cons (t := 5) rfl (.cons (t := 1) rfl .nil))))))
        refine wp_exit ?_
        refine Kn.then_exit ?_
        clear hK13 K13
        refine Kn.then_exit ?_
        clear hKl12 Kl12
        refine Kn.block_exit ?_
        refine Kn.block_normal ?_
        refine hK9 _ _ ?_
        clear hK9 K9
        replace fh30 := fh30.cut (.cons (t := 6) rfl (.cons (t := 16) rfl (.cons (t := 15) rfl (.cons (t := 5) rfl (.cons (t := 1) rfl .nil)))))
        clear ca1 ca2 q1
        refine wp_region_lit ?_
        refine Kn.step fh30 rfl rfl .none (Kn.ex_bin fh30 (.tmp rfl) .const) fun Ko hKo => ?_
        go_simp
        try go_bits
        refine hKo _ _ fun fa31 fh31 => ?_
        clear hKo Ko fh30 fa30
        refine Kn.pure fh31 rfl rfl .none (Kn.ex_move fh31 (.tmp rfl)) fun fa32 fh32 => ?_
        clear fh31 fa31
        refine wpList_nil ?_
        replace fh32 := fh32.cut (.cons (t := 16) rfl (.cons (t := 6) rfl (.cons (t := 15) rfl (.cons (t := 5) rfl (.cons (t := 1) rfl .nil)))))
        exact hKl6 (m6 - 1) _ _ (by omega) ⟨k1, fh32.cut (.turn (t := 16) rfl (by rw [← r1]) (.cons (t := 15) rfl (.cons (t := 5) rfl (.turn (t := 6) rfl (by rw [HBB.out]) (.cons (t := 1) rfl .nil))))), by omega, HBv, Lib.hid (by rw [HBB.out]; exact HMv.out)⟩
    · obtain rfl : a = b1 := by omega
      refine wp_seq_k fun K13 hK13 => ?_
      refine wp_seq_k fun K14 hK14 => ?_
      refine wp_region_lit ?_
      refine Kn.pure fh17 rfl rfl .none (Kn.ex_move fh17 (.tmp rfl)) fun fa18 fh18 => ?_
      clear fh17 fa17
      refine Kn.pure fh18 rfl rfl .none (Kn.ex_move fh18 (.tmp rfl)) fun fa19 fh19 => ?_
      clear fh18 fa18
      refine Kn.step fh19 rfl rfl .none (Kn.ex_len fh19 (.tmp rfl)) fun Ko hKo => ?_
      go_simp
      try go_bits
      refine hKo _ _ fun fa20 fh20 => ?_
      clear hKo Ko fh19 fa19
      refine Kn.step fh20 rfl rfl .none (Kn.ex_bin fh20 (.tmp rfl) (.tmp rfl)) fun Ko hKo => ?_
      go_simp
      try go_bits
      refine hKo _ _ fun fa21 fh21 => ?_
      clear hKo Ko fh20 fa20
      refine Kn.pure fh21 rfl rfl .none (Kn.ex_move fh21 (.tmp rfl)) fun fa22 fh22 => ?_
      clear fh21 fa21
      refine Kn.skip fh22 rfl rfl (.some rfl rfl rfl) fun fa23 fh23 => ?_
      clear fh22 fa22
      refine Kn.skip fh23 rfl rfl (.some rfl rfl rfl) fun fa24 fh24 => ?_
      clear fh23 fa23
      refine Kn.skip fh24 rfl rfl (.some rfl rfl rfl) fun fa25 fh25 => ?_
      clear fh24 fa24
      refine Kn.skip fh25 rfl rfl (.some rfl rfl rfl) fun fa26 fh26 => ?_
      clear fh25 fa25
      refine Kn.skip fh26 rfl rfl (.some rfl rfl rfl) fun fa27 fh27 => ?_
      clear fh26 fa26
      refine Kn.skip fh27 rfl rfl (.some rfl rfl rfl) fun fa28 fh28 => ?_
      clear fh27 fa27
      refine Kn.skip fh28 rfl rfl (.some rfl rfl rfl) fun fa29 fh29 => ?_
      clear fh28 fa28
      refine Kn.pure fh29 rfl rfl .none (Kn.ex_pick fh29 (.tmp rfl) .const) fun fa30 fh30 => ?_
      clear fh29 fa29
      refine wpList_nil ?_
      refine hK14 _ _ ?_
      clear hK14 K14
      replace fh30 := fh30.cut (.cons (t := 38) rfl (.cons (t := 6) rfl (.cons (t := 7) rfl (.cons (t := 16) rfl (.cons (t := 15) rfl (.cons (t := 5) rfl (.cons (t := 1) rfl .nil)))))))
      refine Kn.no fh30 (.tmp rfl) ?_
      replace fh30 := fh30.cut (.cons (t := 6) rfl (.cons (t := 7) rfl (.cons (t := 16) rfl (.cons (t := 15) rfl (.cons (t := 5) rfl (.cons (t := 1) rfl .nil))))))
      refine wp_exit ?_
      refine Kn.then_exit ?_
      clear hK13 K13
      refine Kn.then_exit ?_
      clear hKl12 Kl12
      refine Kn.block_exit ?_
      refine Kn.block_normal ?_
      refine hK9 _ _ ?_
      clear hK9 K9
      replace fh30 := fh30.cut (.cons (t := 6) rfl (.cons (t := 16) rfl (.cons (t := 15) rfl (.cons (t := 5) rfl (.cons (t := 1) rfl .nil)))))
      refine wp_region_lit ?_
      refine Kn.step fh30 rfl rfl .none (Kn.ex_bin fh30 (.tmp rfl) .const) fun Ko hKo => ?_
      go_simp
      try go_bits
      refine hKo _ _ fun fa31 fh31 => ?_
      clear hKo Ko fh30 fa30
      refine Kn.pure fh31 rfl rfl .none (Kn.ex_move fh31 (.tmp rfl)) fun fa32 fh32 => ?_
      clear fh31 fa31
      refine wpList_nil ?_
      replace fh32 := fh32.cut (.cons (t := 16) rfl (.cons (t := 6) rfl (.cons (t := 15) rfl (.cons (t := 5) rfl (.cons (t := 1) rfl .nil)))))
      exact hKl6 (m6 - 1) _ _ (by omega) ⟨k1, fh32.cut (.turn (t := 16) rfl (by rw [← r1]) (.cons (t := 15) rfl (.cons (t := 5) rfl (.turn (t := 6) rfl (by rw [HBB.out]) (.cons (t := 1) rfl .nil))))), by omega, HBv, Lib.hid (by rw [HBB.out]; exact HMv.out)⟩
  · obtain rfl : k = N := by omega
    refine wp_seq_k fun K7 hK7 => ?_
    refine wp_region_lit ?_
    refine Kn.step fh6 rfl rfl .none (Kn.ex_bin fh6 (.tmp rfl) (.tmp rfl)) fun Ko hKo => ?_
    go_simp
    try go_bits
    refine hKo _ _ fun fa7 fh7 => ?_
    clear hKo Ko fh6 fa6
    refine wpList_nil ?_
    refine hK7 _ _ ?_
    clear hK7 K7
    refine wp_seq_k fun K8 hK8 => ?_
    refine Kn.no fh7 (.tmp rfl) ?_
    replace fh7 := fh7.cut (.cons (t := 16) rfl (.cons (t := 15) rfl (.cons (t := 5) rfl (.cons (t := 6) rfl (.cons (t := 1) rfl .nil)))))
    refine wp_exit ?_
    refine Kn.then_exit ?_
    clear hK8 K8
    refine Kn.then_exit ?_
    clear hKl6 Kl6
    refine Kn.block_exit ?_
    refine hK4 _ _ ?_
    clear hK4 K4
    replace fh7 := fh7.cut (.cons (t := 5) rfl .nil)
    refine wp_seq_k fun K9 hK9 => ?_
    refine wp_region_lit ?_
    refine Kn.pure fh7 rfl rfl .none (Kn.ex_move fh7 (.tmp rfl)) fun fa8 fh8 => ?_
    clear fh7 fa7
    refine Kn.pure fh8 rfl rfl .none (Kn.ex_assign fh8 (.tmp rfl)) fun fa9 fh9 => ?_
    clear fh8 fa8
    refine wpList_nil ?_
    refine hK9 _ _ ?_
    clear hK9 K9
    replace fh9 := fh9.cut (.cons (t := 4) rfl .nil)
    refine wp_ret ?_
    exact Kn.ret1 fh9 rfl rfl ⟨g5, rfl, ⟨hs, hg, by
      have hM := HM.out
      rw [bk_end, bgn_N hg, tz_end] at hM
      exact ⟨gb5, gt5, hM.1, hM.2.1, hM.2.2.2.1, hM.2.2.2.2.1, hM.2.2.2.2.2⟩⟩, HB.out⟩

set_option maxRecDepth 100000 in
set_option maxHeartbeats 2000000 in
theorem build_yes (N : Nat) (A : Option Addr) (ca : Nat) (xs : List (Int × Int)) (w : World) (hA : EIn w A xs) (hg : Edg.Good (N : Int) xs) :
    Calls Tryd.prog 6 #[.int .i64 (N : Int), .slice A xs.length ca] w fun e w' => ∃ g ys, e = .returned (.tuple #[.pointer (some ⟨g, 0, none⟩), .nilIface]) ∧ NormOf xs ys ∧ Rep w' w.heap.size g N ys ∧ Below w.heap.size w w' := by
  refine Kn.calls Tryd.func6 rfl Tryd.ntmps6 rfl (.cons (t := 0) rfl (.cons (t := 1) rfl .nil)) fun fa0 fh0 => ?_
  refine wp_seq_k fun K1 hK1 => ?_
  refine wp_region_lit ?_
  refine Kn.pure fh0 rfl rfl .none (Kn.ex_assign fh0 .const) fun fa1 fh1 => ?_
  clear fh0 fa0
  refine Kn.pure fh1 rfl rfl .none (Kn.ex_assign fh1 .const) fun fa2 fh2 => ?_
  clear fh1 fa1
  refine wpList_nil ?_
  refine hK1 _ _ ?_
  clear hK1 K1
  refine wp_seq_k fun K2 hK2 => ?_
  refine wp_region_lit ?_
  refine Kn.pure fh2 rfl rfl .none (Kn.ex_move fh2 (.tmp rfl)) fun fa3 fh3 => ?_
  clear fh2 fa2
  refine Kn.pure fh3 rfl rfl .none (Kn.ex_move fh3 (.tmp rfl)) fun fa4 fh4 => ?_
  clear fh3 fa3
  refine Kn.call fh4 rfl rfl .none (Kn.ex_call fh4 (.cons (.tmp rfl) (.cons (.tmp rfl) .nil))) Tryd.call25 (norm_yes (N : Int) A ca xs w hA hg) fun e w1 hp => ?_
  obtain ⟨A', n', c', ys, rfl, rfl, hNo, hE, hb1⟩ := hp
  refine ⟨_, rfl, fun fa5 fh5 => ?_⟩
  clear fh4 fa4
  refine Kn.pure fh5 rfl rfl .none (Kn.ex_move fh5 (.tmp rfl)) fun fa6 fh6 => ?_
  clear fh5 fa5
  refine Kn.pure fh6 rfl rfl .none (Kn.ex_extract fh6 (.tmp rfl) rfl) fun fa7 fh7 => ?_
  clear fh6 fa6
  refine Kn.pure fh7 rfl rfl .none (Kn.ex_extract fh7 (.tmp rfl) rfl) fun fa8 fh8 => ?_
  clear fh7 fa7
  refine Kn.pure fh8 rfl rfl .none (Kn.ex_assign fh8 (.tmp rfl)) fun fa9 fh9 => ?_
  clear fh8 fa8
  refine Kn.pure fh9 rfl rfl .none (Kn.ex_assign fh9 (.tmp rfl)) fun fa10 fh10 => ?_
  clear fh9 fa9
  refine wpList_nil ?_
  refine hK2 _ _ ?_
  clear hK2 K2
  replace fh10 := fh10.cut (.cons (t := 7) rfl (.cons (t := 6) rfl (.cons (t := 5) rfl (.cons (t := 4) rfl (.cons (t := 0) rfl .nil)))))
  have hr := rows_any N A' c' ys w1 hNo.srt (hNo.good hg) hE
  refine wp_seq_k fun K3 hK3 => ?_
  refine wp_seq_k fun K4 hK4 => ?_
  refine wp_region_lit ?_
  refine Kn.pure fh10 rfl rfl .none (Kn.ex_move fh10 (.tmp rfl)) fun fa11 fh11 => ?_
  clear fh10 fa10
  refine Kn.step fh11 rfl rfl .none (Kn.ex_bin fh11 (.tmp rfl) .const) fun Ko hKo => ?_
  go_simp
  try go_bits
  refine hKo _ _ fun fa12 fh12 => ?_
  clear hKo Ko fh11 fa11
  refine wpList_nil ?_
  refine hK4 _ _ ?_
  clear hK4 K4
  replace fh12 := fh12.cut (.cons (t := 15) rfl (.cons (t := 7) rfl (.cons (t := 6) rfl (.cons (t := 5) rfl (.cons (t := 4) rfl (.cons (t := 0) rfl .nil))))))
  refine Kn.no fh12 (.tmp rfl) ?_
  refine wp_skip ?_
  refine hK3 _ _ ?_
  clear hK3 K3
  replace fh12 := fh12.cut (.cons (t := 6) rfl (.cons (t := 5) rfl (.cons (t := 4) rfl (.cons (t := 0) rfl .nil))))
  refine wp_seq_k fun K5 hK5 => ?_
  refine wp_region_lit ?_
  refine Kn.pure fh12 rfl rfl .none (Kn.ex_move fh12 (.tmp rfl)) fun fa13 fh13 => ?_
  clear fh12 fa12
  refine Kn.pure fh13 rfl rfl .none (Kn.ex_move fh13 (.tmp rfl)) fun fa14 fh14 => ?_
  clear fh13 fa13
  refine Kn.call fh14 rfl rfl .none (Kn.ex_call fh14 (.cons (.tmp rfl) (.cons (.tmp rfl) .nil))) Tryd.call26 (hr) fun e w2 hp => ?_
  obtain ⟨g, rfl, hR, hb2⟩ := hp
  refine ⟨_, rfl, fun fa15 fh15 => ?_⟩
  clear fh14 fa14
  refine Kn.pure fh15 rfl rfl .none (Kn.ex_assign fh15 (.tmp rfl)) fun fa16 fh16 => ?_
  clear fh15 fa15
  refine Kn.pure fh16 rfl rfl .none (Kn.ex_assign fh16 .const) fun fa17 fh17 => ?_
  clear fh16 fa16
  refine wpList_nil ?_
  refine hK5 _ _ ?_
  clear hK5 K5
  replace fh17 := fh17.cut (.cons (t := 5) rfl (.cons (t := 4) rfl .nil))
  refine wp_ret ?_
  exact Kn.ret2 fh17 rfl rfl rfl ⟨g, ys, rfl, hNo, ⟨hR.srt, hR.good, by obtain ⟨gb, gt, h1, h2⟩ := hR.mem; have := hb1.size; exact ⟨gb, gt, ⟨by omega, by omega, by omega⟩, h2⟩⟩, hb1.trans (hb2.mono hb1.size)⟩

set_option maxRecDepth 100000 in
set_option maxHeartbeats 2000000 in
theorem build_no (n : Int) (A : Option Addr) (ca : Nat) (xs : List (Int × Int)) (w : World) (hA : EIn w A xs) (hg : ¬ Edg.Good n xs) :
    Calls Tryd.prog 6 #[.int .i64 n, .slice A xs.length ca] w fun e w' => e = .returned (.tuple #[.pointer none, faultV (wrongP n xs) 10]) ∧ Below w.heap.size w w' := by
  refine Kn.calls Tryd.func6 rfl Tryd.ntmps6 rfl (.cons (t := 0) rfl (.cons (t := 1) rfl .nil)) fun fa0 fh0 => ?_
  refine wp_seq_k fun K1 hK1 => ?_
  refine wp_region_lit ?_
  refine Kn.pure fh0 rfl rfl .none (Kn.ex_assign fh0 .const) fun fa1 fh1 => ?_
  clear fh0 fa0
  refine Kn.pure fh1 rfl rfl .none (Kn.ex_assign fh1 .const) fun fa2 fh2 => ?_
  clear fh1 fa1
  refine wpList_nil ?_
  refine hK1 _ _ ?_
  clear hK1 K1
  have hn := norm_no n A ca xs w hA hg
  unfold faultV at hn
  refine wp_seq_k fun K2 hK2 => ?_
  refine wp_region_lit ?_
  refine Kn.pure fh2 rfl rfl .none (Kn.ex_move fh2 (.tmp rfl)) fun fa3 fh3 => ?_
  clear fh2 fa2
  refine Kn.pure fh3 rfl rfl .none (Kn.ex_move fh3 (.tmp rfl)) fun fa4 fh4 => ?_
  clear fh3 fa3
  refine Kn.call fh4 rfl rfl .none (Kn.ex_call fh4 (.cons (.tmp rfl) (.cons (.tmp rfl) .nil))) Tryd.call25 (hn) fun e w1 hp => ?_
  obtain ⟨rfl, hb1⟩ := hp
  refine ⟨_, rfl, fun fa5 fh5 => ?_⟩
  clear fh4 fa4
  refine Kn.pure fh5 rfl rfl .none (Kn.ex_move fh5 (.tmp rfl)) fun fa6 fh6 => ?_
  clear fh5 fa5
  refine Kn.pure fh6 rfl rfl .none (Kn.ex_extract fh6 (.tmp rfl) rfl) fun fa7 fh7 => ?_
  clear fh6 fa6
  refine Kn.pure fh7 rfl rfl .none (Kn.ex_extract fh7 (.tmp rfl) rfl) fun fa8 fh8 => ?_
  clear fh7 fa7
  refine Kn.pure fh8 rfl rfl .none (Kn.ex_assign fh8 (.tmp rfl)) fun fa9 fh9 => ?_
  clear fh8 fa8
  refine Kn.pure fh9 rfl rfl .none (Kn.ex_assign fh9 (.tmp rfl)) fun fa10 fh10 => ?_
  clear fh9 fa9
  refine wpList_nil ?_
  refine hK2 _ _ ?_
  clear hK2 K2
  replace fh10 := fh10.cut (.cons (t := 7) rfl (.cons (t := 6) rfl (.cons (t := 5) rfl (.cons (t := 4) rfl (.cons (t := 0) rfl .nil)))))
  refine wp_seq_k fun K3 hK3 => ?_
  refine wp_seq_k fun K4 hK4 => ?_
  refine wp_region_lit ?_
  refine Kn.pure fh10 rfl rfl .none (Kn.ex_move fh10 (.tmp rfl)) fun fa11 fh11 => ?_
  clear fh10 fa10
  refine Kn.step fh11 rfl rfl .none (Kn.ex_bin fh11 (.tmp rfl) .const) fun Ko hKo => ?_
  go_simp
  try go_bits
  refine hKo _ _ fun fa12 fh12 => ?_
  clear hKo Ko fh11 fa11
  refine wpList_nil ?_
  refine hK4 _ _ ?_
  clear hK4 K4
  replace fh12 := fh12.cut (.cons (t := 15) rfl (.cons (t := 7) rfl (.cons (t := 6) rfl (.cons (t := 5) rfl (.cons (t := 4) rfl (.cons (t := 0) rfl .nil))))))
  refine Kn.yes fh12 (.tmp rfl) ?_
  replace fh12 := fh12.cut (.cons (t := 7) rfl (.cons (t := 6) rfl (.cons (t := 5) rfl (.cons (t := 4) rfl (.cons (t := 0) rfl .nil)))))
  refine wp_seq_k fun K5 hK5 => ?_
  refine wp_region_lit ?_
  refine Kn.pure fh12 rfl rfl .none (Kn.ex_move fh12 (.tmp rfl)) fun fa13 fh13 => ?_
  clear fh12 fa12
  refine Kn.pure fh13 rfl rfl .none (Kn.ex_assign fh13 .const) fun fa14 fh14 => ?_
  clear fh13 fa13
  refine Kn.pure fh14 rfl rfl .none (Kn.ex_assign fh14 (.tmp rfl)) fun fa15 fh15 => ?_
  clear fh14 fa14
  refine wpList_nil ?_
  refine hK5 _ _ ?_
  clear hK5 K5
  replace fh15 := fh15.cut (.cons (t := 5) rfl (.cons (t := 4) rfl (.cons (t := 6) rfl (.cons (t := 0) rfl .nil))))
  refine wp_ret ?_
  refine Kn.then_ret ?_
  exact Kn.ret2 fh15 rfl rfl rfl ⟨rfl, hb1⟩

end Go.Proofs.YtinjecaanjeapaaDoor.Csr
