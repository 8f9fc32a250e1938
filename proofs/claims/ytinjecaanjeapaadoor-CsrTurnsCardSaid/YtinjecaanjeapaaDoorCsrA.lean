/- Contracts of the program's csr: Nodes, Edges, Begin, row, Targets, Degree, Has (written by gen_csra.py). -/
import Derived.Test.YtinjecaanjeapaaDoorCsrMath
import Derived.Test.YtinjecaanjeapaaDoorIntRow
import Derived.Test.YtinjecaanjeapaaDoorLay
import Derived.Shelf.SlicesG.Clone
import Derived.Shelf.SlicesG.SearchI
namespace Go.Proofs.YtinjecaanjeapaaDoor.Csr
open Go Go.RowKit Go.Lib Edg Num

/-- What lies behind a pointer to a graph's rows, in the blocks from B on. -/
def Mem (w : World) (B g N : Nat) (ys : List (Int × Int)) : Prop := ∃ gb gt, (B ≤ g ∧ B ≤ gb ∧ B ≤ gt) ∧ (gb < w.heap.size ∧ gt < w.heap.size) ∧ St.St w g 64 #[.slice (some ⟨gb, 0, none⟩) N N, .slice (some ⟨gt, 0, none⟩) ys.length ys.length] ∧ HoldI w gb (bgs ys N) ∧ HoldI w gt (tgs ys)
/-- A pointer to a normalised graph's rows. -/
structure Rep (w : World) (B g N : Nat) (ys : List (Int × Int)) : Prop where
  srt : Srt ys
  good : Edg.Good (N : Int) ys
  mem : Mem w B g N ys
theorem Rep.on {w w' : World} {B g N : Nat} {ys : List (Int × Int)} (h : Rep w B g N ys) (hb : Below w.heap.size w w') : Rep w' B g N ys := by
  obtain ⟨gb, gt, h1, h2, h3, h4, h5⟩ := h.mem
  have := hb.size
  exact ⟨h.srt, h.good, gb, gt, h1, ⟨by omega, by omega⟩, h3.on hb, h4.on hb, h5.on hb⟩
theorem Rep.up {w w' : World} {B g N : Nat} {ys : List (Int × Int)} (h : Rep w B g N ys) (hs : w.heap.size ≤ w'.heap.size) (hb : ∀ b, B ≤ b → b < w.heap.size → w'.heap[b]? = w.heap[b]?) : Rep w' B g N ys := by
  obtain ⟨gb, gt, h1, h2, h3, h4, h5⟩ := h.mem
  exact ⟨h.srt, h.good, gb, gt, h1, ⟨by omega, by omega⟩, (hb g h1.1 h3.lt).trans h3, h4.at (hb gb h1.2.1 h2.1), h5.at (hb gt h1.2.2 h2.2)⟩
theorem Rep.drewN {w : World} {B g N : Nat} {ys : List (Int × Int)} (h : Rep w B g N ys) (q : Nat) : Rep (w.drewN q) B g N ys := ⟨h.srt, h.good, h.mem⟩
theorem Rep.lt {w : World} {B g N : Nat} {ys : List (Int × Int)} (h : Rep w B g N ys) : g < w.heap.size := by
  obtain ⟨gb, gt, h1, h2, h3, h4, h5⟩ := h.mem
  exact h3.lt
theorem Rep.ge {w : World} {B g N : Nat} {ys : List (Int × Int)} (h : Rep w B g N ys) : B ≤ g := by
  obtain ⟨gb, gt, h1, h2, h3, h4, h5⟩ := h.mem
  exact h1.1
theorem Rep.hi {w : World} {B g N : Nat} {ys : List (Int × Int)} (h : Rep w B g N ys) : N ≤ 4096 := by have := h.good.hi; omega
theorem Rep.len {w : World} {B g N : Nat} {ys : List (Int × Int)} (h : Rep w B g N ys) : ys.length ≤ 20000 := h.good.len
theorem below_of_drew {w w' : World} (h : ∃ q, w' = w.drewN q) : Below w.heap.size w w' := by
  obtain ⟨q, rfl⟩ := h
  exact ⟨rfl, rfl, rfl, Nat.le_refl _, fun _ _ => rfl⟩
/-- The error's value. -/
def errV (c : Int) : Value := .iface 56 (.int .i64 c)

set_option maxRecDepth 100000 in
set_option maxHeartbeats 2000000 in
theorem nodes_any (w : World) (B g N : Nat) (ys : List (Int × Int)) (hR : Rep w B g N ys) :
    Calls Tryd.prog 11 #[.pointer (some ⟨g, 0, none⟩)] w fun e w' => e = .returned (.int .i64 (N : Int)) ∧ w = w' := by
  refine Kn.calls Tryd.func11 rfl Tryd.ntmps11 rfl (.cons (t := 0) rfl .nil) fun fa0 fh0 => ?_
  refine wp_seq_k fun K1 hK1 => ?_
  refine wp_region_lit ?_
  refine Kn.pure fh0 rfl rfl .none (Kn.ex_assign fh0 .const) fun fa1 fh1 => ?_
  clear fh0 fa0
  refine wpList_nil ?_
  refine hK1 _ _ ?_
  clear hK1 K1
  obtain ⟨gb, gt, -, -, hS, hH, hT⟩ := hR.mem
  have c0 := hS.cell 0 rfl
  have c1 := hS.cell 1 rfl
  have hN := hR.hi
  have hL := hR.len
  refine wp_seq_k fun K2 hK2 => ?_
  refine wp_seq_k fun K3 hK3 => ?_
  refine wp_region_lit ?_
  refine Kn.pure fh1 rfl rfl .none (Kn.ex_move fh1 (.tmp rfl)) fun fa2 fh2 => ?_
  clear fh1 fa1
  refine Kn.step fh2 rfl rfl .none (Kn.ex_bin fh2 (.tmp rfl) .const) fun Ko hKo => ?_
  go_simp
  try go_bits
  refine hKo _ _ fun fa3 fh3 => ?_
  clear hKo Ko fh2 fa2
  refine wpList_nil ?_
  refine hK3 _ _ ?_
  clear hK3 K3
  replace fh3 := fh3.cut (.cons (t := 4) rfl (.cons (t := 2) rfl (.cons (t := 0) rfl .nil)))
  refine Kn.no fh3 (.tmp rfl) ?_
  refine wp_skip ?_
  refine hK2 _ _ ?_
  clear hK2 K2
  replace fh3 := fh3.cut (.cons (t := 2) rfl (.cons (t := 0) rfl .nil))
  refine wp_seq_k fun K4 hK4 => ?_
  refine wp_region_lit ?_
  refine Kn.pure fh3 rfl rfl .none (Kn.ex_move fh3 (.tmp rfl)) fun fa4 fh4 => ?_
  clear fh3 fa3
  refine Kn.pure fh4 rfl rfl .none (Kn.ex_nilCheck fh4 (.tmp rfl)) fun fa5 fh5 => ?_
  clear fh4 fa4
  refine Kn.step fh5 rfl rfl .none (Kn.ex_fieldAddr fh5 (.tmp rfl)) fun Ko hKo => ?_
  go_simp
  try go_bits
  refine hKo _ _ fun fa6 fh6 => ?_
  clear hKo Ko fh5 fa5
  refine Kn.step fh6 rfl rfl .none (Kn.ex_load fh6 (.tmp rfl)) fun Ko hKo => ?_
  go_simp
  try go_bits
  refine hKo _ _ fun fa7 fh7 => ?_
  clear hKo Ko fh6 fa6
  refine Kn.step fh7 rfl rfl .none (Kn.ex_len fh7 (.tmp rfl)) fun Ko hKo => ?_
  go_simp
  try go_bits
  refine hKo _ _ fun fa8 fh8 => ?_
  clear hKo Ko fh7 fa7
  refine Kn.pure fh8 rfl rfl .none (Kn.ex_assign fh8 (.tmp rfl)) fun fa9 fh9 => ?_
  clear fh8 fa8
  refine wpList_nil ?_
  refine hK4 _ _ ?_
  clear hK4 K4
  replace fh9 := fh9.cut (.cons (t := 2) rfl .nil)
  refine wp_ret ?_
  exact Kn.ret1 fh9 rfl rfl ⟨rfl, rfl⟩

set_option maxRecDepth 100000 in
set_option maxHeartbeats 2000000 in
theorem nodes_nil (w : World) :
    Calls Tryd.prog 11 #[.pointer none] w fun e w' => e = .returned (.int .i64 0) ∧ w = w' := by
  refine Kn.calls Tryd.func11 rfl Tryd.ntmps11 rfl (.cons (t := 0) rfl .nil) fun fa0 fh0 => ?_
  refine wp_seq_k fun K1 hK1 => ?_
  refine wp_region_lit ?_
  refine Kn.pure fh0 rfl rfl .none (Kn.ex_assign fh0 .const) fun fa1 fh1 => ?_
  clear fh0 fa0
  refine wpList_nil ?_
  refine hK1 _ _ ?_
  clear hK1 K1
  refine wp_seq_k fun K2 hK2 => ?_
  refine wp_seq_k fun K3 hK3 => ?_
  refine wp_region_lit ?_
  refine Kn.pure fh1 rfl rfl .none (Kn.ex_move fh1 (.tmp rfl)) fun fa2 fh2 => ?_
  clear fh1 fa1
  refine Kn.step fh2 rfl rfl .none (Kn.ex_bin fh2 (.tmp rfl) .const) fun Ko hKo => ?_
  go_simp
  try go_bits
  refine hKo _ _ fun fa3 fh3 => ?_
  clear hKo Ko fh2 fa2
  refine wpList_nil ?_
  refine hK3 _ _ ?_
  clear hK3 K3
  replace fh3 := fh3.cut (.cons (t := 4) rfl (.cons (t := 2) rfl (.cons (t := 0) rfl .nil)))
  refine Kn.yes fh3 (.tmp rfl) ?_
  replace fh3 := fh3.cut (.cons (t := 2) rfl (.cons (t := 0) rfl .nil))
  refine wp_seq_k fun K4 hK4 => ?_
  refine wp_region_lit ?_
  refine Kn.pure fh3 rfl rfl .none (Kn.ex_assign fh3 .const) fun fa4 fh4 => ?_
  clear fh3 fa3
  refine wpList_nil ?_
  refine hK4 _ _ ?_
  clear hK4 K4
  refine wp_ret ?_
  refine Kn.then_ret ?_
  exact Kn.ret1 fh4 rfl rfl ⟨rfl, rfl⟩

set_option maxRecDepth 100000 in
set_option maxHeartbeats 2000000 in
theorem edges_any (w : World) (B g N : Nat) (ys : List (Int × Int)) (hR : Rep w B g N ys) :
    Calls Tryd.prog 12 #[.pointer (some ⟨g, 0, none⟩)] w fun e w' => e = .returned (.int .i64 (ys.length : Int)) ∧ w = w' := by
  refine Kn.calls Tryd.func12 rfl Tryd.ntmps12 rfl (.cons (t := 0) rfl .nil) fun fa0 fh0 => ?_
  refine wp_seq_k fun K1 hK1 => ?_
  refine wp_region_lit ?_
  refine Kn.pure fh0 rfl rfl .none (Kn.ex_assign fh0 .const) fun fa1 fh1 => ?_
  clear fh0 fa0
  refine wpList_nil ?_
  refine hK1 _ _ ?_
  clear hK1 K1
  obtain ⟨gb, gt, -, -, hS, hH, hT⟩ := hR.mem
  have c0 := hS.cell 0 rfl
  have c1 := hS.cell 1 rfl
  have hN := hR.hi
  have hL := hR.len
  refine wp_seq_k fun K2 hK2 => ?_
  refine wp_seq_k fun K3 hK3 => ?_
  refine wp_region_lit ?_
  refine Kn.pure fh1 rfl rfl .none (Kn.ex_move fh1 (.tmp rfl)) fun fa2 fh2 => ?_
  clear fh1 fa1
  refine Kn.step fh2 rfl rfl .none (Kn.ex_bin fh2 (.tmp rfl) .const) fun Ko hKo => ?_
  go_simp
  try go_bits
  refine hKo _ _ fun fa3 fh3 => ?_
  clear hKo Ko fh2 fa2
  refine wpList_nil ?_
  refine hK3 _ _ ?_
  clear hK3 K3
  replace fh3 := fh3.cut (.cons (t := 4) rfl (.cons (t := 2) rfl (.cons (t := 0) rfl .nil)))
  refine Kn.no fh3 (.tmp rfl) ?_
  refine wp_skip ?_
  refine hK2 _ _ ?_
  clear hK2 K2
  replace fh3 := fh3.cut (.cons (t := 2) rfl (.cons (t := 0) rfl .nil))
  refine wp_seq_k fun K4 hK4 => ?_
  refine wp_region_lit ?_
  refine Kn.pure fh3 rfl rfl .none (Kn.ex_move fh3 (.tmp rfl)) fun fa4 fh4 => ?_
  clear fh3 fa3
  refine Kn.pure fh4 rfl rfl .none (Kn.ex_nilCheck fh4 (.tmp rfl)) fun fa5 fh5 => ?_
  clear fh4 fa4
  refine Kn.step fh5 rfl rfl .none (Kn.ex_fieldAddr fh5 (.tmp rfl)) fun Ko hKo => ?_
  go_simp
  try go_bits
  refine hKo _ _ fun fa6 fh6 => ?_
  clear hKo Ko fh5 fa5
  refine Kn.step fh6 rfl rfl .none (Kn.ex_load fh6 (.tmp rfl)) fun Ko hKo => ?_
  go_simp
  try go_bits
  refine hKo _ _ fun fa7 fh7 => ?_
  clear hKo Ko fh6 fa6
  refine Kn.step fh7 rfl rfl .none (Kn.ex_len fh7 (.tmp rfl)) fun Ko hKo => ?_
  go_simp
  try go_bits
  refine hKo _ _ fun fa8 fh8 => ?_
  clear hKo Ko fh7 fa7
  refine Kn.pure fh8 rfl rfl .none (Kn.ex_assign fh8 (.tmp rfl)) fun fa9 fh9 => ?_
  clear fh8 fa8
  refine wpList_nil ?_
  refine hK4 _ _ ?_
  clear hK4 K4
  replace fh9 := fh9.cut (.cons (t := 2) rfl .nil)
  refine wp_ret ?_
  exact Kn.ret1 fh9 rfl rfl ⟨rfl, rfl⟩

set_option maxRecDepth 100000 in
set_option maxHeartbeats 2000000 in
theorem edges_nil (w : World) :
    Calls Tryd.prog 12 #[.pointer none] w fun e w' => e = .returned (.int .i64 0) ∧ w = w' := by
  refine Kn.calls Tryd.func12 rfl Tryd.ntmps12 rfl (.cons (t := 0) rfl .nil) fun fa0 fh0 => ?_
  refine wp_seq_k fun K1 hK1 => ?_
  refine wp_region_lit ?_
  refine Kn.pure fh0 rfl rfl .none (Kn.ex_assign fh0 .const) fun fa1 fh1 => ?_
  clear fh0 fa0
  refine wpList_nil ?_
  refine hK1 _ _ ?_
  clear hK1 K1
  refine wp_seq_k fun K2 hK2 => ?_
  refine wp_seq_k fun K3 hK3 => ?_
  refine wp_region_lit ?_
  refine Kn.pure fh1 rfl rfl .none (Kn.ex_move fh1 (.tmp rfl)) fun fa2 fh2 => ?_
  clear fh1 fa1
  refine Kn.step fh2 rfl rfl .none (Kn.ex_bin fh2 (.tmp rfl) .const) fun Ko hKo => ?_
  go_simp
  try go_bits
  refine hKo _ _ fun fa3 fh3 => ?_
  clear hKo Ko fh2 fa2
  refine wpList_nil ?_
  refine hK3 _ _ ?_
  clear hK3 K3
  replace fh3 := fh3.cut (.cons (t := 4) rfl (.cons (t := 2) rfl (.cons (t := 0) rfl .nil)))
  refine Kn.yes fh3 (.tmp rfl) ?_
  replace fh3 := fh3.cut (.cons (t := 2) rfl (.cons (t := 0) rfl .nil))
  refine wp_seq_k fun K4 hK4 => ?_
  refine wp_region_lit ?_
  refine Kn.pure fh3 rfl rfl .none (Kn.ex_assign fh3 .const) fun fa4 fh4 => ?_
  clear fh3 fa3
  refine wpList_nil ?_
  refine hK4 _ _ ?_
  clear hK4 K4
  refine wp_ret ?_
  refine Kn.then_ret ?_
  exact Kn.ret1 fh4 rfl rfl ⟨rfl, rfl⟩

set_option maxRecDepth 100000 in
set_option maxHeartbeats 2000000 in
theorem begin_nil (v : Int) (w : World) :
    Calls Tryd.prog 21 #[.pointer none, .int .i64 v] w fun e w' => e = .returned (.int .i64 (-1)) ∧ w = w' := by
  refine Kn.calls Tryd.func21 rfl Tryd.ntmps21 rfl (.cons (t := 0) rfl (.cons (t := 1) rfl .nil)) fun fa0 fh0 => ?_
  refine wp_seq_k fun K1 hK1 => ?_
  refine wp_region_lit ?_
  refine Kn.pure fh0 rfl rfl .none (Kn.ex_assign fh0 .const) fun fa1 fh1 => ?_
  clear fh0 fa0
  refine wpList_nil ?_
  refine hK1 _ _ ?_
  clear hK1 K1
  refine wp_seq_k fun K2 hK2 => ?_
  refine wp_seq_k fun K3 hK3 => ?_
  refine wp_region_lit ?_
  refine Kn.pure fh1 rfl rfl .none (Kn.ex_move fh1 (.tmp rfl)) fun fa2 fh2 => ?_
  clear fh1 fa1
  refine Kn.step fh2 rfl rfl .none (Kn.ex_bin fh2 (.tmp rfl) .const) fun Ko hKo => ?_
  go_simp
  try go_bits
  refine hKo _ _ fun fa3 fh3 => ?_
  clear hKo Ko fh2 fa2
  refine Kn.pure fh3 rfl rfl .none (Kn.ex_move fh3 (.tmp rfl)) fun fa4 fh4 => ?_
  clear fh3 fa3
  refine Kn.skip fh4 rfl rfl (.some rfl rfl rfl) fun fa5 fh5 => ?_
  clear fh4 fa4
  refine Kn.skip fh5 rfl rfl (.some rfl rfl rfl) fun fa6 fh6 => ?_
  clear fh5 fa5
  refine Kn.pure fh6 rfl rfl .none (Kn.ex_pick fh6 (.tmp rfl) .const) fun fa7 fh7 => ?_
  clear fh6 fa6
  refine Kn.pure fh7 rfl rfl .none (Kn.ex_move fh7 (.tmp rfl)) fun fa8 fh8 => ?_
  clear fh7 fa7
  refine Kn.skip fh8 rfl rfl (.some rfl rfl rfl) fun fa9 fh9 => ?_
  clear fh8 fa8
  refine Kn.skip fh9 rfl rfl (.some rfl rfl rfl) fun fa10 fh10 => ?_
  clear fh9 fa9
  refine Kn.skip fh10 rfl rfl (.some rfl rfl rfl) fun fa11 fh11 => ?_
  clear fh10 fa10
  refine Kn.skip fh11 rfl rfl (.some rfl rfl rfl) fun fa12 fh12 => ?_
  clear fh11 fa11
  refine Kn.skip fh12 rfl rfl (.some rfl rfl rfl) fun fa13 fh13 => ?_
  clear fh12 fa12
  refine Kn.skip fh13 rfl rfl (.some rfl rfl rfl) fun fa14 fh14 => ?_
  clear fh13 fa13
  refine Kn.skip fh14 rfl rfl (.some rfl rfl rfl) fun fa15 fh15 => ?_
  clear fh14 fa14
  refine Kn.pure fh15 rfl rfl .none (Kn.ex_pick fh15 (.tmp rfl) .const) fun fa16 fh16 => ?_
  clear fh15 fa15
  refine wpList_nil ?_
  refine hK3 _ _ ?_
  clear hK3 K3
  replace fh16 := fh16.cut (.cons (t := 19) rfl (.cons (t := 4) rfl (.cons (t := 0) rfl (.cons (t := 1) rfl .nil))))
  refine Kn.yes fh16 (.tmp rfl) ?_
  replace fh16 := fh16.cut (.cons (t := 4) rfl (.cons (t := 0) rfl (.cons (t := 1) rfl .nil)))
  refine wp_seq_k fun K4 hK4 => ?_
  refine wp_region_lit ?_
  refine Kn.pure fh16 rfl rfl .none (Kn.ex_assign fh16 .const) fun fa17 fh17 => ?_
  clear fh16 fa16
  refine wpList_nil ?_
  refine hK4 _ _ ?_
  clear hK4 K4
  refine wp_ret ?_
  refine Kn.then_ret ?_
  exact Kn.ret1 fh17 rfl rfl ⟨rfl, rfl⟩

set_option maxRecDepth 100000 in
set_option maxHeartbeats 2000000 in
theorem begin_lo (v : Int) (hv : v < 0) (w : World) (B g N : Nat) (ys : List (Int × Int)) (hR : Rep w B g N ys) :
    Calls Tryd.prog 21 #[.pointer (some ⟨g, 0, none⟩), .int .i64 v] w fun e w' => e = .returned (.int .i64 (-1)) ∧ w = w' := by
  refine Kn.calls Tryd.func21 rfl Tryd.ntmps21 rfl (.cons (t := 0) rfl (.cons (t := 1) rfl .nil)) fun fa0 fh0 => ?_
  refine wp_seq_k fun K1 hK1 => ?_
  refine wp_region_lit ?_
  refine Kn.pure fh0 rfl rfl .none (Kn.ex_assign fh0 .const) fun fa1 fh1 => ?_
  clear fh0 fa0
  refine wpList_nil ?_
  refine hK1 _ _ ?_
  clear hK1 K1
  obtain ⟨gb, gt, -, -, hS, hH, hT⟩ := hR.mem
  have c0 := hS.cell 0 rfl
  have c1 := hS.cell 1 rfl
  have hN := hR.hi
  have hL := hR.len
  refine wp_seq_k fun K2 hK2 => ?_
  refine wp_seq_k fun K3 hK3 => ?_
  refine wp_region_lit ?_
  refine Kn.pure fh1 rfl rfl .none (Kn.ex_move fh1 (.tmp rfl)) fun fa2 fh2 => ?_
  clear fh1 fa1
  refine Kn.step fh2 rfl rfl .none (Kn.ex_bin fh2 (.tmp rfl) .const) fun Ko hKo => ?_
  go_simp
  try go_bits
  refine hKo _ _ fun fa3 fh3 => ?_
  clear hKo Ko fh2 fa2
  refine Kn.pure fh3 rfl rfl .none (Kn.ex_move fh3 (.tmp rfl)) fun fa4 fh4 => ?_
  clear fh3 fa3
  refine Kn.pure fh4 rfl rfl (.some rfl rfl rfl) (Kn.ex_move fh4 (.tmp rfl)) fun fa5 fh5 => ?_
  clear fh4 fa4
  refine Kn.step fh5 rfl rfl (.some rfl rfl rfl) (Kn.ex_bin fh5 (.tmp rfl) .const) fun Ko hKo => ?_
  go_simp
  try go_bits
  refine hKo _ _ fun fa6 fh6 => ?_
  clear hKo Ko fh5 fa5
  refine Kn.pure fh6 rfl rfl .none (Kn.ex_pick fh6 (.tmp rfl) (.tmp rfl)) fun fa7 fh7 => ?_
  clear fh6 fa6
  refine Kn.pure fh7 rfl rfl .none (Kn.ex_move fh7 (.tmp rfl)) fun fa8 fh8 => ?_
  clear fh7 fa7
  refine Kn.skip fh8 rfl rfl (.some rfl rfl rfl) fun fa9 fh9 => ?_
  clear fh8 fa8
  refine Kn.skip fh9 rfl rfl (.some rfl rfl rfl) fun fa10 fh10 => ?_
  clear fh9 fa9
  refine Kn.skip fh10 rfl rfl (.some rfl rfl rfl) fun fa11 fh11 => ?_
  clear fh10 fa10
  refine Kn.skip fh11 rfl rfl (.some rfl rfl rfl) fun fa12 fh12 => ?_
  clear fh11 fa11
  refine Kn.skip fh12 rfl rfl (.some rfl rfl rfl) fun fa13 fh13 => ?_
  clear fh12 fa12
  refine Kn.skip fh13 rfl rfl (.some rfl rfl rfl) fun fa14 fh14 => ?_
  clear fh13 fa13
  refine Kn.skip fh14 rfl rfl (.some rfl rfl rfl) fun fa15 fh15 => ?_
  clear fh14 fa14
  refine Kn.pure fh15 rfl rfl .none (Kn.ex_pick fh15 (.tmp rfl) .const) fun fa16 fh16 => ?_
  clear fh15 fa15
  refine wpList_nil ?_
  refine hK3 _ _ ?_
  clear hK3 K3
  replace fh16 := fh16.cut (.cons (t := 19) rfl (.cons (t := 4) rfl (.cons (t := 0) rfl (.cons (t := 1) rfl .nil))))
  refine Kn.yes fh16 (.tmp rfl) ?_
  replace fh16 := fh16.cut (.cons (t := 4) rfl (.cons (t := 0) rfl (.cons (t := 1) rfl .nil)))
  refine wp_seq_k fun K4 hK4 => ?_
  refine wp_region_lit ?_
  refine Kn.pure fh16 rfl rfl .none (Kn.ex_assign fh16 .const) fun fa17 fh17 => ?_
  clear fh16 fa16
  refine wpList_nil ?_
  refine hK4 _ _ ?_
  clear hK4 K4
  refine wp_ret ?_
  refine Kn.then_ret ?_
  exact Kn.ret1 fh17 rfl rfl ⟨rfl, rfl⟩

set_option maxRecDepth 100000 in
set_option maxHeartbeats 2000000 in
theorem begin_hi (v : Int) (hv0 : ¬ v < 0) (w : World) (B g N : Nat) (ys : List (Int × Int)) (hR : Rep w B g N ys) (hv : (N : Int) < v) :
    Calls Tryd.prog 21 #[.pointer (some ⟨g, 0, none⟩), .int .i64 v] w fun e w' => e = .returned (.int .i64 (-1)) ∧ w = w' := by
  refine Kn.calls Tryd.func21 rfl Tryd.ntmps21 rfl (.cons (t := 0) rfl (.cons (t := 1) rfl .nil)) fun fa0 fh0 => ?_
  refine wp_seq_k fun K1 hK1 => ?_
  refine wp_region_lit ?_
  refine Kn.pure fh0 rfl rfl .none (Kn.ex_assign fh0 .const) fun fa1 fh1 => ?_
  clear fh0 fa0
  refine wpList_nil ?_
  refine hK1 _ _ ?_
  clear hK1 K1
  obtain ⟨gb, gt, -, -, hS, hH, hT⟩ := hR.mem
  have c0 := hS.cell 0 rfl
  have c1 := hS.cell 1 rfl
  have hN := hR.hi
  have hL := hR.len
  refine wp_seq_k fun K2 hK2 => ?_
  refine wp_seq_k fun K3 hK3 => ?_
  refine wp_region_lit ?_
  refine Kn.pure fh1 rfl rfl .none (Kn.ex_move fh1 (.tmp rfl)) fun fa2 fh2 => ?_
  clear fh1 fa1
  refine Kn.step fh2 rfl rfl .none (Kn.ex_bin fh2 (.tmp rfl) .const) fun Ko hKo => ?_
  go_simp
  try go_bits
  refine hKo _ _ fun fa3 fh3 => ?_
  clear hKo Ko fh2 fa2
  refine Kn.pure fh3 rfl rfl .none (Kn.ex_move fh3 (.tmp rfl)) fun fa4 fh4 => ?_
  clear fh3 fa3
  refine Kn.pure fh4 rfl rfl (.some rfl rfl rfl) (Kn.ex_move fh4 (.tmp rfl)) fun fa5 fh5 => ?_
  clear fh4 fa4
  refine Kn.step fh5 rfl rfl (.some rfl rfl rfl) (Kn.ex_bin fh5 (.tmp rfl) .const) fun Ko hKo => ?_
  go_simp
  try go_bits
  refine hKo _ _ fun fa6 fh6 => ?_
  clear hKo Ko fh5 fa5
  refine Kn.pure fh6 rfl rfl .none (Kn.ex_pick fh6 (.tmp rfl) (.tmp rfl)) fun fa7 fh7 => ?_
  clear fh6 fa6
  refine Kn.pure fh7 rfl rfl .none (Kn.ex_move fh7 (.tmp rfl)) fun fa8 fh8 => ?_
  clear fh7 fa7
  refine Kn.pure fh8 rfl rfl (.some rfl rfl rfl) (Kn.ex_move fh8 (.tmp rfl)) fun fa9 fh9 => ?_
  clear fh8 fa8
  refine Kn.pure fh9 rfl rfl (.some rfl rfl rfl) (Kn.ex_move fh9 (.tmp rfl)) fun fa10 fh10 => ?_
  clear fh9 fa9
  refine Kn.pure fh10 rfl rfl (.some rfl rfl rfl) (Kn.ex_nilCheck fh10 (.tmp rfl)) fun fa11 fh11 => ?_
  clear fh10 fa10
  refine Kn.step fh11 rfl rfl (.some rfl rfl rfl) (Kn.ex_fieldAddr fh11 (.tmp rfl)) fun Ko hKo => ?_
  go_simp
  try go_bits
  refine hKo _ _ fun fa12 fh12 => ?_
  clear hKo Ko fh11 fa11
  refine Kn.step fh12 rfl rfl (.some rfl rfl rfl) (Kn.ex_load fh12 (.tmp rfl)) fun Ko hKo => ?_
  go_simp
  try go_bits
  refine hKo _ _ fun fa13 fh13 => ?_
  clear hKo Ko fh12 fa12
  refine Kn.step fh13 rfl rfl (.some rfl rfl rfl) (Kn.ex_len fh13 (.tmp rfl)) fun Ko hKo => ?_
  go_simp
  try go_bits
  refine hKo _ _ fun fa14 fh14 => ?_
  clear hKo Ko fh13 fa13
  refine Kn.step fh14 rfl rfl (.some rfl rfl rfl) (Kn.ex_bin fh14 (.tmp rfl) (.tmp rfl)) fun Ko hKo => ?_
  go_simp
  try go_bits
  refine hKo _ _ fun fa15 fh15 => ?_
  clear hKo Ko fh14 fa14
  refine Kn.pure fh15 rfl rfl .none (Kn.ex_pick fh15 (.tmp rfl) (.tmp rfl)) fun fa16 fh16 => ?_
  clear fh15 fa15
  refine wpList_nil ?_
  refine hK3 _ _ ?_
  clear hK3 K3
  replace fh16 := fh16.cut (.cons (t := 19) rfl (.cons (t := 4) rfl (.cons (t := 0) rfl (.cons (t := 1) rfl .nil))))
  refine Kn.yes fh16 (.tmp rfl) ?_
  replace fh16 := fh16.cut (.cons (t := 4) rfl (.cons (t := 0) rfl (.cons (t := 1) rfl .nil)))
  refine wp_seq_k fun K4 hK4 => ?_
  refine wp_region_lit ?_
  refine Kn.pure fh16 rfl rfl .none (Kn.ex_assign fh16 .const) fun fa17 fh17 => ?_
  clear fh16 fa16
  refine wpList_nil ?_
  refine hK4 _ _ ?_
  clear hK4 K4
  refine wp_ret ?_
  refine Kn.then_ret ?_
  exact Kn.ret1 fh17 rfl rfl ⟨rfl, rfl⟩

set_option maxRecDepth 100000 in
set_option maxHeartbeats 2000000 in
theorem begin_end (w : World) (B g N : Nat) (ys : List (Int × Int)) (hR : Rep w B g N ys) :
    Calls Tryd.prog 21 #[.pointer (some ⟨g, 0, none⟩), .int .i64 (N : Int)] w fun e w' => e = .returned (.int .i64 (bgn ys (N : Int) : Int)) ∧ w = w' := by
  refine Kn.calls Tryd.func21 rfl Tryd.ntmps21 rfl (.cons (t := 0) rfl (.cons (t := 1) rfl .nil)) fun fa0 fh0 => ?_
  refine wp_seq_k fun K1 hK1 => ?_
  refine wp_region_lit ?_
  refine Kn.pure fh0 rfl rfl .none (Kn.ex_assign fh0 .const) fun fa1 fh1 => ?_
  clear fh0 fa0
  refine wpList_nil ?_
  refine hK1 _ _ ?_
  clear hK1 K1
  obtain ⟨gb, gt, -, -, hS, hH, hT⟩ := hR.mem
  have c0 := hS.cell 0 rfl
  have c1 := hS.cell 1 rfl
  have hN := hR.hi
  have hL := hR.len
  have p1 : ¬ ((N : Int) < 0) := by omega
  have p2 : ((N : Int) == (N : Int)) = true := by simp
  refine wp_seq_k fun K2 hK2 => ?_
  refine wp_seq_k fun K3 hK3 => ?_
  refine wp_region_lit ?_
  refine Kn.pure fh1 rfl rfl .none (Kn.ex_move fh1 (.tmp rfl)) fun fa2 fh2 => ?_
  clear fh1 fa1
  refine Kn.step fh2 rfl rfl .none (Kn.ex_bin fh2 (.tmp rfl) .const) fun Ko hKo => ?_
  go_simp
  try go_bits
  refine hKo _ _ fun fa3 fh3 => ?_
  clear hKo Ko fh2 fa2
  refine Kn.pure fh3 rfl rfl .none (Kn.ex_move fh3 (.tmp rfl)) fun fa4 fh4 => ?_
  clear fh3 fa3
  refine Kn.pure fh4 rfl rfl (.some rfl rfl rfl) (Kn.ex_move fh4 (.tmp rfl)) fun fa5 fh5 => ?_
  clear fh4 fa4
  refine Kn.step fh5 rfl rfl (.some rfl rfl rfl) (Kn.ex_bin fh5 (.tmp rfl) .const) fun Ko hKo => ?_
  go_simp
  try go_bits
  refine hKo _ _ fun fa6 fh6 => ?_
  clear hKo Ko fh5 fa5
  refine Kn.pure fh6 rfl rfl .none (Kn.ex_pick fh6 (.tmp rfl) (.tmp rfl)) fun fa7 fh7 => ?_
  clear fh6 fa6
  refine Kn.pure fh7 rfl rfl .none (Kn.ex_move fh7 (.tmp rfl)) fun fa8 fh8 => ?_
  clear fh7 fa7
  refine Kn.pure fh8 rfl rfl (.some rfl rfl rfl) (Kn.ex_move fh8 (.tmp rfl)) fun fa9 fh9 => ?_
  clear fh8 fa8
  refine Kn.pure fh9 rfl rfl (.some rfl rfl rfl) (Kn.ex_move fh9 (.tmp rfl)) fun fa10 fh10 => ?_
  clear fh9 fa9
  refine Kn.pure fh10 rfl rfl (.some rfl rfl rfl) (Kn.ex_nilCheck fh10 (.tmp rfl)) fun fa11 fh11 => ?_
  clear fh10 fa10
  refine Kn.step fh11 rfl rfl (.some rfl rfl rfl) (Kn.ex_fieldAddr fh11 (.tmp rfl)) fun Ko hKo => ?_
  go_simp
  try go_bits
  refine hKo _ _ fun fa12 fh12 => ?_
  clear hKo Ko fh11 fa11
  refine Kn.step fh12 rfl rfl (.some rfl rfl rfl) (Kn.ex_load fh12 (.tmp rfl)) fun Ko hKo => ?_
  go_simp
  try go_bits
  refine hKo _ _ fun fa13 fh13 => ?_
  clear hKo Ko fh12 fa12
  refine Kn.step fh13 rfl rfl (.some rfl rfl rfl) (Kn.ex_len fh13 (.tmp rfl)) fun Ko hKo => ?_
  go_simp
  try go_bits
  refine hKo _ _ fun fa14 fh14 => ?_
  clear hKo Ko fh13 fa13
  refine Kn.step fh14 rfl rfl (.some rfl rfl rfl) (Kn.ex_bin fh14 (.tmp rfl) (.tmp rfl)) fun Ko hKo => ?_
  go_simp
  try go_bits
  refine hKo _ _ fun fa15 fh15 => ?_
  clear hKo Ko fh14 fa14
  refine Kn.pure fh15 rfl rfl .none (Kn.ex_pick fh15 (.tmp rfl) (.tmp rfl)) fun fa16 fh16 => ?_
  clear fh15 fa15
  refine wpList_nil ?_
  refine hK3 _ _ ?_
  clear hK3 K3
  replace fh16 := fh16.cut (.cons (t := 19) rfl (.cons (t := 4) rfl (.cons (t := 0) rfl (.cons (t := 1) rfl .nil))))
  refine Kn.no fh16 (.tmp rfl) ?_
  refine wp_skip ?_
  refine hK2 _ _ ?_
  clear hK2 K2
  replace fh16 := fh16.cut (.cons (t := 4) rfl (.cons (t := 0) rfl (.cons (t := 1) rfl .nil)))
  refine wp_seq_k fun K4 hK4 => ?_
  refine wp_seq_k fun K5 hK5 => ?_
  refine wp_region_lit ?_
  refine Kn.pure fh16 rfl rfl .none (Kn.ex_move fh16 (.tmp rfl)) fun fa17 fh17 => ?_
  clear fh16 fa16
  refine Kn.pure fh17 rfl rfl .none (Kn.ex_move fh17 (.tmp rfl)) fun fa18 fh18 => ?_
  clear fh17 fa17
  refine Kn.pure fh18 rfl rfl .none (Kn.ex_nilCheck fh18 (.tmp rfl)) fun fa19 fh19 => ?_
  clear fh18 fa18
  refine Kn.step fh19 rfl rfl .none (Kn.ex_fieldAddr fh19 (.tmp rfl)) fun Ko hKo => ?_
  go_simp
  try go_bits
  refine hKo _ _ fun fa20 fh20 => ?_
  clear hKo Ko fh19 fa19
  refine Kn.step fh20 rfl rfl .none (Kn.ex_load fh20 (.tmp rfl)) fun Ko hKo => ?_
  go_simp
  try go_bits
  refine hKo _ _ fun fa21 fh21 => ?_
  clear hKo Ko fh20 fa20
  refine Kn.step fh21 rfl rfl .none (Kn.ex_len fh21 (.tmp rfl)) fun Ko hKo => ?_
  go_simp
  try go_bits
  refine hKo _ _ fun fa22 fh22 => ?_
  clear hKo Ko fh21 fa21
  refine Kn.step fh22 rfl rfl .none (Kn.ex_bin fh22 (.tmp rfl) (.tmp rfl)) fun Ko hKo => ?_
  go_simp
  try go_bits
  refine hKo _ _ fun fa23 fh23 => ?_
  clear hKo Ko fh22 fa22
  refine wpList_nil ?_
  refine hK5 _ _ ?_
  clear hK5 K5
  replace fh23 := fh23.cut (.cons (t := 26) rfl (.cons (t := 4) rfl (.cons (t := 0) rfl (.cons (t := 1) rfl .nil))))
  refine Kn.yes fh23 (.tmp rfl) ?_
  replace fh23 := fh23.cut (.cons (t := 4) rfl (.cons (t := 0) rfl (.cons (t := 1) rfl .nil)))
  refine wp_seq_k fun K6 hK6 => ?_
  refine wp_region_lit ?_
  refine Kn.pure fh23 rfl rfl .none (Kn.ex_move fh23 (.tmp rfl)) fun fa24 fh24 => ?_
  clear fh23 fa23
  refine Kn.pure fh24 rfl rfl .none (Kn.ex_nilCheck fh24 (.tmp rfl)) fun fa25 fh25 => ?_
  clear fh24 fa24
  refine Kn.step fh25 rfl rfl .none (Kn.ex_fieldAddr fh25 (.tmp rfl)) fun Ko hKo => ?_
  go_simp
  try go_bits
  refine hKo _ _ fun fa26 fh26 => ?_
  clear hKo Ko fh25 fa25
  refine Kn.step fh26 rfl rfl .none (Kn.ex_load fh26 (.tmp rfl)) fun Ko hKo => ?_
  go_simp
  try go_bits
  refine hKo _ _ fun fa27 fh27 => ?_
  clear hKo Ko fh26 fa26
  refine Kn.step fh27 rfl rfl .none (Kn.ex_len fh27 (.tmp rfl)) fun Ko hKo => ?_
  go_simp
  try go_bits
  refine hKo _ _ fun fa28 fh28 => ?_
  clear hKo Ko fh27 fa27
  refine Kn.pure fh28 rfl rfl .none (Kn.ex_assign fh28 (.tmp rfl)) fun fa29 fh29 => ?_
  clear fh28 fa28
  refine wpList_nil ?_
  refine hK6 _ _ ?_
  clear hK6 K6
  replace fh29 := fh29.cut (.cons (t := 4) rfl (.cons (t := 0) rfl (.cons (t := 1) rfl .nil)))
  refine wp_ret ?_
  refine Kn.then_ret ?_
  exact Kn.ret1 fh29 rfl rfl ⟨by rw [bgn_N hR.good], rfl⟩

set_option maxRecDepth 100000 in
set_option maxHeartbeats 2000000 in
theorem begin_at (k : Nat) (w : World) (B g N : Nat) (ys : List (Int × Int)) (hR : Rep w B g N ys) (hv : k < N) :
    Calls Tryd.prog 21 #[.pointer (some ⟨g, 0, none⟩), .int .i64 (k : Int)] w fun e w' => e = .returned (.int .i64 (bgn ys (k : Int) : Int)) ∧ w = w' := by
  refine Kn.calls Tryd.func21 rfl Tryd.ntmps21 rfl (.cons (t := 0) rfl (.cons (t := 1) rfl .nil)) fun fa0 fh0 => ?_
  refine wp_seq_k fun K1 hK1 => ?_
  refine wp_region_lit ?_
  refine Kn.pure fh0 rfl rfl .none (Kn.ex_assign fh0 .const) fun fa1 fh1 => ?_
  clear fh0 fa0
  refine wpList_nil ?_
  refine hK1 _ _ ?_
  clear hK1 K1
  obtain ⟨gb, gt, -, -, hS, hH, hT⟩ := hR.mem
  have c0 := hS.cell 0 rfl
  have c1 := hS.cell 1 rfl
  have hN := hR.hi
  have hL := hR.len
  have p0 : ¬ ((k : Int) < 0) := by omega
  have p1 : ¬ ((N : Int) < (k : Int)) := by omega
  have p2 : ((k : Int) == (N : Int)) = false := by rw [beq_eq_false_iff_ne]; omega
  have hk := (hH k (by rw [bgs_len]; exact hv)).1
  rw [bgs_at ys N k hv] at hk
  refine wp_seq_k fun K2 hK2 => ?_
  refine wp_seq_k fun K3 hK3 => ?_
  refine wp_region_lit ?_
  refine Kn.pure fh1 rfl rfl .none (Kn.ex_move fh1 (.tmp rfl)) fun fa2 fh2 => ?_
  clear fh1 fa1
  refine Kn.step fh2 rfl rfl .none (Kn.ex_bin fh2 (.tmp rfl) .const) fun Ko hKo => ?_
  go_simp
  try go_bits
  refine hKo _ _ fun fa3 fh3 => ?_
  clear hKo Ko fh2 fa2
  refine Kn.pure fh3 rfl rfl .none (Kn.ex_move fh3 (.tmp rfl)) fun fa4 fh4 => ?_
  clear fh3 fa3
  refine Kn.pure fh4 rfl rfl (.some rfl rfl rfl) (Kn.ex_move fh4 (.tmp rfl)) fun fa5 fh5 => ?_
  clear fh4 fa4
  refine Kn.step fh5 rfl rfl (.some rfl rfl rfl) (Kn.ex_bin fh5 (.tmp rfl) .const) fun Ko hKo => ?_
  go_simp
  try go_bits
  refine hKo _ _ fun fa6 fh6 => ?_
  clear hKo Ko fh5 fa5
  refine Kn.pure fh6 rfl rfl .none (Kn.ex_pick fh6 (.tmp rfl) (.tmp rfl)) fun fa7 fh7 => ?_
  clear fh6 fa6
  refine Kn.pure fh7 rfl rfl .none (Kn.ex_move fh7 (.tmp rfl)) fun fa8 fh8 => ?_
  clear fh7 fa7
  refine Kn.pure fh8 rfl rfl (.some rfl rfl rfl) (Kn.ex_move fh8 (.tmp rfl)) fun fa9 fh9 => ?_
  clear fh8 fa8
  refine Kn.pure fh9 rfl rfl (.some rfl rfl rfl) (Kn.ex_move fh9 (.tmp rfl)) fun fa10 fh10 => ?_
  clear fh9 fa9
  refine Kn.pure fh10 rfl rfl (.some rfl rfl rfl) (Kn.ex_nilCheck fh10 (.tmp rfl)) fun fa11 fh11 => ?_
  clear fh10 fa10
  refine Kn.step fh11 rfl rfl (.some rfl rfl rfl) (Kn.ex_fieldAddr fh11 (.tmp rfl)) fun Ko hKo => ?_
  go_simp
  try go_bits
  refine hKo _ _ fun fa12 fh12 => ?_
  clear hKo Ko fh11 fa11
  refine Kn.step fh12 rfl rfl (.some rfl rfl rfl) (Kn.ex_load fh12 (.tmp rfl)) fun Ko hKo => ?_
  go_simp
  try go_bits
  refine hKo _ _ fun fa13 fh13 => ?_
  clear hKo Ko fh12 fa12
  refine Kn.step fh13 rfl rfl (.some rfl rfl rfl) (Kn.ex_len fh13 (.tmp rfl)) fun Ko hKo => ?_
  go_simp
  try go_bits
  refine hKo _ _ fun fa14 fh14 => ?_
  clear hKo Ko fh13 fa13
  refine Kn.step fh14 rfl rfl (.some rfl rfl rfl) (Kn.ex_bin fh14 (.tmp rfl) (.tmp rfl)) fun Ko hKo => ?_
  go_simp
  try go_bits
  refine hKo _ _ fun fa15 fh15 => ?_
  clear hKo Ko fh14 fa14
  refine Kn.pure fh15 rfl rfl .none (Kn.ex_pick fh15 (.tmp rfl) (.tmp rfl)) fun fa16 fh16 => ?_
  clear fh15 fa15
  refine wpList_nil ?_
  refine hK3 _ _ ?_
  clear hK3 K3
  replace fh16 := fh16.cut (.cons (t := 19) rfl (.cons (t := 4) rfl (.cons (t := 0) rfl (.cons (t := 1) rfl .nil))))
  refine Kn.no fh16 (.tmp rfl) ?_
  refine wp_skip ?_
  refine hK2 _ _ ?_
  clear hK2 K2
  replace fh16 := fh16.cut (.cons (t := 4) rfl (.cons (t := 0) rfl (.cons (t := 1) rfl .nil)))
  refine wp_seq_k fun K4 hK4 => ?_
  refine wp_seq_k fun K5 hK5 => ?_
  refine wp_region_lit ?_
  refine Kn.pure fh16 rfl rfl .none (Kn.ex_move fh16 (.tmp rfl)) fun fa17 fh17 => ?_
  clear fh16 fa16
  refine Kn.pure fh17 rfl rfl .none (Kn.ex_move fh17 (.tmp rfl)) fun fa18 fh18 => ?_
  clear fh17 fa17
  refine Kn.pure fh18 rfl rfl .none (Kn.ex_nilCheck fh18 (.tmp rfl)) fun fa19 fh19 => ?_
  clear fh18 fa18
  refine Kn.step fh19 rfl rfl .none (Kn.ex_fieldAddr fh19 (.tmp rfl)) fun Ko hKo => ?_
  go_simp
  try go_bits
  refine hKo _ _ fun fa20 fh20 => ?_
  clear hKo Ko fh19 fa19
  refine Kn.step fh20 rfl rfl .none (Kn.ex_load fh20 (.tmp rfl)) fun Ko hKo => ?_
  go_simp
  try go_bits
  refine hKo _ _ fun fa21 fh21 => ?_
  clear hKo Ko fh20 fa20
  refine Kn.step fh21 rfl rfl .none (Kn.ex_len fh21 (.tmp rfl)) fun Ko hKo => ?_
  go_simp
  try go_bits
  refine hKo _ _ fun fa22 fh22 => ?_
  clear hKo Ko fh21 fa21
  refine Kn.step fh22 rfl rfl .none (Kn.ex_bin fh22 (.tmp rfl) (.tmp rfl)) fun Ko hKo => ?_
  go_simp
  try go_bits
  refine hKo _ _ fun fa23 fh23 => ?_
  clear hKo Ko fh22 fa22
  refine wpList_nil ?_
  refine hK5 _ _ ?_
  clear hK5 K5
  replace fh23 := fh23.cut (.cons (t := 26) rfl (.cons (t := 4) rfl (.cons (t := 0) rfl (.cons (t := 1) rfl .nil))))
  refine Kn.no fh23 (.tmp rfl) ?_
  refine wp_skip ?_
  refine hK4 _ _ ?_
  clear hK4 K4
  replace fh23 := fh23.cut (.cons (t := 4) rfl (.cons (t := 0) rfl (.cons (t := 1) rfl .nil)))
  refine wp_seq_k fun K6 hK6 => ?_
  refine wp_region_lit ?_
  refine Kn.pure fh23 rfl rfl .none (Kn.ex_move fh23 (.tmp rfl)) fun fa24 fh24 => ?_
  clear fh23 fa23
  refine Kn.pure fh24 rfl rfl .none (Kn.ex_nilCheck fh24 (.tmp rfl)) fun fa25 fh25 => ?_
  clear fh24 fa24
  refine Kn.step fh25 rfl rfl .none (Kn.ex_fieldAddr fh25 (.tmp rfl)) fun Ko hKo => ?_
  go_simp
  try go_bits
  refine hKo _ _ fun fa26 fh26 => ?_
  clear hKo Ko fh25 fa25
  refine Kn.step fh26 rfl rfl .none (Kn.ex_load fh26 (.tmp rfl)) fun Ko hKo => ?_
  go_simp
  try go_bits
  refine hKo _ _ fun fa27 fh27 => ?_
  clear hKo Ko fh26 fa26
  refine Kn.pure fh27 rfl rfl .none (Kn.ex_move fh27 (.tmp rfl)) fun fa28 fh28 => ?_
  clear fh27 fa27
  refine Kn.step fh28 rfl rfl .none (Kn.ex_indexAddr fh28 (.tmp rfl) (.tmp rfl)) fun Ko hKo => ?_
  go_simp
  try go_bits
  refine hKo _ _ fun fa29 fh29 => ?_
  clear hKo Ko fh28 fa28
  refine Kn.step fh29 rfl rfl .none (Kn.ex_load fh29 (.tmp rfl)) fun Ko hKo => ?_
  go_simp
  try go_bits
  refine hKo _ _ fun fa30 fh30 => ?_
  clear hKo Ko fh29 fa29
  refine Kn.pure fh30 rfl rfl .none (Kn.ex_assign fh30 (.tmp rfl)) fun fa31 fh31 => ?_
  clear fh30 fa30
  refine wpList_nil ?_
  refine hK6 _ _ ?_
  clear hK6 K6
  replace fh31 := fh31.cut (.cons (t := 4) rfl .nil)
  refine wp_ret ?_
  exact Kn.ret1 fh31 rfl rfl ⟨rfl, rfl⟩

/-- Where a node's targets begin. -/
def bgI (N : Nat) (ys : List (Int × Int)) (v : Int) : Int := if v < 0 ∨ (N : Int) < v then -1 else (bgn ys v : Int)
theorem begin_any (v : Int) (w : World) (B g N : Nat) (ys : List (Int × Int)) (hR : Rep w B g N ys) : Calls Tryd.prog 21 #[.pointer (some ⟨g, 0, none⟩), .int .i64 v] w fun e w' => e = .returned (.int .i64 (bgI N ys v)) ∧ w = w' := by
  unfold bgI
  by_cases h1 : v < 0
  · rw [if_pos (.inl h1)]; exact begin_lo v h1 w B g N ys hR
  by_cases h2 : (N : Int) < v
  · rw [if_pos (.inr h2)]; exact begin_hi v h1 w B g N ys hR h2
  rw [if_neg (by omega)]
  obtain ⟨k, rfl⟩ := Int.eq_ofNat_of_zero_le (show 0 ≤ v by omega)
  by_cases h3 : k = N
  · subst h3; exact begin_end w B g k ys hR
  · exact begin_at k w B g N ys hR (by omega)
theorem begin_in (k : Nat) (w : World) (B g N : Nat) (ys : List (Int × Int)) (hR : Rep w B g N ys) (hk : k ≤ N) : Calls Tryd.prog 21 #[.pointer (some ⟨g, 0, none⟩), .int .i64 (k : Int)] w fun e w' => e = .returned (.int .i64 (bgn ys (k : Int) : Int)) ∧ w = w' := by
  have := begin_any (k : Int) w B g N ys hR
  rwa [bgI, if_neg (by omega)] at this

set_option maxRecDepth 100000 in
set_option maxHeartbeats 2000000 in
theorem row_nil (v : Int) (w : World) :
    Calls Tryd.prog 29 #[.pointer none, .int .i64 v] w fun e w' => e = .returned (.tuple #[.slice none 0 0, errV 1]) ∧ w = w' := by
  refine Kn.calls Tryd.func29 rfl Tryd.ntmps29 rfl (.cons (t := 0) rfl (.cons (t := 1) rfl .nil)) fun fa0 fh0 => ?_
  refine wp_seq_k fun K1 hK1 => ?_
  refine wp_region_lit ?_
  refine Kn.pure fh0 rfl rfl .none (Kn.ex_assign fh0 .const) fun fa1 fh1 => ?_
  clear fh0 fa0
  refine Kn.pure fh1 rfl rfl .none (Kn.ex_assign fh1 .const) fun fa2 fh2 => ?_
  clear fh1 fa1
  refine wpList_nil ?_
  refine hK1 _ _ ?_
  clear hK1 K1
  refine wp_seq_k fun K2 hK2 => ?_
  refine wp_seq_k fun K3 hK3 => ?_
  refine wp_region_lit ?_
  refine Kn.pure fh2 rfl rfl .none (Kn.ex_move fh2 (.tmp rfl)) fun fa3 fh3 => ?_
  clear fh2 fa2
  refine Kn.step fh3 rfl rfl .none (Kn.ex_bin fh3 (.tmp rfl) .const) fun Ko hKo => ?_
  go_simp
  try go_bits
  refine hKo _ _ fun fa4 fh4 => ?_
  clear hKo Ko fh3 fa3
  refine wpList_nil ?_
  refine hK3 _ _ ?_
  clear hK3 K3
  replace fh4 := fh4.cut (.cons (t := 7) rfl (.cons (t := 5) rfl (.cons (t := 4) rfl (.cons (t := 0) rfl (.cons (t := 1) rfl .nil)))))
  refine Kn.yes fh4 (.tmp rfl) ?_
  replace fh4 := fh4.cut (.cons (t := 5) rfl (.cons (t := 4) rfl (.cons (t := 0) rfl (.cons (t := 1) rfl .nil))))
  refine wp_seq_k fun K4 hK4 => ?_
  refine wp_region_lit ?_
  refine Kn.step fh4 rfl rfl .none (Kn.ex_makeInterface fh4 .const) fun Ko hKo => ?_
  go_simp
  try go_bits
  refine hKo _ _ fun fa5 fh5 => ?_
  clear hKo Ko fh4 fa4
  refine Kn.pure fh5 rfl rfl .none (Kn.ex_assign fh5 .const) fun fa6 fh6 => ?_
  clear fh5 fa5
  refine Kn.pure fh6 rfl rfl .none (Kn.ex_assign fh6 (.tmp rfl)) fun fa7 fh7 => ?_
  clear fh6 fa6
  refine wpList_nil ?_
  refine hK4 _ _ ?_
  clear hK4 K4
  replace fh7 := fh7.cut (.cons (t := 5) rfl (.cons (t := 4) rfl (.cons (t := 0) rfl (.cons (t := 1) rfl .nil))))
  refine wp_ret ?_
  refine Kn.then_ret ?_
  exact Kn.ret2 fh7 rfl rfl rfl ⟨rfl, rfl⟩

set_option maxRecDepth 100000 in
set_option maxHeartbeats 2000000 in
theorem row_lo (v : Int) (hv : v < 0) (w : World) (B g N : Nat) (ys : List (Int × Int)) (hR : Rep w B g N ys) :
    Calls Tryd.prog 29 #[.pointer (some ⟨g, 0, none⟩), .int .i64 v] w fun e w' => e = .returned (.tuple #[.slice none 0 0, errV 2]) ∧ w = w' := by
  refine Kn.calls Tryd.func29 rfl Tryd.ntmps29 rfl (.cons (t := 0) rfl (.cons (t := 1) rfl .nil)) fun fa0 fh0 => ?_
  refine wp_seq_k fun K1 hK1 => ?_
  refine wp_region_lit ?_
  refine Kn.pure fh0 rfl rfl .none (Kn.ex_assign fh0 .const) fun fa1 fh1 => ?_
  clear fh0 fa0
  refine Kn.pure fh1 rfl rfl .none (Kn.ex_assign fh1 .const) fun fa2 fh2 => ?_
  clear fh1 fa1
  refine wpList_nil ?_
  refine hK1 _ _ ?_
  clear hK1 K1
  obtain ⟨gb, gt, -, -, hS, hH, hT⟩ := hR.mem
  have c0 := hS.cell 0 rfl
  have c1 := hS.cell 1 rfl
  have hN := hR.hi
  have hL := hR.len
  refine wp_seq_k fun K2 hK2 => ?_
  refine wp_seq_k fun K3 hK3 => ?_
  refine wp_region_lit ?_
  refine Kn.pure fh2 rfl rfl .none (Kn.ex_move fh2 (.tmp rfl)) fun fa3 fh3 => ?_
  clear fh2 fa2
  refine Kn.step fh3 rfl rfl .none (Kn.ex_bin fh3 (.tmp rfl) .const) fun Ko hKo => ?_
  go_simp
  try go_bits
  refine hKo _ _ fun fa4 fh4 => ?_
  clear hKo Ko fh3 fa3
  refine wpList_nil ?_
  refine hK3 _ _ ?_
  clear hK3 K3
  replace fh4 := fh4.cut (.cons (t := 7) rfl (.cons (t := 5) rfl (.cons (t := 4) rfl (.cons (t := 0) rfl (.cons (t := 1) rfl .nil)))))
  refine Kn.no fh4 (.tmp rfl) ?_
  refine wp_skip ?_
  refine hK2 _ _ ?_
  clear hK2 K2
  replace fh4 := fh4.cut (.cons (t := 5) rfl (.cons (t := 4) rfl (.cons (t := 0) rfl (.cons (t := 1) rfl .nil))))
  refine wp_seq_k fun K4 hK4 => ?_
  refine wp_seq_k fun K5 hK5 => ?_
  refine wp_region_lit ?_
  refine Kn.pure fh4 rfl rfl .none (Kn.ex_move fh4 (.tmp rfl)) fun fa5 fh5 => ?_
  clear fh4 fa4
  refine Kn.step fh5 rfl rfl .none (Kn.ex_bin fh5 (.tmp rfl) .const) fun Ko hKo => ?_
  go_simp
  try go_bits
  refine hKo _ _ fun fa6 fh6 => ?_
  clear hKo Ko fh5 fa5
  refine Kn.pure fh6 rfl rfl .none (Kn.ex_move fh6 (.tmp rfl)) fun fa7 fh7 => ?_
  clear fh6 fa6
  refine Kn.skip fh7 rfl rfl (.some rfl rfl rfl) fun fa8 fh8 => ?_
  clear fh7 fa7
  refine Kn.skip fh8 rfl rfl (.some rfl rfl rfl) fun fa9 fh9 => ?_
  clear fh8 fa8
  refine Kn.skip fh9 rfl rfl (.some rfl rfl rfl) fun fa10 fh10 => ?_
  clear fh9 fa9
  refine Kn.skip fh10 rfl rfl (.some rfl rfl rfl) fun fa11 fh11 => ?_
  clear fh10 fa10
  refine Kn.skip fh11 rfl rfl (.some rfl rfl rfl) fun fa12 fh12 => ?_
  clear fh11 fa11
  refine Kn.skip fh12 rfl rfl (.some rfl rfl rfl) fun fa13 fh13 => ?_
  clear fh12 fa12
  refine Kn.skip fh13 rfl rfl (.some rfl rfl rfl) fun fa14 fh14 => ?_
  clear fh13 fa13
  refine Kn.pure fh14 rfl rfl .none (Kn.ex_pick fh14 (.tmp rfl) .const) fun fa15 fh15 => ?_
  clear fh14 fa14
  refine wpList_nil ?_
  refine hK5 _ _ ?_
  clear hK5 K5
  replace fh15 := fh15.cut (.cons (t := 19) rfl (.cons (t := 5) rfl (.cons (t := 4) rfl (.cons (t := 0) rfl (.cons (t := 1) rfl .nil)))))
  refine Kn.yes fh15 (.tmp rfl) ?_
  replace fh15 := fh15.cut (.cons (t := 5) rfl (.cons (t := 4) rfl (.cons (t := 0) rfl (.cons (t := 1) rfl .nil))))
  refine wp_seq_k fun K6 hK6 => ?_
  refine wp_region_lit ?_
  refine Kn.step fh15 rfl rfl .none (Kn.ex_makeInterface fh15 .const) fun Ko hKo => ?_
  go_simp
  try go_bits
  refine hKo _ _ fun fa16 fh16 => ?_
  clear hKo Ko fh15 fa15
  refine Kn.pure fh16 rfl rfl .none (Kn.ex_assign fh16 .const) fun fa17 fh17 => ?_
  clear fh16 fa16
  refine Kn.pure fh17 rfl rfl .none (Kn.ex_assign fh17 (.tmp rfl)) fun fa18 fh18 => ?_
  clear fh17 fa17
  refine wpList_nil ?_
  refine hK6 _ _ ?_
  clear hK6 K6
  replace fh18 := fh18.cut (.cons (t := 5) rfl (.cons (t := 4) rfl (.cons (t := 0) rfl (.cons (t := 1) rfl .nil))))
  refine wp_ret ?_
  refine Kn.then_ret ?_
  exact Kn.ret2 fh18 rfl rfl rfl ⟨rfl, rfl⟩

set_option maxRecDepth 100000 in
set_option maxHeartbeats 2000000 in
theorem row_hi (v : Int) (hv0 : ¬ v < 0) (w : World) (B g N : Nat) (ys : List (Int × Int)) (hR : Rep w B g N ys) (hv : (N : Int) ≤ v) :
    Calls Tryd.prog 29 #[.pointer (some ⟨g, 0, none⟩), .int .i64 v] w fun e w' => e = .returned (.tuple #[.slice none 0 0, errV 2]) ∧ w = w' := by
  refine Kn.calls Tryd.func29 rfl Tryd.ntmps29 rfl (.cons (t := 0) rfl (.cons (t := 1) rfl .nil)) fun fa0 fh0 => ?_
  refine wp_seq_k fun K1 hK1 => ?_
  refine wp_region_lit ?_
  refine Kn.pure fh0 rfl rfl .none (Kn.ex_assign fh0 .const) fun fa1 fh1 => ?_
  clear fh0 fa0
  refine Kn.pure fh1 rfl rfl .none (Kn.ex_assign fh1 .const) fun fa2 fh2 => ?_
  clear fh1 fa1
  refine wpList_nil ?_
  refine hK1 _ _ ?_
  clear hK1 K1
  obtain ⟨gb, gt, -, -, hS, hH, hT⟩ := hR.mem
  have c0 := hS.cell 0 rfl
  have c1 := hS.cell 1 rfl
  have hN := hR.hi
  have hL := hR.len
  refine wp_seq_k fun K2 hK2 => ?_
  refine wp_seq_k fun K3 hK3 => ?_
  refine wp_region_lit ?_
  refine Kn.pure fh2 rfl rfl .none (Kn.ex_move fh2 (.tmp rfl)) fun fa3 fh3 => ?_
  clear fh2 fa2
  refine Kn.step fh3 rfl rfl .none (Kn.ex_bin fh3 (.tmp rfl) .const) fun Ko hKo => ?_
  go_simp
  try go_bits
  refine hKo _ _ fun fa4 fh4 => ?_
  clear hKo Ko fh3 fa3
  refine wpList_nil ?_
  refine hK3 _ _ ?_
  clear hK3 K3
  replace fh4 := fh4.cut (.cons (t := 7) rfl (.cons (t := 5) rfl (.cons (t := 4) rfl (.cons (t := 0) rfl (.cons (t := 1) rfl .nil)))))
  refine Kn.no fh4 (.tmp rfl) ?_
  refine wp_skip ?_
  refine hK2 _ _ ?_
  clear hK2 K2
  replace fh4 := fh4.cut (.cons (t := 5) rfl (.cons (t := 4) rfl (.cons (t := 0) rfl (.cons (t := 1) rfl .nil))))
  refine wp_seq_k fun K4 hK4 => ?_
  refine wp_seq_k fun K5 hK5 => ?_
  refine wp_region_lit ?_
  refine Kn.pure fh4 rfl rfl .none (Kn.ex_move fh4 (.tmp rfl)) fun fa5 fh5 => ?_
  clear fh4 fa4
  refine Kn.step fh5 rfl rfl .none (Kn.ex_bin fh5 (.tmp rfl) .const) fun Ko hKo => ?_
  go_simp
  try go_bits
  refine hKo _ _ fun fa6 fh6 => ?_
  clear hKo Ko fh5 fa5
  refine Kn.pure fh6 rfl rfl .none (Kn.ex_move fh6 (.tmp rfl)) fun fa7 fh7 => ?_
  clear fh6 fa6
  refine Kn.pure fh7 rfl rfl (.some rfl rfl rfl) (Kn.ex_move fh7 (.tmp rfl)) fun fa8 fh8 => ?_
  clear fh7 fa7
  refine Kn.pure fh8 rfl rfl (.some rfl rfl rfl) (Kn.ex_move fh8 (.tmp rfl)) fun fa9 fh9 => ?_
  clear fh8 fa8
  refine Kn.pure fh9 rfl rfl (.some rfl rfl rfl) (Kn.ex_nilCheck fh9 (.tmp rfl)) fun fa10 fh10 => ?_
  clear fh9 fa9
  refine Kn.step fh10 rfl rfl (.some rfl rfl rfl) (Kn.ex_fieldAddr fh10 (.tmp rfl)) fun Ko hKo => ?_
  go_simp
  try go_bits
  refine hKo _ _ fun fa11 fh11 => ?_
  clear hKo Ko fh10 fa10
  refine Kn.step fh11 rfl rfl (.some rfl rfl rfl) (Kn.ex_load fh11 (.tmp rfl)) fun Ko hKo => ?_
  go_simp
  try go_bits
  refine hKo _ _ fun fa12 fh12 => ?_
  clear hKo Ko fh11 fa11
  refine Kn.step fh12 rfl rfl (.some rfl rfl rfl) (Kn.ex_len fh12 (.tmp rfl)) fun Ko hKo => ?_
  go_simp
  try go_bits
  refine hKo _ _ fun fa13 fh13 => ?_
  clear hKo Ko fh12 fa12
  refine Kn.step fh13 rfl rfl (.some rfl rfl rfl) (Kn.ex_bin fh13 (.tmp rfl) (.tmp rfl)) fun Ko hKo => ?_
  go_simp
  try go_bits
  refine hKo _ _ fun fa14 fh14 => ?_
  clear hKo Ko fh13 fa13
  refine Kn.pure fh14 rfl rfl .none (Kn.ex_pick fh14 (.tmp rfl) (.tmp rfl)) fun fa15 fh15 => ?_
  clear fh14 fa14
  refine wpList_nil ?_
  refine hK5 _ _ ?_
  clear hK5 K5
  replace fh15 := fh15.cut (.cons (t := 19) rfl (.cons (t := 5) rfl (.cons (t := 4) rfl (.cons (t := 0) rfl (.cons (t := 1) rfl .nil)))))
  refine Kn.yes fh15 (.tmp rfl) ?_
  replace fh15 := fh15.cut (.cons (t := 5) rfl (.cons (t := 4) rfl (.cons (t := 0) rfl (.cons (t := 1) rfl .nil))))
  refine wp_seq_k fun K6 hK6 => ?_
  refine wp_region_lit ?_
  refine Kn.step fh15 rfl rfl .none (Kn.ex_makeInterface fh15 .const) fun Ko hKo => ?_
  go_simp
  try go_bits
  refine hKo _ _ fun fa16 fh16 => ?_
  clear hKo Ko fh15 fa15
  refine Kn.pure fh16 rfl rfl .none (Kn.ex_assign fh16 .const) fun fa17 fh17 => ?_
  clear fh16 fa16
  refine Kn.pure fh17 rfl rfl .none (Kn.ex_assign fh17 (.tmp rfl)) fun fa18 fh18 => ?_
  clear fh17 fa17
  refine wpList_nil ?_
  refine hK6 _ _ ?_
  clear hK6 K6
  replace fh18 := fh18.cut (.cons (t := 5) rfl (.cons (t := 4) rfl (.cons (t := 0) rfl (.cons (t := 1) rfl .nil))))
  refine wp_ret ?_
  refine Kn.then_ret ?_
  exact Kn.ret2 fh18 rfl rfl rfl ⟨rfl, rfl⟩

set_option maxRecDepth 100000 in
set_option maxHeartbeats 2000000 in
theorem row_in (k : Nat) (w : World) (B g N : Nat) (ys : List (Int × Int)) (hR : Rep w B g N ys) (hv : k < N) :
    Calls Tryd.prog 29 #[.pointer (some ⟨g, 0, none⟩), .int .i64 (k : Int)] w fun e w' => ∃ gt o c, e = .returned (.tuple #[.slice (some ⟨gt, o, none⟩) (trg ys (k : Int)).length c, .nilIface]) ∧ IIn w' (some ⟨gt, o, none⟩) (trg ys (k : Int)) ∧ ∃ q, w' = w.drewN q := by
  refine Kn.calls Tryd.func29 rfl Tryd.ntmps29 rfl (.cons (t := 0) rfl (.cons (t := 1) rfl .nil)) fun fa0 fh0 => ?_
  refine wp_seq_k fun K1 hK1 => ?_
  refine wp_region_lit ?_
  refine Kn.pure fh0 rfl rfl .none (Kn.ex_assign fh0 .const) fun fa1 fh1 => ?_
  clear fh0 fa0
  refine Kn.pure fh1 rfl rfl .none (Kn.ex_assign fh1 .const) fun fa2 fh2 => ?_
  clear fh1 fa1
  refine wpList_nil ?_
  refine hK1 _ _ ?_
  clear hK1 K1
  obtain ⟨gb, gt, -, -, hS, hH, hT⟩ := hR.mem
  have c0 := hS.cell 0 rfl
  have c1 := hS.cell 1 rfl
  have hN := hR.hi
  have hL := hR.len
  have p0 : ¬ ((k : Int) < 0) := by omega
  have p1 : ¬ ((N : Int) ≤ (k : Int)) := by omega
  have p2 : ¬ N ≤ k := by omega
  have r1 : (k : Int) + 1 = ((k + 1 : Nat) : Int) := by omega
  have hb1 := fun v h => begin_in k v B g N ys h (by omega)
  have hb2 := fun v h => begin_in (k + 1) v B g N ys h (by omega)
  have hn : bgn ys ((k + 1 : Nat) : Int) = bgn ys (k : Int) + (trg ys (k : Int)).length := by rw [← r1]; exact bgn_next ys (k : Int)
  have hle := bgn_le ys ((k + 1 : Nat) : Int)
  have HT : Hid (HoldI w gt (tgs ys)) := Lib.hid hT
  obtain ⟨k1, hk1⟩ : ∃ k1, k + 1 = k1 := ⟨_, rfl⟩
  rw [hk1] at hb2 hn hle r1
  obtain ⟨b, hb⟩ : ∃ b, bgn ys (k : Int) = b := ⟨_, rfl⟩
  obtain ⟨c, hc⟩ : ∃ c, bgn ys (k1 : Int) = c := ⟨_, rfl⟩
  rw [hb] at hb1 hn
  rw [hc] at hb2 hn hle
  have HK := Lib.hid hk1
  have HBe := Lib.hid hb
  have HN := Lib.hid hn
  have HC1 := Lib.hid hb1
  have HC2 := Lib.hid hb2
  clear hk1 hb hc hb1 hb2 hT hH
  obtain ⟨o, cc, hsl, ho⟩ := sliceI gt ys.length b c w.drew (by omega) hle (by omega)
  rw [show c - b = (trg ys (k : Int)).length by omega] at hsl
  have HO := Lib.hid ho
  clear ho hn
  refine wp_seq_k fun K2 hK2 => ?_
  refine wp_seq_k fun K3 hK3 => ?_
  refine wp_region_lit ?_
  refine Kn.pure fh2 rfl rfl .none (Kn.ex_move fh2 (.tmp rfl)) fun fa3 fh3 => ?_
  clear fh2 fa2
  refine Kn.step fh3 rfl rfl .none (Kn.ex_bin fh3 (.tmp rfl) .const) fun Ko hKo => ?_
  go_simp
  try go_bits
  refine hKo _ _ fun fa4 fh4 => ?_
  clear hKo Ko fh3 fa3
  refine wpList_nil ?_
  refine hK3 _ _ ?_
  clear hK3 K3
  replace fh4 := fh4.cut (.cons (t := 7) rfl (.cons (t := 5) rfl (.cons (t := 4) rfl (.cons (t := 0) rfl (.cons (t := 1) rfl .nil)))))
  refine Kn.no fh4 (.tmp rfl) ?_
  refine wp_skip ?_
  refine hK2 _ _ ?_
  clear hK2 K2
  replace fh4 := fh4.cut (.cons (t := 5) rfl (.cons (t := 4) rfl (.cons (t := 0) rfl (.cons (t := 1) rfl .nil))))
  refine wp_seq_k fun K4 hK4 => ?_
  refine wp_seq_k fun K5 hK5 => ?_
  refine wp_region_lit ?_
  refine Kn.pure fh4 rfl rfl .none (Kn.ex_move fh4 (.tmp rfl)) fun fa5 fh5 => ?_
  clear fh4 fa4
  refine Kn.step fh5 rfl rfl .none (Kn.ex_bin fh5 (.tmp rfl) .const) fun Ko hKo => ?_
  go_simp
  try go_bits
  refine hKo _ _ fun fa6 fh6 => ?_
  clear hKo Ko fh5 fa5
  refine Kn.pure fh6 rfl rfl .none (Kn.ex_move fh6 (.tmp rfl)) fun fa7 fh7 => ?_
  clear fh6 fa6
  refine Kn.pure fh7 rfl rfl (.some rfl rfl rfl) (Kn.ex_move fh7 (.tmp rfl)) fun fa8 fh8 => ?_
  clear fh7 fa7
  refine Kn.pure fh8 rfl rfl (.some rfl rfl rfl) (Kn.ex_move fh8 (.tmp rfl)) fun fa9 fh9 => ?_
  clear fh8 fa8
  refine Kn.pure fh9 rfl rfl (.some rfl rfl rfl) (Kn.ex_nilCheck fh9 (.tmp rfl)) fun fa10 fh10 => ?_
  clear fh9 fa9
  refine Kn.step fh10 rfl rfl (.some rfl rfl rfl) (Kn.ex_fieldAddr fh10 (.tmp rfl)) fun Ko hKo => ?_
  go_simp
  try go_bits
  refine hKo _ _ fun fa11 fh11 => ?_
  clear hKo Ko fh10 fa10
  refine Kn.step fh11 rfl rfl (.some rfl rfl rfl) (Kn.ex_load fh11 (.tmp rfl)) fun Ko hKo => ?_
  go_simp
  try go_bits
  refine hKo _ _ fun fa12 fh12 => ?_
  clear hKo Ko fh11 fa11
  refine Kn.step fh12 rfl rfl (.some rfl rfl rfl) (Kn.ex_len fh12 (.tmp rfl)) fun Ko hKo => ?_
  go_simp
  try go_bits
  refine hKo _ _ fun fa13 fh13 => ?_
  clear hKo Ko fh12 fa12
  refine Kn.step fh13 rfl rfl (.some rfl rfl rfl) (Kn.ex_bin fh13 (.tmp rfl) (.tmp rfl)) fun Ko hKo => ?_
  go_simp
  try go_bits
  refine hKo _ _ fun fa14 fh14 => ?_
  clear hKo Ko fh13 fa13
  refine Kn.pure fh14 rfl rfl .none (Kn.ex_pick fh14 (.tmp rfl) (.tmp rfl)) fun fa15 fh15 => ?_
  clear fh14 fa14
  refine wpList_nil ?_
  refine hK5 _ _ ?_
  clear hK5 K5
  replace fh15 := fh15.cut (.cons (t := 19) rfl (.cons (t := 5) rfl (.cons (t := 4) rfl (.cons (t := 0) rfl (.cons (t := 1) rfl .nil)))))
  refine Kn.no fh15 (.tmp rfl) ?_
  refine wp_skip ?_
  refine hK4 _ _ ?_
  clear hK4 K4
  replace fh15 := fh15.cut (.cons (t := 5) rfl (.cons (t := 4) rfl (.cons (t := 0) rfl (.cons (t := 1) rfl .nil))))
  refine wp_seq_k fun K6 hK6 => ?_
  refine Kn.still (by kernel_rfl) (by kernel_rfl) ?_
  refine Kn.spure fh15 rfl rfl .none (Kn.ex_move fh15 (.tmp rfl)) fun fa16 fh16 => ?_
  clear fh15 fa15
  refine Kn.spure fh16 rfl rfl .none (Kn.ex_nilCheck fh16 (.tmp rfl)) fun fa17 fh17 => ?_
  clear fh16 fa16
  refine Kn.sstep fh17 rfl rfl .none (Kn.ex_fieldAddr fh17 (.tmp rfl)) fun Ko hKo => ?_
  go_simp
  try go_bits
  refine hKo _ fun fa18 fh18 => ?_
  clear hKo Ko fh17 fa17
  refine Kn.sstep fh18 rfl rfl .none (Kn.ex_load fh18 (.tmp rfl)) fun Ko hKo => ?_
  go_simp
  try go_bits
  refine hKo _ fun fa19 fh19 => ?_
  clear hKo Ko fh18 fa18
  refine Kn.spure fh19 rfl rfl .none (Kn.ex_move fh19 (.tmp rfl)) fun fa20 fh20 => ?_
  clear fh19 fa19
  refine Kn.spure fh20 rfl rfl .none (Kn.ex_move fh20 (.tmp rfl)) fun fa21 fh21 => ?_
  clear fh20 fa20
  refine Kn.scall fh21 rfl rfl .none (Kn.ex_call fh21 (.cons (.tmp rfl) (.cons (.tmp rfl) .nil))) Tryd.call21 (HC1.out _ (hR.drewN 1)) fun fa22 fh22 => ?_
  clear fh21 fa21
  refine Kn.spure fh22 rfl rfl .none (Kn.ex_move fh22 (.tmp rfl)) fun fa23 fh23 => ?_
  clear fh22 fa22
  refine Kn.spure fh23 rfl rfl .none (Kn.ex_move fh23 (.tmp rfl)) fun fa24 fh24 => ?_
  clear fh23 fa23
  refine Kn.sstep fh24 rfl rfl .none (Kn.ex_bin fh24 (.tmp rfl) .const) fun Ko hKo => ?_
  go_simp
  try go_bits
  try rw [r1]
  refine hKo _ fun fa25 fh25 => ?_
  clear hKo Ko fh24 fa24
  refine Kn.scall fh25 rfl rfl .none (Kn.ex_call fh25 (.cons (.tmp rfl) (.cons (.tmp rfl) .nil))) Tryd.call21 (HC2.out _ (hR.drewN 1)) fun fa26 fh26 => ?_
  clear fh25 fa25
  refine Kn.sstep fh26 rfl rfl .none (Kn.ex_sliceLH fh26 (.tmp rfl) (.tmp rfl) (.tmp rfl)) fun Ko hKo => ?_
  rw [hsl]
  refine hKo _ fun fa27 fh27 => ?_
  clear hKo Ko fh26 fa26
  refine Kn.spure fh27 rfl rfl .none (Kn.ex_assign fh27 (.tmp rfl)) fun fa28 fh28 => ?_
  clear fh27 fa27
  refine Kn.spure fh28 rfl rfl .none (Kn.ex_assign fh28 .const) fun fa29 fh29 => ?_
  clear fh28 fa28
  refine wpStill_nil ?_
  refine hK6 _ _ ?_
  clear hK6 K6
  replace fh29 := fh29.cut (.cons (t := 5) rfl (.cons (t := 4) rfl .nil))
  refine wp_ret ?_
  exact Kn.ret2 fh29 rfl rfl rfl ⟨gt, o, cc, rfl, fun i hi => ⟨gt, o, rfl, World.block_lt_of_cell? _ _ (HT.out (b + i) (by rw [tgs_len]; have := HN.out; omega)).1, by
    have hi2 := hi
    have e := trg_at hR.srt (k : Int) i hi
    rw [HBe.out] at e
    have hz := (HT.out (b + i) (by rw [tgs_len]; have := HN.out; omega)).1
    rw [HO.out (by have := HN.out; omega), e]
    exact hz⟩, 1, rfl⟩

theorem row_bad (v : Int) (w : World) (B g N : Nat) (ys : List (Int × Int)) (hR : Rep w B g N ys) (hv : v < 0 ∨ (N : Int) ≤ v) : Calls Tryd.prog 29 #[.pointer (some ⟨g, 0, none⟩), .int .i64 v] w fun e w' => e = .returned (.tuple #[.slice none 0 0, errV 2]) ∧ w = w' := by
  by_cases h1 : v < 0
  · exact row_lo v h1 w B g N ys hR
  · exact row_hi v h1 w B g N ys hR (by omega)
theorem cloneI_any (b o c : Nat) (xs : List Int) (w : World) (hx : xs.length ≤ 20000) (hA : IIn w (some ⟨b, o, none⟩) xs) :
    Calls Tryd.prog 30 #[.slice (some ⟨b, o, none⟩) xs.length c] w fun e w' => ∃ A' n' c', e = .returned (.slice A' n' c') ∧ OwnI w' w.heap.size A' n' c' xs ∧ Below w.heap.size w w' := by
  refine (AnyG.slices_Clone_int Tryd.layCloneI b o xs.length c xs w (Nat.le_refl _) (by omega) (fun j hj => hA.cells hj)).mono fun e w' hp => ?_
  obtain ⟨v', he, ho, _, hb⟩ := hp
  rw [List.take_length] at ho
  have ho2 := ho
  obtain ⟨hl, hr⟩ := ho
  rcases hr with ⟨hv, hz⟩ | ⟨g', cap', cur, hv, _⟩
  · rw [hv] at he ho2
    have h0 : xs.length = 0 := by omega
    rw [h0] at ho2
    exact ⟨_, _, _, he, ⟨by omega, ho2⟩, hb⟩
  · rw [hv] at he ho2
    exact ⟨_, _, _, he, ⟨rfl, ho2⟩, hb⟩
theorem cloneI_nil (n c : Nat) (w : World) : Calls Tryd.prog 30 #[.slice none n c] w fun e w' => e = .returned (.slice none 0 0) ∧ w = w' :=
  (AnyG.slices_Clone_int_nil Tryd.layCloneI n c w).mono fun _ _ ⟨h1, h2⟩ => ⟨h1, h2.symm⟩
theorem searchI_any (b o c : Nat) (xs : List Int) (x : Int) (w : World) (hx : xs.length ≤ 20000) (hA : IIn w (some ⟨b, o, none⟩) xs) (hs : xs.Pairwise (· < ·)) :
    Calls Tryd.prog 31 #[.slice (some ⟨b, o, none⟩) xs.length c, .int .i64 x] w fun e w' => ∃ k, e = .returned (.tuple #[.int .i64 k, .bool (decide (x ∈ xs))]) ∧ ∃ q, w' = w.drewN q := by
  refine (AnyG.slices_BinarySearch_int Tryd.laySearchI b o xs.length c xs x w (Nat.le_refl _) (by omega) (fun j hj => hA.cells hj) (by rw [List.take_length]; exact List.Pairwise.imp (fun h => Int.le_of_lt h) hs)).mono fun e w' hp => ?_
  obtain ⟨he, hq⟩ := hp
  rw [List.take_length, List.contains_eq_mem] at he
  exact ⟨_, he, hq⟩

set_option maxRecDepth 100000 in
set_option maxHeartbeats 2000000 in
theorem targets_in (k : Nat) (w : World) (B g N : Nat) (ys : List (Int × Int)) (hR : Rep w B g N ys) (hv : k < N) :
    Calls Tryd.prog 15 #[.pointer (some ⟨g, 0, none⟩), .int .i64 (k : Int)] w fun e w' => ∃ A' n' c', e = .returned (.tuple #[.slice A' n' c', .nilIface]) ∧ OwnI w' w.heap.size A' n' c' (trg ys (k : Int)) ∧ Below w.heap.size w w' := by
  refine Kn.calls Tryd.func15 rfl Tryd.ntmps15 rfl (.cons (t := 0) rfl (.cons (t := 1) rfl .nil)) fun fa0 fh0 => ?_
  refine wp_seq_k fun K1 hK1 => ?_
  refine wp_region_lit ?_
  refine Kn.pure fh0 rfl rfl .none (Kn.ex_assign fh0 .const) fun fa1 fh1 => ?_
  clear fh0 fa0
  refine Kn.pure fh1 rfl rfl .none (Kn.ex_assign fh1 .const) fun fa2 fh2 => ?_
  clear fh1 fa1
  refine wpList_nil ?_
  refine hK1 _ _ ?_
  clear hK1 K1
  refine wp_seq_k fun K2 hK2 => ?_
  refine wp_region_lit ?_
  refine Kn.pure fh2 rfl rfl .none (Kn.ex_move fh2 (.tmp rfl)) fun fa3 fh3 => ?_
  clear fh2 fa2
  refine Kn.pure fh3 rfl rfl .none (Kn.ex_move fh3 (.tmp rfl)) fun fa4 fh4 => ?_
  clear fh3 fa3
  refine Kn.call fh4 rfl rfl .none (Kn.ex_call fh4 (.cons (.tmp rfl) (.cons (.tmp rfl) .nil))) Tryd.call29 (row_in k w B g N ys hR hv) fun e w1 hp => ?_
  obtain ⟨gt, o, c, rfl, hI, q, rfl⟩ := hp
  refine ⟨_, rfl, fun fa5 fh5 => ?_⟩
  clear fh4 fa4
  refine Kn.pure fh5 rfl rfl .none (Kn.ex_move fh5 (.tmp rfl)) fun fa6 fh6 => ?_
  clear fh5 fa5
  refine Kn.pure fh6 rfl rfl .none (Kn.ex_extract fh6 (.tmp rfl) rfl) fun fa7 fh7 => ?_
  clear fh6 fa6
  refine Kn.pure fh7 rfl rfl .none (Kn.ex_extract fh7 (.tmp rfl) rfl) fun fa8 fh8 => ?_
  clear fh7 fa7
  refine Kn.pure fh8 rfl rfl .none (Kn.ex_assign fh8 (.tmp rfl)) fun fa9 fh9 => ?_
  clear fh8 fa8
  refine Kn.pure fh9 rfl rfl .none (Kn.ex_assign fh9 (.tmp rfl)) fun fa10 fh10 => ?_
  clear fh9 fa9
  refine wpList_nil ?_
  refine hK2 _ _ ?_
  clear hK2 K2
  replace fh10 := fh10.cut (.cons (t := 7) rfl (.cons (t := 6) rfl (.cons (t := 5) rfl (.cons (t := 4) rfl .nil))))
  have hl := trg_len ys (k : Int)
  have hL := hR.len
  have hc := cloneI_any gt o c (trg ys (k : Int)) (w.drewN q) (by omega) hI
  generalize trg ys (k : Int) = ts at hc fh10 hI hl ⊢
  refine wp_seq_k fun K3 hK3 => ?_
  refine wp_region_lit ?_
  refine Kn.pure fh10 rfl rfl .none (Kn.ex_move fh10 (.tmp rfl)) fun fa11 fh11 => ?_
  clear fh10 fa10
  refine Kn.call fh11 rfl rfl .none (Kn.ex_call fh11 (.cons (.tmp rfl) .nil)) Tryd.call30 (hc) fun e w2 hp => ?_
  obtain ⟨A', n', c', rfl, hO, hb⟩ := hp
  refine ⟨_, rfl, fun fa12 fh12 => ?_⟩
  clear fh11 fa11
  refine Kn.pure fh12 rfl rfl .none (Kn.ex_move fh12 (.tmp rfl)) fun fa13 fh13 => ?_
  clear fh12 fa12
  refine Kn.pure fh13 rfl rfl .none (Kn.ex_assign fh13 (.tmp rfl)) fun fa14 fh14 => ?_
  clear fh13 fa13
  refine Kn.pure fh14 rfl rfl .none (Kn.ex_assign fh14 (.tmp rfl)) fun fa15 fh15 => ?_
  clear fh14 fa14
  refine wpList_nil ?_
  refine hK3 _ _ ?_
  clear hK3 K3
  replace fh15 := fh15.cut (.cons (t := 5) rfl (.cons (t := 4) rfl .nil))
  refine wp_ret ?_
  exact Kn.ret2 fh15 rfl rfl rfl ⟨A', n', c', rfl, hO, (below_of_drew ⟨q, rfl⟩).trans hb⟩

set_option maxRecDepth 100000 in
set_option maxHeartbeats 2000000 in
theorem targets_bad (v : Int) (w : World) (B g N : Nat) (ys : List (Int × Int)) (hR : Rep w B g N ys) (hv : v < 0 ∨ (N : Int) ≤ v) :
    Calls Tryd.prog 15 #[.pointer (some ⟨g, 0, none⟩), .int .i64 v] w fun e w' => e = .returned (.tuple #[.slice none 0 0, errV 2]) ∧ w = w' := by
  refine Kn.calls Tryd.func15 rfl Tryd.ntmps15 rfl (.cons (t := 0) rfl (.cons (t := 1) rfl .nil)) fun fa0 fh0 => ?_
  refine wp_seq_k fun K1 hK1 => ?_
  refine wp_region_lit ?_
  refine Kn.pure fh0 rfl rfl .none (Kn.ex_assign fh0 .const) fun fa1 fh1 => ?_
  clear fh0 fa0
  refine Kn.pure fh1 rfl rfl .none (Kn.ex_assign fh1 .const) fun fa2 fh2 => ?_
  clear fh1 fa1
  refine wpList_nil ?_
  refine hK1 _ _ ?_
  clear hK1 K1
  have hr := row_bad v w B g N ys hR hv
  unfold errV at hr
  refine wp_seq_k fun K2 hK2 => ?_
  refine wp_region_lit ?_
  refine Kn.pure fh2 rfl rfl .none (Kn.ex_move fh2 (.tmp rfl)) fun fa3 fh3 => ?_
  clear fh2 fa2
  refine Kn.pure fh3 rfl rfl .none (Kn.ex_move fh3 (.tmp rfl)) fun fa4 fh4 => ?_
  clear fh3 fa3
  refine Kn.call fh4 rfl rfl .none (Kn.ex_call fh4 (.cons (.tmp rfl) (.cons (.tmp rfl) .nil))) Tryd.call29 (hr) fun e w1 hp => ?_
  obtain ⟨rfl, rfl⟩ := hp
  refine ⟨_, rfl, fun fa5 fh5 => ?_⟩
  clear fh4 fa4
  refine Kn.pure fh5 rfl rfl .none (Kn.ex_move fh5 (.tmp rfl)) fun fa6 fh6 => ?_
  clear fh5 fa5
  refine Kn.pure fh6 rfl rfl .none (Kn.ex_extract fh6 (.tmp rfl) rfl) fun fa7 fh7 => ?_
  clear fh6 fa6
  refine Kn.pure fh7 rfl rfl .none (Kn.ex_extract fh7 (.tmp rfl) rfl) fun fa8 fh8 => ?_
  clear fh7 fa7
  refine Kn.pure fh8 rfl rfl .none (Kn.ex_assign fh8 (.tmp rfl)) fun fa9 fh9 => ?_
  clear fh8 fa8
  refine Kn.pure fh9 rfl rfl .none (Kn.ex_assign fh9 (.tmp rfl)) fun fa10 fh10 => ?_
  clear fh9 fa9
  refine wpList_nil ?_
  refine hK2 _ _ ?_
  clear hK2 K2
  replace fh10 := fh10.cut (.cons (t := 7) rfl (.cons (t := 6) rfl (.cons (t := 5) rfl (.cons (t := 4) rfl .nil))))
  refine wp_seq_k fun K3 hK3 => ?_
  refine wp_region_lit ?_
  refine Kn.pure fh10 rfl rfl .none (Kn.ex_move fh10 (.tmp rfl)) fun fa11 fh11 => ?_
  clear fh10 fa10
  refine Kn.call fh11 rfl rfl .none (Kn.ex_call fh11 (.cons (.tmp rfl) .nil)) Tryd.call30 (cloneI_nil 0 0 w) fun e w2 hp => ?_
  obtain ⟨rfl, rfl⟩ := hp
  refine ⟨_, rfl, fun fa12 fh12 => ?_⟩
  clear fh11 fa11
  refine Kn.pure fh12 rfl rfl .none (Kn.ex_move fh12 (.tmp rfl)) fun fa13 fh13 => ?_
  clear fh12 fa12
  refine Kn.pure fh13 rfl rfl .none (Kn.ex_assign fh13 (.tmp rfl)) fun fa14 fh14 => ?_
  clear fh13 fa13
  refine Kn.pure fh14 rfl rfl .none (Kn.ex_assign fh14 (.tmp rfl)) fun fa15 fh15 => ?_
  clear fh14 fa14
  refine wpList_nil ?_
  refine hK3 _ _ ?_
  clear hK3 K3
  replace fh15 := fh15.cut (.cons (t := 5) rfl (.cons (t := 4) rfl .nil))
  refine wp_ret ?_
  exact Kn.ret2 fh15 rfl rfl rfl ⟨rfl, rfl⟩

set_option maxRecDepth 100000 in
set_option maxHeartbeats 2000000 in
theorem targets_nil (v : Int) (w : World) :
    Calls Tryd.prog 15 #[.pointer none, .int .i64 v] w fun e w' => e = .returned (.tuple #[.slice none 0 0, errV 1]) ∧ w = w' := by
  refine Kn.calls Tryd.func15 rfl Tryd.ntmps15 rfl (.cons (t := 0) rfl (.cons (t := 1) rfl .nil)) fun fa0 fh0 => ?_
  refine wp_seq_k fun K1 hK1 => ?_
  refine wp_region_lit ?_
  refine Kn.pure fh0 rfl rfl .none (Kn.ex_assign fh0 .const) fun fa1 fh1 => ?_
  clear fh0 fa0
  refine Kn.pure fh1 rfl rfl .none (Kn.ex_assign fh1 .const) fun fa2 fh2 => ?_
  clear fh1 fa1
  refine wpList_nil ?_
  refine hK1 _ _ ?_
  clear hK1 K1
  have hr := row_nil v w
  unfold errV at hr
  refine wp_seq_k fun K2 hK2 => ?_
  refine wp_region_lit ?_
  refine Kn.pure fh2 rfl rfl .none (Kn.ex_move fh2 (.tmp rfl)) fun fa3 fh3 => ?_
  clear fh2 fa2
  refine Kn.pure fh3 rfl rfl .none (Kn.ex_move fh3 (.tmp rfl)) fun fa4 fh4 => ?_
  clear fh3 fa3
  refine Kn.call fh4 rfl rfl .none (Kn.ex_call fh4 (.cons (.tmp rfl) (.cons (.tmp rfl) .nil))) Tryd.call29 (hr) fun e w1 hp => ?_
  obtain ⟨rfl, rfl⟩ := hp
  refine ⟨_, rfl, fun fa5 fh5 => ?_⟩
  clear fh4 fa4
  refine Kn.pure fh5 rfl rfl .none (Kn.ex_move fh5 (.tmp rfl)) fun fa6 fh6 => ?_
  clear fh5 fa5
  refine Kn.pure fh6 rfl rfl .none (Kn.ex_extract fh6 (.tmp rfl) rfl) fun fa7 fh7 => ?_
  clear fh6 fa6
  refine Kn.pure fh7 rfl rfl .none (Kn.ex_extract fh7 (.tmp rfl) rfl) fun fa8 fh8 => ?_
  clear fh7 fa7
  refine Kn.pure fh8 rfl rfl .none (Kn.ex_assign fh8 (.tmp rfl)) fun fa9 fh9 => ?_
  clear fh8 fa8
  refine Kn.pure fh9 rfl rfl .none (Kn.ex_assign fh9 (.tmp rfl)) fun fa10 fh10 => ?_
  clear fh9 fa9
  refine wpList_nil ?_
  refine hK2 _ _ ?_
  clear hK2 K2
  replace fh10 := fh10.cut (.cons (t := 7) rfl (.cons (t := 6) rfl (.cons (t := 5) rfl (.cons (t := 4) rfl .nil))))
  refine wp_seq_k fun K3 hK3 => ?_
  refine wp_region_lit ?_
  refine Kn.pure fh10 rfl rfl .none (Kn.ex_move fh10 (.tmp rfl)) fun fa11 fh11 => ?_
  clear fh10 fa10
  refine Kn.call fh11 rfl rfl .none (Kn.ex_call fh11 (.cons (.tmp rfl) .nil)) Tryd.call30 (cloneI_nil 0 0 w) fun e w2 hp => ?_
  obtain ⟨rfl, rfl⟩ := hp
  refine ⟨_, rfl, fun fa12 fh12 => ?_⟩
  clear fh11 fa11
  refine Kn.pure fh12 rfl rfl .none (Kn.ex_move fh12 (.tmp rfl)) fun fa13 fh13 => ?_
  clear fh12 fa12
  refine Kn.pure fh13 rfl rfl .none (Kn.ex_assign fh13 (.tmp rfl)) fun fa14 fh14 => ?_
  clear fh13 fa13
  refine Kn.pure fh14 rfl rfl .none (Kn.ex_assign fh14 (.tmp rfl)) fun fa15 fh15 => ?_
  clear fh14 fa14
  refine wpList_nil ?_
  refine hK3 _ _ ?_
  clear hK3 K3
  replace fh15 := fh15.cut (.cons (t := 5) rfl (.cons (t := 4) rfl .nil))
  refine wp_ret ?_
  exact Kn.ret2 fh15 rfl rfl rfl ⟨rfl, rfl⟩

set_option maxRecDepth 100000 in
set_option maxHeartbeats 2000000 in
theorem degree_bad (v : Int) (w : World) (B g N : Nat) (ys : List (Int × Int)) (hR : Rep w B g N ys) (hv : v < 0 ∨ (N : Int) ≤ v) :
    Calls Tryd.prog 16 #[.pointer (some ⟨g, 0, none⟩), .int .i64 v] w fun e w' => e = .returned (.tuple #[.int .i64 0, errV 2]) ∧ w = w' := by
  refine Kn.calls Tryd.func16 rfl Tryd.ntmps16 rfl (.cons (t := 0) rfl (.cons (t := 1) rfl .nil)) fun fa0 fh0 => ?_
  refine wp_seq_k fun K1 hK1 => ?_
  refine wp_region_lit ?_
  refine Kn.pure fh0 rfl rfl .none (Kn.ex_assign fh0 .const) fun fa1 fh1 => ?_
  clear fh0 fa0
  refine Kn.pure fh1 rfl rfl .none (Kn.ex_assign fh1 .const) fun fa2 fh2 => ?_
  clear fh1 fa1
  refine wpList_nil ?_
  refine hK1 _ _ ?_
  clear hK1 K1
  have hr := row_bad v w B g N ys hR hv
  unfold errV at hr
  refine wp_seq_k fun K2 hK2 => ?_
  refine wp_region_lit ?_
  refine Kn.pure fh2 rfl rfl .none (Kn.ex_move fh2 (.tmp rfl)) fun fa3 fh3 => ?_
  clear fh2 fa2
  refine Kn.pure fh3 rfl rfl .none (Kn.ex_move fh3 (.tmp rfl)) fun fa4 fh4 => ?_
  clear fh3 fa3
  refine Kn.call fh4 rfl rfl .none (Kn.ex_call fh4 (.cons (.tmp rfl) (.cons (.tmp rfl) .nil))) Tryd.call29 (hr) fun e w1 hp => ?_
  obtain ⟨rfl, rfl⟩ := hp
  refine ⟨_, rfl, fun fa5 fh5 => ?_⟩
  clear fh4 fa4
  refine Kn.pure fh5 rfl rfl .none (Kn.ex_move fh5 (.tmp rfl)) fun fa6 fh6 => ?_
  clear fh5 fa5
  refine Kn.pure fh6 rfl rfl .none (Kn.ex_extract fh6 (.tmp rfl) rfl) fun fa7 fh7 => ?_
  clear fh6 fa6
  refine Kn.pure fh7 rfl rfl .none (Kn.ex_extract fh7 (.tmp rfl) rfl) fun fa8 fh8 => ?_
  clear fh7 fa7
  refine Kn.pure fh8 rfl rfl .none (Kn.ex_assign fh8 (.tmp rfl)) fun fa9 fh9 => ?_
  clear fh8 fa8
  refine Kn.pure fh9 rfl rfl .none (Kn.ex_assign fh9 (.tmp rfl)) fun fa10 fh10 => ?_
  clear fh9 fa9
  refine wpList_nil ?_
  refine hK2 _ _ ?_
  clear hK2 K2
  replace fh10 := fh10.cut (.cons (t := 7) rfl (.cons (t := 6) rfl (.cons (t := 5) rfl (.cons (t := 4) rfl .nil))))
  refine wp_seq_k fun K3 hK3 => ?_
  refine wp_region_lit ?_
  refine Kn.pure fh10 rfl rfl .none (Kn.ex_move fh10 (.tmp rfl)) fun fa11 fh11 => ?_
  clear fh10 fa10
  refine Kn.step fh11 rfl rfl .none (Kn.ex_len fh11 (.tmp rfl)) fun Ko hKo => ?_
  go_simp
  try go_bits
  refine hKo _ _ fun fa12 fh12 => ?_
  clear hKo Ko fh11 fa11
  refine Kn.pure fh12 rfl rfl .none (Kn.ex_move fh12 (.tmp rfl)) fun fa13 fh13 => ?_
  clear fh12 fa12
  refine Kn.pure fh13 rfl rfl .none (Kn.ex_assign fh13 (.tmp rfl)) fun fa14 fh14 => ?_
  clear fh13 fa13
  refine Kn.pure fh14 rfl rfl .none (Kn.ex_assign fh14 (.tmp rfl)) fun fa15 fh15 => ?_
  clear fh14 fa14
  refine wpList_nil ?_
  refine hK3 _ _ ?_
  clear hK3 K3
  replace fh15 := fh15.cut (.cons (t := 5) rfl (.cons (t := 4) rfl .nil))
  refine wp_ret ?_
  exact Kn.ret2 fh15 rfl rfl rfl ⟨rfl, rfl⟩

set_option maxRecDepth 100000 in
set_option maxHeartbeats 2000000 in
theorem degree_nil (v : Int) (w : World) :
    Calls Tryd.prog 16 #[.pointer none, .int .i64 v] w fun e w' => e = .returned (.tuple #[.int .i64 0, errV 1]) ∧ w = w' := by
  refine Kn.calls Tryd.func16 rfl Tryd.ntmps16 rfl (.cons (t := 0) rfl (.cons (t := 1) rfl .nil)) fun fa0 fh0 => ?_
  refine wp_seq_k fun K1 hK1 => ?_
  refine wp_region_lit ?_
  refine Kn.pure fh0 rfl rfl .none (Kn.ex_assign fh0 .const) fun fa1 fh1 => ?_
  clear fh0 fa0
  refine Kn.pure fh1 rfl rfl .none (Kn.ex_assign fh1 .const) fun fa2 fh2 => ?_
  clear fh1 fa1
  refine wpList_nil ?_
  refine hK1 _ _ ?_
  clear hK1 K1
  have hr := row_nil v w
  unfold errV at hr
  refine wp_seq_k fun K2 hK2 => ?_
  refine wp_region_lit ?_
  refine Kn.pure fh2 rfl rfl .none (Kn.ex_move fh2 (.tmp rfl)) fun fa3 fh3 => ?_
  clear fh2 fa2
  refine Kn.pure fh3 rfl rfl .none (Kn.ex_move fh3 (.tmp rfl)) fun fa4 fh4 => ?_
  clear fh3 fa3
  refine Kn.call fh4 rfl rfl .none (Kn.ex_call fh4 (.cons (.tmp rfl) (.cons (.tmp rfl) .nil))) Tryd.call29 (hr) fun e w1 hp => ?_
  obtain ⟨rfl, rfl⟩ := hp
  refine ⟨_, rfl, fun fa5 fh5 => ?_⟩
  clear fh4 fa4
  refine Kn.pure fh5 rfl rfl .none (Kn.ex_move fh5 (.tmp rfl)) fun fa6 fh6 => ?_
  clear fh5 fa5
  refine Kn.pure fh6 rfl rfl .none (Kn.ex_extract fh6 (.tmp rfl) rfl) fun fa7 fh7 => ?_
  clear fh6 fa6
  refine Kn.pure fh7 rfl rfl .none (Kn.ex_extract fh7 (.tmp rfl) rfl) fun fa8 fh8 => ?_
  clear fh7 fa7
  refine Kn.pure fh8 rfl rfl .none (Kn.ex_assign fh8 (.tmp rfl)) fun fa9 fh9 => ?_
  clear fh8 fa8
  refine Kn.pure fh9 rfl rfl .none (Kn.ex_assign fh9 (.tmp rfl)) fun fa10 fh10 => ?_
  clear fh9 fa9
  refine wpList_nil ?_
  refine hK2 _ _ ?_
  clear hK2 K2
  replace fh10 := fh10.cut (.cons (t := 7) rfl (.cons (t := 6) rfl (.cons (t := 5) rfl (.cons (t := 4) rfl .nil))))
  refine wp_seq_k fun K3 hK3 => ?_
  refine wp_region_lit ?_
  refine Kn.pure fh10 rfl rfl .none (Kn.ex_move fh10 (.tmp rfl)) fun fa11 fh11 => ?_
  clear fh10 fa10
  refine Kn.step fh11 rfl rfl .none (Kn.ex_len fh11 (.tmp rfl)) fun Ko hKo => ?_
  go_simp
  try go_bits
  refine hKo _ _ fun fa12 fh12 => ?_
  clear hKo Ko fh11 fa11
  refine Kn.pure fh12 rfl rfl .none (Kn.ex_move fh12 (.tmp rfl)) fun fa13 fh13 => ?_
  clear fh12 fa12
  refine Kn.pure fh13 rfl rfl .none (Kn.ex_assign fh13 (.tmp rfl)) fun fa14 fh14 => ?_
  clear fh13 fa13
  refine Kn.pure fh14 rfl rfl .none (Kn.ex_assign fh14 (.tmp rfl)) fun fa15 fh15 => ?_
  clear fh14 fa14
  refine wpList_nil ?_
  refine hK3 _ _ ?_
  clear hK3 K3
  replace fh15 := fh15.cut (.cons (t := 5) rfl (.cons (t := 4) rfl .nil))
  refine wp_ret ?_
  exact Kn.ret2 fh15 rfl rfl rfl ⟨rfl, rfl⟩

set_option maxRecDepth 100000 in
set_option maxHeartbeats 2000000 in
theorem degree_in (k : Nat) (w : World) (B g N : Nat) (ys : List (Int × Int)) (hR : Rep w B g N ys) (hv : k < N) :
    Calls Tryd.prog 16 #[.pointer (some ⟨g, 0, none⟩), .int .i64 (k : Int)] w fun e w' => e = .returned (.tuple #[.int .i64 ((trg ys (k : Int)).length : Int), .nilIface]) ∧ ∃ q, w' = w.drewN q := by
  refine Kn.calls Tryd.func16 rfl Tryd.ntmps16 rfl (.cons (t := 0) rfl (.cons (t := 1) rfl .nil)) fun fa0 fh0 => ?_
  refine wp_seq_k fun K1 hK1 => ?_
  refine wp_region_lit ?_
  refine Kn.pure fh0 rfl rfl .none (Kn.ex_assign fh0 .const) fun fa1 fh1 => ?_
  clear fh0 fa0
  refine Kn.pure fh1 rfl rfl .none (Kn.ex_assign fh1 .const) fun fa2 fh2 => ?_
  clear fh1 fa1
  refine wpList_nil ?_
  refine hK1 _ _ ?_
  clear hK1 K1
  have hl := trg_len ys (k : Int)
  have hL := hR.len
  have hr := row_in k w B g N ys hR hv
  generalize trg ys (k : Int) = ts at hr hl ⊢
  have hl2 : ts.length ≤ 20000 := by omega
  clear hl
  refine wp_seq_k fun K2 hK2 => ?_
  refine wp_region_lit ?_
  refine Kn.pure fh2 rfl rfl .none (Kn.ex_move fh2 (.tmp rfl)) fun fa3 fh3 => ?_
  clear fh2 fa2
  refine Kn.pure fh3 rfl rfl .none (Kn.ex_move fh3 (.tmp rfl)) fun fa4 fh4 => ?_
  clear fh3 fa3
  refine Kn.call fh4 rfl rfl .none (Kn.ex_call fh4 (.cons (.tmp rfl) (.cons (.tmp rfl) .nil))) Tryd.call29 (hr) fun e w1 hp => ?_
  obtain ⟨gt, o, c, rfl, hI, q, rfl⟩ := hp
  refine ⟨_, rfl, fun fa5 fh5 => ?_⟩
  clear fh4 fa4
  refine Kn.pure fh5 rfl rfl .none (Kn.ex_move fh5 (.tmp rfl)) fun fa6 fh6 => ?_
  clear fh5 fa5
  refine Kn.pure fh6 rfl rfl .none (Kn.ex_extract fh6 (.tmp rfl) rfl) fun fa7 fh7 => ?_
  clear fh6 fa6
  refine Kn.pure fh7 rfl rfl .none (Kn.ex_extract fh7 (.tmp rfl) rfl) fun fa8 fh8 => ?_
  clear fh7 fa7
  refine Kn.pure fh8 rfl rfl .none (Kn.ex_assign fh8 (.tmp rfl)) fun fa9 fh9 => ?_
  clear fh8 fa8
  refine Kn.pure fh9 rfl rfl .none (Kn.ex_assign fh9 (.tmp rfl)) fun fa10 fh10 => ?_
  clear fh9 fa9
  refine wpList_nil ?_
  refine hK2 _ _ ?_
  clear hK2 K2
  replace fh10 := fh10.cut (.cons (t := 7) rfl (.cons (t := 6) rfl (.cons (t := 5) rfl (.cons (t := 4) rfl .nil))))
  refine wp_seq_k fun K3 hK3 => ?_
  refine wp_region_lit ?_
  refine Kn.pure fh10 rfl rfl .none (Kn.ex_move fh10 (.tmp rfl)) fun fa11 fh11 => ?_
  clear fh10 fa10
  refine Kn.step fh11 rfl rfl .none (Kn.ex_len fh11 (.tmp rfl)) fun Ko hKo => ?_
  go_simp
  try go_bits
  refine hKo _ _ fun fa12 fh12 => ?_
  clear hKo Ko fh11 fa11
  refine Kn.pure fh12 rfl rfl .none (Kn.ex_move fh12 (.tmp rfl)) fun fa13 fh13 => ?_
  clear fh12 fa12
  refine Kn.pure fh13 rfl rfl .none (Kn.ex_assign fh13 (.tmp rfl)) fun fa14 fh14 => ?_
  clear fh13 fa13
  refine Kn.pure fh14 rfl rfl .none (Kn.ex_assign fh14 (.tmp rfl)) fun fa15 fh15 => ?_
  clear fh14 fa14
  refine wpList_nil ?_
  refine hK3 _ _ ?_
  clear hK3 K3
  replace fh15 := fh15.cut (.cons (t := 5) rfl (.cons (t := 4) rfl .nil))
  refine wp_ret ?_
  exact Kn.ret2 fh15 rfl rfl rfl ⟨rfl, q, rfl⟩

set_option maxRecDepth 100000 in
set_option maxHeartbeats 2000000 in
theorem has_bad (v t : Int) (w : World) (B g N : Nat) (ys : List (Int × Int)) (hR : Rep w B g N ys) (hv : v < 0 ∨ (N : Int) ≤ v) :
    Calls Tryd.prog 17 #[.pointer (some ⟨g, 0, none⟩), .int .i64 v, .int .i64 t] w fun e w' => e = .returned (.bool false) ∧ w = w' := by
  refine Kn.calls Tryd.func17 rfl Tryd.ntmps17 rfl (.cons (t := 0) rfl (.cons (t := 1) rfl (.cons (t := 2) rfl .nil))) fun fa0 fh0 => ?_
  refine wp_seq_k fun K1 hK1 => ?_
  refine wp_region_lit ?_
  refine Kn.pure fh0 rfl rfl .none (Kn.ex_assign fh0 .const) fun fa1 fh1 => ?_
  clear fh0 fa0
  refine wpList_nil ?_
  refine hK1 _ _ ?_
  clear hK1 K1
  have hr := row_bad v w B g N ys hR hv
  unfold errV at hr
  refine wp_seq_k fun K2 hK2 => ?_
  refine wp_region_lit ?_
  refine Kn.pure fh1 rfl rfl .none (Kn.ex_move fh1 (.tmp rfl)) fun fa2 fh2 => ?_
  clear fh1 fa1
  refine Kn.pure fh2 rfl rfl .none (Kn.ex_move fh2 (.tmp rfl)) fun fa3 fh3 => ?_
  clear fh2 fa2
  refine Kn.call fh3 rfl rfl .none (Kn.ex_call fh3 (.cons (.tmp rfl) (.cons (.tmp rfl) .nil))) Tryd.call29 (hr) fun e w1 hp => ?_
  obtain ⟨rfl, rfl⟩ := hp
  refine ⟨_, rfl, fun fa4 fh4 => ?_⟩
  clear fh3 fa3
  refine Kn.pure fh4 rfl rfl .none (Kn.ex_move fh4 (.tmp rfl)) fun fa5 fh5 => ?_
  clear fh4 fa4
  refine Kn.pure fh5 rfl rfl .none (Kn.ex_extract fh5 (.tmp rfl) rfl) fun fa6 fh6 => ?_
  clear fh5 fa5
  refine Kn.pure fh6 rfl rfl .none (Kn.ex_extract fh6 (.tmp rfl) rfl) fun fa7 fh7 => ?_
  clear fh6 fa6
  refine Kn.pure fh7 rfl rfl .none (Kn.ex_assign fh7 (.tmp rfl)) fun fa8 fh8 => ?_
  clear fh7 fa7
  refine Kn.pure fh8 rfl rfl .none (Kn.ex_assign fh8 (.tmp rfl)) fun fa9 fh9 => ?_
  clear fh8 fa8
  refine wpList_nil ?_
  refine hK2 _ _ ?_
  clear hK2 K2
  replace fh9 := fh9.cut (.cons (t := 8) rfl (.cons (t := 7) rfl (.cons (t := 6) rfl (.cons (t := 2) rfl .nil))))
  refine wp_seq_k fun K3 hK3 => ?_
  refine wp_seq_k fun K4 hK4 => ?_
  refine wp_region_lit ?_
  refine Kn.pure fh9 rfl rfl .none (Kn.ex_move fh9 (.tmp rfl)) fun fa10 fh10 => ?_
  clear fh9 fa9
  refine Kn.step fh10 rfl rfl .none (Kn.ex_bin fh10 (.tmp rfl) .const) fun Ko hKo => ?_
  go_simp
  try go_bits
  refine hKo _ _ fun fa11 fh11 => ?_
  clear hKo Ko fh10 fa10
  refine wpList_nil ?_
  refine hK4 _ _ ?_
  clear hK4 K4
  replace fh11 := fh11.cut (.cons (t := 18) rfl (.cons (t := 7) rfl (.cons (t := 6) rfl (.cons (t := 2) rfl .nil))))
  refine Kn.yes fh11 (.tmp rfl) ?_
  replace fh11 := fh11.cut (.cons (t := 7) rfl (.cons (t := 6) rfl (.cons (t := 2) rfl .nil)))
  refine wp_seq_k fun K5 hK5 => ?_
  refine wp_region_lit ?_
  refine Kn.pure fh11 rfl rfl .none (Kn.ex_assign fh11 .const) fun fa12 fh12 => ?_
  clear fh11 fa11
  refine wpList_nil ?_
  refine hK5 _ _ ?_
  clear hK5 K5
  refine wp_ret ?_
  refine Kn.then_ret ?_
  exact Kn.ret1 fh12 rfl rfl ⟨rfl, rfl⟩

set_option maxRecDepth 100000 in
set_option maxHeartbeats 2000000 in
theorem has_nil (v t : Int) (w : World) :
    Calls Tryd.prog 17 #[.pointer none, .int .i64 v, .int .i64 t] w fun e w' => e = .returned (.bool false) ∧ w = w' := by
  refine Kn.calls Tryd.func17 rfl Tryd.ntmps17 rfl (.cons (t := 0) rfl (.cons (t := 1) rfl (.cons (t := 2) rfl .nil))) fun fa0 fh0 => ?_
  refine wp_seq_k fun K1 hK1 => ?_
  refine wp_region_lit ?_
  refine Kn.pure fh0 rfl rfl .none (Kn.ex_assign fh0 .const) fun fa1 fh1 => ?_
  clear fh0 fa0
  refine wpList_nil ?_
  refine hK1 _ _ ?_
  clear hK1 K1
  have hr := row_nil v w
  unfold errV at hr
  refine wp_seq_k fun K2 hK2 => ?_
  refine wp_region_lit ?_
  refine Kn.pure fh1 rfl rfl .none (Kn.ex_move fh1 (.tmp rfl)) fun fa2 fh2 => ?_
  clear fh1 fa1
  refine Kn.pure fh2 rfl rfl .none (Kn.ex_move fh2 (.tmp rfl)) fun fa3 fh3 => ?_
  clear fh2 fa2
  refine Kn.call fh3 rfl rfl .none (Kn.ex_call fh3 (.cons (.tmp rfl) (.cons (.tmp rfl) .nil))) Tryd.call29 (hr) fun e w1 hp => ?_
  obtain ⟨rfl, rfl⟩ := hp
  refine ⟨_, rfl, fun fa4 fh4 => ?_⟩
  clear fh3 fa3
  refine Kn.pure fh4 rfl rfl .none (Kn.ex_move fh4 (.tmp rfl)) fun fa5 fh5 => ?_
  clear fh4 fa4
  refine Kn.pure fh5 rfl rfl .none (Kn.ex_extract fh5 (.tmp rfl) rfl) fun fa6 fh6 => ?_
  clear fh5 fa5
  refine Kn.pure fh6 rfl rfl .none (Kn.ex_extract fh6 (.tmp rfl) rfl) fun fa7 fh7 => ?_
  clear fh6 fa6
  refine Kn.pure fh7 rfl rfl .none (Kn.ex_assign fh7 (.tmp rfl)) fun fa8 fh8 => ?_
  clear fh7 fa7
  refine Kn.pure fh8 rfl rfl .none (Kn.ex_assign fh8 (.tmp rfl)) fun fa9 fh9 => ?_
  clear fh8 fa8
  refine wpList_nil ?_
  refine hK2 _ _ ?_
  clear hK2 K2
  replace fh9 := fh9.cut (.cons (t := 8) rfl (.cons (t := 7) rfl (.cons (t := 6) rfl (.cons (t := 2) rfl .nil))))
  refine wp_seq_k fun K3 hK3 => ?_
  refine wp_seq_k fun K4 hK4 => ?_
  refine wp_region_lit ?_
  refine Kn.pure fh9 rfl rfl .none (Kn.ex_move fh9 (.tmp rfl)) fun fa10 fh10 => ?_
  clear fh9 fa9
  refine Kn.step fh10 rfl rfl .none (Kn.ex_bin fh10 (.tmp rfl) .const) fun Ko hKo => ?_
  go_simp
  try go_bits
  refine hKo _ _ fun fa11 fh11 => ?_
  clear hKo Ko fh10 fa10
  refine wpList_nil ?_
  refine hK4 _ _ ?_
  clear hK4 K4
  replace fh11 := fh11.cut (.cons (t := 18) rfl (.cons (t := 7) rfl (.cons (t := 6) rfl (.cons (t := 2) rfl .nil))))
  refine Kn.yes fh11 (.tmp rfl) ?_
  replace fh11 := fh11.cut (.cons (t := 7) rfl (.cons (t := 6) rfl (.cons (t := 2) rfl .nil)))
  refine wp_seq_k fun K5 hK5 => ?_
  refine wp_region_lit ?_
  refine Kn.pure fh11 rfl rfl .none (Kn.ex_assign fh11 .const) fun fa12 fh12 => ?_
  clear fh11 fa11
  refine wpList_nil ?_
  refine hK5 _ _ ?_
  clear hK5 K5
  refine wp_ret ?_
  refine Kn.then_ret ?_
  exact Kn.ret1 fh12 rfl rfl ⟨rfl, rfl⟩

set_option maxRecDepth 100000 in
set_option maxHeartbeats 2000000 in
theorem has_in (k : Nat) (t : Int) (w : World) (B g N : Nat) (ys : List (Int × Int)) (hR : Rep w B g N ys) (hv : k < N) :
    Calls Tryd.prog 17 #[.pointer (some ⟨g, 0, none⟩), .int .i64 (k : Int), .int .i64 t] w fun e w' => e = .returned (.bool (decide (t ∈ trg ys (k : Int)))) ∧ ∃ q, w' = w.drewN q := by
  refine Kn.calls Tryd.func17 rfl Tryd.ntmps17 rfl (.cons (t := 0) rfl (.cons (t := 1) rfl (.cons (t := 2) rfl .nil))) fun fa0 fh0 => ?_
  refine wp_seq_k fun K1 hK1 => ?_
  refine wp_region_lit ?_
  refine Kn.pure fh0 rfl rfl .none (Kn.ex_assign fh0 .const) fun fa1 fh1 => ?_
  clear fh0 fa0
  refine wpList_nil ?_
  refine hK1 _ _ ?_
  clear hK1 K1
  have hl := trg_len ys (k : Int)
  have hL := hR.len
  have hr := row_in k w B g N ys hR hv
  have hu := trg_up hR.srt (k : Int)
  generalize trg ys (k : Int) = ts at hr hl hu ⊢
  have hl2 : ts.length ≤ 20000 := by omega
  clear hl
  refine wp_seq_k fun K2 hK2 => ?_
  refine wp_region_lit ?_
  refine Kn.pure fh1 rfl rfl .none (Kn.ex_move fh1 (.tmp rfl)) fun fa2 fh2 => ?_
  clear fh1 fa1
  refine Kn.pure fh2 rfl rfl .none (Kn.ex_move fh2 (.tmp rfl)) fun fa3 fh3 => ?_
  clear fh2 fa2
  refine Kn.call fh3 rfl rfl .none (Kn.ex_call fh3 (.cons (.tmp rfl) (.cons (.tmp rfl) .nil))) Tryd.call29 (hr) fun e w1 hp => ?_
  obtain ⟨gt, o, c, rfl, hI, q, rfl⟩ := hp
  refine ⟨_, rfl, fun fa4 fh4 => ?_⟩
  clear fh3 fa3
  refine Kn.pure fh4 rfl rfl .none (Kn.ex_move fh4 (.tmp rfl)) fun fa5 fh5 => ?_
  clear fh4 fa4
  refine Kn.pure fh5 rfl rfl .none (Kn.ex_extract fh5 (.tmp rfl) rfl) fun fa6 fh6 => ?_
  clear fh5 fa5
  refine Kn.pure fh6 rfl rfl .none (Kn.ex_extract fh6 (.tmp rfl) rfl) fun fa7 fh7 => ?_
  clear fh6 fa6
  refine Kn.pure fh7 rfl rfl .none (Kn.ex_assign fh7 (.tmp rfl)) fun fa8 fh8 => ?_
  clear fh7 fa7
  refine Kn.pure fh8 rfl rfl .none (Kn.ex_assign fh8 (.tmp rfl)) fun fa9 fh9 => ?_
  clear fh8 fa8
  refine wpList_nil ?_
  refine hK2 _ _ ?_
  clear hK2 K2
  replace fh9 := fh9.cut (.cons (t := 8) rfl (.cons (t := 7) rfl (.cons (t := 6) rfl (.cons (t := 2) rfl .nil))))
  refine wp_seq_k fun K3 hK3 => ?_
  refine wp_seq_k fun K4 hK4 => ?_
  refine wp_region_lit ?_
  refine Kn.pure fh9 rfl rfl .none (Kn.ex_move fh9 (.tmp rfl)) fun fa10 fh10 => ?_
  clear fh9 fa9
  refine Kn.step fh10 rfl rfl .none (Kn.ex_bin fh10 (.tmp rfl) .const) fun Ko hKo => ?_
  go_simp
  try go_bits
  refine hKo _ _ fun fa11 fh11 => ?_
  clear hKo Ko fh10 fa10
  refine wpList_nil ?_
  refine hK4 _ _ ?_
  clear hK4 K4
  replace fh11 := fh11.cut (.cons (t := 18) rfl (.cons (t := 7) rfl (.cons (t := 6) rfl (.cons (t := 2) rfl .nil))))
  refine Kn.no fh11 (.tmp rfl) ?_
  refine wp_skip ?_
  refine hK3 _ _ ?_
  clear hK3 K3
  replace fh11 := fh11.cut (.cons (t := 7) rfl (.cons (t := 6) rfl (.cons (t := 2) rfl .nil)))
  have hs := searchI_any gt o c ts t (w.drewN q) (by omega) hI hu
  generalize decide (t ∈ ts) = bb at hs ⊢
  refine wp_seq_k fun K5 hK5 => ?_
  refine wp_region_lit ?_
  refine Kn.pure fh11 rfl rfl .none (Kn.ex_move fh11 (.tmp rfl)) fun fa12 fh12 => ?_
  clear fh11 fa11
  refine Kn.pure fh12 rfl rfl .none (Kn.ex_move fh12 (.tmp rfl)) fun fa13 fh13 => ?_
  clear fh12 fa12
  refine Kn.call fh13 rfl rfl .none (Kn.ex_call fh13 (.cons (.tmp rfl) (.cons (.tmp rfl) .nil))) Tryd.call31 (hs) fun e w2 hp => ?_
  obtain ⟨kk, rfl, q2, rfl⟩ := hp
  refine ⟨_, rfl, fun fa14 fh14 => ?_⟩
  clear fh13 fa13
  refine Kn.pure fh14 rfl rfl .none (Kn.ex_move fh14 (.tmp rfl)) fun fa15 fh15 => ?_
  clear fh14 fa14
  refine Kn.pure fh15 rfl rfl .none (Kn.ex_extract fh15 (.tmp rfl) rfl) fun fa16 fh16 => ?_
  clear fh15 fa15
  refine Kn.pure fh16 rfl rfl .none (Kn.ex_extract fh16 (.tmp rfl) rfl) fun fa17 fh17 => ?_
  clear fh16 fa16
  refine Kn.pure fh17 rfl rfl .none (Kn.ex_assign fh17 (.tmp rfl)) fun fa18 fh18 => ?_
  clear fh17 fa17
  refine Kn.pure fh18 rfl rfl .none (Kn.ex_assign fh18 (.tmp rfl)) fun fa19 fh19 => ?_
  clear fh18 fa18
  refine wpList_nil ?_
  refine hK5 _ _ ?_
  clear hK5 K5
  replace fh19 := fh19.cut (.cons (t := 10) rfl (.cons (t := 6) rfl .nil))
  refine wp_seq_k fun K6 hK6 => ?_
  refine wp_region_lit ?_
  refine Kn.pure fh19 rfl rfl .none (Kn.ex_move fh19 (.tmp rfl)) fun fa20 fh20 => ?_
  clear fh19 fa19
  refine Kn.pure fh20 rfl rfl .none (Kn.ex_assign fh20 (.tmp rfl)) fun fa21 fh21 => ?_
  clear fh20 fa20
  refine wpList_nil ?_
  refine hK6 _ _ ?_
  clear hK6 K6
  replace fh21 := fh21.cut (.cons (t := 6) rfl .nil)
  refine wp_ret ?_
  exact Kn.ret1 fh21 rfl rfl ⟨rfl, q + q2, by rw [World.drewN_drewN]⟩

theorem has_any (v t : Int) (w : World) (B g N : Nat) (ys : List (Int × Int)) (hR : Rep w B g N ys) : Calls Tryd.prog 17 #[.pointer (some ⟨g, 0, none⟩), .int .i64 v, .int .i64 t] w fun e w' => e = .returned (.bool (decide ((v, t) ∈ ys))) ∧ ∃ q, w' = w.drewN q := by
  by_cases h : v < 0 ∨ (N : Int) ≤ v
  · have hn : ¬ (v, t) ∈ ys := fun hm => by
      have := (badB_iff _ _).1 (hR.good.all _ hm)
      simp only at this
      omega
    rw [decide_eq_false hn]
    exact (has_bad v t w B g N ys hR h).mono fun e w' ⟨h1, h2⟩ => ⟨h1, 0, h2.symm⟩
  · obtain ⟨k, rfl⟩ := Int.eq_ofNat_of_zero_le (show 0 ≤ v by omega)
    have := has_in k t w B g N ys hR (by omega)
    rw [decide_eq_decide.2 (trg_mem ys (k : Int) t)] at this
    exact this

end Go.Proofs.YtinjecaanjeapaaDoor.Csr
