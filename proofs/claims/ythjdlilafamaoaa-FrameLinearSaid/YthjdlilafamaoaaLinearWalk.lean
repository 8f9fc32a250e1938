/- The walk of the law FrameLinear (written by gen_linear.py). -/
import Derived.Test.YthjdlilafamaoaaFrameE
import Derived.Test.YthjdlilafamaoaaBytes
import Derived.Test.YthjdlilafamaoaaKnAny
namespace Go.Proofs.Ythjdlilafamaoaa.Frame
open Go.RowKit Go.Lib

/-- What stays through the law: old memory, the array's cells. -/
structure Lt (w : World) (x y z : ByteArray) (v : World) : Prop where
  old : Below w.heap.size w v
  cx : v.cell? ⟨w.heap.size, 0, none⟩ = some (.string x)
  cy : v.cell? ⟨w.heap.size, 1, none⟩ = some (.string y)
  cz : v.cell? ⟨w.heap.size, 2, none⟩ = some (.string z)
  size : w.heap.size + 1 ≤ v.heap.size
theorem Lt.on {w v v' : World} {x y z : ByteArray} (h : Lt w x y z v) (hb : Below v.heap.size v v') : Lt w x y z v' :=
  ⟨h.old.trans (hb.mono h.old.size), (hb.cell (p := ⟨w.heap.size, 0, none⟩) h.size).trans h.cx, (hb.cell (p := ⟨w.heap.size, 1, none⟩) h.size).trans h.cy, (hb.cell (p := ⟨w.heap.size, 2, none⟩) h.size).trans h.cz, Nat.le_trans h.size hb.size⟩
theorem Lt.drew {w v : World} {x y z : ByteArray} (h : Lt w x y z v) : Lt w x y z v.drew := ⟨h.old.drew, h.cx, h.cy, h.cz, h.size⟩
theorem Lt.set {w v : World} {x y z : ByteArray} {g k : Nat} (h : Lt w x y z v) (hg : w.heap.size < g) (u : Value) : Lt w x y z (v.setCell ⟨g, k, none⟩ u) :=
  ⟨h.old.setCell (Nat.le_of_lt hg) u, by rw [World.cell?_setCell_far _ _ _ _ (Nat.ne_of_gt hg)]; exact h.cx, by rw [World.cell?_setCell_far _ _ _ _ (Nat.ne_of_gt hg)]; exact h.cy, by rw [World.cell?_setCell_far _ _ _ _ (Nat.ne_of_gt hg)]; exact h.cz, by simpa [World.setCell] using h.size⟩
theorem lt_start {w w1 : World} {x y z : ByteArray} {t : TypeId} (hb : Below (w.alloc (.cells #[.string x, .string y, .string z] t)).heap.size (w.alloc (.cells #[.string x, .string y, .string z] t)) w1) : Lt w x y z w1 := by
  refine ⟨((Below.refl _ _).alloc (Nat.le_refl _) _).trans (hb.mono (by simp)), ?_, ?_, ?_, by have := hb.size; simp at this; omega⟩
  · rw [hb.cell (p := ⟨w.heap.size, 0, none⟩) (by simp), World.cell?_alloc_at _ _ _ _ rfl]; rfl
  · rw [hb.cell (p := ⟨w.heap.size, 1, none⟩) (by simp), World.cell?_alloc_at _ _ _ _ rfl]; rfl
  · rw [hb.cell (p := ⟨w.heap.size, 2, none⟩) (by simp), World.cell?_alloc_at _ _ _ _ rfl]; rfl

/-- A slice of bytes of the call's own. -/
def IsB (B N : Nat) (L : List UInt8) : Value → World → Prop := fun v u => ∃ g c, v = .slice (some ⟨g, 0, none⟩) N c ∧ B < g ∧ Byt.BRow u g L
theorem IsB.keep {B N : Nat} {L : List UInt8} : ∀ v w w', Below w.heap.size w w' → IsB B N L v w → IsB B N L v w' := fun _ _ _ hb ⟨g, c, e, h1, h2⟩ => ⟨g, c, e, h1, h2.on hb⟩
/-- A slice of texts. -/
def IsR (n : Nat) (ss : Nat → ByteArray) : Value → World → Prop := fun v u => ∃ A c, v = .slice A n c ∧ Oct.SArg u A n (fun k => .string (ss k))
theorem IsR.keep {n : Nat} {ss : Nat → ByteArray} : ∀ v w w', Below w.heap.size w w' → IsR n ss v w → IsR n ss v w' := fun _ _ _ hb ⟨A, c, e, h⟩ => ⟨A, c, e, fun k hk => by
  obtain ⟨b, o, e1, h1, h2⟩ := h k hk
  exact ⟨b, o, e1, Nat.lt_of_lt_of_le h1 hb.size, (hb.cell (p := ⟨b, o + k, none⟩) h1).trans h2⟩⟩
theorem IsR.one (u : World) (s : ByteArray) (t : TypeId) (c : Nat) : IsR 1 (fun _ => s) (.slice (some ⟨u.heap.size, 0, none⟩) 1 c) (u.alloc (.cells #[.string s] t)) := ⟨_, _, rfl, sarg_one u s t⟩
def three (a b c : ByteArray) : Nat → ByteArray
  | 0 => a
  | 1 => b
  | _ => c
theorem IsR.three (u : World) (x y z : ByteArray) (t : TypeId) (c : Nat) : IsR 3 (Frame.three x y z) (.slice (some ⟨u.heap.size, 0, none⟩) 3 c) (u.alloc (.cells #[.string x, .string y, .string z] t)) := ⟨_, _, rfl, fun k hk => by
  rcases (show k = 0 ∨ k = 1 ∨ k = 2 by omega) with rfl | rfl | rfl
  · exact ⟨_, 0, rfl, by simp, by rw [World.cell?_alloc_at _ _ _ _ rfl]; rfl⟩
  · exact ⟨_, 0, rfl, by simp, by rw [World.cell?_alloc_at _ _ _ _ rfl]; rfl⟩
  · exact ⟨_, 0, rfl, by simp, by rw [World.cell?_alloc_at _ _ _ _ rfl]; rfl⟩⟩
theorem sumR1 (s : ByteArray) (A : Option Addr) (c : Nat) (w : World) (hs : s.size ≤ maxLen) (h : Oct.SArg w A 1 (fun _ => .string s)) :
    Calls Try.prog 8 #[.slice A 1 c] w fun e w' => e = .returned (.int .i64 ((crc s.data.toList : Nat) : Int)) ∧ Below w.heap.size w w' :=
  (sum_any A 1 c (fun _ => s) w (by omega) h (fun _ _ => hs)).mono fun _ _ ⟨he, hb⟩ => ⟨by rw [he]; simp [cat], hb⟩
theorem sumR3 (s x z : ByteArray) (A : Option Addr) (c : Nat) (w : World) (hx : x.size ≤ maxLen) (hz : z.size ≤ maxLen) (h : Oct.SArg w A 3 (fun k => .string (three x ⟨#[]⟩ z k))) (e : x.data.toList ++ z.data.toList = s.data.toList) :
    Calls Try.prog 8 #[.slice A 3 c] w fun e w' => e = .returned (.int .i64 ((crc s.data.toList : Nat) : Int)) ∧ Below w.heap.size w w' :=
  (sum_any A 3 c (three x ⟨#[]⟩ z) w (by omega) h (fun k _ => by unfold three; split <;> first | assumption | (unfold maxLen; show 0 ≤ _; omega))).mono fun _ _ ⟨he, hb⟩ => ⟨by rw [he, ← e]; simp [cat, three], hb⟩
theorem i64_xor_nat' (a b : Nat) (ha : a < 4294967296) (hb : b < 4294967296) : bits .xor .i64 (a : Int) (b : Int) = ((a ^^^ b : Nat) : Int) := by
  have h := xor_lt ha hb
  show IntKind.i64.wrap ((BitVec.ofInt 64 (a : Int) ^^^ BitVec.ofInt 64 (b : Int)).toNat : Int) = _
  rw [BitVec.toNat_xor, ofInt_u64 a (by omega), ofInt_u64 b (by omega), IntKind.wrap_i64]
  omega

/-- Which of the two slices an operation has to do with. -/
def side : Nat → Nat
  | 4 => 1
  | 10 => 1
  | 9 => 2
  | 11 => 2
  | _ => 0
theorem side1 {k : Nat} (h : side k = 1) : k = 4 ∨ k = 10 := by
  unfold side at h; split at h <;> simp_all
theorem side2 {k : Nat} (h : side k = 2) : k = 9 ∨ k = 11 := by
  unfold side at h; split at h <;> simp_all
def blk : Value → Option Nat
  | .slice (some a) _ _ => some a.block
  | _ => none
/-- The two slices lie apart. -/
def Fd (i j : Nat) (v u : Value) : Prop := side i = 1 → side j = 2 → blk v ≠ blk u
theorem Fd.no {i k : Nat} {v u : Value} (h : side i = 0) : Fd i k v u ∧ Fd k i u v := ⟨fun h1 => absurd (h.symm.trans h1) (by decide), fun _ h2 => absurd (h.symm.trans h2) (by decide)⟩
theorem IsB.ne {B N : Nat} {L : List UInt8} {x : Value} {u : World} {n c : Nat} (h : IsB B N L x u) : blk (.slice (some ⟨u.heap.size, 0, none⟩) n c) ≠ blk x := by
  obtain ⟨g, c, rfl, _, hr⟩ := h
  have := hr.1
  simp [blk]
  omega

/-- The first k bytes are turned by others, the rest are as they were. -/
def Mixed (v : World) (g N k : Nat) (p q : List UInt8) : Prop := ∃ L, Byt.BRow v g L ∧ L.length = N ∧ ∀ j, j < N → L.getD j 0 = if j < k then p.getD j 0 ^^^ q.getD j 0 else p.getD j 0
theorem Mixed.start {v : World} {g N : Nat} {p : List UInt8} (q : List UInt8) (h : Byt.BRow v g p) (hp : p.length = N) : Mixed v g N 0 p q := ⟨p, h, hp, fun j _ => by simp⟩
theorem Mixed.at {v : World} {g N k : Nat} {p q : List UInt8} (h : Mixed v g N k p q) (hk : k < N) : v.cell? ⟨g, k, none⟩ = some (.int .u8 ((p.getD k 0).toNat : Int)) ∧ v.frozen? ⟨g, k, none⟩ = false := by
  obtain ⟨L, hr, hl, hv⟩ := h
  have h1 := hv k hk
  rw [if_neg (by omega)] at h1
  have hk' : k < L.length := by omega
  have h2 := hr.2 k hk'
  rw [show L[k] = p.getD k 0 by rw [← h1]; simp [List.getD, List.getElem?_eq_getElem hk']] at h2
  exact h2
theorem Mixed.set {v : World} {g N k : Nat} {p q : List UInt8} (h : Mixed v g N k p q) (hk : k < N) (x : Int) (hx : x = (((p.getD k 0) ^^^ (q.getD k 0)).toNat : Int)) : Mixed (v.setCell ⟨g, k, none⟩ (.int .u8 x)) g N (k + 1) p q := by
  obtain ⟨L, hr, hl, hv⟩ := h
  refine ⟨L.set k (p.getD k 0 ^^^ q.getD k 0), hr.set k (by omega) _ _ hx, by simpa using hl, fun j hj => ?_⟩
  by_cases e : k = j
  · subst e
    rw [if_pos (by omega)]
    simp [List.getD, List.getElem?_set, show k < L.length by omega]
  · have := hv j hj
    rw [show (L.set k (p.getD k 0 ^^^ q.getD k 0)).getD j 0 = L.getD j 0 by simp [List.getD, List.getElem?_set_ne e], this]
    by_cases h1 : j < k
    · rw [if_pos h1, if_pos (by omega)]
    · rw [if_neg h1, if_neg (by omega)]
theorem Mixed.other {v : World} {g g' N k j : Nat} {p q : List UInt8} (h : Mixed v g N k p q) (u : Value) (hne : g ≠ g') : Mixed (v.setCell ⟨g', j, none⟩ u) g N k p q := by
  obtain ⟨L, hr, hl, hv⟩ := h
  exact ⟨L, hr.other u hne, hl, hv⟩
theorem Mixed.drew {v : World} {g N k : Nat} {p q : List UInt8} (h : Mixed v g N k p q) : Mixed v.drew g N k p q := h
theorem Mixed.done {v : World} {g N : Nat} {p q : List UInt8} (h : Mixed v g N N p q) (hp : p.length = N) (hq : N ≤ q.length) : Byt.BRow v g (xorl p (q.take N)) := by
  obtain ⟨L, hr, hl, hv⟩ := h
  have : L = xorl p (q.take N) := by
    apply List.ext_getElem
    · simp [xorl, hl, hp]; omega
    · intro j h1 h2
      have := hv j (by omega)
      rw [if_pos (by omega)] at this
      simp [List.getD, List.getElem?_eq_getElem h1, List.getElem?_eq_getElem (show j < p.length by omega), List.getElem?_eq_getElem (show j < q.length by omega)] at this
      simp [xorl, this]
  rw [← this]
  exact hr
theorem cut_data (x : ByteArray) (N : Nat) : (x.extract 0 N).data.toList = x.data.toList.take N := by simp
theorem cut_data2 (x : ByteArray) (N : Nat) : (x.extract N x.size).data.toList = x.data.toList.drop N := by
  rw [ByteArray.data_extract, Array.toList_extract, List.extract_eq_take_drop, List.take_of_length_le (by simp)]

/-- What stays through the last statement. -/
structure Lx (w : World) (x y z : ByteArray) (ga gb : Nat) (La Lb : List UInt8) (v : World) : Prop where
  lt : Lt w x y z v
  ba : Byt.BRow v ga La
  bb : Byt.BRow v gb Lb
theorem Lx.on {w v v' : World} {x y z : ByteArray} {ga gb : Nat} {La Lb : List UInt8} (h : Lx w x y z ga gb La Lb v) (hb : Below v.heap.size v v') : Lx w x y z ga gb La Lb v' := ⟨h.lt.on hb, h.ba.on hb, h.bb.on hb⟩
theorem Lx.drew {w v : World} {x y z : ByteArray} {ga gb : Nat} {La Lb : List UInt8} (h : Lx w x y z ga gb La Lb v) : Lx w x y z ga gb La Lb v.drew := ⟨h.lt.drew, h.ba, h.bb⟩

set_option maxRecDepth 100000 in
set_option maxHeartbeats 4000000 in
theorem linear_walk (x y z : ByteArray) (cut : Nat) (w : World) (hx : x.size ≤ maxLen) (hy : y.size ≤ maxLen) (hz : z.size ≤ maxLen) (hc : cut ≤ 65535) :
    Calls Try.prog 4 #[.agg #[.string x, .string y, .string z], .int .u16 (cut : Int)] w fun e w' => e = .returned (.bool true) ∧ Below w.heap.size w w' := by
  unfold maxLen at hx hy hz
  refine Kn.calls Try.func4 rfl Try.ntmps4 rfl (.cons (t := 0) rfl (.cons (t := 1) rfl .nil)) fun a0 h0 => ?_
  refine wp_seq_k fun K1 hK1 => ?_
  refine wp_region_lit ?_
  refine Kn.step h0 rfl rfl .none (Kn.ex_box h0 (.tmp rfl)) fun Ko hKo => ?_
  go_simp
  try go_bits
  refine hKo _ _ fun a1 h1 => ?_
  clear hKo Ko h0 a0
  refine Kn.pure h1 rfl rfl .none (Kn.ex_assign h1 .const) fun a2 h2 => ?_
  clear h1 a1
  refine wpList_nil ?_
  refine hK1 _ _ ?_
  clear hK1 K1
  replace h2 := h2.cut (.cons (t := 4) rfl (.cons (t := 2) rfl (.cons (t := 1) rfl .nil)))
  refine wp_seq_k fun K2 hK2 => ?_
  refine wp_seq_k fun K3 hK3 => ?_
  refine wp_region_lit ?_
  refine Kn.call h2 rfl rfl .none (Kn.ex_call h2 .nil) Try.call5 (awake_any _) fun e w1 hp => ?_
  obtain ⟨rfl, hb1⟩ := hp
  refine ⟨_, rfl, fun a3 h3 => ?_⟩
  clear h2 a2
  have H1 : Hid (Lt w x y z w1) := Lib.hid (lt_start hb1)
  clear hb1
  refine Kn.step h3 rfl rfl .none (Kn.ex_un h3 (.tmp rfl)) fun Ko hKo => ?_
  go_simp
  try go_bits
  refine hKo _ _ fun a4 h4 => ?_
  clear hKo Ko h3 a3
  refine wpList_nil ?_
  refine hK3 _ _ ?_
  clear hK3 K3
  replace h4 := h4.cut (.cons (t := 12) rfl (.cons (t := 4) rfl (.cons (t := 2) rfl (.cons (t := 1) rfl .nil))))
  refine Kn.no h4 (.tmp rfl) ?_
  refine wp_skip ?_
  refine hK2 _ _ ?_
  clear hK2 K2
  replace h4 := h4.cut (.cons (t := 4) rfl (.cons (t := 2) rfl (.cons (t := 1) rfl .nil)))
  have cx := H1.out.cx
  have cy := H1.out.cy
  have cz := H1.out.cz
  refine wp_seq_k fun K4 hK4 => ?_
  refine wp_region_lit ?_
  refine Kn.step h4 rfl rfl .none (Kn.ex_indexAddr h4 (.tmp rfl) .const) fun Ko hKo => ?_
  go_simp
  try go_bits
  refine hKo _ _ fun a5 h5 => ?_
  clear hKo Ko h4 a4
  refine Kn.step h5 rfl rfl .none (Kn.ex_load h5 (.tmp rfl)) fun Ko hKo => ?_
  go_simp
  try go_bits
  refine hKo _ _ fun a6 h6 => ?_
  clear hKo Ko h5 a5
  refine Kn.step h6 rfl rfl .none (Kn.ex_len h6 (.tmp rfl)) fun Ko hKo => ?_
  go_simp
  try go_bits
  refine hKo _ _ fun a7 h7 => ?_
  clear hKo Ko h6 a6
  refine Kn.step h7 rfl rfl .none (Kn.ex_indexAddr h7 (.tmp rfl) .const) fun Ko hKo => ?_
  go_simp
  try go_bits
  refine hKo _ _ fun a8 h8 => ?_
  clear hKo Ko h7 a7
  refine Kn.step h8 rfl rfl .none (Kn.ex_load h8 (.tmp rfl)) fun Ko hKo => ?_
  go_simp
  try go_bits
  refine hKo _ _ fun a9 h9 => ?_
  clear hKo Ko h8 a8
  refine Kn.step h9 rfl rfl .none (Kn.ex_len h9 (.tmp rfl)) fun Ko hKo => ?_
  go_simp
  try go_bits
  refine hKo _ _ fun a10 h10 => ?_
  clear hKo Ko h9 a9
  refine Kn.step h10 rfl rfl .none (Kn.ex_indexAddr h10 (.tmp rfl) .const) fun Ko hKo => ?_
  go_simp
  try go_bits
  refine hKo _ _ fun a11 h11 => ?_
  clear hKo Ko h10 a10
  refine Kn.step h11 rfl rfl .none (Kn.ex_load h11 (.tmp rfl)) fun Ko hKo => ?_
  go_simp
  try go_bits
  refine hKo _ _ fun a12 h12 => ?_
  clear hKo Ko h11 a11
  refine Kn.step h12 rfl rfl .none (Kn.ex_len h12 (.tmp rfl)) fun Ko hKo => ?_
  go_simp
  try go_bits
  refine hKo _ _ fun a13 h13 => ?_
  clear hKo Ko h12 a12
  refine Kn.step h13 rfl rfl .none (Kn.ex_min h13 (.cons (.tmp rfl) (.cons (.tmp rfl) (.cons (.tmp rfl) (.cons .const .nil))))) fun Ko hKo => ?_
  go_simp
  try go_bits
  refine hKo _ _ fun a14 h14 => ?_
  clear hKo Ko h13 a13
  refine Kn.pure h14 rfl rfl .none (Kn.ex_assign h14 (.tmp rfl)) fun a15 h15 => ?_
  clear h14 a14
  refine wpList_nil ?_
  refine hK4 _ _ ?_
  clear hK4 K4
  replace h15 := h15.cut (.cons (t := 5) rfl (.cons (t := 4) rfl (.cons (t := 2) rfl (.cons (t := 1) rfl .nil))))
  clear cx cy cz
  obtain ⟨N, hN⟩ : ∃ N : Nat, min (min x.size y.size) (min z.size 300) = N := ⟨_, rfl⟩
  replace h15 := h15.cut (.turn (t := 5) rfl (show _ = Value.int .i64 (N : Int) by rw [← hN]; congr 1; (repeat' split) <;> omega) (.cons (t := 4) rfl (.cons (t := 2) rfl (.cons (t := 1) rfl .nil))))
  have hNx : N ≤ x.size := by omega
  have hNy : N ≤ y.size := by omega
  have hNz : N ≤ z.size := by omega
  have hN3 : N ≤ 300 := by omega
  clear hN
  obtain ⟨X, hX⟩ : ∃ X, x.extract 0 N = X := ⟨_, rfl⟩
  obtain ⟨Y, hY⟩ : ∃ Y, y.extract 0 N = Y := ⟨_, rfl⟩
  have HXd : Hid (X.data.toList = x.data.toList.take N) := Lib.hid (by rw [← hX, cut_data])
  have HYd : Hid (Y.data.toList = y.data.toList.take N) := Lib.hid (by rw [← hY, cut_data])
  have HXl : Hid (X.data.toList.length = N) := Lib.hid (by rw [HXd.out, List.length_take]; show min N x.size = N; omega)
  have HYl : Hid (Y.data.toList.length = N) := Lib.hid (by rw [HYd.out, List.length_take]; show min N y.size = N; omega)
  have HXs : Hid (X.size = N) := Lib.hid HXl.out
  have HYs : Hid (Y.size = N) := Lib.hid HYl.out
  refine wp_seq_k fun K5 hK5 => ?_
  refine Kn.anyF (Lt w x y z) (fun u u' => Below u.heap.size u u') (Kn.TL [Kn.Is (Value.pointer (some ⟨w.heap.size, 0, none⟩)), Kn.Is (Value.string x), Kn.Is (Value.int .i64 (N : Int)), Kn.Is (Value.string X), IsB w.heap.size N X.data.toList, Kn.Is (Value.pointer (some ⟨w.heap.size, 1, none⟩)), Kn.Is (Value.string y), Kn.Is (Value.int .i64 (N : Int)), Kn.Is (Value.string Y), IsB w.heap.size N Y.data.toList, IsB w.heap.size N X.data.toList, IsB w.heap.size N Y.data.toList]) Fd (by kernel_rfl) h15 (by kernel_rfl) (by kernel_rfl) rfl (Kn.Keeps.all (.cons Kn.Is.keep (.cons Kn.Is.keep (.cons Kn.Is.keep (.cons Kn.Is.keep (.cons IsB.keep (.cons Kn.Is.keep (.cons Kn.Is.keep (.cons Kn.Is.keep (.cons Kn.Is.keep (.cons IsB.keep (.cons IsB.keep (.cons IsB.keep .nil))))))))))))) H1.out.drew ⟨?_, ?_, ?_, ?_, ?_, ?_, ?_, ?_, ?_, ?_, ?_, ?_, trivial⟩ ?_
  · refine Kn.okF fun a16 u L h16 hS hO hT2 hA => ?_
    refine Kn.aopF h16 .none (Kn.ex_indexAddr h16 (.tmp rfl) .const) fun Ko hKo => ?_
    go_simp
    try go_bits
    exact hKo _ _ rfl hS (Below.refl _ _) (fun _ _ _ _ _ => Fd.no rfl)
  · refine Kn.okF fun a16 u L h16 hS hO hT2 hA => ?_
    replace h16 := h16.more (show a16.eval (.tmp 23) = Value.pointer (some ⟨w.heap.size, 0, none⟩) from hO 0 23 (hA 0 rfl) rfl)
    have cx := hS.cx
    refine Kn.aopF h16 .none (Kn.ex_load h16 (.tmp rfl)) fun Ko hKo => ?_
    go_simp
    try go_bits
    exact hKo _ _ rfl hS (Below.refl _ _) (fun _ _ _ _ _ => Fd.no rfl)
  · refine Kn.okF fun a16 u L h16 hS hO hT2 hA => ?_
    exact Kn.aopF h16 .none (Kn.ex_move h16 (.tmp rfl)) fun Ko hKo => hKo _ _ rfl hS (Below.refl _ _) (fun _ _ _ _ _ => Fd.no rfl)
  · refine Kn.okF fun a16 u L h16 hS hO hT2 hA => ?_
    replace h16 := h16.more (show a16.eval (.tmp 24) = Value.string x from hO 1 24 (hA 1 rfl) rfl)
    replace h16 := h16.more (show a16.eval (.tmp 25) = Value.int .i64 (N : Int) from hO 2 25 (hA 2 rfl) rfl)
    refine Kn.aopF h16 .none (Kn.ex_sliceH h16 (.tmp rfl) (.tmp rfl)) fun Ko hKo => ?_
    go_simp
    try go_bits
    exact hKo _ _ rfl hS (Below.refl _ _) (fun _ _ _ _ _ => Fd.no rfl)
  · refine Kn.okF fun a16 u L h16 hS hO hT2 hA => ?_
    replace h16 := h16.more (show a16.eval (.tmp 26) = Value.string X from hO 3 26 (hA 3 rfl) rfl)
    obtain ⟨cb, u7, hcv, hrow, hb7, -⟩ := Byt.made u X
    rw [HXs.out] at hcv
    exact Kn.aopF h16 .none (Kn.ex_convert h16 (.tmp rfl)) fun Ko hKo => by rw [hcv]; exact hKo _ _ ⟨_, _, rfl, Nat.lt_of_lt_of_le (Nat.lt_succ_self _) hS.size, hrow⟩ (hS.on hb7) hb7 (fun k d hk hl hd => ⟨fun _ h2 => by rcases side2 h2 with rfl | rfl <;> exact IsB.ne (show IsB w.heap.size N Y.data.toList _ u from hO _ d hl hd), fun _ h2 => absurd h2 (by decide)⟩)
  · refine Kn.okF fun a16 u L h16 hS hO hT2 hA => ?_
    refine Kn.aopF h16 .none (Kn.ex_indexAddr h16 (.tmp rfl) .const) fun Ko hKo => ?_
    go_simp
    try go_bits
    exact hKo _ _ rfl hS (Below.refl _ _) (fun _ _ _ _ _ => Fd.no rfl)
  · refine Kn.okF fun a16 u L h16 hS hO hT2 hA => ?_
    replace h16 := h16.more (show a16.eval (.tmp 28) = Value.pointer (some ⟨w.heap.size, 1, none⟩) from hO 5 28 (hA 5 rfl) rfl)
    have cy := hS.cy
    refine Kn.aopF h16 .none (Kn.ex_load h16 (.tmp rfl)) fun Ko hKo => ?_
    go_simp
    try go_bits
    exact hKo _ _ rfl hS (Below.refl _ _) (fun _ _ _ _ _ => Fd.no rfl)
  · refine Kn.okF fun a16 u L h16 hS hO hT2 hA => ?_
    exact Kn.aopF h16 .none (Kn.ex_move h16 (.tmp rfl)) fun Ko hKo => hKo _ _ rfl hS (Below.refl _ _) (fun _ _ _ _ _ => Fd.no rfl)
  · refine Kn.okF fun a16 u L h16 hS hO hT2 hA => ?_
    replace h16 := h16.more (show a16.eval (.tmp 29) = Value.string y from hO 6 29 (hA 6 rfl) rfl)
    replace h16 := h16.more (show a16.eval (.tmp 30) = Value.int .i64 (N : Int) from hO 7 30 (hA 7 rfl) rfl)
    refine Kn.aopF h16 .none (Kn.ex_sliceH h16 (.tmp rfl) (.tmp rfl)) fun Ko hKo => ?_
    go_simp
    try go_bits
    exact hKo _ _ rfl hS (Below.refl _ _) (fun _ _ _ _ _ => Fd.no rfl)
  · refine Kn.okF fun a16 u L h16 hS hO hT2 hA => ?_
    replace h16 := h16.more (show a16.eval (.tmp 31) = Value.string Y from hO 8 31 (hA 8 rfl) rfl)
    obtain ⟨cb, u7, hcv, hrow, hb7, -⟩ := Byt.made u Y
    rw [HYs.out] at hcv
    exact Kn.aopF h16 .none (Kn.ex_convert h16 (.tmp rfl)) fun Ko hKo => by rw [hcv]; exact hKo _ _ ⟨_, _, rfl, Nat.lt_of_lt_of_le (Nat.lt_succ_self _) hS.size, hrow⟩ (hS.on hb7) hb7 (fun k d hk hl hd => ⟨fun h1 _ => absurd h1 (by decide), fun h1 _ => by rcases side1 h1 with rfl | rfl <;> exact (IsB.ne (show IsB w.heap.size N X.data.toList _ u from hO _ d hl hd)).symm⟩)
  · refine Kn.okF fun a16 u L h16 hS hO hT2 hA => ?_
    obtain ⟨g27, c27, e27, hg27, hr27⟩ : IsB w.heap.size N X.data.toList (a16.eval (.tmp 27)) u := hO 4 27 (hA 4 rfl) rfl
    replace h16 := h16.more e27
    exact Kn.aopF h16 .none (Kn.ex_assign h16 (.tmp rfl)) fun Ko hKo => hKo _ _ ⟨g27, c27, rfl, hg27, hr27⟩ hS (Below.refl _ _) (fun k d hk hl hd => ⟨fun _ h2 => by have := hT2 4 k 27 d (by rcases side2 h2 with rfl | rfl <;> decide) (hA 4 rfl) hl rfl hd rfl h2; rwa [e27] at this, fun _ h2 => absurd h2 (by decide)⟩)
  · refine Kn.okF fun a16 u L h16 hS hO hT2 hA => ?_
    obtain ⟨g32, c32, e32, hg32, hr32⟩ : IsB w.heap.size N Y.data.toList (a16.eval (.tmp 32)) u := hO 9 32 (hA 9 rfl) rfl
    replace h16 := h16.more e32
    exact Kn.aopF h16 .none (Kn.ex_assign h16 (.tmp rfl)) fun Ko hKo => hKo _ _ ⟨g32, c32, rfl, hg32, hr32⟩ hS (Below.refl _ _) (fun k d hk hl hd => ⟨fun h1 _ => absurd h1 (by decide), fun h1 _ => by have := hT2 k 9 d 32 (by rcases side1 h1 with rfl | rfl <;> decide) hl (hA 9 rfl) hd rfl h1 rfl; rwa [e32] at this⟩)
  intro a16 w2 h16 hS hT hT2
  clear h15 a15
  obtain ⟨g6, c6, e6, hg6, hr6⟩ : IsB w.heap.size N X.data.toList (a16.eval (.tmp 6)) w2 := hT 10 6 rfl
  replace h16 := h16.more e6
  obtain ⟨g7, c7, e7, hg7, hr7⟩ : IsB w.heap.size N Y.data.toList (a16.eval (.tmp 7)) w2 := hT 11 7 rfl
  replace h16 := h16.more e7
  clear hT
  refine hK5 _ _ ?_
  clear hK5 K5
  have hne : g6 ≠ g7 := by
    have := hT2 10 11 6 7 (by decide) rfl rfl rfl rfl
    rw [e6, e7] at this
    simpa [blk] using this
  clear hT2 e6 e7
  have H2 := Lib.hid hS
  have HA := Lib.hid (Mixed.start z.data.toList hr6 HXl.out)
  have HB := Lib.hid (Mixed.start z.data.toList hr7 HYl.out)
  clear hS hr6 hr7 H1
  refine wp_seq_k fun K6 hK6 => ?_
  refine wp_seq_k fun K7 hK7 => ?_
  refine wp_region_lit ?_
  refine Kn.pure h16 rfl rfl .none (Kn.ex_move h16 (.tmp rfl)) fun a17 h17 => ?_
  clear h16 a16
  refine Kn.step h17 rfl rfl .none (Kn.ex_len h17 (.tmp rfl)) fun Ko hKo => ?_
  go_simp
  try go_bits
  refine hKo _ _ fun a18 h18 => ?_
  clear hKo Ko h17 a17
  refine Kn.pure h18 rfl rfl .none (Kn.ex_move h18 .const) fun a19 h19 => ?_
  clear h18 a18
  refine wpList_nil ?_
  refine hK7 _ _ ?_
  clear hK7 K7
  replace h19 := h19.cut (.cons (t := 35) rfl (.cons (t := 34) rfl (.cons (t := 7) rfl (.cons (t := 6) rfl (.cons (t := 5) rfl (.cons (t := 4) rfl (.cons (t := 2) rfl (.cons (t := 1) rfl .nil))))))))
  refine wp_block ?_
  refine Kn.loop (fun m a v => ∃ k : Nat, Kn.Kn 102 [(35, .int .i64 (k : Int)), (34, .int .i64 (N : Int)), (6, .slice (some ⟨g6, 0, none⟩) N c6), (7, .slice (some ⟨g7, 0, none⟩) N c7), (2, Value.pointer (some ⟨w.heap.size, 0, none⟩)), (5, .int .i64 (N : Int)), (1, .int .u16 (cut : Int)), (4, .bool false)] a ∧ k + m = N ∧ Hid (Lt w x y z v) ∧ Hid (Mixed v g6 N k X.data.toList z.data.toList) ∧ Hid (Mixed v g7 N k Y.data.toList z.data.toList)) N ⟨0, h19.cut (.cons (t := 35) rfl (.cons (t := 34) rfl (.cons (t := 6) rfl (.cons (t := 7) rfl (.cons (t := 2) rfl (.cons (t := 5) rfl (.cons (t := 1) rfl (.cons (t := 4) rfl .nil)))))))), by omega, H2, HA, HB⟩ ?_
  clear h19 a19
  intro m a20 v hI Kl8 hKl8
  obtain ⟨k, h20, hk, H3, HA3, HB3⟩ := hI
  clear H2 HA HB
  by_cases hlt : k < N
  · refine wp_seq_k fun K9 hK9 => ?_
    refine wp_region_lit ?_
    have qd : decide (k < N) = true := decide_eq_true (by omega)
    refine Kn.step h20 rfl rfl .none (Kn.ex_bin h20 (.tmp rfl) (.tmp rfl)) fun Ko hKo => ?_
    go_simp
    try go_bits
    refine hKo _ _ fun a21 h21 => ?_
    clear hKo Ko h20 a20
    clear qd
    refine wpList_nil ?_
    refine hK9 _ _ ?_
    clear hK9 K9
    refine wp_seq_k fun K10 hK10 => ?_
    refine Kn.yes h21 (.tmp rfl) ?_
    refine wp_skip ?_
    refine hK10 _ _ ?_
    clear hK10 K10
    replace h21 := h21.cut (.cons (t := 35) rfl (.cons (t := 34) rfl (.cons (t := 6) rfl (.cons (t := 7) rfl (.cons (t := 2) rfl (.cons (t := 5) rfl (.cons (t := 1) rfl (.cons (t := 4) rfl .nil))))))))
    refine wp_seq_k fun K11 hK11 => ?_
    refine wp_block ?_
    refine wp_seq_k fun K12 hK12 => ?_
    refine wp_region_lit ?_
    refine Kn.pure h21 rfl rfl .none (Kn.ex_move h21 (.tmp rfl)) fun a22 h22 => ?_
    clear h21 a21
    refine Kn.pure h22 rfl rfl .none (Kn.ex_assign h22 (.tmp rfl)) fun a23 h23 => ?_
    clear h22 a22
    refine wpList_nil ?_
    refine hK12 _ _ ?_
    clear hK12 K12
    replace h23 := h23.cut (.cons (t := 8) rfl (.cons (t := 35) rfl (.cons (t := 34) rfl (.cons (t := 6) rfl (.cons (t := 7) rfl (.cons (t := 2) rfl (.cons (t := 5) rfl (.cons (t := 1) rfl (.cons (t := 4) rfl .nil)))))))))
    have hkx : k < X.data.toList.length := by rw [HXl.out]; exact hlt
    have hkz : k < z.size := by omega
    obtain ⟨p, hp⟩ : ∃ p : UInt8, X.data.toList.getD k 0 = p := ⟨_, rfl⟩
    obtain ⟨p', hp'⟩ : ∃ p : UInt8, Y.data.toList.getD k 0 = p := ⟨_, rfl⟩
    obtain ⟨q, hq⟩ : ∃ q : UInt8, z[k] = q := ⟨_, rfl⟩
    have HQ : Hid (z.data.toList.getD k 0 = q) := Lib.hid (by rw [← hq]; simp [List.getD, List.getElem?_eq_getElem (show k < z.data.toList.length from hkz)]; rfl)
    have HP := Lib.hid hp
    have HP' := Lib.hid hp'
    have cz := H3.out.cz
    have hca := (HA3.out.at hlt).1
    have hfa := (HA3.out.at hlt).2
    have hcb := (HB3.out.at hlt).1
    have hfb := (HB3.out.at hlt).2
    rw [hp] at hca
    rw [hp'] at hcb
    clear hp hp'
    have hxa := u8_xor_nat p.toNat q.toNat (by have := p.toNat_lt; omega) (by have := q.toNat_lt; omega)
    have hxb := u8_xor_nat p'.toNat q.toNat (by have := p'.toNat_lt; omega) (by have := q.toNat_lt; omega)
    rw [← UInt8.toNat_xor] at hxa hxb
    refine wp_seq_k fun K13 hK13 => ?_
    refine Kn.tail 10 (by kernel_rfl) (by kernel_rfl) rfl rfl ?_
    refine Kn.spure h23 rfl rfl .none (Kn.ex_move h23 (.tmp rfl)) fun a24 h24 => ?_
    clear h23 a23
    refine Kn.spure h24 rfl rfl .none (Kn.ex_move h24 (.tmp rfl)) fun a25 h25 => ?_
    clear h24 a24
    refine Kn.sstep h25 rfl rfl .none (Kn.ex_indexAddr h25 (.tmp rfl) (.tmp rfl)) fun Ko hKo => ?_
    go_simp
    try go_bits
    refine hKo _ fun a26 h26 => ?_
    clear hKo Ko h25 a25
    refine Kn.sstep h26 rfl rfl .none (Kn.ex_load h26 (.tmp rfl)) fun Ko hKo => ?_
    go_simp
    try go_bits
    refine hKo _ fun a27 h27 => ?_
    clear hKo Ko h26 a26
    refine Kn.sstep h27 rfl rfl .none (Kn.ex_indexAddr h27 (.tmp rfl) .const) fun Ko hKo => ?_
    go_simp
    try go_bits
    refine hKo _ fun a28 h28 => ?_
    clear hKo Ko h27 a27
    refine Kn.sstep h28 rfl rfl .none (Kn.ex_load h28 (.tmp rfl)) fun Ko hKo => ?_
    go_simp
    try go_bits
    refine hKo _ fun a29 h29 => ?_
    clear hKo Ko h28 a28
    refine Kn.spure h29 rfl rfl .none (Kn.ex_move h29 (.tmp rfl)) fun a30 h30 => ?_
    clear h29 a29
    refine Kn.sstep h30 rfl rfl .none (Kn.ex_index h30 (.tmp rfl) (.tmp rfl)) fun Ko hKo => ?_
    go_simp
    try go_bits
    refine hKo _ fun a31 h31 => ?_
    clear hKo Ko h30 a30
    refine Kn.sstep h31 rfl rfl .none (Kn.ex_bin h31 (.tmp rfl) (.tmp rfl)) fun Ko hKo => ?_
    go_simp
    try go_bits
    refine hKo _ fun a32 h32 => ?_
    clear hKo Ko h31 a31
    refine Kn.sstep h32 rfl rfl .none (Kn.ex_indexAddr h32 (.tmp rfl) (.tmp rfl)) fun Ko hKo => ?_
    go_simp
    try go_bits
    refine hKo _ fun a33 h33 => ?_
    clear hKo Ko h32 a32
    refine wpStill_nil ?_
    refine Kn.stepU h33 rfl .none (Kn.ex_store h33 (.tmp rfl) (.tmp rfl)) fun Ko hKo => ?_
    go_simp
    try go_bits
    refine hKo _ ?_
    clear hKo Ko
    refine wpList_nil ?_
    refine hK13 _ _ ?_
    clear hK13 K13
    replace h33 := h33.cut (.cons (t := 8) rfl (.cons (t := 35) rfl (.cons (t := 34) rfl (.cons (t := 6) rfl (.cons (t := 7) rfl (.cons (t := 2) rfl (.cons (t := 5) rfl (.cons (t := 1) rfl (.cons (t := 4) rfl .nil)))))))))
    have e4 : Hid (Lt w x y z (v.setCell ⟨g6, k, none⟩ (.int .u8 ((p ^^^ q).toNat : Int))).drew) := Lib.hid ((H3.out.set hg6 _).drew)
    have eA : Hid (Mixed (v.setCell ⟨g6, k, none⟩ (.int .u8 ((p ^^^ q).toNat : Int))).drew g6 N (k + 1) X.data.toList z.data.toList) := Lib.hid ((HA3.out.set hlt _ (by rw [HP.out, HQ.out])).drew)
    have eB : Hid (Mixed (v.setCell ⟨g6, k, none⟩ (.int .u8 ((p ^^^ q).toNat : Int))).drew g7 N k Y.data.toList z.data.toList) := Lib.hid ((HB3.out.other _ hne.symm).drew)
    clear hca hfa hcb hfb cz H3 HA3 HB3 hxa
    obtain ⟨v4, hv4⟩ : ∃ u, (v.setCell ⟨g6, k, none⟩ (.int .u8 ((p ^^^ q).toNat : Int))).drew = u := ⟨_, rfl⟩
    rw [hv4] at e4 eA eB
    change Code.wp _ _ _ _ (v.setCell ⟨g6, k, none⟩ (.int .u8 ((p ^^^ q).toNat : Int))).drew
    rw [hv4]
    clear hv4
    have cz := e4.out.cz
    have hcb := (eB.out.at hlt).1
    have hfb := (eB.out.at hlt).2
    rw [HP'.out] at hcb
    refine Kn.tail 10 (by kernel_rfl) (by kernel_rfl) rfl rfl ?_
    refine Kn.spure h33 rfl rfl .none (Kn.ex_move h33 (.tmp rfl)) fun a34 h34 => ?_
    clear h33 a33
    refine Kn.spure h34 rfl rfl .none (Kn.ex_move h34 (.tmp rfl)) fun a35 h35 => ?_
    clear h34 a34
    refine Kn.sstep h35 rfl rfl .none (Kn.ex_indexAddr h35 (.tmp rfl) (.tmp rfl)) fun Ko hKo => ?_
    go_simp
    try go_bits
    refine hKo _ fun a36 h36 => ?_
    clear hKo Ko h35 a35
    refine Kn.sstep h36 rfl rfl .none (Kn.ex_load h36 (.tmp rfl)) fun Ko hKo => ?_
    go_simp
    try go_bits
    refine hKo _ fun a37 h37 => ?_
    clear hKo Ko h36 a36
    refine Kn.sstep h37 rfl rfl .none (Kn.ex_indexAddr h37 (.tmp rfl) .const) fun Ko hKo => ?_
    go_simp
    try go_bits
    refine hKo _ fun a38 h38 => ?_
    clear hKo Ko h37 a37
    refine Kn.sstep h38 rfl rfl .none (Kn.ex_load h38 (.tmp rfl)) fun Ko hKo => ?_
    go_simp
    try go_bits
    refine hKo _ fun a39 h39 => ?_
    clear hKo Ko h38 a38
    refine Kn.spure h39 rfl rfl .none (Kn.ex_move h39 (.tmp rfl)) fun a40 h40 => ?_
    clear h39 a39
    refine Kn.sstep h40 rfl rfl .none (Kn.ex_index h40 (.tmp rfl) (.tmp rfl)) fun Ko hKo => ?_
    go_simp
    try go_bits
    refine hKo _ fun a41 h41 => ?_
    clear hKo Ko h40 a40
    refine Kn.sstep h41 rfl rfl .none (Kn.ex_bin h41 (.tmp rfl) (.tmp rfl)) fun Ko hKo => ?_
    go_simp
    try go_bits
    refine hKo _ fun a42 h42 => ?_
    clear hKo Ko h41 a41
    refine Kn.sstep h42 rfl rfl .none (Kn.ex_indexAddr h42 (.tmp rfl) (.tmp rfl)) fun Ko hKo => ?_
    go_simp
    try go_bits
    refine hKo _ fun a43 h43 => ?_
    clear hKo Ko h42 a42
    refine wpStill_nil ?_
    refine Kn.stepU h43 rfl .none (Kn.ex_store h43 (.tmp rfl) (.tmp rfl)) fun Ko hKo => ?_
    go_simp
    try go_bits
    refine hKo _ ?_
    clear hKo Ko
    refine wpList_nil ?_
    refine Kn.block_normal ?_
    refine hK11 _ _ ?_
    clear hK11 K11
    replace h43 := h43.cut (.cons (t := 35) rfl (.cons (t := 34) rfl (.cons (t := 6) rfl (.cons (t := 7) rfl (.cons (t := 2) rfl (.cons (t := 5) rfl (.cons (t := 1) rfl (.cons (t := 4) rfl .nil))))))))
    have e5 : Hid (Lt w x y z (v4.setCell ⟨g7, k, none⟩ (.int .u8 ((p' ^^^ q).toNat : Int))).drew) := Lib.hid ((e4.out.set hg7 _).drew)
    have eB5 : Hid (Mixed (v4.setCell ⟨g7, k, none⟩ (.int .u8 ((p' ^^^ q).toNat : Int))).drew g7 N (k + 1) Y.data.toList z.data.toList) := Lib.hid ((eB.out.set hlt _ (by rw [HP'.out, HQ.out])).drew)
    have eA5 : Hid (Mixed (v4.setCell ⟨g7, k, none⟩ (.int .u8 ((p' ^^^ q).toNat : Int))).drew g6 N (k + 1) X.data.toList z.data.toList) := Lib.hid ((eA.out.other _ hne).drew)
    clear hcb hfb cz e4 eA eB hxb
    refine wp_region_lit ?_
    refine Kn.step h43 rfl rfl .none (Kn.ex_bin h43 (.tmp rfl) .const) fun Ko hKo => ?_
    go_simp
    try go_bits
    refine hKo _ _ fun a44 h44 => ?_
    clear hKo Ko h43 a43
    refine Kn.pure h44 rfl rfl .none (Kn.ex_move h44 (.tmp rfl)) fun a45 h45 => ?_
    clear h44 a44
    refine wpList_nil ?_
    replace h45 := h45.cut (.cons (t := 35) rfl (.cons (t := 34) rfl (.cons (t := 6) rfl (.cons (t := 7) rfl (.cons (t := 2) rfl (.cons (t := 5) rfl (.cons (t := 1) rfl (.cons (t := 4) rfl .nil))))))))
    exact hKl8 (m - 1) _ _ (by omega) ⟨k + 1, h45.cut (.turn (t := 35) rfl (by go_num) (.cons (t := 34) rfl (.cons (t := 6) rfl (.cons (t := 7) rfl (.cons (t := 2) rfl (.cons (t := 5) rfl (.cons (t := 1) rfl (.cons (t := 4) rfl .nil)))))))), by omega, e5, eA5, eB5⟩
  · have HE := Lib.hid (show k = N by omega)
    refine wp_seq_k fun K9 hK9 => ?_
    refine wp_region_lit ?_
    have qd : decide (k < N) = false := decide_eq_false (by omega)
    refine Kn.step h20 rfl rfl .none (Kn.ex_bin h20 (.tmp rfl) (.tmp rfl)) fun Ko hKo => ?_
    go_simp
    try go_bits
    refine hKo _ _ fun a21 h21 => ?_
    clear hKo Ko h20 a20
    clear qd
    refine wpList_nil ?_
    refine hK9 _ _ ?_
    clear hK9 K9
    refine wp_seq_k fun K10 hK10 => ?_
    refine Kn.no h21 (.tmp rfl) ?_
    replace h21 := h21.cut (.cons (t := 35) rfl (.cons (t := 34) rfl (.cons (t := 6) rfl (.cons (t := 7) rfl (.cons (t := 2) rfl (.cons (t := 5) rfl (.cons (t := 1) rfl (.cons (t := 4) rfl .nil))))))))
    refine wp_exit ?_
    refine Kn.then_exit ?_
    clear hK10 K10
    refine Kn.then_exit ?_
    clear hKl8 Kl8
    refine Kn.block_exit ?_
    refine hK6 _ _ ?_
    clear hK6 K6
    replace h21 := h21.cut (.cons (t := 6) rfl (.cons (t := 7) rfl (.cons (t := 2) rfl (.cons (t := 5) rfl (.cons (t := 1) rfl (.cons (t := 4) rfl .nil))))))
    have HA4 := Lib.hid ((show Mixed v g6 N N X.data.toList z.data.toList by have := HA3.out; rw [HE.out] at this; exact this).done HXl.out hNz)
    have HB4 := Lib.hid ((show Mixed v g7 N N Y.data.toList z.data.toList by have := HB3.out; rw [HE.out] at this; exact this).done HYl.out hNz)
    clear HA3 HB3 HE hlt hk
    have cx := H3.out.cx
    refine wp_seq_k fun K11 hK11 => ?_
    refine wp_region_lit ?_
    refine Kn.step h21 rfl rfl .none (Kn.ex_indexAddr h21 (.tmp rfl) .const) fun Ko hKo => ?_
    go_simp
    try go_bits
    refine hKo _ _ fun a22 h22 => ?_
    clear hKo Ko h21 a21
    refine Kn.step h22 rfl rfl .none (Kn.ex_load h22 (.tmp rfl)) fun Ko hKo => ?_
    go_simp
    try go_bits
    refine hKo _ _ fun a23 h23 => ?_
    clear hKo Ko h22 a22
    refine Kn.pure h23 rfl rfl .none (Kn.ex_move h23 (.tmp rfl)) fun a24 h24 => ?_
    clear h23 a23
    refine Kn.step h24 rfl rfl .none (Kn.ex_sliceH h24 (.tmp rfl) (.tmp rfl)) fun Ko hKo => ?_
    go_simp
    try go_bits
    refine hKo _ _ fun a25 h25 => ?_
    clear hKo Ko h24 a24
    refine Kn.pure h25 rfl rfl .none (Kn.ex_assign h25 (.tmp rfl)) fun a26 h26 => ?_
    clear h25 a25
    refine wpList_nil ?_
    refine hK11 _ _ ?_
    clear hK11 K11
    replace h26 := h26.cut (.cons (t := 9) rfl (.cons (t := 6) rfl (.cons (t := 7) rfl (.cons (t := 2) rfl (.cons (t := 5) rfl (.cons (t := 1) rfl (.cons (t := 4) rfl .nil)))))))
    clear cx
    obtain ⟨c, hc2⟩ : ∃ c, cut % (N + 1) = c := ⟨_, rfl⟩
    have hcl : c ≤ N := by have := Nat.mod_lt cut (show 0 < N + 1 by omega); omega
    have hmod : (cut : Int) % ((N : Int) + 1) = (c : Int) := by rw [← hc2, Int.natCast_emod, Int.natCast_add]; rfl
    refine wp_seq_k fun K12 hK12 => ?_
    refine wp_region_lit ?_
    refine Kn.pure h26 rfl rfl .none (Kn.ex_move h26 (.tmp rfl)) fun a27 h27 => ?_
    clear h26 a26
    refine Kn.step h27 rfl rfl .none (Kn.ex_convert h27 (.tmp rfl)) fun Ko hKo => ?_
    go_simp
    try go_bits
    refine hKo _ _ fun a28 h28 => ?_
    clear hKo Ko h27 a27
    refine Kn.pure h28 rfl rfl .none (Kn.ex_move h28 (.tmp rfl)) fun a29 h29 => ?_
    clear h28 a28
    refine Kn.step h29 rfl rfl .none (Kn.ex_bin h29 (.tmp rfl) .const) fun Ko hKo => ?_
    go_simp
    try go_bits
    refine hKo _ _ fun a30 h30 => ?_
    clear hKo Ko h29 a29
    refine Kn.step h30 rfl rfl .none (Kn.ex_bin h30 (.tmp rfl) (.tmp rfl)) fun Ko hKo => ?_
    go_simp
    try go_bits
    rw [if_neg (by omega), hmod]
    refine hKo _ _ fun a31 h31 => ?_
    clear hKo Ko h30 a30
    refine Kn.pure h31 rfl rfl .none (Kn.ex_assign h31 (.tmp rfl)) fun a32 h32 => ?_
    clear h31 a31
    refine wpList_nil ?_
    refine hK12 _ _ ?_
    clear hK12 K12
    replace h32 := h32.cut (.cons (t := 10) rfl (.cons (t := 9) rfl (.cons (t := 6) rfl (.cons (t := 7) rfl (.cons (t := 2) rfl (.cons (t := 5) rfl (.cons (t := 4) rfl .nil)))))))
    clear hc2 hmod
    obtain ⟨Xa, hXa⟩ : ∃ S : ByteArray, (⟨(xorl X.data.toList (z.data.toList.take N)).toArray⟩ : ByteArray) = S := ⟨_, rfl⟩
    obtain ⟨Yb, hYb⟩ : ∃ S : ByteArray, (⟨(xorl Y.data.toList (z.data.toList.take N)).toArray⟩ : ByteArray) = S := ⟨_, rfl⟩
    have hzl : (z.data.toList.take N).length = N := by rw [List.length_take]; show min N z.size = N; omega
    have HXal : Hid ((xorl X.data.toList (z.data.toList.take N)).length = N) := Lib.hid (by unfold xorl; rw [List.length_zipWith, HXl.out, hzl]; omega)
    have HYbl : Hid ((xorl Y.data.toList (z.data.toList.take N)).length = N) := Lib.hid (by unfold xorl; rw [List.length_zipWith, HYl.out, hzl]; omega)
    have HXad : Hid (Xa.data.toList = xorl X.data.toList (z.data.toList.take N)) := Lib.hid (by rw [← hXa])
    have HYbd : Hid (Yb.data.toList = xorl Y.data.toList (z.data.toList.take N)) := Lib.hid (by rw [← hYb])
    have HLIN : Hid (crc X.data.toList ^^^ crc Y.data.toList = crc Xa.data.toList ^^^ crc Yb.data.toList) := Lib.hid (by rw [HXad.out, HYbd.out]; exact crc_linear _ _ _ (by rw [HXl.out, hzl]) (by rw [HYl.out, hzl]))
    have hXs : X.size ≤ 300 := by rw [HXs.out]; exact hN3
    have hYs : Y.size ≤ 300 := by rw [HYs.out]; exact hN3
    have hXas : Xa.size ≤ 300 := by show Xa.data.toList.length ≤ 300; rw [HXad.out, HXal.out]; exact hN3
    have hYbs : Yb.size ≤ 300 := by show Yb.data.toList.length ≤ 300; rw [HYbd.out, HYbl.out]; exact hN3
    have hcX : c ≤ X.size := by rw [HXs.out]; exact hcl
    obtain ⟨U, hU⟩ : ∃ U, X.extract 0 c = U := ⟨_, rfl⟩
    obtain ⟨V, hV⟩ : ∃ V, X.extract c X.size = V := ⟨_, rfl⟩
    have HUV : Hid (U.data.toList ++ V.data.toList = X.data.toList) := Lib.hid (by rw [← hU, ← hV, cut_data, cut_data2, List.take_append_drop])
    have hUs : U.size ≤ 300 := by have := congrArg List.length HUV.out; rw [List.length_append] at this; have e1 : U.data.toList.length = U.size := rfl; have e2 : X.data.toList.length = X.size := rfl; omega
    have hVs : V.size ≤ 300 := by have := congrArg List.length HUV.out; rw [List.length_append] at this; have e1 : V.data.toList.length = V.size := rfl; have e2 : X.data.toList.length = X.size := rfl; omega
    have k1 := crc_lt X.data.toList
    have k2 := crc_lt Y.data.toList
    have k3 := crc_lt Xa.data.toList
    have k4 := crc_lt Yb.data.toList
    obtain ⟨s1, hs1⟩ : ∃ s, crc X.data.toList = s := ⟨_, rfl⟩
    obtain ⟨s2, hs2⟩ : ∃ s, crc Y.data.toList = s := ⟨_, rfl⟩
    obtain ⟨s3, hs3⟩ : ∃ s, crc Xa.data.toList = s := ⟨_, rfl⟩
    obtain ⟨s4, hs4⟩ : ∃ s, crc Yb.data.toList = s := ⟨_, rfl⟩
    rw [hs1] at k1 HLIN
    rw [hs2] at k2 HLIN
    rw [hs3] at k3 HLIN
    rw [hs4] at k4 HLIN
    have hx12 := i64_xor_nat' s1 s2 k1 k2
    have hx34 := i64_xor_nat' s3 s4 k3 k4
    rw [← HLIN.out] at hx34
    have HS1 := Lib.hid hs1
    have HS2 := Lib.hid hs2
    have HS3 := Lib.hid hs3
    have HS4 := Lib.hid hs4
    obtain ⟨s12, hs12⟩ : ∃ s, s1 ^^^ s2 = s := ⟨_, rfl⟩
    rw [hs12] at hx12 hx34
    clear hs1 hs2 hs3 hs4 hs12 hzl
    have HS0 : Hid (Lx w x y z g6 g7 (xorl X.data.toList (z.data.toList.take N)) (xorl Y.data.toList (z.data.toList.take N)) v) := Lib.hid ⟨H3.out, HA4.out, HB4.out⟩
    clear H3 HA4 HB4
    refine wp_seq_k fun K13 hK13 => ?_
    replace h32 := h32.cut (.cons (t := 10) rfl (.cons (t := 9) rfl (.cons (t := 6) rfl (.cons (t := 7) rfl (.cons (t := 2) rfl (.cons (t := 5) rfl .nil))))))
    refine Kn.any (Lx w x y z g6 g7 (xorl X.data.toList (z.data.toList.take N)) (xorl Y.data.toList (z.data.toList.take N))) (fun u u' => Below u.heap.size u u') (Kn.TL [Kn.Is (Value.string X), IsR 1 (fun _ => X), Kn.Is (Value.int .i64 (s1 : Int)), Kn.Is (Value.pointer (some ⟨w.heap.size, 1, none⟩)), Kn.Is (Value.string y), Kn.Is (Value.int .i64 (N : Int)), Kn.Is (Value.string Y), IsR 1 (fun _ => Y), Kn.Is (Value.int .i64 (s2 : Int)), Kn.Is (Value.int .i64 (s12 : Int)), Kn.Is (Value.slice (some ⟨g6, 0, none⟩) N c6), Kn.Is (Value.string Xa), IsR 1 (fun _ => Xa), Kn.Is (Value.int .i64 (s3 : Int)), Kn.Is (Value.slice (some ⟨g7, 0, none⟩) N c7), Kn.Is (Value.string Yb), IsR 1 (fun _ => Yb), Kn.Is (Value.int .i64 (s4 : Int)), Kn.Is (Value.int .i64 (s12 : Int)), Kn.Is (Value.bool true), Kn.Is (Value.bool true), Kn.Is (Value.string X), Kn.Is (Value.int .i64 (c : Int)), Kn.Is (Value.string U), Kn.Is (Value.string X), Kn.Is (Value.int .i64 (c : Int)), Kn.Is (Value.string V), IsR 3 (three U ⟨#[]⟩ V), Kn.Is (Value.int .i64 (s1 : Int)), Kn.Is (Value.string X), IsR 1 (fun _ => X), Kn.Is (Value.int .i64 (s1 : Int)), Kn.Is (Value.bool true), Kn.Is (Value.bool true), Kn.Is (Value.bool true)]) (by kernel_rfl) h32 (by kernel_rfl) (by kernel_rfl) rfl (Kn.Keeps.all (.cons Kn.Is.keep (.cons IsR.keep (.cons Kn.Is.keep (.cons Kn.Is.keep (.cons Kn.Is.keep (.cons Kn.Is.keep (.cons Kn.Is.keep (.cons IsR.keep (.cons Kn.Is.keep (.cons Kn.Is.keep (.cons Kn.Is.keep (.cons Kn.Is.keep (.cons IsR.keep (.cons Kn.Is.keep (.cons Kn.Is.keep (.cons Kn.Is.keep (.cons IsR.keep (.cons Kn.Is.keep (.cons Kn.Is.keep (.cons Kn.Is.keep (.cons Kn.Is.keep (.cons Kn.Is.keep (.cons Kn.Is.keep (.cons Kn.Is.keep (.cons Kn.Is.keep (.cons Kn.Is.keep (.cons Kn.Is.keep (.cons IsR.keep (.cons Kn.Is.keep (.cons Kn.Is.keep (.cons IsR.keep (.cons Kn.Is.keep (.cons Kn.Is.keep (.cons Kn.Is.keep (.cons Kn.Is.keep .nil)))))))))))))))))))))))))))))))))))) HS0.out.drew ⟨?_, ?_, ?_, ?_, ?_, ?_, ?_, ?_, ?_, ?_, ?_, ?_, ?_, ?_, ?_, ?_, ?_, ?_, ?_, ?_, ?_, ?_, ?_, ?_, ?_, ?_, ?_, ?_, ?_, ?_, ?_, ?_, ?_, ?_, ?_, trivial⟩ ?_
    · refine Kn.ok fun a33 u L h33 hS hH => ?_
      exact Kn.apure h33 .none (Kn.ex_move h33 (.tmp rfl)) rfl hS (Below.refl _ _)
    · refine Kn.ok fun a33 u L h33 hS hH => ?_
      replace h33 := h33.more (show a33.eval (.tmp 68) = Value.string X from hH 0 68 rfl rfl)
      refine Kn.aop h33 .none (Kn.ex_buildSlice h33 (.cons (.tmp rfl) .nil)) fun Ko hKo => ?_
      go_simp
      try go_bits
      exact hKo _ _ (IsR.one _ _ _ _) (hS.on ((Below.refl _ _).alloc (Nat.le_refl _) _)) ((Below.refl _ _).alloc (Nat.le_refl _) _)
    · refine Kn.ok fun a33 u L h33 hS hH => ?_
      obtain ⟨A69, c69, e69, hr69⟩ : IsR 1 (fun _ => X) (a33.eval (.tmp 69)) u := hH 1 69 rfl rfl
      replace h33 := h33.more e69
      clear e69
      refine Kn.acall h33 .none (Kn.ex_call h33 (.cons (.tmp rfl) .nil)) Try.call8 (sumR1 X A69 c69 _ (by unfold maxLen; omega) hr69) fun e u2 hp => ?_
      obtain ⟨rfl, hb⟩ := hp
      exact ⟨_, rfl, (show _ = _ by rw [HS1.out]), (hS.on hb), hb⟩
    · refine Kn.ok fun a33 u L h33 hS hH => ?_
      refine Kn.aop h33 .none (Kn.ex_indexAddr h33 (.tmp rfl) .const) fun Ko hKo => ?_
      go_simp
      try go_bits
      exact hKo _ _ rfl hS (Below.refl _ _)
    · refine Kn.ok fun a33 u L h33 hS hH => ?_
      replace h33 := h33.more (show a33.eval (.tmp 71) = Value.pointer (some ⟨w.heap.size, 1, none⟩) from hH 3 71 rfl rfl)
      have cy := hS.lt.cy
      refine Kn.aop h33 .none (Kn.ex_load h33 (.tmp rfl)) fun Ko hKo => ?_
      go_simp
      try go_bits
      exact hKo _ _ rfl hS (Below.refl _ _)
    · refine Kn.ok fun a33 u L h33 hS hH => ?_
      exact Kn.apure h33 .none (Kn.ex_move h33 (.tmp rfl)) rfl hS (Below.refl _ _)
    · refine Kn.ok fun a33 u L h33 hS hH => ?_
      replace h33 := h33.more (show a33.eval (.tmp 72) = Value.string y from hH 4 72 rfl rfl)
      replace h33 := h33.more (show a33.eval (.tmp 73) = Value.int .i64 (N : Int) from hH 5 73 rfl rfl)
      refine Kn.aop h33 .none (Kn.ex_sliceH h33 (.tmp rfl) (.tmp rfl)) fun Ko hKo => ?_
      go_simp
      try go_bits
      exact hKo _ _ rfl hS (Below.refl _ _)
    · refine Kn.ok fun a33 u L h33 hS hH => ?_
      replace h33 := h33.more (show a33.eval (.tmp 74) = Value.string Y from hH 6 74 rfl rfl)
      refine Kn.aop h33 .none (Kn.ex_buildSlice h33 (.cons (.tmp rfl) .nil)) fun Ko hKo => ?_
      go_simp
      try go_bits
      exact hKo _ _ (IsR.one _ _ _ _) (hS.on ((Below.refl _ _).alloc (Nat.le_refl _) _)) ((Below.refl _ _).alloc (Nat.le_refl _) _)
    · refine Kn.ok fun a33 u L h33 hS hH => ?_
      obtain ⟨A75, c75, e75, hr75⟩ : IsR 1 (fun _ => Y) (a33.eval (.tmp 75)) u := hH 7 75 rfl rfl
      replace h33 := h33.more e75
      clear e75
      refine Kn.acall h33 .none (Kn.ex_call h33 (.cons (.tmp rfl) .nil)) Try.call8 (sumR1 Y A75 c75 _ (by unfold maxLen; omega) hr75) fun e u2 hp => ?_
      obtain ⟨rfl, hb⟩ := hp
      exact ⟨_, rfl, (show _ = _ by rw [HS2.out]), (hS.on hb), hb⟩
    · refine Kn.ok fun a33 u L h33 hS hH => ?_
      replace h33 := h33.more (show a33.eval (.tmp 70) = Value.int .i64 (s1 : Int) from hH 2 70 rfl rfl)
      replace h33 := h33.more (show a33.eval (.tmp 76) = Value.int .i64 (s2 : Int) from hH 8 76 rfl rfl)
      refine Kn.aop h33 .none (Kn.ex_bin h33 (.tmp rfl) (.tmp rfl)) fun Ko hKo => ?_
      go_simp
      try go_bits
      exact hKo _ _ rfl hS (Below.refl _ _)
    · refine Kn.ok fun a33 u L h33 hS hH => ?_
      exact Kn.apure h33 .none (Kn.ex_move h33 (.tmp rfl)) rfl hS (Below.refl _ _)
    · refine Kn.ok fun a33 u L h33 hS hH => ?_
      replace h33 := h33.more (show a33.eval (.tmp 78) = Value.slice (some ⟨g6, 0, none⟩) N c6 from hH 10 78 rfl rfl)
      exact Kn.aop h33 .none (Kn.ex_convert h33 (.tmp rfl)) fun Ko hKo => by rw [(hS.ba.text N c6 HXal.out.symm)]; exact hKo _ _ (show _ = _ by rw [hXa]) hS (Below.refl _ _)
    · refine Kn.ok fun a33 u L h33 hS hH => ?_
      replace h33 := h33.more (show a33.eval (.tmp 79) = Value.string Xa from hH 11 79 rfl rfl)
      refine Kn.aop h33 .none (Kn.ex_buildSlice h33 (.cons (.tmp rfl) .nil)) fun Ko hKo => ?_
      go_simp
      try go_bits
      exact hKo _ _ (IsR.one _ _ _ _) (hS.on ((Below.refl _ _).alloc (Nat.le_refl _) _)) ((Below.refl _ _).alloc (Nat.le_refl _) _)
    · refine Kn.ok fun a33 u L h33 hS hH => ?_
      obtain ⟨A80, c80, e80, hr80⟩ : IsR 1 (fun _ => Xa) (a33.eval (.tmp 80)) u := hH 12 80 rfl rfl
      replace h33 := h33.more e80
      clear e80
      refine Kn.acall h33 .none (Kn.ex_call h33 (.cons (.tmp rfl) .nil)) Try.call8 (sumR1 Xa A80 c80 _ (by unfold maxLen; omega) hr80) fun e u2 hp => ?_
      obtain ⟨rfl, hb⟩ := hp
      exact ⟨_, rfl, (show _ = _ by rw [HS3.out]), (hS.on hb), hb⟩
    · refine Kn.ok fun a33 u L h33 hS hH => ?_
      exact Kn.apure h33 .none (Kn.ex_move h33 (.tmp rfl)) rfl hS (Below.refl _ _)
    · refine Kn.ok fun a33 u L h33 hS hH => ?_
      replace h33 := h33.more (show a33.eval (.tmp 82) = Value.slice (some ⟨g7, 0, none⟩) N c7 from hH 14 82 rfl rfl)
      exact Kn.aop h33 .none (Kn.ex_convert h33 (.tmp rfl)) fun Ko hKo => by rw [(hS.bb.text N c7 HYbl.out.symm)]; exact hKo _ _ (show _ = _ by rw [hYb]) hS (Below.refl _ _)
    · refine Kn.ok fun a33 u L h33 hS hH => ?_
      replace h33 := h33.more (show a33.eval (.tmp 83) = Value.string Yb from hH 15 83 rfl rfl)
      refine Kn.aop h33 .none (Kn.ex_buildSlice h33 (.cons (.tmp rfl) .nil)) fun Ko hKo => ?_
      go_simp
      try go_bits
      exact hKo _ _ (IsR.one _ _ _ _) (hS.on ((Below.refl _ _).alloc (Nat.le_refl _) _)) ((Below.refl _ _).alloc (Nat.le_refl _) _)
    · refine Kn.ok fun a33 u L h33 hS hH => ?_
      obtain ⟨A84, c84, e84, hr84⟩ : IsR 1 (fun _ => Yb) (a33.eval (.tmp 84)) u := hH 16 84 rfl rfl
      replace h33 := h33.more e84
      clear e84
      refine Kn.acall h33 .none (Kn.ex_call h33 (.cons (.tmp rfl) .nil)) Try.call8 (sumR1 Yb A84 c84 _ (by unfold maxLen; omega) hr84) fun e u2 hp => ?_
      obtain ⟨rfl, hb⟩ := hp
      exact ⟨_, rfl, (show _ = _ by rw [HS4.out]), (hS.on hb), hb⟩
    · refine Kn.ok fun a33 u L h33 hS hH => ?_
      replace h33 := h33.more (show a33.eval (.tmp 81) = Value.int .i64 (s3 : Int) from hH 13 81 rfl rfl)
      replace h33 := h33.more (show a33.eval (.tmp 85) = Value.int .i64 (s4 : Int) from hH 17 85 rfl rfl)
      refine Kn.aop h33 .none (Kn.ex_bin h33 (.tmp rfl) (.tmp rfl)) fun Ko hKo => ?_
      go_simp
      try go_bits
      exact hKo _ _ rfl hS (Below.refl _ _)
    · refine Kn.ok fun a33 u L h33 hS hH => ?_
      replace h33 := h33.more (show a33.eval (.tmp 77) = Value.int .i64 (s12 : Int) from hH 9 77 rfl rfl)
      replace h33 := h33.more (show a33.eval (.tmp 86) = Value.int .i64 (s12 : Int) from hH 18 86 rfl rfl)
      refine Kn.aop h33 .none (Kn.ex_bin h33 (.tmp rfl) (.tmp rfl)) fun Ko hKo => ?_
      go_simp
      try go_bits
      exact hKo _ _ rfl hS (Below.refl _ _)
    · refine Kn.ok fun a33 u L h33 hS hH => ?_
      replace h33 := h33.more (show a33.eval (.tmp 87) = Value.bool true from hH 19 87 rfl rfl)
      exact Kn.apure h33 .none (Kn.ex_move h33 (.tmp rfl)) rfl hS (Below.refl _ _)
    · refine Kn.ok fun a33 u L h33 hS hH => ?_
      replace h33 := h33.more (show a33.eval (.tmp 88) = Value.bool true from hH 20 88 rfl rfl)
      exact Kn.apure h33 (.some rfl rfl rfl) (Kn.ex_move h33 (.tmp rfl)) rfl hS (Below.refl _ _)
    · refine Kn.ok fun a33 u L h33 hS hH => ?_
      replace h33 := h33.more (show a33.eval (.tmp 88) = Value.bool true from hH 20 88 rfl rfl)
      exact Kn.apure h33 (.some rfl rfl rfl) (Kn.ex_move h33 (.tmp rfl)) rfl hS (Below.refl _ _)
    · refine Kn.ok fun a33 u L h33 hS hH => ?_
      replace h33 := h33.more (show a33.eval (.tmp 89) = Value.string X from hH 21 89 rfl rfl)
      replace h33 := h33.more (show a33.eval (.tmp 90) = Value.int .i64 (c : Int) from hH 22 90 rfl rfl)
      replace h33 := h33.more (show a33.eval (.tmp 88) = Value.bool true from hH 20 88 rfl rfl)
      refine Kn.aop h33 (.some rfl rfl rfl) (Kn.ex_sliceH h33 (.tmp rfl) (.tmp rfl)) fun Ko hKo => ?_
      go_simp
      try go_bits
      exact hKo _ _ rfl hS (Below.refl _ _)
    · refine Kn.ok fun a33 u L h33 hS hH => ?_
      replace h33 := h33.more (show a33.eval (.tmp 88) = Value.bool true from hH 20 88 rfl rfl)
      exact Kn.apure h33 (.some rfl rfl rfl) (Kn.ex_move h33 (.tmp rfl)) rfl hS (Below.refl _ _)
    · refine Kn.ok fun a33 u L h33 hS hH => ?_
      replace h33 := h33.more (show a33.eval (.tmp 88) = Value.bool true from hH 20 88 rfl rfl)
      exact Kn.apure h33 (.some rfl rfl rfl) (Kn.ex_move h33 (.tmp rfl)) rfl hS (Below.refl _ _)
    · refine Kn.ok fun a33 u L h33 hS hH => ?_
      replace h33 := h33.more (show a33.eval (.tmp 92) = Value.string X from hH 24 92 rfl rfl)
      replace h33 := h33.more (show a33.eval (.tmp 93) = Value.int .i64 (c : Int) from hH 25 93 rfl rfl)
      replace h33 := h33.more (show a33.eval (.tmp 88) = Value.bool true from hH 20 88 rfl rfl)
      refine Kn.aop h33 (.some rfl rfl rfl) (Kn.ex_sliceL h33 (.tmp rfl) (.tmp rfl)) fun Ko hKo => ?_
      go_simp
      try go_bits
      exact hKo _ _ rfl hS (Below.refl _ _)
    · refine Kn.ok fun a33 u L h33 hS hH => ?_
      replace h33 := h33.more (show a33.eval (.tmp 91) = Value.string U from hH 23 91 rfl rfl)
      replace h33 := h33.more (show a33.eval (.tmp 94) = Value.string V from hH 26 94 rfl rfl)
      replace h33 := h33.more (show a33.eval (.tmp 88) = Value.bool true from hH 20 88 rfl rfl)
      refine Kn.aop h33 (.some rfl rfl rfl) (Kn.ex_buildSlice h33 (.cons (.tmp rfl) (.cons .const (.cons (.tmp rfl) .nil)))) fun Ko hKo => ?_
      go_simp
      try go_bits
      exact hKo _ _ (IsR.three _ _ _ _ _ _) (hS.on ((Below.refl _ _).alloc (Nat.le_refl _) _)) ((Below.refl _ _).alloc (Nat.le_refl _) _)
    · refine Kn.ok fun a33 u L h33 hS hH => ?_
      obtain ⟨A95, c95, e95, hr95⟩ : IsR 3 (three U ⟨#[]⟩ V) (a33.eval (.tmp 95)) u := hH 27 95 rfl rfl
      replace h33 := h33.more e95
      clear e95
      replace h33 := h33.more (show a33.eval (.tmp 88) = Value.bool true from hH 20 88 rfl rfl)
      refine Kn.acall h33 (.some rfl rfl rfl) (Kn.ex_call h33 (.cons (.tmp rfl) .nil)) Try.call8 (sumR3 X U V A95 c95 _ (by unfold maxLen; omega) (by unfold maxLen; omega) hr95 HUV.out) fun e u2 hp => ?_
      obtain ⟨rfl, hb⟩ := hp
      exact ⟨_, rfl, (show _ = _ by rw [HS1.out]), (hS.on hb), hb⟩
    · refine Kn.ok fun a33 u L h33 hS hH => ?_
      replace h33 := h33.more (show a33.eval (.tmp 88) = Value.bool true from hH 20 88 rfl rfl)
      exact Kn.apure h33 (.some rfl rfl rfl) (Kn.ex_move h33 (.tmp rfl)) rfl hS (Below.refl _ _)
    · refine Kn.ok fun a33 u L h33 hS hH => ?_
      replace h33 := h33.more (show a33.eval (.tmp 97) = Value.string X from hH 29 97 rfl rfl)
      replace h33 := h33.more (show a33.eval (.tmp 88) = Value.bool true from hH 20 88 rfl rfl)
      refine Kn.aop h33 (.some rfl rfl rfl) (Kn.ex_buildSlice h33 (.cons (.tmp rfl) .nil)) fun Ko hKo => ?_
      go_simp
      try go_bits
      exact hKo _ _ (IsR.one _ _ _ _) (hS.on ((Below.refl _ _).alloc (Nat.le_refl _) _)) ((Below.refl _ _).alloc (Nat.le_refl _) _)
    · refine Kn.ok fun a33 u L h33 hS hH => ?_
      obtain ⟨A98, c98, e98, hr98⟩ : IsR 1 (fun _ => X) (a33.eval (.tmp 98)) u := hH 30 98 rfl rfl
      replace h33 := h33.more e98
      clear e98
      replace h33 := h33.more (show a33.eval (.tmp 88) = Value.bool true from hH 20 88 rfl rfl)
      refine Kn.acall h33 (.some rfl rfl rfl) (Kn.ex_call h33 (.cons (.tmp rfl) .nil)) Try.call8 (sumR1 X A98 c98 _ (by unfold maxLen; omega) hr98) fun e u2 hp => ?_
      obtain ⟨rfl, hb⟩ := hp
      exact ⟨_, rfl, (show _ = _ by rw [HS1.out]), (hS.on hb), hb⟩
    · refine Kn.ok fun a33 u L h33 hS hH => ?_
      replace h33 := h33.more (show a33.eval (.tmp 96) = Value.int .i64 (s1 : Int) from hH 28 96 rfl rfl)
      replace h33 := h33.more (show a33.eval (.tmp 99) = Value.int .i64 (s1 : Int) from hH 31 99 rfl rfl)
      replace h33 := h33.more (show a33.eval (.tmp 88) = Value.bool true from hH 20 88 rfl rfl)
      refine Kn.aop h33 (.some rfl rfl rfl) (Kn.ex_bin h33 (.tmp rfl) (.tmp rfl)) fun Ko hKo => ?_
      go_simp
      try go_bits
      exact hKo _ _ rfl hS (Below.refl _ _)
    · refine Kn.ok fun a33 u L h33 hS hH => ?_
      replace h33 := h33.more (show a33.eval (.tmp 88) = Value.bool true from hH 20 88 rfl rfl)
      replace h33 := h33.more (show a33.eval (.tmp 100) = Value.bool true from hH 32 100 rfl rfl)
      exact Kn.apure h33 .none (Kn.ex_pick h33 (.tmp rfl) (.tmp rfl)) rfl hS (Below.refl _ _)
    · refine Kn.ok fun a33 u L h33 hS hH => ?_
      replace h33 := h33.more (show a33.eval (.tmp 101) = Value.bool true from hH 33 101 rfl rfl)
      exact Kn.apure h33 .none (Kn.ex_assign h33 (.tmp rfl)) rfl hS (Below.refl _ _)
    intro a33 w9 h33 hS hT
    clear h32 a32
    replace h33 := h33.more (show a33.eval (.tmp 4) = Value.bool true from hT 34 4 rfl)
    clear hT
    refine hK13 _ _ ?_
    clear hK13 K13
    replace h33 := h33.cut (.cons (t := 4) rfl .nil)
    refine wp_ret ?_
    exact Kn.ret1 h33 rfl rfl ⟨rfl, hS.lt.old⟩
theorem linear_all (x y z : ByteArray) (cut : Int) (w : World) (hx : x.size ≤ maxLen) (hy : y.size ≤ maxLen) (hz : z.size ≤ maxLen) (h0 : 0 ≤ cut) (hc : cut ≤ 65535) :
    Calls Try.prog 4 #[.agg #[.string x, .string y, .string z], .int .u16 cut] w fun e w' => e = .returned (.bool true) ∧ Below w.heap.size w w' := by
  obtain ⟨m, rfl⟩ := Int.eq_ofNat_of_zero_le h0
  exact linear_walk x y z m w hx hy hz (by omega)
end Go.Proofs.Ythjdlilafamaoaa.Frame
