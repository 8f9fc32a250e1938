/- The law GapPuts, walked (written by gen_puts.py). -/
import Derived.Test.YtoggeiaofpdboaaDoorGapD
import Derived.Test.YtoggeiaofpdboaaDoorRef06B
import Derived.Test.YtoggeiaofpdboaaDoorInts
import Derived.Test.YtoggeiaofpdboaaDoorErrCode
namespace Go.Proofs.YtoggeiaofpdboaaDoor.Gap
open Go Go.RowKit Go.Lib Oct Num OwX

theorem first_bad (N : Int) (l : List Int) : ∃ f, f ≤ l.length ∧ (∀ i, i < f → ¬ badT N l i) ∧ (f < l.length → badT N l f) := by
  have H : ∀ k, k ≤ l.length → (∀ i, i < k → ¬ badT N l i) ∨ ∃ f, f < k ∧ (∀ i, i < f → ¬ badT N l i) ∧ badT N l f := by
    intro k
    induction k with
    | zero => intro _; exact .inl fun i hi => absurd hi (by omega)
    | succ k ih =>
      intro hk
      rcases ih (by omega) with h | ⟨f, h1, h2, h3⟩
      · by_cases hb : badT N l k
        · exact .inr ⟨k, by omega, h, hb⟩
        · refine .inl fun i hi => ?_
          rcases Nat.lt_or_ge i k with h4 | h4
          · exact h i h4
          · rw [show i = k by omega]; exact hb
      · exact .inr ⟨f, by omega, h2, h3⟩
  rcases H l.length (Nat.le_refl _) with h | ⟨f, h1, h2, h3⟩
  · exact ⟨l.length, Nat.le_refl _, h, fun h => absurd h (by omega)⟩
  · exact ⟨f, by omega, h2, fun _ => h3⟩
/-- What is kept all along. -/
def PK (w : World) (g : Nat) (A : Option Addr) (l : List Int) (cs : Array Value) (u : World) : Prop := Err.ErrTab u ∧ St.St u g 24 cs ∧ IIn u A l ∧ Below w.heap.size w u
theorem PK.on {w : World} {g : Nat} {A : Option Addr} {l : List Int} {cs : Array Value} {u u' : World} (h : PK w g A l cs u) (hb : Below u.heap.size u u') : PK w g A l cs u' := ⟨h.1.on hb, h.2.1.on hb, h.2.2.1.on hb, h.2.2.2.trans (hb.mono h.2.2.2.size)⟩
theorem PK.drewN {w : World} {g : Nat} {A : Option Addr} {l : List Int} {cs : Array Value} {u : World} (h : PK w g A l cs u) (q : Nat) : PK w g A l cs (u.drewN q) := h.on ⟨rfl, rfl, rfl, Nat.le_refl _, fun _ _ => rfl⟩

set_option maxRecDepth 100000 in
set_option maxHeartbeats 4000000 in
theorem puts_all (N v : Int) (A : Option Addr) (ca : Nat) (l : List Int) (a b : ByteArray) (w : World) (hT : Err.ErrTab w) (hla : l.length ≤ maxLen) (hca : l.length ≤ ca) (hcm : ca ≤ maxLen) (has : a.size ≤ maxLen) (hbs : b.size ≤ maxLen) (hA : IIn w A l) :
    Calls Tryd.prog 3 #[.int .i64 N, .int .i64 v, .agg #[.slice A l.length ca, .string a, .string b]] w fun e w' => e = .returned (.bool true) ∧ Below w.heap.size w w' := by
  unfold maxLen at hla has hbs
  refine Kn.calls Tryd.func3 rfl Tryd.ntmps3 rfl (.cons (t := 0) rfl (.cons (t := 1) rfl (.cons (t := 2) rfl .nil))) fun fa0 fh0 => ?_
  refine wp_seq_k fun K1 hK1 => ?_
  refine wp_region_lit ?_
  refine Kn.step fh0 rfl rfl .none (Kn.ex_box fh0 (.tmp rfl)) fun Ko hKo => ?_
  go_simp
  try go_bits
  refine hKo _ _ fun fa1 fh1 => ?_
  clear hKo Ko fh0 fa0
  refine Kn.pure fh1 rfl rfl .none (Kn.ex_assign fh1 .const) fun fa2 fh2 => ?_
  clear fh1 fa1
  refine wpList_nil ?_
  refine hK1 _ _ ?_
  clear hK1 K1
  replace fh2 := fh2.cut (.cons (t := 6) rfl (.cons (t := 5) rfl (.cons (t := 0) rfl (.cons (t := 1) rfl .nil))))
  refine Kn.gen (PK w w.heap.size A l #[.slice A l.length ca, .string a, .string b]) ⟨hT.on ((Below.refl _ w).alloc (Nat.le_refl _) _), St.St.new _ _ _, hA.on ((Below.refl _ w).alloc (Nat.le_refl _) _), (Below.refl _ w).alloc (Nat.le_refl _) _⟩ fun w0 hu => ?_
  obtain ⟨g, hg⟩ : ∃ g, w.heap.size = g := ⟨_, rfl⟩
  rw [hg] at hu fh2
  have HK0 := Lib.hid hu
  clear hu hg hT hA
  refine wp_seq_k fun K2 hK2 => ?_
  refine wp_seq_k fun K3 hK3 => ?_
  refine wp_region_lit ?_
  refine Kn.call fh2 rfl rfl .none (Kn.ex_call fh2 .nil) Tryd.call5 (awake6 w0) fun e w1 hp => ?_
  obtain ⟨rfl, hb1⟩ := hp
  refine ⟨_, rfl, fun fa3 fh3 => ?_⟩
  clear fh2 fa2
  refine Kn.step fh3 rfl rfl .none (Kn.ex_un fh3 (.tmp rfl)) fun Ko hKo => ?_
  go_simp
  try go_bits
  refine hKo _ _ fun fa4 fh4 => ?_
  clear hKo Ko fh3 fa3
  refine wpList_nil ?_
  refine hK3 _ _ ?_
  clear hK3 K3
  replace fh4 := fh4.cut (.cons (t := 20) rfl (.cons (t := 6) rfl (.cons (t := 5) rfl (.cons (t := 0) rfl (.cons (t := 1) rfl .nil)))))
  refine Kn.no fh4 (.tmp rfl) ?_
  refine wp_skip ?_
  refine hK2 _ _ ?_
  clear hK2 K2
  replace fh4 := fh4.cut (.cons (t := 6) rfl (.cons (t := 5) rfl (.cons (t := 0) rfl (.cons (t := 1) rfl .nil))))
  have HK := Lib.hid (HK0.out.on hb1)
  clear hb1 HK0
  have hC := fun u h => Err.code_F 0 0 u h
  clear hC
  have c0 := HK.out.2.1.cell 0 rfl
  have c1 := HK.out.2.1.cell 1 rfl
  have c2 := HK.out.2.1.cell 2 rfl
  by_cases h1 : (300 : Int) < (l.length : Int)
  · refine wp_seq_k fun K4 hK4 => ?_
    refine wp_seq_k fun K5 hK5 => ?_
    refine wp_region_lit ?_
    refine Kn.step fh4 rfl rfl .none (Kn.ex_fieldAddr fh4 (.tmp rfl)) fun Ko hKo => ?_
    go_simp
    try go_bits
    refine hKo _ _ fun fa5 fh5 => ?_
    clear hKo Ko fh4 fa4
    refine Kn.step fh5 rfl rfl .none (Kn.ex_load fh5 (.tmp rfl)) fun Ko hKo => ?_
    go_simp
    try go_bits
    refine hKo _ _ fun fa6 fh6 => ?_
    clear hKo Ko fh5 fa5
    refine Kn.step fh6 rfl rfl .none (Kn.ex_len fh6 (.tmp rfl)) fun Ko hKo => ?_
    go_simp
    try go_bits
    refine hKo _ _ fun fa7 fh7 => ?_
    clear hKo Ko fh6 fa6
    refine Kn.step fh7 rfl rfl .none (Kn.ex_bin fh7 (.tmp rfl) .const) fun Ko hKo => ?_
    go_simp
    try go_bits
    refine hKo _ _ fun fa8 fh8 => ?_
    clear hKo Ko fh7 fa7
    refine Kn.pure fh8 rfl rfl .none (Kn.ex_move fh8 (.tmp rfl)) fun fa9 fh9 => ?_
    clear fh8 fa8
    refine Kn.skip fh9 rfl rfl (.some rfl rfl rfl) fun fa10 fh10 => ?_
    clear fh9 fa9
    refine Kn.skip fh10 rfl rfl (.some rfl rfl rfl) fun fa11 fh11 => ?_
    clear fh10 fa10
    refine Kn.skip fh11 rfl rfl (.some rfl rfl rfl) fun fa12 fh12 => ?_
    clear fh11 fa11
    refine Kn.skip fh12 rfl rfl (.some rfl rfl rfl) fun fa13 fh13 => ?_
    clear fh12 fa12
    refine Kn.pure fh13 rfl rfl .none (Kn.ex_pick fh13 (.tmp rfl) .const) fun fa14 fh14 => ?_
    clear fh13 fa13
    refine Kn.pure fh14 rfl rfl .none (Kn.ex_move fh14 (.tmp rfl)) fun fa15 fh15 => ?_
    clear fh14 fa14
    refine Kn.skip fh15 rfl rfl (.some rfl rfl rfl) fun fa16 fh16 => ?_
    clear fh15 fa15
    refine Kn.skip fh16 rfl rfl (.some rfl rfl rfl) fun fa17 fh17 => ?_
    clear fh16 fa16
    refine Kn.skip fh17 rfl rfl (.some rfl rfl rfl) fun fa18 fh18 => ?_
    clear fh17 fa17
    refine Kn.skip fh18 rfl rfl (.some rfl rfl rfl) fun fa19 fh19 => ?_
    clear fh18 fa18
    refine Kn.pure fh19 rfl rfl .none (Kn.ex_pick fh19 (.tmp rfl) .const) fun fa20 fh20 => ?_
    clear fh19 fa19
    refine wpList_nil ?_
    refine hK5 _ _ ?_
    clear hK5 K5
    replace fh20 := fh20.cut (.cons (t := 36) rfl (.cons (t := 6) rfl (.cons (t := 5) rfl (.cons (t := 0) rfl (.cons (t := 1) rfl .nil)))))
    refine Kn.yes fh20 (.tmp rfl) ?_
    replace fh20 := fh20.cut (.cons (t := 6) rfl (.cons (t := 5) rfl (.cons (t := 0) rfl (.cons (t := 1) rfl .nil))))
    refine wp_seq_k fun K6 hK6 => ?_
    refine wp_region_lit ?_
    refine Kn.pure fh20 rfl rfl .none (Kn.ex_assign fh20 .const) fun fa21 fh21 => ?_
    clear fh20 fa20
    refine wpList_nil ?_
    refine hK6 _ _ ?_
    clear hK6 K6
    refine wp_ret ?_
    refine Kn.then_ret ?_
    exact Kn.ret1 fh21 rfl rfl ⟨rfl, HK.out.2.2.2⟩
  by_cases h2 : (300 : Int) < (a.size : Int)
  · refine wp_seq_k fun K4 hK4 => ?_
    refine wp_seq_k fun K5 hK5 => ?_
    refine wp_region_lit ?_
    refine Kn.step fh4 rfl rfl .none (Kn.ex_fieldAddr fh4 (.tmp rfl)) fun Ko hKo => ?_
    go_simp
    try go_bits
    refine hKo _ _ fun fa5 fh5 => ?_
    clear hKo Ko fh4 fa4
    refine Kn.step fh5 rfl rfl .none (Kn.ex_load fh5 (.tmp rfl)) fun Ko hKo => ?_
    go_simp
    try go_bits
    refine hKo _ _ fun fa6 fh6 => ?_
    clear hKo Ko fh5 fa5
    refine Kn.step fh6 rfl rfl .none (Kn.ex_len fh6 (.tmp rfl)) fun Ko hKo => ?_
    go_simp
    try go_bits
    refine hKo _ _ fun fa7 fh7 => ?_
    clear hKo Ko fh6 fa6
    refine Kn.step fh7 rfl rfl .none (Kn.ex_bin fh7 (.tmp rfl) .const) fun Ko hKo => ?_
    go_simp
    try go_bits
    refine hKo _ _ fun fa8 fh8 => ?_
    clear hKo Ko fh7 fa7
    refine Kn.pure fh8 rfl rfl .none (Kn.ex_move fh8 (.tmp rfl)) fun fa9 fh9 => ?_
    clear fh8 fa8
    refine Kn.step fh9 rfl rfl (.some rfl rfl rfl) (Kn.ex_fieldAddr fh9 (.tmp rfl)) fun Ko hKo => ?_
    go_simp
    try go_bits
    refine hKo _ _ fun fa10 fh10 => ?_
    clear hKo Ko fh9 fa9
    refine Kn.step fh10 rfl rfl (.some rfl rfl rfl) (Kn.ex_load fh10 (.tmp rfl)) fun Ko hKo => ?_
    go_simp
    try go_bits
    refine hKo _ _ fun fa11 fh11 => ?_
    clear hKo Ko fh10 fa10
    refine Kn.step fh11 rfl rfl (.some rfl rfl rfl) (Kn.ex_len fh11 (.tmp rfl)) fun Ko hKo => ?_
    go_simp
    try go_bits
    refine hKo _ _ fun fa12 fh12 => ?_
    clear hKo Ko fh11 fa11
    refine Kn.step fh12 rfl rfl (.some rfl rfl rfl) (Kn.ex_bin fh12 (.tmp rfl) .const) fun Ko hKo => ?_
    go_simp
    try go_bits
    refine hKo _ _ fun fa13 fh13 => ?_
    clear hKo Ko fh12 fa12
    refine Kn.pure fh13 rfl rfl .none (Kn.ex_pick fh13 (.tmp rfl) (.tmp rfl)) fun fa14 fh14 => ?_
    clear fh13 fa13
    refine Kn.pure fh14 rfl rfl .none (Kn.ex_move fh14 (.tmp rfl)) fun fa15 fh15 => ?_
    clear fh14 fa14
    refine Kn.skip fh15 rfl rfl (.some rfl rfl rfl) fun fa16 fh16 => ?_
    clear fh15 fa15
    refine Kn.skip fh16 rfl rfl (.some rfl rfl rfl) fun fa17 fh17 => ?_
    clear fh16 fa16
    refine Kn.skip fh17 rfl rfl (.some rfl rfl rfl) fun fa18 fh18 => ?_
    clear fh17 fa17
    refine Kn.skip fh18 rfl rfl (.some rfl rfl rfl) fun fa19 fh19 => ?_
    clear fh18 fa18
    refine Kn.pure fh19 rfl rfl .none (Kn.ex_pick fh19 (.tmp rfl) .const) fun fa20 fh20 => ?_
    clear fh19 fa19
    refine wpList_nil ?_
    refine hK5 _ _ ?_
    clear hK5 K5
    replace fh20 := fh20.cut (.cons (t := 36) rfl (.cons (t := 6) rfl (.cons (t := 5) rfl (.cons (t := 0) rfl (.cons (t := 1) rfl .nil)))))
    refine Kn.yes fh20 (.tmp rfl) ?_
    replace fh20 := fh20.cut (.cons (t := 6) rfl (.cons (t := 5) rfl (.cons (t := 0) rfl (.cons (t := 1) rfl .nil))))
    refine wp_seq_k fun K6 hK6 => ?_
    refine wp_region_lit ?_
    refine Kn.pure fh20 rfl rfl .none (Kn.ex_assign fh20 .const) fun fa21 fh21 => ?_
    clear fh20 fa20
    refine wpList_nil ?_
    refine hK6 _ _ ?_
    clear hK6 K6
    refine wp_ret ?_
    refine Kn.then_ret ?_
    exact Kn.ret1 fh21 rfl rfl ⟨rfl, HK.out.2.2.2⟩
  by_cases h3 : (300 : Int) < (b.size : Int)
  · refine wp_seq_k fun K4 hK4 => ?_
    refine wp_seq_k fun K5 hK5 => ?_
    refine wp_region_lit ?_
    refine Kn.step fh4 rfl rfl .none (Kn.ex_fieldAddr fh4 (.tmp rfl)) fun Ko hKo => ?_
    go_simp
    try go_bits
    refine hKo _ _ fun fa5 fh5 => ?_
    clear hKo Ko fh4 fa4
    refine Kn.step fh5 rfl rfl .none (Kn.ex_load fh5 (.tmp rfl)) fun Ko hKo => ?_
    go_simp
    try go_bits
    refine hKo _ _ fun fa6 fh6 => ?_
    clear hKo Ko fh5 fa5
    refine Kn.step fh6 rfl rfl .none (Kn.ex_len fh6 (.tmp rfl)) fun Ko hKo => ?_
    go_simp
    try go_bits
    refine hKo _ _ fun fa7 fh7 => ?_
    clear hKo Ko fh6 fa6
    refine Kn.step fh7 rfl rfl .none (Kn.ex_bin fh7 (.tmp rfl) .const) fun Ko hKo => ?_
    go_simp
    try go_bits
    refine hKo _ _ fun fa8 fh8 => ?_
    clear hKo Ko fh7 fa7
    refine Kn.pure fh8 rfl rfl .none (Kn.ex_move fh8 (.tmp rfl)) fun fa9 fh9 => ?_
    clear fh8 fa8
    refine Kn.step fh9 rfl rfl (.some rfl rfl rfl) (Kn.ex_fieldAddr fh9 (.tmp rfl)) fun Ko hKo => ?_
    go_simp
    try go_bits
    refine hKo _ _ fun fa10 fh10 => ?_
    clear hKo Ko fh9 fa9
    refine Kn.step fh10 rfl rfl (.some rfl rfl rfl) (Kn.ex_load fh10 (.tmp rfl)) fun Ko hKo => ?_
    go_simp
    try go_bits
    refine hKo _ _ fun fa11 fh11 => ?_
    clear hKo Ko fh10 fa10
    refine Kn.step fh11 rfl rfl (.some rfl rfl rfl) (Kn.ex_len fh11 (.tmp rfl)) fun Ko hKo => ?_
    go_simp
    try go_bits
    refine hKo _ _ fun fa12 fh12 => ?_
    clear hKo Ko fh11 fa11
    refine Kn.step fh12 rfl rfl (.some rfl rfl rfl) (Kn.ex_bin fh12 (.tmp rfl) .const) fun Ko hKo => ?_
    go_simp
    try go_bits
    refine hKo _ _ fun fa13 fh13 => ?_
    clear hKo Ko fh12 fa12
    refine Kn.pure fh13 rfl rfl .none (Kn.ex_pick fh13 (.tmp rfl) (.tmp rfl)) fun fa14 fh14 => ?_
    clear fh13 fa13
    refine Kn.pure fh14 rfl rfl .none (Kn.ex_move fh14 (.tmp rfl)) fun fa15 fh15 => ?_
    clear fh14 fa14
    refine Kn.step fh15 rfl rfl (.some rfl rfl rfl) (Kn.ex_fieldAddr fh15 (.tmp rfl)) fun Ko hKo => ?_
    go_simp
    try go_bits
    refine hKo _ _ fun fa16 fh16 => ?_
    clear hKo Ko fh15 fa15
    refine Kn.step fh16 rfl rfl (.some rfl rfl rfl) (Kn.ex_load fh16 (.tmp rfl)) fun Ko hKo => ?_
    go_simp
    try go_bits
    refine hKo _ _ fun fa17 fh17 => ?_
    clear hKo Ko fh16 fa16
    refine Kn.step fh17 rfl rfl (.some rfl rfl rfl) (Kn.ex_len fh17 (.tmp rfl)) fun Ko hKo => ?_
    go_simp
    try go_bits
    refine hKo _ _ fun fa18 fh18 => ?_
    clear hKo Ko fh17 fa17
    refine Kn.step fh18 rfl rfl (.some rfl rfl rfl) (Kn.ex_bin fh18 (.tmp rfl) .const) fun Ko hKo => ?_
    go_simp
    try go_bits
    refine hKo _ _ fun fa19 fh19 => ?_
    clear hKo Ko fh18 fa18
    refine Kn.pure fh19 rfl rfl .none (Kn.ex_pick fh19 (.tmp rfl) (.tmp rfl)) fun fa20 fh20 => ?_
    clear fh19 fa19
    refine wpList_nil ?_
    refine hK5 _ _ ?_
    clear hK5 K5
    replace fh20 := fh20.cut (.cons (t := 36) rfl (.cons (t := 6) rfl (.cons (t := 5) rfl (.cons (t := 0) rfl (.cons (t := 1) rfl .nil)))))
    refine Kn.yes fh20 (.tmp rfl) ?_
    replace fh20 := fh20.cut (.cons (t := 6) rfl (.cons (t := 5) rfl (.cons (t := 0) rfl (.cons (t := 1) rfl .nil))))
    refine wp_seq_k fun K6 hK6 => ?_
    refine wp_region_lit ?_
    refine Kn.pure fh20 rfl rfl .none (Kn.ex_assign fh20 .const) fun fa21 fh21 => ?_
    clear fh20 fa20
    refine wpList_nil ?_
    refine hK6 _ _ ?_
    clear hK6 K6
    refine wp_ret ?_
    refine Kn.then_ret ?_
    exact Kn.ret1 fh21 rfl rfl ⟨rfl, HK.out.2.2.2⟩
  refine wp_seq_k fun K4 hK4 => ?_
  refine wp_seq_k fun K5 hK5 => ?_
  refine wp_region_lit ?_
  refine Kn.step fh4 rfl rfl .none (Kn.ex_fieldAddr fh4 (.tmp rfl)) fun Ko hKo => ?_
  go_simp
  try go_bits
  refine hKo _ _ fun fa5 fh5 => ?_
  clear hKo Ko fh4 fa4
  refine Kn.step fh5 rfl rfl .none (Kn.ex_load fh5 (.tmp rfl)) fun Ko hKo => ?_
  go_simp
  try go_bits
  refine hKo _ _ fun fa6 fh6 => ?_
  clear hKo Ko fh5 fa5
  refine Kn.step fh6 rfl rfl .none (Kn.ex_len fh6 (.tmp rfl)) fun Ko hKo => ?_
  go_simp
  try go_bits
  refine hKo _ _ fun fa7 fh7 => ?_
  clear hKo Ko fh6 fa6
  refine Kn.step fh7 rfl rfl .none (Kn.ex_bin fh7 (.tmp rfl) .const) fun Ko hKo => ?_
  go_simp
  try go_bits
  refine hKo _ _ fun fa8 fh8 => ?_
  clear hKo Ko fh7 fa7
  refine Kn.pure fh8 rfl rfl .none (Kn.ex_move fh8 (.tmp rfl)) fun fa9 fh9 => ?_
  clear fh8 fa8
  refine Kn.step fh9 rfl rfl (.some rfl rfl rfl) (Kn.ex_fieldAddr fh9 (.tmp rfl)) fun Ko hKo => ?_
  go_simp
  try go_bits
  refine hKo _ _ fun fa10 fh10 => ?_
  clear hKo Ko fh9 fa9
  refine Kn.step fh10 rfl rfl (.some rfl rfl rfl) (Kn.ex_load fh10 (.tmp rfl)) fun Ko hKo => ?_
  go_simp
  try go_bits
  refine hKo _ _ fun fa11 fh11 => ?_
  clear hKo Ko fh10 fa10
  refine Kn.step fh11 rfl rfl (.some rfl rfl rfl) (Kn.ex_len fh11 (.tmp rfl)) fun Ko hKo => ?_
  go_simp
  try go_bits
  refine hKo _ _ fun fa12 fh12 => ?_
  clear hKo Ko fh11 fa11
  refine Kn.step fh12 rfl rfl (.some rfl rfl rfl) (Kn.ex_bin fh12 (.tmp rfl) .const) fun Ko hKo => ?_
  go_simp
  try go_bits
  refine hKo _ _ fun fa13 fh13 => ?_
  clear hKo Ko fh12 fa12
  refine Kn.pure fh13 rfl rfl .none (Kn.ex_pick fh13 (.tmp rfl) (.tmp rfl)) fun fa14 fh14 => ?_
  clear fh13 fa13
  refine Kn.pure fh14 rfl rfl .none (Kn.ex_move fh14 (.tmp rfl)) fun fa15 fh15 => ?_
  clear fh14 fa14
  refine Kn.step fh15 rfl rfl (.some rfl rfl rfl) (Kn.ex_fieldAddr fh15 (.tmp rfl)) fun Ko hKo => ?_
  go_simp
  try go_bits
  refine hKo _ _ fun fa16 fh16 => ?_
  clear hKo Ko fh15 fa15
  refine Kn.step fh16 rfl rfl (.some rfl rfl rfl) (Kn.ex_load fh16 (.tmp rfl)) fun Ko hKo => ?_
  go_simp
  try go_bits
  refine hKo _ _ fun fa17 fh17 => ?_
  clear hKo Ko fh16 fa16
  refine Kn.step fh17 rfl rfl (.some rfl rfl rfl) (Kn.ex_len fh17 (.tmp rfl)) fun Ko hKo => ?_
  go_simp
  try go_bits
  refine hKo _ _ fun fa18 fh18 => ?_
  clear hKo Ko fh17 fa17
  refine Kn.step fh18 rfl rfl (.some rfl rfl rfl) (Kn.ex_bin fh18 (.tmp rfl) .const) fun Ko hKo => ?_
  go_simp
  try go_bits
  refine hKo _ _ fun fa19 fh19 => ?_
  clear hKo Ko fh18 fa18
  refine Kn.pure fh19 rfl rfl .none (Kn.ex_pick fh19 (.tmp rfl) (.tmp rfl)) fun fa20 fh20 => ?_
  clear fh19 fa19
  refine wpList_nil ?_
  refine hK5 _ _ ?_
  clear hK5 K5
  replace fh20 := fh20.cut (.cons (t := 36) rfl (.cons (t := 6) rfl (.cons (t := 5) rfl (.cons (t := 0) rfl (.cons (t := 1) rfl .nil)))))
  refine Kn.no fh20 (.tmp rfl) ?_
  refine wp_skip ?_
  refine hK4 _ _ ?_
  clear hK4 K4
  replace fh20 := fh20.cut (.cons (t := 6) rfl (.cons (t := 5) rfl (.cons (t := 0) rfl (.cons (t := 1) rfl .nil))))
  have hl : l.length ≤ 300 := by omega
  have ha : a.size ≤ 300 := by omega
  have hb : b.size ≤ 300 := by omega
  clear h1 h2 h3 hla has hbs
  have hmay := may_any N v
  by_cases hN : N < 0 ∨ 4096 < N
  · have hp := gPut_arg N v A l.length ca w1 hN
    have hz := gSize_arg N v A l.length ca w1 hN
    rw [mayI, if_pos hN] at hmay
    have hcd := fun u h => Err.code_E 1 u h
    have hpl := fun u h => Err.place_E 1 u h
    unfold Err.errnoV at hcd hpl
    have HC := Lib.hid hcd
    have HP := Lib.hid hpl
    clear hcd hpl
    have hp2 : Calls Tryd.prog 6 #[.int .i64 N, .int .i64 v, .slice A l.length ca] w1 fun e w' => e = .returned (.tuple #[.string ⟨#[]⟩, .iface 55 (.int .i64 1)]) ∧ w1 = w' := hp
    clear hp
    refine wp_seq_k fun K6 hK6 => ?_
    refine wp_region_lit ?_
    refine Kn.pure fh20 rfl rfl .none (Kn.ex_move fh20 (.tmp rfl)) fun fa21 fh21 => ?_
    clear fh20 fa20
    refine Kn.pure fh21 rfl rfl .none (Kn.ex_move fh21 (.tmp rfl)) fun fa22 fh22 => ?_
    clear fh21 fa21
    refine Kn.step fh22 rfl rfl .none (Kn.ex_fieldAddr fh22 (.tmp rfl)) fun Ko hKo => ?_
    go_simp
    try go_bits
    refine hKo _ _ fun fa23 fh23 => ?_
    clear hKo Ko fh22 fa22
    refine Kn.step fh23 rfl rfl .none (Kn.ex_load fh23 (.tmp rfl)) fun Ko hKo => ?_
    go_simp
    try go_bits
    refine hKo _ _ fun fa24 fh24 => ?_
    clear hKo Ko fh23 fa23
    refine Kn.call fh24 rfl rfl .none (Kn.ex_call fh24 (.cons (.tmp rfl) (.cons (.tmp rfl) (.cons (.tmp rfl) .nil)))) Tryd.call6 (hp2) fun e w2 hp => ?_
    obtain ⟨rfl, rfl⟩ := hp
    refine ⟨_, rfl, fun fa25 fh25 => ?_⟩
    clear fh24 fa24
    refine Kn.pure fh25 rfl rfl .none (Kn.ex_move fh25 (.tmp rfl)) fun fa26 fh26 => ?_
    clear fh25 fa25
    refine Kn.pure fh26 rfl rfl .none (Kn.ex_extract fh26 (.tmp rfl) rfl) fun fa27 fh27 => ?_
    clear fh26 fa26
    refine Kn.pure fh27 rfl rfl .none (Kn.ex_extract fh27 (.tmp rfl) rfl) fun fa28 fh28 => ?_
    clear fh27 fa27
    refine Kn.pure fh28 rfl rfl .none (Kn.ex_assign fh28 (.tmp rfl)) fun fa29 fh29 => ?_
    clear fh28 fa28
    refine Kn.pure fh29 rfl rfl .none (Kn.ex_assign fh29 (.tmp rfl)) fun fa30 fh30 => ?_
    clear fh29 fa29
    refine wpList_nil ?_
    refine hK6 _ _ ?_
    clear hK6 K6
    replace fh30 := fh30.cut (.cons (t := 8) rfl (.cons (t := 7) rfl (.cons (t := 6) rfl (.cons (t := 5) rfl (.cons (t := 0) rfl (.cons (t := 1) rfl .nil))))))
    refine wp_seq_k fun K7 hK7 => ?_
    refine wp_seq_k fun K8 hK8 => ?_
    refine wp_region_lit ?_
    refine Kn.pure fh30 rfl rfl .none (Kn.ex_move fh30 (.tmp rfl)) fun fa31 fh31 => ?_
    clear fh30 fa30
    refine Kn.pure fh31 rfl rfl .none (Kn.ex_move fh31 (.tmp rfl)) fun fa32 fh32 => ?_
    clear fh31 fa31
    refine Kn.step fh32 rfl rfl .none (Kn.ex_fieldAddr fh32 (.tmp rfl)) fun Ko hKo => ?_
    go_simp
    try go_bits
    refine hKo _ _ fun fa33 fh33 => ?_
    clear hKo Ko fh32 fa32
    refine Kn.step fh33 rfl rfl .none (Kn.ex_load fh33 (.tmp rfl)) fun Ko hKo => ?_
    go_simp
    try go_bits
    refine hKo _ _ fun fa34 fh34 => ?_
    clear hKo Ko fh33 fa33
    refine Kn.call fh34 rfl rfl .none (Kn.ex_call fh34 (.cons (.tmp rfl) (.cons (.tmp rfl) (.cons (.tmp rfl) .nil)))) Tryd.call7 (hz) fun e w2 hp => ?_
    obtain ⟨rfl, rfl⟩ := hp
    refine ⟨_, rfl, fun fa35 fh35 => ?_⟩
    clear fh34 fa34
    refine Kn.pure fh35 rfl rfl .none (Kn.ex_move fh35 (.tmp rfl)) fun fa36 fh36 => ?_
    clear fh35 fa35
    refine Kn.step fh36 rfl rfl .none (Kn.ex_len fh36 (.tmp rfl)) fun Ko hKo => ?_
    go_simp
    try go_bits
    refine hKo _ _ fun fa37 fh37 => ?_
    clear hKo Ko fh36 fa36
    refine Kn.step fh37 rfl rfl .none (Kn.ex_bin fh37 (.tmp rfl) (.tmp rfl)) fun Ko hKo => ?_
    go_simp
    try go_bits
    refine hKo _ _ fun fa38 fh38 => ?_
    clear hKo Ko fh37 fa37
    refine wpList_nil ?_
    refine hK8 _ _ ?_
    clear hK8 K8
    replace fh38 := fh38.cut (.cons (t := 52) rfl (.cons (t := 8) rfl (.cons (t := 7) rfl (.cons (t := 6) rfl (.cons (t := 5) rfl (.cons (t := 0) rfl (.cons (t := 1) rfl .nil)))))))
    refine Kn.no fh38 (.tmp rfl) ?_
    refine wp_skip ?_
    refine hK7 _ _ ?_
    clear hK7 K7
    replace fh38 := fh38.cut (.cons (t := 8) rfl (.cons (t := 7) rfl (.cons (t := 6) rfl (.cons (t := 5) rfl (.cons (t := 0) rfl (.cons (t := 1) rfl .nil))))))
    have hm := hmay w1
    clear c0 c1 c2 hz hp2
    refine wp_seq_k fun K9 hK9 => ?_
    refine wp_seq_k fun K10 hK10 => ?_
    refine wp_region_lit ?_
    refine Kn.pure fh38 rfl rfl .none (Kn.ex_move fh38 (.tmp rfl)) fun fa39 fh39 => ?_
    clear fh38 fa38
    refine Kn.pure fh39 rfl rfl .none (Kn.ex_move fh39 (.tmp rfl)) fun fa40 fh40 => ?_
    clear fh39 fa39
    refine Kn.call fh40 rfl rfl .none (Kn.ex_call fh40 (.cons (.tmp rfl) (.cons (.tmp rfl) .nil))) Tryd.call8 (hm) fun e w2 hp => ?_
    obtain ⟨rfl, rfl⟩ := hp
    refine ⟨_, rfl, fun fa41 fh41 => ?_⟩
    clear fh40 fa40
    refine Kn.pure fh41 rfl rfl .none (Kn.ex_assign fh41 (.tmp rfl)) fun fa42 fh42 => ?_
    clear fh41 fa41
    refine wpList_nil ?_
    refine hK10 _ _ ?_
    clear hK10 K10
    replace fh42 := fh42.cut (.cons (t := 9) rfl (.cons (t := 8) rfl (.cons (t := 7) rfl (.cons (t := 6) rfl (.cons (t := 5) rfl (.cons (t := 0) rfl (.cons (t := 1) rfl .nil)))))))
    refine wp_seq_k fun K11 hK11 => ?_
    refine wp_region_lit ?_
    refine Kn.pure fh42 rfl rfl .none (Kn.ex_move fh42 (.tmp rfl)) fun fa43 fh43 => ?_
    clear fh42 fa42
    refine Kn.step fh43 rfl rfl .none (Kn.ex_bin fh43 (.tmp rfl) .const) fun Ko hKo => ?_
    go_simp
    try go_bits
    refine hKo _ _ fun fa44 fh44 => ?_
    clear hKo Ko fh43 fa43
    refine wpList_nil ?_
    refine hK11 _ _ ?_
    clear hK11 K11
    replace fh44 := fh44.cut (.cons (t := 57) rfl (.cons (t := 9) rfl (.cons (t := 8) rfl (.cons (t := 7) rfl (.cons (t := 6) rfl (.cons (t := 5) rfl (.cons (t := 0) rfl (.cons (t := 1) rfl .nil))))))))
    refine Kn.yes fh44 (.tmp rfl) ?_
    replace fh44 := fh44.cut (.cons (t := 9) rfl (.cons (t := 8) rfl (.cons (t := 7) rfl (.cons (t := 6) rfl (.cons (t := 5) rfl (.cons (t := 0) rfl (.cons (t := 1) rfl .nil)))))))
    refine wp_seq_k fun K12 hK12 => ?_
    refine wp_region_lit ?_
    refine Kn.pure fh44 rfl rfl .none (Kn.ex_move fh44 (.tmp rfl)) fun fa45 fh45 => ?_
    clear fh44 fa44
    refine Kn.step fh45 rfl rfl .none (Kn.ex_bin fh45 (.tmp rfl) .const) fun Ko hKo => ?_
    go_simp
    try go_bits
    refine hKo _ _ fun fa46 fh46 => ?_
    clear hKo Ko fh45 fa45
    refine Kn.pure fh46 rfl rfl .none (Kn.ex_move fh46 (.tmp rfl)) fun fa47 fh47 => ?_
    clear fh46 fa46
    refine Kn.pure fh47 rfl rfl (.some rfl rfl rfl) (Kn.ex_move fh47 (.tmp rfl)) fun fa48 fh48 => ?_
    clear fh47 fa47
    refine Kn.call fh48 rfl rfl (.some rfl rfl rfl) (Kn.ex_call fh48 (.cons (.tmp rfl) .nil)) Tryd.call9 (HC.out w1 HK.out.1) fun e w2 hp => ?_
    obtain ⟨rfl, hb2⟩ := hp
    refine ⟨_, rfl, fun fa49 fh49 => ?_⟩
    clear fh48 fa48
    have HK2 := Lib.hid (HK.out.on hb2)
    clear hb2 HK
    refine Kn.pure fh49 rfl rfl (.some rfl rfl rfl) (Kn.ex_move fh49 (.tmp rfl)) fun fa50 fh50 => ?_
    clear fh49 fa49
    refine Kn.step fh50 rfl rfl (.some rfl rfl rfl) (Kn.ex_bin fh50 (.tmp rfl) (.tmp rfl)) fun Ko hKo => ?_
    go_simp
    try go_bits
    refine hKo _ _ fun fa51 fh51 => ?_
    clear hKo Ko fh50 fa50
    refine Kn.pure fh51 rfl rfl .none (Kn.ex_pick fh51 (.tmp rfl) (.tmp rfl)) fun fa52 fh52 => ?_
    clear fh51 fa51
    refine Kn.pure fh52 rfl rfl .none (Kn.ex_move fh52 (.tmp rfl)) fun fa53 fh53 => ?_
    clear fh52 fa52
    refine Kn.pure fh53 rfl rfl (.some rfl rfl rfl) (Kn.ex_move fh53 (.tmp rfl)) fun fa54 fh54 => ?_
    clear fh53 fa53
    refine Kn.call fh54 rfl rfl (.some rfl rfl rfl) (Kn.ex_call fh54 (.cons (.tmp rfl) .nil)) Tryd.call10 (HP.out w2 HK2.out.1) fun e w3 hp => ?_
    obtain ⟨rfl, hb3⟩ := hp
    refine ⟨_, rfl, fun fa55 fh55 => ?_⟩
    clear fh54 fa54
    have HK3 := Lib.hid (HK2.out.on hb3)
    clear hb3 HK2
    refine Kn.step fh55 rfl rfl (.some rfl rfl rfl) (Kn.ex_bin fh55 (.tmp rfl) .const) fun Ko hKo => ?_
    go_simp
    try go_bits
    refine hKo _ _ fun fa56 fh56 => ?_
    clear hKo Ko fh55 fa55
    refine Kn.pure fh56 rfl rfl .none (Kn.ex_pick fh56 (.tmp rfl) (.tmp rfl)) fun fa57 fh57 => ?_
    clear fh56 fa56
    refine Kn.pure fh57 rfl rfl .none (Kn.ex_assign fh57 (.tmp rfl)) fun fa58 fh58 => ?_
    clear fh57 fa57
    refine wpList_nil ?_
    refine hK12 _ _ ?_
    clear hK12 K12
    replace fh58 := fh58.cut (.cons (t := 6) rfl (.cons (t := 8) rfl (.cons (t := 7) rfl (.cons (t := 5) rfl (.cons (t := 0) rfl (.cons (t := 1) rfl .nil))))))
    refine wp_ret ?_
    refine Kn.then_ret ?_
    exact Kn.ret1 fh58 rfl rfl ⟨rfl, HK3.out.2.2.2⟩
  have hN0 : 0 ≤ N := by omega
  have hN1 : N ≤ 4096 := by omega
  by_cases hv : v < 0 ∨ N ≤ v
  · have hp := gPut_range N v A l.length ca w1 hN0 hN1 hv
    have hz := gSize_range N v A l.length ca w1 hN0 hN1 hv
    rw [mayI, if_neg hN, if_pos hv] at hmay
    have hcd := fun u h => Err.code_E 2 u h
    have hpl := fun u h => Err.place_E 2 u h
    unfold Err.errnoV at hcd hpl
    have HC := Lib.hid hcd
    have HP := Lib.hid hpl
    clear hcd hpl
    have hp2 : Calls Tryd.prog 6 #[.int .i64 N, .int .i64 v, .slice A l.length ca] w1 fun e w' => e = .returned (.tuple #[.string ⟨#[]⟩, .iface 55 (.int .i64 2)]) ∧ w1 = w' := hp
    clear hp
    refine wp_seq_k fun K6 hK6 => ?_
    refine wp_region_lit ?_
    refine Kn.pure fh20 rfl rfl .none (Kn.ex_move fh20 (.tmp rfl)) fun fa21 fh21 => ?_
    clear fh20 fa20
    refine Kn.pure fh21 rfl rfl .none (Kn.ex_move fh21 (.tmp rfl)) fun fa22 fh22 => ?_
    clear fh21 fa21
    refine Kn.step fh22 rfl rfl .none (Kn.ex_fieldAddr fh22 (.tmp rfl)) fun Ko hKo => ?_
    go_simp
    try go_bits
    refine hKo _ _ fun fa23 fh23 => ?_
    clear hKo Ko fh22 fa22
    refine Kn.step fh23 rfl rfl .none (Kn.ex_load fh23 (.tmp rfl)) fun Ko hKo => ?_
    go_simp
    try go_bits
    refine hKo _ _ fun fa24 fh24 => ?_
    clear hKo Ko fh23 fa23
    refine Kn.call fh24 rfl rfl .none (Kn.ex_call fh24 (.cons (.tmp rfl) (.cons (.tmp rfl) (.cons (.tmp rfl) .nil)))) Tryd.call6 (hp2) fun e w2 hp => ?_
    obtain ⟨rfl, rfl⟩ := hp
    refine ⟨_, rfl, fun fa25 fh25 => ?_⟩
    clear fh24 fa24
    refine Kn.pure fh25 rfl rfl .none (Kn.ex_move fh25 (.tmp rfl)) fun fa26 fh26 => ?_
    clear fh25 fa25
    refine Kn.pure fh26 rfl rfl .none (Kn.ex_extract fh26 (.tmp rfl) rfl) fun fa27 fh27 => ?_
    clear fh26 fa26
    refine Kn.pure fh27 rfl rfl .none (Kn.ex_extract fh27 (.tmp rfl) rfl) fun fa28 fh28 => ?_
    clear fh27 fa27
    refine Kn.pure fh28 rfl rfl .none (Kn.ex_assign fh28 (.tmp rfl)) fun fa29 fh29 => ?_
    clear fh28 fa28
    refine Kn.pure fh29 rfl rfl .none (Kn.ex_assign fh29 (.tmp rfl)) fun fa30 fh30 => ?_
    clear fh29 fa29
    refine wpList_nil ?_
    refine hK6 _ _ ?_
    clear hK6 K6
    replace fh30 := fh30.cut (.cons (t := 8) rfl (.cons (t := 7) rfl (.cons (t := 6) rfl (.cons (t := 5) rfl (.cons (t := 0) rfl (.cons (t := 1) rfl .nil))))))
    refine wp_seq_k fun K7 hK7 => ?_
    refine wp_seq_k fun K8 hK8 => ?_
    refine wp_region_lit ?_
    refine Kn.pure fh30 rfl rfl .none (Kn.ex_move fh30 (.tmp rfl)) fun fa31 fh31 => ?_
    clear fh30 fa30
    refine Kn.pure fh31 rfl rfl .none (Kn.ex_move fh31 (.tmp rfl)) fun fa32 fh32 => ?_
    clear fh31 fa31
    refine Kn.step fh32 rfl rfl .none (Kn.ex_fieldAddr fh32 (.tmp rfl)) fun Ko hKo => ?_
    go_simp
    try go_bits
    refine hKo _ _ fun fa33 fh33 => ?_
    clear hKo Ko fh32 fa32
    refine Kn.step fh33 rfl rfl .none (Kn.ex_load fh33 (.tmp rfl)) fun Ko hKo => ?_
    go_simp
    try go_bits
    refine hKo _ _ fun fa34 fh34 => ?_
    clear hKo Ko fh33 fa33
    refine Kn.call fh34 rfl rfl .none (Kn.ex_call fh34 (.cons (.tmp rfl) (.cons (.tmp rfl) (.cons (.tmp rfl) .nil)))) Tryd.call7 (hz) fun e w2 hp => ?_
    obtain ⟨rfl, rfl⟩ := hp
    refine ⟨_, rfl, fun fa35 fh35 => ?_⟩
    clear fh34 fa34
    refine Kn.pure fh35 rfl rfl .none (Kn.ex_move fh35 (.tmp rfl)) fun fa36 fh36 => ?_
    clear fh35 fa35
    refine Kn.step fh36 rfl rfl .none (Kn.ex_len fh36 (.tmp rfl)) fun Ko hKo => ?_
    go_simp
    try go_bits
    refine hKo _ _ fun fa37 fh37 => ?_
    clear hKo Ko fh36 fa36
    refine Kn.step fh37 rfl rfl .none (Kn.ex_bin fh37 (.tmp rfl) (.tmp rfl)) fun Ko hKo => ?_
    go_simp
    try go_bits
    refine hKo _ _ fun fa38 fh38 => ?_
    clear hKo Ko fh37 fa37
    refine wpList_nil ?_
    refine hK8 _ _ ?_
    clear hK8 K8
    replace fh38 := fh38.cut (.cons (t := 52) rfl (.cons (t := 8) rfl (.cons (t := 7) rfl (.cons (t := 6) rfl (.cons (t := 5) rfl (.cons (t := 0) rfl (.cons (t := 1) rfl .nil)))))))
    refine Kn.no fh38 (.tmp rfl) ?_
    refine wp_skip ?_
    refine hK7 _ _ ?_
    clear hK7 K7
    replace fh38 := fh38.cut (.cons (t := 8) rfl (.cons (t := 7) rfl (.cons (t := 6) rfl (.cons (t := 5) rfl (.cons (t := 0) rfl (.cons (t := 1) rfl .nil))))))
    have hm := hmay w1
    clear c0 c1 c2 hz hp2
    refine wp_seq_k fun K9 hK9 => ?_
    refine wp_seq_k fun K10 hK10 => ?_
    refine wp_region_lit ?_
    refine Kn.pure fh38 rfl rfl .none (Kn.ex_move fh38 (.tmp rfl)) fun fa39 fh39 => ?_
    clear fh38 fa38
    refine Kn.pure fh39 rfl rfl .none (Kn.ex_move fh39 (.tmp rfl)) fun fa40 fh40 => ?_
    clear fh39 fa39
    refine Kn.call fh40 rfl rfl .none (Kn.ex_call fh40 (.cons (.tmp rfl) (.cons (.tmp rfl) .nil))) Tryd.call8 (hm) fun e w2 hp => ?_
    obtain ⟨rfl, rfl⟩ := hp
    refine ⟨_, rfl, fun fa41 fh41 => ?_⟩
    clear fh40 fa40
    refine Kn.pure fh41 rfl rfl .none (Kn.ex_assign fh41 (.tmp rfl)) fun fa42 fh42 => ?_
    clear fh41 fa41
    refine wpList_nil ?_
    refine hK10 _ _ ?_
    clear hK10 K10
    replace fh42 := fh42.cut (.cons (t := 9) rfl (.cons (t := 8) rfl (.cons (t := 7) rfl (.cons (t := 6) rfl (.cons (t := 5) rfl (.cons (t := 0) rfl (.cons (t := 1) rfl .nil)))))))
    refine wp_seq_k fun K11 hK11 => ?_
    refine wp_region_lit ?_
    refine Kn.pure fh42 rfl rfl .none (Kn.ex_move fh42 (.tmp rfl)) fun fa43 fh43 => ?_
    clear fh42 fa42
    refine Kn.step fh43 rfl rfl .none (Kn.ex_bin fh43 (.tmp rfl) .const) fun Ko hKo => ?_
    go_simp
    try go_bits
    refine hKo _ _ fun fa44 fh44 => ?_
    clear hKo Ko fh43 fa43
    refine wpList_nil ?_
    refine hK11 _ _ ?_
    clear hK11 K11
    replace fh44 := fh44.cut (.cons (t := 57) rfl (.cons (t := 9) rfl (.cons (t := 8) rfl (.cons (t := 7) rfl (.cons (t := 6) rfl (.cons (t := 5) rfl (.cons (t := 0) rfl (.cons (t := 1) rfl .nil))))))))
    refine Kn.yes fh44 (.tmp rfl) ?_
    replace fh44 := fh44.cut (.cons (t := 9) rfl (.cons (t := 8) rfl (.cons (t := 7) rfl (.cons (t := 6) rfl (.cons (t := 5) rfl (.cons (t := 0) rfl (.cons (t := 1) rfl .nil)))))))
    refine wp_seq_k fun K12 hK12 => ?_
    refine wp_region_lit ?_
    refine Kn.pure fh44 rfl rfl .none (Kn.ex_move fh44 (.tmp rfl)) fun fa45 fh45 => ?_
    clear fh44 fa44
    refine Kn.step fh45 rfl rfl .none (Kn.ex_bin fh45 (.tmp rfl) .const) fun Ko hKo => ?_
    go_simp
    try go_bits
    refine hKo _ _ fun fa46 fh46 => ?_
    clear hKo Ko fh45 fa45
    refine Kn.pure fh46 rfl rfl .none (Kn.ex_move fh46 (.tmp rfl)) fun fa47 fh47 => ?_
    clear fh46 fa46
    refine Kn.pure fh47 rfl rfl (.some rfl rfl rfl) (Kn.ex_move fh47 (.tmp rfl)) fun fa48 fh48 => ?_
    clear fh47 fa47
    refine Kn.call fh48 rfl rfl (.some rfl rfl rfl) (Kn.ex_call fh48 (.cons (.tmp rfl) .nil)) Tryd.call9 (HC.out w1 HK.out.1) fun e w2 hp => ?_
    obtain ⟨rfl, hb2⟩ := hp
    refine ⟨_, rfl, fun fa49 fh49 => ?_⟩
    clear fh48 fa48
    have HK2 := Lib.hid (HK.out.on hb2)
    clear hb2 HK
    refine Kn.pure fh49 rfl rfl (.some rfl rfl rfl) (Kn.ex_move fh49 (.tmp rfl)) fun fa50 fh50 => ?_
    clear fh49 fa49
    refine Kn.step fh50 rfl rfl (.some rfl rfl rfl) (Kn.ex_bin fh50 (.tmp rfl) (.tmp rfl)) fun Ko hKo => ?_
    go_simp
    try go_bits
    refine hKo _ _ fun fa51 fh51 => ?_
    clear hKo Ko fh50 fa50
    refine Kn.pure fh51 rfl rfl .none (Kn.ex_pick fh51 (.tmp rfl) (.tmp rfl)) fun fa52 fh52 => ?_
    clear fh51 fa51
    refine Kn.pure fh52 rfl rfl .none (Kn.ex_move fh52 (.tmp rfl)) fun fa53 fh53 => ?_
    clear fh52 fa52
    refine Kn.pure fh53 rfl rfl (.some rfl rfl rfl) (Kn.ex_move fh53 (.tmp rfl)) fun fa54 fh54 => ?_
    clear fh53 fa53
    refine Kn.call fh54 rfl rfl (.some rfl rfl rfl) (Kn.ex_call fh54 (.cons (.tmp rfl) .nil)) Tryd.call10 (HP.out w2 HK2.out.1) fun e w3 hp => ?_
    obtain ⟨rfl, hb3⟩ := hp
    refine ⟨_, rfl, fun fa55 fh55 => ?_⟩
    clear fh54 fa54
    have HK3 := Lib.hid (HK2.out.on hb3)
    clear hb3 HK2
    refine Kn.step fh55 rfl rfl (.some rfl rfl rfl) (Kn.ex_bin fh55 (.tmp rfl) .const) fun Ko hKo => ?_
    go_simp
    try go_bits
    refine hKo _ _ fun fa56 fh56 => ?_
    clear hKo Ko fh55 fa55
    refine Kn.pure fh56 rfl rfl .none (Kn.ex_pick fh56 (.tmp rfl) (.tmp rfl)) fun fa57 fh57 => ?_
    clear fh56 fa56
    refine Kn.pure fh57 rfl rfl .none (Kn.ex_assign fh57 (.tmp rfl)) fun fa58 fh58 => ?_
    clear fh57 fa57
    refine wpList_nil ?_
    refine hK12 _ _ ?_
    clear hK12 K12
    replace fh58 := fh58.cut (.cons (t := 6) rfl (.cons (t := 8) rfl (.cons (t := 7) rfl (.cons (t := 5) rfl (.cons (t := 0) rfl (.cons (t := 1) rfl .nil))))))
    refine wp_ret ?_
    refine Kn.then_ret ?_
    exact Kn.ret1 fh58 rfl rfl ⟨rfl, HK3.out.2.2.2⟩
  rw [mayI, if_neg hN, if_neg hv] at hmay
  have hv0 : 0 ≤ v := by omega
  have hv1 : v < N := by omega
  clear hN hv
  have HM := Lib.hid hmay
  clear hmay
  obtain ⟨f, hfl, hG, hB⟩ := first_bad N l
  have hca2 : ca ≤ 9223372036854775807 := by unfold maxLen at hcm; exact hcm
  have hp := gPut_any N v A ca f l w1 hN1 hv0 hv1 (by omega) hca hca2 HK.out.2.2.1 hG hB
  have hz := fun u h => gSize_any N v A ca f l u hN1 hv0 hv1 (by omega) hca hca2 h hG hB
  have hwr := fun u h => wrongT_any N A ca f l u (by omega) h hG hB
  by_cases hf : f < l.length
  · rw [if_pos hf] at hp
    simp only [if_pos hf] at hz hwr
    have hp2 : Calls Tryd.prog 6 #[.int .i64 N, .int .i64 v, .slice A l.length ca] w1 fun e w' => e = .returned (.tuple #[.string ⟨#[]⟩, .iface 60 (.agg #[.int .i64 (f : Int), .iface 55 (.int .i64 10)])]) ∧ Below w1.heap.size w1 w' := hp
    have HZ := Lib.hid hz
    have HW := Lib.hid hwr
    have hcd := fun u h => Err.code_F (f : Int) 10 u h
    have hpl := fun u h => Err.place_F (f : Int) 10 u h
    unfold Err.faultV at hcd hpl
    have HC := Lib.hid hcd
    have HP := Lib.hid hpl
    have hf0 : (0 : Int) ≤ (f : Int) := by omega
    clear hp hz hwr hcd hpl hG hB hf
    refine wp_seq_k fun K6 hK6 => ?_
    refine wp_region_lit ?_
    refine Kn.pure fh20 rfl rfl .none (Kn.ex_move fh20 (.tmp rfl)) fun fa21 fh21 => ?_
    clear fh20 fa20
    refine Kn.pure fh21 rfl rfl .none (Kn.ex_move fh21 (.tmp rfl)) fun fa22 fh22 => ?_
    clear fh21 fa21
    refine Kn.step fh22 rfl rfl .none (Kn.ex_fieldAddr fh22 (.tmp rfl)) fun Ko hKo => ?_
    go_simp
    try go_bits
    refine hKo _ _ fun fa23 fh23 => ?_
    clear hKo Ko fh22 fa22
    refine Kn.step fh23 rfl rfl .none (Kn.ex_load fh23 (.tmp rfl)) fun Ko hKo => ?_
    go_simp
    try go_bits
    refine hKo _ _ fun fa24 fh24 => ?_
    clear hKo Ko fh23 fa23
    refine Kn.call fh24 rfl rfl .none (Kn.ex_call fh24 (.cons (.tmp rfl) (.cons (.tmp rfl) (.cons (.tmp rfl) .nil)))) Tryd.call6 (hp2) fun e w2 hp => ?_
    obtain ⟨rfl, hb2⟩ := hp
    refine ⟨_, rfl, fun fa25 fh25 => ?_⟩
    clear fh24 fa24
    refine Kn.pure fh25 rfl rfl .none (Kn.ex_move fh25 (.tmp rfl)) fun fa26 fh26 => ?_
    clear fh25 fa25
    refine Kn.pure fh26 rfl rfl .none (Kn.ex_extract fh26 (.tmp rfl) rfl) fun fa27 fh27 => ?_
    clear fh26 fa26
    refine Kn.pure fh27 rfl rfl .none (Kn.ex_extract fh27 (.tmp rfl) rfl) fun fa28 fh28 => ?_
    clear fh27 fa27
    refine Kn.pure fh28 rfl rfl .none (Kn.ex_assign fh28 (.tmp rfl)) fun fa29 fh29 => ?_
    clear fh28 fa28
    refine Kn.pure fh29 rfl rfl .none (Kn.ex_assign fh29 (.tmp rfl)) fun fa30 fh30 => ?_
    clear fh29 fa29
    refine wpList_nil ?_
    refine hK6 _ _ ?_
    clear hK6 K6
    replace fh30 := fh30.cut (.cons (t := 8) rfl (.cons (t := 7) rfl (.cons (t := 6) rfl (.cons (t := 5) rfl (.cons (t := 0) rfl (.cons (t := 1) rfl .nil))))))
    have HK2 := Lib.hid (HK.out.on hb2)
    clear hb2 HK
    clear hp2
    clear c0 c1 c2
    have c0 := HK2.out.2.1.cell 0 rfl
    have c1 := HK2.out.2.1.cell 1 rfl
    have c2 := HK2.out.2.1.cell 2 rfl
    refine wp_seq_k fun K7 hK7 => ?_
    refine wp_seq_k fun K8 hK8 => ?_
    refine wp_region_lit ?_
    refine Kn.pure fh30 rfl rfl .none (Kn.ex_move fh30 (.tmp rfl)) fun fa31 fh31 => ?_
    clear fh30 fa30
    refine Kn.pure fh31 rfl rfl .none (Kn.ex_move fh31 (.tmp rfl)) fun fa32 fh32 => ?_
    clear fh31 fa31
    refine Kn.step fh32 rfl rfl .none (Kn.ex_fieldAddr fh32 (.tmp rfl)) fun Ko hKo => ?_
    go_simp
    try go_bits
    refine hKo _ _ fun fa33 fh33 => ?_
    clear hKo Ko fh32 fa32
    refine Kn.step fh33 rfl rfl .none (Kn.ex_load fh33 (.tmp rfl)) fun Ko hKo => ?_
    go_simp
    try go_bits
    refine hKo _ _ fun fa34 fh34 => ?_
    clear hKo Ko fh33 fa33
    refine Kn.call fh34 rfl rfl .none (Kn.ex_call fh34 (.cons (.tmp rfl) (.cons (.tmp rfl) (.cons (.tmp rfl) .nil)))) Tryd.call7 (HZ.out w2 HK2.out.2.2.1) fun e w3 hp => ?_
    obtain ⟨rfl, hb3⟩ := hp
    refine ⟨_, rfl, fun fa35 fh35 => ?_⟩
    clear fh34 fa34
    have HK3 := Lib.hid (HK2.out.on hb3)
    clear hb3 HK2
    refine Kn.pure fh35 rfl rfl .none (Kn.ex_move fh35 (.tmp rfl)) fun fa36 fh36 => ?_
    clear fh35 fa35
    refine Kn.step fh36 rfl rfl .none (Kn.ex_len fh36 (.tmp rfl)) fun Ko hKo => ?_
    go_simp
    try go_bits
    refine hKo _ _ fun fa37 fh37 => ?_
    clear hKo Ko fh36 fa36
    refine Kn.step fh37 rfl rfl .none (Kn.ex_bin fh37 (.tmp rfl) (.tmp rfl)) fun Ko hKo => ?_
    go_simp
    try go_bits
    refine hKo _ _ fun fa38 fh38 => ?_
    clear hKo Ko fh37 fa37
    refine wpList_nil ?_
    refine hK8 _ _ ?_
    clear hK8 K8
    replace fh38 := fh38.cut (.cons (t := 52) rfl (.cons (t := 8) rfl (.cons (t := 7) rfl (.cons (t := 6) rfl (.cons (t := 5) rfl (.cons (t := 0) rfl (.cons (t := 1) rfl .nil)))))))
    refine Kn.no fh38 (.tmp rfl) ?_
    refine wp_skip ?_
    refine hK7 _ _ ?_
    clear hK7 K7
    replace fh38 := fh38.cut (.cons (t := 8) rfl (.cons (t := 7) rfl (.cons (t := 6) rfl (.cons (t := 5) rfl (.cons (t := 0) rfl (.cons (t := 1) rfl .nil))))))
    clear c0 c1 c2
    have c0 := HK3.out.2.1.cell 0 rfl
    have c1 := HK3.out.2.1.cell 1 rfl
    have c2 := HK3.out.2.1.cell 2 rfl
    have hm := HM.out w3
    refine wp_seq_k fun K9 hK9 => ?_
    refine wp_seq_k fun K10 hK10 => ?_
    refine wp_region_lit ?_
    refine Kn.pure fh38 rfl rfl .none (Kn.ex_move fh38 (.tmp rfl)) fun fa39 fh39 => ?_
    clear fh38 fa38
    refine Kn.pure fh39 rfl rfl .none (Kn.ex_move fh39 (.tmp rfl)) fun fa40 fh40 => ?_
    clear fh39 fa39
    refine Kn.call fh40 rfl rfl .none (Kn.ex_call fh40 (.cons (.tmp rfl) (.cons (.tmp rfl) .nil))) Tryd.call8 (hm) fun e w4 hp => ?_
    obtain ⟨rfl, rfl⟩ := hp
    refine ⟨_, rfl, fun fa41 fh41 => ?_⟩
    clear fh40 fa40
    refine Kn.pure fh41 rfl rfl .none (Kn.ex_assign fh41 (.tmp rfl)) fun fa42 fh42 => ?_
    clear fh41 fa41
    refine wpList_nil ?_
    refine hK10 _ _ ?_
    clear hK10 K10
    replace fh42 := fh42.cut (.cons (t := 9) rfl (.cons (t := 8) rfl (.cons (t := 7) rfl (.cons (t := 6) rfl (.cons (t := 5) rfl (.cons (t := 0) rfl (.cons (t := 1) rfl .nil)))))))
    refine wp_seq_k fun K11 hK11 => ?_
    refine wp_region_lit ?_
    refine Kn.pure fh42 rfl rfl .none (Kn.ex_move fh42 (.tmp rfl)) fun fa43 fh43 => ?_
    clear fh42 fa42
    refine Kn.step fh43 rfl rfl .none (Kn.ex_bin fh43 (.tmp rfl) .const) fun Ko hKo => ?_
    go_simp
    try go_bits
    refine hKo _ _ fun fa44 fh44 => ?_
    clear hKo Ko fh43 fa43
    refine wpList_nil ?_
    refine hK11 _ _ ?_
    clear hK11 K11
    replace fh44 := fh44.cut (.cons (t := 57) rfl (.cons (t := 9) rfl (.cons (t := 8) rfl (.cons (t := 7) rfl (.cons (t := 6) rfl (.cons (t := 5) rfl (.cons (t := 0) rfl (.cons (t := 1) rfl .nil))))))))
    refine Kn.no fh44 (.tmp rfl) ?_
    refine wp_skip ?_
    refine hK9 _ _ ?_
    clear hK9 K9
    replace fh44 := fh44.cut (.cons (t := 8) rfl (.cons (t := 7) rfl (.cons (t := 6) rfl (.cons (t := 5) rfl (.cons (t := 0) rfl (.cons (t := 1) rfl .nil))))))
    refine wp_seq_k fun K12 hK12 => ?_
    refine wp_seq_k fun K13 hK13 => ?_
    refine wp_region_lit ?_
    refine Kn.pure fh44 rfl rfl .none (Kn.ex_move fh44 (.tmp rfl)) fun fa45 fh45 => ?_
    clear fh44 fa44
    refine Kn.step fh45 rfl rfl .none (Kn.ex_fieldAddr fh45 (.tmp rfl)) fun Ko hKo => ?_
    go_simp
    try go_bits
    refine hKo _ _ fun fa46 fh46 => ?_
    clear hKo Ko fh45 fa45
    refine Kn.step fh46 rfl rfl .none (Kn.ex_load fh46 (.tmp rfl)) fun Ko hKo => ?_
    go_simp
    try go_bits
    refine hKo _ _ fun fa47 fh47 => ?_
    clear hKo Ko fh46 fa46
    refine Kn.call fh47 rfl rfl .none (Kn.ex_call fh47 (.cons (.tmp rfl) (.cons (.tmp rfl) .nil))) Tryd.call11 (HW.out w3 HK3.out.2.2.1) fun e w4 hp => ?_
    obtain ⟨rfl, q4, rfl⟩ := hp
    refine ⟨_, rfl, fun fa48 fh48 => ?_⟩
    clear fh47 fa47
    refine Kn.pure fh48 rfl rfl .none (Kn.ex_assign fh48 (.tmp rfl)) fun fa49 fh49 => ?_
    clear fh48 fa48
    refine wpList_nil ?_
    refine hK13 _ _ ?_
    clear hK13 K13
    replace fh49 := fh49.cut (.cons (t := 10) rfl (.cons (t := 8) rfl (.cons (t := 7) rfl (.cons (t := 6) rfl (.cons (t := 5) rfl (.cons (t := 0) rfl (.cons (t := 1) rfl .nil)))))))
    clear c0 c1 c2
    have HK4 := Lib.hid (HK3.out.drewN q4)
    clear HK3
    refine wp_seq_k fun K14 hK14 => ?_
    refine wp_region_lit ?_
    refine Kn.pure fh49 rfl rfl .none (Kn.ex_move fh49 (.tmp rfl)) fun fa50 fh50 => ?_
    clear fh49 fa49
    refine Kn.step fh50 rfl rfl .none (Kn.ex_bin fh50 (.tmp rfl) .const) fun Ko hKo => ?_
    go_simp
    try go_bits
    refine hKo _ _ fun fa51 fh51 => ?_
    clear hKo Ko fh50 fa50
    refine wpList_nil ?_
    refine hK14 _ _ ?_
    clear hK14 K14
    replace fh51 := fh51.cut (.cons (t := 76) rfl (.cons (t := 10) rfl (.cons (t := 8) rfl (.cons (t := 7) rfl (.cons (t := 6) rfl (.cons (t := 5) rfl (.cons (t := 0) rfl (.cons (t := 1) rfl .nil))))))))
    refine Kn.yes fh51 (.tmp rfl) ?_
    replace fh51 := fh51.cut (.cons (t := 10) rfl (.cons (t := 8) rfl (.cons (t := 7) rfl (.cons (t := 6) rfl (.cons (t := 5) rfl (.cons (t := 0) rfl (.cons (t := 1) rfl .nil)))))))
    refine wp_seq_k fun K15 hK15 => ?_
    refine wp_region_lit ?_
    refine Kn.pure fh51 rfl rfl .none (Kn.ex_move fh51 (.tmp rfl)) fun fa52 fh52 => ?_
    clear fh51 fa51
    refine Kn.step fh52 rfl rfl .none (Kn.ex_bin fh52 (.tmp rfl) .const) fun Ko hKo => ?_
    go_simp
    try go_bits
    refine hKo _ _ fun fa53 fh53 => ?_
    clear hKo Ko fh52 fa52
    refine Kn.pure fh53 rfl rfl .none (Kn.ex_move fh53 (.tmp rfl)) fun fa54 fh54 => ?_
    clear fh53 fa53
    refine Kn.pure fh54 rfl rfl (.some rfl rfl rfl) (Kn.ex_move fh54 (.tmp rfl)) fun fa55 fh55 => ?_
    clear fh54 fa54
    refine Kn.call fh55 rfl rfl (.some rfl rfl rfl) (Kn.ex_call fh55 (.cons (.tmp rfl) .nil)) Tryd.call9 (HC.out (w3.drewN q4) HK4.out.1) fun e w5 hp => ?_
    obtain ⟨rfl, hb5⟩ := hp
    refine ⟨_, rfl, fun fa56 fh56 => ?_⟩
    clear fh55 fa55
    have HK5 := Lib.hid (HK4.out.on hb5)
    clear hb5 HK4
    refine Kn.step fh56 rfl rfl (.some rfl rfl rfl) (Kn.ex_bin fh56 (.tmp rfl) .const) fun Ko hKo => ?_
    go_simp
    try go_bits
    refine hKo _ _ fun fa57 fh57 => ?_
    clear hKo Ko fh56 fa56
    refine Kn.pure fh57 rfl rfl .none (Kn.ex_pick fh57 (.tmp rfl) (.tmp rfl)) fun fa58 fh58 => ?_
    clear fh57 fa57
    refine Kn.pure fh58 rfl rfl .none (Kn.ex_move fh58 (.tmp rfl)) fun fa59 fh59 => ?_
    clear fh58 fa58
    refine Kn.pure fh59 rfl rfl (.some rfl rfl rfl) (Kn.ex_move fh59 (.tmp rfl)) fun fa60 fh60 => ?_
    clear fh59 fa59
    refine Kn.call fh60 rfl rfl (.some rfl rfl rfl) (Kn.ex_call fh60 (.cons (.tmp rfl) .nil)) Tryd.call10 (HP.out w5 HK5.out.1) fun e w6 hp => ?_
    obtain ⟨rfl, hb6⟩ := hp
    refine ⟨_, rfl, fun fa61 fh61 => ?_⟩
    clear fh60 fa60
    have HK6 := Lib.hid (HK5.out.on hb6)
    clear hb6 HK5
    refine Kn.pure fh61 rfl rfl (.some rfl rfl rfl) (Kn.ex_move fh61 (.tmp rfl)) fun fa62 fh62 => ?_
    clear fh61 fa61
    refine Kn.step fh62 rfl rfl (.some rfl rfl rfl) (Kn.ex_bin fh62 (.tmp rfl) (.tmp rfl)) fun Ko hKo => ?_
    go_simp
    try go_bits
    refine hKo _ _ fun fa63 fh63 => ?_
    clear hKo Ko fh62 fa62
    refine Kn.pure fh63 rfl rfl .none (Kn.ex_pick fh63 (.tmp rfl) (.tmp rfl)) fun fa64 fh64 => ?_
    clear fh63 fa63
    refine Kn.pure fh64 rfl rfl .none (Kn.ex_assign fh64 (.tmp rfl)) fun fa65 fh65 => ?_
    clear fh64 fa64
    refine wpList_nil ?_
    refine hK15 _ _ ?_
    clear hK15 K15
    replace fh65 := fh65.cut (.cons (t := 6) rfl (.cons (t := 8) rfl (.cons (t := 7) rfl (.cons (t := 5) rfl (.cons (t := 0) rfl (.cons (t := 1) rfl .nil))))))
    refine wp_ret ?_
    refine Kn.then_ret ?_
    exact Kn.ret1 fh65 rfl rfl ⟨by simp, HK6.out.2.2.2⟩
  obtain rfl : f = l.length := by omega
  rw [if_neg hf] at hp
  simp only [if_neg hf] at hz hwr
  have hgd : GoodT N l := goodT_iff.2 hG
  have hrp := fun u h => refPut_any v A ca l u (by omega) hv0 (by omega) h (fun i hi => ⟨(hgd.1 i hi).1, by have := (hgd.1 i hi).2; omega⟩) hgd.2
  obtain ⟨S, hS⟩ : ∃ S, bs (putF v l l.length) = S := ⟨_, rfl⟩
  have hSz : (putF v l l.length).length = S.size := by rw [← hS, bs_size]
  have hSd : S.data.toList = putF v l l.length := by rw [← hS, bs_data]
  rw [hS] at hp hrp
  simp only [hSz] at hz
  have hSs : S.size ≤ 3000 := by
    rw [← hSz]
    have := putF_len v l (by omega) (fun k => by
      refine ⟨?_, ?_⟩
      · rcases Nat.eq_zero_or_pos l.length with h0 | h0
        · obtain rfl := List.eq_nil_of_length_eq_zero h0
          obtain ⟨t, e, ht⟩ := turn_nat (([] : List Int).getD 0 0 - v) (by simp; omega) (by simp; omega)
          rw [e]; omega
        · have := hgd.1 0 h0
          unfold nt at this
          obtain ⟨t, e, ht⟩ := turn_nat (l.getD 0 0 - v) (by omega) (by omega)
          rw [e]; omega
      · rcases Nat.lt_or_ge (k + 1) l.length with h1 | h1
        · have a1 := hgd.1 (k + 1) h1
          have a2 := hgd.1 k (by omega)
          unfold nt at a1 a2
          omega
        · have e : l.getD (k + 1) 0 = 0 := by simp [List.getD, List.getElem?_eq_none h1]
          rw [e]
          rcases Nat.lt_or_ge k l.length with h2 | h2
          · have a2 := hgd.1 k h2
            unfold nt at a2
            omega
          · have e2 : l.getD k 0 = 0 := by simp [List.getD, List.getElem?_eq_none h2]
            rw [e2]; simp) l.length
    omega
  obtain ⟨X, hX⟩ : ∃ X, a ++ S ++ b = X := ⟨_, rfl⟩
  have hXs : X.size = a.size + S.size + b.size := by rw [← hX]; simp
  have hXd : X.data.toList.drop a.size = putF v l l.length ++ b.data.toList := by
    have e : X.data.toList = a.data.toList ++ (S.data.toList ++ b.data.toList) := by rw [← hX]; simp
    rw [e, show a.size = a.data.toList.length from rfl, List.drop_left, hSd]
  obtain ⟨hr1, hr2, hr3, hr4⟩ := row_got hN1 hv0 hv1 hgd (by omega) hXd
  rw [hSz] at hr1 hr2
  obtain ⟨Q, hQ⟩ : ∃ Q, a.size + S.size = Q := ⟨_, rfl⟩
  rw [hQ] at hr1 hr2
  have hXi : (a.size : Int) + (S.size : Int) = (Q : Int) := by omega
  have hQb : Q ≤ 4000 := by omega
  have hXm : X.size ≤ maxLen := by unfold maxLen; omega
  have hgt : ∀ u, Calls Tryd.prog 12 #[.string X, .int .i64 (a.size : Int), .int .i64 N, .int .i64 v] u fun e w' => ∃ g, e = .returned (.tuple #[.slice (some ⟨g, 0, none⟩) l.length l.length, .int .i64 (Q : Int), .nilIface]) ∧ HoldI w' g l ∧ Below u.heap.size u w' := fun u => by
    refine (gGet_any X a.size N v u hXm hN1 hv0 hv1).mono fun e w' hc => ?_
    obtain ⟨hb, h⟩ := hc
    rw [hr1] at h
    rcases h with ⟨x', a', he, -⟩ | ⟨l', nx', g, he, h1, h2, -⟩
    · cases he
    · cases he; exact ⟨g, h1, h2, hb⟩
  have hsk : ∀ u, _ := fun u => gSkip_g X a.size N u hXm hN0 hN1
  have hct : ∀ u, _ := fun u => gCount_g X a.size N u hXm hN0 hN1
  simp only [hr2, gE_0] at hsk
  simp only [hr3, hr4, gE_0] at hct
  have HSK := Lib.hid hsk
  have HCT := Lib.hid hct
  have HGT := Lib.hid hgt
  have HZ := Lib.hid hz
  have HW := Lib.hid hwr
  have HRP := Lib.hid hrp
  have hin := fun u B (h1 : IIn u B l) (h2 : IIn u A l) => refInts_any B A l.length ca l l u (by unfold maxLen; omega) (by unfold maxLen; omega) h1 h2
  rw [decide_eq_true rfl] at hin
  have HIN := Lib.hid hin
  clear hQ hz hwr hrp hgt hsk hct hin hr1 hr2 hr3 hr4 hXd hXm hXs hgd hG hB hf hfl hS hSd hSz
  refine wp_seq_k fun K6 hK6 => ?_
  refine wp_region_lit ?_
  refine Kn.pure fh20 rfl rfl .none (Kn.ex_move fh20 (.tmp rfl)) fun fa21 fh21 => ?_
  clear fh20 fa20
  refine Kn.pure fh21 rfl rfl .none (Kn.ex_move fh21 (.tmp rfl)) fun fa22 fh22 => ?_
  clear fh21 fa21
  refine Kn.step fh22 rfl rfl .none (Kn.ex_fieldAddr fh22 (.tmp rfl)) fun Ko hKo => ?_
  go_simp
  try go_bits
  refine hKo _ _ fun fa23 fh23 => ?_
  clear hKo Ko fh22 fa22
  refine Kn.step fh23 rfl rfl .none (Kn.ex_load fh23 (.tmp rfl)) fun Ko hKo => ?_
  go_simp
  try go_bits
  refine hKo _ _ fun fa24 fh24 => ?_
  clear hKo Ko fh23 fa23
  refine Kn.call fh24 rfl rfl .none (Kn.ex_call fh24 (.cons (.tmp rfl) (.cons (.tmp rfl) (.cons (.tmp rfl) .nil)))) Tryd.call6 (hp) fun e w2 hp => ?_
  obtain ⟨rfl, hb2⟩ := hp
  refine ⟨_, rfl, fun fa25 fh25 => ?_⟩
  clear fh24 fa24
  refine Kn.pure fh25 rfl rfl .none (Kn.ex_move fh25 (.tmp rfl)) fun fa26 fh26 => ?_
  clear fh25 fa25
  refine Kn.pure fh26 rfl rfl .none (Kn.ex_extract fh26 (.tmp rfl) rfl) fun fa27 fh27 => ?_
  clear fh26 fa26
  refine Kn.pure fh27 rfl rfl .none (Kn.ex_extract fh27 (.tmp rfl) rfl) fun fa28 fh28 => ?_
  clear fh27 fa27
  refine Kn.pure fh28 rfl rfl .none (Kn.ex_assign fh28 (.tmp rfl)) fun fa29 fh29 => ?_
  clear fh28 fa28
  refine Kn.pure fh29 rfl rfl .none (Kn.ex_assign fh29 (.tmp rfl)) fun fa30 fh30 => ?_
  clear fh29 fa29
  refine wpList_nil ?_
  refine hK6 _ _ ?_
  clear hK6 K6
  replace fh30 := fh30.cut (.cons (t := 8) rfl (.cons (t := 7) rfl (.cons (t := 6) rfl (.cons (t := 5) rfl (.cons (t := 0) rfl (.cons (t := 1) rfl .nil))))))
  have HK2 := Lib.hid (HK.out.on hb2)
  clear hb2 HK
  clear hp
  clear c0 c1 c2
  have c0 := HK2.out.2.1.cell 0 rfl
  have c1 := HK2.out.2.1.cell 1 rfl
  have c2 := HK2.out.2.1.cell 2 rfl
  refine wp_seq_k fun K7 hK7 => ?_
  refine wp_seq_k fun K8 hK8 => ?_
  refine wp_region_lit ?_
  refine Kn.pure fh30 rfl rfl .none (Kn.ex_move fh30 (.tmp rfl)) fun fa31 fh31 => ?_
  clear fh30 fa30
  refine Kn.pure fh31 rfl rfl .none (Kn.ex_move fh31 (.tmp rfl)) fun fa32 fh32 => ?_
  clear fh31 fa31
  refine Kn.step fh32 rfl rfl .none (Kn.ex_fieldAddr fh32 (.tmp rfl)) fun Ko hKo => ?_
  go_simp
  try go_bits
  refine hKo _ _ fun fa33 fh33 => ?_
  clear hKo Ko fh32 fa32
  refine Kn.step fh33 rfl rfl .none (Kn.ex_load fh33 (.tmp rfl)) fun Ko hKo => ?_
  go_simp
  try go_bits
  refine hKo _ _ fun fa34 fh34 => ?_
  clear hKo Ko fh33 fa33
  refine Kn.call fh34 rfl rfl .none (Kn.ex_call fh34 (.cons (.tmp rfl) (.cons (.tmp rfl) (.cons (.tmp rfl) .nil)))) Tryd.call7 (HZ.out w2 HK2.out.2.2.1) fun e w3 hp => ?_
  obtain ⟨rfl, hb3⟩ := hp
  refine ⟨_, rfl, fun fa35 fh35 => ?_⟩
  clear fh34 fa34
  have HK3 := Lib.hid (HK2.out.on hb3)
  clear hb3 HK2
  refine Kn.pure fh35 rfl rfl .none (Kn.ex_move fh35 (.tmp rfl)) fun fa36 fh36 => ?_
  clear fh35 fa35
  refine Kn.step fh36 rfl rfl .none (Kn.ex_len fh36 (.tmp rfl)) fun Ko hKo => ?_
  go_simp
  try go_bits
  refine hKo _ _ fun fa37 fh37 => ?_
  clear hKo Ko fh36 fa36
  refine Kn.step fh37 rfl rfl .none (Kn.ex_bin fh37 (.tmp rfl) (.tmp rfl)) fun Ko hKo => ?_
  go_simp
  try go_bits
  refine hKo _ _ fun fa38 fh38 => ?_
  clear hKo Ko fh37 fa37
  refine wpList_nil ?_
  refine hK8 _ _ ?_
  clear hK8 K8
  replace fh38 := fh38.cut (.cons (t := 52) rfl (.cons (t := 8) rfl (.cons (t := 7) rfl (.cons (t := 6) rfl (.cons (t := 5) rfl (.cons (t := 0) rfl (.cons (t := 1) rfl .nil)))))))
  refine Kn.no fh38 (.tmp rfl) ?_
  refine wp_skip ?_
  refine hK7 _ _ ?_
  clear hK7 K7
  replace fh38 := fh38.cut (.cons (t := 8) rfl (.cons (t := 7) rfl (.cons (t := 6) rfl (.cons (t := 5) rfl (.cons (t := 0) rfl (.cons (t := 1) rfl .nil))))))
  clear c0 c1 c2
  have c0 := HK3.out.2.1.cell 0 rfl
  have c1 := HK3.out.2.1.cell 1 rfl
  have c2 := HK3.out.2.1.cell 2 rfl
  have hm := HM.out w3
  refine wp_seq_k fun K9 hK9 => ?_
  refine wp_seq_k fun K10 hK10 => ?_
  refine wp_region_lit ?_
  refine Kn.pure fh38 rfl rfl .none (Kn.ex_move fh38 (.tmp rfl)) fun fa39 fh39 => ?_
  clear fh38 fa38
  refine Kn.pure fh39 rfl rfl .none (Kn.ex_move fh39 (.tmp rfl)) fun fa40 fh40 => ?_
  clear fh39 fa39
  refine Kn.call fh40 rfl rfl .none (Kn.ex_call fh40 (.cons (.tmp rfl) (.cons (.tmp rfl) .nil))) Tryd.call8 (hm) fun e w4 hp => ?_
  obtain ⟨rfl, rfl⟩ := hp
  refine ⟨_, rfl, fun fa41 fh41 => ?_⟩
  clear fh40 fa40
  refine Kn.pure fh41 rfl rfl .none (Kn.ex_assign fh41 (.tmp rfl)) fun fa42 fh42 => ?_
  clear fh41 fa41
  refine wpList_nil ?_
  refine hK10 _ _ ?_
  clear hK10 K10
  replace fh42 := fh42.cut (.cons (t := 9) rfl (.cons (t := 8) rfl (.cons (t := 7) rfl (.cons (t := 6) rfl (.cons (t := 5) rfl (.cons (t := 0) rfl (.cons (t := 1) rfl .nil)))))))
  refine wp_seq_k fun K11 hK11 => ?_
  refine wp_region_lit ?_
  refine Kn.pure fh42 rfl rfl .none (Kn.ex_move fh42 (.tmp rfl)) fun fa43 fh43 => ?_
  clear fh42 fa42
  refine Kn.step fh43 rfl rfl .none (Kn.ex_bin fh43 (.tmp rfl) .const) fun Ko hKo => ?_
  go_simp
  try go_bits
  refine hKo _ _ fun fa44 fh44 => ?_
  clear hKo Ko fh43 fa43
  refine wpList_nil ?_
  refine hK11 _ _ ?_
  clear hK11 K11
  replace fh44 := fh44.cut (.cons (t := 57) rfl (.cons (t := 9) rfl (.cons (t := 8) rfl (.cons (t := 7) rfl (.cons (t := 6) rfl (.cons (t := 5) rfl (.cons (t := 0) rfl (.cons (t := 1) rfl .nil))))))))
  refine Kn.no fh44 (.tmp rfl) ?_
  refine wp_skip ?_
  refine hK9 _ _ ?_
  clear hK9 K9
  replace fh44 := fh44.cut (.cons (t := 8) rfl (.cons (t := 7) rfl (.cons (t := 6) rfl (.cons (t := 5) rfl (.cons (t := 0) rfl (.cons (t := 1) rfl .nil))))))
  refine wp_seq_k fun K12 hK12 => ?_
  refine wp_seq_k fun K13 hK13 => ?_
  refine wp_region_lit ?_
  refine Kn.pure fh44 rfl rfl .none (Kn.ex_move fh44 (.tmp rfl)) fun fa45 fh45 => ?_
  clear fh44 fa44
  refine Kn.step fh45 rfl rfl .none (Kn.ex_fieldAddr fh45 (.tmp rfl)) fun Ko hKo => ?_
  go_simp
  try go_bits
  refine hKo _ _ fun fa46 fh46 => ?_
  clear hKo Ko fh45 fa45
  refine Kn.step fh46 rfl rfl .none (Kn.ex_load fh46 (.tmp rfl)) fun Ko hKo => ?_
  go_simp
  try go_bits
  refine hKo _ _ fun fa47 fh47 => ?_
  clear hKo Ko fh46 fa46
  refine Kn.call fh47 rfl rfl .none (Kn.ex_call fh47 (.cons (.tmp rfl) (.cons (.tmp rfl) .nil))) Tryd.call11 (HW.out w3 HK3.out.2.2.1) fun e w4 hp => ?_
  obtain ⟨rfl, q4, rfl⟩ := hp
  refine ⟨_, rfl, fun fa48 fh48 => ?_⟩
  clear fh47 fa47
  refine Kn.pure fh48 rfl rfl .none (Kn.ex_assign fh48 (.tmp rfl)) fun fa49 fh49 => ?_
  clear fh48 fa48
  refine wpList_nil ?_
  refine hK13 _ _ ?_
  clear hK13 K13
  replace fh49 := fh49.cut (.cons (t := 10) rfl (.cons (t := 8) rfl (.cons (t := 7) rfl (.cons (t := 6) rfl (.cons (t := 5) rfl (.cons (t := 0) rfl (.cons (t := 1) rfl .nil)))))))
  refine Kn.gen (PK w g A l #[.slice A l.length ca, .string a, .string b]) (HK3.out.drewN q4) fun w5 hu => ?_
  have HK5 := Lib.hid hu
  clear hu HK3 hm c0 c1 c2
  refine wp_seq_k fun K14 hK14 => ?_
  refine wp_region_lit ?_
  refine Kn.pure fh49 rfl rfl .none (Kn.ex_move fh49 (.tmp rfl)) fun fa50 fh50 => ?_
  clear fh49 fa49
  refine Kn.step fh50 rfl rfl .none (Kn.ex_bin fh50 (.tmp rfl) .const) fun Ko hKo => ?_
  go_simp
  try go_bits
  refine hKo _ _ fun fa51 fh51 => ?_
  clear hKo Ko fh50 fa50
  refine wpList_nil ?_
  refine hK14 _ _ ?_
  clear hK14 K14
  replace fh51 := fh51.cut (.cons (t := 76) rfl (.cons (t := 10) rfl (.cons (t := 8) rfl (.cons (t := 7) rfl (.cons (t := 6) rfl (.cons (t := 5) rfl (.cons (t := 0) rfl (.cons (t := 1) rfl .nil))))))))
  refine Kn.no fh51 (.tmp rfl) ?_
  refine wp_skip ?_
  refine hK12 _ _ ?_
  clear hK12 K12
  replace fh51 := fh51.cut (.cons (t := 8) rfl (.cons (t := 7) rfl (.cons (t := 6) rfl (.cons (t := 5) rfl (.cons (t := 0) rfl (.cons (t := 1) rfl .nil))))))
  have c0 := HK5.out.2.1.cell 0 rfl
  have c1 := HK5.out.2.1.cell 1 rfl
  have c2 := HK5.out.2.1.cell 2 rfl
  refine wp_seq_k fun K15 hK15 => ?_
  refine wp_region_lit ?_
  refine Kn.step fh51 rfl rfl .none (Kn.ex_fieldAddr fh51 (.tmp rfl)) fun Ko hKo => ?_
  go_simp
  try go_bits
  refine hKo _ _ fun fa52 fh52 => ?_
  clear hKo Ko fh51 fa51
  refine Kn.step fh52 rfl rfl .none (Kn.ex_load fh52 (.tmp rfl)) fun Ko hKo => ?_
  go_simp
  try go_bits
  refine hKo _ _ fun fa53 fh53 => ?_
  clear hKo Ko fh52 fa52
  refine Kn.pure fh53 rfl rfl .none (Kn.ex_move fh53 (.tmp rfl)) fun fa54 fh54 => ?_
  clear fh53 fa53
  refine Kn.step fh54 rfl rfl .none (Kn.ex_bin fh54 (.tmp rfl) (.tmp rfl)) fun Ko hKo => ?_
  go_simp
  try rw [if_neg (by omega)]
  refine hKo _ _ fun fa55 fh55 => ?_
  clear hKo Ko fh54 fa54
  refine Kn.step fh55 rfl rfl .none (Kn.ex_fieldAddr fh55 (.tmp rfl)) fun Ko hKo => ?_
  go_simp
  try go_bits
  refine hKo _ _ fun fa56 fh56 => ?_
  clear hKo Ko fh55 fa55
  refine Kn.step fh56 rfl rfl .none (Kn.ex_load fh56 (.tmp rfl)) fun Ko hKo => ?_
  go_simp
  try go_bits
  refine hKo _ _ fun fa57 fh57 => ?_
  clear hKo Ko fh56 fa56
  refine Kn.step fh57 rfl rfl .none (Kn.ex_bin fh57 (.tmp rfl) (.tmp rfl)) fun Ko hKo => ?_
  go_simp
  try rw [hX]
  rw [if_neg (by omega)]
  refine hKo _ _ fun fa58 fh58 => ?_
  clear hKo Ko fh57 fa57
  refine Kn.pure fh58 rfl rfl .none (Kn.ex_assign fh58 (.tmp rfl)) fun fa59 fh59 => ?_
  clear fh58 fa58
  refine wpList_nil ?_
  refine hK15 _ _ ?_
  clear hK15 K15
  replace fh59 := fh59.cut (.cons (t := 11) rfl (.cons (t := 8) rfl (.cons (t := 7) rfl (.cons (t := 6) rfl (.cons (t := 5) rfl (.cons (t := 0) rfl (.cons (t := 1) rfl .nil)))))))
  clear hX
  refine wp_seq_k fun K16 hK16 => ?_
  refine wp_region_lit ?_
  refine Kn.pure fh59 rfl rfl .none (Kn.ex_move fh59 (.tmp rfl)) fun fa60 fh60 => ?_
  clear fh59 fa59
  refine Kn.step fh60 rfl rfl .none (Kn.ex_fieldAddr fh60 (.tmp rfl)) fun Ko hKo => ?_
  go_simp
  try go_bits
  refine hKo _ _ fun fa61 fh61 => ?_
  clear hKo Ko fh60 fa60
  refine Kn.step fh61 rfl rfl .none (Kn.ex_load fh61 (.tmp rfl)) fun Ko hKo => ?_
  go_simp
  try go_bits
  refine hKo _ _ fun fa62 fh62 => ?_
  clear hKo Ko fh61 fa61
  refine Kn.step fh62 rfl rfl .none (Kn.ex_len fh62 (.tmp rfl)) fun Ko hKo => ?_
  go_simp
  try go_bits
  refine hKo _ _ fun fa63 fh63 => ?_
  clear hKo Ko fh62 fa62
  refine Kn.pure fh63 rfl rfl .none (Kn.ex_move fh63 (.tmp rfl)) fun fa64 fh64 => ?_
  clear fh63 fa63
  refine Kn.pure fh64 rfl rfl .none (Kn.ex_move fh64 (.tmp rfl)) fun fa65 fh65 => ?_
  clear fh64 fa64
  refine Kn.call fh65 rfl rfl .none (Kn.ex_call fh65 (.cons (.tmp rfl) (.cons (.tmp rfl) (.cons (.tmp rfl) (.cons (.tmp rfl) .nil))))) Tryd.call12 (HGT.out w5) fun e w6 hp => ?_
  obtain ⟨gg, rfl, hH, hb6⟩ := hp
  refine ⟨_, rfl, fun fa66 fh66 => ?_⟩
  clear fh65 fa65
  refine Kn.pure fh66 rfl rfl .none (Kn.ex_move fh66 (.tmp rfl)) fun fa67 fh67 => ?_
  clear fh66 fa66
  refine Kn.pure fh67 rfl rfl .none (Kn.ex_extract fh67 (.tmp rfl) rfl) fun fa68 fh68 => ?_
  clear fh67 fa67
  refine Kn.pure fh68 rfl rfl .none (Kn.ex_extract fh68 (.tmp rfl) rfl) fun fa69 fh69 => ?_
  clear fh68 fa68
  refine Kn.pure fh69 rfl rfl .none (Kn.ex_extract fh69 (.tmp rfl) rfl) fun fa70 fh70 => ?_
  clear fh69 fa69
  refine Kn.pure fh70 rfl rfl .none (Kn.ex_assign fh70 (.tmp rfl)) fun fa71 fh71 => ?_
  clear fh70 fa70
  refine Kn.pure fh71 rfl rfl .none (Kn.ex_assign fh71 (.tmp rfl)) fun fa72 fh72 => ?_
  clear fh71 fa71
  refine Kn.pure fh72 rfl rfl .none (Kn.ex_assign fh72 (.tmp rfl)) fun fa73 fh73 => ?_
  clear fh72 fa72
  refine wpList_nil ?_
  refine hK16 _ _ ?_
  clear hK16 K16
  replace fh73 := fh73.cut (.cons (t := 14) rfl (.cons (t := 13) rfl (.cons (t := 12) rfl (.cons (t := 11) rfl (.cons (t := 8) rfl (.cons (t := 7) rfl (.cons (t := 6) rfl (.cons (t := 5) rfl (.cons (t := 0) rfl (.cons (t := 1) rfl .nil))))))))))
  have HK6 := Lib.hid (HK5.out.on hb6)
  clear hb6 HK5
  have HH6 := Lib.hid hH
  clear hH
  clear c0 c1 c2
  have c0 := HK6.out.2.1.cell 0 rfl
  have c1 := HK6.out.2.1.cell 1 rfl
  have c2 := HK6.out.2.1.cell 2 rfl
  refine wp_seq_k fun K17 hK17 => ?_
  refine wp_region_lit ?_
  refine Kn.pure fh73 rfl rfl .none (Kn.ex_move fh73 (.tmp rfl)) fun fa74 fh74 => ?_
  clear fh73 fa73
  refine Kn.step fh74 rfl rfl .none (Kn.ex_fieldAddr fh74 (.tmp rfl)) fun Ko hKo => ?_
  go_simp
  try go_bits
  refine hKo _ _ fun fa75 fh75 => ?_
  clear hKo Ko fh74 fa74
  refine Kn.step fh75 rfl rfl .none (Kn.ex_load fh75 (.tmp rfl)) fun Ko hKo => ?_
  go_simp
  try go_bits
  refine hKo _ _ fun fa76 fh76 => ?_
  clear hKo Ko fh75 fa75
  refine Kn.step fh76 rfl rfl .none (Kn.ex_len fh76 (.tmp rfl)) fun Ko hKo => ?_
  go_simp
  try go_bits
  refine hKo _ _ fun fa77 fh77 => ?_
  clear hKo Ko fh76 fa76
  refine Kn.pure fh77 rfl rfl .none (Kn.ex_move fh77 (.tmp rfl)) fun fa78 fh78 => ?_
  clear fh77 fa77
  refine Kn.call fh78 rfl rfl .none (Kn.ex_call fh78 (.cons (.tmp rfl) (.cons (.tmp rfl) (.cons (.tmp rfl) .nil)))) Tryd.call13 (HSK.out w6) fun e w7 hp => ?_
  obtain ⟨rfl, rfl⟩ := hp
  refine ⟨_, rfl, fun fa79 fh79 => ?_⟩
  clear fh78 fa78
  refine Kn.pure fh79 rfl rfl .none (Kn.ex_move fh79 (.tmp rfl)) fun fa80 fh80 => ?_
  clear fh79 fa79
  refine Kn.pure fh80 rfl rfl .none (Kn.ex_extract fh80 (.tmp rfl) rfl) fun fa81 fh81 => ?_
  clear fh80 fa80
  refine Kn.pure fh81 rfl rfl .none (Kn.ex_extract fh81 (.tmp rfl) rfl) fun fa82 fh82 => ?_
  clear fh81 fa81
  refine Kn.pure fh82 rfl rfl .none (Kn.ex_assign fh82 (.tmp rfl)) fun fa83 fh83 => ?_
  clear fh82 fa82
  refine Kn.pure fh83 rfl rfl .none (Kn.ex_assign fh83 (.tmp rfl)) fun fa84 fh84 => ?_
  clear fh83 fa83
  refine wpList_nil ?_
  refine hK17 _ _ ?_
  clear hK17 K17
  replace fh84 := fh84.cut (.cons (t := 16) rfl (.cons (t := 15) rfl (.cons (t := 14) rfl (.cons (t := 13) rfl (.cons (t := 12) rfl (.cons (t := 11) rfl (.cons (t := 8) rfl (.cons (t := 7) rfl (.cons (t := 6) rfl (.cons (t := 5) rfl (.cons (t := 0) rfl (.cons (t := 1) rfl .nil))))))))))))
  refine wp_seq_k fun K18 hK18 => ?_
  refine wp_region_lit ?_
  refine Kn.pure fh84 rfl rfl .none (Kn.ex_move fh84 (.tmp rfl)) fun fa85 fh85 => ?_
  clear fh84 fa84
  refine Kn.step fh85 rfl rfl .none (Kn.ex_fieldAddr fh85 (.tmp rfl)) fun Ko hKo => ?_
  go_simp
  try go_bits
  refine hKo _ _ fun fa86 fh86 => ?_
  clear hKo Ko fh85 fa85
  refine Kn.step fh86 rfl rfl .none (Kn.ex_load fh86 (.tmp rfl)) fun Ko hKo => ?_
  go_simp
  try go_bits
  refine hKo _ _ fun fa87 fh87 => ?_
  clear hKo Ko fh86 fa86
  refine Kn.step fh87 rfl rfl .none (Kn.ex_len fh87 (.tmp rfl)) fun Ko hKo => ?_
  go_simp
  try go_bits
  refine hKo _ _ fun fa88 fh88 => ?_
  clear hKo Ko fh87 fa87
  refine Kn.pure fh88 rfl rfl .none (Kn.ex_move fh88 (.tmp rfl)) fun fa89 fh89 => ?_
  clear fh88 fa88
  refine Kn.call fh89 rfl rfl .none (Kn.ex_call fh89 (.cons (.tmp rfl) (.cons (.tmp rfl) (.cons (.tmp rfl) .nil)))) Tryd.call14 (HCT.out w6) fun e w7 hp => ?_
  obtain ⟨rfl, rfl⟩ := hp
  refine ⟨_, rfl, fun fa90 fh90 => ?_⟩
  clear fh89 fa89
  refine Kn.pure fh90 rfl rfl .none (Kn.ex_move fh90 (.tmp rfl)) fun fa91 fh91 => ?_
  clear fh90 fa90
  refine Kn.pure fh91 rfl rfl .none (Kn.ex_extract fh91 (.tmp rfl) rfl) fun fa92 fh92 => ?_
  clear fh91 fa91
  refine Kn.pure fh92 rfl rfl .none (Kn.ex_extract fh92 (.tmp rfl) rfl) fun fa93 fh93 => ?_
  clear fh92 fa92
  refine Kn.pure fh93 rfl rfl .none (Kn.ex_assign fh93 (.tmp rfl)) fun fa94 fh94 => ?_
  clear fh93 fa93
  refine Kn.pure fh94 rfl rfl .none (Kn.ex_assign fh94 (.tmp rfl)) fun fa95 fh95 => ?_
  clear fh94 fa94
  refine wpList_nil ?_
  refine hK18 _ _ ?_
  clear hK18 K18
  replace fh95 := fh95.cut (.cons (t := 18) rfl (.cons (t := 17) rfl (.cons (t := 16) rfl (.cons (t := 15) rfl (.cons (t := 14) rfl (.cons (t := 13) rfl (.cons (t := 12) rfl (.cons (t := 8) rfl (.cons (t := 7) rfl (.cons (t := 6) rfl (.cons (t := 5) rfl (.cons (t := 1) rfl .nil))))))))))))
  refine wp_seq_k fun K19 hK19 => ?_
  refine wp_region_lit ?_
  refine Kn.pure fh95 rfl rfl .none (Kn.ex_move fh95 (.tmp rfl)) fun fa96 fh96 => ?_
  clear fh95 fa95
  refine Kn.pure fh96 rfl rfl .none (Kn.ex_move fh96 (.tmp rfl)) fun fa97 fh97 => ?_
  clear fh96 fa96
  refine Kn.step fh97 rfl rfl .none (Kn.ex_fieldAddr fh97 (.tmp rfl)) fun Ko hKo => ?_
  go_simp
  try go_bits
  refine hKo _ _ fun fa98 fh98 => ?_
  clear hKo Ko fh97 fa97
  refine Kn.step fh98 rfl rfl .none (Kn.ex_load fh98 (.tmp rfl)) fun Ko hKo => ?_
  go_simp
  try go_bits
  refine hKo _ _ fun fa99 fh99 => ?_
  clear hKo Ko fh98 fa98
  refine Kn.call fh99 rfl rfl .none (Kn.ex_call fh99 (.cons (.tmp rfl) (.cons (.tmp rfl) .nil))) Tryd.call15 (HRP.out w6 HK6.out.2.2.1) fun e w7 hp => ?_
  obtain ⟨rfl, hb7⟩ := hp
  refine ⟨_, rfl, fun fa100 fh100 => ?_⟩
  clear fh99 fa99
  have HH7 := Lib.hid (HH6.out.on hb7)
  have HK7 := Lib.hid (HK6.out.on hb7)
  clear hb7 HK6
  clear HH6
  refine Kn.step fh100 rfl rfl .none (Kn.ex_bin fh100 (.tmp rfl) (.tmp rfl)) fun Ko hKo => ?_
  go_simp
  try go_bits
  refine hKo _ _ fun fa101 fh101 => ?_
  clear hKo Ko fh100 fa100
  refine Kn.pure fh101 rfl rfl .none (Kn.ex_move fh101 (.tmp rfl)) fun fa102 fh102 => ?_
  clear fh101 fa101
  refine Kn.pure fh102 rfl rfl (.some rfl rfl rfl) (Kn.ex_move fh102 (.tmp rfl)) fun fa103 fh103 => ?_
  clear fh102 fa102
  refine Kn.step fh103 rfl rfl (.some rfl rfl rfl) (Kn.ex_bin fh103 (.tmp rfl) .const) fun Ko hKo => ?_
  go_simp
  try go_bits
  refine hKo _ _ fun fa104 fh104 => ?_
  clear hKo Ko fh103 fa103
  refine Kn.pure fh104 rfl rfl .none (Kn.ex_pick fh104 (.tmp rfl) (.tmp rfl)) fun fa105 fh105 => ?_
  clear fh104 fa104
  refine Kn.pure fh105 rfl rfl .none (Kn.ex_move fh105 (.tmp rfl)) fun fa106 fh106 => ?_
  clear fh105 fa105
  refine Kn.pure fh106 rfl rfl (.some rfl rfl rfl) (Kn.ex_move fh106 (.tmp rfl)) fun fa107 fh107 => ?_
  clear fh106 fa106
  refine Kn.step fh107 rfl rfl (.some rfl rfl rfl) (Kn.ex_bin fh107 (.tmp rfl) .const) fun Ko hKo => ?_
  go_simp
  try go_bits
  refine hKo _ _ fun fa108 fh108 => ?_
  clear hKo Ko fh107 fa107
  refine Kn.pure fh108 rfl rfl .none (Kn.ex_pick fh108 (.tmp rfl) (.tmp rfl)) fun fa109 fh109 => ?_
  clear fh108 fa108
  refine Kn.pure fh109 rfl rfl .none (Kn.ex_move fh109 (.tmp rfl)) fun fa110 fh110 => ?_
  clear fh109 fa109
  refine Kn.pure fh110 rfl rfl (.some rfl rfl rfl) (Kn.ex_move fh110 (.tmp rfl)) fun fa111 fh111 => ?_
  clear fh110 fa110
  refine Kn.step fh111 rfl rfl (.some rfl rfl rfl) (Kn.ex_fieldAddr fh111 (.tmp rfl)) fun Ko hKo => ?_
  go_simp
  try go_bits
  refine hKo _ _ fun fa112 fh112 => ?_
  clear hKo Ko fh111 fa111
  clear c0 c1 c2
  have c0 := HK7.out.2.1.cell 0 rfl
  have c1 := HK7.out.2.1.cell 1 rfl
  have c2 := HK7.out.2.1.cell 2 rfl
  refine Kn.step fh112 rfl rfl (.some rfl rfl rfl) (Kn.ex_load fh112 (.tmp rfl)) fun Ko hKo => ?_
  go_simp
  try go_bits
  refine hKo _ _ fun fa113 fh113 => ?_
  clear hKo Ko fh112 fa112
  refine Kn.call fh113 rfl rfl (.some rfl rfl rfl) (Kn.ex_call fh113 (.cons (.tmp rfl) (.cons (.tmp rfl) .nil))) Tryd.call16 (HIN.out w7 (some ⟨gg, 0, none⟩) HH7.out.iin HK7.out.2.2.1) fun e w8 hp => ?_
  obtain ⟨rfl, q8, rfl⟩ := hp
  refine ⟨_, rfl, fun fa114 fh114 => ?_⟩
  clear fh113 fa113
  have HK8 := Lib.hid (HK7.out.drewN q8)
  clear c0 c1 c2
  have c0 := HK8.out.2.1.cell 0 rfl
  have c1 := HK8.out.2.1.cell 1 rfl
  have c2 := HK8.out.2.1.cell 2 rfl
  refine Kn.pure fh114 rfl rfl .none (Kn.ex_pick fh114 (.tmp rfl) (.tmp rfl)) fun fa115 fh115 => ?_
  clear fh114 fa114
  refine Kn.pure fh115 rfl rfl .none (Kn.ex_move fh115 (.tmp rfl)) fun fa116 fh116 => ?_
  clear fh115 fa115
  refine Kn.pure fh116 rfl rfl (.some rfl rfl rfl) (Kn.ex_move fh116 (.tmp rfl)) fun fa117 fh117 => ?_
  clear fh116 fa116
  refine Kn.step fh117 rfl rfl (.some rfl rfl rfl) (Kn.ex_fieldAddr fh117 (.tmp rfl)) fun Ko hKo => ?_
  go_simp
  try go_bits
  refine hKo _ _ fun fa118 fh118 => ?_
  clear hKo Ko fh117 fa117
  refine Kn.step fh118 rfl rfl (.some rfl rfl rfl) (Kn.ex_load fh118 (.tmp rfl)) fun Ko hKo => ?_
  go_simp
  try go_bits
  refine hKo _ _ fun fa119 fh119 => ?_
  clear hKo Ko fh118 fa118
  refine Kn.step fh119 rfl rfl (.some rfl rfl rfl) (Kn.ex_len fh119 (.tmp rfl)) fun Ko hKo => ?_
  go_simp
  try go_bits
  refine hKo _ _ fun fa120 fh120 => ?_
  clear hKo Ko fh119 fa119
  refine Kn.pure fh120 rfl rfl (.some rfl rfl rfl) (Kn.ex_move fh120 (.tmp rfl)) fun fa121 fh121 => ?_
  clear fh120 fa120
  refine Kn.step fh121 rfl rfl (.some rfl rfl rfl) (Kn.ex_len fh121 (.tmp rfl)) fun Ko hKo => ?_
  go_simp
  try go_bits
  refine hKo _ _ fun fa122 fh122 => ?_
  clear hKo Ko fh121 fa121
  refine Kn.step fh122 rfl rfl (.some rfl rfl rfl) (Kn.ex_bin fh122 (.tmp rfl) (.tmp rfl)) fun Ko hKo => ?_
  go_simp
  try go_bits
  try rw [hXi]
  try go_simp
  try go_bits
  refine hKo _ _ fun fa123 fh123 => ?_
  clear hKo Ko fh122 fa122
  refine Kn.step fh123 rfl rfl (.some rfl rfl rfl) (Kn.ex_bin fh123 (.tmp rfl) (.tmp rfl)) fun Ko hKo => ?_
  go_simp
  try go_bits
  refine hKo _ _ fun fa124 fh124 => ?_
  clear hKo Ko fh123 fa123
  refine Kn.pure fh124 rfl rfl .none (Kn.ex_pick fh124 (.tmp rfl) (.tmp rfl)) fun fa125 fh125 => ?_
  clear fh124 fa124
  refine Kn.pure fh125 rfl rfl .none (Kn.ex_move fh125 (.tmp rfl)) fun fa126 fh126 => ?_
  clear fh125 fa125
  refine Kn.pure fh126 rfl rfl (.some rfl rfl rfl) (Kn.ex_move fh126 (.tmp rfl)) fun fa127 fh127 => ?_
  clear fh126 fa126
  refine Kn.step fh127 rfl rfl (.some rfl rfl rfl) (Kn.ex_bin fh127 (.tmp rfl) .const) fun Ko hKo => ?_
  go_simp
  try go_bits
  refine hKo _ _ fun fa128 fh128 => ?_
  clear hKo Ko fh127 fa127
  refine Kn.pure fh128 rfl rfl .none (Kn.ex_pick fh128 (.tmp rfl) (.tmp rfl)) fun fa129 fh129 => ?_
  clear fh128 fa128
  refine Kn.pure fh129 rfl rfl .none (Kn.ex_move fh129 (.tmp rfl)) fun fa130 fh130 => ?_
  clear fh129 fa129
  refine Kn.pure fh130 rfl rfl (.some rfl rfl rfl) (Kn.ex_move fh130 (.tmp rfl)) fun fa131 fh131 => ?_
  clear fh130 fa130
  refine Kn.pure fh131 rfl rfl (.some rfl rfl rfl) (Kn.ex_move fh131 (.tmp rfl)) fun fa132 fh132 => ?_
  clear fh131 fa131
  refine Kn.step fh132 rfl rfl (.some rfl rfl rfl) (Kn.ex_bin fh132 (.tmp rfl) (.tmp rfl)) fun Ko hKo => ?_
  go_simp
  try go_bits
  refine hKo _ _ fun fa133 fh133 => ?_
  clear hKo Ko fh132 fa132
  refine Kn.pure fh133 rfl rfl .none (Kn.ex_pick fh133 (.tmp rfl) (.tmp rfl)) fun fa134 fh134 => ?_
  clear fh133 fa133
  refine Kn.pure fh134 rfl rfl .none (Kn.ex_move fh134 (.tmp rfl)) fun fa135 fh135 => ?_
  clear fh134 fa134
  refine Kn.pure fh135 rfl rfl (.some rfl rfl rfl) (Kn.ex_move fh135 (.tmp rfl)) fun fa136 fh136 => ?_
  clear fh135 fa135
  refine Kn.step fh136 rfl rfl (.some rfl rfl rfl) (Kn.ex_bin fh136 (.tmp rfl) .const) fun Ko hKo => ?_
  go_simp
  try go_bits
  refine hKo _ _ fun fa137 fh137 => ?_
  clear hKo Ko fh136 fa136
  refine Kn.pure fh137 rfl rfl .none (Kn.ex_pick fh137 (.tmp rfl) (.tmp rfl)) fun fa138 fh138 => ?_
  clear fh137 fa137
  refine Kn.pure fh138 rfl rfl .none (Kn.ex_move fh138 (.tmp rfl)) fun fa139 fh139 => ?_
  clear fh138 fa138
  refine Kn.pure fh139 rfl rfl (.some rfl rfl rfl) (Kn.ex_move fh139 (.tmp rfl)) fun fa140 fh140 => ?_
  clear fh139 fa139
  refine Kn.step fh140 rfl rfl (.some rfl rfl rfl) (Kn.ex_fieldAddr fh140 (.tmp rfl)) fun Ko hKo => ?_
  go_simp
  try go_bits
  refine hKo _ _ fun fa141 fh141 => ?_
  clear hKo Ko fh140 fa140
  refine Kn.step fh141 rfl rfl (.some rfl rfl rfl) (Kn.ex_load fh141 (.tmp rfl)) fun Ko hKo => ?_
  go_simp
  try go_bits
  refine hKo _ _ fun fa142 fh142 => ?_
  clear hKo Ko fh141 fa141
  refine Kn.step fh142 rfl rfl (.some rfl rfl rfl) (Kn.ex_len fh142 (.tmp rfl)) fun Ko hKo => ?_
  go_simp
  try go_bits
  refine hKo _ _ fun fa143 fh143 => ?_
  clear hKo Ko fh142 fa142
  refine Kn.step fh143 rfl rfl (.some rfl rfl rfl) (Kn.ex_bin fh143 (.tmp rfl) (.tmp rfl)) fun Ko hKo => ?_
  go_simp
  try go_bits
  refine hKo _ _ fun fa144 fh144 => ?_
  clear hKo Ko fh143 fa143
  refine Kn.pure fh144 rfl rfl .none (Kn.ex_pick fh144 (.tmp rfl) (.tmp rfl)) fun fa145 fh145 => ?_
  clear fh144 fa144
  refine Kn.pure fh145 rfl rfl .none (Kn.ex_assign fh145 (.tmp rfl)) fun fa146 fh146 => ?_
  clear fh145 fa145
  refine wpList_nil ?_
  refine hK19 _ _ ?_
  clear hK19 K19
  replace fh146 := fh146.cut (.cons (t := 6) rfl .nil)
  refine wp_ret ?_
  exact Kn.ret1 fh146 rfl rfl ⟨by simp, HK8.out.2.2.2⟩

end Go.Proofs.YtoggeiaofpdboaaDoor.Gap
