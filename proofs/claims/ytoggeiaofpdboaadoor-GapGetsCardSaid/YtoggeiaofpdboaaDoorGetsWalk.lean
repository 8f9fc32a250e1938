/- The law GapGets, walked (written by gen_gets.py). -/
import Derived.Test.YtoggeiaofpdboaaDoorGapD
import Derived.Test.YtoggeiaofpdboaaDoorRef06B
import Derived.Test.YtoggeiaofpdboaaDoorInts
import Derived.Test.YtoggeiaofpdboaaDoorErrCode
import Derived.Test.YtoggeiaofpdboaaDoorKnSkip
namespace Go.Proofs.YtoggeiaofpdboaaDoor.Gap
open Go Go.RowKit Go.Lib Oct Num OwX

theorem got_len {s : ByteArray} {p N v nx : Int} {l : List Int} (hN : N ≤ 4096) (hv0 : 0 ≤ v) (hv1 : v < N) (h : gtC s p N v = .inr (l, nx)) : l.length ≤ 4096 := by
  have hp : 0 ≤ p := by
    unfold gtC at h
    rcases hc : cnt s p N with ⟨x, n2, e, a⟩
    rw [hc] at h
    simp only at h
    by_cases he : e = 0
    · subst he; exact (rdG_ok (cntC_ok hc).1).2.1
    · rw [if_neg he] at h; cases h
  obtain ⟨q, rfl⟩ := Int.eq_ofNat_of_zero_le hp
  have := (got_is hN hv0 hv1 h).1.len (by omega)
  omega
/-- What Get answers, of nodes that may be. -/
def GetP (N p v : Int) (r : (Int × Int) ⊕ (List Int × Int)) (vL : Value) (nxt : Int) (vE : Value) (u : World) : Prop :=
  ((v < 0 ∨ N ≤ v) ∧ vL = .slice none 0 0 ∧ nxt = p ∧ vE = .iface 60 (.agg #[.int .i64 p, .iface 55 (.int .i64 2)])) ∨
  (¬ (v < 0 ∨ N ≤ v) ∧ ((∃ x a, r = .inl (x, a) ∧ x ≠ 0 ∧ vL = .slice none 0 0 ∧ nxt = p ∧ vE = .iface 60 (.agg #[.int .i64 a, .iface 55 (.int .i64 x)])) ∨
    ∃ l nx g, r = .inr (l, nx) ∧ vL = .slice (some ⟨g, 0, none⟩) l.length l.length ∧ nxt = nx ∧ vE = .nilIface ∧ HoldI u g l))
theorem GetP.on {N p v : Int} {r : (Int × Int) ⊕ (List Int × Int)} {vL : Value} {nxt : Int} {vE : Value} {u u' : World} (h : GetP N p v r vL nxt vE u) (hb : Below u.heap.size u u') : GetP N p v r vL nxt vE u' := by
  rcases h with h | ⟨h0, h | ⟨l, nx, g, h1, h2, h3, h4, h5⟩⟩
  · exact .inl h
  · exact .inr ⟨h0, .inl h⟩
  · exact .inr ⟨h0, .inr ⟨l, nx, g, h1, h2, h3, h4, h5.on hb⟩⟩
theorem gGet_p (s : ByteArray) (p N v : Int) (w : World) (hs : s.size ≤ maxLen) (h0 : 0 ≤ N) (hN : N ≤ 4096) :
    Calls Tryd.prog 12 #[.string s, .int .i64 p, .int .i64 N, .int .i64 v] w fun e w' => ∃ vL nxt vE, e = .returned (.tuple #[vL, .int .i64 nxt, vE]) ∧ GetP N p v (gtC s p N v) vL nxt vE w' ∧ Below w.heap.size w w' := by
  by_cases hv : v < 0 ∨ N ≤ v
  · refine (gGet_range s p N v w h0 hN hv).mono fun e w' ⟨he, hw⟩ => ?_
    subst hw
    exact ⟨_, _, _, he, .inl ⟨hv, rfl, rfl, rfl⟩, Below.refl _ _⟩
  · refine (gGet_any s p N v w hs hN (by omega) (by omega)).mono fun e w' ⟨hb, h⟩ => ?_
    rcases h with ⟨x, a, h1, h2, h3⟩ | ⟨l, nx, g, h1, h2, h3, -⟩
    · exact ⟨_, _, _, h3, .inr ⟨hv, .inl ⟨x, a, h1, by omega, rfl, rfl, rfl⟩⟩, hb⟩
    · exact ⟨_, _, _, h2, .inr ⟨hv, .inr ⟨l, nx, g, h1, rfl, rfl, rfl, h3⟩⟩, hb⟩
theorem code_f (e a : Int) (w : World) (hT : Err.ErrTab w) : Calls Tryd.prog 9 #[.iface 60 (.agg #[.int .i64 a, .iface 55 (.int .i64 e)])] w fun r w' => r = .returned (.int .i64 e) ∧ Below w.heap.size w w' := Err.code_F a e w hT
theorem place_f (e a : Int) (w : World) (hT : Err.ErrTab w) : Calls Tryd.prog 10 #[.iface 60 (.agg #[.int .i64 a, .iface 55 (.int .i64 e)])] w fun r w' => r = .returned (.int .i64 a) ∧ Below w.heap.size w w' := Err.place_F a e w hT
theorem code_n (w : World) : Calls Tryd.prog 9 #[.nilIface] w fun r w' => r = .returned (.int .i64 0) ∧ Below w.heap.size w w' := (Err.code_nil w).mono fun r w' ⟨h, e⟩ => ⟨h, by subst e; exact Below.refl _ _⟩
theorem skC_eq (s : ByteArray) (p N : Int) : skC s p N = skG s p N := rfl
theorem gtC_eq (s : ByteArray) (p N v : Int) : gtC s p N v = gtG s p N v := rfl
/-- What is kept through a region. -/
def SP (w : World) (N p v : Int) (r : (Int × Int) ⊕ (List Int × Int)) (vL : Value) (nxt : Int) (vE : Value) (g1 g2 : Nat) (c1 c2 : Array Value) (u : World) : Prop := Err.ErrTab u ∧ St.St u g1 43 c1 ∧ St.St u g2 46 c2 ∧ GetP N p v r vL nxt vE u ∧ Below w.heap.size w u
theorem SP.on {w : World} {N p v : Int} {r : (Int × Int) ⊕ (List Int × Int)} {vL : Value} {nxt : Int} {vE : Value} {g1 g2 : Nat} {c1 c2 : Array Value} {u u' : World} (h : SP w N p v r vL nxt vE g1 g2 c1 c2 u) (hb : Below u.heap.size u u') : SP w N p v r vL nxt vE g1 g2 c1 c2 u' :=
  ⟨h.1.on hb, h.2.1.on hb, h.2.2.1.on hb, h.2.2.2.1.on hb, h.2.2.2.2.trans (hb.mono h.2.2.2.2.size)⟩
theorem SP.drew {w : World} {N p v : Int} {r : (Int × Int) ⊕ (List Int × Int)} {vL : Value} {nxt : Int} {vE : Value} {g1 g2 : Nat} {c1 c2 : Array Value} {u : World} (h : SP w N p v r vL nxt vE g1 g2 c1 c2 u) : SP w N p v r vL nxt vE g1 g2 c1 c2 u.drew :=
  h.on ((Below.refl _ u).drew)
/-- The same, of a row alone. -/
def SQ (w : World) (A B : Option Addr) (l : List Int) (g2 : Nat) (c2 : Array Value) (u : World) : Prop := Err.ErrTab u ∧ St.St u g2 46 c2 ∧ IIn u A l ∧ IIn u B l ∧ Below w.heap.size w u
theorem SQ.on {w : World} {A B : Option Addr} {l : List Int} {g2 : Nat} {c2 : Array Value} {u u' : World} (h : SQ w A B l g2 c2 u) (hb : Below u.heap.size u u') : SQ w A B l g2 c2 u' :=
  ⟨h.1.on hb, h.2.1.on hb, h.2.2.1.on hb, h.2.2.2.1.on hb, h.2.2.2.2.trans (hb.mono h.2.2.2.2.size)⟩
theorem below_drewN (u : World) (q : Nat) : Below u.heap.size u (u.drewN q) := ⟨rfl, rfl, rfl, Nat.le_refl _, fun _ _ => rfl⟩

set_option maxRecDepth 100000 in
set_option maxHeartbeats 4000000 in
theorem gets_all (s : ByteArray) (p N v : Int) (w : World) (hT : Err.ErrTab w) (hs : s.size ≤ maxLen) :
    Calls Tryd.prog 4 #[.string s, .int .i64 p, .agg #[.int .i64 N, .int .i64 v]] w fun e w' => e = .returned (.bool true) ∧ Below w.heap.size w w' := by
  refine Kn.calls Tryd.func4 rfl Tryd.ntmps4 rfl (.cons (t := 0) rfl (.cons (t := 1) rfl (.cons (t := 2) rfl .nil))) fun fa0 fh0 => ?_
  refine wp_seq_k fun K1 hK1 => ?_
  refine wp_region_lit ?_
  refine Kn.step fh0 rfl rfl .none (Kn.ex_box fh0 (.tmp rfl)) fun Ko hKo => ?_
  go_simp
  try go_bits
  refine hKo _ _ fun fa1 fh1 => ?_
  clear hKo Ko fh0 fa0
  refine Kn.pure fh1 rfl rfl .none (Kn.ex_assign fh1 .const) fun fa2 fh2 => ?_
  clear fh1 fa1
  refine wpList_nil ?_
  refine hK1 _ _ ?_
  clear hK1 K1
  replace fh2 := fh2.cut (.cons (t := 6) rfl (.cons (t := 5) rfl (.cons (t := 0) rfl (.cons (t := 1) rfl .nil))))
  refine Kn.gen (fun u => u.cell? ⟨w.heap.size, 0, none⟩ = some (.int .i64 N) ∧ u.cell? ⟨w.heap.size, 1, none⟩ = some (.int .i64 v) ∧ Below w.heap.size w u ∧ w.heap.size < u.heap.size) ⟨(St.St.new _ _ _).cell 0 rfl, (St.St.new _ _ _).cell 1 rfl, (Below.refl _ w).alloc (Nat.le_refl _) _, by simp⟩ fun w0 hu => ?_
  obtain ⟨cv, ct, hb0, hlt0⟩ := hu
  refine wp_seq_k fun K2 hK2 => ?_
  refine wp_seq_k fun K3 hK3 => ?_
  refine wp_region_lit ?_
  refine Kn.call fh2 rfl rfl .none (Kn.ex_call fh2 .nil) Tryd.call5 (awake6 w0) fun e w1 hp => ?_
  obtain ⟨rfl, hb1⟩ := hp
  refine ⟨_, rfl, fun fa3 fh3 => ?_⟩
  clear fh2 fa2
  refine Kn.step fh3 rfl rfl .none (Kn.ex_un fh3 (.tmp rfl)) fun Ko hKo => ?_
  go_simp
  try go_bits
  refine hKo _ _ fun fa4 fh4 => ?_
  clear hKo Ko fh3 fa3
  refine wpList_nil ?_
  refine hK3 _ _ ?_
  clear hK3 K3
  replace fh4 := fh4.cut (.cons (t := 20) rfl (.cons (t := 6) rfl (.cons (t := 5) rfl (.cons (t := 0) rfl (.cons (t := 1) rfl .nil)))))
  refine Kn.no fh4 (.tmp rfl) ?_
  refine wp_skip ?_
  refine hK2 _ _ ?_
  clear hK2 K2
  replace fh4 := fh4.cut (.cons (t := 6) rfl (.cons (t := 5) rfl (.cons (t := 0) rfl (.cons (t := 1) rfl .nil))))
  replace cv := (hb1.cell (p := ⟨w.heap.size, 0, none⟩) hlt0).trans cv
  replace ct := (hb1.cell (p := ⟨w.heap.size, 1, none⟩) hlt0).trans ct
  have hb01 := hb0.trans (hb1.mono hb0.size)
  have HB1 := Lib.hid hb01
  clear hb0 hb1 hlt0 hb01
  by_cases h1 : (300 : Int) < (s.size : Int)
  · refine wp_seq_k fun K4 hK4 => ?_
    refine wp_seq_k fun K5 hK5 => ?_
    refine wp_region_lit ?_
    refine Kn.pure fh4 rfl rfl .none (Kn.ex_move fh4 (.tmp rfl)) fun fa5 fh5 => ?_
    clear fh4 fa4
    refine Kn.step fh5 rfl rfl .none (Kn.ex_len fh5 (.tmp rfl)) fun Ko hKo => ?_
    go_simp
    try go_bits
    refine hKo _ _ fun fa6 fh6 => ?_
    clear hKo Ko fh5 fa5
    refine Kn.step fh6 rfl rfl .none (Kn.ex_bin fh6 (.tmp rfl) .const) fun Ko hKo => ?_
    go_simp
    try go_bits
    refine hKo _ _ fun fa7 fh7 => ?_
    clear hKo Ko fh6 fa6
    refine wpList_nil ?_
    refine hK5 _ _ ?_
    clear hK5 K5
    replace fh7 := fh7.cut (.cons (t := 23) rfl (.cons (t := 6) rfl (.cons (t := 5) rfl (.cons (t := 0) rfl (.cons (t := 1) rfl .nil)))))
    refine Kn.yes fh7 (.tmp rfl) ?_
    replace fh7 := fh7.cut (.cons (t := 6) rfl (.cons (t := 5) rfl (.cons (t := 0) rfl (.cons (t := 1) rfl .nil))))
    refine wp_seq_k fun K6 hK6 => ?_
    refine wp_region_lit ?_
    refine Kn.pure fh7 rfl rfl .none (Kn.ex_assign fh7 .const) fun fa8 fh8 => ?_
    clear fh7 fa7
    refine wpList_nil ?_
    refine hK6 _ _ ?_
    clear hK6 K6
    refine wp_ret ?_
    refine Kn.then_ret ?_
    exact Kn.ret1 fh8 rfl rfl ⟨rfl, HB1.out⟩
  refine wp_seq_k fun K4 hK4 => ?_
  refine wp_seq_k fun K5 hK5 => ?_
  refine wp_region_lit ?_
  refine Kn.pure fh4 rfl rfl .none (Kn.ex_move fh4 (.tmp rfl)) fun fa5 fh5 => ?_
  clear fh4 fa4
  refine Kn.step fh5 rfl rfl .none (Kn.ex_len fh5 (.tmp rfl)) fun Ko hKo => ?_
  go_simp
  try go_bits
  refine hKo _ _ fun fa6 fh6 => ?_
  clear hKo Ko fh5 fa5
  refine Kn.step fh6 rfl rfl .none (Kn.ex_bin fh6 (.tmp rfl) .const) fun Ko hKo => ?_
  go_simp
  try go_bits
  refine hKo _ _ fun fa7 fh7 => ?_
  clear hKo Ko fh6 fa6
  refine wpList_nil ?_
  refine hK5 _ _ ?_
  clear hK5 K5
  replace fh7 := fh7.cut (.cons (t := 23) rfl (.cons (t := 6) rfl (.cons (t := 5) rfl (.cons (t := 0) rfl (.cons (t := 1) rfl .nil)))))
  refine Kn.no fh7 (.tmp rfl) ?_
  refine wp_skip ?_
  refine hK4 _ _ ?_
  clear hK4 K4
  replace fh7 := fh7.cut (.cons (t := 6) rfl (.cons (t := 5) rfl (.cons (t := 0) rfl (.cons (t := 1) rfl .nil))))
  have hs3 : s.size ≤ 300 := by omega
  clear h1 hs
  have hs : s.size ≤ maxLen := by unfold maxLen; omega
  refine wp_seq_k fun K6 hK6 => ?_
  refine Kn.still (by kernel_rfl) (by kernel_rfl) ?_
  refine Kn.sstep fh7 rfl rfl .none (Kn.ex_indexAddr fh7 (.tmp rfl) .const) fun Ko hKo => ?_
  go_simp
  try go_bits
  refine hKo _ fun fa8 fh8 => ?_
  clear hKo Ko fh7 fa7
  refine Kn.sstep fh8 rfl rfl .none (Kn.ex_load fh8 (.tmp rfl)) fun Ko hKo => ?_
  go_simp
  try go_bits
  refine hKo _ fun fa9 fh9 => ?_
  clear hKo Ko fh8 fa8
  refine Kn.sstep fh9 rfl rfl .none (Kn.ex_indexAddr fh9 (.tmp rfl) .const) fun Ko hKo => ?_
  go_simp
  try go_bits
  refine hKo _ fun fa10 fh10 => ?_
  clear hKo Ko fh9 fa9
  refine Kn.sstep fh10 rfl rfl .none (Kn.ex_load fh10 (.tmp rfl)) fun Ko hKo => ?_
  go_simp
  try go_bits
  refine hKo _ fun fa11 fh11 => ?_
  clear hKo Ko fh10 fa10
  refine Kn.spure fh11 rfl rfl .none (Kn.ex_assign fh11 (.tmp rfl)) fun fa12 fh12 => ?_
  clear fh11 fa11
  refine Kn.spure fh12 rfl rfl .none (Kn.ex_assign fh12 (.tmp rfl)) fun fa13 fh13 => ?_
  clear fh12 fa12
  refine wpStill_nil ?_
  refine hK6 _ _ ?_
  clear hK6 K6
  replace fh13 := fh13.cut (.cons (t := 8) rfl (.cons (t := 7) rfl (.cons (t := 6) rfl (.cons (t := 0) rfl (.cons (t := 1) rfl .nil)))))
  refine Kn.gen (fun u => Err.ErrTab u ∧ Below w.heap.size w u) ⟨hT.on HB1.out.drew, HB1.out.drew⟩ fun w2 hu => ?_
  obtain ⟨hT2, hB2⟩ := hu
  have HT2 := Lib.hid hT2
  have HB2 := Lib.hid hB2
  clear cv ct hT2 hB2 HB1 hT
  have HC := Lib.hid code_f
  have HP := Lib.hid place_f
  have HCn := Lib.hid code_n
  by_cases hN : N < 0 ∨ 4096 < N
  · have hg := gGet_arg s p N v w2 hN
    unfold faultV at hg
    have hk := gSkip_arg s p N w2 hN
    have hc := gCount_arg s p N w2 hN
    rw [gE_e (by decide)] at hk hc
    refine wp_seq_k fun K7 hK7 => ?_
    refine wp_region_lit ?_
    refine Kn.pure fh13 rfl rfl .none (Kn.ex_move fh13 (.tmp rfl)) fun fa14 fh14 => ?_
    clear fh13 fa13
    refine Kn.pure fh14 rfl rfl .none (Kn.ex_move fh14 (.tmp rfl)) fun fa15 fh15 => ?_
    clear fh14 fa14
    refine Kn.pure fh15 rfl rfl .none (Kn.ex_move fh15 (.tmp rfl)) fun fa16 fh16 => ?_
    clear fh15 fa15
    refine Kn.pure fh16 rfl rfl .none (Kn.ex_move fh16 (.tmp rfl)) fun fa17 fh17 => ?_
    clear fh16 fa16
    refine Kn.call fh17 rfl rfl .none (Kn.ex_call fh17 (.cons (.tmp rfl) (.cons (.tmp rfl) (.cons (.tmp rfl) (.cons (.tmp rfl) .nil))))) Tryd.call12 (hg) fun e w3 hp => ?_
    obtain ⟨rfl, rfl⟩ := hp
    refine ⟨_, rfl, fun fa18 fh18 => ?_⟩
    clear fh17 fa17
    refine Kn.pure fh18 rfl rfl .none (Kn.ex_move fh18 (.tmp rfl)) fun fa19 fh19 => ?_
    clear fh18 fa18
    refine Kn.pure fh19 rfl rfl .none (Kn.ex_extract fh19 (.tmp rfl) rfl) fun fa20 fh20 => ?_
    clear fh19 fa19
    refine Kn.pure fh20 rfl rfl .none (Kn.ex_extract fh20 (.tmp rfl) rfl) fun fa21 fh21 => ?_
    clear fh20 fa20
    refine Kn.pure fh21 rfl rfl .none (Kn.ex_extract fh21 (.tmp rfl) rfl) fun fa22 fh22 => ?_
    clear fh21 fa21
    refine Kn.pure fh22 rfl rfl .none (Kn.ex_assign fh22 (.tmp rfl)) fun fa23 fh23 => ?_
    clear fh22 fa22
    refine Kn.pure fh23 rfl rfl .none (Kn.ex_assign fh23 (.tmp rfl)) fun fa24 fh24 => ?_
    clear fh23 fa23
    refine Kn.pure fh24 rfl rfl .none (Kn.ex_assign fh24 (.tmp rfl)) fun fa25 fh25 => ?_
    clear fh24 fa24
    refine wpList_nil ?_
    refine hK7 _ _ ?_
    clear hK7 K7
    replace fh25 := fh25.cut (.cons (t := 11) rfl (.cons (t := 10) rfl (.cons (t := 9) rfl (.cons (t := 8) rfl (.cons (t := 7) rfl (.cons (t := 6) rfl (.cons (t := 0) rfl (.cons (t := 1) rfl .nil))))))))
    refine wp_seq_k fun K8 hK8 => ?_
    refine wp_region_lit ?_
    refine Kn.pure fh25 rfl rfl .none (Kn.ex_move fh25 (.tmp rfl)) fun fa26 fh26 => ?_
    clear fh25 fa25
    refine Kn.pure fh26 rfl rfl .none (Kn.ex_move fh26 (.tmp rfl)) fun fa27 fh27 => ?_
    clear fh26 fa26
    refine Kn.pure fh27 rfl rfl .none (Kn.ex_move fh27 (.tmp rfl)) fun fa28 fh28 => ?_
    clear fh27 fa27
    refine Kn.call fh28 rfl rfl .none (Kn.ex_call fh28 (.cons (.tmp rfl) (.cons (.tmp rfl) (.cons (.tmp rfl) .nil)))) Tryd.call13 (hk) fun e w3 hp => ?_
    obtain ⟨rfl, rfl⟩ := hp
    refine ⟨_, rfl, fun fa29 fh29 => ?_⟩
    clear fh28 fa28
    refine Kn.pure fh29 rfl rfl .none (Kn.ex_move fh29 (.tmp rfl)) fun fa30 fh30 => ?_
    clear fh29 fa29
    refine Kn.pure fh30 rfl rfl .none (Kn.ex_extract fh30 (.tmp rfl) rfl) fun fa31 fh31 => ?_
    clear fh30 fa30
    refine Kn.pure fh31 rfl rfl .none (Kn.ex_extract fh31 (.tmp rfl) rfl) fun fa32 fh32 => ?_
    clear fh31 fa31
    refine Kn.pure fh32 rfl rfl .none (Kn.ex_assign fh32 (.tmp rfl)) fun fa33 fh33 => ?_
    clear fh32 fa32
    refine Kn.pure fh33 rfl rfl .none (Kn.ex_assign fh33 (.tmp rfl)) fun fa34 fh34 => ?_
    clear fh33 fa33
    refine wpList_nil ?_
    refine hK8 _ _ ?_
    clear hK8 K8
    replace fh34 := fh34.cut (.cons (t := 13) rfl (.cons (t := 12) rfl (.cons (t := 11) rfl (.cons (t := 10) rfl (.cons (t := 9) rfl (.cons (t := 8) rfl (.cons (t := 7) rfl (.cons (t := 6) rfl (.cons (t := 0) rfl (.cons (t := 1) rfl .nil))))))))))
    refine wp_seq_k fun K9 hK9 => ?_
    refine wp_region_lit ?_
    refine Kn.pure fh34 rfl rfl .none (Kn.ex_move fh34 (.tmp rfl)) fun fa35 fh35 => ?_
    clear fh34 fa34
    refine Kn.pure fh35 rfl rfl .none (Kn.ex_move fh35 (.tmp rfl)) fun fa36 fh36 => ?_
    clear fh35 fa35
    refine Kn.pure fh36 rfl rfl .none (Kn.ex_move fh36 (.tmp rfl)) fun fa37 fh37 => ?_
    clear fh36 fa36
    refine Kn.call fh37 rfl rfl .none (Kn.ex_call fh37 (.cons (.tmp rfl) (.cons (.tmp rfl) (.cons (.tmp rfl) .nil)))) Tryd.call14 (hc) fun e w3 hp => ?_
    obtain ⟨rfl, rfl⟩ := hp
    refine ⟨_, rfl, fun fa38 fh38 => ?_⟩
    clear fh37 fa37
    refine Kn.pure fh38 rfl rfl .none (Kn.ex_move fh38 (.tmp rfl)) fun fa39 fh39 => ?_
    clear fh38 fa38
    refine Kn.pure fh39 rfl rfl .none (Kn.ex_extract fh39 (.tmp rfl) rfl) fun fa40 fh40 => ?_
    clear fh39 fa39
    refine Kn.pure fh40 rfl rfl .none (Kn.ex_extract fh40 (.tmp rfl) rfl) fun fa41 fh41 => ?_
    clear fh40 fa40
    refine Kn.pure fh41 rfl rfl .none (Kn.ex_assign fh41 (.tmp rfl)) fun fa42 fh42 => ?_
    clear fh41 fa41
    refine Kn.pure fh42 rfl rfl .none (Kn.ex_assign fh42 (.tmp rfl)) fun fa43 fh43 => ?_
    clear fh42 fa42
    refine wpList_nil ?_
    refine hK9 _ _ ?_
    clear hK9 K9
    replace fh43 := fh43.cut (.cons (t := 15) rfl (.cons (t := 14) rfl (.cons (t := 13) rfl (.cons (t := 12) rfl (.cons (t := 11) rfl (.cons (t := 10) rfl (.cons (t := 9) rfl (.cons (t := 8) rfl (.cons (t := 7) rfl (.cons (t := 6) rfl (.cons (t := 0) rfl (.cons (t := 1) rfl .nil))))))))))))
    clear hg hk hc
    by_cases hN0 : N < 0
    · refine wp_seq_k fun K10 hK10 => ?_
      refine wp_seq_k fun K11 hK11 => ?_
      refine wp_region_lit ?_
      refine Kn.pure fh43 rfl rfl .none (Kn.ex_move fh43 (.tmp rfl)) fun fa44 fh44 => ?_
      clear fh43 fa43
      refine Kn.step fh44 rfl rfl .none (Kn.ex_bin fh44 (.tmp rfl) .const) fun Ko hKo => ?_
      go_simp
      try go_bits
      refine hKo _ _ fun fa45 fh45 => ?_
      clear hKo Ko fh44 fa44
      refine Kn.pure fh45 rfl rfl .none (Kn.ex_move fh45 (.tmp rfl)) fun fa46 fh46 => ?_
      clear fh45 fa45
      refine Kn.skip fh46 rfl rfl (.some rfl rfl rfl) fun fa47 fh47 => ?_
      clear fh46 fa46
      refine Kn.skip fh47 rfl rfl (.some rfl rfl rfl) fun fa48 fh48 => ?_
      clear fh47 fa47
      refine Kn.pure fh48 rfl rfl .none (Kn.ex_pick fh48 (.tmp rfl) .const) fun fa49 fh49 => ?_
      clear fh48 fa48
      refine wpList_nil ?_
      refine hK11 _ _ ?_
      clear hK11 K11
      replace fh49 := fh49.cut (.cons (t := 56) rfl (.cons (t := 15) rfl (.cons (t := 14) rfl (.cons (t := 13) rfl (.cons (t := 12) rfl (.cons (t := 11) rfl (.cons (t := 10) rfl (.cons (t := 9) rfl (.cons (t := 8) rfl (.cons (t := 7) rfl (.cons (t := 6) rfl (.cons (t := 0) rfl (.cons (t := 1) rfl .nil)))))))))))))
      refine Kn.yes fh49 (.tmp rfl) ?_
      replace fh49 := fh49.cut (.cons (t := 15) rfl (.cons (t := 14) rfl (.cons (t := 13) rfl (.cons (t := 12) rfl (.cons (t := 11) rfl (.cons (t := 10) rfl (.cons (t := 9) rfl (.cons (t := 8) rfl (.cons (t := 7) rfl (.cons (t := 6) rfl (.cons (t := 0) rfl (.cons (t := 1) rfl .nil))))))))))))
      refine wp_seq_k fun K12 hK12 => ?_
      refine wp_region_lit ?_
      refine Kn.pure fh49 rfl rfl .none (Kn.ex_move fh49 (.tmp rfl)) fun fa50 fh50 => ?_
      clear fh49 fa49
      refine Kn.step fh50 rfl rfl .none (Kn.ex_len fh50 (.tmp rfl)) fun Ko hKo => ?_
      go_simp
      try go_bits
      refine hKo _ _ fun fa51 fh51 => ?_
      clear hKo Ko fh50 fa50
      refine Kn.step fh51 rfl rfl .none (Kn.ex_bin fh51 (.tmp rfl) .const) fun Ko hKo => ?_
      go_simp
      try go_bits
      refine hKo _ _ fun fa52 fh52 => ?_
      clear hKo Ko fh51 fa51
      refine Kn.pure fh52 rfl rfl .none (Kn.ex_move fh52 (.tmp rfl)) fun fa53 fh53 => ?_
      clear fh52 fa52
      refine Kn.pure fh53 rfl rfl (.some rfl rfl rfl) (Kn.ex_move fh53 (.tmp rfl)) fun fa54 fh54 => ?_
      clear fh53 fa53
      refine Kn.pure fh54 rfl rfl (.some rfl rfl rfl) (Kn.ex_move fh54 (.tmp rfl)) fun fa55 fh55 => ?_
      clear fh54 fa54
      refine Kn.step fh55 rfl rfl (.some rfl rfl rfl) (Kn.ex_bin fh55 (.tmp rfl) (.tmp rfl)) fun Ko hKo => ?_
      go_simp
      try go_bits
      refine hKo _ _ fun fa56 fh56 => ?_
      clear hKo Ko fh55 fa55
      refine Kn.pure fh56 rfl rfl .none (Kn.ex_pick fh56 (.tmp rfl) (.tmp rfl)) fun fa57 fh57 => ?_
      clear fh56 fa56
      refine Kn.pure fh57 rfl rfl .none (Kn.ex_move fh57 (.tmp rfl)) fun fa58 fh58 => ?_
      clear fh57 fa57
      refine Kn.pure fh58 rfl rfl (.some rfl rfl rfl) (Kn.ex_move fh58 (.tmp rfl)) fun fa59 fh59 => ?_
      clear fh58 fa58
      refine Kn.pure fh59 rfl rfl (.some rfl rfl rfl) (Kn.ex_move fh59 (.tmp rfl)) fun fa60 fh60 => ?_
      clear fh59 fa59
      refine Kn.step fh60 rfl rfl (.some rfl rfl rfl) (Kn.ex_bin fh60 (.tmp rfl) (.tmp rfl)) fun Ko hKo => ?_
      go_simp
      try go_bits
      refine hKo _ _ fun fa61 fh61 => ?_
      clear hKo Ko fh60 fa60
      refine Kn.pure fh61 rfl rfl .none (Kn.ex_pick fh61 (.tmp rfl) (.tmp rfl)) fun fa62 fh62 => ?_
      clear fh61 fa61
      refine Kn.pure fh62 rfl rfl .none (Kn.ex_move fh62 (.tmp rfl)) fun fa63 fh63 => ?_
      clear fh62 fa62
      refine Kn.pure fh63 rfl rfl (.some rfl rfl rfl) (Kn.ex_move fh63 (.tmp rfl)) fun fa64 fh64 => ?_
      clear fh63 fa63
      refine Kn.step fh64 rfl rfl (.some rfl rfl rfl) (Kn.ex_bin fh64 (.tmp rfl) .const) fun Ko hKo => ?_
      go_simp
      try go_bits
      refine hKo _ _ fun fa65 fh65 => ?_
      clear hKo Ko fh64 fa64
      refine Kn.pure fh65 rfl rfl .none (Kn.ex_pick fh65 (.tmp rfl) (.tmp rfl)) fun fa66 fh66 => ?_
      clear fh65 fa65
      refine Kn.pure fh66 rfl rfl .none (Kn.ex_move fh66 (.tmp rfl)) fun fa67 fh67 => ?_
      clear fh66 fa66
      refine Kn.pure fh67 rfl rfl (.some rfl rfl rfl) (Kn.ex_move fh67 (.tmp rfl)) fun fa68 fh68 => ?_
      clear fh67 fa67
      refine Kn.call fh68 rfl rfl (.some rfl rfl rfl) (Kn.ex_call fh68 (.cons (.tmp rfl) .nil)) Tryd.call9 (HC.out 1 p w2 HT2.out) fun e w3 hp => ?_
      obtain ⟨rfl, hb3⟩ := hp
      refine ⟨_, rfl, fun fa69 fh69 => ?_⟩
      clear fh68 fa68
      have HT3 := Lib.hid (HT2.out.on hb3)
      have HB3 := Lib.hid (HB2.out.trans (hb3.mono HB2.out.size))
      clear hb3 HT2 HB2
      refine Kn.step fh69 rfl rfl (.some rfl rfl rfl) (Kn.ex_bin fh69 (.tmp rfl) .const) fun Ko hKo => ?_
      go_simp
      try go_bits
      refine hKo _ _ fun fa70 fh70 => ?_
      clear hKo Ko fh69 fa69
      refine Kn.pure fh70 rfl rfl .none (Kn.ex_pick fh70 (.tmp rfl) (.tmp rfl)) fun fa71 fh71 => ?_
      clear fh70 fa70
      refine Kn.pure fh71 rfl rfl .none (Kn.ex_move fh71 (.tmp rfl)) fun fa72 fh72 => ?_
      clear fh71 fa71
      refine Kn.pure fh72 rfl rfl (.some rfl rfl rfl) (Kn.ex_move fh72 (.tmp rfl)) fun fa73 fh73 => ?_
      clear fh72 fa72
      refine Kn.call fh73 rfl rfl (.some rfl rfl rfl) (Kn.ex_call fh73 (.cons (.tmp rfl) .nil)) Tryd.call10 (HP.out 1 p w3 HT3.out) fun e w4 hp => ?_
      obtain ⟨rfl, hb4⟩ := hp
      refine ⟨_, rfl, fun fa74 fh74 => ?_⟩
      clear fh73 fa73
      have HT4 := Lib.hid (HT3.out.on hb4)
      have HB4 := Lib.hid (HB3.out.trans (hb4.mono HB3.out.size))
      clear hb4 HT3 HB3
      refine Kn.pure fh74 rfl rfl (.some rfl rfl rfl) (Kn.ex_move fh74 (.tmp rfl)) fun fa75 fh75 => ?_
      clear fh74 fa74
      refine Kn.step fh75 rfl rfl (.some rfl rfl rfl) (Kn.ex_bin fh75 (.tmp rfl) (.tmp rfl)) fun Ko hKo => ?_
      go_simp
      try go_bits
      refine hKo _ _ fun fa76 fh76 => ?_
      clear hKo Ko fh75 fa75
      refine Kn.pure fh76 rfl rfl .none (Kn.ex_pick fh76 (.tmp rfl) (.tmp rfl)) fun fa77 fh77 => ?_
      clear fh76 fa76
      refine Kn.pure fh77 rfl rfl .none (Kn.ex_move fh77 (.tmp rfl)) fun fa78 fh78 => ?_
      clear fh77 fa77
      refine Kn.pure fh78 rfl rfl (.some rfl rfl rfl) (Kn.ex_move fh78 (.tmp rfl)) fun fa79 fh79 => ?_
      clear fh78 fa78
      refine Kn.call fh79 rfl rfl (.some rfl rfl rfl) (Kn.ex_call fh79 (.cons (.tmp rfl) .nil)) Tryd.call9 (HC.out 1 p w4 HT4.out) fun e w5 hp => ?_
      obtain ⟨rfl, hb5⟩ := hp
      refine ⟨_, rfl, fun fa80 fh80 => ?_⟩
      clear fh79 fa79
      have HT5 := Lib.hid (HT4.out.on hb5)
      have HB5 := Lib.hid (HB4.out.trans (hb5.mono HB4.out.size))
      clear hb5 HT4 HB4
      refine Kn.step fh80 rfl rfl (.some rfl rfl rfl) (Kn.ex_bin fh80 (.tmp rfl) .const) fun Ko hKo => ?_
      go_simp
      try go_bits
      refine hKo _ _ fun fa81 fh81 => ?_
      clear hKo Ko fh80 fa80
      refine Kn.pure fh81 rfl rfl .none (Kn.ex_pick fh81 (.tmp rfl) (.tmp rfl)) fun fa82 fh82 => ?_
      clear fh81 fa81
      refine Kn.pure fh82 rfl rfl .none (Kn.ex_move fh82 (.tmp rfl)) fun fa83 fh83 => ?_
      clear fh82 fa82
      refine Kn.pure fh83 rfl rfl (.some rfl rfl rfl) (Kn.ex_move fh83 (.tmp rfl)) fun fa84 fh84 => ?_
      clear fh83 fa83
      refine Kn.call fh84 rfl rfl (.some rfl rfl rfl) (Kn.ex_call fh84 (.cons (.tmp rfl) .nil)) Tryd.call10 (HP.out 1 p w5 HT5.out) fun e w6 hp => ?_
      obtain ⟨rfl, hb6⟩ := hp
      refine ⟨_, rfl, fun fa85 fh85 => ?_⟩
      clear fh84 fa84
      have HT6 := Lib.hid (HT5.out.on hb6)
      have HB6 := Lib.hid (HB5.out.trans (hb6.mono HB5.out.size))
      clear hb6 HT5 HB5
      refine Kn.pure fh85 rfl rfl (.some rfl rfl rfl) (Kn.ex_move fh85 (.tmp rfl)) fun fa86 fh86 => ?_
      clear fh85 fa85
      refine Kn.step fh86 rfl rfl (.some rfl rfl rfl) (Kn.ex_bin fh86 (.tmp rfl) (.tmp rfl)) fun Ko hKo => ?_
      go_simp
      try go_bits
      refine hKo _ _ fun fa87 fh87 => ?_
      clear hKo Ko fh86 fa86
      refine Kn.pure fh87 rfl rfl .none (Kn.ex_pick fh87 (.tmp rfl) (.tmp rfl)) fun fa88 fh88 => ?_
      clear fh87 fa87
      refine Kn.pure fh88 rfl rfl .none (Kn.ex_move fh88 (.tmp rfl)) fun fa89 fh89 => ?_
      clear fh88 fa88
      refine Kn.pure fh89 rfl rfl (.some rfl rfl rfl) (Kn.ex_move fh89 (.tmp rfl)) fun fa90 fh90 => ?_
      clear fh89 fa89
      refine Kn.call fh90 rfl rfl (.some rfl rfl rfl) (Kn.ex_call fh90 (.cons (.tmp rfl) .nil)) Tryd.call9 (HC.out 1 p w6 HT6.out) fun e w7 hp => ?_
      obtain ⟨rfl, hb7⟩ := hp
      refine ⟨_, rfl, fun fa91 fh91 => ?_⟩
      clear fh90 fa90
      have HT7 := Lib.hid (HT6.out.on hb7)
      have HB7 := Lib.hid (HB6.out.trans (hb7.mono HB6.out.size))
      clear hb7 HT6 HB6
      refine Kn.step fh91 rfl rfl (.some rfl rfl rfl) (Kn.ex_bin fh91 (.tmp rfl) .const) fun Ko hKo => ?_
      go_simp
      try go_bits
      refine hKo _ _ fun fa92 fh92 => ?_
      clear hKo Ko fh91 fa91
      refine Kn.pure fh92 rfl rfl .none (Kn.ex_pick fh92 (.tmp rfl) (.tmp rfl)) fun fa93 fh93 => ?_
      clear fh92 fa92
      refine Kn.pure fh93 rfl rfl .none (Kn.ex_move fh93 (.tmp rfl)) fun fa94 fh94 => ?_
      clear fh93 fa93
      refine Kn.pure fh94 rfl rfl (.some rfl rfl rfl) (Kn.ex_move fh94 (.tmp rfl)) fun fa95 fh95 => ?_
      clear fh94 fa94
      refine Kn.call fh95 rfl rfl (.some rfl rfl rfl) (Kn.ex_call fh95 (.cons (.tmp rfl) .nil)) Tryd.call10 (HP.out 1 p w7 HT7.out) fun e w8 hp => ?_
      obtain ⟨rfl, hb8⟩ := hp
      refine ⟨_, rfl, fun fa96 fh96 => ?_⟩
      clear fh95 fa95
      have HT8 := Lib.hid (HT7.out.on hb8)
      have HB8 := Lib.hid (HB7.out.trans (hb8.mono HB7.out.size))
      clear hb8 HT7 HB7
      refine Kn.pure fh96 rfl rfl (.some rfl rfl rfl) (Kn.ex_move fh96 (.tmp rfl)) fun fa97 fh97 => ?_
      clear fh96 fa96
      refine Kn.step fh97 rfl rfl (.some rfl rfl rfl) (Kn.ex_bin fh97 (.tmp rfl) (.tmp rfl)) fun Ko hKo => ?_
      go_simp
      try go_bits
      refine hKo _ _ fun fa98 fh98 => ?_
      clear hKo Ko fh97 fa97
      refine Kn.pure fh98 rfl rfl .none (Kn.ex_pick fh98 (.tmp rfl) (.tmp rfl)) fun fa99 fh99 => ?_
      clear fh98 fa98
      refine Kn.pure fh99 rfl rfl .none (Kn.ex_assign fh99 (.tmp rfl)) fun fa100 fh100 => ?_
      clear fh99 fa99
      refine wpList_nil ?_
      refine hK12 _ _ ?_
      clear hK12 K12
      replace fh100 := fh100.cut (.cons (t := 6) rfl (.cons (t := 15) rfl (.cons (t := 14) rfl (.cons (t := 13) rfl (.cons (t := 12) rfl (.cons (t := 11) rfl (.cons (t := 10) rfl (.cons (t := 9) rfl (.cons (t := 8) rfl (.cons (t := 7) rfl (.cons (t := 0) rfl (.cons (t := 1) rfl .nil))))))))))))
      refine wp_ret ?_
      refine Kn.then_ret ?_
      exact Kn.ret1 fh100 rfl rfl ⟨by simp, HB8.out⟩
    have hN1 : 4096 < N := by omega
    refine wp_seq_k fun K10 hK10 => ?_
    refine wp_seq_k fun K11 hK11 => ?_
    refine wp_region_lit ?_
    refine Kn.pure fh43 rfl rfl .none (Kn.ex_move fh43 (.tmp rfl)) fun fa44 fh44 => ?_
    clear fh43 fa43
    refine Kn.step fh44 rfl rfl .none (Kn.ex_bin fh44 (.tmp rfl) .const) fun Ko hKo => ?_
    go_simp
    try go_bits
    refine hKo _ _ fun fa45 fh45 => ?_
    clear hKo Ko fh44 fa44
    refine Kn.pure fh45 rfl rfl .none (Kn.ex_move fh45 (.tmp rfl)) fun fa46 fh46 => ?_
    clear fh45 fa45
    refine Kn.pure fh46 rfl rfl (.some rfl rfl rfl) (Kn.ex_move fh46 (.tmp rfl)) fun fa47 fh47 => ?_
    clear fh46 fa46
    refine Kn.step fh47 rfl rfl (.some rfl rfl rfl) (Kn.ex_bin fh47 (.tmp rfl) .const) fun Ko hKo => ?_
    go_simp
    try go_bits
    refine hKo _ _ fun fa48 fh48 => ?_
    clear hKo Ko fh47 fa47
    refine Kn.pure fh48 rfl rfl .none (Kn.ex_pick fh48 (.tmp rfl) (.tmp rfl)) fun fa49 fh49 => ?_
    clear fh48 fa48
    refine wpList_nil ?_
    refine hK11 _ _ ?_
    clear hK11 K11
    replace fh49 := fh49.cut (.cons (t := 56) rfl (.cons (t := 15) rfl (.cons (t := 14) rfl (.cons (t := 13) rfl (.cons (t := 12) rfl (.cons (t := 11) rfl (.cons (t := 10) rfl (.cons (t := 9) rfl (.cons (t := 8) rfl (.cons (t := 7) rfl (.cons (t := 6) rfl (.cons (t := 0) rfl (.cons (t := 1) rfl .nil)))))))))))))
    refine Kn.yes fh49 (.tmp rfl) ?_
    replace fh49 := fh49.cut (.cons (t := 15) rfl (.cons (t := 14) rfl (.cons (t := 13) rfl (.cons (t := 12) rfl (.cons (t := 11) rfl (.cons (t := 10) rfl (.cons (t := 9) rfl (.cons (t := 8) rfl (.cons (t := 7) rfl (.cons (t := 6) rfl (.cons (t := 0) rfl (.cons (t := 1) rfl .nil))))))))))))
    refine wp_seq_k fun K12 hK12 => ?_
    refine wp_region_lit ?_
    refine Kn.pure fh49 rfl rfl .none (Kn.ex_move fh49 (.tmp rfl)) fun fa50 fh50 => ?_
    clear fh49 fa49
    refine Kn.step fh50 rfl rfl .none (Kn.ex_len fh50 (.tmp rfl)) fun Ko hKo => ?_
    go_simp
    try go_bits
    refine hKo _ _ fun fa51 fh51 => ?_
    clear hKo Ko fh50 fa50
    refine Kn.step fh51 rfl rfl .none (Kn.ex_bin fh51 (.tmp rfl) .const) fun Ko hKo => ?_
    go_simp
    try go_bits
    refine hKo _ _ fun fa52 fh52 => ?_
    clear hKo Ko fh51 fa51
    refine Kn.pure fh52 rfl rfl .none (Kn.ex_move fh52 (.tmp rfl)) fun fa53 fh53 => ?_
    clear fh52 fa52
    refine Kn.pure fh53 rfl rfl (.some rfl rfl rfl) (Kn.ex_move fh53 (.tmp rfl)) fun fa54 fh54 => ?_
    clear fh53 fa53
    refine Kn.pure fh54 rfl rfl (.some rfl rfl rfl) (Kn.ex_move fh54 (.tmp rfl)) fun fa55 fh55 => ?_
    clear fh54 fa54
    refine Kn.step fh55 rfl rfl (.some rfl rfl rfl) (Kn.ex_bin fh55 (.tmp rfl) (.tmp rfl)) fun Ko hKo => ?_
    go_simp
    try go_bits
    refine hKo _ _ fun fa56 fh56 => ?_
    clear hKo Ko fh55 fa55
    refine Kn.pure fh56 rfl rfl .none (Kn.ex_pick fh56 (.tmp rfl) (.tmp rfl)) fun fa57 fh57 => ?_
    clear fh56 fa56
    refine Kn.pure fh57 rfl rfl .none (Kn.ex_move fh57 (.tmp rfl)) fun fa58 fh58 => ?_
    clear fh57 fa57
    refine Kn.pure fh58 rfl rfl (.some rfl rfl rfl) (Kn.ex_move fh58 (.tmp rfl)) fun fa59 fh59 => ?_
    clear fh58 fa58
    refine Kn.pure fh59 rfl rfl (.some rfl rfl rfl) (Kn.ex_move fh59 (.tmp rfl)) fun fa60 fh60 => ?_
    clear fh59 fa59
    refine Kn.step fh60 rfl rfl (.some rfl rfl rfl) (Kn.ex_bin fh60 (.tmp rfl) (.tmp rfl)) fun Ko hKo => ?_
    go_simp
    try go_bits
    refine hKo _ _ fun fa61 fh61 => ?_
    clear hKo Ko fh60 fa60
    refine Kn.pure fh61 rfl rfl .none (Kn.ex_pick fh61 (.tmp rfl) (.tmp rfl)) fun fa62 fh62 => ?_
    clear fh61 fa61
    refine Kn.pure fh62 rfl rfl .none (Kn.ex_move fh62 (.tmp rfl)) fun fa63 fh63 => ?_
    clear fh62 fa62
    refine Kn.pure fh63 rfl rfl (.some rfl rfl rfl) (Kn.ex_move fh63 (.tmp rfl)) fun fa64 fh64 => ?_
    clear fh63 fa63
    refine Kn.step fh64 rfl rfl (.some rfl rfl rfl) (Kn.ex_bin fh64 (.tmp rfl) .const) fun Ko hKo => ?_
    go_simp
    try go_bits
    refine hKo _ _ fun fa65 fh65 => ?_
    clear hKo Ko fh64 fa64
    refine Kn.pure fh65 rfl rfl .none (Kn.ex_pick fh65 (.tmp rfl) (.tmp rfl)) fun fa66 fh66 => ?_
    clear fh65 fa65
    refine Kn.pure fh66 rfl rfl .none (Kn.ex_move fh66 (.tmp rfl)) fun fa67 fh67 => ?_
    clear fh66 fa66
    refine Kn.pure fh67 rfl rfl (.some rfl rfl rfl) (Kn.ex_move fh67 (.tmp rfl)) fun fa68 fh68 => ?_
    clear fh67 fa67
    refine Kn.call fh68 rfl rfl (.some rfl rfl rfl) (Kn.ex_call fh68 (.cons (.tmp rfl) .nil)) Tryd.call9 (HC.out 1 p w2 HT2.out) fun e w3 hp => ?_
    obtain ⟨rfl, hb3⟩ := hp
    refine ⟨_, rfl, fun fa69 fh69 => ?_⟩
    clear fh68 fa68
    have HT3 := Lib.hid (HT2.out.on hb3)
    have HB3 := Lib.hid (HB2.out.trans (hb3.mono HB2.out.size))
    clear hb3 HT2 HB2
    refine Kn.step fh69 rfl rfl (.some rfl rfl rfl) (Kn.ex_bin fh69 (.tmp rfl) .const) fun Ko hKo => ?_
    go_simp
    try go_bits
    refine hKo _ _ fun fa70 fh70 => ?_
    clear hKo Ko fh69 fa69
    refine Kn.pure fh70 rfl rfl .none (Kn.ex_pick fh70 (.tmp rfl) (.tmp rfl)) fun fa71 fh71 => ?_
    clear fh70 fa70
    refine Kn.pure fh71 rfl rfl .none (Kn.ex_move fh71 (.tmp rfl)) fun fa72 fh72 => ?_
    clear fh71 fa71
    refine Kn.pure fh72 rfl rfl (.some rfl rfl rfl) (Kn.ex_move fh72 (.tmp rfl)) fun fa73 fh73 => ?_
    clear fh72 fa72
    refine Kn.call fh73 rfl rfl (.some rfl rfl rfl) (Kn.ex_call fh73 (.cons (.tmp rfl) .nil)) Tryd.call10 (HP.out 1 p w3 HT3.out) fun e w4 hp => ?_
    obtain ⟨rfl, hb4⟩ := hp
    refine ⟨_, rfl, fun fa74 fh74 => ?_⟩
    clear fh73 fa73
    have HT4 := Lib.hid (HT3.out.on hb4)
    have HB4 := Lib.hid (HB3.out.trans (hb4.mono HB3.out.size))
    clear hb4 HT3 HB3
    refine Kn.pure fh74 rfl rfl (.some rfl rfl rfl) (Kn.ex_move fh74 (.tmp rfl)) fun fa75 fh75 => ?_
    clear fh74 fa74
    refine Kn.step fh75 rfl rfl (.some rfl rfl rfl) (Kn.ex_bin fh75 (.tmp rfl) (.tmp rfl)) fun Ko hKo => ?_
    go_simp
    try go_bits
    refine hKo _ _ fun fa76 fh76 => ?_
    clear hKo Ko fh75 fa75
    refine Kn.pure fh76 rfl rfl .none (Kn.ex_pick fh76 (.tmp rfl) (.tmp rfl)) fun fa77 fh77 => ?_
    clear fh76 fa76
    refine Kn.pure fh77 rfl rfl .none (Kn.ex_move fh77 (.tmp rfl)) fun fa78 fh78 => ?_
    clear fh77 fa77
    refine Kn.pure fh78 rfl rfl (.some rfl rfl rfl) (Kn.ex_move fh78 (.tmp rfl)) fun fa79 fh79 => ?_
    clear fh78 fa78
    refine Kn.call fh79 rfl rfl (.some rfl rfl rfl) (Kn.ex_call fh79 (.cons (.tmp rfl) .nil)) Tryd.call9 (HC.out 1 p w4 HT4.out) fun e w5 hp => ?_
    obtain ⟨rfl, hb5⟩ := hp
    refine ⟨_, rfl, fun fa80 fh80 => ?_⟩
    clear fh79 fa79
    have HT5 := Lib.hid (HT4.out.on hb5)
    have HB5 := Lib.hid (HB4.out.trans (hb5.mono HB4.out.size))
    clear hb5 HT4 HB4
    refine Kn.step fh80 rfl rfl (.some rfl rfl rfl) (Kn.ex_bin fh80 (.tmp rfl) .const) fun Ko hKo => ?_
    go_simp
    try go_bits
    refine hKo _ _ fun fa81 fh81 => ?_
    clear hKo Ko fh80 fa80
    refine Kn.pure fh81 rfl rfl .none (Kn.ex_pick fh81 (.tmp rfl) (.tmp rfl)) fun fa82 fh82 => ?_
    clear fh81 fa81
    refine Kn.pure fh82 rfl rfl .none (Kn.ex_move fh82 (.tmp rfl)) fun fa83 fh83 => ?_
    clear fh82 fa82
    refine Kn.pure fh83 rfl rfl (.some rfl rfl rfl) (Kn.ex_move fh83 (.tmp rfl)) fun fa84 fh84 => ?_
    clear fh83 fa83
    refine Kn.call fh84 rfl rfl (.some rfl rfl rfl) (Kn.ex_call fh84 (.cons (.tmp rfl) .nil)) Tryd.call10 (HP.out 1 p w5 HT5.out) fun e w6 hp => ?_
    obtain ⟨rfl, hb6⟩ := hp
    refine ⟨_, rfl, fun fa85 fh85 => ?_⟩
    clear fh84 fa84
    have HT6 := Lib.hid (HT5.out.on hb6)
    have HB6 := Lib.hid (HB5.out.trans (hb6.mono HB5.out.size))
    clear hb6 HT5 HB5
    refine Kn.pure fh85 rfl rfl (.some rfl rfl rfl) (Kn.ex_move fh85 (.tmp rfl)) fun fa86 fh86 => ?_
    clear fh85 fa85
    refine Kn.step fh86 rfl rfl (.some rfl rfl rfl) (Kn.ex_bin fh86 (.tmp rfl) (.tmp rfl)) fun Ko hKo => ?_
    go_simp
    try go_bits
    refine hKo _ _ fun fa87 fh87 => ?_
    clear hKo Ko fh86 fa86
    refine Kn.pure fh87 rfl rfl .none (Kn.ex_pick fh87 (.tmp rfl) (.tmp rfl)) fun fa88 fh88 => ?_
    clear fh87 fa87
    refine Kn.pure fh88 rfl rfl .none (Kn.ex_move fh88 (.tmp rfl)) fun fa89 fh89 => ?_
    clear fh88 fa88
    refine Kn.pure fh89 rfl rfl (.some rfl rfl rfl) (Kn.ex_move fh89 (.tmp rfl)) fun fa90 fh90 => ?_
    clear fh89 fa89
    refine Kn.call fh90 rfl rfl (.some rfl rfl rfl) (Kn.ex_call fh90 (.cons (.tmp rfl) .nil)) Tryd.call9 (HC.out 1 p w6 HT6.out) fun e w7 hp => ?_
    obtain ⟨rfl, hb7⟩ := hp
    refine ⟨_, rfl, fun fa91 fh91 => ?_⟩
    clear fh90 fa90
    have HT7 := Lib.hid (HT6.out.on hb7)
    have HB7 := Lib.hid (HB6.out.trans (hb7.mono HB6.out.size))
    clear hb7 HT6 HB6
    refine Kn.step fh91 rfl rfl (.some rfl rfl rfl) (Kn.ex_bin fh91 (.tmp rfl) .const) fun Ko hKo => ?_
    go_simp
    try go_bits
    refine hKo _ _ fun fa92 fh92 => ?_
    clear hKo Ko fh91 fa91
    refine Kn.pure fh92 rfl rfl .none (Kn.ex_pick fh92 (.tmp rfl) (.tmp rfl)) fun fa93 fh93 => ?_
    clear fh92 fa92
    refine Kn.pure fh93 rfl rfl .none (Kn.ex_move fh93 (.tmp rfl)) fun fa94 fh94 => ?_
    clear fh93 fa93
    refine Kn.pure fh94 rfl rfl (.some rfl rfl rfl) (Kn.ex_move fh94 (.tmp rfl)) fun fa95 fh95 => ?_
    clear fh94 fa94
    refine Kn.call fh95 rfl rfl (.some rfl rfl rfl) (Kn.ex_call fh95 (.cons (.tmp rfl) .nil)) Tryd.call10 (HP.out 1 p w7 HT7.out) fun e w8 hp => ?_
    obtain ⟨rfl, hb8⟩ := hp
    refine ⟨_, rfl, fun fa96 fh96 => ?_⟩
    clear fh95 fa95
    have HT8 := Lib.hid (HT7.out.on hb8)
    have HB8 := Lib.hid (HB7.out.trans (hb8.mono HB7.out.size))
    clear hb8 HT7 HB7
    refine Kn.pure fh96 rfl rfl (.some rfl rfl rfl) (Kn.ex_move fh96 (.tmp rfl)) fun fa97 fh97 => ?_
    clear fh96 fa96
    refine Kn.step fh97 rfl rfl (.some rfl rfl rfl) (Kn.ex_bin fh97 (.tmp rfl) (.tmp rfl)) fun Ko hKo => ?_
    go_simp
    try go_bits
    refine hKo _ _ fun fa98 fh98 => ?_
    clear hKo Ko fh97 fa97
    refine Kn.pure fh98 rfl rfl .none (Kn.ex_pick fh98 (.tmp rfl) (.tmp rfl)) fun fa99 fh99 => ?_
    clear fh98 fa98
    refine Kn.pure fh99 rfl rfl .none (Kn.ex_assign fh99 (.tmp rfl)) fun fa100 fh100 => ?_
    clear fh99 fa99
    refine wpList_nil ?_
    refine hK12 _ _ ?_
    clear hK12 K12
    replace fh100 := fh100.cut (.cons (t := 6) rfl (.cons (t := 15) rfl (.cons (t := 14) rfl (.cons (t := 13) rfl (.cons (t := 12) rfl (.cons (t := 11) rfl (.cons (t := 10) rfl (.cons (t := 9) rfl (.cons (t := 8) rfl (.cons (t := 7) rfl (.cons (t := 0) rfl (.cons (t := 1) rfl .nil))))))))))))
    refine wp_ret ?_
    refine Kn.then_ret ?_
    exact Kn.ret1 fh100 rfl rfl ⟨by simp, HB8.out⟩
  have hN0 : ¬ N < 0 := by omega
  have hN1 : ¬ 4096 < N := by omega
  have hN2 : 0 ≤ N := by omega
  have hN3 : N ≤ 4096 := by omega
  clear hN
  have hg := gGet_p s p N v w2 hs hN2 hN3
  obtain ⟨r, hr⟩ : ∃ r, gtC s p N v = r := ⟨_, rfl⟩
  rw [hr] at hg
  have HR := Lib.hid hr
  clear hr
  refine wp_seq_k fun K7 hK7 => ?_
  refine wp_region_lit ?_
  refine Kn.pure fh13 rfl rfl .none (Kn.ex_move fh13 (.tmp rfl)) fun fa14 fh14 => ?_
  clear fh13 fa13
  refine Kn.pure fh14 rfl rfl .none (Kn.ex_move fh14 (.tmp rfl)) fun fa15 fh15 => ?_
  clear fh14 fa14
  refine Kn.pure fh15 rfl rfl .none (Kn.ex_move fh15 (.tmp rfl)) fun fa16 fh16 => ?_
  clear fh15 fa15
  refine Kn.pure fh16 rfl rfl .none (Kn.ex_move fh16 (.tmp rfl)) fun fa17 fh17 => ?_
  clear fh16 fa16
  refine Kn.call fh17 rfl rfl .none (Kn.ex_call fh17 (.cons (.tmp rfl) (.cons (.tmp rfl) (.cons (.tmp rfl) (.cons (.tmp rfl) .nil))))) Tryd.call12 (hg) fun e w3 hp => ?_
  obtain ⟨vL, nxt, vE, rfl, hGP, hb3⟩ := hp
  refine ⟨_, rfl, fun fa18 fh18 => ?_⟩
  clear fh17 fa17
  refine Kn.pure fh18 rfl rfl .none (Kn.ex_move fh18 (.tmp rfl)) fun fa19 fh19 => ?_
  clear fh18 fa18
  refine Kn.pure fh19 rfl rfl .none (Kn.ex_extract fh19 (.tmp rfl) rfl) fun fa20 fh20 => ?_
  clear fh19 fa19
  refine Kn.pure fh20 rfl rfl .none (Kn.ex_extract fh20 (.tmp rfl) rfl) fun fa21 fh21 => ?_
  clear fh20 fa20
  refine Kn.pure fh21 rfl rfl .none (Kn.ex_extract fh21 (.tmp rfl) rfl) fun fa22 fh22 => ?_
  clear fh21 fa21
  refine Kn.pure fh22 rfl rfl .none (Kn.ex_assign fh22 (.tmp rfl)) fun fa23 fh23 => ?_
  clear fh22 fa22
  refine Kn.pure fh23 rfl rfl .none (Kn.ex_assign fh23 (.tmp rfl)) fun fa24 fh24 => ?_
  clear fh23 fa23
  refine Kn.pure fh24 rfl rfl .none (Kn.ex_assign fh24 (.tmp rfl)) fun fa25 fh25 => ?_
  clear fh24 fa24
  refine wpList_nil ?_
  refine hK7 _ _ ?_
  clear hK7 K7
  replace fh25 := fh25.cut (.cons (t := 11) rfl (.cons (t := 10) rfl (.cons (t := 9) rfl (.cons (t := 8) rfl (.cons (t := 7) rfl (.cons (t := 6) rfl (.cons (t := 0) rfl (.cons (t := 1) rfl .nil))))))))
  have HT3 := Lib.hid (HT2.out.on hb3)
  have HB3 := Lib.hid (HB2.out.trans (hb3.mono HB2.out.size))
  have HGP := Lib.hid hGP
  clear hg hGP hb3 HT2 HB2
  have hk := gSkip_g s p N w3 hs hN2 hN3
  have hc := gCount_g s p N w3 hs hN2 hN3
  have hrk := fun u => skip_g s p N u (by omega) hN3
  have hrc := fun u => count_g s p N u (by omega)
  rw [skC_eq] at hk
  rcases hcn : cnt s p N with ⟨x, nx, ec, ac⟩
  rcases hsk : skG s p N with ⟨kn, ek, ak⟩
  rw [hcn] at hc hrc
  rw [hsk] at hk hrk
  unfold gv at hrc
  unfold rv at hrk
  simp only at hc hk hrc hrk
  have HRK := Lib.hid hrk
  have HRC := Lib.hid hrc
  clear hrk hrc hcn hsk
  refine wp_seq_k fun K8 hK8 => ?_
  refine wp_region_lit ?_
  refine Kn.pure fh25 rfl rfl .none (Kn.ex_move fh25 (.tmp rfl)) fun fa26 fh26 => ?_
  clear fh25 fa25
  refine Kn.pure fh26 rfl rfl .none (Kn.ex_move fh26 (.tmp rfl)) fun fa27 fh27 => ?_
  clear fh26 fa26
  refine Kn.pure fh27 rfl rfl .none (Kn.ex_move fh27 (.tmp rfl)) fun fa28 fh28 => ?_
  clear fh27 fa27
  refine Kn.call fh28 rfl rfl .none (Kn.ex_call fh28 (.cons (.tmp rfl) (.cons (.tmp rfl) (.cons (.tmp rfl) .nil)))) Tryd.call13 (hk) fun e w4 hp => ?_
  obtain ⟨rfl, rfl⟩ := hp
  refine ⟨_, rfl, fun fa29 fh29 => ?_⟩
  clear fh28 fa28
  refine Kn.pure fh29 rfl rfl .none (Kn.ex_move fh29 (.tmp rfl)) fun fa30 fh30 => ?_
  clear fh29 fa29
  refine Kn.pure fh30 rfl rfl .none (Kn.ex_extract fh30 (.tmp rfl) rfl) fun fa31 fh31 => ?_
  clear fh30 fa30
  refine Kn.pure fh31 rfl rfl .none (Kn.ex_extract fh31 (.tmp rfl) rfl) fun fa32 fh32 => ?_
  clear fh31 fa31
  refine Kn.pure fh32 rfl rfl .none (Kn.ex_assign fh32 (.tmp rfl)) fun fa33 fh33 => ?_
  clear fh32 fa32
  refine Kn.pure fh33 rfl rfl .none (Kn.ex_assign fh33 (.tmp rfl)) fun fa34 fh34 => ?_
  clear fh33 fa33
  refine wpList_nil ?_
  refine hK8 _ _ ?_
  clear hK8 K8
  replace fh34 := fh34.cut (.cons (t := 13) rfl (.cons (t := 12) rfl (.cons (t := 11) rfl (.cons (t := 10) rfl (.cons (t := 9) rfl (.cons (t := 8) rfl (.cons (t := 7) rfl (.cons (t := 6) rfl (.cons (t := 0) rfl (.cons (t := 1) rfl .nil))))))))))
  refine wp_seq_k fun K9 hK9 => ?_
  refine wp_region_lit ?_
  refine Kn.pure fh34 rfl rfl .none (Kn.ex_move fh34 (.tmp rfl)) fun fa35 fh35 => ?_
  clear fh34 fa34
  refine Kn.pure fh35 rfl rfl .none (Kn.ex_move fh35 (.tmp rfl)) fun fa36 fh36 => ?_
  clear fh35 fa35
  refine Kn.pure fh36 rfl rfl .none (Kn.ex_move fh36 (.tmp rfl)) fun fa37 fh37 => ?_
  clear fh36 fa36
  refine Kn.call fh37 rfl rfl .none (Kn.ex_call fh37 (.cons (.tmp rfl) (.cons (.tmp rfl) (.cons (.tmp rfl) .nil)))) Tryd.call14 (hc) fun e w4 hp => ?_
  obtain ⟨rfl, rfl⟩ := hp
  refine ⟨_, rfl, fun fa38 fh38 => ?_⟩
  clear fh37 fa37
  refine Kn.pure fh38 rfl rfl .none (Kn.ex_move fh38 (.tmp rfl)) fun fa39 fh39 => ?_
  clear fh38 fa38
  refine Kn.pure fh39 rfl rfl .none (Kn.ex_extract fh39 (.tmp rfl) rfl) fun fa40 fh40 => ?_
  clear fh39 fa39
  refine Kn.pure fh40 rfl rfl .none (Kn.ex_extract fh40 (.tmp rfl) rfl) fun fa41 fh41 => ?_
  clear fh40 fa40
  refine Kn.pure fh41 rfl rfl .none (Kn.ex_assign fh41 (.tmp rfl)) fun fa42 fh42 => ?_
  clear fh41 fa41
  refine Kn.pure fh42 rfl rfl .none (Kn.ex_assign fh42 (.tmp rfl)) fun fa43 fh43 => ?_
  clear fh42 fa42
  refine wpList_nil ?_
  refine hK9 _ _ ?_
  clear hK9 K9
  replace fh43 := fh43.cut (.cons (t := 15) rfl (.cons (t := 14) rfl (.cons (t := 13) rfl (.cons (t := 12) rfl (.cons (t := 11) rfl (.cons (t := 10) rfl (.cons (t := 9) rfl (.cons (t := 8) rfl (.cons (t := 7) rfl (.cons (t := 6) rfl (.cons (t := 0) rfl (.cons (t := 1) rfl .nil))))))))))))
  clear hk hc
  refine wp_seq_k fun K10 hK10 => ?_
  refine wp_seq_k fun K11 hK11 => ?_
  refine wp_region_lit ?_
  refine Kn.pure fh43 rfl rfl .none (Kn.ex_move fh43 (.tmp rfl)) fun fa44 fh44 => ?_
  clear fh43 fa43
  refine Kn.step fh44 rfl rfl .none (Kn.ex_bin fh44 (.tmp rfl) .const) fun Ko hKo => ?_
  go_simp
  try go_bits
  refine hKo _ _ fun fa45 fh45 => ?_
  clear hKo Ko fh44 fa44
  refine Kn.pure fh45 rfl rfl .none (Kn.ex_move fh45 (.tmp rfl)) fun fa46 fh46 => ?_
  clear fh45 fa45
  refine Kn.pure fh46 rfl rfl (.some rfl rfl rfl) (Kn.ex_move fh46 (.tmp rfl)) fun fa47 fh47 => ?_
  clear fh46 fa46
  refine Kn.step fh47 rfl rfl (.some rfl rfl rfl) (Kn.ex_bin fh47 (.tmp rfl) .const) fun Ko hKo => ?_
  go_simp
  try go_bits
  refine hKo _ _ fun fa48 fh48 => ?_
  clear hKo Ko fh47 fa47
  refine Kn.pure fh48 rfl rfl .none (Kn.ex_pick fh48 (.tmp rfl) (.tmp rfl)) fun fa49 fh49 => ?_
  clear fh48 fa48
  refine wpList_nil ?_
  refine hK11 _ _ ?_
  clear hK11 K11
  replace fh49 := fh49.cut (.cons (t := 56) rfl (.cons (t := 15) rfl (.cons (t := 14) rfl (.cons (t := 13) rfl (.cons (t := 12) rfl (.cons (t := 11) rfl (.cons (t := 10) rfl (.cons (t := 9) rfl (.cons (t := 8) rfl (.cons (t := 7) rfl (.cons (t := 6) rfl (.cons (t := 0) rfl (.cons (t := 1) rfl .nil)))))))))))))
  refine Kn.no fh49 (.tmp rfl) ?_
  refine wp_skip ?_
  refine hK10 _ _ ?_
  clear hK10 K10
  replace fh49 := fh49.cut (.cons (t := 15) rfl (.cons (t := 14) rfl (.cons (t := 13) rfl (.cons (t := 12) rfl (.cons (t := 11) rfl (.cons (t := 10) rfl (.cons (t := 9) rfl (.cons (t := 8) rfl (.cons (t := 7) rfl (.cons (t := 6) rfl (.cons (t := 0) rfl (.cons (t := 1) rfl .nil))))))))))))
  refine wp_seq_k fun K12 hK12 => ?_
  refine wp_region_lit ?_
  refine Kn.pure fh49 rfl rfl .none (Kn.ex_move fh49 (.tmp rfl)) fun fa50 fh50 => ?_
  clear fh49 fa49
  refine Kn.pure fh50 rfl rfl .none (Kn.ex_move fh50 (.tmp rfl)) fun fa51 fh51 => ?_
  clear fh50 fa50
  refine Kn.pure fh51 rfl rfl .none (Kn.ex_move fh51 (.tmp rfl)) fun fa52 fh52 => ?_
  clear fh51 fa51
  refine Kn.call fh52 rfl rfl .none (Kn.ex_call fh52 (.cons (.tmp rfl) (.cons (.tmp rfl) (.cons (.tmp rfl) .nil)))) Tryd.call17 (HRC.out w3) fun e u1 hp => ?_
  obtain ⟨rfl, hb1⟩ := hp
  refine ⟨_, rfl, fun fa53 fh53 => ?_⟩
  clear fh52 fa52
  refine Kn.pure fh53 rfl rfl .none (Kn.ex_move fh53 (.tmp rfl)) fun fa54 fh54 => ?_
  clear fh53 fa53
  refine Kn.pure fh54 rfl rfl .none (Kn.ex_move fh54 (.tmp rfl)) fun fa55 fh55 => ?_
  clear fh54 fa54
  refine Kn.pure fh55 rfl rfl .none (Kn.ex_move fh55 (.tmp rfl)) fun fa56 fh56 => ?_
  clear fh55 fa55
  refine Kn.call fh56 rfl rfl .none (Kn.ex_call fh56 (.cons (.tmp rfl) (.cons (.tmp rfl) (.cons (.tmp rfl) .nil)))) Tryd.call18 (HRK.out u1) fun e u2 hp => ?_
  obtain ⟨rfl, hb2⟩ := hp
  refine ⟨_, rfl, fun fa57 fh57 => ?_⟩
  clear fh56 fa56
  have hb12 := hb1.trans (hb2.mono hb1.size)
  have hT5 := HT3.out.on hb12
  have hG5 := HGP.out.on hb12
  have hB5 := HB3.out.trans (hb12.mono HB3.out.size)
  obtain ⟨u3, hu3⟩ : ∃ u, u2.alloc (.cells #[.int .i64 0, .int .i64 0, .int .i64 0, .int .i64 0] 43) = u := ⟨_, rfl⟩
  have hS3 := St.St.new u2 43 #[.int .i64 0, .int .i64 0, .int .i64 0, .int .i64 0]
  have hb23 : Below u2.heap.size u2 u3 := by rw [← hu3]; exact (Below.refl _ u2).alloc (Nat.le_refl _) _
  rw [hu3] at hS3
  obtain ⟨u4, hu4⟩ : ∃ u, u3.alloc (.cells #[.slice none 0 0, .int .i64 0, .int .i64 0, .int .i64 0] 46) = u := ⟨_, rfl⟩
  have hS4 := St.St.new u3 46 #[.slice none 0 0, .int .i64 0, .int .i64 0, .int .i64 0]
  have hb34 : Below u3.heap.size u3 u4 := by rw [← hu4]; exact (Below.refl _ u3).alloc (Nat.le_refl _) _
  rw [hu4] at hS4
  have hS34 := hS3.on hb34
  have hg12 : u2.heap.size < u3.heap.size := hS3.lt
  obtain ⟨hst1, hS5, hB45⟩ := hS34.store (P := Tryd.prog) (cells := #[.int .i64 x, .int .i64 nx, .int .i64 ec, .int .i64 ac]) (by kernel_rfl) rfl (by simp [Value.oneCell'])
  have hS45 := hS4.setRow (Nat.ne_of_gt hg12) #[.int .i64 x, .int .i64 nx, .int .i64 ec, .int .i64 ac]
  obtain ⟨hst2, hS6, hB56⟩ := hS45.store (P := Tryd.prog) (cells := #[.slice none 0 0, .int .i64 kn, .int .i64 ek, .int .i64 ak]) (by kernel_rfl) rfl (by simp [Value.oneCell'])
  have hS56 := hS5.setRow (Nat.ne_of_lt hg12) #[.slice none 0 0, .int .i64 kn, .int .i64 ek, .int .i64 ak]
  have hb26 := ((hb23.trans (hb34.mono hb23.size)).trans (hB45 _ (Nat.le_refl _))).trans (hB56 _ (Nat.le_of_lt hg12))
  have HSP : Hid (SP w N p v r vL nxt vE u2.heap.size u3.heap.size #[.int .i64 x, .int .i64 nx, .int .i64 ec, .int .i64 ac] #[.slice none 0 0, .int .i64 kn, .int .i64 ek, .int .i64 ak] ((u4.setRow u2.heap.size #[.int .i64 x, .int .i64 nx, .int .i64 ec, .int .i64 ac]).setRow u3.heap.size #[.slice none 0 0, .int .i64 kn, .int .i64 ek, .int .i64 ak])) := Lib.hid ⟨hT5.on hb26, hS56, hS6, hG5.on hb26, hB5.trans (hb26.mono hB5.size)⟩
  clear hb1 hb2 hb12 hT5 hG5 hB5 hS3 hb23 hS4 hb34 hS34 hS5 hB45 hS45 hS6 hB56 hS56 hb26
  refine Kn.step fh57 rfl rfl .none Kn.ex_alloc fun Ko hKo => ?_
  go_simp
  try rw [hu3]
  refine hKo _ _ fun fa58 fh58 => ?_
  clear hKo Ko fh57 fa57
  refine Kn.step fh58 rfl rfl .none Kn.ex_alloc fun Ko hKo => ?_
  go_simp
  try rw [hu4]
  refine hKo _ _ fun fa59 fh59 => ?_
  clear hKo Ko fh58 fa58
  refine Kn.stepU fh59 rfl .none (Kn.ex_store fh59 (.tmp rfl) (.tmp rfl)) fun Ko hKo => ?_
  rw [hst1]
  refine hKo _ ?_
  clear hKo Ko
  refine Kn.stepU fh59 rfl .none (Kn.ex_store fh59 (.tmp rfl) (.tmp rfl)) fun Ko hKo => ?_
  rw [hst2]
  refine hKo _ ?_
  clear hKo Ko
  refine wpList_nil ?_
  refine hK12 _ _ ?_
  clear hK12 K12
  replace fh59 := fh59.cut (.cons (t := 17) rfl (.cons (t := 16) rfl (.cons (t := 15) rfl (.cons (t := 14) rfl (.cons (t := 13) rfl (.cons (t := 12) rfl (.cons (t := 11) rfl (.cons (t := 10) rfl (.cons (t := 9) rfl (.cons (t := 8) rfl (.cons (t := 7) rfl (.cons (t := 6) rfl (.cons (t := 0) rfl (.cons (t := 1) rfl .nil))))))))))))))
  clear hst1 hst2 hu3 hu4
  obtain ⟨u5, hu5⟩ : ∃ u, (u4.setRow u2.heap.size #[.int .i64 x, .int .i64 nx, .int .i64 ec, .int .i64 ac]).setRow u3.heap.size #[.slice none 0 0, .int .i64 kn, .int .i64 ek, .int .i64 ak] = u := ⟨_, rfl⟩
  rw [hu5] at HSP
  change Code.wp _ _ _ _ ((u4.setRow u2.heap.size #[.int .i64 x, .int .i64 nx, .int .i64 ec, .int .i64 ac]).setRow u3.heap.size #[.slice none 0 0, .int .i64 kn, .int .i64 ek, .int .i64 ak])
  rw [hu5]
  generalize u2.heap.size = g1 at *
  generalize u3.heap.size = g2 at *
  clear hu5 HRK HRC
  refine wp_seq_k fun K13 hK13 => ?_
  refine Kn.join (fun fr u6 => Kn.Kn 223 [(9, vL), (10, .int .i64 nxt), (11, vE), (0, .string s), (1, .int .i64 p), (7, .int .i64 N), (8, .int .i64 v)] fr ∧ Hid (Err.ErrTab u6) ∧ Hid (GetP N p v r vL nxt vE u6) ∧ Hid (Below w.heap.size w u6)) ?_ ?_
  · by_cases hec : ec = 0
    · by_cases hek : ek = 0
      · subst hec
        rw [gE_0] at fh59
        subst hek
        rw [gE_0] at fh59
        refine wp_seq_k fun K14 hK14 => ?_
        refine Kn.any (SP w N p v r vL nxt vE g1 g2 #[.int .i64 x, .int .i64 nx, .int .i64 0, .int .i64 ac] #[.slice none 0 0, .int .i64 kn, .int .i64 0, .int .i64 ak]) (fun u u' => Below u.heap.size u u') (Kn.TL [Kn.Is (.int .i64 x), Kn.Is (.pointer (some ⟨g1, 0, none⟩)), Kn.Is (.int .i64 x), Kn.Is (.bool false), Kn.Is (.bool false), Kn.Is (.nilIface), Kn.Is (.int .i64 0), Kn.Is (.pointer (some ⟨g1, 2, none⟩)), Kn.Is (.int .i64 0), Kn.Is (.bool false), Kn.Is (.bool false), Kn.Is (.bool false), Kn.Is (.pointer (some ⟨g1, 2, none⟩)), Kn.Is (.int .i64 0), Kn.Is (.bool false), Kn.Is (.bool false), Kn.Is (undef), Kn.Is (undef), Kn.Is (undef), Kn.Is (undef), Kn.Is (undef), Kn.Is (.bool false), Kn.Is (.bool false), Kn.Is (.bool false), Kn.Is (.int .i64 kn), Kn.Is (.pointer (some ⟨g2, 1, none⟩)), Kn.Is (.int .i64 kn), Kn.Is (.bool false), Kn.Is (.bool false), Kn.Is (.bool false), Kn.Is (.nilIface), Kn.Is (.int .i64 0), Kn.Is (.pointer (some ⟨g2, 2, none⟩)), Kn.Is (.int .i64 0), Kn.Is (.bool false), Kn.Is (.bool false), Kn.Is (.bool false), Kn.Is (.pointer (some ⟨g2, 2, none⟩)), Kn.Is (.int .i64 0), Kn.Is (.bool false), Kn.Is (.bool false), Kn.Is (undef), Kn.Is (undef), Kn.Is (undef), Kn.Is (undef), Kn.Is (undef), Kn.Is (.bool false), Kn.Is (.bool false)]) (by kernel_rfl) fh59 (by kernel_rfl) (by kernel_rfl) rfl (Kn.Keeps.all (.cons Kn.Is.keep (.cons Kn.Is.keep (.cons Kn.Is.keep (.cons Kn.Is.keep (.cons Kn.Is.keep (.cons Kn.Is.keep (.cons Kn.Is.keep (.cons Kn.Is.keep (.cons Kn.Is.keep (.cons Kn.Is.keep (.cons Kn.Is.keep (.cons Kn.Is.keep (.cons Kn.Is.keep (.cons Kn.Is.keep (.cons Kn.Is.keep (.cons Kn.Is.keep (.cons Kn.Is.keep (.cons Kn.Is.keep (.cons Kn.Is.keep (.cons Kn.Is.keep (.cons Kn.Is.keep (.cons Kn.Is.keep (.cons Kn.Is.keep (.cons Kn.Is.keep (.cons Kn.Is.keep (.cons Kn.Is.keep (.cons Kn.Is.keep (.cons Kn.Is.keep (.cons Kn.Is.keep (.cons Kn.Is.keep (.cons Kn.Is.keep (.cons Kn.Is.keep (.cons Kn.Is.keep (.cons Kn.Is.keep (.cons Kn.Is.keep (.cons Kn.Is.keep (.cons Kn.Is.keep (.cons Kn.Is.keep (.cons Kn.Is.keep (.cons Kn.Is.keep (.cons Kn.Is.keep (.cons Kn.Is.keep (.cons Kn.Is.keep (.cons Kn.Is.keep (.cons Kn.Is.keep (.cons Kn.Is.keep (.cons Kn.Is.keep (.cons Kn.Is.keep .nil))))))))))))))))))))))))))))))))))))))))))))))))) HSP.out.drew ⟨?_, ?_, ?_, ?_, ?_, ?_, ?_, ?_, ?_, ?_, ?_, ?_, ?_, ?_, ?_, ?_, ?_, ?_, ?_, ?_, ?_, ?_, ?_, ?_, ?_, ?_, ?_, ?_, ?_, ?_, ?_, ?_, ?_, ?_, ?_, ?_, ?_, ?_, ?_, ?_, ?_, ?_, ?_, ?_, ?_, ?_, ?_, ?_, trivial⟩ ?_
        · refine Kn.ok fun fa60 u L fh60 hS hH => ?_
          exact Kn.apure fh60 .none (Kn.ex_move fh60 (.tmp rfl)) rfl hS (Below.refl _ _)
        · refine Kn.ok fun fa60 u L fh60 hS hH => ?_
          refine Kn.aop fh60 .none (Kn.ex_fieldAddr fh60 (.tmp rfl)) fun Ko hKo => ?_
          go_simp
          try go_bits
          exact hKo _ _ rfl hS (Below.refl _ _)
        · refine Kn.ok fun fa60 u L fh60 hS hH => ?_
          replace fh60 := fh60.more (show fa60.eval (.tmp 116) = .pointer (some ⟨g1, 0, none⟩) from hH 1 116 rfl rfl)
          have cc := hS.2.1.cell 0 rfl
          refine Kn.aop fh60 .none (Kn.ex_load fh60 (.tmp rfl)) fun Ko hKo => ?_
          go_simp
          try go_bits
          exact hKo _ _ rfl hS (Below.refl _ _)
        · refine Kn.ok fun fa60 u L fh60 hS hH => ?_
          replace fh60 := fh60.more (show fa60.eval (.tmp 115) = .int .i64 x from hH 0 115 rfl rfl)
          replace fh60 := fh60.more (show fa60.eval (.tmp 117) = .int .i64 x from hH 2 117 rfl rfl)
          refine Kn.aop fh60 .none (Kn.ex_bin fh60 (.tmp rfl) (.tmp rfl)) fun Ko hKo => ?_
          go_simp
          try go_bits
          exact hKo _ _ rfl hS (Below.refl _ _)
        · refine Kn.ok fun fa60 u L fh60 hS hH => ?_
          replace fh60 := fh60.more (show fa60.eval (.tmp 118) = .bool false from hH 3 118 rfl rfl)
          exact Kn.apure fh60 .none (Kn.ex_move fh60 (.tmp rfl)) rfl hS (Below.refl _ _)
        · refine Kn.ok fun fa60 u L fh60 hS hH => ?_
          replace fh60 := fh60.more (show fa60.eval (.tmp 119) = .bool false from hH 4 119 rfl rfl)
          exact Kn.apure fh60 (.some rfl rfl rfl) (Kn.ex_move fh60 (.tmp rfl)) rfl hS (Below.refl _ _)
        · refine Kn.ok fun fa60 u L fh60 hS hH => ?_
          replace fh60 := fh60.more (show fa60.eval (.tmp 120) = .nilIface from hH 5 120 rfl rfl)
          replace fh60 := fh60.more (show fa60.eval (.tmp 119) = .bool false from hH 4 119 rfl rfl)
          refine Kn.acall fh60 (.some rfl rfl rfl) (Kn.ex_call fh60 (.cons (.tmp rfl) .nil)) Tryd.call9 (HCn.out _) fun e u7 hp => ?_
          obtain ⟨rfl, hb7⟩ := hp
          exact ⟨_, rfl, rfl, (hS.on hb7), hb7⟩
        · refine Kn.ok fun fa60 u L fh60 hS hH => ?_
          replace fh60 := fh60.more (show fa60.eval (.tmp 119) = .bool false from hH 4 119 rfl rfl)
          refine Kn.aop fh60 (.some rfl rfl rfl) (Kn.ex_fieldAddr fh60 (.tmp rfl)) fun Ko hKo => ?_
          go_simp
          try go_bits
          exact hKo _ _ rfl hS (Below.refl _ _)
        · refine Kn.ok fun fa60 u L fh60 hS hH => ?_
          replace fh60 := fh60.more (show fa60.eval (.tmp 122) = .pointer (some ⟨g1, 2, none⟩) from hH 7 122 rfl rfl)
          replace fh60 := fh60.more (show fa60.eval (.tmp 119) = .bool false from hH 4 119 rfl rfl)
          have cc := hS.2.1.cell 2 rfl
          refine Kn.aop fh60 (.some rfl rfl rfl) (Kn.ex_load fh60 (.tmp rfl)) fun Ko hKo => ?_
          go_simp
          try go_bits
          exact hKo _ _ rfl hS (Below.refl _ _)
        · refine Kn.ok fun fa60 u L fh60 hS hH => ?_
          replace fh60 := fh60.more (show fa60.eval (.tmp 121) = .int .i64 0 from hH 6 121 rfl rfl)
          replace fh60 := fh60.more (show fa60.eval (.tmp 123) = .int .i64 0 from hH 8 123 rfl rfl)
          replace fh60 := fh60.more (show fa60.eval (.tmp 119) = .bool false from hH 4 119 rfl rfl)
          refine Kn.aop fh60 (.some rfl rfl rfl) (Kn.ex_bin fh60 (.tmp rfl) (.tmp rfl)) fun Ko hKo => ?_
          go_simp
          try go_bits
          exact hKo _ _ rfl hS (Below.refl _ _)
        · refine Kn.ok fun fa60 u L fh60 hS hH => ?_
          replace fh60 := fh60.more (show fa60.eval (.tmp 119) = .bool false from hH 4 119 rfl rfl)
          replace fh60 := fh60.more (show fa60.eval (.tmp 124) = .bool false from hH 9 124 rfl rfl)
          exact Kn.apure fh60 .none (Kn.ex_pick fh60 (.tmp rfl) (.tmp rfl)) rfl hS (Below.refl _ _)
        · refine Kn.ok fun fa60 u L fh60 hS hH => ?_
          replace fh60 := fh60.more (show fa60.eval (.tmp 125) = .bool false from hH 10 125 rfl rfl)
          exact Kn.apure fh60 .none (Kn.ex_move fh60 (.tmp rfl)) rfl hS (Below.refl _ _)
        · refine Kn.ok fun fa60 u L fh60 hS hH => ?_
          replace fh60 := fh60.more (show fa60.eval (.tmp 126) = .bool false from hH 11 126 rfl rfl)
          refine Kn.aop fh60 (.some rfl rfl rfl) (Kn.ex_fieldAddr fh60 (.tmp rfl)) fun Ko hKo => ?_
          go_simp
          try go_bits
          exact hKo _ _ rfl hS (Below.refl _ _)
        · refine Kn.ok fun fa60 u L fh60 hS hH => ?_
          replace fh60 := fh60.more (show fa60.eval (.tmp 127) = .pointer (some ⟨g1, 2, none⟩) from hH 12 127 rfl rfl)
          replace fh60 := fh60.more (show fa60.eval (.tmp 126) = .bool false from hH 11 126 rfl rfl)
          have cc := hS.2.1.cell 2 rfl
          refine Kn.aop fh60 (.some rfl rfl rfl) (Kn.ex_load fh60 (.tmp rfl)) fun Ko hKo => ?_
          go_simp
          try go_bits
          exact hKo _ _ rfl hS (Below.refl _ _)
        · refine Kn.ok fun fa60 u L fh60 hS hH => ?_
          replace fh60 := fh60.more (show fa60.eval (.tmp 128) = .int .i64 0 from hH 13 128 rfl rfl)
          replace fh60 := fh60.more (show fa60.eval (.tmp 126) = .bool false from hH 11 126 rfl rfl)
          refine Kn.aop fh60 (.some rfl rfl rfl) (Kn.ex_bin fh60 (.tmp rfl) .const) fun Ko hKo => ?_
          go_simp
          try go_bits
          exact hKo _ _ rfl hS (Below.refl _ _)
        · refine Kn.ok fun fa60 u L fh60 hS hH => ?_
          replace fh60 := fh60.more (show fa60.eval (.tmp 129) = .bool false from hH 14 129 rfl rfl)
          replace fh60 := fh60.more (show fa60.eval (.tmp 126) = .bool false from hH 11 126 rfl rfl)
          exact Kn.apure fh60 (.some rfl rfl rfl) (Kn.ex_move fh60 (.tmp rfl)) rfl hS (Below.refl _ _)
        · refine Kn.ok fun fa60 u L fh60 hS hH => ?_
          replace fh60 := fh60.more (show fa60.eval (.tmp 130) = .bool false from hH 15 130 rfl rfl)
          exact Kn.askip fh60 (.some rfl rfl rfl) rfl
        · refine Kn.ok fun fa60 u L fh60 hS hH => ?_
          replace fh60 := fh60.more (show fa60.eval (.tmp 130) = .bool false from hH 15 130 rfl rfl)
          exact Kn.askip fh60 (.some rfl rfl rfl) rfl
        · refine Kn.ok fun fa60 u L fh60 hS hH => ?_
          replace fh60 := fh60.more (show fa60.eval (.tmp 130) = .bool false from hH 15 130 rfl rfl)
          exact Kn.askip fh60 (.some rfl rfl rfl) rfl
        · refine Kn.ok fun fa60 u L fh60 hS hH => ?_
          replace fh60 := fh60.more (show fa60.eval (.tmp 130) = .bool false from hH 15 130 rfl rfl)
          exact Kn.askip fh60 (.some rfl rfl rfl) rfl
        · refine Kn.ok fun fa60 u L fh60 hS hH => ?_
          replace fh60 := fh60.more (show fa60.eval (.tmp 130) = .bool false from hH 15 130 rfl rfl)
          exact Kn.askip fh60 (.some rfl rfl rfl) rfl
        · refine Kn.ok fun fa60 u L fh60 hS hH => ?_
          replace fh60 := fh60.more (show fa60.eval (.tmp 130) = .bool false from hH 15 130 rfl rfl)
          replace fh60 := fh60.more (show fa60.eval (.tmp 135) = undef from hH 20 135 rfl rfl)
          replace fh60 := fh60.more (show fa60.eval (.tmp 126) = .bool false from hH 11 126 rfl rfl)
          exact Kn.apure fh60 (.some rfl rfl rfl) (Kn.ex_pick fh60 (.tmp rfl) .const) rfl hS (Below.refl _ _)
        · refine Kn.ok fun fa60 u L fh60 hS hH => ?_
          replace fh60 := fh60.more (show fa60.eval (.tmp 126) = .bool false from hH 11 126 rfl rfl)
          replace fh60 := fh60.more (show fa60.eval (.tmp 136) = .bool false from hH 21 136 rfl rfl)
          exact Kn.apure fh60 .none (Kn.ex_pick fh60 (.tmp rfl) (.tmp rfl)) rfl hS (Below.refl _ _)
        · refine Kn.ok fun fa60 u L fh60 hS hH => ?_
          replace fh60 := fh60.more (show fa60.eval (.tmp 137) = .bool false from hH 22 137 rfl rfl)
          exact Kn.apure fh60 .none (Kn.ex_move fh60 (.tmp rfl)) rfl hS (Below.refl _ _)
        · refine Kn.ok fun fa60 u L fh60 hS hH => ?_
          replace fh60 := fh60.more (show fa60.eval (.tmp 138) = .bool false from hH 23 138 rfl rfl)
          exact Kn.apure fh60 (.some rfl rfl rfl) (Kn.ex_move fh60 (.tmp rfl)) rfl hS (Below.refl _ _)
        · refine Kn.ok fun fa60 u L fh60 hS hH => ?_
          replace fh60 := fh60.more (show fa60.eval (.tmp 138) = .bool false from hH 23 138 rfl rfl)
          refine Kn.aop fh60 (.some rfl rfl rfl) (Kn.ex_fieldAddr fh60 (.tmp rfl)) fun Ko hKo => ?_
          go_simp
          try go_bits
          exact hKo _ _ rfl hS (Below.refl _ _)
        · refine Kn.ok fun fa60 u L fh60 hS hH => ?_
          replace fh60 := fh60.more (show fa60.eval (.tmp 140) = .pointer (some ⟨g2, 1, none⟩) from hH 25 140 rfl rfl)
          replace fh60 := fh60.more (show fa60.eval (.tmp 138) = .bool false from hH 23 138 rfl rfl)
          have cc := hS.2.2.1.cell 1 rfl
          refine Kn.aop fh60 (.some rfl rfl rfl) (Kn.ex_load fh60 (.tmp rfl)) fun Ko hKo => ?_
          go_simp
          try go_bits
          exact hKo _ _ rfl hS (Below.refl _ _)
        · refine Kn.ok fun fa60 u L fh60 hS hH => ?_
          replace fh60 := fh60.more (show fa60.eval (.tmp 139) = .int .i64 kn from hH 24 139 rfl rfl)
          replace fh60 := fh60.more (show fa60.eval (.tmp 141) = .int .i64 kn from hH 26 141 rfl rfl)
          replace fh60 := fh60.more (show fa60.eval (.tmp 138) = .bool false from hH 23 138 rfl rfl)
          refine Kn.aop fh60 (.some rfl rfl rfl) (Kn.ex_bin fh60 (.tmp rfl) (.tmp rfl)) fun Ko hKo => ?_
          go_simp
          try go_bits
          exact hKo _ _ rfl hS (Below.refl _ _)
        · refine Kn.ok fun fa60 u L fh60 hS hH => ?_
          replace fh60 := fh60.more (show fa60.eval (.tmp 138) = .bool false from hH 23 138 rfl rfl)
          replace fh60 := fh60.more (show fa60.eval (.tmp 142) = .bool false from hH 27 142 rfl rfl)
          exact Kn.apure fh60 .none (Kn.ex_pick fh60 (.tmp rfl) (.tmp rfl)) rfl hS (Below.refl _ _)
        · refine Kn.ok fun fa60 u L fh60 hS hH => ?_
          replace fh60 := fh60.more (show fa60.eval (.tmp 143) = .bool false from hH 28 143 rfl rfl)
          exact Kn.apure fh60 .none (Kn.ex_move fh60 (.tmp rfl)) rfl hS (Below.refl _ _)
        · refine Kn.ok fun fa60 u L fh60 hS hH => ?_
          replace fh60 := fh60.more (show fa60.eval (.tmp 144) = .bool false from hH 29 144 rfl rfl)
          exact Kn.apure fh60 (.some rfl rfl rfl) (Kn.ex_move fh60 (.tmp rfl)) rfl hS (Below.refl _ _)
        · refine Kn.ok fun fa60 u L fh60 hS hH => ?_
          replace fh60 := fh60.more (show fa60.eval (.tmp 145) = .nilIface from hH 30 145 rfl rfl)
          replace fh60 := fh60.more (show fa60.eval (.tmp 144) = .bool false from hH 29 144 rfl rfl)
          refine Kn.acall fh60 (.some rfl rfl rfl) (Kn.ex_call fh60 (.cons (.tmp rfl) .nil)) Tryd.call9 (HCn.out _) fun e u7 hp => ?_
          obtain ⟨rfl, hb7⟩ := hp
          exact ⟨_, rfl, rfl, (hS.on hb7), hb7⟩
        · refine Kn.ok fun fa60 u L fh60 hS hH => ?_
          replace fh60 := fh60.more (show fa60.eval (.tmp 144) = .bool false from hH 29 144 rfl rfl)
          refine Kn.aop fh60 (.some rfl rfl rfl) (Kn.ex_fieldAddr fh60 (.tmp rfl)) fun Ko hKo => ?_
          go_simp
          try go_bits
          exact hKo _ _ rfl hS (Below.refl _ _)
        · refine Kn.ok fun fa60 u L fh60 hS hH => ?_
          replace fh60 := fh60.more (show fa60.eval (.tmp 147) = .pointer (some ⟨g2, 2, none⟩) from hH 32 147 rfl rfl)
          replace fh60 := fh60.more (show fa60.eval (.tmp 144) = .bool false from hH 29 144 rfl rfl)
          have cc := hS.2.2.1.cell 2 rfl
          refine Kn.aop fh60 (.some rfl rfl rfl) (Kn.ex_load fh60 (.tmp rfl)) fun Ko hKo => ?_
          go_simp
          try go_bits
          exact hKo _ _ rfl hS (Below.refl _ _)
        · refine Kn.ok fun fa60 u L fh60 hS hH => ?_
          replace fh60 := fh60.more (show fa60.eval (.tmp 146) = .int .i64 0 from hH 31 146 rfl rfl)
          replace fh60 := fh60.more (show fa60.eval (.tmp 148) = .int .i64 0 from hH 33 148 rfl rfl)
          replace fh60 := fh60.more (show fa60.eval (.tmp 144) = .bool false from hH 29 144 rfl rfl)
          refine Kn.aop fh60 (.some rfl rfl rfl) (Kn.ex_bin fh60 (.tmp rfl) (.tmp rfl)) fun Ko hKo => ?_
          go_simp
          try go_bits
          exact hKo _ _ rfl hS (Below.refl _ _)
        · refine Kn.ok fun fa60 u L fh60 hS hH => ?_
          replace fh60 := fh60.more (show fa60.eval (.tmp 144) = .bool false from hH 29 144 rfl rfl)
          replace fh60 := fh60.more (show fa60.eval (.tmp 149) = .bool false from hH 34 149 rfl rfl)
          exact Kn.apure fh60 .none (Kn.ex_pick fh60 (.tmp rfl) (.tmp rfl)) rfl hS (Below.refl _ _)
        · refine Kn.ok fun fa60 u L fh60 hS hH => ?_
          replace fh60 := fh60.more (show fa60.eval (.tmp 150) = .bool false from hH 35 150 rfl rfl)
          exact Kn.apure fh60 .none (Kn.ex_move fh60 (.tmp rfl)) rfl hS (Below.refl _ _)
        · refine Kn.ok fun fa60 u L fh60 hS hH => ?_
          replace fh60 := fh60.more (show fa60.eval (.tmp 151) = .bool false from hH 36 151 rfl rfl)
          refine Kn.aop fh60 (.some rfl rfl rfl) (Kn.ex_fieldAddr fh60 (.tmp rfl)) fun Ko hKo => ?_
          go_simp
          try go_bits
          exact hKo _ _ rfl hS (Below.refl _ _)
        · refine Kn.ok fun fa60 u L fh60 hS hH => ?_
          replace fh60 := fh60.more (show fa60.eval (.tmp 152) = .pointer (some ⟨g2, 2, none⟩) from hH 37 152 rfl rfl)
          replace fh60 := fh60.more (show fa60.eval (.tmp 151) = .bool false from hH 36 151 rfl rfl)
          have cc := hS.2.2.1.cell 2 rfl
          refine Kn.aop fh60 (.some rfl rfl rfl) (Kn.ex_load fh60 (.tmp rfl)) fun Ko hKo => ?_
          go_simp
          try go_bits
          exact hKo _ _ rfl hS (Below.refl _ _)
        · refine Kn.ok fun fa60 u L fh60 hS hH => ?_
          replace fh60 := fh60.more (show fa60.eval (.tmp 153) = .int .i64 0 from hH 38 153 rfl rfl)
          replace fh60 := fh60.more (show fa60.eval (.tmp 151) = .bool false from hH 36 151 rfl rfl)
          refine Kn.aop fh60 (.some rfl rfl rfl) (Kn.ex_bin fh60 (.tmp rfl) .const) fun Ko hKo => ?_
          go_simp
          try go_bits
          exact hKo _ _ rfl hS (Below.refl _ _)
        · refine Kn.ok fun fa60 u L fh60 hS hH => ?_
          replace fh60 := fh60.more (show fa60.eval (.tmp 154) = .bool false from hH 39 154 rfl rfl)
          replace fh60 := fh60.more (show fa60.eval (.tmp 151) = .bool false from hH 36 151 rfl rfl)
          exact Kn.apure fh60 (.some rfl rfl rfl) (Kn.ex_move fh60 (.tmp rfl)) rfl hS (Below.refl _ _)
        · refine Kn.ok fun fa60 u L fh60 hS hH => ?_
          replace fh60 := fh60.more (show fa60.eval (.tmp 155) = .bool false from hH 40 155 rfl rfl)
          exact Kn.askip fh60 (.some rfl rfl rfl) rfl
        · refine Kn.ok fun fa60 u L fh60 hS hH => ?_
          replace fh60 := fh60.more (show fa60.eval (.tmp 155) = .bool false from hH 40 155 rfl rfl)
          exact Kn.askip fh60 (.some rfl rfl rfl) rfl
        · refine Kn.ok fun fa60 u L fh60 hS hH => ?_
          replace fh60 := fh60.more (show fa60.eval (.tmp 155) = .bool false from hH 40 155 rfl rfl)
          exact Kn.askip fh60 (.some rfl rfl rfl) rfl
        · refine Kn.ok fun fa60 u L fh60 hS hH => ?_
          replace fh60 := fh60.more (show fa60.eval (.tmp 155) = .bool false from hH 40 155 rfl rfl)
          exact Kn.askip fh60 (.some rfl rfl rfl) rfl
        · refine Kn.ok fun fa60 u L fh60 hS hH => ?_
          replace fh60 := fh60.more (show fa60.eval (.tmp 155) = .bool false from hH 40 155 rfl rfl)
          exact Kn.askip fh60 (.some rfl rfl rfl) rfl
        · refine Kn.ok fun fa60 u L fh60 hS hH => ?_
          replace fh60 := fh60.more (show fa60.eval (.tmp 155) = .bool false from hH 40 155 rfl rfl)
          replace fh60 := fh60.more (show fa60.eval (.tmp 160) = undef from hH 45 160 rfl rfl)
          replace fh60 := fh60.more (show fa60.eval (.tmp 151) = .bool false from hH 36 151 rfl rfl)
          exact Kn.apure fh60 (.some rfl rfl rfl) (Kn.ex_pick fh60 (.tmp rfl) .const) rfl hS (Below.refl _ _)
        · refine Kn.ok fun fa60 u L fh60 hS hH => ?_
          replace fh60 := fh60.more (show fa60.eval (.tmp 151) = .bool false from hH 36 151 rfl rfl)
          replace fh60 := fh60.more (show fa60.eval (.tmp 161) = .bool false from hH 46 161 rfl rfl)
          exact Kn.apure fh60 .none (Kn.ex_pick fh60 (.tmp rfl) (.tmp rfl)) rfl hS (Below.refl _ _)
        intro fa60 u6 fh60 hS hT
        clear fh59 fa59
        replace fh60 := fh60.more (show fa60.eval (.tmp 162) = .bool false from hT 47 162 rfl)
        clear hT
        refine hK14 _ _ ?_
        clear hK14 K14
        replace fh60 := fh60.cut (.cons (t := 162) rfl (.cons (t := 11) rfl (.cons (t := 10) rfl (.cons (t := 9) rfl (.cons (t := 8) rfl (.cons (t := 7) rfl (.cons (t := 0) rfl (.cons (t := 1) rfl .nil))))))))
        refine Kn.no fh60 (.tmp rfl) ?_
        refine wp_skip ?_
        replace fh60 := fh60.cut (.cons (t := 11) rfl (.cons (t := 10) rfl (.cons (t := 9) rfl (.cons (t := 8) rfl (.cons (t := 7) rfl (.cons (t := 0) rfl (.cons (t := 1) rfl .nil)))))))
        exact ⟨fh60.cut (.cons (t := 9) rfl (.cons (t := 10) rfl (.cons (t := 11) rfl (.cons (t := 0) rfl (.cons (t := 1) rfl (.cons (t := 7) rfl (.cons (t := 8) rfl .nil))))))), Lib.hid hS.1, Lib.hid hS.2.2.2.1, Lib.hid hS.2.2.2.2⟩
      subst hec
      rw [gE_0] at fh59
      have qek : (ek != 0) = true := by simp [hek]
      rw [gE_e hek] at fh59
      clear hek
      refine wp_seq_k fun K14 hK14 => ?_
      refine Kn.any (SP w N p v r vL nxt vE g1 g2 #[.int .i64 x, .int .i64 nx, .int .i64 0, .int .i64 ac] #[.slice none 0 0, .int .i64 kn, .int .i64 ek, .int .i64 ak]) (fun u u' => Below u.heap.size u u') (Kn.TL [Kn.Is (.int .i64 x), Kn.Is (.pointer (some ⟨g1, 0, none⟩)), Kn.Is (.int .i64 x), Kn.Is (.bool false), Kn.Is (.bool false), Kn.Is (.nilIface), Kn.Is (.int .i64 0), Kn.Is (.pointer (some ⟨g1, 2, none⟩)), Kn.Is (.int .i64 0), Kn.Is (.bool false), Kn.Is (.bool false), Kn.Is (.bool false), Kn.Is (.pointer (some ⟨g1, 2, none⟩)), Kn.Is (.int .i64 0), Kn.Is (.bool false), Kn.Is (.bool false), Kn.Is (undef), Kn.Is (undef), Kn.Is (undef), Kn.Is (undef), Kn.Is (undef), Kn.Is (.bool false), Kn.Is (.bool false), Kn.Is (.bool false), Kn.Is (.int .i64 kn), Kn.Is (.pointer (some ⟨g2, 1, none⟩)), Kn.Is (.int .i64 kn), Kn.Is (.bool false), Kn.Is (.bool false), Kn.Is (.bool false), Kn.Is (.iface 60 (.agg #[.int .i64 ak, .iface 55 (.int .i64 ek)])), Kn.Is (.int .i64 ek), Kn.Is (.pointer (some ⟨g2, 2, none⟩)), Kn.Is (.int .i64 ek), Kn.Is (.bool false), Kn.Is (.bool false), Kn.Is (.bool false), Kn.Is (.pointer (some ⟨g2, 2, none⟩)), Kn.Is (.int .i64 ek), Kn.Is (.bool true), Kn.Is (.bool true), Kn.Is (.iface 60 (.agg #[.int .i64 ak, .iface 55 (.int .i64 ek)])), Kn.Is (.int .i64 ak), Kn.Is (.pointer (some ⟨g2, 3, none⟩)), Kn.Is (.int .i64 ak), Kn.Is (.bool false), Kn.Is (.bool false), Kn.Is (.bool false)]) (by kernel_rfl) fh59 (by kernel_rfl) (by kernel_rfl) rfl (Kn.Keeps.all (.cons Kn.Is.keep (.cons Kn.Is.keep (.cons Kn.Is.keep (.cons Kn.Is.keep (.cons Kn.Is.keep (.cons Kn.Is.keep (.cons Kn.Is.keep (.cons Kn.Is.keep (.cons Kn.Is.keep (.cons Kn.Is.keep (.cons Kn.Is.keep (.cons Kn.Is.keep (.cons Kn.Is.keep (.cons Kn.Is.keep (.cons Kn.Is.keep (.cons Kn.Is.keep (.cons Kn.Is.keep (.cons Kn.Is.keep (.cons Kn.Is.keep (.cons Kn.Is.keep (.cons Kn.Is.keep (.cons Kn.Is.keep (.cons Kn.Is.keep (.cons Kn.Is.keep (.cons Kn.Is.keep (.cons Kn.Is.keep (.cons Kn.Is.keep (.cons Kn.Is.keep (.cons Kn.Is.keep (.cons Kn.Is.keep (.cons Kn.Is.keep (.cons Kn.Is.keep (.cons Kn.Is.keep (.cons Kn.Is.keep (.cons Kn.Is.keep (.cons Kn.Is.keep (.cons Kn.Is.keep (.cons Kn.Is.keep (.cons Kn.Is.keep (.cons Kn.Is.keep (.cons Kn.Is.keep (.cons Kn.Is.keep (.cons Kn.Is.keep (.cons Kn.Is.keep (.cons Kn.Is.keep (.cons Kn.Is.keep (.cons Kn.Is.keep (.cons Kn.Is.keep .nil))))))))))))))))))))))))))))))))))))))))))))))))) HSP.out.drew ⟨?_, ?_, ?_, ?_, ?_, ?_, ?_, ?_, ?_, ?_, ?_, ?_, ?_, ?_, ?_, ?_, ?_, ?_, ?_, ?_, ?_, ?_, ?_, ?_, ?_, ?_, ?_, ?_, ?_, ?_, ?_, ?_, ?_, ?_, ?_, ?_, ?_, ?_, ?_, ?_, ?_, ?_, ?_, ?_, ?_, ?_, ?_, ?_, trivial⟩ ?_
      · refine Kn.ok fun fa60 u L fh60 hS hH => ?_
        exact Kn.apure fh60 .none (Kn.ex_move fh60 (.tmp rfl)) rfl hS (Below.refl _ _)
      · refine Kn.ok fun fa60 u L fh60 hS hH => ?_
        refine Kn.aop fh60 .none (Kn.ex_fieldAddr fh60 (.tmp rfl)) fun Ko hKo => ?_
        go_simp
        try go_bits
        exact hKo _ _ rfl hS (Below.refl _ _)
      · refine Kn.ok fun fa60 u L fh60 hS hH => ?_
        replace fh60 := fh60.more (show fa60.eval (.tmp 116) = .pointer (some ⟨g1, 0, none⟩) from hH 1 116 rfl rfl)
        have cc := hS.2.1.cell 0 rfl
        refine Kn.aop fh60 .none (Kn.ex_load fh60 (.tmp rfl)) fun Ko hKo => ?_
        go_simp
        try go_bits
        exact hKo _ _ rfl hS (Below.refl _ _)
      · refine Kn.ok fun fa60 u L fh60 hS hH => ?_
        replace fh60 := fh60.more (show fa60.eval (.tmp 115) = .int .i64 x from hH 0 115 rfl rfl)
        replace fh60 := fh60.more (show fa60.eval (.tmp 117) = .int .i64 x from hH 2 117 rfl rfl)
        refine Kn.aop fh60 .none (Kn.ex_bin fh60 (.tmp rfl) (.tmp rfl)) fun Ko hKo => ?_
        go_simp
        try go_bits
        exact hKo _ _ rfl hS (Below.refl _ _)
      · refine Kn.ok fun fa60 u L fh60 hS hH => ?_
        replace fh60 := fh60.more (show fa60.eval (.tmp 118) = .bool false from hH 3 118 rfl rfl)
        exact Kn.apure fh60 .none (Kn.ex_move fh60 (.tmp rfl)) rfl hS (Below.refl _ _)
      · refine Kn.ok fun fa60 u L fh60 hS hH => ?_
        replace fh60 := fh60.more (show fa60.eval (.tmp 119) = .bool false from hH 4 119 rfl rfl)
        exact Kn.apure fh60 (.some rfl rfl rfl) (Kn.ex_move fh60 (.tmp rfl)) rfl hS (Below.refl _ _)
      · refine Kn.ok fun fa60 u L fh60 hS hH => ?_
        replace fh60 := fh60.more (show fa60.eval (.tmp 120) = .nilIface from hH 5 120 rfl rfl)
        replace fh60 := fh60.more (show fa60.eval (.tmp 119) = .bool false from hH 4 119 rfl rfl)
        refine Kn.acall fh60 (.some rfl rfl rfl) (Kn.ex_call fh60 (.cons (.tmp rfl) .nil)) Tryd.call9 (HCn.out _) fun e u7 hp => ?_
        obtain ⟨rfl, hb7⟩ := hp
        exact ⟨_, rfl, rfl, (hS.on hb7), hb7⟩
      · refine Kn.ok fun fa60 u L fh60 hS hH => ?_
        replace fh60 := fh60.more (show fa60.eval (.tmp 119) = .bool false from hH 4 119 rfl rfl)
        refine Kn.aop fh60 (.some rfl rfl rfl) (Kn.ex_fieldAddr fh60 (.tmp rfl)) fun Ko hKo => ?_
        go_simp
        try go_bits
        exact hKo _ _ rfl hS (Below.refl _ _)
      · refine Kn.ok fun fa60 u L fh60 hS hH => ?_
        replace fh60 := fh60.more (show fa60.eval (.tmp 122) = .pointer (some ⟨g1, 2, none⟩) from hH 7 122 rfl rfl)
        replace fh60 := fh60.more (show fa60.eval (.tmp 119) = .bool false from hH 4 119 rfl rfl)
        have cc := hS.2.1.cell 2 rfl
        refine Kn.aop fh60 (.some rfl rfl rfl) (Kn.ex_load fh60 (.tmp rfl)) fun Ko hKo => ?_
        go_simp
        try go_bits
        exact hKo _ _ rfl hS (Below.refl _ _)
      · refine Kn.ok fun fa60 u L fh60 hS hH => ?_
        replace fh60 := fh60.more (show fa60.eval (.tmp 121) = .int .i64 0 from hH 6 121 rfl rfl)
        replace fh60 := fh60.more (show fa60.eval (.tmp 123) = .int .i64 0 from hH 8 123 rfl rfl)
        replace fh60 := fh60.more (show fa60.eval (.tmp 119) = .bool false from hH 4 119 rfl rfl)
        refine Kn.aop fh60 (.some rfl rfl rfl) (Kn.ex_bin fh60 (.tmp rfl) (.tmp rfl)) fun Ko hKo => ?_
        go_simp
        try go_bits
        exact hKo _ _ rfl hS (Below.refl _ _)
      · refine Kn.ok fun fa60 u L fh60 hS hH => ?_
        replace fh60 := fh60.more (show fa60.eval (.tmp 119) = .bool false from hH 4 119 rfl rfl)
        replace fh60 := fh60.more (show fa60.eval (.tmp 124) = .bool false from hH 9 124 rfl rfl)
        exact Kn.apure fh60 .none (Kn.ex_pick fh60 (.tmp rfl) (.tmp rfl)) rfl hS (Below.refl _ _)
      · refine Kn.ok fun fa60 u L fh60 hS hH => ?_
        replace fh60 := fh60.more (show fa60.eval (.tmp 125) = .bool false from hH 10 125 rfl rfl)
        exact Kn.apure fh60 .none (Kn.ex_move fh60 (.tmp rfl)) rfl hS (Below.refl _ _)
      · refine Kn.ok fun fa60 u L fh60 hS hH => ?_
        replace fh60 := fh60.more (show fa60.eval (.tmp 126) = .bool false from hH 11 126 rfl rfl)
        refine Kn.aop fh60 (.some rfl rfl rfl) (Kn.ex_fieldAddr fh60 (.tmp rfl)) fun Ko hKo => ?_
        go_simp
        try go_bits
        exact hKo _ _ rfl hS (Below.refl _ _)
      · refine Kn.ok fun fa60 u L fh60 hS hH => ?_
        replace fh60 := fh60.more (show fa60.eval (.tmp 127) = .pointer (some ⟨g1, 2, none⟩) from hH 12 127 rfl rfl)
        replace fh60 := fh60.more (show fa60.eval (.tmp 126) = .bool false from hH 11 126 rfl rfl)
        have cc := hS.2.1.cell 2 rfl
        refine Kn.aop fh60 (.some rfl rfl rfl) (Kn.ex_load fh60 (.tmp rfl)) fun Ko hKo => ?_
        go_simp
        try go_bits
        exact hKo _ _ rfl hS (Below.refl _ _)
      · refine Kn.ok fun fa60 u L fh60 hS hH => ?_
        replace fh60 := fh60.more (show fa60.eval (.tmp 128) = .int .i64 0 from hH 13 128 rfl rfl)
        replace fh60 := fh60.more (show fa60.eval (.tmp 126) = .bool false from hH 11 126 rfl rfl)
        refine Kn.aop fh60 (.some rfl rfl rfl) (Kn.ex_bin fh60 (.tmp rfl) .const) fun Ko hKo => ?_
        go_simp
        try go_bits
        exact hKo _ _ rfl hS (Below.refl _ _)
      · refine Kn.ok fun fa60 u L fh60 hS hH => ?_
        replace fh60 := fh60.more (show fa60.eval (.tmp 129) = .bool false from hH 14 129 rfl rfl)
        replace fh60 := fh60.more (show fa60.eval (.tmp 126) = .bool false from hH 11 126 rfl rfl)
        exact Kn.apure fh60 (.some rfl rfl rfl) (Kn.ex_move fh60 (.tmp rfl)) rfl hS (Below.refl _ _)
      · refine Kn.ok fun fa60 u L fh60 hS hH => ?_
        replace fh60 := fh60.more (show fa60.eval (.tmp 130) = .bool false from hH 15 130 rfl rfl)
        exact Kn.askip fh60 (.some rfl rfl rfl) rfl
      · refine Kn.ok fun fa60 u L fh60 hS hH => ?_
        replace fh60 := fh60.more (show fa60.eval (.tmp 130) = .bool false from hH 15 130 rfl rfl)
        exact Kn.askip fh60 (.some rfl rfl rfl) rfl
      · refine Kn.ok fun fa60 u L fh60 hS hH => ?_
        replace fh60 := fh60.more (show fa60.eval (.tmp 130) = .bool false from hH 15 130 rfl rfl)
        exact Kn.askip fh60 (.some rfl rfl rfl) rfl
      · refine Kn.ok fun fa60 u L fh60 hS hH => ?_
        replace fh60 := fh60.more (show fa60.eval (.tmp 130) = .bool false from hH 15 130 rfl rfl)
        exact Kn.askip fh60 (.some rfl rfl rfl) rfl
      · refine Kn.ok fun fa60 u L fh60 hS hH => ?_
        replace fh60 := fh60.more (show fa60.eval (.tmp 130) = .bool false from hH 15 130 rfl rfl)
        exact Kn.askip fh60 (.some rfl rfl rfl) rfl
      · refine Kn.ok fun fa60 u L fh60 hS hH => ?_
        replace fh60 := fh60.more (show fa60.eval (.tmp 130) = .bool false from hH 15 130 rfl rfl)
        replace fh60 := fh60.more (show fa60.eval (.tmp 135) = undef from hH 20 135 rfl rfl)
        replace fh60 := fh60.more (show fa60.eval (.tmp 126) = .bool false from hH 11 126 rfl rfl)
        exact Kn.apure fh60 (.some rfl rfl rfl) (Kn.ex_pick fh60 (.tmp rfl) .const) rfl hS (Below.refl _ _)
      · refine Kn.ok fun fa60 u L fh60 hS hH => ?_
        replace fh60 := fh60.more (show fa60.eval (.tmp 126) = .bool false from hH 11 126 rfl rfl)
        replace fh60 := fh60.more (show fa60.eval (.tmp 136) = .bool false from hH 21 136 rfl rfl)
        exact Kn.apure fh60 .none (Kn.ex_pick fh60 (.tmp rfl) (.tmp rfl)) rfl hS (Below.refl _ _)
      · refine Kn.ok fun fa60 u L fh60 hS hH => ?_
        replace fh60 := fh60.more (show fa60.eval (.tmp 137) = .bool false from hH 22 137 rfl rfl)
        exact Kn.apure fh60 .none (Kn.ex_move fh60 (.tmp rfl)) rfl hS (Below.refl _ _)
      · refine Kn.ok fun fa60 u L fh60 hS hH => ?_
        replace fh60 := fh60.more (show fa60.eval (.tmp 138) = .bool false from hH 23 138 rfl rfl)
        exact Kn.apure fh60 (.some rfl rfl rfl) (Kn.ex_move fh60 (.tmp rfl)) rfl hS (Below.refl _ _)
      · refine Kn.ok fun fa60 u L fh60 hS hH => ?_
        replace fh60 := fh60.more (show fa60.eval (.tmp 138) = .bool false from hH 23 138 rfl rfl)
        refine Kn.aop fh60 (.some rfl rfl rfl) (Kn.ex_fieldAddr fh60 (.tmp rfl)) fun Ko hKo => ?_
        go_simp
        try go_bits
        exact hKo _ _ rfl hS (Below.refl _ _)
      · refine Kn.ok fun fa60 u L fh60 hS hH => ?_
        replace fh60 := fh60.more (show fa60.eval (.tmp 140) = .pointer (some ⟨g2, 1, none⟩) from hH 25 140 rfl rfl)
        replace fh60 := fh60.more (show fa60.eval (.tmp 138) = .bool false from hH 23 138 rfl rfl)
        have cc := hS.2.2.1.cell 1 rfl
        refine Kn.aop fh60 (.some rfl rfl rfl) (Kn.ex_load fh60 (.tmp rfl)) fun Ko hKo => ?_
        go_simp
        try go_bits
        exact hKo _ _ rfl hS (Below.refl _ _)
      · refine Kn.ok fun fa60 u L fh60 hS hH => ?_
        replace fh60 := fh60.more (show fa60.eval (.tmp 139) = .int .i64 kn from hH 24 139 rfl rfl)
        replace fh60 := fh60.more (show fa60.eval (.tmp 141) = .int .i64 kn from hH 26 141 rfl rfl)
        replace fh60 := fh60.more (show fa60.eval (.tmp 138) = .bool false from hH 23 138 rfl rfl)
        refine Kn.aop fh60 (.some rfl rfl rfl) (Kn.ex_bin fh60 (.tmp rfl) (.tmp rfl)) fun Ko hKo => ?_
        go_simp
        try go_bits
        exact hKo _ _ rfl hS (Below.refl _ _)
      · refine Kn.ok fun fa60 u L fh60 hS hH => ?_
        replace fh60 := fh60.more (show fa60.eval (.tmp 138) = .bool false from hH 23 138 rfl rfl)
        replace fh60 := fh60.more (show fa60.eval (.tmp 142) = .bool false from hH 27 142 rfl rfl)
        exact Kn.apure fh60 .none (Kn.ex_pick fh60 (.tmp rfl) (.tmp rfl)) rfl hS (Below.refl _ _)
      · refine Kn.ok fun fa60 u L fh60 hS hH => ?_
        replace fh60 := fh60.more (show fa60.eval (.tmp 143) = .bool false from hH 28 143 rfl rfl)
        exact Kn.apure fh60 .none (Kn.ex_move fh60 (.tmp rfl)) rfl hS (Below.refl _ _)
      · refine Kn.ok fun fa60 u L fh60 hS hH => ?_
        replace fh60 := fh60.more (show fa60.eval (.tmp 144) = .bool false from hH 29 144 rfl rfl)
        exact Kn.apure fh60 (.some rfl rfl rfl) (Kn.ex_move fh60 (.tmp rfl)) rfl hS (Below.refl _ _)
      · refine Kn.ok fun fa60 u L fh60 hS hH => ?_
        replace fh60 := fh60.more (show fa60.eval (.tmp 145) = .iface 60 (.agg #[.int .i64 ak, .iface 55 (.int .i64 ek)]) from hH 30 145 rfl rfl)
        replace fh60 := fh60.more (show fa60.eval (.tmp 144) = .bool false from hH 29 144 rfl rfl)
        refine Kn.acall fh60 (.some rfl rfl rfl) (Kn.ex_call fh60 (.cons (.tmp rfl) .nil)) Tryd.call9 (HC.out ek ak _ hS.1) fun e u7 hp => ?_
        obtain ⟨rfl, hb7⟩ := hp
        exact ⟨_, rfl, rfl, (hS.on hb7), hb7⟩
      · refine Kn.ok fun fa60 u L fh60 hS hH => ?_
        replace fh60 := fh60.more (show fa60.eval (.tmp 144) = .bool false from hH 29 144 rfl rfl)
        refine Kn.aop fh60 (.some rfl rfl rfl) (Kn.ex_fieldAddr fh60 (.tmp rfl)) fun Ko hKo => ?_
        go_simp
        try go_bits
        exact hKo _ _ rfl hS (Below.refl _ _)
      · refine Kn.ok fun fa60 u L fh60 hS hH => ?_
        replace fh60 := fh60.more (show fa60.eval (.tmp 147) = .pointer (some ⟨g2, 2, none⟩) from hH 32 147 rfl rfl)
        replace fh60 := fh60.more (show fa60.eval (.tmp 144) = .bool false from hH 29 144 rfl rfl)
        have cc := hS.2.2.1.cell 2 rfl
        refine Kn.aop fh60 (.some rfl rfl rfl) (Kn.ex_load fh60 (.tmp rfl)) fun Ko hKo => ?_
        go_simp
        try go_bits
        exact hKo _ _ rfl hS (Below.refl _ _)
      · refine Kn.ok fun fa60 u L fh60 hS hH => ?_
        replace fh60 := fh60.more (show fa60.eval (.tmp 146) = .int .i64 ek from hH 31 146 rfl rfl)
        replace fh60 := fh60.more (show fa60.eval (.tmp 148) = .int .i64 ek from hH 33 148 rfl rfl)
        replace fh60 := fh60.more (show fa60.eval (.tmp 144) = .bool false from hH 29 144 rfl rfl)
        refine Kn.aop fh60 (.some rfl rfl rfl) (Kn.ex_bin fh60 (.tmp rfl) (.tmp rfl)) fun Ko hKo => ?_
        go_simp
        try go_bits
        exact hKo _ _ rfl hS (Below.refl _ _)
      · refine Kn.ok fun fa60 u L fh60 hS hH => ?_
        replace fh60 := fh60.more (show fa60.eval (.tmp 144) = .bool false from hH 29 144 rfl rfl)
        replace fh60 := fh60.more (show fa60.eval (.tmp 149) = .bool false from hH 34 149 rfl rfl)
        exact Kn.apure fh60 .none (Kn.ex_pick fh60 (.tmp rfl) (.tmp rfl)) rfl hS (Below.refl _ _)
      · refine Kn.ok fun fa60 u L fh60 hS hH => ?_
        replace fh60 := fh60.more (show fa60.eval (.tmp 150) = .bool false from hH 35 150 rfl rfl)
        exact Kn.apure fh60 .none (Kn.ex_move fh60 (.tmp rfl)) rfl hS (Below.refl _ _)
      · refine Kn.ok fun fa60 u L fh60 hS hH => ?_
        replace fh60 := fh60.more (show fa60.eval (.tmp 151) = .bool false from hH 36 151 rfl rfl)
        refine Kn.aop fh60 (.some rfl rfl rfl) (Kn.ex_fieldAddr fh60 (.tmp rfl)) fun Ko hKo => ?_
        go_simp
        try go_bits
        exact hKo _ _ rfl hS (Below.refl _ _)
      · refine Kn.ok fun fa60 u L fh60 hS hH => ?_
        replace fh60 := fh60.more (show fa60.eval (.tmp 152) = .pointer (some ⟨g2, 2, none⟩) from hH 37 152 rfl rfl)
        replace fh60 := fh60.more (show fa60.eval (.tmp 151) = .bool false from hH 36 151 rfl rfl)
        have cc := hS.2.2.1.cell 2 rfl
        refine Kn.aop fh60 (.some rfl rfl rfl) (Kn.ex_load fh60 (.tmp rfl)) fun Ko hKo => ?_
        go_simp
        try go_bits
        exact hKo _ _ rfl hS (Below.refl _ _)
      · refine Kn.ok fun fa60 u L fh60 hS hH => ?_
        replace fh60 := fh60.more (show fa60.eval (.tmp 153) = .int .i64 ek from hH 38 153 rfl rfl)
        replace fh60 := fh60.more (show fa60.eval (.tmp 151) = .bool false from hH 36 151 rfl rfl)
        refine Kn.aop fh60 (.some rfl rfl rfl) (Kn.ex_bin fh60 (.tmp rfl) .const) fun Ko hKo => ?_
        go_simp
        try go_bits
        exact hKo _ _ rfl hS (Below.refl _ _)
      · refine Kn.ok fun fa60 u L fh60 hS hH => ?_
        replace fh60 := fh60.more (show fa60.eval (.tmp 154) = .bool true from hH 39 154 rfl rfl)
        replace fh60 := fh60.more (show fa60.eval (.tmp 151) = .bool false from hH 36 151 rfl rfl)
        exact Kn.apure fh60 (.some rfl rfl rfl) (Kn.ex_move fh60 (.tmp rfl)) rfl hS (Below.refl _ _)
      · refine Kn.ok fun fa60 u L fh60 hS hH => ?_
        replace fh60 := fh60.more (show fa60.eval (.tmp 155) = .bool true from hH 40 155 rfl rfl)
        exact Kn.apure fh60 (.some rfl rfl rfl) (Kn.ex_move fh60 (.tmp rfl)) rfl hS (Below.refl _ _)
      · refine Kn.ok fun fa60 u L fh60 hS hH => ?_
        replace fh60 := fh60.more (show fa60.eval (.tmp 156) = .iface 60 (.agg #[.int .i64 ak, .iface 55 (.int .i64 ek)]) from hH 41 156 rfl rfl)
        replace fh60 := fh60.more (show fa60.eval (.tmp 155) = .bool true from hH 40 155 rfl rfl)
        refine Kn.acall fh60 (.some rfl rfl rfl) (Kn.ex_call fh60 (.cons (.tmp rfl) .nil)) Tryd.call10 (HP.out ek ak _ hS.1) fun e u7 hp => ?_
        obtain ⟨rfl, hb7⟩ := hp
        exact ⟨_, rfl, rfl, (hS.on hb7), hb7⟩
      · refine Kn.ok fun fa60 u L fh60 hS hH => ?_
        replace fh60 := fh60.more (show fa60.eval (.tmp 155) = .bool true from hH 40 155 rfl rfl)
        refine Kn.aop fh60 (.some rfl rfl rfl) (Kn.ex_fieldAddr fh60 (.tmp rfl)) fun Ko hKo => ?_
        go_simp
        try go_bits
        exact hKo _ _ rfl hS (Below.refl _ _)
      · refine Kn.ok fun fa60 u L fh60 hS hH => ?_
        replace fh60 := fh60.more (show fa60.eval (.tmp 158) = .pointer (some ⟨g2, 3, none⟩) from hH 43 158 rfl rfl)
        replace fh60 := fh60.more (show fa60.eval (.tmp 155) = .bool true from hH 40 155 rfl rfl)
        have cc := hS.2.2.1.cell 3 rfl
        refine Kn.aop fh60 (.some rfl rfl rfl) (Kn.ex_load fh60 (.tmp rfl)) fun Ko hKo => ?_
        go_simp
        try go_bits
        exact hKo _ _ rfl hS (Below.refl _ _)
      · refine Kn.ok fun fa60 u L fh60 hS hH => ?_
        replace fh60 := fh60.more (show fa60.eval (.tmp 157) = .int .i64 ak from hH 42 157 rfl rfl)
        replace fh60 := fh60.more (show fa60.eval (.tmp 159) = .int .i64 ak from hH 44 159 rfl rfl)
        replace fh60 := fh60.more (show fa60.eval (.tmp 155) = .bool true from hH 40 155 rfl rfl)
        refine Kn.aop fh60 (.some rfl rfl rfl) (Kn.ex_bin fh60 (.tmp rfl) (.tmp rfl)) fun Ko hKo => ?_
        go_simp
        try go_bits
        exact hKo _ _ rfl hS (Below.refl _ _)
      · refine Kn.ok fun fa60 u L fh60 hS hH => ?_
        replace fh60 := fh60.more (show fa60.eval (.tmp 155) = .bool true from hH 40 155 rfl rfl)
        replace fh60 := fh60.more (show fa60.eval (.tmp 160) = .bool false from hH 45 160 rfl rfl)
        replace fh60 := fh60.more (show fa60.eval (.tmp 151) = .bool false from hH 36 151 rfl rfl)
        exact Kn.apure fh60 (.some rfl rfl rfl) (Kn.ex_pick fh60 (.tmp rfl) (.tmp rfl)) rfl hS (Below.refl _ _)
      · refine Kn.ok fun fa60 u L fh60 hS hH => ?_
        replace fh60 := fh60.more (show fa60.eval (.tmp 151) = .bool false from hH 36 151 rfl rfl)
        replace fh60 := fh60.more (show fa60.eval (.tmp 161) = .bool false from hH 46 161 rfl rfl)
        exact Kn.apure fh60 .none (Kn.ex_pick fh60 (.tmp rfl) (.tmp rfl)) rfl hS (Below.refl _ _)
      intro fa60 u6 fh60 hS hT
      clear fh59 fa59
      replace fh60 := fh60.more (show fa60.eval (.tmp 162) = .bool false from hT 47 162 rfl)
      clear hT
      refine hK14 _ _ ?_
      clear hK14 K14
      replace fh60 := fh60.cut (.cons (t := 162) rfl (.cons (t := 11) rfl (.cons (t := 10) rfl (.cons (t := 9) rfl (.cons (t := 8) rfl (.cons (t := 7) rfl (.cons (t := 0) rfl (.cons (t := 1) rfl .nil))))))))
      refine Kn.no fh60 (.tmp rfl) ?_
      refine wp_skip ?_
      replace fh60 := fh60.cut (.cons (t := 11) rfl (.cons (t := 10) rfl (.cons (t := 9) rfl (.cons (t := 8) rfl (.cons (t := 7) rfl (.cons (t := 0) rfl (.cons (t := 1) rfl .nil)))))))
      exact ⟨fh60.cut (.cons (t := 9) rfl (.cons (t := 10) rfl (.cons (t := 11) rfl (.cons (t := 0) rfl (.cons (t := 1) rfl (.cons (t := 7) rfl (.cons (t := 8) rfl .nil))))))), Lib.hid hS.1, Lib.hid hS.2.2.2.1, Lib.hid hS.2.2.2.2⟩
    by_cases hek : ek = 0
    · have qec : (ec != 0) = true := by simp [hec]
      rw [gE_e hec] at fh59
      clear hec
      subst hek
      rw [gE_0] at fh59
      refine wp_seq_k fun K14 hK14 => ?_
      refine Kn.any (SP w N p v r vL nxt vE g1 g2 #[.int .i64 x, .int .i64 nx, .int .i64 ec, .int .i64 ac] #[.slice none 0 0, .int .i64 kn, .int .i64 0, .int .i64 ak]) (fun u u' => Below u.heap.size u u') (Kn.TL [Kn.Is (.int .i64 x), Kn.Is (.pointer (some ⟨g1, 0, none⟩)), Kn.Is (.int .i64 x), Kn.Is (.bool false), Kn.Is (.bool false), Kn.Is (.iface 60 (.agg #[.int .i64 ac, .iface 55 (.int .i64 ec)])), Kn.Is (.int .i64 ec), Kn.Is (.pointer (some ⟨g1, 2, none⟩)), Kn.Is (.int .i64 ec), Kn.Is (.bool false), Kn.Is (.bool false), Kn.Is (.bool false), Kn.Is (.pointer (some ⟨g1, 2, none⟩)), Kn.Is (.int .i64 ec), Kn.Is (.bool true), Kn.Is (.bool true), Kn.Is (.iface 60 (.agg #[.int .i64 ac, .iface 55 (.int .i64 ec)])), Kn.Is (.int .i64 ac), Kn.Is (.pointer (some ⟨g1, 3, none⟩)), Kn.Is (.int .i64 ac), Kn.Is (.bool false), Kn.Is (.bool false), Kn.Is (.bool false), Kn.Is (.bool false), Kn.Is (.int .i64 kn), Kn.Is (.pointer (some ⟨g2, 1, none⟩)), Kn.Is (.int .i64 kn), Kn.Is (.bool false), Kn.Is (.bool false), Kn.Is (.bool false), Kn.Is (.nilIface), Kn.Is (.int .i64 0), Kn.Is (.pointer (some ⟨g2, 2, none⟩)), Kn.Is (.int .i64 0), Kn.Is (.bool false), Kn.Is (.bool false), Kn.Is (.bool false), Kn.Is (.pointer (some ⟨g2, 2, none⟩)), Kn.Is (.int .i64 0), Kn.Is (.bool false), Kn.Is (.bool false), Kn.Is (undef), Kn.Is (undef), Kn.Is (undef), Kn.Is (undef), Kn.Is (undef), Kn.Is (.bool false), Kn.Is (.bool false)]) (by kernel_rfl) fh59 (by kernel_rfl) (by kernel_rfl) rfl (Kn.Keeps.all (.cons Kn.Is.keep (.cons Kn.Is.keep (.cons Kn.Is.keep (.cons Kn.Is.keep (.cons Kn.Is.keep (.cons Kn.Is.keep (.cons Kn.Is.keep (.cons Kn.Is.keep (.cons Kn.Is.keep (.cons Kn.Is.keep (.cons Kn.Is.keep (.cons Kn.Is.keep (.cons Kn.Is.keep (.cons Kn.Is.keep (.cons Kn.Is.keep (.cons Kn.Is.keep (.cons Kn.Is.keep (.cons Kn.Is.keep (.cons Kn.Is.keep (.cons Kn.Is.keep (.cons Kn.Is.keep (.cons Kn.Is.keep (.cons Kn.Is.keep (.cons Kn.Is.keep (.cons Kn.Is.keep (.cons Kn.Is.keep (.cons Kn.Is.keep (.cons Kn.Is.keep (.cons Kn.Is.keep (.cons Kn.Is.keep (.cons Kn.Is.keep (.cons Kn.Is.keep (.cons Kn.Is.keep (.cons Kn.Is.keep (.cons Kn.Is.keep (.cons Kn.Is.keep (.cons Kn.Is.keep (.cons Kn.Is.keep (.cons Kn.Is.keep (.cons Kn.Is.keep (.cons Kn.Is.keep (.cons Kn.Is.keep (.cons Kn.Is.keep (.cons Kn.Is.keep (.cons Kn.Is.keep (.cons Kn.Is.keep (.cons Kn.Is.keep (.cons Kn.Is.keep .nil))))))))))))))))))))))))))))))))))))))))))))))))) HSP.out.drew ⟨?_, ?_, ?_, ?_, ?_, ?_, ?_, ?_, ?_, ?_, ?_, ?_, ?_, ?_, ?_, ?_, ?_, ?_, ?_, ?_, ?_, ?_, ?_, ?_, ?_, ?_, ?_, ?_, ?_, ?_, ?_, ?_, ?_, ?_, ?_, ?_, ?_, ?_, ?_, ?_, ?_, ?_, ?_, ?_, ?_, ?_, ?_, ?_, trivial⟩ ?_
      · refine Kn.ok fun fa60 u L fh60 hS hH => ?_
        exact Kn.apure fh60 .none (Kn.ex_move fh60 (.tmp rfl)) rfl hS (Below.refl _ _)
      · refine Kn.ok fun fa60 u L fh60 hS hH => ?_
        refine Kn.aop fh60 .none (Kn.ex_fieldAddr fh60 (.tmp rfl)) fun Ko hKo => ?_
        go_simp
        try go_bits
        exact hKo _ _ rfl hS (Below.refl _ _)
      · refine Kn.ok fun fa60 u L fh60 hS hH => ?_
        replace fh60 := fh60.more (show fa60.eval (.tmp 116) = .pointer (some ⟨g1, 0, none⟩) from hH 1 116 rfl rfl)
        have cc := hS.2.1.cell 0 rfl
        refine Kn.aop fh60 .none (Kn.ex_load fh60 (.tmp rfl)) fun Ko hKo => ?_
        go_simp
        try go_bits
        exact hKo _ _ rfl hS (Below.refl _ _)
      · refine Kn.ok fun fa60 u L fh60 hS hH => ?_
        replace fh60 := fh60.more (show fa60.eval (.tmp 115) = .int .i64 x from hH 0 115 rfl rfl)
        replace fh60 := fh60.more (show fa60.eval (.tmp 117) = .int .i64 x from hH 2 117 rfl rfl)
        refine Kn.aop fh60 .none (Kn.ex_bin fh60 (.tmp rfl) (.tmp rfl)) fun Ko hKo => ?_
        go_simp
        try go_bits
        exact hKo _ _ rfl hS (Below.refl _ _)
      · refine Kn.ok fun fa60 u L fh60 hS hH => ?_
        replace fh60 := fh60.more (show fa60.eval (.tmp 118) = .bool false from hH 3 118 rfl rfl)
        exact Kn.apure fh60 .none (Kn.ex_move fh60 (.tmp rfl)) rfl hS (Below.refl _ _)
      · refine Kn.ok fun fa60 u L fh60 hS hH => ?_
        replace fh60 := fh60.more (show fa60.eval (.tmp 119) = .bool false from hH 4 119 rfl rfl)
        exact Kn.apure fh60 (.some rfl rfl rfl) (Kn.ex_move fh60 (.tmp rfl)) rfl hS (Below.refl _ _)
      · refine Kn.ok fun fa60 u L fh60 hS hH => ?_
        replace fh60 := fh60.more (show fa60.eval (.tmp 120) = .iface 60 (.agg #[.int .i64 ac, .iface 55 (.int .i64 ec)]) from hH 5 120 rfl rfl)
        replace fh60 := fh60.more (show fa60.eval (.tmp 119) = .bool false from hH 4 119 rfl rfl)
        refine Kn.acall fh60 (.some rfl rfl rfl) (Kn.ex_call fh60 (.cons (.tmp rfl) .nil)) Tryd.call9 (HC.out ec ac _ hS.1) fun e u7 hp => ?_
        obtain ⟨rfl, hb7⟩ := hp
        exact ⟨_, rfl, rfl, (hS.on hb7), hb7⟩
      · refine Kn.ok fun fa60 u L fh60 hS hH => ?_
        replace fh60 := fh60.more (show fa60.eval (.tmp 119) = .bool false from hH 4 119 rfl rfl)
        refine Kn.aop fh60 (.some rfl rfl rfl) (Kn.ex_fieldAddr fh60 (.tmp rfl)) fun Ko hKo => ?_
        go_simp
        try go_bits
        exact hKo _ _ rfl hS (Below.refl _ _)
      · refine Kn.ok fun fa60 u L fh60 hS hH => ?_
        replace fh60 := fh60.more (show fa60.eval (.tmp 122) = .pointer (some ⟨g1, 2, none⟩) from hH 7 122 rfl rfl)
        replace fh60 := fh60.more (show fa60.eval (.tmp 119) = .bool false from hH 4 119 rfl rfl)
        have cc := hS.2.1.cell 2 rfl
        refine Kn.aop fh60 (.some rfl rfl rfl) (Kn.ex_load fh60 (.tmp rfl)) fun Ko hKo => ?_
        go_simp
        try go_bits
        exact hKo _ _ rfl hS (Below.refl _ _)
      · refine Kn.ok fun fa60 u L fh60 hS hH => ?_
        replace fh60 := fh60.more (show fa60.eval (.tmp 121) = .int .i64 ec from hH 6 121 rfl rfl)
        replace fh60 := fh60.more (show fa60.eval (.tmp 123) = .int .i64 ec from hH 8 123 rfl rfl)
        replace fh60 := fh60.more (show fa60.eval (.tmp 119) = .bool false from hH 4 119 rfl rfl)
        refine Kn.aop fh60 (.some rfl rfl rfl) (Kn.ex_bin fh60 (.tmp rfl) (.tmp rfl)) fun Ko hKo => ?_
        go_simp
        try go_bits
        exact hKo _ _ rfl hS (Below.refl _ _)
      · refine Kn.ok fun fa60 u L fh60 hS hH => ?_
        replace fh60 := fh60.more (show fa60.eval (.tmp 119) = .bool false from hH 4 119 rfl rfl)
        replace fh60 := fh60.more (show fa60.eval (.tmp 124) = .bool false from hH 9 124 rfl rfl)
        exact Kn.apure fh60 .none (Kn.ex_pick fh60 (.tmp rfl) (.tmp rfl)) rfl hS (Below.refl _ _)
      · refine Kn.ok fun fa60 u L fh60 hS hH => ?_
        replace fh60 := fh60.more (show fa60.eval (.tmp 125) = .bool false from hH 10 125 rfl rfl)
        exact Kn.apure fh60 .none (Kn.ex_move fh60 (.tmp rfl)) rfl hS (Below.refl _ _)
      · refine Kn.ok fun fa60 u L fh60 hS hH => ?_
        replace fh60 := fh60.more (show fa60.eval (.tmp 126) = .bool false from hH 11 126 rfl rfl)
        refine Kn.aop fh60 (.some rfl rfl rfl) (Kn.ex_fieldAddr fh60 (.tmp rfl)) fun Ko hKo => ?_
        go_simp
        try go_bits
        exact hKo _ _ rfl hS (Below.refl _ _)
      · refine Kn.ok fun fa60 u L fh60 hS hH => ?_
        replace fh60 := fh60.more (show fa60.eval (.tmp 127) = .pointer (some ⟨g1, 2, none⟩) from hH 12 127 rfl rfl)
        replace fh60 := fh60.more (show fa60.eval (.tmp 126) = .bool false from hH 11 126 rfl rfl)
        have cc := hS.2.1.cell 2 rfl
        refine Kn.aop fh60 (.some rfl rfl rfl) (Kn.ex_load fh60 (.tmp rfl)) fun Ko hKo => ?_
        go_simp
        try go_bits
        exact hKo _ _ rfl hS (Below.refl _ _)
      · refine Kn.ok fun fa60 u L fh60 hS hH => ?_
        replace fh60 := fh60.more (show fa60.eval (.tmp 128) = .int .i64 ec from hH 13 128 rfl rfl)
        replace fh60 := fh60.more (show fa60.eval (.tmp 126) = .bool false from hH 11 126 rfl rfl)
        refine Kn.aop fh60 (.some rfl rfl rfl) (Kn.ex_bin fh60 (.tmp rfl) .const) fun Ko hKo => ?_
        go_simp
        try go_bits
        exact hKo _ _ rfl hS (Below.refl _ _)
      · refine Kn.ok fun fa60 u L fh60 hS hH => ?_
        replace fh60 := fh60.more (show fa60.eval (.tmp 129) = .bool true from hH 14 129 rfl rfl)
        replace fh60 := fh60.more (show fa60.eval (.tmp 126) = .bool false from hH 11 126 rfl rfl)
        exact Kn.apure fh60 (.some rfl rfl rfl) (Kn.ex_move fh60 (.tmp rfl)) rfl hS (Below.refl _ _)
      · refine Kn.ok fun fa60 u L fh60 hS hH => ?_
        replace fh60 := fh60.more (show fa60.eval (.tmp 130) = .bool true from hH 15 130 rfl rfl)
        exact Kn.apure fh60 (.some rfl rfl rfl) (Kn.ex_move fh60 (.tmp rfl)) rfl hS (Below.refl _ _)
      · refine Kn.ok fun fa60 u L fh60 hS hH => ?_
        replace fh60 := fh60.more (show fa60.eval (.tmp 131) = .iface 60 (.agg #[.int .i64 ac, .iface 55 (.int .i64 ec)]) from hH 16 131 rfl rfl)
        replace fh60 := fh60.more (show fa60.eval (.tmp 130) = .bool true from hH 15 130 rfl rfl)
        refine Kn.acall fh60 (.some rfl rfl rfl) (Kn.ex_call fh60 (.cons (.tmp rfl) .nil)) Tryd.call10 (HP.out ec ac _ hS.1) fun e u7 hp => ?_
        obtain ⟨rfl, hb7⟩ := hp
        exact ⟨_, rfl, rfl, (hS.on hb7), hb7⟩
      · refine Kn.ok fun fa60 u L fh60 hS hH => ?_
        replace fh60 := fh60.more (show fa60.eval (.tmp 130) = .bool true from hH 15 130 rfl rfl)
        refine Kn.aop fh60 (.some rfl rfl rfl) (Kn.ex_fieldAddr fh60 (.tmp rfl)) fun Ko hKo => ?_
        go_simp
        try go_bits
        exact hKo _ _ rfl hS (Below.refl _ _)
      · refine Kn.ok fun fa60 u L fh60 hS hH => ?_
        replace fh60 := fh60.more (show fa60.eval (.tmp 133) = .pointer (some ⟨g1, 3, none⟩) from hH 18 133 rfl rfl)
        replace fh60 := fh60.more (show fa60.eval (.tmp 130) = .bool true from hH 15 130 rfl rfl)
        have cc := hS.2.1.cell 3 rfl
        refine Kn.aop fh60 (.some rfl rfl rfl) (Kn.ex_load fh60 (.tmp rfl)) fun Ko hKo => ?_
        go_simp
        try go_bits
        exact hKo _ _ rfl hS (Below.refl _ _)
      · refine Kn.ok fun fa60 u L fh60 hS hH => ?_
        replace fh60 := fh60.more (show fa60.eval (.tmp 132) = .int .i64 ac from hH 17 132 rfl rfl)
        replace fh60 := fh60.more (show fa60.eval (.tmp 134) = .int .i64 ac from hH 19 134 rfl rfl)
        replace fh60 := fh60.more (show fa60.eval (.tmp 130) = .bool true from hH 15 130 rfl rfl)
        refine Kn.aop fh60 (.some rfl rfl rfl) (Kn.ex_bin fh60 (.tmp rfl) (.tmp rfl)) fun Ko hKo => ?_
        go_simp
        try go_bits
        exact hKo _ _ rfl hS (Below.refl _ _)
      · refine Kn.ok fun fa60 u L fh60 hS hH => ?_
        replace fh60 := fh60.more (show fa60.eval (.tmp 130) = .bool true from hH 15 130 rfl rfl)
        replace fh60 := fh60.more (show fa60.eval (.tmp 135) = .bool false from hH 20 135 rfl rfl)
        replace fh60 := fh60.more (show fa60.eval (.tmp 126) = .bool false from hH 11 126 rfl rfl)
        exact Kn.apure fh60 (.some rfl rfl rfl) (Kn.ex_pick fh60 (.tmp rfl) (.tmp rfl)) rfl hS (Below.refl _ _)
      · refine Kn.ok fun fa60 u L fh60 hS hH => ?_
        replace fh60 := fh60.more (show fa60.eval (.tmp 126) = .bool false from hH 11 126 rfl rfl)
        replace fh60 := fh60.more (show fa60.eval (.tmp 136) = .bool false from hH 21 136 rfl rfl)
        exact Kn.apure fh60 .none (Kn.ex_pick fh60 (.tmp rfl) (.tmp rfl)) rfl hS (Below.refl _ _)
      · refine Kn.ok fun fa60 u L fh60 hS hH => ?_
        replace fh60 := fh60.more (show fa60.eval (.tmp 137) = .bool false from hH 22 137 rfl rfl)
        exact Kn.apure fh60 .none (Kn.ex_move fh60 (.tmp rfl)) rfl hS (Below.refl _ _)
      · refine Kn.ok fun fa60 u L fh60 hS hH => ?_
        replace fh60 := fh60.more (show fa60.eval (.tmp 138) = .bool false from hH 23 138 rfl rfl)
        exact Kn.apure fh60 (.some rfl rfl rfl) (Kn.ex_move fh60 (.tmp rfl)) rfl hS (Below.refl _ _)
      · refine Kn.ok fun fa60 u L fh60 hS hH => ?_
        replace fh60 := fh60.more (show fa60.eval (.tmp 138) = .bool false from hH 23 138 rfl rfl)
        refine Kn.aop fh60 (.some rfl rfl rfl) (Kn.ex_fieldAddr fh60 (.tmp rfl)) fun Ko hKo => ?_
        go_simp
        try go_bits
        exact hKo _ _ rfl hS (Below.refl _ _)
      · refine Kn.ok fun fa60 u L fh60 hS hH => ?_
        replace fh60 := fh60.more (show fa60.eval (.tmp 140) = .pointer (some ⟨g2, 1, none⟩) from hH 25 140 rfl rfl)
        replace fh60 := fh60.more (show fa60.eval (.tmp 138) = .bool false from hH 23 138 rfl rfl)
        have cc := hS.2.2.1.cell 1 rfl
        refine Kn.aop fh60 (.some rfl rfl rfl) (Kn.ex_load fh60 (.tmp rfl)) fun Ko hKo => ?_
        go_simp
        try go_bits
        exact hKo _ _ rfl hS (Below.refl _ _)
      · refine Kn.ok fun fa60 u L fh60 hS hH => ?_
        replace fh60 := fh60.more (show fa60.eval (.tmp 139) = .int .i64 kn from hH 24 139 rfl rfl)
        replace fh60 := fh60.more (show fa60.eval (.tmp 141) = .int .i64 kn from hH 26 141 rfl rfl)
        replace fh60 := fh60.more (show fa60.eval (.tmp 138) = .bool false from hH 23 138 rfl rfl)
        refine Kn.aop fh60 (.some rfl rfl rfl) (Kn.ex_bin fh60 (.tmp rfl) (.tmp rfl)) fun Ko hKo => ?_
        go_simp
        try go_bits
        exact hKo _ _ rfl hS (Below.refl _ _)
      · refine Kn.ok fun fa60 u L fh60 hS hH => ?_
        replace fh60 := fh60.more (show fa60.eval (.tmp 138) = .bool false from hH 23 138 rfl rfl)
        replace fh60 := fh60.more (show fa60.eval (.tmp 142) = .bool false from hH 27 142 rfl rfl)
        exact Kn.apure fh60 .none (Kn.ex_pick fh60 (.tmp rfl) (.tmp rfl)) rfl hS (Below.refl _ _)
      · refine Kn.ok fun fa60 u L fh60 hS hH => ?_
        replace fh60 := fh60.more (show fa60.eval (.tmp 143) = .bool false from hH 28 143 rfl rfl)
        exact Kn.apure fh60 .none (Kn.ex_move fh60 (.tmp rfl)) rfl hS (Below.refl _ _)
      · refine Kn.ok fun fa60 u L fh60 hS hH => ?_
        replace fh60 := fh60.more (show fa60.eval (.tmp 144) = .bool false from hH 29 144 rfl rfl)
        exact Kn.apure fh60 (.some rfl rfl rfl) (Kn.ex_move fh60 (.tmp rfl)) rfl hS (Below.refl _ _)
      · refine Kn.ok fun fa60 u L fh60 hS hH => ?_
        replace fh60 := fh60.more (show fa60.eval (.tmp 145) = .nilIface from hH 30 145 rfl rfl)
        replace fh60 := fh60.more (show fa60.eval (.tmp 144) = .bool false from hH 29 144 rfl rfl)
        refine Kn.acall fh60 (.some rfl rfl rfl) (Kn.ex_call fh60 (.cons (.tmp rfl) .nil)) Tryd.call9 (HCn.out _) fun e u7 hp => ?_
        obtain ⟨rfl, hb7⟩ := hp
        exact ⟨_, rfl, rfl, (hS.on hb7), hb7⟩
      · refine Kn.ok fun fa60 u L fh60 hS hH => ?_
        replace fh60 := fh60.more (show fa60.eval (.tmp 144) = .bool false from hH 29 144 rfl rfl)
        refine Kn.aop fh60 (.some rfl rfl rfl) (Kn.ex_fieldAddr fh60 (.tmp rfl)) fun Ko hKo => ?_
        go_simp
        try go_bits
        exact hKo _ _ rfl hS (Below.refl _ _)
      · refine Kn.ok fun fa60 u L fh60 hS hH => ?_
        replace fh60 := fh60.more (show fa60.eval (.tmp 147) = .pointer (some ⟨g2, 2, none⟩) from hH 32 147 rfl rfl)
        replace fh60 := fh60.more (show fa60.eval (.tmp 144) = .bool false from hH 29 144 rfl rfl)
        have cc := hS.2.2.1.cell 2 rfl
        refine Kn.aop fh60 (.some rfl rfl rfl) (Kn.ex_load fh60 (.tmp rfl)) fun Ko hKo => ?_
        go_simp
        try go_bits
        exact hKo _ _ rfl hS (Below.refl _ _)
      · refine Kn.ok fun fa60 u L fh60 hS hH => ?_
        replace fh60 := fh60.more (show fa60.eval (.tmp 146) = .int .i64 0 from hH 31 146 rfl rfl)
        replace fh60 := fh60.more (show fa60.eval (.tmp 148) = .int .i64 0 from hH 33 148 rfl rfl)
        replace fh60 := fh60.more (show fa60.eval (.tmp 144) = .bool false from hH 29 144 rfl rfl)
        refine Kn.aop fh60 (.some rfl rfl rfl) (Kn.ex_bin fh60 (.tmp rfl) (.tmp rfl)) fun Ko hKo => ?_
        go_simp
        try go_bits
        exact hKo _ _ rfl hS (Below.refl _ _)
      · refine Kn.ok fun fa60 u L fh60 hS hH => ?_
        replace fh60 := fh60.more (show fa60.eval (.tmp 144) = .bool false from hH 29 144 rfl rfl)
        replace fh60 := fh60.more (show fa60.eval (.tmp 149) = .bool false from hH 34 149 rfl rfl)
        exact Kn.apure fh60 .none (Kn.ex_pick fh60 (.tmp rfl) (.tmp rfl)) rfl hS (Below.refl _ _)
      · refine Kn.ok fun fa60 u L fh60 hS hH => ?_
        replace fh60 := fh60.more (show fa60.eval (.tmp 150) = .bool false from hH 35 150 rfl rfl)
        exact Kn.apure fh60 .none (Kn.ex_move fh60 (.tmp rfl)) rfl hS (Below.refl _ _)
      · refine Kn.ok fun fa60 u L fh60 hS hH => ?_
        replace fh60 := fh60.more (show fa60.eval (.tmp 151) = .bool false from hH 36 151 rfl rfl)
        refine Kn.aop fh60 (.some rfl rfl rfl) (Kn.ex_fieldAddr fh60 (.tmp rfl)) fun Ko hKo => ?_
        go_simp
        try go_bits
        exact hKo _ _ rfl hS (Below.refl _ _)
      · refine Kn.ok fun fa60 u L fh60 hS hH => ?_
        replace fh60 := fh60.more (show fa60.eval (.tmp 152) = .pointer (some ⟨g2, 2, none⟩) from hH 37 152 rfl rfl)
        replace fh60 := fh60.more (show fa60.eval (.tmp 151) = .bool false from hH 36 151 rfl rfl)
        have cc := hS.2.2.1.cell 2 rfl
        refine Kn.aop fh60 (.some rfl rfl rfl) (Kn.ex_load fh60 (.tmp rfl)) fun Ko hKo => ?_
        go_simp
        try go_bits
        exact hKo _ _ rfl hS (Below.refl _ _)
      · refine Kn.ok fun fa60 u L fh60 hS hH => ?_
        replace fh60 := fh60.more (show fa60.eval (.tmp 153) = .int .i64 0 from hH 38 153 rfl rfl)
        replace fh60 := fh60.more (show fa60.eval (.tmp 151) = .bool false from hH 36 151 rfl rfl)
        refine Kn.aop fh60 (.some rfl rfl rfl) (Kn.ex_bin fh60 (.tmp rfl) .const) fun Ko hKo => ?_
        go_simp
        try go_bits
        exact hKo _ _ rfl hS (Below.refl _ _)
      · refine Kn.ok fun fa60 u L fh60 hS hH => ?_
        replace fh60 := fh60.more (show fa60.eval (.tmp 154) = .bool false from hH 39 154 rfl rfl)
        replace fh60 := fh60.more (show fa60.eval (.tmp 151) = .bool false from hH 36 151 rfl rfl)
        exact Kn.apure fh60 (.some rfl rfl rfl) (Kn.ex_move fh60 (.tmp rfl)) rfl hS (Below.refl _ _)
      · refine Kn.ok fun fa60 u L fh60 hS hH => ?_
        replace fh60 := fh60.more (show fa60.eval (.tmp 155) = .bool false from hH 40 155 rfl rfl)
        exact Kn.askip fh60 (.some rfl rfl rfl) rfl
      · refine Kn.ok fun fa60 u L fh60 hS hH => ?_
        replace fh60 := fh60.more (show fa60.eval (.tmp 155) = .bool false from hH 40 155 rfl rfl)
        exact Kn.askip fh60 (.some rfl rfl rfl) rfl
      · refine Kn.ok fun fa60 u L fh60 hS hH => ?_
        replace fh60 := fh60.more (show fa60.eval (.tmp 155) = .bool false from hH 40 155 rfl rfl)
        exact Kn.askip fh60 (.some rfl rfl rfl) rfl
      · refine Kn.ok fun fa60 u L fh60 hS hH => ?_
        replace fh60 := fh60.more (show fa60.eval (.tmp 155) = .bool false from hH 40 155 rfl rfl)
        exact Kn.askip fh60 (.some rfl rfl rfl) rfl
      · refine Kn.ok fun fa60 u L fh60 hS hH => ?_
        replace fh60 := fh60.more (show fa60.eval (.tmp 155) = .bool false from hH 40 155 rfl rfl)
        exact Kn.askip fh60 (.some rfl rfl rfl) rfl
      · refine Kn.ok fun fa60 u L fh60 hS hH => ?_
        replace fh60 := fh60.more (show fa60.eval (.tmp 155) = .bool false from hH 40 155 rfl rfl)
        replace fh60 := fh60.more (show fa60.eval (.tmp 160) = undef from hH 45 160 rfl rfl)
        replace fh60 := fh60.more (show fa60.eval (.tmp 151) = .bool false from hH 36 151 rfl rfl)
        exact Kn.apure fh60 (.some rfl rfl rfl) (Kn.ex_pick fh60 (.tmp rfl) .const) rfl hS (Below.refl _ _)
      · refine Kn.ok fun fa60 u L fh60 hS hH => ?_
        replace fh60 := fh60.more (show fa60.eval (.tmp 151) = .bool false from hH 36 151 rfl rfl)
        replace fh60 := fh60.more (show fa60.eval (.tmp 161) = .bool false from hH 46 161 rfl rfl)
        exact Kn.apure fh60 .none (Kn.ex_pick fh60 (.tmp rfl) (.tmp rfl)) rfl hS (Below.refl _ _)
      intro fa60 u6 fh60 hS hT
      clear fh59 fa59
      replace fh60 := fh60.more (show fa60.eval (.tmp 162) = .bool false from hT 47 162 rfl)
      clear hT
      refine hK14 _ _ ?_
      clear hK14 K14
      replace fh60 := fh60.cut (.cons (t := 162) rfl (.cons (t := 11) rfl (.cons (t := 10) rfl (.cons (t := 9) rfl (.cons (t := 8) rfl (.cons (t := 7) rfl (.cons (t := 0) rfl (.cons (t := 1) rfl .nil))))))))
      refine Kn.no fh60 (.tmp rfl) ?_
      refine wp_skip ?_
      replace fh60 := fh60.cut (.cons (t := 11) rfl (.cons (t := 10) rfl (.cons (t := 9) rfl (.cons (t := 8) rfl (.cons (t := 7) rfl (.cons (t := 0) rfl (.cons (t := 1) rfl .nil)))))))
      exact ⟨fh60.cut (.cons (t := 9) rfl (.cons (t := 10) rfl (.cons (t := 11) rfl (.cons (t := 0) rfl (.cons (t := 1) rfl (.cons (t := 7) rfl (.cons (t := 8) rfl .nil))))))), Lib.hid hS.1, Lib.hid hS.2.2.2.1, Lib.hid hS.2.2.2.2⟩
    have qec : (ec != 0) = true := by simp [hec]
    rw [gE_e hec] at fh59
    clear hec
    have qek : (ek != 0) = true := by simp [hek]
    rw [gE_e hek] at fh59
    clear hek
    refine wp_seq_k fun K14 hK14 => ?_
    refine Kn.any (SP w N p v r vL nxt vE g1 g2 #[.int .i64 x, .int .i64 nx, .int .i64 ec, .int .i64 ac] #[.slice none 0 0, .int .i64 kn, .int .i64 ek, .int .i64 ak]) (fun u u' => Below u.heap.size u u') (Kn.TL [Kn.Is (.int .i64 x), Kn.Is (.pointer (some ⟨g1, 0, none⟩)), Kn.Is (.int .i64 x), Kn.Is (.bool false), Kn.Is (.bool false), Kn.Is (.iface 60 (.agg #[.int .i64 ac, .iface 55 (.int .i64 ec)])), Kn.Is (.int .i64 ec), Kn.Is (.pointer (some ⟨g1, 2, none⟩)), Kn.Is (.int .i64 ec), Kn.Is (.bool false), Kn.Is (.bool false), Kn.Is (.bool false), Kn.Is (.pointer (some ⟨g1, 2, none⟩)), Kn.Is (.int .i64 ec), Kn.Is (.bool true), Kn.Is (.bool true), Kn.Is (.iface 60 (.agg #[.int .i64 ac, .iface 55 (.int .i64 ec)])), Kn.Is (.int .i64 ac), Kn.Is (.pointer (some ⟨g1, 3, none⟩)), Kn.Is (.int .i64 ac), Kn.Is (.bool false), Kn.Is (.bool false), Kn.Is (.bool false), Kn.Is (.bool false), Kn.Is (.int .i64 kn), Kn.Is (.pointer (some ⟨g2, 1, none⟩)), Kn.Is (.int .i64 kn), Kn.Is (.bool false), Kn.Is (.bool false), Kn.Is (.bool false), Kn.Is (.iface 60 (.agg #[.int .i64 ak, .iface 55 (.int .i64 ek)])), Kn.Is (.int .i64 ek), Kn.Is (.pointer (some ⟨g2, 2, none⟩)), Kn.Is (.int .i64 ek), Kn.Is (.bool false), Kn.Is (.bool false), Kn.Is (.bool false), Kn.Is (.pointer (some ⟨g2, 2, none⟩)), Kn.Is (.int .i64 ek), Kn.Is (.bool true), Kn.Is (.bool true), Kn.Is (.iface 60 (.agg #[.int .i64 ak, .iface 55 (.int .i64 ek)])), Kn.Is (.int .i64 ak), Kn.Is (.pointer (some ⟨g2, 3, none⟩)), Kn.Is (.int .i64 ak), Kn.Is (.bool false), Kn.Is (.bool false), Kn.Is (.bool false)]) (by kernel_rfl) fh59 (by kernel_rfl) (by kernel_rfl) rfl (Kn.Keeps.all (.cons Kn.Is.keep (.cons Kn.Is.keep (.cons Kn.Is.keep (.cons Kn.Is.keep (.cons Kn.Is.keep (.cons Kn.Is.keep (.cons Kn.Is.keep (.cons Kn.Is.keep (.cons Kn.Is.keep (.cons Kn.Is.keep (.cons Kn.Is.keep (.cons Kn.Is.keep (.cons Kn.Is.keep (.cons Kn.Is.keep (.cons Kn.Is.keep (.cons Kn.Is.keep (.cons Kn.Is.keep (.cons Kn.Is.keep (.cons Kn.Is.keep (.cons Kn.Is.keep (.cons Kn.Is.keep (.cons Kn.Is.keep (.cons Kn.Is.keep (.cons Kn.Is.keep (.cons Kn.Is.keep (.cons Kn.Is.keep (.cons Kn.Is.keep (.cons Kn.Is.keep (.cons Kn.Is.keep (.cons Kn.Is.keep (.cons Kn.Is.keep (.cons Kn.Is.keep (.cons Kn.Is.keep (.cons Kn.Is.keep (.cons Kn.Is.keep (.cons Kn.Is.keep (.cons Kn.Is.keep (.cons Kn.Is.keep (.cons Kn.Is.keep (.cons Kn.Is.keep (.cons Kn.Is.keep (.cons Kn.Is.keep (.cons Kn.Is.keep (.cons Kn.Is.keep (.cons Kn.Is.keep (.cons Kn.Is.keep (.cons Kn.Is.keep (.cons Kn.Is.keep .nil))))))))))))))))))))))))))))))))))))))))))))))))) HSP.out.drew ⟨?_, ?_, ?_, ?_, ?_, ?_, ?_, ?_, ?_, ?_, ?_, ?_, ?_, ?_, ?_, ?_, ?_, ?_, ?_, ?_, ?_, ?_, ?_, ?_, ?_, ?_, ?_, ?_, ?_, ?_, ?_, ?_, ?_, ?_, ?_, ?_, ?_, ?_, ?_, ?_, ?_, ?_, ?_, ?_, ?_, ?_, ?_, ?_, trivial⟩ ?_
    · refine Kn.ok fun fa60 u L fh60 hS hH => ?_
      exact Kn.apure fh60 .none (Kn.ex_move fh60 (.tmp rfl)) rfl hS (Below.refl _ _)
    · refine Kn.ok fun fa60 u L fh60 hS hH => ?_
      refine Kn.aop fh60 .none (Kn.ex_fieldAddr fh60 (.tmp rfl)) fun Ko hKo => ?_
      go_simp
      try go_bits
      exact hKo _ _ rfl hS (Below.refl _ _)
    · refine Kn.ok fun fa60 u L fh60 hS hH => ?_
      replace fh60 := fh60.more (show fa60.eval (.tmp 116) = .pointer (some ⟨g1, 0, none⟩) from hH 1 116 rfl rfl)
      have cc := hS.2.1.cell 0 rfl
      refine Kn.aop fh60 .none (Kn.ex_load fh60 (.tmp rfl)) fun Ko hKo => ?_
      go_simp
      try go_bits
      exact hKo _ _ rfl hS (Below.refl _ _)
    · refine Kn.ok fun fa60 u L fh60 hS hH => ?_
      replace fh60 := fh60.more (show fa60.eval (.tmp 115) = .int .i64 x from hH 0 115 rfl rfl)
      replace fh60 := fh60.more (show fa60.eval (.tmp 117) = .int .i64 x from hH 2 117 rfl rfl)
      refine Kn.aop fh60 .none (Kn.ex_bin fh60 (.tmp rfl) (.tmp rfl)) fun Ko hKo => ?_
      go_simp
      try go_bits
      exact hKo _ _ rfl hS (Below.refl _ _)
    · refine Kn.ok fun fa60 u L fh60 hS hH => ?_
      replace fh60 := fh60.more (show fa60.eval (.tmp 118) = .bool false from hH 3 118 rfl rfl)
      exact Kn.apure fh60 .none (Kn.ex_move fh60 (.tmp rfl)) rfl hS (Below.refl _ _)
    · refine Kn.ok fun fa60 u L fh60 hS hH => ?_
      replace fh60 := fh60.more (show fa60.eval (.tmp 119) = .bool false from hH 4 119 rfl rfl)
      exact Kn.apure fh60 (.some rfl rfl rfl) (Kn.ex_move fh60 (.tmp rfl)) rfl hS (Below.refl _ _)
    · refine Kn.ok fun fa60 u L fh60 hS hH => ?_
      replace fh60 := fh60.more (show fa60.eval (.tmp 120) = .iface 60 (.agg #[.int .i64 ac, .iface 55 (.int .i64 ec)]) from hH 5 120 rfl rfl)
      replace fh60 := fh60.more (show fa60.eval (.tmp 119) = .bool false from hH 4 119 rfl rfl)
      refine Kn.acall fh60 (.some rfl rfl rfl) (Kn.ex_call fh60 (.cons (.tmp rfl) .nil)) Tryd.call9 (HC.out ec ac _ hS.1) fun e u7 hp => ?_
      obtain ⟨rfl, hb7⟩ := hp
      exact ⟨_, rfl, rfl, (hS.on hb7), hb7⟩
    · refine Kn.ok fun fa60 u L fh60 hS hH => ?_
      replace fh60 := fh60.more (show fa60.eval (.tmp 119) = .bool false from hH 4 119 rfl rfl)
      refine Kn.aop fh60 (.some rfl rfl rfl) (Kn.ex_fieldAddr fh60 (.tmp rfl)) fun Ko hKo => ?_
      go_simp
      try go_bits
      exact hKo _ _ rfl hS (Below.refl _ _)
    · refine Kn.ok fun fa60 u L fh60 hS hH => ?_
      replace fh60 := fh60.more (show fa60.eval (.tmp 122) = .pointer (some ⟨g1, 2, none⟩) from hH 7 122 rfl rfl)
      replace fh60 := fh60.more (show fa60.eval (.tmp 119) = .bool false from hH 4 119 rfl rfl)
      have cc := hS.2.1.cell 2 rfl
      refine Kn.aop fh60 (.some rfl rfl rfl) (Kn.ex_load fh60 (.tmp rfl)) fun Ko hKo => ?_
      go_simp
      try go_bits
      exact hKo _ _ rfl hS (Below.refl _ _)
    · refine Kn.ok fun fa60 u L fh60 hS hH => ?_
      replace fh60 := fh60.more (show fa60.eval (.tmp 121) = .int .i64 ec from hH 6 121 rfl rfl)
      replace fh60 := fh60.more (show fa60.eval (.tmp 123) = .int .i64 ec from hH 8 123 rfl rfl)
      replace fh60 := fh60.more (show fa60.eval (.tmp 119) = .bool false from hH 4 119 rfl rfl)
      refine Kn.aop fh60 (.some rfl rfl rfl) (Kn.ex_bin fh60 (.tmp rfl) (.tmp rfl)) fun Ko hKo => ?_
      go_simp
      try go_bits
      exact hKo _ _ rfl hS (Below.refl _ _)
    · refine Kn.ok fun fa60 u L fh60 hS hH => ?_
      replace fh60 := fh60.more (show fa60.eval (.tmp 119) = .bool false from hH 4 119 rfl rfl)
      replace fh60 := fh60.more (show fa60.eval (.tmp 124) = .bool false from hH 9 124 rfl rfl)
      exact Kn.apure fh60 .none (Kn.ex_pick fh60 (.tmp rfl) (.tmp rfl)) rfl hS (Below.refl _ _)
    · refine Kn.ok fun fa60 u L fh60 hS hH => ?_
      replace fh60 := fh60.more (show fa60.eval (.tmp 125) = .bool false from hH 10 125 rfl rfl)
      exact Kn.apure fh60 .none (Kn.ex_move fh60 (.tmp rfl)) rfl hS (Below.refl _ _)
    · refine Kn.ok fun fa60 u L fh60 hS hH => ?_
      replace fh60 := fh60.more (show fa60.eval (.tmp 126) = .bool false from hH 11 126 rfl rfl)
      refine Kn.aop fh60 (.some rfl rfl rfl) (Kn.ex_fieldAddr fh60 (.tmp rfl)) fun Ko hKo => ?_
      go_simp
      try go_bits
      exact hKo _ _ rfl hS (Below.refl _ _)
    · refine Kn.ok fun fa60 u L fh60 hS hH => ?_
      replace fh60 := fh60.more (show fa60.eval (.tmp 127) = .pointer (some ⟨g1, 2, none⟩) from hH 12 127 rfl rfl)
      replace fh60 := fh60.more (show fa60.eval (.tmp 126) = .bool false from hH 11 126 rfl rfl)
      have cc := hS.2.1.cell 2 rfl
      refine Kn.aop fh60 (.some rfl rfl rfl) (Kn.ex_load fh60 (.tmp rfl)) fun Ko hKo => ?_
      go_simp
      try go_bits
      exact hKo _ _ rfl hS (Below.refl _ _)
    · refine Kn.ok fun fa60 u L fh60 hS hH => ?_
      replace fh60 := fh60.more (show fa60.eval (.tmp 128) = .int .i64 ec from hH 13 128 rfl rfl)
      replace fh60 := fh60.more (show fa60.eval (.tmp 126) = .bool false from hH 11 126 rfl rfl)
      refine Kn.aop fh60 (.some rfl rfl rfl) (Kn.ex_bin fh60 (.tmp rfl) .const) fun Ko hKo => ?_
      go_simp
      try go_bits
      exact hKo _ _ rfl hS (Below.refl _ _)
    · refine Kn.ok fun fa60 u L fh60 hS hH => ?_
      replace fh60 := fh60.more (show fa60.eval (.tmp 129) = .bool true from hH 14 129 rfl rfl)
      replace fh60 := fh60.more (show fa60.eval (.tmp 126) = .bool false from hH 11 126 rfl rfl)
      exact Kn.apure fh60 (.some rfl rfl rfl) (Kn.ex_move fh60 (.tmp rfl)) rfl hS (Below.refl _ _)
    · refine Kn.ok fun fa60 u L fh60 hS hH => ?_
      replace fh60 := fh60.more (show fa60.eval (.tmp 130) = .bool true from hH 15 130 rfl rfl)
      exact Kn.apure fh60 (.some rfl rfl rfl) (Kn.ex_move fh60 (.tmp rfl)) rfl hS (Below.refl _ _)
    · refine Kn.ok fun fa60 u L fh60 hS hH => ?_
      replace fh60 := fh60.more (show fa60.eval (.tmp 131) = .iface 60 (.agg #[.int .i64 ac, .iface 55 (.int .i64 ec)]) from hH 16 131 rfl rfl)
      replace fh60 := fh60.more (show fa60.eval (.tmp 130) = .bool true from hH 15 130 rfl rfl)
      refine Kn.acall fh60 (.some rfl rfl rfl) (Kn.ex_call fh60 (.cons (.tmp rfl) .nil)) Tryd.call10 (HP.out ec ac _ hS.1) fun e u7 hp => ?_
      obtain ⟨rfl, hb7⟩ := hp
      exact ⟨_, rfl, rfl, (hS.on hb7), hb7⟩
    · refine Kn.ok fun fa60 u L fh60 hS hH => ?_
      replace fh60 := fh60.more (show fa60.eval (.tmp 130) = .bool true from hH 15 130 rfl rfl)
      refine Kn.aop fh60 (.some rfl rfl rfl) (Kn.ex_fieldAddr fh60 (.tmp rfl)) fun Ko hKo => ?_
      go_simp
      try go_bits
      exact hKo _ _ rfl hS (Below.refl _ _)
    · refine Kn.ok fun fa60 u L fh60 hS hH => ?_
      replace fh60 := fh60.more (show fa60.eval (.tmp 133) = .pointer (some ⟨g1, 3, none⟩) from hH 18 133 rfl rfl)
      replace fh60 := fh60.more (show fa60.eval (.tmp 130) = .bool true from hH 15 130 rfl rfl)
      have cc := hS.2.1.cell 3 rfl
      refine Kn.aop fh60 (.some rfl rfl rfl) (Kn.ex_load fh60 (.tmp rfl)) fun Ko hKo => ?_
      go_simp
      try go_bits
      exact hKo _ _ rfl hS (Below.refl _ _)
    · refine Kn.ok fun fa60 u L fh60 hS hH => ?_
      replace fh60 := fh60.more (show fa60.eval (.tmp 132) = .int .i64 ac from hH 17 132 rfl rfl)
      replace fh60 := fh60.more (show fa60.eval (.tmp 134) = .int .i64 ac from hH 19 134 rfl rfl)
      replace fh60 := fh60.more (show fa60.eval (.tmp 130) = .bool true from hH 15 130 rfl rfl)
      refine Kn.aop fh60 (.some rfl rfl rfl) (Kn.ex_bin fh60 (.tmp rfl) (.tmp rfl)) fun Ko hKo => ?_
      go_simp
      try go_bits
      exact hKo _ _ rfl hS (Below.refl _ _)
    · refine Kn.ok fun fa60 u L fh60 hS hH => ?_
      replace fh60 := fh60.more (show fa60.eval (.tmp 130) = .bool true from hH 15 130 rfl rfl)
      replace fh60 := fh60.more (show fa60.eval (.tmp 135) = .bool false from hH 20 135 rfl rfl)
      replace fh60 := fh60.more (show fa60.eval (.tmp 126) = .bool false from hH 11 126 rfl rfl)
      exact Kn.apure fh60 (.some rfl rfl rfl) (Kn.ex_pick fh60 (.tmp rfl) (.tmp rfl)) rfl hS (Below.refl _ _)
    · refine Kn.ok fun fa60 u L fh60 hS hH => ?_
      replace fh60 := fh60.more (show fa60.eval (.tmp 126) = .bool false from hH 11 126 rfl rfl)
      replace fh60 := fh60.more (show fa60.eval (.tmp 136) = .bool false from hH 21 136 rfl rfl)
      exact Kn.apure fh60 .none (Kn.ex_pick fh60 (.tmp rfl) (.tmp rfl)) rfl hS (Below.refl _ _)
    · refine Kn.ok fun fa60 u L fh60 hS hH => ?_
      replace fh60 := fh60.more (show fa60.eval (.tmp 137) = .bool false from hH 22 137 rfl rfl)
      exact Kn.apure fh60 .none (Kn.ex_move fh60 (.tmp rfl)) rfl hS (Below.refl _ _)
    · refine Kn.ok fun fa60 u L fh60 hS hH => ?_
      replace fh60 := fh60.more (show fa60.eval (.tmp 138) = .bool false from hH 23 138 rfl rfl)
      exact Kn.apure fh60 (.some rfl rfl rfl) (Kn.ex_move fh60 (.tmp rfl)) rfl hS (Below.refl _ _)
    · refine Kn.ok fun fa60 u L fh60 hS hH => ?_
      replace fh60 := fh60.more (show fa60.eval (.tmp 138) = .bool false from hH 23 138 rfl rfl)
      refine Kn.aop fh60 (.some rfl rfl rfl) (Kn.ex_fieldAddr fh60 (.tmp rfl)) fun Ko hKo => ?_
      go_simp
      try go_bits
      exact hKo _ _ rfl hS (Below.refl _ _)
    · refine Kn.ok fun fa60 u L fh60 hS hH => ?_
      replace fh60 := fh60.more (show fa60.eval (.tmp 140) = .pointer (some ⟨g2, 1, none⟩) from hH 25 140 rfl rfl)
      replace fh60 := fh60.more (show fa60.eval (.tmp 138) = .bool false from hH 23 138 rfl rfl)
      have cc := hS.2.2.1.cell 1 rfl
      refine Kn.aop fh60 (.some rfl rfl rfl) (Kn.ex_load fh60 (.tmp rfl)) fun Ko hKo => ?_
      go_simp
      try go_bits
      exact hKo _ _ rfl hS (Below.refl _ _)
    · refine Kn.ok fun fa60 u L fh60 hS hH => ?_
      replace fh60 := fh60.more (show fa60.eval (.tmp 139) = .int .i64 kn from hH 24 139 rfl rfl)
      replace fh60 := fh60.more (show fa60.eval (.tmp 141) = .int .i64 kn from hH 26 141 rfl rfl)
      replace fh60 := fh60.more (show fa60.eval (.tmp 138) = .bool false from hH 23 138 rfl rfl)
      refine Kn.aop fh60 (.some rfl rfl rfl) (Kn.ex_bin fh60 (.tmp rfl) (.tmp rfl)) fun Ko hKo => ?_
      go_simp
      try go_bits
      exact hKo _ _ rfl hS (Below.refl _ _)
    · refine Kn.ok fun fa60 u L fh60 hS hH => ?_
      replace fh60 := fh60.more (show fa60.eval (.tmp 138) = .bool false from hH 23 138 rfl rfl)
      replace fh60 := fh60.more (show fa60.eval (.tmp 142) = .bool false from hH 27 142 rfl rfl)
      exact Kn.apure fh60 .none (Kn.ex_pick fh60 (.tmp rfl) (.tmp rfl)) rfl hS (Below.refl _ _)
    · refine Kn.ok fun fa60 u L fh60 hS hH => ?_
      replace fh60 := fh60.more (show fa60.eval (.tmp 143) = .bool false from hH 28 143 rfl rfl)
      exact Kn.apure fh60 .none (Kn.ex_move fh60 (.tmp rfl)) rfl hS (Below.refl _ _)
    · refine Kn.ok fun fa60 u L fh60 hS hH => ?_
      replace fh60 := fh60.more (show fa60.eval (.tmp 144) = .bool false from hH 29 144 rfl rfl)
      exact Kn.apure fh60 (.some rfl rfl rfl) (Kn.ex_move fh60 (.tmp rfl)) rfl hS (Below.refl _ _)
    · refine Kn.ok fun fa60 u L fh60 hS hH => ?_
      replace fh60 := fh60.more (show fa60.eval (.tmp 145) = .iface 60 (.agg #[.int .i64 ak, .iface 55 (.int .i64 ek)]) from hH 30 145 rfl rfl)
      replace fh60 := fh60.more (show fa60.eval (.tmp 144) = .bool false from hH 29 144 rfl rfl)
      refine Kn.acall fh60 (.some rfl rfl rfl) (Kn.ex_call fh60 (.cons (.tmp rfl) .nil)) Tryd.call9 (HC.out ek ak _ hS.1) fun e u7 hp => ?_
      obtain ⟨rfl, hb7⟩ := hp
      exact ⟨_, rfl, rfl, (hS.on hb7), hb7⟩
    · refine Kn.ok fun fa60 u L fh60 hS hH => ?_
      replace fh60 := fh60.more (show fa60.eval (.tmp 144) = .bool false from hH 29 144 rfl rfl)
      refine Kn.aop fh60 (.some rfl rfl rfl) (Kn.ex_fieldAddr fh60 (.tmp rfl)) fun Ko hKo => ?_
      go_simp
      try go_bits
      exact hKo _ _ rfl hS (Below.refl _ _)
    · refine Kn.ok fun fa60 u L fh60 hS hH => ?_
      replace fh60 := fh60.more (show fa60.eval (.tmp 147) = .pointer (some ⟨g2, 2, none⟩) from hH 32 147 rfl rfl)
      replace fh60 := fh60.more (show fa60.eval (.tmp 144) = .bool false from hH 29 144 rfl rfl)
      have cc := hS.2.2.1.cell 2 rfl
      refine Kn.aop fh60 (.some rfl rfl rfl) (Kn.ex_load fh60 (.tmp rfl)) fun Ko hKo => ?_
      go_simp
      try go_bits
      exact hKo _ _ rfl hS (Below.refl _ _)
    · refine Kn.ok fun fa60 u L fh60 hS hH => ?_
      replace fh60 := fh60.more (show fa60.eval (.tmp 146) = .int .i64 ek from hH 31 146 rfl rfl)
      replace fh60 := fh60.more (show fa60.eval (.tmp 148) = .int .i64 ek from hH 33 148 rfl rfl)
      replace fh60 := fh60.more (show fa60.eval (.tmp 144) = .bool false from hH 29 144 rfl rfl)
      refine Kn.aop fh60 (.some rfl rfl rfl) (Kn.ex_bin fh60 (.tmp rfl) (.tmp rfl)) fun Ko hKo => ?_
      go_simp
      try go_bits
      exact hKo _ _ rfl hS (Below.refl _ _)
    · refine Kn.ok fun fa60 u L fh60 hS hH => ?_
      replace fh60 := fh60.more (show fa60.eval (.tmp 144) = .bool false from hH 29 144 rfl rfl)
      replace fh60 := fh60.more (show fa60.eval (.tmp 149) = .bool false from hH 34 149 rfl rfl)
      exact Kn.apure fh60 .none (Kn.ex_pick fh60 (.tmp rfl) (.tmp rfl)) rfl hS (Below.refl _ _)
    · refine Kn.ok fun fa60 u L fh60 hS hH => ?_
      replace fh60 := fh60.more (show fa60.eval (.tmp 150) = .bool false from hH 35 150 rfl rfl)
      exact Kn.apure fh60 .none (Kn.ex_move fh60 (.tmp rfl)) rfl hS (Below.refl _ _)
    · refine Kn.ok fun fa60 u L fh60 hS hH => ?_
      replace fh60 := fh60.more (show fa60.eval (.tmp 151) = .bool false from hH 36 151 rfl rfl)
      refine Kn.aop fh60 (.some rfl rfl rfl) (Kn.ex_fieldAddr fh60 (.tmp rfl)) fun Ko hKo => ?_
      go_simp
      try go_bits
      exact hKo _ _ rfl hS (Below.refl _ _)
    · refine Kn.ok fun fa60 u L fh60 hS hH => ?_
      replace fh60 := fh60.more (show fa60.eval (.tmp 152) = .pointer (some ⟨g2, 2, none⟩) from hH 37 152 rfl rfl)
      replace fh60 := fh60.more (show fa60.eval (.tmp 151) = .bool false from hH 36 151 rfl rfl)
      have cc := hS.2.2.1.cell 2 rfl
      refine Kn.aop fh60 (.some rfl rfl rfl) (Kn.ex_load fh60 (.tmp rfl)) fun Ko hKo => ?_
      go_simp
      try go_bits
      exact hKo _ _ rfl hS (Below.refl _ _)
    · refine Kn.ok fun fa60 u L fh60 hS hH => ?_
      replace fh60 := fh60.more (show fa60.eval (.tmp 153) = .int .i64 ek from hH 38 153 rfl rfl)
      replace fh60 := fh60.more (show fa60.eval (.tmp 151) = .bool false from hH 36 151 rfl rfl)
      refine Kn.aop fh60 (.some rfl rfl rfl) (Kn.ex_bin fh60 (.tmp rfl) .const) fun Ko hKo => ?_
      go_simp
      try go_bits
      exact hKo _ _ rfl hS (Below.refl _ _)
    · refine Kn.ok fun fa60 u L fh60 hS hH => ?_
      replace fh60 := fh60.more (show fa60.eval (.tmp 154) = .bool true from hH 39 154 rfl rfl)
      replace fh60 := fh60.more (show fa60.eval (.tmp 151) = .bool false from hH 36 151 rfl rfl)
      exact Kn.apure fh60 (.some rfl rfl rfl) (Kn.ex_move fh60 (.tmp rfl)) rfl hS (Below.refl _ _)
    · refine Kn.ok fun fa60 u L fh60 hS hH => ?_
      replace fh60 := fh60.more (show fa60.eval (.tmp 155) = .bool true from hH 40 155 rfl rfl)
      exact Kn.apure fh60 (.some rfl rfl rfl) (Kn.ex_move fh60 (.tmp rfl)) rfl hS (Below.refl _ _)
    · refine Kn.ok fun fa60 u L fh60 hS hH => ?_
      replace fh60 := fh60.more (show fa60.eval (.tmp 156) = .iface 60 (.agg #[.int .i64 ak, .iface 55 (.int .i64 ek)]) from hH 41 156 rfl rfl)
      replace fh60 := fh60.more (show fa60.eval (.tmp 155) = .bool true from hH 40 155 rfl rfl)
      refine Kn.acall fh60 (.some rfl rfl rfl) (Kn.ex_call fh60 (.cons (.tmp rfl) .nil)) Tryd.call10 (HP.out ek ak _ hS.1) fun e u7 hp => ?_
      obtain ⟨rfl, hb7⟩ := hp
      exact ⟨_, rfl, rfl, (hS.on hb7), hb7⟩
    · refine Kn.ok fun fa60 u L fh60 hS hH => ?_
      replace fh60 := fh60.more (show fa60.eval (.tmp 155) = .bool true from hH 40 155 rfl rfl)
      refine Kn.aop fh60 (.some rfl rfl rfl) (Kn.ex_fieldAddr fh60 (.tmp rfl)) fun Ko hKo => ?_
      go_simp
      try go_bits
      exact hKo _ _ rfl hS (Below.refl _ _)
    · refine Kn.ok fun fa60 u L fh60 hS hH => ?_
      replace fh60 := fh60.more (show fa60.eval (.tmp 158) = .pointer (some ⟨g2, 3, none⟩) from hH 43 158 rfl rfl)
      replace fh60 := fh60.more (show fa60.eval (.tmp 155) = .bool true from hH 40 155 rfl rfl)
      have cc := hS.2.2.1.cell 3 rfl
      refine Kn.aop fh60 (.some rfl rfl rfl) (Kn.ex_load fh60 (.tmp rfl)) fun Ko hKo => ?_
      go_simp
      try go_bits
      exact hKo _ _ rfl hS (Below.refl _ _)
    · refine Kn.ok fun fa60 u L fh60 hS hH => ?_
      replace fh60 := fh60.more (show fa60.eval (.tmp 157) = .int .i64 ak from hH 42 157 rfl rfl)
      replace fh60 := fh60.more (show fa60.eval (.tmp 159) = .int .i64 ak from hH 44 159 rfl rfl)
      replace fh60 := fh60.more (show fa60.eval (.tmp 155) = .bool true from hH 40 155 rfl rfl)
      refine Kn.aop fh60 (.some rfl rfl rfl) (Kn.ex_bin fh60 (.tmp rfl) (.tmp rfl)) fun Ko hKo => ?_
      go_simp
      try go_bits
      exact hKo _ _ rfl hS (Below.refl _ _)
    · refine Kn.ok fun fa60 u L fh60 hS hH => ?_
      replace fh60 := fh60.more (show fa60.eval (.tmp 155) = .bool true from hH 40 155 rfl rfl)
      replace fh60 := fh60.more (show fa60.eval (.tmp 160) = .bool false from hH 45 160 rfl rfl)
      replace fh60 := fh60.more (show fa60.eval (.tmp 151) = .bool false from hH 36 151 rfl rfl)
      exact Kn.apure fh60 (.some rfl rfl rfl) (Kn.ex_pick fh60 (.tmp rfl) (.tmp rfl)) rfl hS (Below.refl _ _)
    · refine Kn.ok fun fa60 u L fh60 hS hH => ?_
      replace fh60 := fh60.more (show fa60.eval (.tmp 151) = .bool false from hH 36 151 rfl rfl)
      replace fh60 := fh60.more (show fa60.eval (.tmp 161) = .bool false from hH 46 161 rfl rfl)
      exact Kn.apure fh60 .none (Kn.ex_pick fh60 (.tmp rfl) (.tmp rfl)) rfl hS (Below.refl _ _)
    intro fa60 u6 fh60 hS hT
    clear fh59 fa59
    replace fh60 := fh60.more (show fa60.eval (.tmp 162) = .bool false from hT 47 162 rfl)
    clear hT
    refine hK14 _ _ ?_
    clear hK14 K14
    replace fh60 := fh60.cut (.cons (t := 162) rfl (.cons (t := 11) rfl (.cons (t := 10) rfl (.cons (t := 9) rfl (.cons (t := 8) rfl (.cons (t := 7) rfl (.cons (t := 0) rfl (.cons (t := 1) rfl .nil))))))))
    refine Kn.no fh60 (.tmp rfl) ?_
    refine wp_skip ?_
    replace fh60 := fh60.cut (.cons (t := 11) rfl (.cons (t := 10) rfl (.cons (t := 9) rfl (.cons (t := 8) rfl (.cons (t := 7) rfl (.cons (t := 0) rfl (.cons (t := 1) rfl .nil)))))))
    exact ⟨fh60.cut (.cons (t := 9) rfl (.cons (t := 10) rfl (.cons (t := 11) rfl (.cons (t := 0) rfl (.cons (t := 1) rfl (.cons (t := 7) rfl (.cons (t := 8) rfl .nil))))))), Lib.hid hS.1, Lib.hid hS.2.2.2.1, Lib.hid hS.2.2.2.2⟩
  clear fh59 fa59
  intro fa60 u6 hJ
  obtain ⟨fh60, HT6, HG6, HB6⟩ := hJ
  refine hK13 _ _ ?_
  clear hK13 K13
  have hG7 := HG6.out
  clear HG6
  rcases hG7 with ⟨hv, rfl, rfl, rfl⟩ | ⟨hv, h7⟩
  · by_cases hv0 : v < 0
    · refine wp_seq_k fun K14 hK14 => ?_
      refine wp_seq_k fun K15 hK15 => ?_
      refine wp_region_lit ?_
      refine Kn.pure fh60 rfl rfl .none (Kn.ex_move fh60 (.tmp rfl)) fun fa61 fh61 => ?_
      clear fh60 fa60
      refine Kn.step fh61 rfl rfl .none (Kn.ex_bin fh61 (.tmp rfl) .const) fun Ko hKo => ?_
      go_simp
      try go_bits
      refine hKo _ _ fun fa62 fh62 => ?_
      clear hKo Ko fh61 fa61
      refine Kn.pure fh62 rfl rfl .none (Kn.ex_move fh62 (.tmp rfl)) fun fa63 fh63 => ?_
      clear fh62 fa62
      refine Kn.skip fh63 rfl rfl (.some rfl rfl rfl) fun fa64 fh64 => ?_
      clear fh63 fa63
      refine Kn.skip fh64 rfl rfl (.some rfl rfl rfl) fun fa65 fh65 => ?_
      clear fh64 fa64
      refine Kn.skip fh65 rfl rfl (.some rfl rfl rfl) fun fa66 fh66 => ?_
      clear fh65 fa65
      refine Kn.pure fh66 rfl rfl .none (Kn.ex_pick fh66 (.tmp rfl) .const) fun fa67 fh67 => ?_
      clear fh66 fa66
      refine wpList_nil ?_
      refine hK15 _ _ ?_
      clear hK15 K15
      replace fh67 := fh67.cut (.cons (t := 169) rfl (.cons (t := 9) rfl (.cons (t := 10) rfl (.cons (t := 11) rfl (.cons (t := 0) rfl (.cons (t := 1) rfl (.cons (t := 7) rfl (.cons (t := 8) rfl .nil))))))))
      refine Kn.yes fh67 (.tmp rfl) ?_
      replace fh67 := fh67.cut (.cons (t := 9) rfl (.cons (t := 10) rfl (.cons (t := 11) rfl (.cons (t := 0) rfl (.cons (t := 1) rfl (.cons (t := 7) rfl (.cons (t := 8) rfl .nil)))))))
      refine wp_seq_k fun K16 hK16 => ?_
      refine wp_region_lit ?_
      refine Kn.pure fh67 rfl rfl .none (Kn.ex_move fh67 (.tmp rfl)) fun fa68 fh68 => ?_
      clear fh67 fa67
      refine Kn.step fh68 rfl rfl .none (Kn.ex_len fh68 (.tmp rfl)) fun Ko hKo => ?_
      go_simp
      try go_bits
      refine hKo _ _ fun fa69 fh69 => ?_
      clear hKo Ko fh68 fa68
      refine Kn.step fh69 rfl rfl .none (Kn.ex_bin fh69 (.tmp rfl) .const) fun Ko hKo => ?_
      go_simp
      try go_bits
      refine hKo _ _ fun fa70 fh70 => ?_
      clear hKo Ko fh69 fa69
      refine Kn.pure fh70 rfl rfl .none (Kn.ex_move fh70 (.tmp rfl)) fun fa71 fh71 => ?_
      clear fh70 fa70
      refine Kn.pure fh71 rfl rfl (.some rfl rfl rfl) (Kn.ex_move fh71 (.tmp rfl)) fun fa72 fh72 => ?_
      clear fh71 fa71
      refine Kn.pure fh72 rfl rfl (.some rfl rfl rfl) (Kn.ex_move fh72 (.tmp rfl)) fun fa73 fh73 => ?_
      clear fh72 fa72
      refine Kn.step fh73 rfl rfl (.some rfl rfl rfl) (Kn.ex_bin fh73 (.tmp rfl) (.tmp rfl)) fun Ko hKo => ?_
      go_simp
      try go_bits
      refine hKo _ _ fun fa74 fh74 => ?_
      clear hKo Ko fh73 fa73
      refine Kn.pure fh74 rfl rfl .none (Kn.ex_pick fh74 (.tmp rfl) (.tmp rfl)) fun fa75 fh75 => ?_
      clear fh74 fa74
      refine Kn.pure fh75 rfl rfl .none (Kn.ex_move fh75 (.tmp rfl)) fun fa76 fh76 => ?_
      clear fh75 fa75
      refine Kn.pure fh76 rfl rfl (.some rfl rfl rfl) (Kn.ex_move fh76 (.tmp rfl)) fun fa77 fh77 => ?_
      clear fh76 fa76
      refine Kn.call fh77 rfl rfl (.some rfl rfl rfl) (Kn.ex_call fh77 (.cons (.tmp rfl) .nil)) Tryd.call9 (HC.out 2 nxt u6 HT6.out) fun e w7 hp => ?_
      obtain ⟨rfl, hb7⟩ := hp
      refine ⟨_, rfl, fun fa78 fh78 => ?_⟩
      clear fh77 fa77
      have HT7 := Lib.hid (HT6.out.on hb7)
      have HB7 := Lib.hid (HB6.out.trans (hb7.mono HB6.out.size))
      clear hb7 HT6 HB6
      refine Kn.step fh78 rfl rfl (.some rfl rfl rfl) (Kn.ex_bin fh78 (.tmp rfl) .const) fun Ko hKo => ?_
      go_simp
      try go_bits
      refine hKo _ _ fun fa79 fh79 => ?_
      clear hKo Ko fh78 fa78
      refine Kn.pure fh79 rfl rfl .none (Kn.ex_pick fh79 (.tmp rfl) (.tmp rfl)) fun fa80 fh80 => ?_
      clear fh79 fa79
      refine Kn.pure fh80 rfl rfl .none (Kn.ex_move fh80 (.tmp rfl)) fun fa81 fh81 => ?_
      clear fh80 fa80
      refine Kn.pure fh81 rfl rfl (.some rfl rfl rfl) (Kn.ex_move fh81 (.tmp rfl)) fun fa82 fh82 => ?_
      clear fh81 fa81
      refine Kn.call fh82 rfl rfl (.some rfl rfl rfl) (Kn.ex_call fh82 (.cons (.tmp rfl) .nil)) Tryd.call10 (HP.out 2 nxt w7 HT7.out) fun e w8 hp => ?_
      obtain ⟨rfl, hb8⟩ := hp
      refine ⟨_, rfl, fun fa83 fh83 => ?_⟩
      clear fh82 fa82
      have HT8 := Lib.hid (HT7.out.on hb8)
      have HB8 := Lib.hid (HB7.out.trans (hb8.mono HB7.out.size))
      clear hb8 HT7 HB7
      refine Kn.pure fh83 rfl rfl (.some rfl rfl rfl) (Kn.ex_move fh83 (.tmp rfl)) fun fa84 fh84 => ?_
      clear fh83 fa83
      refine Kn.step fh84 rfl rfl (.some rfl rfl rfl) (Kn.ex_bin fh84 (.tmp rfl) (.tmp rfl)) fun Ko hKo => ?_
      go_simp
      try go_bits
      refine hKo _ _ fun fa85 fh85 => ?_
      clear hKo Ko fh84 fa84
      refine Kn.pure fh85 rfl rfl .none (Kn.ex_pick fh85 (.tmp rfl) (.tmp rfl)) fun fa86 fh86 => ?_
      clear fh85 fa85
      refine Kn.pure fh86 rfl rfl .none (Kn.ex_assign fh86 (.tmp rfl)) fun fa87 fh87 => ?_
      clear fh86 fa86
      refine wpList_nil ?_
      refine hK16 _ _ ?_
      clear hK16 K16
      replace fh87 := fh87.cut (.cons (t := 6) rfl (.cons (t := 9) rfl (.cons (t := 10) rfl (.cons (t := 11) rfl (.cons (t := 0) rfl (.cons (t := 1) rfl (.cons (t := 7) rfl (.cons (t := 8) rfl .nil))))))))
      refine wp_ret ?_
      refine Kn.then_ret ?_
      exact Kn.ret1 fh87 rfl rfl ⟨by simp, HB8.out⟩
    have hv1 : N ≤ v := by omega
    refine wp_seq_k fun K14 hK14 => ?_
    refine wp_seq_k fun K15 hK15 => ?_
    refine wp_region_lit ?_
    refine Kn.pure fh60 rfl rfl .none (Kn.ex_move fh60 (.tmp rfl)) fun fa61 fh61 => ?_
    clear fh60 fa60
    refine Kn.step fh61 rfl rfl .none (Kn.ex_bin fh61 (.tmp rfl) .const) fun Ko hKo => ?_
    go_simp
    try go_bits
    refine hKo _ _ fun fa62 fh62 => ?_
    clear hKo Ko fh61 fa61
    refine Kn.pure fh62 rfl rfl .none (Kn.ex_move fh62 (.tmp rfl)) fun fa63 fh63 => ?_
    clear fh62 fa62
    refine Kn.pure fh63 rfl rfl (.some rfl rfl rfl) (Kn.ex_move fh63 (.tmp rfl)) fun fa64 fh64 => ?_
    clear fh63 fa63
    refine Kn.pure fh64 rfl rfl (.some rfl rfl rfl) (Kn.ex_move fh64 (.tmp rfl)) fun fa65 fh65 => ?_
    clear fh64 fa64
    refine Kn.step fh65 rfl rfl (.some rfl rfl rfl) (Kn.ex_bin fh65 (.tmp rfl) (.tmp rfl)) fun Ko hKo => ?_
    go_simp
    try go_bits
    refine hKo _ _ fun fa66 fh66 => ?_
    clear hKo Ko fh65 fa65
    refine Kn.pure fh66 rfl rfl .none (Kn.ex_pick fh66 (.tmp rfl) (.tmp rfl)) fun fa67 fh67 => ?_
    clear fh66 fa66
    refine wpList_nil ?_
    refine hK15 _ _ ?_
    clear hK15 K15
    replace fh67 := fh67.cut (.cons (t := 169) rfl (.cons (t := 9) rfl (.cons (t := 10) rfl (.cons (t := 11) rfl (.cons (t := 0) rfl (.cons (t := 1) rfl (.cons (t := 7) rfl (.cons (t := 8) rfl .nil))))))))
    refine Kn.yes fh67 (.tmp rfl) ?_
    replace fh67 := fh67.cut (.cons (t := 9) rfl (.cons (t := 10) rfl (.cons (t := 11) rfl (.cons (t := 0) rfl (.cons (t := 1) rfl (.cons (t := 7) rfl (.cons (t := 8) rfl .nil)))))))
    refine wp_seq_k fun K16 hK16 => ?_
    refine wp_region_lit ?_
    refine Kn.pure fh67 rfl rfl .none (Kn.ex_move fh67 (.tmp rfl)) fun fa68 fh68 => ?_
    clear fh67 fa67
    refine Kn.step fh68 rfl rfl .none (Kn.ex_len fh68 (.tmp rfl)) fun Ko hKo => ?_
    go_simp
    try go_bits
    refine hKo _ _ fun fa69 fh69 => ?_
    clear hKo Ko fh68 fa68
    refine Kn.step fh69 rfl rfl .none (Kn.ex_bin fh69 (.tmp rfl) .const) fun Ko hKo => ?_
    go_simp
    try go_bits
    refine hKo _ _ fun fa70 fh70 => ?_
    clear hKo Ko fh69 fa69
    refine Kn.pure fh70 rfl rfl .none (Kn.ex_move fh70 (.tmp rfl)) fun fa71 fh71 => ?_
    clear fh70 fa70
    refine Kn.pure fh71 rfl rfl (.some rfl rfl rfl) (Kn.ex_move fh71 (.tmp rfl)) fun fa72 fh72 => ?_
    clear fh71 fa71
    refine Kn.pure fh72 rfl rfl (.some rfl rfl rfl) (Kn.ex_move fh72 (.tmp rfl)) fun fa73 fh73 => ?_
    clear fh72 fa72
    refine Kn.step fh73 rfl rfl (.some rfl rfl rfl) (Kn.ex_bin fh73 (.tmp rfl) (.tmp rfl)) fun Ko hKo => ?_
    go_simp
    try go_bits
    refine hKo _ _ fun fa74 fh74 => ?_
    clear hKo Ko fh73 fa73
    refine Kn.pure fh74 rfl rfl .none (Kn.ex_pick fh74 (.tmp rfl) (.tmp rfl)) fun fa75 fh75 => ?_
    clear fh74 fa74
    refine Kn.pure fh75 rfl rfl .none (Kn.ex_move fh75 (.tmp rfl)) fun fa76 fh76 => ?_
    clear fh75 fa75
    refine Kn.pure fh76 rfl rfl (.some rfl rfl rfl) (Kn.ex_move fh76 (.tmp rfl)) fun fa77 fh77 => ?_
    clear fh76 fa76
    refine Kn.call fh77 rfl rfl (.some rfl rfl rfl) (Kn.ex_call fh77 (.cons (.tmp rfl) .nil)) Tryd.call9 (HC.out 2 nxt u6 HT6.out) fun e w7 hp => ?_
    obtain ⟨rfl, hb7⟩ := hp
    refine ⟨_, rfl, fun fa78 fh78 => ?_⟩
    clear fh77 fa77
    have HT7 := Lib.hid (HT6.out.on hb7)
    have HB7 := Lib.hid (HB6.out.trans (hb7.mono HB6.out.size))
    clear hb7 HT6 HB6
    refine Kn.step fh78 rfl rfl (.some rfl rfl rfl) (Kn.ex_bin fh78 (.tmp rfl) .const) fun Ko hKo => ?_
    go_simp
    try go_bits
    refine hKo _ _ fun fa79 fh79 => ?_
    clear hKo Ko fh78 fa78
    refine Kn.pure fh79 rfl rfl .none (Kn.ex_pick fh79 (.tmp rfl) (.tmp rfl)) fun fa80 fh80 => ?_
    clear fh79 fa79
    refine Kn.pure fh80 rfl rfl .none (Kn.ex_move fh80 (.tmp rfl)) fun fa81 fh81 => ?_
    clear fh80 fa80
    refine Kn.pure fh81 rfl rfl (.some rfl rfl rfl) (Kn.ex_move fh81 (.tmp rfl)) fun fa82 fh82 => ?_
    clear fh81 fa81
    refine Kn.call fh82 rfl rfl (.some rfl rfl rfl) (Kn.ex_call fh82 (.cons (.tmp rfl) .nil)) Tryd.call10 (HP.out 2 nxt w7 HT7.out) fun e w8 hp => ?_
    obtain ⟨rfl, hb8⟩ := hp
    refine ⟨_, rfl, fun fa83 fh83 => ?_⟩
    clear fh82 fa82
    have HT8 := Lib.hid (HT7.out.on hb8)
    have HB8 := Lib.hid (HB7.out.trans (hb8.mono HB7.out.size))
    clear hb8 HT7 HB7
    refine Kn.pure fh83 rfl rfl (.some rfl rfl rfl) (Kn.ex_move fh83 (.tmp rfl)) fun fa84 fh84 => ?_
    clear fh83 fa83
    refine Kn.step fh84 rfl rfl (.some rfl rfl rfl) (Kn.ex_bin fh84 (.tmp rfl) (.tmp rfl)) fun Ko hKo => ?_
    go_simp
    try go_bits
    refine hKo _ _ fun fa85 fh85 => ?_
    clear hKo Ko fh84 fa84
    refine Kn.pure fh85 rfl rfl .none (Kn.ex_pick fh85 (.tmp rfl) (.tmp rfl)) fun fa86 fh86 => ?_
    clear fh85 fa85
    refine Kn.pure fh86 rfl rfl .none (Kn.ex_assign fh86 (.tmp rfl)) fun fa87 fh87 => ?_
    clear fh86 fa86
    refine wpList_nil ?_
    refine hK16 _ _ ?_
    clear hK16 K16
    replace fh87 := fh87.cut (.cons (t := 6) rfl (.cons (t := 9) rfl (.cons (t := 10) rfl (.cons (t := 11) rfl (.cons (t := 0) rfl (.cons (t := 1) rfl (.cons (t := 7) rfl (.cons (t := 8) rfl .nil))))))))
    refine wp_ret ?_
    refine Kn.then_ret ?_
    exact Kn.ret1 fh87 rfl rfl ⟨by simp, HB8.out⟩
  have hv0 : ¬ v < 0 := by omega
  have hv1 : ¬ N ≤ v := by omega
  clear hv
  have hrg := get_g s p N v u6 (by omega) hN3 (by omega) (by omega)
  rw [← gtC_eq, HR.out] at hrg
  refine wp_seq_k fun K14 hK14 => ?_
  refine wp_seq_k fun K15 hK15 => ?_
  refine wp_region_lit ?_
  refine Kn.pure fh60 rfl rfl .none (Kn.ex_move fh60 (.tmp rfl)) fun fa61 fh61 => ?_
  clear fh60 fa60
  refine Kn.step fh61 rfl rfl .none (Kn.ex_bin fh61 (.tmp rfl) .const) fun Ko hKo => ?_
  go_simp
  try go_bits
  refine hKo _ _ fun fa62 fh62 => ?_
  clear hKo Ko fh61 fa61
  refine Kn.pure fh62 rfl rfl .none (Kn.ex_move fh62 (.tmp rfl)) fun fa63 fh63 => ?_
  clear fh62 fa62
  refine Kn.pure fh63 rfl rfl (.some rfl rfl rfl) (Kn.ex_move fh63 (.tmp rfl)) fun fa64 fh64 => ?_
  clear fh63 fa63
  refine Kn.pure fh64 rfl rfl (.some rfl rfl rfl) (Kn.ex_move fh64 (.tmp rfl)) fun fa65 fh65 => ?_
  clear fh64 fa64
  refine Kn.step fh65 rfl rfl (.some rfl rfl rfl) (Kn.ex_bin fh65 (.tmp rfl) (.tmp rfl)) fun Ko hKo => ?_
  go_simp
  try go_bits
  refine hKo _ _ fun fa66 fh66 => ?_
  clear hKo Ko fh65 fa65
  refine Kn.pure fh66 rfl rfl .none (Kn.ex_pick fh66 (.tmp rfl) (.tmp rfl)) fun fa67 fh67 => ?_
  clear fh66 fa66
  refine wpList_nil ?_
  refine hK15 _ _ ?_
  clear hK15 K15
  replace fh67 := fh67.cut (.cons (t := 169) rfl (.cons (t := 9) rfl (.cons (t := 10) rfl (.cons (t := 11) rfl (.cons (t := 0) rfl (.cons (t := 1) rfl (.cons (t := 7) rfl (.cons (t := 8) rfl .nil))))))))
  refine Kn.no fh67 (.tmp rfl) ?_
  refine wp_skip ?_
  refine hK14 _ _ ?_
  clear hK14 K14
  replace fh67 := fh67.cut (.cons (t := 9) rfl (.cons (t := 10) rfl (.cons (t := 11) rfl (.cons (t := 0) rfl (.cons (t := 1) rfl (.cons (t := 7) rfl (.cons (t := 8) rfl .nil)))))))
  rcases h7 with ⟨x7, a7, hr7, hx7, rfl, rfl, rfl⟩ | ⟨l, nx7, g7, hr7, rfl, rfl, rfl, hH7⟩
  · have hrg2 : Calls Tryd.prog 19 #[.string s, .int .i64 nxt, .int .i64 N, .int .i64 v] u6 fun e w' => e = .returned (.agg #[.slice none 0 0, .int .i64 nxt, .int .i64 x7, .int .i64 a7]) ∧ Below u6.heap.size u6 w' := by
      refine hrg.mono fun e w' hc => ?_
      obtain ⟨hb, h⟩ := hc
      rw [hr7] at h
      rcases h with ⟨x', a', he, hh⟩ | ⟨l, nx, A, c, he, -⟩
      · cases he; exact ⟨hh, hb⟩
      · cases he
    have hi0 := fun u => refInts_any none none 0 0 [] [] u (Nat.zero_le _) (Nat.zero_le _) (IIn.nil u none) (IIn.nil u none)
    rw [decide_eq_true rfl] at hi0
    have HI0 := Lib.hid hi0
    have q7 : (x7 == 0) = false := by rw [beq_eq_false_iff_ne]; exact hx7
    clear hrg hi0 hr7 hx7
    refine wp_seq_k fun K16 hK16 => ?_
    refine wp_region_lit ?_
    refine Kn.pure fh67 rfl rfl .none (Kn.ex_move fh67 (.tmp rfl)) fun fa68 fh68 => ?_
    clear fh67 fa67
    refine Kn.pure fh68 rfl rfl .none (Kn.ex_move fh68 (.tmp rfl)) fun fa69 fh69 => ?_
    clear fh68 fa68
    refine Kn.pure fh69 rfl rfl .none (Kn.ex_move fh69 (.tmp rfl)) fun fa70 fh70 => ?_
    clear fh69 fa69
    refine Kn.pure fh70 rfl rfl .none (Kn.ex_move fh70 (.tmp rfl)) fun fa71 fh71 => ?_
    clear fh70 fa70
    refine Kn.call fh71 rfl rfl .none (Kn.ex_call fh71 (.cons (.tmp rfl) (.cons (.tmp rfl) (.cons (.tmp rfl) (.cons (.tmp rfl) .nil))))) Tryd.call19 (hrg2) fun e u8 hp => ?_
    obtain ⟨rfl, hb8⟩ := hp
    refine ⟨_, rfl, fun fa72 fh72 => ?_⟩
    clear fh71 fa71
    obtain ⟨u9, hu9⟩ : ∃ u, u8.alloc (.cells #[.slice none 0 0, .int .i64 0, .int .i64 0, .int .i64 0] 46) = u := ⟨_, rfl⟩
    have hS9 := St.St.new u8 46 #[.slice none 0 0, .int .i64 0, .int .i64 0, .int .i64 0]
    have hb89 : Below u8.heap.size u8 u9 := by rw [← hu9]; exact (Below.refl _ u8).alloc (Nat.le_refl _) _
    rw [hu9] at hS9
    obtain ⟨hst, hS10, hB10⟩ := hS9.store (P := Tryd.prog) (cells := #[.slice none 0 0, .int .i64 nxt, .int .i64 x7, .int .i64 a7]) (by kernel_rfl) rfl (by simp [Value.oneCell'])
    have hbA := hb89.trans (hB10 _ (Nat.le_refl _))
    have HSQ : Hid (SQ w none none [] u8.heap.size #[.slice none 0 0, .int .i64 nxt, .int .i64 x7, .int .i64 a7] (u9.setRow u8.heap.size #[.slice none 0 0, .int .i64 nxt, .int .i64 x7, .int .i64 a7])) := Lib.hid ⟨(HT6.out.on hb8).on hbA, hS10, IIn.nil _ _, IIn.nil _ _, (HB6.out.trans (hb8.mono HB6.out.size)).trans (hbA.mono (HB6.out.trans (hb8.mono HB6.out.size)).size)⟩
    clear hS9 hb89 hS10 hB10 hbA
    refine Kn.step fh72 rfl rfl .none Kn.ex_alloc fun Ko hKo => ?_
    go_simp
    try rw [hu9]
    refine hKo _ _ fun fa73 fh73 => ?_
    clear hKo Ko fh72 fa72
    refine Kn.stepU fh73 rfl .none (Kn.ex_store fh73 (.tmp rfl) (.tmp rfl)) fun Ko hKo => ?_
    rw [hst]
    refine hKo _ ?_
    clear hKo Ko
    refine wpList_nil ?_
    refine hK16 _ _ ?_
    clear hK16 K16
    replace fh73 := fh73.cut (.cons (t := 18) rfl (.cons (t := 9) rfl (.cons (t := 10) rfl (.cons (t := 11) rfl .nil))))
    clear hst hu9
    obtain ⟨uA, huA⟩ : ∃ u, u9.setRow u8.heap.size #[.slice none 0 0, .int .i64 nxt, .int .i64 x7, .int .i64 a7] = u := ⟨_, rfl⟩
    rw [huA] at HSQ
    change Code.wp _ _ _ _ (u9.setRow u8.heap.size #[.slice none 0 0, .int .i64 nxt, .int .i64 x7, .int .i64 a7])
    rw [huA]
    generalize u8.heap.size = g2 at *
    clear huA
    refine wp_seq_k fun K17 hK17 => ?_
    refine Kn.any (SQ w none none [] g2 #[.slice none 0 0, .int .i64 nxt, .int .i64 x7, .int .i64 a7]) (fun u u' => Below u.heap.size u u') (Kn.TL [Kn.Is (.slice none 0 0), Kn.Is (.pointer (some ⟨g2, 0, none⟩)), Kn.Is (.slice none 0 0), Kn.Is (.bool true), Kn.Is (.bool true), Kn.Is (.int .i64 nxt), Kn.Is (.pointer (some ⟨g2, 1, none⟩)), Kn.Is (.int .i64 nxt), Kn.Is (.bool true), Kn.Is (.bool true), Kn.Is (.bool true), Kn.Is (.iface 60 (.agg #[.int .i64 a7, .iface 55 (.int .i64 x7)])), Kn.Is (.int .i64 x7), Kn.Is (.pointer (some ⟨g2, 2, none⟩)), Kn.Is (.int .i64 x7), Kn.Is (.bool true), Kn.Is (.bool true), Kn.Is (.bool true), Kn.Is (.pointer (some ⟨g2, 2, none⟩)), Kn.Is (.int .i64 x7), Kn.Is (.bool false), Kn.Is (.bool false), Kn.Is (.iface 60 (.agg #[.int .i64 a7, .iface 55 (.int .i64 x7)])), Kn.Is (.int .i64 a7), Kn.Is (.pointer (some ⟨g2, 3, none⟩)), Kn.Is (.int .i64 a7), Kn.Is (.bool true), Kn.Is (.bool true), Kn.Is (.bool true), Kn.Is (.bool true)]) (by kernel_rfl) fh73 (by kernel_rfl) (by kernel_rfl) rfl (Kn.Keeps.all (.cons Kn.Is.keep (.cons Kn.Is.keep (.cons Kn.Is.keep (.cons Kn.Is.keep (.cons Kn.Is.keep (.cons Kn.Is.keep (.cons Kn.Is.keep (.cons Kn.Is.keep (.cons Kn.Is.keep (.cons Kn.Is.keep (.cons Kn.Is.keep (.cons Kn.Is.keep (.cons Kn.Is.keep (.cons Kn.Is.keep (.cons Kn.Is.keep (.cons Kn.Is.keep (.cons Kn.Is.keep (.cons Kn.Is.keep (.cons Kn.Is.keep (.cons Kn.Is.keep (.cons Kn.Is.keep (.cons Kn.Is.keep (.cons Kn.Is.keep (.cons Kn.Is.keep (.cons Kn.Is.keep (.cons Kn.Is.keep (.cons Kn.Is.keep (.cons Kn.Is.keep (.cons Kn.Is.keep (.cons Kn.Is.keep .nil))))))))))))))))))))))))))))))) (HSQ.out.on ((Below.refl _ uA).drew)) ⟨?_, ?_, ?_, ?_, ?_, ?_, ?_, ?_, ?_, ?_, ?_, ?_, ?_, ?_, ?_, ?_, ?_, ?_, ?_, ?_, ?_, ?_, ?_, ?_, ?_, ?_, ?_, ?_, ?_, ?_, trivial⟩ ?_
    · refine Kn.ok fun fa74 u L fh74 hS hH => ?_
      exact Kn.apure fh74 .none (Kn.ex_move fh74 (.tmp rfl)) rfl hS (Below.refl _ _)
    · refine Kn.ok fun fa74 u L fh74 hS hH => ?_
      refine Kn.aop fh74 .none (Kn.ex_fieldAddr fh74 (.tmp rfl)) fun Ko hKo => ?_
      go_simp
      try go_bits
      exact hKo _ _ rfl hS (Below.refl _ _)
    · refine Kn.ok fun fa74 u L fh74 hS hH => ?_
      replace fh74 := fh74.more (show fa74.eval (.tmp 195) = .pointer (some ⟨g2, 0, none⟩) from hH 1 195 rfl rfl)
      have cc := hS.2.1.cell 0 rfl
      refine Kn.aop fh74 .none (Kn.ex_load fh74 (.tmp rfl)) fun Ko hKo => ?_
      go_simp
      try go_bits
      exact hKo _ _ rfl hS (Below.refl _ _)
    · refine Kn.ok fun fa74 u L fh74 hS hH => ?_
      replace fh74 := fh74.more (show fa74.eval (.tmp 194) = .slice none 0 0 from hH 0 194 rfl rfl)
      replace fh74 := fh74.more (show fa74.eval (.tmp 196) = .slice none 0 0 from hH 2 196 rfl rfl)
      refine Kn.acall fh74 .none (Kn.ex_call fh74 (.cons (.tmp rfl) (.cons (.tmp rfl) .nil))) Tryd.call16 (HI0.out u) fun e u7 hp => ?_
      obtain ⟨rfl, q7, rfl⟩ := hp
      exact ⟨_, rfl, rfl, (hS.on (below_drewN _ _)), (below_drewN _ _)⟩
    · refine Kn.ok fun fa74 u L fh74 hS hH => ?_
      replace fh74 := fh74.more (show fa74.eval (.tmp 197) = .bool true from hH 3 197 rfl rfl)
      exact Kn.apure fh74 .none (Kn.ex_move fh74 (.tmp rfl)) rfl hS (Below.refl _ _)
    · refine Kn.ok fun fa74 u L fh74 hS hH => ?_
      replace fh74 := fh74.more (show fa74.eval (.tmp 198) = .bool true from hH 4 198 rfl rfl)
      exact Kn.apure fh74 (.some rfl rfl rfl) (Kn.ex_move fh74 (.tmp rfl)) rfl hS (Below.refl _ _)
    · refine Kn.ok fun fa74 u L fh74 hS hH => ?_
      replace fh74 := fh74.more (show fa74.eval (.tmp 198) = .bool true from hH 4 198 rfl rfl)
      refine Kn.aop fh74 (.some rfl rfl rfl) (Kn.ex_fieldAddr fh74 (.tmp rfl)) fun Ko hKo => ?_
      go_simp
      try go_bits
      exact hKo _ _ rfl hS (Below.refl _ _)
    · refine Kn.ok fun fa74 u L fh74 hS hH => ?_
      replace fh74 := fh74.more (show fa74.eval (.tmp 200) = .pointer (some ⟨g2, 1, none⟩) from hH 6 200 rfl rfl)
      replace fh74 := fh74.more (show fa74.eval (.tmp 198) = .bool true from hH 4 198 rfl rfl)
      have cc := hS.2.1.cell 1 rfl
      refine Kn.aop fh74 (.some rfl rfl rfl) (Kn.ex_load fh74 (.tmp rfl)) fun Ko hKo => ?_
      go_simp
      try go_bits
      exact hKo _ _ rfl hS (Below.refl _ _)
    · refine Kn.ok fun fa74 u L fh74 hS hH => ?_
      replace fh74 := fh74.more (show fa74.eval (.tmp 199) = .int .i64 nxt from hH 5 199 rfl rfl)
      replace fh74 := fh74.more (show fa74.eval (.tmp 201) = .int .i64 nxt from hH 7 201 rfl rfl)
      replace fh74 := fh74.more (show fa74.eval (.tmp 198) = .bool true from hH 4 198 rfl rfl)
      refine Kn.aop fh74 (.some rfl rfl rfl) (Kn.ex_bin fh74 (.tmp rfl) (.tmp rfl)) fun Ko hKo => ?_
      go_simp
      try go_bits
      exact hKo _ _ rfl hS (Below.refl _ _)
    · refine Kn.ok fun fa74 u L fh74 hS hH => ?_
      replace fh74 := fh74.more (show fa74.eval (.tmp 198) = .bool true from hH 4 198 rfl rfl)
      replace fh74 := fh74.more (show fa74.eval (.tmp 202) = .bool true from hH 8 202 rfl rfl)
      exact Kn.apure fh74 .none (Kn.ex_pick fh74 (.tmp rfl) (.tmp rfl)) rfl hS (Below.refl _ _)
    · refine Kn.ok fun fa74 u L fh74 hS hH => ?_
      replace fh74 := fh74.more (show fa74.eval (.tmp 203) = .bool true from hH 9 203 rfl rfl)
      exact Kn.apure fh74 .none (Kn.ex_move fh74 (.tmp rfl)) rfl hS (Below.refl _ _)
    · refine Kn.ok fun fa74 u L fh74 hS hH => ?_
      replace fh74 := fh74.more (show fa74.eval (.tmp 204) = .bool true from hH 10 204 rfl rfl)
      exact Kn.apure fh74 (.some rfl rfl rfl) (Kn.ex_move fh74 (.tmp rfl)) rfl hS (Below.refl _ _)
    · refine Kn.ok fun fa74 u L fh74 hS hH => ?_
      replace fh74 := fh74.more (show fa74.eval (.tmp 205) = .iface 60 (.agg #[.int .i64 a7, .iface 55 (.int .i64 x7)]) from hH 11 205 rfl rfl)
      replace fh74 := fh74.more (show fa74.eval (.tmp 204) = .bool true from hH 10 204 rfl rfl)
      refine Kn.acall fh74 (.some rfl rfl rfl) (Kn.ex_call fh74 (.cons (.tmp rfl) .nil)) Tryd.call9 (HC.out x7 a7 _ hS.1) fun e u7 hp => ?_
      obtain ⟨rfl, hb7⟩ := hp
      exact ⟨_, rfl, rfl, (hS.on hb7), hb7⟩
    · refine Kn.ok fun fa74 u L fh74 hS hH => ?_
      replace fh74 := fh74.more (show fa74.eval (.tmp 204) = .bool true from hH 10 204 rfl rfl)
      refine Kn.aop fh74 (.some rfl rfl rfl) (Kn.ex_fieldAddr fh74 (.tmp rfl)) fun Ko hKo => ?_
      go_simp
      try go_bits
      exact hKo _ _ rfl hS (Below.refl _ _)
    · refine Kn.ok fun fa74 u L fh74 hS hH => ?_
      replace fh74 := fh74.more (show fa74.eval (.tmp 207) = .pointer (some ⟨g2, 2, none⟩) from hH 13 207 rfl rfl)
      replace fh74 := fh74.more (show fa74.eval (.tmp 204) = .bool true from hH 10 204 rfl rfl)
      have cc := hS.2.1.cell 2 rfl
      refine Kn.aop fh74 (.some rfl rfl rfl) (Kn.ex_load fh74 (.tmp rfl)) fun Ko hKo => ?_
      go_simp
      try go_bits
      exact hKo _ _ rfl hS (Below.refl _ _)
    · refine Kn.ok fun fa74 u L fh74 hS hH => ?_
      replace fh74 := fh74.more (show fa74.eval (.tmp 206) = .int .i64 x7 from hH 12 206 rfl rfl)
      replace fh74 := fh74.more (show fa74.eval (.tmp 208) = .int .i64 x7 from hH 14 208 rfl rfl)
      replace fh74 := fh74.more (show fa74.eval (.tmp 204) = .bool true from hH 10 204 rfl rfl)
      refine Kn.aop fh74 (.some rfl rfl rfl) (Kn.ex_bin fh74 (.tmp rfl) (.tmp rfl)) fun Ko hKo => ?_
      go_simp
      try go_bits
      exact hKo _ _ rfl hS (Below.refl _ _)
    · refine Kn.ok fun fa74 u L fh74 hS hH => ?_
      replace fh74 := fh74.more (show fa74.eval (.tmp 204) = .bool true from hH 10 204 rfl rfl)
      replace fh74 := fh74.more (show fa74.eval (.tmp 209) = .bool true from hH 15 209 rfl rfl)
      exact Kn.apure fh74 .none (Kn.ex_pick fh74 (.tmp rfl) (.tmp rfl)) rfl hS (Below.refl _ _)
    · refine Kn.ok fun fa74 u L fh74 hS hH => ?_
      replace fh74 := fh74.more (show fa74.eval (.tmp 210) = .bool true from hH 16 210 rfl rfl)
      exact Kn.apure fh74 .none (Kn.ex_move fh74 (.tmp rfl)) rfl hS (Below.refl _ _)
    · refine Kn.ok fun fa74 u L fh74 hS hH => ?_
      replace fh74 := fh74.more (show fa74.eval (.tmp 211) = .bool true from hH 17 211 rfl rfl)
      refine Kn.aop fh74 (.some rfl rfl rfl) (Kn.ex_fieldAddr fh74 (.tmp rfl)) fun Ko hKo => ?_
      go_simp
      try go_bits
      exact hKo _ _ rfl hS (Below.refl _ _)
    · refine Kn.ok fun fa74 u L fh74 hS hH => ?_
      replace fh74 := fh74.more (show fa74.eval (.tmp 212) = .pointer (some ⟨g2, 2, none⟩) from hH 18 212 rfl rfl)
      replace fh74 := fh74.more (show fa74.eval (.tmp 211) = .bool true from hH 17 211 rfl rfl)
      have cc := hS.2.1.cell 2 rfl
      refine Kn.aop fh74 (.some rfl rfl rfl) (Kn.ex_load fh74 (.tmp rfl)) fun Ko hKo => ?_
      go_simp
      try go_bits
      exact hKo _ _ rfl hS (Below.refl _ _)
    · refine Kn.ok fun fa74 u L fh74 hS hH => ?_
      replace fh74 := fh74.more (show fa74.eval (.tmp 213) = .int .i64 x7 from hH 19 213 rfl rfl)
      replace fh74 := fh74.more (show fa74.eval (.tmp 211) = .bool true from hH 17 211 rfl rfl)
      refine Kn.aop fh74 (.some rfl rfl rfl) (Kn.ex_bin fh74 (.tmp rfl) .const) fun Ko hKo => ?_
      go_simp
      try go_bits
      exact hKo _ _ rfl hS (Below.refl _ _)
    · refine Kn.ok fun fa74 u L fh74 hS hH => ?_
      replace fh74 := fh74.more (show fa74.eval (.tmp 214) = .bool false from hH 20 214 rfl rfl)
      replace fh74 := fh74.more (show fa74.eval (.tmp 211) = .bool true from hH 17 211 rfl rfl)
      exact Kn.apure fh74 (.some rfl rfl rfl) (Kn.ex_move fh74 (.tmp rfl)) rfl hS (Below.refl _ _)
    · refine Kn.ok fun fa74 u L fh74 hS hH => ?_
      replace fh74 := fh74.more (show fa74.eval (.tmp 215) = .bool false from hH 21 215 rfl rfl)
      exact Kn.apure fh74 (.some rfl rfl rfl) (Kn.ex_move fh74 (.tmp rfl)) rfl hS (Below.refl _ _)
    · refine Kn.ok fun fa74 u L fh74 hS hH => ?_
      replace fh74 := fh74.more (show fa74.eval (.tmp 216) = .iface 60 (.agg #[.int .i64 a7, .iface 55 (.int .i64 x7)]) from hH 22 216 rfl rfl)
      replace fh74 := fh74.more (show fa74.eval (.tmp 215) = .bool false from hH 21 215 rfl rfl)
      refine Kn.acall fh74 (.some rfl rfl rfl) (Kn.ex_call fh74 (.cons (.tmp rfl) .nil)) Tryd.call10 (HP.out x7 a7 _ hS.1) fun e u7 hp => ?_
      obtain ⟨rfl, hb7⟩ := hp
      exact ⟨_, rfl, rfl, (hS.on hb7), hb7⟩
    · refine Kn.ok fun fa74 u L fh74 hS hH => ?_
      replace fh74 := fh74.more (show fa74.eval (.tmp 215) = .bool false from hH 21 215 rfl rfl)
      refine Kn.aop fh74 (.some rfl rfl rfl) (Kn.ex_fieldAddr fh74 (.tmp rfl)) fun Ko hKo => ?_
      go_simp
      try go_bits
      exact hKo _ _ rfl hS (Below.refl _ _)
    · refine Kn.ok fun fa74 u L fh74 hS hH => ?_
      replace fh74 := fh74.more (show fa74.eval (.tmp 218) = .pointer (some ⟨g2, 3, none⟩) from hH 24 218 rfl rfl)
      replace fh74 := fh74.more (show fa74.eval (.tmp 215) = .bool false from hH 21 215 rfl rfl)
      have cc := hS.2.1.cell 3 rfl
      refine Kn.aop fh74 (.some rfl rfl rfl) (Kn.ex_load fh74 (.tmp rfl)) fun Ko hKo => ?_
      go_simp
      try go_bits
      exact hKo _ _ rfl hS (Below.refl _ _)
    · refine Kn.ok fun fa74 u L fh74 hS hH => ?_
      replace fh74 := fh74.more (show fa74.eval (.tmp 217) = .int .i64 a7 from hH 23 217 rfl rfl)
      replace fh74 := fh74.more (show fa74.eval (.tmp 219) = .int .i64 a7 from hH 25 219 rfl rfl)
      replace fh74 := fh74.more (show fa74.eval (.tmp 215) = .bool false from hH 21 215 rfl rfl)
      refine Kn.aop fh74 (.some rfl rfl rfl) (Kn.ex_bin fh74 (.tmp rfl) (.tmp rfl)) fun Ko hKo => ?_
      go_simp
      try go_bits
      exact hKo _ _ rfl hS (Below.refl _ _)
    · refine Kn.ok fun fa74 u L fh74 hS hH => ?_
      replace fh74 := fh74.more (show fa74.eval (.tmp 215) = .bool false from hH 21 215 rfl rfl)
      replace fh74 := fh74.more (show fa74.eval (.tmp 220) = .bool true from hH 26 220 rfl rfl)
      replace fh74 := fh74.more (show fa74.eval (.tmp 211) = .bool true from hH 17 211 rfl rfl)
      exact Kn.apure fh74 (.some rfl rfl rfl) (Kn.ex_pick fh74 (.tmp rfl) (.tmp rfl)) rfl hS (Below.refl _ _)
    · refine Kn.ok fun fa74 u L fh74 hS hH => ?_
      replace fh74 := fh74.more (show fa74.eval (.tmp 211) = .bool true from hH 17 211 rfl rfl)
      replace fh74 := fh74.more (show fa74.eval (.tmp 221) = .bool true from hH 27 221 rfl rfl)
      exact Kn.apure fh74 .none (Kn.ex_pick fh74 (.tmp rfl) (.tmp rfl)) rfl hS (Below.refl _ _)
    · refine Kn.ok fun fa74 u L fh74 hS hH => ?_
      replace fh74 := fh74.more (show fa74.eval (.tmp 222) = .bool true from hH 28 222 rfl rfl)
      exact Kn.apure fh74 .none (Kn.ex_assign fh74 (.tmp rfl)) rfl hS (Below.refl _ _)
    intro fa74 uB fh74 hS hT
    clear fh73 fa73
    replace fh74 := fh74.more (show fa74.eval (.tmp 6) = .bool true from hT 29 6 rfl)
    clear hT
    refine hK17 _ _ ?_
    clear hK17 K17
    replace fh74 := fh74.cut (.cons (t := 6) rfl .nil)
    refine wp_ret ?_
    exact Kn.ret1 fh74 rfl rfl ⟨rfl, hS.2.2.2.2⟩
  have hll := got_len hN3 (by omega) (by omega) (HR.out.trans hr7)
  have hrg2 : Calls Tryd.prog 19 #[.string s, .int .i64 p, .int .i64 N, .int .i64 v] u6 fun e w' => ∃ A c, e = .returned (.agg #[.slice A l.length c, .int .i64 nxt, .int .i64 0, .int .i64 0]) ∧ IIn w' A l ∧ Below u6.heap.size u6 w' := by
    refine hrg.mono fun e w' hc => ?_
    obtain ⟨hb, h⟩ := hc
    rw [hr7] at h
    rcases h with ⟨x', a', he, -⟩ | ⟨l', nx', A, c, he, hh, hi⟩
    · cases he
    · cases he; exact ⟨A, c, hh, hi, hb⟩
  have HH7 := Lib.hid hH7
  clear hrg hr7 hH7
  refine wp_seq_k fun K16 hK16 => ?_
  refine wp_region_lit ?_
  refine Kn.pure fh67 rfl rfl .none (Kn.ex_move fh67 (.tmp rfl)) fun fa68 fh68 => ?_
  clear fh67 fa67
  refine Kn.pure fh68 rfl rfl .none (Kn.ex_move fh68 (.tmp rfl)) fun fa69 fh69 => ?_
  clear fh68 fa68
  refine Kn.pure fh69 rfl rfl .none (Kn.ex_move fh69 (.tmp rfl)) fun fa70 fh70 => ?_
  clear fh69 fa69
  refine Kn.pure fh70 rfl rfl .none (Kn.ex_move fh70 (.tmp rfl)) fun fa71 fh71 => ?_
  clear fh70 fa70
  refine Kn.call fh71 rfl rfl .none (Kn.ex_call fh71 (.cons (.tmp rfl) (.cons (.tmp rfl) (.cons (.tmp rfl) (.cons (.tmp rfl) .nil))))) Tryd.call19 (hrg2) fun e u8 hp => ?_
  obtain ⟨A8, c8, rfl, hI8, hb8⟩ := hp
  refine ⟨_, rfl, fun fa72 fh72 => ?_⟩
  clear fh71 fa71
  obtain ⟨u9, hu9⟩ : ∃ u, u8.alloc (.cells #[.slice none 0 0, .int .i64 0, .int .i64 0, .int .i64 0] 46) = u := ⟨_, rfl⟩
  have hS9 := St.St.new u8 46 #[.slice none 0 0, .int .i64 0, .int .i64 0, .int .i64 0]
  have hb89 : Below u8.heap.size u8 u9 := by rw [← hu9]; exact (Below.refl _ u8).alloc (Nat.le_refl _) _
  rw [hu9] at hS9
  obtain ⟨hst, hS10, hB10⟩ := hS9.store (P := Tryd.prog) (cells := #[.slice A8 l.length c8, .int .i64 nxt, .int .i64 0, .int .i64 0]) (by kernel_rfl) rfl (by simp [Value.oneCell'])
  have hbA := hb89.trans (hB10 _ (Nat.le_refl _))
  have HSQ : Hid (SQ w (some ⟨g7, 0, none⟩) A8 l u8.heap.size #[.slice A8 l.length c8, .int .i64 nxt, .int .i64 0, .int .i64 0] (u9.setRow u8.heap.size #[.slice A8 l.length c8, .int .i64 nxt, .int .i64 0, .int .i64 0])) := Lib.hid ⟨(HT6.out.on hb8).on hbA, hS10, ((HH7.out.on hb8).on hbA).iin, hI8.on hbA, (HB6.out.trans (hb8.mono HB6.out.size)).trans (hbA.mono (HB6.out.trans (hb8.mono HB6.out.size)).size)⟩
  clear hS9 hb89 hS10 hB10 hbA
  refine Kn.step fh72 rfl rfl .none Kn.ex_alloc fun Ko hKo => ?_
  go_simp
  try rw [hu9]
  refine hKo _ _ fun fa73 fh73 => ?_
  clear hKo Ko fh72 fa72
  refine Kn.stepU fh73 rfl .none (Kn.ex_store fh73 (.tmp rfl) (.tmp rfl)) fun Ko hKo => ?_
  rw [hst]
  refine hKo _ ?_
  clear hKo Ko
  refine wpList_nil ?_
  refine hK16 _ _ ?_
  clear hK16 K16
  replace fh73 := fh73.cut (.cons (t := 18) rfl (.cons (t := 9) rfl (.cons (t := 10) rfl (.cons (t := 11) rfl .nil))))
  clear hst hu9
  obtain ⟨uA, huA⟩ : ∃ u, u9.setRow u8.heap.size #[.slice A8 l.length c8, .int .i64 nxt, .int .i64 0, .int .i64 0] = u := ⟨_, rfl⟩
  rw [huA] at HSQ
  change Code.wp _ _ _ _ (u9.setRow u8.heap.size #[.slice A8 l.length c8, .int .i64 nxt, .int .i64 0, .int .i64 0])
  rw [huA]
  generalize u8.heap.size = g2 at *
  clear huA
  have hi0 := fun u (h1 : IIn u (some ⟨g7, 0, none⟩) l) (h2 : IIn u A8 l) => refInts_any (some ⟨g7, 0, none⟩) A8 l.length c8 l l u (by unfold maxLen; omega) (by unfold maxLen; omega) h1 h2
  rw [decide_eq_true rfl] at hi0
  have HI0 := Lib.hid hi0
  clear hi0
  refine wp_seq_k fun K17 hK17 => ?_
  refine Kn.any (SQ w (some ⟨g7, 0, none⟩) A8 l g2 #[.slice A8 l.length c8, .int .i64 nxt, .int .i64 0, .int .i64 0]) (fun u u' => Below u.heap.size u u') (Kn.TL [Kn.Is (.slice (some ⟨g7, 0, none⟩) l.length l.length), Kn.Is (.pointer (some ⟨g2, 0, none⟩)), Kn.Is (.slice A8 l.length c8), Kn.Is (.bool true), Kn.Is (.bool true), Kn.Is (.int .i64 nxt), Kn.Is (.pointer (some ⟨g2, 1, none⟩)), Kn.Is (.int .i64 nxt), Kn.Is (.bool true), Kn.Is (.bool true), Kn.Is (.bool true), Kn.Is (.nilIface), Kn.Is (.int .i64 0), Kn.Is (.pointer (some ⟨g2, 2, none⟩)), Kn.Is (.int .i64 0), Kn.Is (.bool true), Kn.Is (.bool true), Kn.Is (.bool true), Kn.Is (.pointer (some ⟨g2, 2, none⟩)), Kn.Is (.int .i64 0), Kn.Is (.bool true), Kn.Is (.bool true), Kn.Is (undef), Kn.Is (undef), Kn.Is (undef), Kn.Is (undef), Kn.Is (undef), Kn.Is (.bool true), Kn.Is (.bool true), Kn.Is (.bool true)]) (by kernel_rfl) fh73 (by kernel_rfl) (by kernel_rfl) rfl (Kn.Keeps.all (.cons Kn.Is.keep (.cons Kn.Is.keep (.cons Kn.Is.keep (.cons Kn.Is.keep (.cons Kn.Is.keep (.cons Kn.Is.keep (.cons Kn.Is.keep (.cons Kn.Is.keep (.cons Kn.Is.keep (.cons Kn.Is.keep (.cons Kn.Is.keep (.cons Kn.Is.keep (.cons Kn.Is.keep (.cons Kn.Is.keep (.cons Kn.Is.keep (.cons Kn.Is.keep (.cons Kn.Is.keep (.cons Kn.Is.keep (.cons Kn.Is.keep (.cons Kn.Is.keep (.cons Kn.Is.keep (.cons Kn.Is.keep (.cons Kn.Is.keep (.cons Kn.Is.keep (.cons Kn.Is.keep (.cons Kn.Is.keep (.cons Kn.Is.keep (.cons Kn.Is.keep (.cons Kn.Is.keep (.cons Kn.Is.keep .nil))))))))))))))))))))))))))))))) (HSQ.out.on ((Below.refl _ uA).drew)) ⟨?_, ?_, ?_, ?_, ?_, ?_, ?_, ?_, ?_, ?_, ?_, ?_, ?_, ?_, ?_, ?_, ?_, ?_, ?_, ?_, ?_, ?_, ?_, ?_, ?_, ?_, ?_, ?_, ?_, ?_, trivial⟩ ?_
  · refine Kn.ok fun fa74 u L fh74 hS hH => ?_
    exact Kn.apure fh74 .none (Kn.ex_move fh74 (.tmp rfl)) rfl hS (Below.refl _ _)
  · refine Kn.ok fun fa74 u L fh74 hS hH => ?_
    refine Kn.aop fh74 .none (Kn.ex_fieldAddr fh74 (.tmp rfl)) fun Ko hKo => ?_
    go_simp
    try go_bits
    exact hKo _ _ rfl hS (Below.refl _ _)
  · refine Kn.ok fun fa74 u L fh74 hS hH => ?_
    replace fh74 := fh74.more (show fa74.eval (.tmp 195) = .pointer (some ⟨g2, 0, none⟩) from hH 1 195 rfl rfl)
    have cc := hS.2.1.cell 0 rfl
    refine Kn.aop fh74 .none (Kn.ex_load fh74 (.tmp rfl)) fun Ko hKo => ?_
    go_simp
    try go_bits
    exact hKo _ _ rfl hS (Below.refl _ _)
  · refine Kn.ok fun fa74 u L fh74 hS hH => ?_
    replace fh74 := fh74.more (show fa74.eval (.tmp 194) = .slice (some ⟨g7, 0, none⟩) l.length l.length from hH 0 194 rfl rfl)
    replace fh74 := fh74.more (show fa74.eval (.tmp 196) = .slice A8 l.length c8 from hH 2 196 rfl rfl)
    refine Kn.acall fh74 .none (Kn.ex_call fh74 (.cons (.tmp rfl) (.cons (.tmp rfl) .nil))) Tryd.call16 (HI0.out u hS.2.2.1 hS.2.2.2.1) fun e u7 hp => ?_
    obtain ⟨rfl, q7, rfl⟩ := hp
    exact ⟨_, rfl, rfl, (hS.on (below_drewN _ _)), (below_drewN _ _)⟩
  · refine Kn.ok fun fa74 u L fh74 hS hH => ?_
    replace fh74 := fh74.more (show fa74.eval (.tmp 197) = .bool true from hH 3 197 rfl rfl)
    exact Kn.apure fh74 .none (Kn.ex_move fh74 (.tmp rfl)) rfl hS (Below.refl _ _)
  · refine Kn.ok fun fa74 u L fh74 hS hH => ?_
    replace fh74 := fh74.more (show fa74.eval (.tmp 198) = .bool true from hH 4 198 rfl rfl)
    exact Kn.apure fh74 (.some rfl rfl rfl) (Kn.ex_move fh74 (.tmp rfl)) rfl hS (Below.refl _ _)
  · refine Kn.ok fun fa74 u L fh74 hS hH => ?_
    replace fh74 := fh74.more (show fa74.eval (.tmp 198) = .bool true from hH 4 198 rfl rfl)
    refine Kn.aop fh74 (.some rfl rfl rfl) (Kn.ex_fieldAddr fh74 (.tmp rfl)) fun Ko hKo => ?_
    go_simp
    try go_bits
    exact hKo _ _ rfl hS (Below.refl _ _)
  · refine Kn.ok fun fa74 u L fh74 hS hH => ?_
    replace fh74 := fh74.more (show fa74.eval (.tmp 200) = .pointer (some ⟨g2, 1, none⟩) from hH 6 200 rfl rfl)
    replace fh74 := fh74.more (show fa74.eval (.tmp 198) = .bool true from hH 4 198 rfl rfl)
    have cc := hS.2.1.cell 1 rfl
    refine Kn.aop fh74 (.some rfl rfl rfl) (Kn.ex_load fh74 (.tmp rfl)) fun Ko hKo => ?_
    go_simp
    try go_bits
    exact hKo _ _ rfl hS (Below.refl _ _)
  · refine Kn.ok fun fa74 u L fh74 hS hH => ?_
    replace fh74 := fh74.more (show fa74.eval (.tmp 199) = .int .i64 nxt from hH 5 199 rfl rfl)
    replace fh74 := fh74.more (show fa74.eval (.tmp 201) = .int .i64 nxt from hH 7 201 rfl rfl)
    replace fh74 := fh74.more (show fa74.eval (.tmp 198) = .bool true from hH 4 198 rfl rfl)
    refine Kn.aop fh74 (.some rfl rfl rfl) (Kn.ex_bin fh74 (.tmp rfl) (.tmp rfl)) fun Ko hKo => ?_
    go_simp
    try go_bits
    exact hKo _ _ rfl hS (Below.refl _ _)
  · refine Kn.ok fun fa74 u L fh74 hS hH => ?_
    replace fh74 := fh74.more (show fa74.eval (.tmp 198) = .bool true from hH 4 198 rfl rfl)
    replace fh74 := fh74.more (show fa74.eval (.tmp 202) = .bool true from hH 8 202 rfl rfl)
    exact Kn.apure fh74 .none (Kn.ex_pick fh74 (.tmp rfl) (.tmp rfl)) rfl hS (Below.refl _ _)
  · refine Kn.ok fun fa74 u L fh74 hS hH => ?_
    replace fh74 := fh74.more (show fa74.eval (.tmp 203) = .bool true from hH 9 203 rfl rfl)
    exact Kn.apure fh74 .none (Kn.ex_move fh74 (.tmp rfl)) rfl hS (Below.refl _ _)
  · refine Kn.ok fun fa74 u L fh74 hS hH => ?_
    replace fh74 := fh74.more (show fa74.eval (.tmp 204) = .bool true from hH 10 204 rfl rfl)
    exact Kn.apure fh74 (.some rfl rfl rfl) (Kn.ex_move fh74 (.tmp rfl)) rfl hS (Below.refl _ _)
  · refine Kn.ok fun fa74 u L fh74 hS hH => ?_
    replace fh74 := fh74.more (show fa74.eval (.tmp 205) = .nilIface from hH 11 205 rfl rfl)
    replace fh74 := fh74.more (show fa74.eval (.tmp 204) = .bool true from hH 10 204 rfl rfl)
    refine Kn.acall fh74 (.some rfl rfl rfl) (Kn.ex_call fh74 (.cons (.tmp rfl) .nil)) Tryd.call9 (HCn.out _) fun e u7 hp => ?_
    obtain ⟨rfl, hb7⟩ := hp
    exact ⟨_, rfl, rfl, (hS.on hb7), hb7⟩
  · refine Kn.ok fun fa74 u L fh74 hS hH => ?_
    replace fh74 := fh74.more (show fa74.eval (.tmp 204) = .bool true from hH 10 204 rfl rfl)
    refine Kn.aop fh74 (.some rfl rfl rfl) (Kn.ex_fieldAddr fh74 (.tmp rfl)) fun Ko hKo => ?_
    go_simp
    try go_bits
    exact hKo _ _ rfl hS (Below.refl _ _)
  · refine Kn.ok fun fa74 u L fh74 hS hH => ?_
    replace fh74 := fh74.more (show fa74.eval (.tmp 207) = .pointer (some ⟨g2, 2, none⟩) from hH 13 207 rfl rfl)
    replace fh74 := fh74.more (show fa74.eval (.tmp 204) = .bool true from hH 10 204 rfl rfl)
    have cc := hS.2.1.cell 2 rfl
    refine Kn.aop fh74 (.some rfl rfl rfl) (Kn.ex_load fh74 (.tmp rfl)) fun Ko hKo => ?_
    go_simp
    try go_bits
    exact hKo _ _ rfl hS (Below.refl _ _)
  · refine Kn.ok fun fa74 u L fh74 hS hH => ?_
    replace fh74 := fh74.more (show fa74.eval (.tmp 206) = .int .i64 0 from hH 12 206 rfl rfl)
    replace fh74 := fh74.more (show fa74.eval (.tmp 208) = .int .i64 0 from hH 14 208 rfl rfl)
    replace fh74 := fh74.more (show fa74.eval (.tmp 204) = .bool true from hH 10 204 rfl rfl)
    refine Kn.aop fh74 (.some rfl rfl rfl) (Kn.ex_bin fh74 (.tmp rfl) (.tmp rfl)) fun Ko hKo => ?_
    go_simp
    try go_bits
    exact hKo _ _ rfl hS (Below.refl _ _)
  · refine Kn.ok fun fa74 u L fh74 hS hH => ?_
    replace fh74 := fh74.more (show fa74.eval (.tmp 204) = .bool true from hH 10 204 rfl rfl)
    replace fh74 := fh74.more (show fa74.eval (.tmp 209) = .bool true from hH 15 209 rfl rfl)
    exact Kn.apure fh74 .none (Kn.ex_pick fh74 (.tmp rfl) (.tmp rfl)) rfl hS (Below.refl _ _)
  · refine Kn.ok fun fa74 u L fh74 hS hH => ?_
    replace fh74 := fh74.more (show fa74.eval (.tmp 210) = .bool true from hH 16 210 rfl rfl)
    exact Kn.apure fh74 .none (Kn.ex_move fh74 (.tmp rfl)) rfl hS (Below.refl _ _)
  · refine Kn.ok fun fa74 u L fh74 hS hH => ?_
    replace fh74 := fh74.more (show fa74.eval (.tmp 211) = .bool true from hH 17 211 rfl rfl)
    refine Kn.aop fh74 (.some rfl rfl rfl) (Kn.ex_fieldAddr fh74 (.tmp rfl)) fun Ko hKo => ?_
    go_simp
    try go_bits
    exact hKo _ _ rfl hS (Below.refl _ _)
  · refine Kn.ok fun fa74 u L fh74 hS hH => ?_
    replace fh74 := fh74.more (show fa74.eval (.tmp 212) = .pointer (some ⟨g2, 2, none⟩) from hH 18 212 rfl rfl)
    replace fh74 := fh74.more (show fa74.eval (.tmp 211) = .bool true from hH 17 211 rfl rfl)
    have cc := hS.2.1.cell 2 rfl
    refine Kn.aop fh74 (.some rfl rfl rfl) (Kn.ex_load fh74 (.tmp rfl)) fun Ko hKo => ?_
    go_simp
    try go_bits
    exact hKo _ _ rfl hS (Below.refl _ _)
  · refine Kn.ok fun fa74 u L fh74 hS hH => ?_
    replace fh74 := fh74.more (show fa74.eval (.tmp 213) = .int .i64 0 from hH 19 213 rfl rfl)
    replace fh74 := fh74.more (show fa74.eval (.tmp 211) = .bool true from hH 17 211 rfl rfl)
    refine Kn.aop fh74 (.some rfl rfl rfl) (Kn.ex_bin fh74 (.tmp rfl) .const) fun Ko hKo => ?_
    go_simp
    try go_bits
    exact hKo _ _ rfl hS (Below.refl _ _)
  · refine Kn.ok fun fa74 u L fh74 hS hH => ?_
    replace fh74 := fh74.more (show fa74.eval (.tmp 214) = .bool true from hH 20 214 rfl rfl)
    replace fh74 := fh74.more (show fa74.eval (.tmp 211) = .bool true from hH 17 211 rfl rfl)
    exact Kn.apure fh74 (.some rfl rfl rfl) (Kn.ex_move fh74 (.tmp rfl)) rfl hS (Below.refl _ _)
  · refine Kn.ok fun fa74 u L fh74 hS hH => ?_
    replace fh74 := fh74.more (show fa74.eval (.tmp 215) = .bool true from hH 21 215 rfl rfl)
    exact Kn.askip fh74 (.some rfl rfl rfl) rfl
  · refine Kn.ok fun fa74 u L fh74 hS hH => ?_
    replace fh74 := fh74.more (show fa74.eval (.tmp 215) = .bool true from hH 21 215 rfl rfl)
    exact Kn.askip fh74 (.some rfl rfl rfl) rfl
  · refine Kn.ok fun fa74 u L fh74 hS hH => ?_
    replace fh74 := fh74.more (show fa74.eval (.tmp 215) = .bool true from hH 21 215 rfl rfl)
    exact Kn.askip fh74 (.some rfl rfl rfl) rfl
  · refine Kn.ok fun fa74 u L fh74 hS hH => ?_
    replace fh74 := fh74.more (show fa74.eval (.tmp 215) = .bool true from hH 21 215 rfl rfl)
    exact Kn.askip fh74 (.some rfl rfl rfl) rfl
  · refine Kn.ok fun fa74 u L fh74 hS hH => ?_
    replace fh74 := fh74.more (show fa74.eval (.tmp 215) = .bool true from hH 21 215 rfl rfl)
    exact Kn.askip fh74 (.some rfl rfl rfl) rfl
  · refine Kn.ok fun fa74 u L fh74 hS hH => ?_
    replace fh74 := fh74.more (show fa74.eval (.tmp 215) = .bool true from hH 21 215 rfl rfl)
    replace fh74 := fh74.more (show fa74.eval (.tmp 220) = undef from hH 26 220 rfl rfl)
    replace fh74 := fh74.more (show fa74.eval (.tmp 211) = .bool true from hH 17 211 rfl rfl)
    exact Kn.apure fh74 (.some rfl rfl rfl) (Kn.ex_pick fh74 (.tmp rfl) .const) rfl hS (Below.refl _ _)
  · refine Kn.ok fun fa74 u L fh74 hS hH => ?_
    replace fh74 := fh74.more (show fa74.eval (.tmp 211) = .bool true from hH 17 211 rfl rfl)
    replace fh74 := fh74.more (show fa74.eval (.tmp 221) = .bool true from hH 27 221 rfl rfl)
    exact Kn.apure fh74 .none (Kn.ex_pick fh74 (.tmp rfl) (.tmp rfl)) rfl hS (Below.refl _ _)
  · refine Kn.ok fun fa74 u L fh74 hS hH => ?_
    replace fh74 := fh74.more (show fa74.eval (.tmp 222) = .bool true from hH 28 222 rfl rfl)
    exact Kn.apure fh74 .none (Kn.ex_assign fh74 (.tmp rfl)) rfl hS (Below.refl _ _)
  intro fa74 uB fh74 hS hT
  clear fh73 fa73
  replace fh74 := fh74.more (show fa74.eval (.tmp 6) = .bool true from hT 29 6 rfl)
  clear hT
  refine hK17 _ _ ?_
  clear hK17 K17
  replace fh74 := fh74.cut (.cons (t := 6) rfl .nil)
  refine wp_ret ?_
  exact Kn.ret1 fh74 rfl rfl ⟨rfl, hS.2.2.2.2⟩

end Go.Proofs.YtoggeiaofpdboaaDoor.Gap
