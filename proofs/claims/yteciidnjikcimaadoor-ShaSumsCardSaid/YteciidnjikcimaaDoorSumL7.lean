/- Loop 7 of the document's digest (written by gen_refsum.py). -/
import Derived.Test.YteciidnjikcimaaDoorSumS
namespace Go.Proofs.YteciidnjikcimaaDoor.Sha
open Go.RowKit Go.Lib

theorem nin_cell {w0 v : World} {b o : Nat} {l : List Nat} (h : NIn w0 (some ⟨b, o, none⟩) l) (hb : Below w0.heap.size w0 v) {k : Nat} (hk : k < l.length) : v.cell? ⟨b, o + k, none⟩ = some (.int .i64 ((wd l k : Nat) : Int)) := by
  obtain ⟨b', o', e, hlt, hc⟩ := h k hk
  cases e
  exact (hb.cell (p := ⟨b, o + k, none⟩) hlt).trans hc
theorem kk_lt (k : Nat) : wd kk k < 4294967296 := by
  rcases Nat.lt_or_ge k 64 with h | h
  · have : ∀ i : Fin 64, wd kk i.val < 4294967296 := by decide +kernel
    exact this ⟨k, h⟩
  · have : wd kk k = 0 := by unfold wd; rw [List.getD_eq_getElem?_getD, List.getElem?_eq_none (by exact h)]; rfl
    omega
theorem rn_new8 (u : World) (a b c d e f g h n : Nat) (hn : n = u.heap.size) : RN (u.alloc (.cells #[.int .i64 (a : Int), .int .i64 (b : Int), .int .i64 (c : Int), .int .i64 (d : Int), .int .i64 (e : Int), .int .i64 (f : Int), .int .i64 (g : Int), .int .i64 (h : Int)] 3)) n (V8.list ⟨a, b, c, d, e, f, g, h⟩) :=
  ⟨by simp; omega, fun k hk => by
    rw [World.cell?_alloc_at _ _ _ _ hn]
    have hk8 : k < 8 := hk
    match k, hk8 with
    | 0, _ => rfl
    | 1, _ => rfl
    | 2, _ => rfl
    | 3, _ => rfl
    | 4, _ => rfl
    | 5, _ => rfl
    | 6, _ => rfl
    | 7, _ => rfl⟩
set_option maxRecDepth 100000 in
set_option maxHeartbeats 4000000 in
theorem lp7 (w0 v : World) (fa0 : Act) (v12 : Value) (A n2 g2 cap2 gh caph gw capw gv cv bk ok ck : Nat) (Hm PL W : List Nat) (c0 : V8) (Q : Exit → Act → World → Prop)
    (fh0 : Kn.Kn 354 [(22, .int .i64 0), (21, .slice (some ⟨gv, 0, none⟩) 8 cv), (14, .slice (some ⟨gw, 0, none⟩) 64 capw), (13, .int .i64 (A : Int)), (12, v12), (7, .slice (some ⟨g2, 0, none⟩) n2 cap2), (1, .slice (some ⟨bk, ok, none⟩) 64 ck)] fa0)
    (HWl : Hid (W.length = 64)) (HWb : Hid (∀ i, wd W i < 4294967296)) (HCb : Hid (∀ k i, wd (rnds c0 W k).list i < 4294967296)) (HK : Hid (NIn w0 (some ⟨bk, ok, none⟩) kk))
    (hS : Ws w0 v gw capw W gh caph Hm g2 cap2 PL) (hV : RN v gv c0.list) (hgv : gv ≠ gh)
    (hQ : ∀ a v gv cv, Kn.Kn 354 [(21, .slice (some ⟨gv, 0, none⟩) 8 cv), (14, .slice (some ⟨gw, 0, none⟩) 64 capw), (13, .int .i64 (A : Int)), (12, v12), (7, .slice (some ⟨g2, 0, none⟩) n2 cap2), (1, .slice (some ⟨bk, ok, none⟩) 64 ck)] a → Ws w0 v gw capw W gh caph Hm g2 cap2 PL → RN v gv (rnds c0 W 64).list → gv ≠ gh → Q .normal a v) :
    (Code.block 12 (.loop (bodyS 6))).wp Tryd.prog Q fa0 v := by
  refine wp_block ?_
  refine Kn.loop (fun m a v => ∃ (k gv cv : Nat), Kn.Kn 354 [(22, .int .i64 (k : Int)), (21, .slice (some ⟨gv, 0, none⟩) 8 cv), (14, .slice (some ⟨gw, 0, none⟩) 64 capw), (13, .int .i64 (A : Int)), (12, v12), (7, .slice (some ⟨g2, 0, none⟩) n2 cap2), (1, .slice (some ⟨bk, ok, none⟩) 64 ck)] a ∧ k + m = 64 ∧ Hid (Ws w0 v gw capw W gh caph Hm g2 cap2 PL) ∧ Hid (RN v gv (rnds c0 W k).list) ∧ gv ≠ gh) 64 ⟨0, gv, cv, fh0.cut (.cons (t := 22) rfl (.cons (t := 21) rfl (.cons (t := 14) rfl (.cons (t := 13) rfl (.cons (t := 12) rfl (.cons (t := 7) rfl (.cons (t := 1) rfl .nil))))))), rfl, Lib.hid hS, Lib.hid hV, hgv⟩ ?_
  clear fh0 fa0
  intro m fa1 v hI Kl1 hKl1
  conv => arg 2; whnf
  obtain ⟨k, gv, cv, fh1, hk, HS, HV, hgv⟩ := hI
  clear hS hV
  by_cases hlt : k < 64
  · refine wp_seq_k fun K2 hK2 => ?_
    refine wp_seq_k fun K3 hK3 => ?_
    refine wp_region_lit ?_
    refine Kn.pure fh1 rfl rfl .none (Kn.ex_move fh1 (.tmp rfl)) fun fa2 fh2 => ?_
    clear fh1 fa1
    have qd : decide ((k : Int) < 64) = true := decide_eq_true (by omega)
    refine Kn.step fh2 rfl rfl .none (Kn.ex_bin fh2 (.tmp rfl) .const) fun Ko hKo => ?_
    go_simp
    try go_bits
    refine hKo _ _ fun fa3 fh3 => ?_
    clear hKo Ko fh2 fa2
    clear qd
    refine wpList_nil ?_
    refine hK3 _ _ ?_
    clear hK3 K3
    replace fh3 := fh3.cut (.cons (t := 181) rfl (.cons (t := 22) rfl (.cons (t := 21) rfl (.cons (t := 14) rfl (.cons (t := 13) rfl (.cons (t := 12) rfl (.cons (t := 7) rfl (.cons (t := 1) rfl .nil))))))))
    refine Kn.yes fh3 (.tmp rfl) ?_
    refine wp_skip ?_
    refine hK2 _ _ ?_
    clear hK2 K2
    replace fh3 := fh3.cut (.cons (t := 22) rfl (.cons (t := 21) rfl (.cons (t := 14) rfl (.cons (t := 13) rfl (.cons (t := 12) rfl (.cons (t := 7) rfl (.cons (t := 1) rfl .nil)))))))
    refine wp_seq_k fun K4 hK4 => ?_
    refine wp_block ?_
    obtain ⟨s, hs⟩ : ∃ s, rnds c0 W k = s := ⟨_, rfl⟩
    rw [hs] at HV
    have HST : Hid (rnds c0 W (k + 1) = step s (wd kk k) (wd W k)) := Lib.hid (by rw [rnds, hs])
    have hbd : ∀ i, wd s.list i < 4294967296 := by rw [← hs]; exact HCb.out k
    clear hs
    obtain ⟨xa, xb, xc, xd, xe, xf, xg, xh⟩ := s
    have ba : xa < 4294967296 := hbd 0
    have bb : xb < 4294967296 := hbd 1
    have bc : xc < 4294967296 := hbd 2
    have bd : xd < 4294967296 := hbd 3
    have be : xe < 4294967296 := hbd 4
    have bf : xf < 4294967296 := hbd 5
    have bg : xg < 4294967296 := hbd 6
    have bh : xh < 4294967296 := hbd 7
    have c_a : v.cell? ⟨gv, 0, none⟩ = some (.int .i64 (xa : Int)) := HV.out.2 0 (show 0 < 8 by decide)
    have c_b : v.cell? ⟨gv, 1, none⟩ = some (.int .i64 (xb : Int)) := HV.out.2 1 (show 1 < 8 by decide)
    have c_c : v.cell? ⟨gv, 2, none⟩ = some (.int .i64 (xc : Int)) := HV.out.2 2 (show 2 < 8 by decide)
    have c_d : v.cell? ⟨gv, 3, none⟩ = some (.int .i64 (xd : Int)) := HV.out.2 3 (show 3 < 8 by decide)
    have c_e : v.cell? ⟨gv, 4, none⟩ = some (.int .i64 (xe : Int)) := HV.out.2 4 (show 4 < 8 by decide)
    have c_f : v.cell? ⟨gv, 5, none⟩ = some (.int .i64 (xf : Int)) := HV.out.2 5 (show 5 < 8 by decide)
    have c_g : v.cell? ⟨gv, 6, none⟩ = some (.int .i64 (xg : Int)) := HV.out.2 6 (show 6 < 8 by decide)
    have c_h : v.cell? ⟨gv, 7, none⟩ = some (.int .i64 (xh : Int)) := HV.out.2 7 (show 7 < 8 by decide)
    obtain ⟨xw, hxw⟩ : ∃ x, wd W k = x := ⟨_, rfl⟩
    obtain ⟨xk, hxk⟩ : ∃ x, wd kk k = x := ⟨_, rfl⟩
    rw [hxw, hxk] at HST
    have bw : xw < 4294967296 := by rw [← hxw]; exact HWb.out k
    have bk2 : xk < 4294967296 := by rw [← hxk]; exact kk_lt k
    have c_w : v.cell? ⟨gw, k, none⟩ = some (.int .i64 (xw : Int)) := by rw [← hxw]; exact HS.out.ow.cell (by rw [HWl.out]; exact hlt)
    have c_k : v.cell? ⟨bk, ok + k, none⟩ = some (.int .i64 (xk : Int)) := by rw [← hxk]; exact nin_cell HK.out HS.out.old (by exact hlt)
    clear hxw hxk hbd
    obtain ⟨ya, hya, bya⟩ := rotN xe 6 (by omega) be
    obtain ⟨yb, hyb, byb⟩ := rotN xe 11 (by omega) be
    obtain ⟨yc, hyc, byc⟩ := rotN xe 25 (by omega) be
    obtain ⟨yd, hyd, byd, jd⟩ := xorN ya yb bya byb
    obtain ⟨s1, hye, bds1, je⟩ := xorN yd yc byd byc
    have Hs1 : Hid (bs1 xe = s1) := Lib.hid (by rw [bs1, hya, hyb, hyc, hyd, hye])
    have Hya := Lib.hid hya
    have Hyb := Lib.hid hyb
    have Hyc := Lib.hid hyc
    clear hya hyb hyc hyd hye
    refine wp_seq_k fun K5 hK5 => ?_
    refine Kn.any (fun u => ∃ q, u = World.drewN v q) (fun u u' => ∃ q, u' = World.drewN u q) (Kn.TL [Kn.Is (Value.slice (some ⟨gv, 0, none⟩) 8 cv), Kn.Is (Value.pointer (some ⟨gv, 4, none⟩)), Kn.Is (Value.int .i64 (xe : Int)), Kn.Is (Value.int .i64 (ya : Int)), Kn.Is (Value.slice (some ⟨gv, 0, none⟩) 8 cv), Kn.Is (Value.pointer (some ⟨gv, 4, none⟩)), Kn.Is (Value.int .i64 (xe : Int)), Kn.Is (Value.int .i64 (yb : Int)), Kn.Is (Value.int .i64 (yd : Int)), Kn.Is (Value.slice (some ⟨gv, 0, none⟩) 8 cv), Kn.Is (Value.pointer (some ⟨gv, 4, none⟩)), Kn.Is (Value.int .i64 (xe : Int)), Kn.Is (Value.int .i64 (yc : Int)), Kn.Is (Value.int .i64 (s1 : Int)), Kn.Is (Value.int .i64 (s1 : Int))]) (by kernel_rfl) fh3 (by kernel_rfl) (by kernel_rfl) rfl (Kn.Keeps.all (.cons Kn.Is.keep (.cons Kn.Is.keep (.cons Kn.Is.keep (.cons Kn.Is.keep (.cons Kn.Is.keep (.cons Kn.Is.keep (.cons Kn.Is.keep (.cons Kn.Is.keep (.cons Kn.Is.keep (.cons Kn.Is.keep (.cons Kn.Is.keep (.cons Kn.Is.keep (.cons Kn.Is.keep (.cons Kn.Is.keep (.cons Kn.Is.keep .nil)))))))))))))))) ⟨1, rfl⟩ ⟨?_, ?_, ?_, ?_, ?_, ?_, ?_, ?_, ?_, ?_, ?_, ?_, ?_, ?_, ?_, trivial⟩ ?_
    · refine Kn.ok fun fa4 u L fh4 hS hH => ?_
      obtain ⟨q, rfl⟩ := hS
      exact Kn.apure fh4 .none (Kn.ex_move fh4 (.tmp rfl)) rfl ⟨q, rfl⟩ ⟨0, rfl⟩
    · refine Kn.ok fun fa4 u L fh4 hS hH => ?_
      replace fh4 := fh4.more (show fa4.eval (.tmp 184) = Value.slice (some ⟨gv, 0, none⟩) 8 cv from hH 0 184 rfl rfl)
      obtain ⟨q, rfl⟩ := hS
      refine Kn.aop fh4 .none (Kn.ex_indexAddr fh4 (.tmp rfl) .const) fun Ko hKo => ?_
      go_simp
      try go_bits
      exact hKo _ _ rfl ⟨q, rfl⟩ ⟨0, rfl⟩
    · refine Kn.ok fun fa4 u L fh4 hS hH => ?_
      replace fh4 := fh4.more (show fa4.eval (.tmp 185) = Value.pointer (some ⟨gv, 4, none⟩) from hH 1 185 rfl rfl)
      obtain ⟨q, rfl⟩ := hS
      refine Kn.aop fh4 .none (Kn.ex_load fh4 (.tmp rfl)) fun Ko hKo => ?_
      go_simp
      try go_bits
      exact hKo _ _ rfl ⟨q, rfl⟩ ⟨0, rfl⟩
    · refine Kn.ok fun fa4 u L fh4 hS hH => ?_
      replace fh4 := fh4.more (show fa4.eval (.tmp 186) = Value.int .i64 (xe : Int) from hH 2 186 rfl rfl)
      obtain ⟨q, rfl⟩ := hS
      refine Kn.acall fh4 .none (Kn.ex_call fh4 (.cons (.tmp rfl) (.cons .const .nil))) Tryd.call25 (turn_l xe 6 6 ya _ be rfl (by omega) Hya.out) fun e u2 hp => ?_
      obtain ⟨rfl, q2, rfl⟩ := hp
      exact ⟨_, rfl, rfl, ⟨_, World.drewN_drewN _ _ _⟩, ⟨_, rfl⟩⟩
    · refine Kn.ok fun fa4 u L fh4 hS hH => ?_
      obtain ⟨q, rfl⟩ := hS
      exact Kn.apure fh4 .none (Kn.ex_move fh4 (.tmp rfl)) rfl ⟨q, rfl⟩ ⟨0, rfl⟩
    · refine Kn.ok fun fa4 u L fh4 hS hH => ?_
      replace fh4 := fh4.more (show fa4.eval (.tmp 188) = Value.slice (some ⟨gv, 0, none⟩) 8 cv from hH 4 188 rfl rfl)
      obtain ⟨q, rfl⟩ := hS
      refine Kn.aop fh4 .none (Kn.ex_indexAddr fh4 (.tmp rfl) .const) fun Ko hKo => ?_
      go_simp
      try go_bits
      exact hKo _ _ rfl ⟨q, rfl⟩ ⟨0, rfl⟩
    · refine Kn.ok fun fa4 u L fh4 hS hH => ?_
      replace fh4 := fh4.more (show fa4.eval (.tmp 189) = Value.pointer (some ⟨gv, 4, none⟩) from hH 5 189 rfl rfl)
      obtain ⟨q, rfl⟩ := hS
      refine Kn.aop fh4 .none (Kn.ex_load fh4 (.tmp rfl)) fun Ko hKo => ?_
      go_simp
      try go_bits
      exact hKo _ _ rfl ⟨q, rfl⟩ ⟨0, rfl⟩
    · refine Kn.ok fun fa4 u L fh4 hS hH => ?_
      replace fh4 := fh4.more (show fa4.eval (.tmp 190) = Value.int .i64 (xe : Int) from hH 6 190 rfl rfl)
      obtain ⟨q, rfl⟩ := hS
      refine Kn.acall fh4 .none (Kn.ex_call fh4 (.cons (.tmp rfl) (.cons .const .nil))) Tryd.call25 (turn_l xe 11 11 yb _ be rfl (by omega) Hyb.out) fun e u2 hp => ?_
      obtain ⟨rfl, q2, rfl⟩ := hp
      exact ⟨_, rfl, rfl, ⟨_, World.drewN_drewN _ _ _⟩, ⟨_, rfl⟩⟩
    · refine Kn.ok fun fa4 u L fh4 hS hH => ?_
      replace fh4 := fh4.more (show fa4.eval (.tmp 187) = Value.int .i64 (ya : Int) from hH 3 187 rfl rfl)
      replace fh4 := fh4.more (show fa4.eval (.tmp 191) = Value.int .i64 (yb : Int) from hH 7 191 rfl rfl)
      obtain ⟨q, rfl⟩ := hS
      refine Kn.aop fh4 .none (Kn.ex_bin fh4 (.tmp rfl) (.tmp rfl)) fun Ko hKo => ?_
      go_simp
      try go_bits
      exact hKo _ _ rfl ⟨q, rfl⟩ ⟨0, rfl⟩
    · refine Kn.ok fun fa4 u L fh4 hS hH => ?_
      obtain ⟨q, rfl⟩ := hS
      exact Kn.apure fh4 .none (Kn.ex_move fh4 (.tmp rfl)) rfl ⟨q, rfl⟩ ⟨0, rfl⟩
    · refine Kn.ok fun fa4 u L fh4 hS hH => ?_
      replace fh4 := fh4.more (show fa4.eval (.tmp 193) = Value.slice (some ⟨gv, 0, none⟩) 8 cv from hH 9 193 rfl rfl)
      obtain ⟨q, rfl⟩ := hS
      refine Kn.aop fh4 .none (Kn.ex_indexAddr fh4 (.tmp rfl) .const) fun Ko hKo => ?_
      go_simp
      try go_bits
      exact hKo _ _ rfl ⟨q, rfl⟩ ⟨0, rfl⟩
    · refine Kn.ok fun fa4 u L fh4 hS hH => ?_
      replace fh4 := fh4.more (show fa4.eval (.tmp 194) = Value.pointer (some ⟨gv, 4, none⟩) from hH 10 194 rfl rfl)
      obtain ⟨q, rfl⟩ := hS
      refine Kn.aop fh4 .none (Kn.ex_load fh4 (.tmp rfl)) fun Ko hKo => ?_
      go_simp
      try go_bits
      exact hKo _ _ rfl ⟨q, rfl⟩ ⟨0, rfl⟩
    · refine Kn.ok fun fa4 u L fh4 hS hH => ?_
      replace fh4 := fh4.more (show fa4.eval (.tmp 195) = Value.int .i64 (xe : Int) from hH 11 195 rfl rfl)
      obtain ⟨q, rfl⟩ := hS
      refine Kn.acall fh4 .none (Kn.ex_call fh4 (.cons (.tmp rfl) (.cons .const .nil))) Tryd.call25 (turn_l xe 25 25 yc _ be rfl (by omega) Hyc.out) fun e u2 hp => ?_
      obtain ⟨rfl, q2, rfl⟩ := hp
      exact ⟨_, rfl, rfl, ⟨_, World.drewN_drewN _ _ _⟩, ⟨_, rfl⟩⟩
    · refine Kn.ok fun fa4 u L fh4 hS hH => ?_
      replace fh4 := fh4.more (show fa4.eval (.tmp 192) = Value.int .i64 (yd : Int) from hH 8 192 rfl rfl)
      replace fh4 := fh4.more (show fa4.eval (.tmp 196) = Value.int .i64 (yc : Int) from hH 12 196 rfl rfl)
      obtain ⟨q, rfl⟩ := hS
      refine Kn.aop fh4 .none (Kn.ex_bin fh4 (.tmp rfl) (.tmp rfl)) fun Ko hKo => ?_
      go_simp
      try go_bits
      exact hKo _ _ rfl ⟨q, rfl⟩ ⟨0, rfl⟩
    · refine Kn.ok fun fa4 u L fh4 hS hH => ?_
      replace fh4 := fh4.more (show fa4.eval (.tmp 197) = Value.int .i64 (s1 : Int) from hH 13 197 rfl rfl)
      obtain ⟨q, rfl⟩ := hS
      exact Kn.apure fh4 .none (Kn.ex_assign fh4 (.tmp rfl)) rfl ⟨q, rfl⟩ ⟨0, rfl⟩
    intro fa4 v3 fh4 hS hT
    clear fh3 fa3
    replace fh4 := fh4.more (show fa4.eval (.tmp 23) = Value.int .i64 (s1 : Int) from hT 14 23 rfl)
    clear hT
    refine hK5 _ _ ?_
    clear hK5 K5
    obtain ⟨q3, rfl⟩ := hS
    clear jd je Hya Hyb Hyc bya byb byc byd
    obtain ⟨ya, hya, bya, jya⟩ := andN xe xf be bf
    obtain ⟨ne, hne⟩ : ∃ n, 4294967295 - xe = n := ⟨_, rfl⟩
    have bne : ne < 4294967296 := by omega
    have jne : 4294967295 - (xe : Int) = (ne : Int) := by omega
    obtain ⟨yb, hyb, byb, jyb⟩ := andN ne xg bne bg
    obtain ⟨ch, hch, bch, jch⟩ := xorN ya yb bya byb
    have Hch : Hid (chs xe xf xg = ch) := Lib.hid (by rw [chs, hya, hne, hyb, hch])
    clear hya hne hyb hch
    refine wp_seq_k fun K6 hK6 => ?_
    refine Kn.still (by kernel_rfl) (by kernel_rfl) ?_
    refine Kn.spure fh4 rfl rfl .none (Kn.ex_move fh4 (.tmp rfl)) fun fa5 fh5 => ?_
    clear fh4 fa4
    refine Kn.sstep fh5 rfl rfl .none (Kn.ex_indexAddr fh5 (.tmp rfl) .const) fun Ko hKo => ?_
    go_simp
    try go_bits
    refine hKo _ fun fa6 fh6 => ?_
    clear hKo Ko fh5 fa5
    refine Kn.sstep fh6 rfl rfl .none (Kn.ex_load fh6 (.tmp rfl)) fun Ko hKo => ?_
    go_simp
    try go_bits
    refine hKo _ fun fa7 fh7 => ?_
    clear hKo Ko fh6 fa6
    refine Kn.spure fh7 rfl rfl .none (Kn.ex_move fh7 (.tmp rfl)) fun fa8 fh8 => ?_
    clear fh7 fa7
    refine Kn.sstep fh8 rfl rfl .none (Kn.ex_indexAddr fh8 (.tmp rfl) .const) fun Ko hKo => ?_
    go_simp
    try go_bits
    refine hKo _ fun fa9 fh9 => ?_
    clear hKo Ko fh8 fa8
    refine Kn.sstep fh9 rfl rfl .none (Kn.ex_load fh9 (.tmp rfl)) fun Ko hKo => ?_
    go_simp
    try go_bits
    refine hKo _ fun fa10 fh10 => ?_
    clear hKo Ko fh9 fa9
    refine Kn.sstep fh10 rfl rfl .none (Kn.ex_bin fh10 (.tmp rfl) (.tmp rfl)) fun Ko hKo => ?_
    go_simp
    try go_bits
    refine hKo _ fun fa11 fh11 => ?_
    clear hKo Ko fh10 fa10
    refine Kn.spure fh11 rfl rfl .none (Kn.ex_move fh11 (.tmp rfl)) fun fa12 fh12 => ?_
    clear fh11 fa11
    refine Kn.sstep fh12 rfl rfl .none (Kn.ex_indexAddr fh12 (.tmp rfl) .const) fun Ko hKo => ?_
    go_simp
    try go_bits
    refine hKo _ fun fa13 fh13 => ?_
    clear hKo Ko fh12 fa12
    refine Kn.sstep fh13 rfl rfl .none (Kn.ex_load fh13 (.tmp rfl)) fun Ko hKo => ?_
    go_simp
    try go_bits
    refine hKo _ fun fa14 fh14 => ?_
    clear hKo Ko fh13 fa13
    refine Kn.sstep fh14 rfl rfl .none (Kn.ex_bin fh14 .const (.tmp rfl)) fun Ko hKo => ?_
    go_simp
    try go_bits
    refine hKo _ fun fa15 fh15 => ?_
    clear hKo Ko fh14 fa14
    refine Kn.spure fh15 rfl rfl .none (Kn.ex_move fh15 (.tmp rfl)) fun fa16 fh16 => ?_
    clear fh15 fa15
    refine Kn.sstep fh16 rfl rfl .none (Kn.ex_indexAddr fh16 (.tmp rfl) .const) fun Ko hKo => ?_
    go_simp
    try go_bits
    refine hKo _ fun fa17 fh17 => ?_
    clear hKo Ko fh16 fa16
    refine Kn.sstep fh17 rfl rfl .none (Kn.ex_load fh17 (.tmp rfl)) fun Ko hKo => ?_
    go_simp
    try go_bits
    refine hKo _ fun fa18 fh18 => ?_
    clear hKo Ko fh17 fa17
    refine Kn.sstep fh18 rfl rfl .none (Kn.ex_bin fh18 (.tmp rfl) (.tmp rfl)) fun Ko hKo => ?_
    go_simp
    try go_bits
    refine hKo _ fun fa19 fh19 => ?_
    clear hKo Ko fh18 fa18
    refine Kn.sstep fh19 rfl rfl .none (Kn.ex_bin fh19 (.tmp rfl) (.tmp rfl)) fun Ko hKo => ?_
    go_simp
    try go_bits
    refine hKo _ fun fa20 fh20 => ?_
    clear hKo Ko fh19 fa19
    refine Kn.spure fh20 rfl rfl .none (Kn.ex_assign fh20 (.tmp rfl)) fun fa21 fh21 => ?_
    clear fh20 fa20
    refine wpStill_nil ?_
    refine hK6 _ _ ?_
    clear hK6 K6
    replace fh21 := fh21.cut (.cons (t := 24) rfl (.cons (t := 23) rfl (.cons (t := 22) rfl (.cons (t := 21) rfl (.cons (t := 14) rfl (.cons (t := 13) rfl (.cons (t := 12) rfl (.cons (t := 7) rfl (.cons (t := 1) rfl .nil)))))))))
    clear jya jne jyb jch bya bne byb
    obtain ⟨z1, hz1⟩ : ∃ z, xh + s1 = z := ⟨_, rfl⟩
    obtain ⟨z2, hz2⟩ : ∃ z, z1 + ch = z := ⟨_, rfl⟩
    obtain ⟨z3, hz3⟩ : ∃ z, z2 + xk = z := ⟨_, rfl⟩
    obtain ⟨z4, hz4⟩ : ∃ z, z3 + xw = z := ⟨_, rfl⟩
    obtain ⟨t, ht⟩ : ∃ y, z4 % 4294967296 = y := ⟨_, rfl⟩
    have a1 : (xh : Int) + (s1 : Int) = (z1 : Int) := by omega
    have a2 : (z1 : Int) + (ch : Int) = (z2 : Int) := by omega
    have a3 : (z2 : Int) + (xk : Int) = (z3 : Int) := by omega
    have a4 : (z3 : Int) + (xw : Int) = (z4 : Int) := by omega
    have a5 : (z4 : Int) % 4294967296 = (t : Int) := by omega
    have l1 : z1 < 22000000000 := by omega
    have l2 : z2 < 22000000000 := by omega
    have l3 : z3 < 22000000000 := by omega
    have l4 : z4 < 22000000000 := by omega
    have bt1 : t < 4294967296 := by omega
    have HT1 : Hid (t1 ⟨xa, xb, xc, xd, xe, xf, xg, xh⟩ xk xw = t) := Lib.hid (by rw [t1]; simp only []; rw [Hs1.out, Hch.out, hz1, hz2, hz3, hz4, ht])
    clear hz1 hz2 hz3 hz4 ht
    have hlti : (k : Int) < 64 := by omega
    refine wp_seq_k fun K7 hK7 => ?_
    refine Kn.still (by kernel_rfl) (by kernel_rfl) ?_
    refine Kn.spure fh21 rfl rfl .none (Kn.ex_move fh21 (.tmp rfl)) fun fa22 fh22 => ?_
    clear fh21 fa21
    refine Kn.sstep fh22 rfl rfl .none (Kn.ex_indexAddr fh22 (.tmp rfl) .const) fun Ko hKo => ?_
    go_simp
    try go_bits
    refine hKo _ fun fa23 fh23 => ?_
    clear hKo Ko fh22 fa22
    refine Kn.sstep fh23 rfl rfl .none (Kn.ex_load fh23 (.tmp rfl)) fun Ko hKo => ?_
    go_simp
    try go_bits
    refine hKo _ fun fa24 fh24 => ?_
    clear hKo Ko fh23 fa23
    refine Kn.spure fh24 rfl rfl .none (Kn.ex_move fh24 (.tmp rfl)) fun fa25 fh25 => ?_
    clear fh24 fa24
    refine Kn.sstep fh25 rfl rfl .none (Kn.ex_bin fh25 (.tmp rfl) (.tmp rfl)) fun Ko hKo => ?_
    go_simp
    try go_bits
    refine hKo _ fun fa26 fh26 => ?_
    clear hKo Ko fh25 fa25
    refine Kn.spure fh26 rfl rfl .none (Kn.ex_move fh26 (.tmp rfl)) fun fa27 fh27 => ?_
    clear fh26 fa26
    refine Kn.sstep fh27 rfl rfl .none (Kn.ex_bin fh27 (.tmp rfl) (.tmp rfl)) fun Ko hKo => ?_
    go_simp
    try go_bits
    refine hKo _ fun fa28 fh28 => ?_
    clear hKo Ko fh27 fa27
    refine Kn.spure fh28 rfl rfl .none (Kn.ex_move fh28 (.tmp rfl)) fun fa29 fh29 => ?_
    clear fh28 fa28
    refine Kn.spure fh29 rfl rfl .none (Kn.ex_move fh29 (.tmp rfl)) fun fa30 fh30 => ?_
    clear fh29 fa29
    refine Kn.sstep fh30 rfl rfl .none (Kn.ex_indexAddr fh30 (.tmp rfl) (.tmp rfl)) fun Ko hKo => ?_
    go_simp
    try go_bits
    refine hKo _ fun fa31 fh31 => ?_
    clear hKo Ko fh30 fa30
    refine Kn.sstep fh31 rfl rfl .none (Kn.ex_load fh31 (.tmp rfl)) fun Ko hKo => ?_
    go_simp
    try go_bits
    refine hKo _ fun fa32 fh32 => ?_
    clear hKo Ko fh31 fa31
    refine Kn.sstep fh32 rfl rfl .none (Kn.ex_bin fh32 (.tmp rfl) (.tmp rfl)) fun Ko hKo => ?_
    go_simp
    try go_bits
    refine hKo _ fun fa33 fh33 => ?_
    clear hKo Ko fh32 fa32
    refine Kn.spure fh33 rfl rfl .none (Kn.ex_move fh33 (.tmp rfl)) fun fa34 fh34 => ?_
    clear fh33 fa33
    refine Kn.spure fh34 rfl rfl .none (Kn.ex_move fh34 (.tmp rfl)) fun fa35 fh35 => ?_
    clear fh34 fa34
    refine Kn.sstep fh35 rfl rfl .none (Kn.ex_indexAddr fh35 (.tmp rfl) (.tmp rfl)) fun Ko hKo => ?_
    go_simp
    try go_bits
    refine hKo _ fun fa36 fh36 => ?_
    clear hKo Ko fh35 fa35
    refine Kn.sstep fh36 rfl rfl .none (Kn.ex_load fh36 (.tmp rfl)) fun Ko hKo => ?_
    go_simp
    try go_bits
    refine hKo _ fun fa37 fh37 => ?_
    clear hKo Ko fh36 fa36
    refine Kn.sstep fh37 rfl rfl .none (Kn.ex_bin fh37 (.tmp rfl) (.tmp rfl)) fun Ko hKo => ?_
    go_simp
    try go_bits
    refine hKo _ fun fa38 fh38 => ?_
    clear hKo Ko fh37 fa37
    refine Kn.sstep fh38 rfl rfl .none (Kn.ex_bin fh38 (.tmp rfl) .const) fun Ko hKo => ?_
    go_simp
    try go_bits
    try rw [a5]
    refine hKo _ fun fa39 fh39 => ?_
    clear hKo Ko fh38 fa38
    refine Kn.spure fh39 rfl rfl .none (Kn.ex_assign fh39 (.tmp rfl)) fun fa40 fh40 => ?_
    clear fh39 fa39
    refine wpStill_nil ?_
    refine hK7 _ _ ?_
    clear hK7 K7
    replace fh40 := fh40.cut (.cons (t := 25) rfl (.cons (t := 22) rfl (.cons (t := 21) rfl (.cons (t := 14) rfl (.cons (t := 13) rfl (.cons (t := 12) rfl (.cons (t := 7) rfl (.cons (t := 1) rfl .nil))))))))
    clear a1 a2 a3 a4 a5 l1 l2 l3 l4 Hs1 Hch bds1 bch c_w c_k hlti
    obtain ⟨ya, hya, bya⟩ := rotN xa 2 (by omega) ba
    obtain ⟨yb, hyb, byb⟩ := rotN xa 13 (by omega) ba
    obtain ⟨yc, hyc, byc⟩ := rotN xa 22 (by omega) ba
    obtain ⟨yd, hyd, byd, jd⟩ := xorN ya yb bya byb
    obtain ⟨s0, hye, bds0, je⟩ := xorN yd yc byd byc
    have Hs0 : Hid (bs0 xa = s0) := Lib.hid (by rw [bs0, hya, hyb, hyc, hyd, hye])
    have Hya := Lib.hid hya
    have Hyb := Lib.hid hyb
    have Hyc := Lib.hid hyc
    clear hya hyb hyc hyd hye
    refine Kn.gen (fun u => ∃ q, u = v.drewN q) ⟨q3 + 1 + 1, rfl⟩ fun u ⟨q5, hu5⟩ => ?_
    subst hu5
    refine wp_seq_k fun K8 hK8 => ?_
    refine Kn.any (fun u => ∃ q, u = World.drewN v q) (fun u u' => ∃ q, u' = World.drewN u q) (Kn.TL [Kn.Is (Value.slice (some ⟨gv, 0, none⟩) 8 cv), Kn.Is (Value.pointer (some ⟨gv, 0, none⟩)), Kn.Is (Value.int .i64 (xa : Int)), Kn.Is (Value.int .i64 (ya : Int)), Kn.Is (Value.slice (some ⟨gv, 0, none⟩) 8 cv), Kn.Is (Value.pointer (some ⟨gv, 0, none⟩)), Kn.Is (Value.int .i64 (xa : Int)), Kn.Is (Value.int .i64 (yb : Int)), Kn.Is (Value.int .i64 (yd : Int)), Kn.Is (Value.slice (some ⟨gv, 0, none⟩) 8 cv), Kn.Is (Value.pointer (some ⟨gv, 0, none⟩)), Kn.Is (Value.int .i64 (xa : Int)), Kn.Is (Value.int .i64 (yc : Int)), Kn.Is (Value.int .i64 (s0 : Int)), Kn.Is (Value.int .i64 (s0 : Int))]) (by kernel_rfl) fh40 (by kernel_rfl) (by kernel_rfl) rfl (Kn.Keeps.all (.cons Kn.Is.keep (.cons Kn.Is.keep (.cons Kn.Is.keep (.cons Kn.Is.keep (.cons Kn.Is.keep (.cons Kn.Is.keep (.cons Kn.Is.keep (.cons Kn.Is.keep (.cons Kn.Is.keep (.cons Kn.Is.keep (.cons Kn.Is.keep (.cons Kn.Is.keep (.cons Kn.Is.keep (.cons Kn.Is.keep (.cons Kn.Is.keep .nil)))))))))))))))) ⟨q5 + 1, rfl⟩ ⟨?_, ?_, ?_, ?_, ?_, ?_, ?_, ?_, ?_, ?_, ?_, ?_, ?_, ?_, ?_, trivial⟩ ?_
    · refine Kn.ok fun fa41 u L fh41 hS hH => ?_
      obtain ⟨q, rfl⟩ := hS
      exact Kn.apure fh41 .none (Kn.ex_move fh41 (.tmp rfl)) rfl ⟨q, rfl⟩ ⟨0, rfl⟩
    · refine Kn.ok fun fa41 u L fh41 hS hH => ?_
      replace fh41 := fh41.more (show fa41.eval (.tmp 232) = Value.slice (some ⟨gv, 0, none⟩) 8 cv from hH 0 232 rfl rfl)
      obtain ⟨q, rfl⟩ := hS
      refine Kn.aop fh41 .none (Kn.ex_indexAddr fh41 (.tmp rfl) .const) fun Ko hKo => ?_
      go_simp
      try go_bits
      exact hKo _ _ rfl ⟨q, rfl⟩ ⟨0, rfl⟩
    · refine Kn.ok fun fa41 u L fh41 hS hH => ?_
      replace fh41 := fh41.more (show fa41.eval (.tmp 233) = Value.pointer (some ⟨gv, 0, none⟩) from hH 1 233 rfl rfl)
      obtain ⟨q, rfl⟩ := hS
      refine Kn.aop fh41 .none (Kn.ex_load fh41 (.tmp rfl)) fun Ko hKo => ?_
      go_simp
      try go_bits
      exact hKo _ _ rfl ⟨q, rfl⟩ ⟨0, rfl⟩
    · refine Kn.ok fun fa41 u L fh41 hS hH => ?_
      replace fh41 := fh41.more (show fa41.eval (.tmp 234) = Value.int .i64 (xa : Int) from hH 2 234 rfl rfl)
      obtain ⟨q, rfl⟩ := hS
      refine Kn.acall fh41 .none (Kn.ex_call fh41 (.cons (.tmp rfl) (.cons .const .nil))) Tryd.call25 (turn_l xa 2 2 ya _ ba rfl (by omega) Hya.out) fun e u2 hp => ?_
      obtain ⟨rfl, q2, rfl⟩ := hp
      exact ⟨_, rfl, rfl, ⟨_, World.drewN_drewN _ _ _⟩, ⟨_, rfl⟩⟩
    · refine Kn.ok fun fa41 u L fh41 hS hH => ?_
      obtain ⟨q, rfl⟩ := hS
      exact Kn.apure fh41 .none (Kn.ex_move fh41 (.tmp rfl)) rfl ⟨q, rfl⟩ ⟨0, rfl⟩
    · refine Kn.ok fun fa41 u L fh41 hS hH => ?_
      replace fh41 := fh41.more (show fa41.eval (.tmp 236) = Value.slice (some ⟨gv, 0, none⟩) 8 cv from hH 4 236 rfl rfl)
      obtain ⟨q, rfl⟩ := hS
      refine Kn.aop fh41 .none (Kn.ex_indexAddr fh41 (.tmp rfl) .const) fun Ko hKo => ?_
      go_simp
      try go_bits
      exact hKo _ _ rfl ⟨q, rfl⟩ ⟨0, rfl⟩
    · refine Kn.ok fun fa41 u L fh41 hS hH => ?_
      replace fh41 := fh41.more (show fa41.eval (.tmp 237) = Value.pointer (some ⟨gv, 0, none⟩) from hH 5 237 rfl rfl)
      obtain ⟨q, rfl⟩ := hS
      refine Kn.aop fh41 .none (Kn.ex_load fh41 (.tmp rfl)) fun Ko hKo => ?_
      go_simp
      try go_bits
      exact hKo _ _ rfl ⟨q, rfl⟩ ⟨0, rfl⟩
    · refine Kn.ok fun fa41 u L fh41 hS hH => ?_
      replace fh41 := fh41.more (show fa41.eval (.tmp 238) = Value.int .i64 (xa : Int) from hH 6 238 rfl rfl)
      obtain ⟨q, rfl⟩ := hS
      refine Kn.acall fh41 .none (Kn.ex_call fh41 (.cons (.tmp rfl) (.cons .const .nil))) Tryd.call25 (turn_l xa 13 13 yb _ ba rfl (by omega) Hyb.out) fun e u2 hp => ?_
      obtain ⟨rfl, q2, rfl⟩ := hp
      exact ⟨_, rfl, rfl, ⟨_, World.drewN_drewN _ _ _⟩, ⟨_, rfl⟩⟩
    · refine Kn.ok fun fa41 u L fh41 hS hH => ?_
      replace fh41 := fh41.more (show fa41.eval (.tmp 235) = Value.int .i64 (ya : Int) from hH 3 235 rfl rfl)
      replace fh41 := fh41.more (show fa41.eval (.tmp 239) = Value.int .i64 (yb : Int) from hH 7 239 rfl rfl)
      obtain ⟨q, rfl⟩ := hS
      refine Kn.aop fh41 .none (Kn.ex_bin fh41 (.tmp rfl) (.tmp rfl)) fun Ko hKo => ?_
      go_simp
      try go_bits
      exact hKo _ _ rfl ⟨q, rfl⟩ ⟨0, rfl⟩
    · refine Kn.ok fun fa41 u L fh41 hS hH => ?_
      obtain ⟨q, rfl⟩ := hS
      exact Kn.apure fh41 .none (Kn.ex_move fh41 (.tmp rfl)) rfl ⟨q, rfl⟩ ⟨0, rfl⟩
    · refine Kn.ok fun fa41 u L fh41 hS hH => ?_
      replace fh41 := fh41.more (show fa41.eval (.tmp 241) = Value.slice (some ⟨gv, 0, none⟩) 8 cv from hH 9 241 rfl rfl)
      obtain ⟨q, rfl⟩ := hS
      refine Kn.aop fh41 .none (Kn.ex_indexAddr fh41 (.tmp rfl) .const) fun Ko hKo => ?_
      go_simp
      try go_bits
      exact hKo _ _ rfl ⟨q, rfl⟩ ⟨0, rfl⟩
    · refine Kn.ok fun fa41 u L fh41 hS hH => ?_
      replace fh41 := fh41.more (show fa41.eval (.tmp 242) = Value.pointer (some ⟨gv, 0, none⟩) from hH 10 242 rfl rfl)
      obtain ⟨q, rfl⟩ := hS
      refine Kn.aop fh41 .none (Kn.ex_load fh41 (.tmp rfl)) fun Ko hKo => ?_
      go_simp
      try go_bits
      exact hKo _ _ rfl ⟨q, rfl⟩ ⟨0, rfl⟩
    · refine Kn.ok fun fa41 u L fh41 hS hH => ?_
      replace fh41 := fh41.more (show fa41.eval (.tmp 243) = Value.int .i64 (xa : Int) from hH 11 243 rfl rfl)
      obtain ⟨q, rfl⟩ := hS
      refine Kn.acall fh41 .none (Kn.ex_call fh41 (.cons (.tmp rfl) (.cons .const .nil))) Tryd.call25 (turn_l xa 22 22 yc _ ba rfl (by omega) Hyc.out) fun e u2 hp => ?_
      obtain ⟨rfl, q2, rfl⟩ := hp
      exact ⟨_, rfl, rfl, ⟨_, World.drewN_drewN _ _ _⟩, ⟨_, rfl⟩⟩
    · refine Kn.ok fun fa41 u L fh41 hS hH => ?_
      replace fh41 := fh41.more (show fa41.eval (.tmp 240) = Value.int .i64 (yd : Int) from hH 8 240 rfl rfl)
      replace fh41 := fh41.more (show fa41.eval (.tmp 244) = Value.int .i64 (yc : Int) from hH 12 244 rfl rfl)
      obtain ⟨q, rfl⟩ := hS
      refine Kn.aop fh41 .none (Kn.ex_bin fh41 (.tmp rfl) (.tmp rfl)) fun Ko hKo => ?_
      go_simp
      try go_bits
      exact hKo _ _ rfl ⟨q, rfl⟩ ⟨0, rfl⟩
    · refine Kn.ok fun fa41 u L fh41 hS hH => ?_
      replace fh41 := fh41.more (show fa41.eval (.tmp 245) = Value.int .i64 (s0 : Int) from hH 13 245 rfl rfl)
      obtain ⟨q, rfl⟩ := hS
      exact Kn.apure fh41 .none (Kn.ex_assign fh41 (.tmp rfl)) rfl ⟨q, rfl⟩ ⟨0, rfl⟩
    intro fa41 v5 fh41 hS hT
    clear fh40 fa40
    replace fh41 := fh41.more (show fa41.eval (.tmp 26) = Value.int .i64 (s0 : Int) from hT 14 26 rfl)
    clear hT
    refine hK8 _ _ ?_
    clear hK8 K8
    obtain ⟨q6, rfl⟩ := hS
    clear jd je Hya Hyb Hyc bya byb byc byd
    obtain ⟨ya, hya, bya, jya⟩ := andN xa xb ba bb
    obtain ⟨yb, hyb, byb, jyb⟩ := andN xa xc ba bc
    obtain ⟨yc, hyc, byc, jyc⟩ := andN xb xc bb bc
    obtain ⟨yd, hyd, byd, jyd⟩ := xorN ya yb bya byb
    obtain ⟨ma, hma, bma, jma⟩ := xorN yd yc byd byc
    have Hma : Hid (maj xa xb xc = ma) := Lib.hid (by rw [maj, hya, hyb, hyc, hyd, hma])
    clear hya hyb hyc hyd hma
    refine wp_seq_k fun K9 hK9 => ?_
    refine Kn.still (by kernel_rfl) (by kernel_rfl) ?_
    refine Kn.spure fh41 rfl rfl .none (Kn.ex_move fh41 (.tmp rfl)) fun fa42 fh42 => ?_
    clear fh41 fa41
    refine Kn.sstep fh42 rfl rfl .none (Kn.ex_indexAddr fh42 (.tmp rfl) .const) fun Ko hKo => ?_
    go_simp
    try go_bits
    refine hKo _ fun fa43 fh43 => ?_
    clear hKo Ko fh42 fa42
    refine Kn.sstep fh43 rfl rfl .none (Kn.ex_load fh43 (.tmp rfl)) fun Ko hKo => ?_
    go_simp
    try go_bits
    refine hKo _ fun fa44 fh44 => ?_
    clear hKo Ko fh43 fa43
    refine Kn.spure fh44 rfl rfl .none (Kn.ex_move fh44 (.tmp rfl)) fun fa45 fh45 => ?_
    clear fh44 fa44
    refine Kn.sstep fh45 rfl rfl .none (Kn.ex_indexAddr fh45 (.tmp rfl) .const) fun Ko hKo => ?_
    go_simp
    try go_bits
    refine hKo _ fun fa46 fh46 => ?_
    clear hKo Ko fh45 fa45
    refine Kn.sstep fh46 rfl rfl .none (Kn.ex_load fh46 (.tmp rfl)) fun Ko hKo => ?_
    go_simp
    try go_bits
    refine hKo _ fun fa47 fh47 => ?_
    clear hKo Ko fh46 fa46
    refine Kn.sstep fh47 rfl rfl .none (Kn.ex_bin fh47 (.tmp rfl) (.tmp rfl)) fun Ko hKo => ?_
    go_simp
    try go_bits
    refine hKo _ fun fa48 fh48 => ?_
    clear hKo Ko fh47 fa47
    refine Kn.spure fh48 rfl rfl .none (Kn.ex_move fh48 (.tmp rfl)) fun fa49 fh49 => ?_
    clear fh48 fa48
    refine Kn.sstep fh49 rfl rfl .none (Kn.ex_indexAddr fh49 (.tmp rfl) .const) fun Ko hKo => ?_
    go_simp
    try go_bits
    refine hKo _ fun fa50 fh50 => ?_
    clear hKo Ko fh49 fa49
    refine Kn.sstep fh50 rfl rfl .none (Kn.ex_load fh50 (.tmp rfl)) fun Ko hKo => ?_
    go_simp
    try go_bits
    refine hKo _ fun fa51 fh51 => ?_
    clear hKo Ko fh50 fa50
    refine Kn.spure fh51 rfl rfl .none (Kn.ex_move fh51 (.tmp rfl)) fun fa52 fh52 => ?_
    clear fh51 fa51
    refine Kn.sstep fh52 rfl rfl .none (Kn.ex_indexAddr fh52 (.tmp rfl) .const) fun Ko hKo => ?_
    go_simp
    try go_bits
    refine hKo _ fun fa53 fh53 => ?_
    clear hKo Ko fh52 fa52
    refine Kn.sstep fh53 rfl rfl .none (Kn.ex_load fh53 (.tmp rfl)) fun Ko hKo => ?_
    go_simp
    try go_bits
    refine hKo _ fun fa54 fh54 => ?_
    clear hKo Ko fh53 fa53
    refine Kn.sstep fh54 rfl rfl .none (Kn.ex_bin fh54 (.tmp rfl) (.tmp rfl)) fun Ko hKo => ?_
    go_simp
    try go_bits
    refine hKo _ fun fa55 fh55 => ?_
    clear hKo Ko fh54 fa54
    refine Kn.sstep fh55 rfl rfl .none (Kn.ex_bin fh55 (.tmp rfl) (.tmp rfl)) fun Ko hKo => ?_
    go_simp
    try go_bits
    refine hKo _ fun fa56 fh56 => ?_
    clear hKo Ko fh55 fa55
    refine Kn.spure fh56 rfl rfl .none (Kn.ex_move fh56 (.tmp rfl)) fun fa57 fh57 => ?_
    clear fh56 fa56
    refine Kn.sstep fh57 rfl rfl .none (Kn.ex_indexAddr fh57 (.tmp rfl) .const) fun Ko hKo => ?_
    go_simp
    try go_bits
    refine hKo _ fun fa58 fh58 => ?_
    clear hKo Ko fh57 fa57
    refine Kn.sstep fh58 rfl rfl .none (Kn.ex_load fh58 (.tmp rfl)) fun Ko hKo => ?_
    go_simp
    try go_bits
    refine hKo _ fun fa59 fh59 => ?_
    clear hKo Ko fh58 fa58
    refine Kn.spure fh59 rfl rfl .none (Kn.ex_move fh59 (.tmp rfl)) fun fa60 fh60 => ?_
    clear fh59 fa59
    refine Kn.sstep fh60 rfl rfl .none (Kn.ex_indexAddr fh60 (.tmp rfl) .const) fun Ko hKo => ?_
    go_simp
    try go_bits
    refine hKo _ fun fa61 fh61 => ?_
    clear hKo Ko fh60 fa60
    refine Kn.sstep fh61 rfl rfl .none (Kn.ex_load fh61 (.tmp rfl)) fun Ko hKo => ?_
    go_simp
    try go_bits
    refine hKo _ fun fa62 fh62 => ?_
    clear hKo Ko fh61 fa61
    refine Kn.sstep fh62 rfl rfl .none (Kn.ex_bin fh62 (.tmp rfl) (.tmp rfl)) fun Ko hKo => ?_
    go_simp
    try go_bits
    refine hKo _ fun fa63 fh63 => ?_
    clear hKo Ko fh62 fa62
    refine Kn.sstep fh63 rfl rfl .none (Kn.ex_bin fh63 (.tmp rfl) (.tmp rfl)) fun Ko hKo => ?_
    go_simp
    try go_bits
    refine hKo _ fun fa64 fh64 => ?_
    clear hKo Ko fh63 fa63
    refine Kn.spure fh64 rfl rfl .none (Kn.ex_assign fh64 (.tmp rfl)) fun fa65 fh65 => ?_
    clear fh64 fa64
    refine wpStill_nil ?_
    refine hK9 _ _ ?_
    clear hK9 K9
    replace fh65 := fh65.cut (.cons (t := 27) rfl (.cons (t := 26) rfl (.cons (t := 25) rfl (.cons (t := 22) rfl (.cons (t := 21) rfl (.cons (t := 14) rfl (.cons (t := 13) rfl (.cons (t := 12) rfl (.cons (t := 7) rfl (.cons (t := 1) rfl .nil))))))))))
    clear jya jyb jyc jyd jma bya byb byc byd
    obtain ⟨z1, hz1⟩ : ∃ z, s0 + ma = z := ⟨_, rfl⟩
    obtain ⟨p, hp⟩ : ∃ y, z1 % 4294967296 = y := ⟨_, rfl⟩
    have a1 : (s0 : Int) + (ma : Int) = (z1 : Int) := by omega
    have a2 : (z1 : Int) % 4294967296 = (p : Int) := by omega
    have l1 : z1 < 22000000000 := by omega
    have bp : p < 4294967296 := by omega
    have HT2 : Hid (t2 ⟨xa, xb, xc, xd, xe, xf, xg, xh⟩ = p) := Lib.hid (by rw [t2]; simp only []; rw [Hs0.out, Hma.out, hz1, hp])
    clear hz1 hp
    refine wp_seq_k fun K10 hK10 => ?_
    refine wp_region_lit ?_
    refine Kn.pure fh65 rfl rfl .none (Kn.ex_move fh65 (.tmp rfl)) fun fa66 fh66 => ?_
    clear fh65 fa65
    refine Kn.pure fh66 rfl rfl .none (Kn.ex_move fh66 (.tmp rfl)) fun fa67 fh67 => ?_
    clear fh66 fa66
    refine Kn.step fh67 rfl rfl .none (Kn.ex_bin fh67 (.tmp rfl) (.tmp rfl)) fun Ko hKo => ?_
    go_simp
    try go_bits
    refine hKo _ _ fun fa68 fh68 => ?_
    clear hKo Ko fh67 fa67
    refine Kn.step fh68 rfl rfl .none (Kn.ex_bin fh68 (.tmp rfl) .const) fun Ko hKo => ?_
    go_simp
    try go_bits
    try rw [a2]
    refine hKo _ _ fun fa69 fh69 => ?_
    clear hKo Ko fh68 fa68
    refine Kn.pure fh69 rfl rfl .none (Kn.ex_assign fh69 (.tmp rfl)) fun fa70 fh70 => ?_
    clear fh69 fa69
    refine wpList_nil ?_
    refine hK10 _ _ ?_
    clear hK10 K10
    replace fh70 := fh70.cut (.cons (t := 28) rfl (.cons (t := 25) rfl (.cons (t := 22) rfl (.cons (t := 21) rfl (.cons (t := 14) rfl (.cons (t := 13) rfl (.cons (t := 12) rfl (.cons (t := 7) rfl (.cons (t := 1) rfl .nil)))))))))
    clear a1 a2 l1 Hs0 Hma bds0 bma
    obtain ⟨z1, hz1⟩ : ∃ z, t + p = z := ⟨_, rfl⟩
    obtain ⟨na, hna⟩ : ∃ y, z1 % 4294967296 = y := ⟨_, rfl⟩
    obtain ⟨z2, hz2⟩ : ∃ z, xd + t = z := ⟨_, rfl⟩
    obtain ⟨ne, hne⟩ : ∃ y, z2 % 4294967296 = y := ⟨_, rfl⟩
    have a1 : (t : Int) + (p : Int) = (z1 : Int) := by omega
    have a2 : (z1 : Int) % 4294967296 = (na : Int) := by omega
    have a3 : (xd : Int) + (t : Int) = (z2 : Int) := by omega
    have a4 : (z2 : Int) % 4294967296 = (ne : Int) := by omega
    have l1 : z1 < 22000000000 := by omega
    have l2 : z2 < 22000000000 := by omega
    have HN : Hid (rnds c0 W (k + 1) = ⟨na, xa, xb, xc, ne, xe, xf, xg⟩) := Lib.hid (by rw [HST.out, step, HT1.out, HT2.out]; simp only []; rw [hz1, hna, hz2, hne])
    clear hz1 hna hz2 hne HT1 HT2 HST
    refine Kn.gen (fun u => ∃ q, u = v.drewN q) ⟨q6 + 1, rfl⟩ fun u ⟨q7, hu7⟩ => ?_
    subst hu7
    refine Kn.tail 28 (by kernel_rfl) (by kernel_rfl) rfl rfl ?_
    refine Kn.spure fh70 rfl rfl .none (Kn.ex_move fh70 (.tmp rfl)) fun fa71 fh71 => ?_
    clear fh70 fa70
    refine Kn.spure fh71 rfl rfl .none (Kn.ex_move fh71 (.tmp rfl)) fun fa72 fh72 => ?_
    clear fh71 fa71
    refine Kn.sstep fh72 rfl rfl .none (Kn.ex_bin fh72 (.tmp rfl) (.tmp rfl)) fun Ko hKo => ?_
    go_simp
    try go_bits
    refine hKo _ fun fa73 fh73 => ?_
    clear hKo Ko fh72 fa72
    refine Kn.sstep fh73 rfl rfl .none (Kn.ex_bin fh73 (.tmp rfl) .const) fun Ko hKo => ?_
    go_simp
    try go_bits
    try rw [a2]
    refine hKo _ fun fa74 fh74 => ?_
    clear hKo Ko fh73 fa73
    refine Kn.spure fh74 rfl rfl .none (Kn.ex_move fh74 (.tmp rfl)) fun fa75 fh75 => ?_
    clear fh74 fa74
    refine Kn.sstep fh75 rfl rfl .none (Kn.ex_indexAddr fh75 (.tmp rfl) .const) fun Ko hKo => ?_
    go_simp
    try go_bits
    refine hKo _ fun fa76 fh76 => ?_
    clear hKo Ko fh75 fa75
    refine Kn.sstep fh76 rfl rfl .none (Kn.ex_load fh76 (.tmp rfl)) fun Ko hKo => ?_
    go_simp
    try go_bits
    refine hKo _ fun fa77 fh77 => ?_
    clear hKo Ko fh76 fa76
    refine Kn.spure fh77 rfl rfl .none (Kn.ex_move fh77 (.tmp rfl)) fun fa78 fh78 => ?_
    clear fh77 fa77
    refine Kn.sstep fh78 rfl rfl .none (Kn.ex_indexAddr fh78 (.tmp rfl) .const) fun Ko hKo => ?_
    go_simp
    try go_bits
    refine hKo _ fun fa79 fh79 => ?_
    clear hKo Ko fh78 fa78
    refine Kn.sstep fh79 rfl rfl .none (Kn.ex_load fh79 (.tmp rfl)) fun Ko hKo => ?_
    go_simp
    try go_bits
    refine hKo _ fun fa80 fh80 => ?_
    clear hKo Ko fh79 fa79
    refine Kn.spure fh80 rfl rfl .none (Kn.ex_move fh80 (.tmp rfl)) fun fa81 fh81 => ?_
    clear fh80 fa80
    refine Kn.sstep fh81 rfl rfl .none (Kn.ex_indexAddr fh81 (.tmp rfl) .const) fun Ko hKo => ?_
    go_simp
    try go_bits
    refine hKo _ fun fa82 fh82 => ?_
    clear hKo Ko fh81 fa81
    refine Kn.sstep fh82 rfl rfl .none (Kn.ex_load fh82 (.tmp rfl)) fun Ko hKo => ?_
    go_simp
    try go_bits
    refine hKo _ fun fa83 fh83 => ?_
    clear hKo Ko fh82 fa82
    refine Kn.spure fh83 rfl rfl .none (Kn.ex_move fh83 (.tmp rfl)) fun fa84 fh84 => ?_
    clear fh83 fa83
    refine Kn.sstep fh84 rfl rfl .none (Kn.ex_indexAddr fh84 (.tmp rfl) .const) fun Ko hKo => ?_
    go_simp
    try go_bits
    refine hKo _ fun fa85 fh85 => ?_
    clear hKo Ko fh84 fa84
    refine Kn.sstep fh85 rfl rfl .none (Kn.ex_load fh85 (.tmp rfl)) fun Ko hKo => ?_
    go_simp
    try go_bits
    refine hKo _ fun fa86 fh86 => ?_
    clear hKo Ko fh85 fa85
    refine Kn.spure fh86 rfl rfl .none (Kn.ex_move fh86 (.tmp rfl)) fun fa87 fh87 => ?_
    clear fh86 fa86
    refine Kn.sstep fh87 rfl rfl .none (Kn.ex_bin fh87 (.tmp rfl) (.tmp rfl)) fun Ko hKo => ?_
    go_simp
    try go_bits
    refine hKo _ fun fa88 fh88 => ?_
    clear hKo Ko fh87 fa87
    refine Kn.sstep fh88 rfl rfl .none (Kn.ex_bin fh88 (.tmp rfl) .const) fun Ko hKo => ?_
    go_simp
    try go_bits
    try rw [a4]
    refine hKo _ fun fa89 fh89 => ?_
    clear hKo Ko fh88 fa88
    refine Kn.spure fh89 rfl rfl .none (Kn.ex_move fh89 (.tmp rfl)) fun fa90 fh90 => ?_
    clear fh89 fa89
    refine Kn.sstep fh90 rfl rfl .none (Kn.ex_indexAddr fh90 (.tmp rfl) .const) fun Ko hKo => ?_
    go_simp
    try go_bits
    refine hKo _ fun fa91 fh91 => ?_
    clear hKo Ko fh90 fa90
    refine Kn.sstep fh91 rfl rfl .none (Kn.ex_load fh91 (.tmp rfl)) fun Ko hKo => ?_
    go_simp
    try go_bits
    refine hKo _ fun fa92 fh92 => ?_
    clear hKo Ko fh91 fa91
    refine Kn.spure fh92 rfl rfl .none (Kn.ex_move fh92 (.tmp rfl)) fun fa93 fh93 => ?_
    clear fh92 fa92
    refine Kn.sstep fh93 rfl rfl .none (Kn.ex_indexAddr fh93 (.tmp rfl) .const) fun Ko hKo => ?_
    go_simp
    try go_bits
    refine hKo _ fun fa94 fh94 => ?_
    clear hKo Ko fh93 fa93
    refine Kn.sstep fh94 rfl rfl .none (Kn.ex_load fh94 (.tmp rfl)) fun Ko hKo => ?_
    go_simp
    try go_bits
    refine hKo _ fun fa95 fh95 => ?_
    clear hKo Ko fh94 fa94
    refine Kn.spure fh95 rfl rfl .none (Kn.ex_move fh95 (.tmp rfl)) fun fa96 fh96 => ?_
    clear fh95 fa95
    refine Kn.sstep fh96 rfl rfl .none (Kn.ex_indexAddr fh96 (.tmp rfl) .const) fun Ko hKo => ?_
    go_simp
    try go_bits
    refine hKo _ fun fa97 fh97 => ?_
    clear hKo Ko fh96 fa96
    refine Kn.sstep fh97 rfl rfl .none (Kn.ex_load fh97 (.tmp rfl)) fun Ko hKo => ?_
    go_simp
    try go_bits
    refine hKo _ fun fa98 fh98 => ?_
    clear hKo Ko fh97 fa97
    refine wpStill_nil ?_
    refine Kn.step fh98 rfl rfl .none (Kn.ex_buildSlice fh98 (.cons (.tmp rfl) (.cons (.tmp rfl) (.cons (.tmp rfl) (.cons (.tmp rfl) (.cons (.tmp rfl) (.cons (.tmp rfl) (.cons (.tmp rfl) (.cons (.tmp rfl) .nil))))))))) fun Ko hKo => ?_
    go_simp
    try go_bits
    refine hKo _ _ fun fa99 fh99 => ?_
    clear hKo Ko fh98 fa98
    refine Kn.pure fh99 rfl rfl .none (Kn.ex_assign fh99 (.tmp rfl)) fun fa100 fh100 => ?_
    clear fh99 fa99
    refine wpList_nil ?_
    refine Kn.block_normal ?_
    refine hK4 _ _ ?_
    clear hK4 K4
    replace fh100 := fh100.cut (.cons (t := 21) rfl (.cons (t := 22) rfl (.cons (t := 14) rfl (.cons (t := 13) rfl (.cons (t := 12) rfl (.cons (t := 7) rfl (.cons (t := 1) rfl .nil)))))))
    clear a1 a2 a3 a4 l1 l2 c_a c_b c_c c_d c_e c_f c_g c_h
    refine wp_region_lit ?_
    refine Kn.pure fh100 rfl rfl .none (Kn.ex_move fh100 (.tmp rfl)) fun fa101 fh101 => ?_
    clear fh100 fa100
    refine Kn.step fh101 rfl rfl .none (Kn.ex_bin fh101 (.tmp rfl) .const) fun Ko hKo => ?_
    go_simp
    try go_bits
    refine hKo _ _ fun fa102 fh102 => ?_
    clear hKo Ko fh101 fa101
    refine Kn.pure fh102 rfl rfl .none (Kn.ex_assign fh102 (.tmp rfl)) fun fa103 fh103 => ?_
    clear fh102 fa102
    refine wpList_nil ?_
    replace fh103 := fh103.cut (.cons (t := 22) rfl (.cons (t := 21) rfl (.cons (t := 14) rfl (.cons (t := 13) rfl (.cons (t := 12) rfl (.cons (t := 7) rfl (.cons (t := 1) rfl .nil)))))))
    exact hKl1 (m - 1) _ _ (by omega) ⟨k + 1, _, _, fh103.cut (.turn (t := 22) rfl (by go_num) (.cons (t := 21) rfl (.cons (t := 14) rfl (.cons (t := 13) rfl (.cons (t := 12) rfl (.cons (t := 7) rfl (.cons (t := 1) rfl .nil))))))), by omega, Lib.hid ((HS.out.drewN _).alloc _), Lib.hid (by rw [HN.out]; refine rn_new8 _ _ _ _ _ _ _ _ _ _ ?_; rfl), (by have := HS.out.oh.lt'; show _ ≠ gh; simp; omega)⟩
  · obtain rfl : k = 64 := by omega
    refine wp_seq_k fun K2 hK2 => ?_
    refine wp_seq_k fun K3 hK3 => ?_
    refine wp_region_lit ?_
    refine Kn.pure fh1 rfl rfl .none (Kn.ex_move fh1 (.tmp rfl)) fun fa2 fh2 => ?_
    clear fh1 fa1
    have qd : decide (((64 : Nat) : Int) < 64) = false := decide_eq_false (by omega)
    refine Kn.step fh2 rfl rfl .none (Kn.ex_bin fh2 (.tmp rfl) .const) fun Ko hKo => ?_
    go_simp
    try go_bits
    refine hKo _ _ fun fa3 fh3 => ?_
    clear hKo Ko fh2 fa2
    clear qd
    refine wpList_nil ?_
    refine hK3 _ _ ?_
    clear hK3 K3
    replace fh3 := fh3.cut (.cons (t := 181) rfl (.cons (t := 22) rfl (.cons (t := 21) rfl (.cons (t := 14) rfl (.cons (t := 13) rfl (.cons (t := 12) rfl (.cons (t := 7) rfl (.cons (t := 1) rfl .nil))))))))
    refine Kn.no fh3 (.tmp rfl) ?_
    replace fh3 := fh3.cut (.cons (t := 22) rfl (.cons (t := 21) rfl (.cons (t := 14) rfl (.cons (t := 13) rfl (.cons (t := 12) rfl (.cons (t := 7) rfl (.cons (t := 1) rfl .nil)))))))
    refine wp_exit ?_
    refine Kn.then_exit ?_
    clear hK2 K2
    refine Kn.then_exit ?_
    clear hKl1 Kl1
    refine Kn.block_exit ?_
    replace fh3 := fh3.cut (.cons (t := 21) rfl (.cons (t := 14) rfl (.cons (t := 13) rfl (.cons (t := 12) rfl (.cons (t := 7) rfl (.cons (t := 1) rfl .nil))))))
    exact hQ _ _ gv cv fh3 HS.out HV.out hgv
end Go.Proofs.YteciidnjikcimaaDoor.Sha
