/- Loop 9 of the document's digest (written by gen_refsum.py). -/
import Derived.Test.YteciidnjikcimaaDoorSumS
namespace Go.Proofs.YteciidnjikcimaaDoor.Sha
open Go.RowKit Go.Lib

theorem conv4 (u : World) (a b c d : Nat) (ha : a < 256) (hb : b < 256) (hc : c < 256) (hd : d < 256) : (convert 50 9 (.slice (some ⟨u.heap.size, 0, none⟩) 4 4)).run Tryd.prog (u.alloc (.cells #[.int .u8 (a : Int), .int .u8 (b : Int), .int .u8 (c : Int), .int .u8 (d : Int)] 5)) = .ok (.string ⟨[UInt8.ofNat a, UInt8.ofNat b, UInt8.ofNat c, UInt8.ofNat d].toArray⟩) (u.alloc (.cells #[.int .u8 (a : Int), .int .u8 (b : Int), .int .u8 (c : Int), .int .u8 (d : Int)] 5)) := by
  have e : ∀ n, n < 256 → ((UInt8.ofNat n).toNat : Int) = (n : Int) := fun n hn => by rw [UInt8.toNat_ofNat']; omega
  exact run_convert_bytes_back (P := Tryd.prog) _ 50 9 5 ⟨u.heap.size, 0, none⟩ 4 [UInt8.ofNat a, UInt8.ofNat b, UInt8.ofNat c, UInt8.ofNat d] Tryd.underlying50 Tryd.underlying5 Tryd.underlying9 (fun j hj => by
    rw [addr_add, World.cell?_alloc_at _ _ _ _ rfl]
    have hj4 : j < 4 := hj
    match j, hj4 with
    | 0, _ => (simp; omega)
    | 1, _ => (simp; omega)
    | 2, _ => (simp; omega)
    | 3, _ => (simp; omega))
set_option maxRecDepth 100000 in
set_option maxHeartbeats 4000000 in
theorem lp9 (w0 v : World) (fa0 : Act) (gh caph : Nat) (Hm : List Nat) (Q : Exit → Act → World → Prop) (hP : ∀ d v c b w, Q (.panic c) (b.put d v) w → Q (.panic c) b w)
    (fh0 : Kn.Kn 354 [(31, .int .i64 0), (30, .string ⟨#[]⟩), (12, .slice (some ⟨gh, 0, none⟩) 8 caph)] fa0)
    (HHl : Hid (Hm.length = 8)) (HHb : Hid (∀ i, wd Hm i < 4294967296)) (ho : OwnI v w0.heap.size gh caph Hm) (hold : Below w0.heap.size w0 v)
    (hQ : ∀ a v S, Kn.Kn 354 [(30, .string S)] a → S.data.toList = outB Hm 8 → Below w0.heap.size w0 v → Q .normal a v) :
    (Code.block 16 (.loop (bodyS 8))).wp Tryd.prog Q fa0 v := by
  refine wp_block ?_
  refine Kn.loop (fun m a v => ∃ (k : Nat) (S : ByteArray), Kn.Kn 354 [(31, .int .i64 (k : Int)), (30, .string S), (12, .slice (some ⟨gh, 0, none⟩) 8 caph)] a ∧ k + m = 8 ∧ Hid (S.data.toList = outB Hm k) ∧ S.size ≤ 32 ∧ Hid (OwnI v w0.heap.size gh caph Hm) ∧ Hid (Below w0.heap.size w0 v)) 8 ⟨0, ⟨#[]⟩, fh0.cut (.cons (t := 31) rfl (.cons (t := 30) rfl (.cons (t := 12) rfl .nil))), rfl, Lib.hid rfl, (by show 0 ≤ 32; omega), Lib.hid ho, Lib.hid hold⟩ ?_
  clear fh0 fa0
  intro m fa1 v hI Kl1 hKl1
  conv => arg 2; whnf
  obtain ⟨k, S, fh1, hk, HD, hSs, HO, HL⟩ := hI
  clear ho hold
  by_cases hlt : k < 8
  · refine wp_seq_k fun K2 hK2 => ?_
    refine wp_seq_k fun K3 hK3 => ?_
    refine wp_region_lit ?_
    refine Kn.pure fh1 rfl rfl .none (Kn.ex_move fh1 (.tmp rfl)) fun fa2 fh2 => ?_
    clear fh1 fa1
    have qd : decide ((k : Int) < 8) = true := decide_eq_true (by omega)
    refine Kn.step fh2 rfl rfl .none (Kn.ex_bin fh2 (.tmp rfl) .const) fun Ko hKo => ?_
    go_simp
    try go_bits
    refine hKo _ _ fun fa3 fh3 => ?_
    clear hKo Ko fh2 fa2
    clear qd
    refine wpList_nil ?_
    refine hK3 _ _ ?_
    clear hK3 K3
    replace fh3 := fh3.cut (.cons (t := 320) rfl (.cons (t := 31) rfl (.cons (t := 30) rfl (.cons (t := 12) rfl .nil))))
    refine Kn.yes fh3 (.tmp rfl) ?_
    refine wp_skip ?_
    refine hK2 _ _ ?_
    clear hK2 K2
    replace fh3 := fh3.cut (.cons (t := 31) rfl (.cons (t := 30) rfl (.cons (t := 12) rfl .nil)))
    refine wp_seq_k fun K4 hK4 => ?_
    refine wp_block ?_
    have hlti : (k : Int) < 8 := by omega
    obtain ⟨x, hx⟩ : ∃ x, wd Hm k = x := ⟨_, rfl⟩
    have bx : x < 4294967296 := by rw [← hx]; exact HHb.out k
    have cx : v.cell? ⟨gh, k, none⟩ = some (.int .i64 (x : Int)) := by rw [HO.out.cell (by rw [HHl.out]; exact hlt), hx]
    obtain ⟨b3, h3⟩ : ∃ b, x / 16777216 = b := ⟨_, rfl⟩
    obtain ⟨p2, hp2⟩ : ∃ b, x / 65536 = b := ⟨_, rfl⟩
    obtain ⟨b2, h2⟩ : ∃ b, p2 % 256 = b := ⟨_, rfl⟩
    obtain ⟨p1, hp1⟩ : ∃ b, x / 256 = b := ⟨_, rfl⟩
    obtain ⟨b1, h1⟩ : ∃ b, p1 % 256 = b := ⟨_, rfl⟩
    obtain ⟨b0, hb0⟩ : ∃ b, x % 256 = b := ⟨_, rfl⟩
    have a3 : (x : Int) / 16777216 = (b3 : Int) := by omega
    have a2p : (x : Int) / 65536 = (p2 : Int) := by omega
    have a2 : (p2 : Int) % 256 = (b2 : Int) := by omega
    have a1p : (x : Int) / 256 = (p1 : Int) := by omega
    have a1 : (p1 : Int) % 256 = (b1 : Int) := by omega
    have a0 : (x : Int) % 256 = (b0 : Int) := by omega
    have l3 : b3 < 256 := by omega
    have l2 : b2 < 256 := by omega
    have l1 : b1 < 256 := by omega
    have l0 : b0 < 256 := by omega
    have q3 : IntKind.u8.wrap (b3 : Int) = (b3 : Int) := IntWalk.u8_in _ (by omega)
    have q2 : IntKind.u8.wrap (b2 : Int) = (b2 : Int) := IntWalk.u8_in _ (by omega)
    have q1 : IntKind.u8.wrap (b1 : Int) = (b1 : Int) := IntWalk.u8_in _ (by omega)
    have q0 : IntKind.u8.wrap (b0 : Int) = (b0 : Int) := IntWalk.u8_in _ (by omega)
    have HW : Hid (w4 (wd Hm k) = [UInt8.ofNat b3, UInt8.ofNat b2, UInt8.ofNat b1, UInt8.ofNat b0]) := Lib.hid (by
      rw [hx, w4, byteOf, byteOf, byteOf, byteOf, h3, hp2, h2, hp1, h1, hb0, Nat.mod_eq_of_lt l3])
    clear hx h3 hp2 h2 hp1 h1 hb0
    have hcv := conv4 v.drew b3 b2 b1 b0 l3 l2 l1 l0
    obtain ⟨U, hU⟩ : ∃ U : ByteArray, (⟨[UInt8.ofNat b3, UInt8.ofNat b2, UInt8.ofNat b1, UInt8.ofNat b0].toArray⟩ : ByteArray) = U := ⟨_, rfl⟩
    rw [hU] at hcv
    have HUd : Hid (U.data.toList = w4 (wd Hm k)) := Lib.hid (by rw [HW.out, ← hU])
    have hUs : U.size = 4 := by rw [← hU]; rfl
    clear hU
    have hSk : S.size = 4 * k := by show S.data.toList.length = 4 * k; rw [HD.out, outB_len]
    have HSk := Lib.hid hSk
    clear hSk
    refine Sha.knPush 26 (by kernel_rfl) fh3 (by kernel_rfl) rfl rfl rfl rfl rfl (fun _ _ _ _ _ h => hP _ _ _ _ _ h) rfl rfl fun fa4 fh4 => ?_
    clear fh3 fa3
    refine Kn.spure fh4 rfl rfl .none (Kn.ex_move fh4 (.tmp rfl)) fun fa5 fh5 => ?_
    clear fh4 fa4
    refine Kn.spure fh5 rfl rfl .none (Kn.ex_move fh5 (.tmp rfl)) fun fa6 fh6 => ?_
    clear fh5 fa5
    refine Kn.sstep fh6 rfl rfl .none (Kn.ex_indexAddr fh6 (.tmp rfl) (.tmp rfl)) fun Ko hKo => ?_
    go_simp
    try go_bits
    refine hKo _ fun fa7 fh7 => ?_
    clear hKo Ko fh6 fa6
    refine Kn.sstep fh7 rfl rfl .none (Kn.ex_load fh7 (.tmp rfl)) fun Ko hKo => ?_
    go_simp
    try go_bits
    refine hKo _ fun fa8 fh8 => ?_
    clear hKo Ko fh7 fa7
    refine Kn.sstep fh8 rfl rfl .none (Kn.ex_bin fh8 (.tmp rfl) .const) fun Ko hKo => ?_
    go_simp
    try go_bits
    try rw [a3]
    refine hKo _ fun fa9 fh9 => ?_
    clear hKo Ko fh8 fa8
    refine Kn.sstep fh9 rfl rfl .none (Kn.ex_convert fh9 (.tmp rfl)) fun Ko hKo => ?_
    go_simp
    try go_bits
    refine hKo _ fun fa10 fh10 => ?_
    clear hKo Ko fh9 fa9
    refine Kn.spure fh10 rfl rfl .none (Kn.ex_move fh10 (.tmp rfl)) fun fa11 fh11 => ?_
    clear fh10 fa10
    refine Kn.spure fh11 rfl rfl .none (Kn.ex_move fh11 (.tmp rfl)) fun fa12 fh12 => ?_
    clear fh11 fa11
    refine Kn.sstep fh12 rfl rfl .none (Kn.ex_indexAddr fh12 (.tmp rfl) (.tmp rfl)) fun Ko hKo => ?_
    go_simp
    try go_bits
    refine hKo _ fun fa13 fh13 => ?_
    clear hKo Ko fh12 fa12
    refine Kn.sstep fh13 rfl rfl .none (Kn.ex_load fh13 (.tmp rfl)) fun Ko hKo => ?_
    go_simp
    try go_bits
    refine hKo _ fun fa14 fh14 => ?_
    clear hKo Ko fh13 fa13
    refine Kn.sstep fh14 rfl rfl .none (Kn.ex_bin fh14 (.tmp rfl) .const) fun Ko hKo => ?_
    go_simp
    try go_bits
    try rw [a2p]
    refine hKo _ fun fa15 fh15 => ?_
    clear hKo Ko fh14 fa14
    refine Kn.sstep fh15 rfl rfl .none (Kn.ex_bin fh15 (.tmp rfl) .const) fun Ko hKo => ?_
    go_simp
    try go_bits
    try rw [a2]
    refine hKo _ fun fa16 fh16 => ?_
    clear hKo Ko fh15 fa15
    refine Kn.sstep fh16 rfl rfl .none (Kn.ex_convert fh16 (.tmp rfl)) fun Ko hKo => ?_
    go_simp
    try go_bits
    refine hKo _ fun fa17 fh17 => ?_
    clear hKo Ko fh16 fa16
    refine Kn.spure fh17 rfl rfl .none (Kn.ex_move fh17 (.tmp rfl)) fun fa18 fh18 => ?_
    clear fh17 fa17
    refine Kn.spure fh18 rfl rfl .none (Kn.ex_move fh18 (.tmp rfl)) fun fa19 fh19 => ?_
    clear fh18 fa18
    refine Kn.sstep fh19 rfl rfl .none (Kn.ex_indexAddr fh19 (.tmp rfl) (.tmp rfl)) fun Ko hKo => ?_
    go_simp
    try go_bits
    refine hKo _ fun fa20 fh20 => ?_
    clear hKo Ko fh19 fa19
    refine Kn.sstep fh20 rfl rfl .none (Kn.ex_load fh20 (.tmp rfl)) fun Ko hKo => ?_
    go_simp
    try go_bits
    refine hKo _ fun fa21 fh21 => ?_
    clear hKo Ko fh20 fa20
    refine Kn.sstep fh21 rfl rfl .none (Kn.ex_bin fh21 (.tmp rfl) .const) fun Ko hKo => ?_
    go_simp
    try go_bits
    try rw [a1p]
    refine hKo _ fun fa22 fh22 => ?_
    clear hKo Ko fh21 fa21
    refine Kn.sstep fh22 rfl rfl .none (Kn.ex_bin fh22 (.tmp rfl) .const) fun Ko hKo => ?_
    go_simp
    try go_bits
    try rw [a1]
    refine hKo _ fun fa23 fh23 => ?_
    clear hKo Ko fh22 fa22
    refine Kn.sstep fh23 rfl rfl .none (Kn.ex_convert fh23 (.tmp rfl)) fun Ko hKo => ?_
    go_simp
    try go_bits
    refine hKo _ fun fa24 fh24 => ?_
    clear hKo Ko fh23 fa23
    refine Kn.spure fh24 rfl rfl .none (Kn.ex_move fh24 (.tmp rfl)) fun fa25 fh25 => ?_
    clear fh24 fa24
    refine Kn.spure fh25 rfl rfl .none (Kn.ex_move fh25 (.tmp rfl)) fun fa26 fh26 => ?_
    clear fh25 fa25
    refine Kn.sstep fh26 rfl rfl .none (Kn.ex_indexAddr fh26 (.tmp rfl) (.tmp rfl)) fun Ko hKo => ?_
    go_simp
    try go_bits
    refine hKo _ fun fa27 fh27 => ?_
    clear hKo Ko fh26 fa26
    refine Kn.sstep fh27 rfl rfl .none (Kn.ex_load fh27 (.tmp rfl)) fun Ko hKo => ?_
    go_simp
    try go_bits
    refine hKo _ fun fa28 fh28 => ?_
    clear hKo Ko fh27 fa27
    refine Kn.sstep fh28 rfl rfl .none (Kn.ex_bin fh28 (.tmp rfl) .const) fun Ko hKo => ?_
    go_simp
    try go_bits
    try rw [a0]
    refine hKo _ fun fa29 fh29 => ?_
    clear hKo Ko fh28 fa28
    refine Kn.sstep fh29 rfl rfl .none (Kn.ex_convert fh29 (.tmp rfl)) fun Ko hKo => ?_
    go_simp
    try go_bits
    refine hKo _ fun fa30 fh30 => ?_
    clear hKo Ko fh29 fa29
    refine wpStill_nil ?_
    refine Kn.step fh30 rfl rfl .none (Kn.ex_buildSlice fh30 (.cons (.tmp rfl) (.cons (.tmp rfl) (.cons (.tmp rfl) (.cons (.tmp rfl) .nil))))) fun Ko hKo => ?_
    go_simp
    try go_bits
    refine hKo _ _ fun fa31 fh31 => ?_
    clear hKo Ko fh30 fa30
    refine Kn.known fh31 rfl rfl .none (Kn.ex_convert fh31 (.tmp rfl)) hcv fun fa32 fh32 => ?_
    clear fh31 fa31
    clear hcv
    refine Kn.step fh32 rfl rfl .none (Kn.ex_bin fh32 (.tmp rfl) (.tmp rfl)) fun Ko hKo => ?_
    go_simp
    rw [if_neg (by omega)]
    refine hKo _ _ fun fa33 fh33 => ?_
    clear hKo Ko fh32 fa32
    refine Kn.pure fh33 rfl rfl .none (Kn.ex_assign fh33 (.tmp rfl)) fun fa34 fh34 => ?_
    clear fh33 fa33
    refine wpList_nil ?_
    refine Kn.block_normal ?_
    refine hK4 _ _ ?_
    clear hK4 K4
    replace fh34 := fh34.cut (.cons (t := 30) rfl (.cons (t := 31) rfl (.cons (t := 12) rfl .nil)))
    clear cx a3 a2p a2 a1p a1 a0 q3 q2 q1 q0
    have hn : (S ++ U).size = S.size + 4 := by rw [ByteArray.size_append, hUs]
    have HN := Lib.hid hn
    clear hn
    refine wp_region_lit ?_
    refine Kn.pure fh34 rfl rfl .none (Kn.ex_move fh34 (.tmp rfl)) fun fa35 fh35 => ?_
    clear fh34 fa34
    refine Kn.step fh35 rfl rfl .none (Kn.ex_bin fh35 (.tmp rfl) .const) fun Ko hKo => ?_
    go_simp
    try go_bits
    refine hKo _ _ fun fa36 fh36 => ?_
    clear hKo Ko fh35 fa35
    refine Kn.pure fh36 rfl rfl .none (Kn.ex_assign fh36 (.tmp rfl)) fun fa37 fh37 => ?_
    clear fh36 fa36
    refine wpList_nil ?_
    replace fh37 := fh37.cut (.cons (t := 31) rfl (.cons (t := 30) rfl (.cons (t := 12) rfl .nil)))
    exact hKl1 (m - 1) _ _ (by omega) ⟨k + 1, S ++ U, fh37.cut (.turn (t := 31) rfl (by go_num) (.cons (t := 30) rfl (.cons (t := 12) rfl .nil))), by omega, Lib.hid (by rw [outB, ← HD.out, ← HUd.out]; simp), (by have := HN.out; have := HSk.out; omega), Lib.hid (HO.out.drew.alloc _), Lib.hid ((below_drew HL.out).alloc HL.out.size _)⟩
  · obtain rfl : k = 8 := by omega
    refine wp_seq_k fun K2 hK2 => ?_
    refine wp_seq_k fun K3 hK3 => ?_
    refine wp_region_lit ?_
    refine Kn.pure fh1 rfl rfl .none (Kn.ex_move fh1 (.tmp rfl)) fun fa2 fh2 => ?_
    clear fh1 fa1
    have qd : decide (((8 : Nat) : Int) < 8) = false := decide_eq_false (by omega)
    refine Kn.step fh2 rfl rfl .none (Kn.ex_bin fh2 (.tmp rfl) .const) fun Ko hKo => ?_
    go_simp
    try go_bits
    refine hKo _ _ fun fa3 fh3 => ?_
    clear hKo Ko fh2 fa2
    clear qd
    refine wpList_nil ?_
    refine hK3 _ _ ?_
    clear hK3 K3
    replace fh3 := fh3.cut (.cons (t := 320) rfl (.cons (t := 31) rfl (.cons (t := 30) rfl (.cons (t := 12) rfl .nil))))
    refine Kn.no fh3 (.tmp rfl) ?_
    replace fh3 := fh3.cut (.cons (t := 31) rfl (.cons (t := 30) rfl (.cons (t := 12) rfl .nil)))
    refine wp_exit ?_
    refine Kn.then_exit ?_
    clear hK2 K2
    refine Kn.then_exit ?_
    clear hKl1 Kl1
    refine Kn.block_exit ?_
    replace fh3 := fh3.cut (.cons (t := 30) rfl .nil)
    exact hQ _ _ S fh3 HD.out HL.out
end Go.Proofs.YteciidnjikcimaaDoor.Sha
