/- The walk of the law FrameSeals. -/
import Derived.Test.YthjdlilafamaoaaDoorFrameF
import Derived.Test.YthjdlilafamaoaaDoorFrameG
import Derived.Test.YthjdlilafamaoaaDoorErrCode
import Derived.Test.YthjdlilafamaoaaDoorBytes
import Derived.Test.YthjdlilafamaoaaDoorKn
import Derived.StillTailTactics
import Derived.Deep.QuietTactic
import Derived.BigQuiet
namespace Go.Proofs.YthjdlilafamaoaaDoor.Frame
open Go.RowKit Go.Lib

/-- What stays through the law: old memory, the array's cells, the table of errors. -/
structure St (w : World) (x y : Nat) (v : World) : Prop where
  old : Below w.heap.size w v
  cx : v.cell? ⟨w.heap.size + 1, 0, none⟩ = some (.int .u16 (x : Int))
  cy : v.cell? ⟨w.heap.size + 1, 1, none⟩ = some (.int .u16 (y : Int))
  size : w.heap.size + 2 ≤ v.heap.size
theorem St.on {w v v' : World} {x y : Nat} (h : St w x y v) (hb : Below v.heap.size v v') : St w x y v' :=
  ⟨h.old.trans (hb.mono h.old.size), (hb.cell (p := ⟨w.heap.size + 1, 0, none⟩) (Nat.lt_of_lt_of_le (Nat.lt_succ_self _) h.size)).trans h.cx, (hb.cell (p := ⟨w.heap.size + 1, 1, none⟩) (Nat.lt_of_lt_of_le (Nat.lt_succ_self _) h.size)).trans h.cy, Nat.le_trans h.size hb.size⟩
theorem St.drewN {w v : World} {x y : Nat} (h : St w x y v) (n : Nat) : St w x y (v.drewN n) := ⟨below_drewN h.old n, h.cx, h.cy, h.size⟩

theorem next_told (s t : ByteArray) (q : Nat) (E : Int) (r : List UInt8) (w : World) (hs : s.size ≤ 281474976710656) (ht : t.size ≤ 60000) (h : s.data.toList.drop q = frameB t.data.toList ++ r) (hE : ((q + 6 + t.size : Nat) : Int) = E) :
    Calls Tryd.prog 7 #[.string s, .int .i64 (q : Int)] w fun e w' => e = .returned (.tuple #[.string t, .int .i64 E, .nilIface]) ∧ Below w.heap.size w w' := by
  subst hE; exact next_here s t q r w hs ht h

theorem open_z (s t : ByteArray) (n : Nat) (w : World) (hs : s.size = t.size + 7) (hn : n = t.size + 6) (ht : t.size ≤ 2000) (h : s.data.toList = frameB t.data.toList ++ [122]) :
    Calls Tryd.prog 8 #[.string s] w fun e w' => e = .returned (.tuple #[.string ⟨#[]⟩, Oct.faultV (n : Int) 4]) ∧ Below w.heap.size w w' := by
  have := open_more s t t.size w (by unfold maxLen; omega) (by omega) (fun v => next_zero s t [122] v (by omega) (by omega) h)
  rw [show 6 + t.size = n by omega] at this
  exact this
def zeros : ByteArray := ⟨(List.replicate 60001 (0 : UInt8)).toArray⟩
theorem zeros_size : zeros.size = 60001 := by show (List.replicate 60001 (0 : UInt8)).toArray.size = 60001; rw [List.size_toArray, List.length_replicate]
def zeroObj : Obj := .cells (madeCells #[.int .u8 0] 60001) 5
theorem make_zeros (w : World) : (Instr.makeSlice 34 (.int .i64 60001) (.int .i64 60001)).run Tryd.prog w = .ok (.slice (some ⟨w.heap.size, 0, none⟩) 60001 60001) (w.alloc zeroObj) :=
  run_make_row' (P := Tryd.prog) 34 5 (.int .u8 0) 1 Tryd.underlying34 Oct.infoByte rfl .i64 .i64 60001 (by omega) (by omega) w
theorem conv_zeros (w : World) : (convert 34 9 (.slice (some ⟨w.heap.size, 0, none⟩) 60001 60001)).run Tryd.prog (w.alloc zeroObj) = .ok (.string zeros) (w.alloc zeroObj) := by
  have h := run_convert_bytes_back (P := Tryd.prog) (w.alloc zeroObj) 34 9 5 ⟨w.heap.size, 0, none⟩ 60001 (List.replicate 60001 (0 : UInt8)) Tryd.underlying34 Tryd.underlying5 Tryd.underlying9 (fun j hj => by
    rw [List.length_replicate] at hj
    rw [Oct.add_zero0, List.getElem_replicate]
    exact (World.rowIs_made w (.int .u8 0) 60001 5).cell hj)
  rw [List.length_replicate] at h
  exact h
theorem seal_zeros (w : World) : Calls Tryd.prog 5 #[.string zeros] w fun e w' => e = .returned (.tuple #[.string ⟨#[]⟩, Oct.errnoV 6]) ∧ w = w' := seal_long zeros w (by rw [zeros_size]; unfold maxLen; omega) (by rw [zeros_size]; omega)
theorem St.drew {w v : World} {x y : Nat} (h : St w x y v) : St w x y v.drew := ⟨h.old.drew, h.cx, h.cy, h.size⟩
theorem St.set {w v : World} {x y g k : Nat} (h : St w x y v) (hg : w.heap.size ≤ g) (hne : g ≠ w.heap.size + 1) (u : Value) : St w x y (v.setCell ⟨g, k, none⟩ u) :=
  ⟨h.old.setCell hg u, by rw [World.cell?_setCell_far _ _ _ _ hne]; exact h.cx, by rw [World.cell?_setCell_far _ _ _ _ hne]; exact h.cy, by simpa [World.setCell] using h.size⟩

set_option maxRecDepth 100000 in
set_option maxHeartbeats 4000000 in
theorem seals_main (s a b : ByteArray) (x y : Nat) (w : World) (hg : Err.ErrTab w) (hs : s.size ≤ 2000) (ha : a.size ≤ 300) (hb : b.size ≤ 300) (hx : x ≤ 65535) (hy : y ≤ 65535) :
    Calls Tryd.prog 3 #[.string s, .agg #[.string a, .string b], .agg #[.int .u16 (x : Int), .int .u16 (y : Int)]] w fun e w' => e = .returned (.bool true) ∧ Below w.heap.size w w' := by
  have HG := Lib.hid hg
  clear hg
  refine Kn.calls Tryd.func3 rfl Tryd.ntmps3 rfl (.cons (t := 0) rfl (.cons (t := 1) rfl (.cons (t := 2) rfl .nil))) fun a0 h0 => ?_
  refine wp_seq_k fun K1 hK1 => ?_
  refine wp_region_lit ?_
  refine Kn.step h0 rfl rfl .none (Kn.ex_box h0 (.tmp rfl)) fun Ko hKo => ?_
  go_simp
  try go_bits
  refine hKo _ _ fun a1 h1 => ?_
  clear hKo Ko h0 a0
  refine Kn.step h1 rfl rfl .none (Kn.ex_box h1 (.tmp rfl)) fun Ko hKo => ?_
  go_simp
  try go_bits
  refine hKo _ _ fun a2 h2 => ?_
  clear hKo Ko h1 a1
  refine Kn.pure h2 rfl rfl .none (Kn.ex_assign h2 .const) fun a3 h3 => ?_
  clear h2 a2
  refine wpList_nil ?_
  refine hK1 _ _ ?_
  clear hK1 K1
  replace h3 := h3.cut (.cons (t := 6) rfl (.cons (t := 5) rfl (.cons (t := 4) rfl (.cons (t := 0) rfl .nil))))
  refine wp_seq_k fun K2 hK2 => ?_
  refine wp_seq_k fun K3 hK3 => ?_
  refine wp_region_lit ?_
  refine Kn.call h3 rfl rfl .none (Kn.ex_call h3 .nil) Tryd.call4 (awake_any _) fun e w1 hp => ?_
  obtain ⟨rfl, hb1⟩ := hp
  refine ⟨_, rfl, fun a4 h4 => ?_⟩
  clear h3 a3
  have c0 : w1.cell? ⟨w.heap.size, 0, none⟩ = some (.string a) := by
    rw [hb1.cell (p := ⟨w.heap.size, 0, none⟩) (by simp; omega), World.cell?_alloc_past _ _ _ (by simp), World.cell?_alloc_at _ _ _ _ rfl]; rfl
  have c1 : w1.cell? ⟨w.heap.size, 1, none⟩ = some (.string b) := by
    rw [hb1.cell (p := ⟨w.heap.size, 1, none⟩) (by simp; omega), World.cell?_alloc_past _ _ _ (by simp), World.cell?_alloc_at _ _ _ _ rfl]; rfl
  have HB1 := Lib.hid (show Below w.heap.size w w1 from (((Below.refl _ _).alloc (Nat.le_refl _) _).alloc (by simp) _).trans (hb1.mono (by simp; omega)))
  have H1 : Hid (St w x y w1) := Lib.hid ⟨HB1.out, by rw [hb1.cell (p := ⟨w.heap.size + 1, 0, none⟩) (by simp), World.cell?_alloc_at _ _ _ _ (by simp)]; rfl, by rw [hb1.cell (p := ⟨w.heap.size + 1, 1, none⟩) (by simp), World.cell?_alloc_at _ _ _ _ (by simp)]; rfl, by have := hb1.size; simp at this; omega⟩
  clear hb1 HB1
  refine Kn.step h4 rfl rfl .none (Kn.ex_un h4 (.tmp rfl)) fun Ko hKo => ?_
  go_simp
  try go_bits
  refine hKo _ _ fun a5 h5 => ?_
  clear hKo Ko h4 a4
  refine wpList_nil ?_
  refine hK3 _ _ ?_
  clear hK3 K3
  replace h5 := h5.cut (.cons (t := 25) rfl (.cons (t := 6) rfl (.cons (t := 5) rfl (.cons (t := 4) rfl (.cons (t := 0) rfl .nil)))))
  refine Kn.no h5 (.tmp rfl) ?_
  refine wp_skip ?_
  refine hK2 _ _ ?_
  clear hK2 K2
  replace h5 := h5.cut (.cons (t := 6) rfl (.cons (t := 5) rfl (.cons (t := 4) rfl (.cons (t := 0) rfl .nil))))
  refine wp_seq_k fun K4 hK4 => ?_
  refine Kn.still (by kernel_rfl) (by kernel_rfl) ?_
  refine Kn.sstep h5 rfl rfl .none (Kn.ex_fieldAddr h5 (.tmp rfl)) fun Ko hKo => ?_
  go_simp
  try go_bits
  refine hKo _ fun a6 h6 => ?_
  clear hKo Ko h5 a5
  refine Kn.sstep h6 rfl rfl .none (Kn.ex_load h6 (.tmp rfl)) fun Ko hKo => ?_
  go_simp
  try go_bits
  refine hKo _ fun a7 h7 => ?_
  clear hKo Ko h6 a6
  refine Kn.sstep h7 rfl rfl .none (Kn.ex_fieldAddr h7 (.tmp rfl)) fun Ko hKo => ?_
  go_simp
  try go_bits
  refine hKo _ fun a8 h8 => ?_
  clear hKo Ko h7 a7
  refine Kn.sstep h8 rfl rfl .none (Kn.ex_load h8 (.tmp rfl)) fun Ko hKo => ?_
  go_simp
  try go_bits
  refine hKo _ fun a9 h9 => ?_
  clear hKo Ko h8 a8
  refine Kn.spure h9 rfl rfl .none (Kn.ex_assign h9 (.tmp rfl)) fun a10 h10 => ?_
  clear h9 a9
  refine Kn.spure h10 rfl rfl .none (Kn.ex_assign h10 (.tmp rfl)) fun a11 h11 => ?_
  clear h10 a10
  refine wpStill_nil ?_
  refine hK4 _ _ ?_
  clear hK4 K4
  replace h11 := h11.cut (.cons (t := 8) rfl (.cons (t := 7) rfl (.cons (t := 6) rfl (.cons (t := 5) rfl (.cons (t := 0) rfl .nil)))))
  have H2 := Lib.hid H1.out.drew
  obtain ⟨w2, hw2⟩ : ∃ v, w1.drew = v := ⟨_, rfl⟩
  rw [hw2] at H2 ⊢
  clear H1 c0 c1 hw2
  refine wp_seq_k fun K5 hK5 => ?_
  refine wp_seq_k fun K6 hK6 => ?_
  refine wp_region_lit ?_
  refine Kn.pure h11 rfl rfl .none (Kn.ex_move h11 (.tmp rfl)) fun a12 h12 => ?_
  clear h11 a11
  refine Kn.step h12 rfl rfl .none (Kn.ex_len h12 (.tmp rfl)) fun Ko hKo => ?_
  go_simp
  try go_bits
  refine hKo _ _ fun a13 h13 => ?_
  clear hKo Ko h12 a12
  have qd : decide ((2000 : Int) < (s.size : Int)) = false := decide_eq_false (by omega)
  refine Kn.step h13 rfl rfl .none (Kn.ex_bin h13 (.tmp rfl) .const) fun Ko hKo => ?_
  go_simp
  try go_bits
  refine hKo _ _ fun a14 h14 => ?_
  clear hKo Ko h13 a13
  clear qd
  refine Kn.pure h14 rfl rfl .none (Kn.ex_move h14 (.tmp rfl)) fun a15 h15 => ?_
  clear h14 a14
  refine Kn.pure h15 rfl rfl (.some rfl rfl rfl) (Kn.ex_move h15 (.tmp rfl)) fun a16 h16 => ?_
  clear h15 a15
  refine Kn.step h16 rfl rfl (.some rfl rfl rfl) (Kn.ex_len h16 (.tmp rfl)) fun Ko hKo => ?_
  go_simp
  try go_bits
  refine hKo _ _ fun a17 h17 => ?_
  clear hKo Ko h16 a16
  have qd : decide ((300 : Int) < (a.size : Int)) = false := decide_eq_false (by omega)
  refine Kn.step h17 rfl rfl (.some rfl rfl rfl) (Kn.ex_bin h17 (.tmp rfl) .const) fun Ko hKo => ?_
  go_simp
  try go_bits
  refine hKo _ _ fun a18 h18 => ?_
  clear hKo Ko h17 a17
  clear qd
  refine Kn.pure h18 rfl rfl .none (Kn.ex_pick h18 (.tmp rfl) (.tmp rfl)) fun a19 h19 => ?_
  clear h18 a18
  refine Kn.pure h19 rfl rfl .none (Kn.ex_move h19 (.tmp rfl)) fun a20 h20 => ?_
  clear h19 a19
  refine Kn.pure h20 rfl rfl (.some rfl rfl rfl) (Kn.ex_move h20 (.tmp rfl)) fun a21 h21 => ?_
  clear h20 a20
  refine Kn.step h21 rfl rfl (.some rfl rfl rfl) (Kn.ex_len h21 (.tmp rfl)) fun Ko hKo => ?_
  go_simp
  try go_bits
  refine hKo _ _ fun a22 h22 => ?_
  clear hKo Ko h21 a21
  have qd : decide ((300 : Int) < (b.size : Int)) = false := decide_eq_false (by omega)
  refine Kn.step h22 rfl rfl (.some rfl rfl rfl) (Kn.ex_bin h22 (.tmp rfl) .const) fun Ko hKo => ?_
  go_simp
  try go_bits
  refine hKo _ _ fun a23 h23 => ?_
  clear hKo Ko h22 a22
  clear qd
  refine Kn.pure h23 rfl rfl .none (Kn.ex_pick h23 (.tmp rfl) (.tmp rfl)) fun a24 h24 => ?_
  clear h23 a23
  refine wpList_nil ?_
  refine hK6 _ _ ?_
  clear hK6 K6
  replace h24 := h24.cut (.cons (t := 42) rfl (.cons (t := 8) rfl (.cons (t := 7) rfl (.cons (t := 6) rfl (.cons (t := 5) rfl (.cons (t := 0) rfl .nil))))))
  refine Kn.no h24 (.tmp rfl) ?_
  refine wp_skip ?_
  refine hK5 _ _ ?_
  clear hK5 K5
  replace h24 := h24.cut (.cons (t := 8) rfl (.cons (t := 7) rfl (.cons (t := 6) rfl (.cons (t := 5) rfl (.cons (t := 0) rfl .nil)))))
  refine wp_seq_k fun K7 hK7 => ?_
  refine wp_region_lit ?_
  refine Kn.pure h24 rfl rfl .none (Kn.ex_move h24 (.tmp rfl)) fun a25 h25 => ?_
  clear h24 a24
  refine Kn.call h25 rfl rfl .none (Kn.ex_call h25 (.cons (.tmp rfl) .nil)) Tryd.call5 (seal_ok s _ (by omega)) fun e w3 hp => ?_
  obtain ⟨rfl, hb3⟩ := hp
  refine ⟨_, rfl, fun a26 h26 => ?_⟩
  clear h25 a25
  have H3 := Lib.hid (H2.out.on hb3)
  clear hb3 H2
  obtain ⟨X, hX⟩ : ∃ X, frameS s = X := ⟨_, rfl⟩
  have hXs : X.size = s.size + 6 := by rw [← hX, frameS_size]
  have hXl : X.size ≤ 2006 := by omega
  have hXg : 6 ≤ X.size := by omega
  have HXs := Lib.hid hXs
  have HX := Lib.hid hX
  rw [hX] at h26
  clear hXs hX
  refine Kn.pure h26 rfl rfl .none (Kn.ex_move h26 (.tmp rfl)) fun a27 h27 => ?_
  clear h26 a26
  refine Kn.pure h27 rfl rfl .none (Kn.ex_extract h27 (.tmp rfl) rfl) fun a28 h28 => ?_
  clear h27 a27
  refine Kn.pure h28 rfl rfl .none (Kn.ex_extract h28 (.tmp rfl) rfl) fun a29 h29 => ?_
  clear h28 a28
  refine Kn.pure h29 rfl rfl .none (Kn.ex_assign h29 (.tmp rfl)) fun a30 h30 => ?_
  clear h29 a29
  refine Kn.pure h30 rfl rfl .none (Kn.ex_assign h30 (.tmp rfl)) fun a31 h31 => ?_
  clear h30 a30
  refine wpList_nil ?_
  refine hK7 _ _ ?_
  clear hK7 K7
  replace h31 := h31.cut (.cons (t := 10) rfl (.cons (t := 9) rfl (.cons (t := 8) rfl (.cons (t := 7) rfl (.cons (t := 6) rfl (.cons (t := 5) rfl (.cons (t := 0) rfl .nil)))))))
  refine wp_seq_k fun K8 hK8 => ?_
  refine wp_seq_k fun K9 hK9 => ?_
  refine wp_region_lit ?_
  refine Kn.pure h31 rfl rfl .none (Kn.ex_move h31 (.tmp rfl)) fun a32 h32 => ?_
  clear h31 a31
  refine Kn.pure h32 rfl rfl .none (Kn.ex_move h32 (.tmp rfl)) fun a33 h33 => ?_
  clear h32 a32
  refine Kn.call h33 rfl rfl .none (Kn.ex_call h33 (.cons (.tmp rfl) .nil)) Tryd.call6 (refSeal_any s _ (by omega)) fun e w4 hp => ?_
  obtain ⟨rfl, hb4⟩ := hp
  refine ⟨_, rfl, fun a34 h34 => ?_⟩
  clear h33 a33
  rw [HX.out] at h34
  have H4 := Lib.hid (H3.out.on hb4)
  clear hb4 H3
  refine Kn.step h34 rfl rfl .none (Kn.ex_bin h34 (.tmp rfl) (.tmp rfl)) fun Ko hKo => ?_
  go_simp
  try go_bits
  refine hKo _ _ fun a35 h35 => ?_
  clear hKo Ko h34 a34
  refine Kn.pure h35 rfl rfl .none (Kn.ex_move h35 (.tmp rfl)) fun a36 h36 => ?_
  clear h35 a35
  refine Kn.pure h36 rfl rfl (.some rfl rfl rfl) (Kn.ex_move h36 (.tmp rfl)) fun a37 h37 => ?_
  clear h36 a36
  refine Kn.step h37 rfl rfl (.some rfl rfl rfl) (Kn.ex_bin h37 (.tmp rfl) .const) fun Ko hKo => ?_
  go_simp
  try go_bits
  refine hKo _ _ fun a38 h38 => ?_
  clear hKo Ko h37 a37
  refine Kn.pure h38 rfl rfl .none (Kn.ex_pick h38 (.tmp rfl) (.tmp rfl)) fun a39 h39 => ?_
  clear h38 a38
  refine wpList_nil ?_
  refine hK9 _ _ ?_
  clear hK9 K9
  replace h39 := h39.cut (.cons (t := 55) rfl (.cons (t := 9) rfl (.cons (t := 8) rfl (.cons (t := 7) rfl (.cons (t := 6) rfl (.cons (t := 5) rfl (.cons (t := 0) rfl .nil)))))))
  refine Kn.no h39 (.tmp rfl) ?_
  refine wp_skip ?_
  refine hK8 _ _ ?_
  clear hK8 K8
  replace h39 := h39.cut (.cons (t := 9) rfl (.cons (t := 8) rfl (.cons (t := 7) rfl (.cons (t := 6) rfl (.cons (t := 5) rfl (.cons (t := 0) rfl .nil))))))
  have hap : (a ++ X).size ≤ 2306 := by rw [ByteArray.size_append]; omega
  have hap2 : (a ++ X ++ b).size ≤ 2606 := by rw [ByteArray.size_append]; omega
  have HD : Hid ((a ++ X ++ b).data.toList.drop a.size = frameB s.data.toList ++ b.data.toList) := Lib.hid (by
    rw [data_app, data_app, ← HX.out, List.append_assoc, show a.size = a.data.toList.length from rfl, List.drop_append_of_le_length (Nat.le_refl _), List.drop_of_length_le (Nat.le_refl _)]; rfl)
  have HZ := Lib.hid (show (a ++ X ++ b).size ≤ 281474976710656 by omega)
  refine wp_seq_k fun K10 hK10 => ?_
  refine wp_region_lit ?_
  refine Kn.pure h39 rfl rfl .none (Kn.ex_move h39 (.tmp rfl)) fun a40 h40 => ?_
  clear h39 a39
  refine Kn.pure h40 rfl rfl .none (Kn.ex_move h40 (.tmp rfl)) fun a41 h41 => ?_
  clear h40 a40
  refine Kn.step h41 rfl rfl .none (Kn.ex_bin h41 (.tmp rfl) (.tmp rfl)) fun Ko hKo => ?_
  go_simp
  rw [if_neg (by omega)]
  refine hKo _ _ fun a42 h42 => ?_
  clear hKo Ko h41 a41
  refine Kn.pure h42 rfl rfl .none (Kn.ex_move h42 (.tmp rfl)) fun a43 h43 => ?_
  clear h42 a42
  refine Kn.step h43 rfl rfl .none (Kn.ex_bin h43 (.tmp rfl) (.tmp rfl)) fun Ko hKo => ?_
  go_simp
  rw [if_neg (by omega)]
  refine hKo _ _ fun a44 h44 => ?_
  clear hKo Ko h43 a43
  refine Kn.pure h44 rfl rfl .none (Kn.ex_move h44 (.tmp rfl)) fun a45 h45 => ?_
  clear h44 a44
  refine Kn.step h45 rfl rfl .none (Kn.ex_len h45 (.tmp rfl)) fun Ko hKo => ?_
  go_simp
  try go_bits
  refine hKo _ _ fun a46 h46 => ?_
  clear hKo Ko h45 a45
  refine Kn.call h46 rfl rfl .none (Kn.ex_call h46 (.cons (.tmp rfl) (.cons (.tmp rfl) .nil))) Tryd.call7 (next_told (a ++ X ++ b) s a.size ((a.size : Int) + (X.size : Int)) b.data.toList _ HZ.out (by omega) HD.out (by have := HXs.out; omega)) fun e w5 hp => ?_
  obtain ⟨rfl, hb5⟩ := hp
  refine ⟨_, rfl, fun a47 h47 => ?_⟩
  clear h46 a46
  have H5 := Lib.hid (H4.out.on hb5)
  clear hb5 H4 HD HZ hap hap2
  refine Kn.pure h47 rfl rfl .none (Kn.ex_move h47 (.tmp rfl)) fun a48 h48 => ?_
  clear h47 a47
  refine Kn.pure h48 rfl rfl .none (Kn.ex_extract h48 (.tmp rfl) rfl) fun a49 h49 => ?_
  clear h48 a48
  refine Kn.pure h49 rfl rfl .none (Kn.ex_extract h49 (.tmp rfl) rfl) fun a50 h50 => ?_
  clear h49 a49
  refine Kn.pure h50 rfl rfl .none (Kn.ex_extract h50 (.tmp rfl) rfl) fun a51 h51 => ?_
  clear h50 a50
  refine Kn.pure h51 rfl rfl .none (Kn.ex_assign h51 (.tmp rfl)) fun a52 h52 => ?_
  clear h51 a51
  refine Kn.pure h52 rfl rfl .none (Kn.ex_assign h52 (.tmp rfl)) fun a53 h53 => ?_
  clear h52 a52
  refine Kn.pure h53 rfl rfl .none (Kn.ex_assign h53 (.tmp rfl)) fun a54 h54 => ?_
  clear h53 a53
  refine wpList_nil ?_
  refine hK10 _ _ ?_
  clear hK10 K10
  replace h54 := h54.cut (.cons (t := 13) rfl (.cons (t := 12) rfl (.cons (t := 11) rfl (.cons (t := 9) rfl (.cons (t := 7) rfl (.cons (t := 6) rfl (.cons (t := 5) rfl (.cons (t := 0) rfl .nil))))))))
  refine wp_seq_k fun K11 hK11 => ?_
  refine wp_region_lit ?_
  refine Kn.pure h54 rfl rfl .none (Kn.ex_move h54 (.tmp rfl)) fun a55 h55 => ?_
  clear h54 a54
  refine Kn.call h55 rfl rfl .none (Kn.ex_call h55 (.cons (.tmp rfl) .nil)) Tryd.call8 (open_ok X s _ (by omega) (by rw [← HX.out]; rfl)) fun e w6 hp => ?_
  obtain ⟨rfl, hb6⟩ := hp
  refine ⟨_, rfl, fun a56 h56 => ?_⟩
  clear h55 a55
  have H6 := Lib.hid (H5.out.on hb6)
  clear hb6 H5
  refine Kn.pure h56 rfl rfl .none (Kn.ex_move h56 (.tmp rfl)) fun a57 h57 => ?_
  clear h56 a56
  refine Kn.pure h57 rfl rfl .none (Kn.ex_extract h57 (.tmp rfl) rfl) fun a58 h58 => ?_
  clear h57 a57
  refine Kn.pure h58 rfl rfl .none (Kn.ex_extract h58 (.tmp rfl) rfl) fun a59 h59 => ?_
  clear h58 a58
  refine Kn.pure h59 rfl rfl .none (Kn.ex_assign h59 (.tmp rfl)) fun a60 h60 => ?_
  clear h59 a59
  refine Kn.pure h60 rfl rfl .none (Kn.ex_assign h60 (.tmp rfl)) fun a61 h61 => ?_
  clear h60 a60
  refine wpList_nil ?_
  refine hK11 _ _ ?_
  clear hK11 K11
  replace h61 := h61.cut (.cons (t := 15) rfl (.cons (t := 14) rfl (.cons (t := 13) rfl (.cons (t := 12) rfl (.cons (t := 11) rfl (.cons (t := 9) rfl (.cons (t := 7) rfl (.cons (t := 6) rfl (.cons (t := 5) rfl (.cons (t := 0) rfl .nil))))))))))
  refine wp_seq_k fun K12 hK12 => ?_
  refine wp_seq_k fun K13 hK13 => ?_
  refine wp_region_lit ?_
  refine Kn.pure h61 rfl rfl .none (Kn.ex_move h61 (.tmp rfl)) fun a62 h62 => ?_
  clear h61 a61
  refine Kn.pure h62 rfl rfl .none (Kn.ex_move h62 (.tmp rfl)) fun a63 h63 => ?_
  clear h62 a62
  refine Kn.step h63 rfl rfl .none (Kn.ex_bin h63 (.tmp rfl) (.tmp rfl)) fun Ko hKo => ?_
  go_simp
  try go_bits
  refine hKo _ _ fun a64 h64 => ?_
  clear hKo Ko h63 a63
  refine Kn.pure h64 rfl rfl .none (Kn.ex_move h64 (.tmp rfl)) fun a65 h65 => ?_
  clear h64 a64
  refine Kn.pure h65 rfl rfl (.some rfl rfl rfl) (Kn.ex_move h65 (.tmp rfl)) fun a66 h66 => ?_
  clear h65 a65
  refine Kn.pure h66 rfl rfl (.some rfl rfl rfl) (Kn.ex_move h66 (.tmp rfl)) fun a67 h67 => ?_
  clear h66 a66
  refine Kn.step h67 rfl rfl (.some rfl rfl rfl) (Kn.ex_len h67 (.tmp rfl)) fun Ko hKo => ?_
  go_simp
  try go_bits
  refine hKo _ _ fun a68 h68 => ?_
  clear hKo Ko h67 a67
  refine Kn.pure h68 rfl rfl (.some rfl rfl rfl) (Kn.ex_move h68 (.tmp rfl)) fun a69 h69 => ?_
  clear h68 a68
  refine Kn.step h69 rfl rfl (.some rfl rfl rfl) (Kn.ex_len h69 (.tmp rfl)) fun Ko hKo => ?_
  go_simp
  try go_bits
  refine hKo _ _ fun a70 h70 => ?_
  clear hKo Ko h69 a69
  refine Kn.step h70 rfl rfl (.some rfl rfl rfl) (Kn.ex_bin h70 (.tmp rfl) (.tmp rfl)) fun Ko hKo => ?_
  go_simp
  try go_bits
  refine hKo _ _ fun a71 h71 => ?_
  clear hKo Ko h70 a70
  refine Kn.step h71 rfl rfl (.some rfl rfl rfl) (Kn.ex_bin h71 (.tmp rfl) (.tmp rfl)) fun Ko hKo => ?_
  go_simp
  try go_bits
  refine hKo _ _ fun a72 h72 => ?_
  clear hKo Ko h71 a71
  refine Kn.pure h72 rfl rfl .none (Kn.ex_pick h72 (.tmp rfl) (.tmp rfl)) fun a73 h73 => ?_
  clear h72 a72
  refine Kn.pure h73 rfl rfl .none (Kn.ex_move h73 (.tmp rfl)) fun a74 h74 => ?_
  clear h73 a73
  refine Kn.pure h74 rfl rfl (.some rfl rfl rfl) (Kn.ex_move h74 (.tmp rfl)) fun a75 h75 => ?_
  clear h74 a74
  refine Kn.step h75 rfl rfl (.some rfl rfl rfl) (Kn.ex_bin h75 (.tmp rfl) .const) fun Ko hKo => ?_
  go_simp
  try go_bits
  refine hKo _ _ fun a76 h76 => ?_
  clear hKo Ko h75 a75
  refine Kn.pure h76 rfl rfl .none (Kn.ex_pick h76 (.tmp rfl) (.tmp rfl)) fun a77 h77 => ?_
  clear h76 a76
  refine Kn.pure h77 rfl rfl .none (Kn.ex_move h77 (.tmp rfl)) fun a78 h78 => ?_
  clear h77 a77
  refine Kn.pure h78 rfl rfl (.some rfl rfl rfl) (Kn.ex_move h78 (.tmp rfl)) fun a79 h79 => ?_
  clear h78 a78
  refine Kn.pure h79 rfl rfl (.some rfl rfl rfl) (Kn.ex_move h79 (.tmp rfl)) fun a80 h80 => ?_
  clear h79 a79
  refine Kn.step h80 rfl rfl (.some rfl rfl rfl) (Kn.ex_bin h80 (.tmp rfl) (.tmp rfl)) fun Ko hKo => ?_
  go_simp
  try go_bits
  refine hKo _ _ fun a81 h81 => ?_
  clear hKo Ko h80 a80
  refine Kn.pure h81 rfl rfl .none (Kn.ex_pick h81 (.tmp rfl) (.tmp rfl)) fun a82 h82 => ?_
  clear h81 a81
  refine Kn.pure h82 rfl rfl .none (Kn.ex_move h82 (.tmp rfl)) fun a83 h83 => ?_
  clear h82 a82
  refine Kn.pure h83 rfl rfl (.some rfl rfl rfl) (Kn.ex_move h83 (.tmp rfl)) fun a84 h84 => ?_
  clear h83 a83
  refine Kn.step h84 rfl rfl (.some rfl rfl rfl) (Kn.ex_bin h84 (.tmp rfl) .const) fun Ko hKo => ?_
  go_simp
  try go_bits
  refine hKo _ _ fun a85 h85 => ?_
  clear hKo Ko h84 a84
  refine Kn.pure h85 rfl rfl .none (Kn.ex_pick h85 (.tmp rfl) (.tmp rfl)) fun a86 h86 => ?_
  clear h85 a85
  refine wpList_nil ?_
  refine hK13 _ _ ?_
  clear hK13 K13
  replace h86 := h86.cut (.cons (t := 97) rfl (.cons (t := 9) rfl (.cons (t := 6) rfl (.cons (t := 5) rfl .nil))))
  refine Kn.no h86 (.tmp rfl) ?_
  refine wp_skip ?_
  refine hK12 _ _ ?_
  clear hK12 K12
  replace h86 := h86.cut (.cons (t := 9) rfl (.cons (t := 6) rfl (.cons (t := 5) rfl .nil)))
  obtain ⟨cb, w7, hcv, hrow, hb7, -⟩ := Byt.made w6 X
  have H7 := Lib.hid (H6.out.on hb7)
  have hg6 : w.heap.size + 2 ≤ w6.heap.size := H6.out.size
  have hg7 : w6.heap.size < w7.heap.size := hrow.1
  have HR7 := Lib.hid hrow
  clear H6 hb7 hrow
  refine wp_seq_k fun K14 hK14 => ?_
  refine wp_region_lit ?_
  refine Kn.pure h86 rfl rfl .none (Kn.ex_move h86 (.tmp rfl)) fun a87 h87 => ?_
  clear h86 a86
  refine Kn.known h87 rfl rfl .none (Kn.ex_convert h87 (.tmp rfl)) hcv fun a88 h88 => ?_
  clear h87 a87
  clear hcv
  refine Kn.pure h88 rfl rfl .none (Kn.ex_assign h88 (.tmp rfl)) fun a89 h89 => ?_
  clear h88 a88
  refine wpList_nil ?_
  refine hK14 _ _ ?_
  clear hK14 K14
  replace h89 := h89.cut (.cons (t := 16) rfl (.cons (t := 9) rfl (.cons (t := 6) rfl (.cons (t := 5) rfl .nil))))
  have cx := H7.out.cx
  have cy := H7.out.cy
  obtain ⟨k, hk⟩ : ∃ k, x % X.size = k := ⟨_, rfl⟩
  have hkl : k < X.size := by rw [← hk]; exact Nat.mod_lt _ (by omega)
  have hkl2 : k < X.data.toList.length := hkl
  have hmod : (x : Int) % (X.size : Int) = (k : Int) := by rw [← hk, Int.natCast_emod]
  clear hk
  refine wp_seq_k fun K15 hK15 => ?_
  refine wp_region_lit ?_
  refine Kn.step h89 rfl rfl .none (Kn.ex_indexAddr h89 (.tmp rfl) .const) fun Ko hKo => ?_
  go_simp
  try go_bits
  refine hKo _ _ fun a90 h90 => ?_
  clear hKo Ko h89 a89
  refine Kn.step h90 rfl rfl .none (Kn.ex_load h90 (.tmp rfl)) fun Ko hKo => ?_
  go_simp
  try go_bits
  refine hKo _ _ fun a91 h91 => ?_
  clear hKo Ko h90 a90
  
  refine Kn.step h91 rfl rfl .none (Kn.ex_convert h91 (.tmp rfl)) fun Ko hKo => ?_
  go_simp
  try go_bits
  refine hKo _ _ fun a92 h92 => ?_
  clear hKo Ko h91 a91
  refine Kn.pure h92 rfl rfl .none (Kn.ex_move h92 (.tmp rfl)) fun a93 h93 => ?_
  clear h92 a92
  refine Kn.step h93 rfl rfl .none (Kn.ex_len h93 (.tmp rfl)) fun Ko hKo => ?_
  go_simp
  try go_bits
  refine hKo _ _ fun a94 h94 => ?_
  clear hKo Ko h93 a93
  refine Kn.step h94 rfl rfl .none (Kn.ex_bin h94 (.tmp rfl) (.tmp rfl)) fun Ko hKo => ?_
  go_simp
  try go_bits
  rw [if_neg (by intro e; rw [e] at hXg; exact absurd hXg (by decide)), hmod]
  refine hKo _ _ fun a95 h95 => ?_
  clear hKo Ko h94 a94
  refine Kn.pure h95 rfl rfl .none (Kn.ex_assign h95 (.tmp rfl)) fun a96 h96 => ?_
  clear h95 a95
  refine wpList_nil ?_
  refine hK15 _ _ ?_
  clear hK15 K15
  replace h96 := h96.cut (.cons (t := 17) rfl (.cons (t := 16) rfl (.cons (t := 9) rfl (.cons (t := 6) rfl (.cons (t := 5) rfl .nil)))))
  clear hmod
  obtain ⟨d, hd⟩ : ∃ d, y % 256 = d := ⟨_, rfl⟩
  have hdl : d < 256 := by omega
  have hwu : IntKind.u8.wrap (y : Int) = (d : Int) := by simp [IntKind.wrap, IntKind.bits, IntKind.signed]; omega
  obtain ⟨q, hq⟩ : ∃ q : UInt8, X.data.toList[k] = q := ⟨_, rfl⟩
  have hcb := HR7.out.cell hkl2
  have hfb := HR7.out.free hkl2
  rw [hq] at hcb
  have hxo := u8_xor_nat q.toNat d (by have := q.toNat_lt; omega) hdl
  have hql := q.toNat_lt
  clear hd
  refine wp_seq_k fun K16 hK16 => ?_
  refine Kn.tail 9 (by kernel_rfl) (by kernel_rfl) rfl rfl ?_
  refine Kn.spure h96 rfl rfl .none (Kn.ex_move h96 (.tmp rfl)) fun a97 h97 => ?_
  clear h96 a96
  refine Kn.spure h97 rfl rfl .none (Kn.ex_move h97 (.tmp rfl)) fun a98 h98 => ?_
  clear h97 a97
  refine Kn.sstep h98 rfl rfl .none (Kn.ex_indexAddr h98 (.tmp rfl) (.tmp rfl)) fun Ko hKo => ?_
  go_simp
  try go_bits
  refine hKo _ fun a99 h99 => ?_
  clear hKo Ko h98 a98
  refine Kn.sstep h99 rfl rfl .none (Kn.ex_load h99 (.tmp rfl)) fun Ko hKo => ?_
  go_simp
  try go_bits
  refine hKo _ fun a100 h100 => ?_
  clear hKo Ko h99 a99
  refine Kn.sstep h100 rfl rfl .none (Kn.ex_indexAddr h100 (.tmp rfl) .const) fun Ko hKo => ?_
  go_simp
  try go_bits
  refine hKo _ fun a101 h101 => ?_
  clear hKo Ko h100 a100
  refine Kn.sstep h101 rfl rfl .none (Kn.ex_load h101 (.tmp rfl)) fun Ko hKo => ?_
  go_simp
  try go_bits
  refine hKo _ fun a102 h102 => ?_
  clear hKo Ko h101 a101
  refine Kn.sstep h102 rfl rfl .none (Kn.ex_convert h102 (.tmp rfl)) fun Ko hKo => ?_
  go_simp
  try go_bits
  refine hKo _ fun a103 h103 => ?_
  clear hKo Ko h102 a102
  refine Kn.sstep h103 rfl rfl .none (Kn.ex_bin h103 (.tmp rfl) (.tmp rfl)) fun Ko hKo => ?_
  go_simp
  try go_bits
  refine hKo _ fun a104 h104 => ?_
  clear hKo Ko h103 a103
  refine Kn.sstep h104 rfl rfl .none (Kn.ex_indexAddr h104 (.tmp rfl) (.tmp rfl)) fun Ko hKo => ?_
  go_simp
  try go_bits
  refine hKo _ fun a105 h105 => ?_
  clear hKo Ko h104 a104
  refine wpStill_nil ?_
  refine Kn.stepU h105 rfl .none (Kn.ex_store h105 (.tmp rfl) (.tmp rfl)) fun Ko hKo => ?_
  go_simp
  try go_bits
  refine hKo _ ?_
  clear hKo Ko
  refine wpList_nil ?_
  refine hK16 _ _ ?_
  clear hK16 K16
  replace h105 := h105.cut (.cons (t := 16) rfl (.cons (t := 9) rfl (.cons (t := 6) rfl (.cons (t := 5) rfl .nil))))
  have hsz7 := H7.out.size
  obtain ⟨r, hr⟩ : ∃ r : UInt8, q ^^^ UInt8.ofNat d = r := ⟨_, rfl⟩
  have hrn : q.toNat ^^^ d = r.toNat := by rw [← hr, UInt8.toNat_xor, Oct.toNat_ofNat _ hdl]
  have HRn := Lib.hid hrn
  have HQ := Lib.hid hq
  have HRr := Lib.hid hr
  clear hq hr hrn cx cy hcb hfb hxo
  obtain ⟨w8, hw8⟩ : ∃ v, (w7.setCell ⟨w6.heap.size, k, none⟩ (.int .u8 ((q.toNat ^^^ d : Nat) : Int))).drew = v := ⟨_, rfl⟩
  have H8 : Hid (St w x y w8) := Lib.hid (by rw [← hw8]; exact (H7.out.set (by omega) (by omega) _).drew)
  have HR8 : Hid (Byt.BRow w8 w6.heap.size (X.data.toList.set k r)) := Lib.hid (by rw [← hw8]; exact (HR7.out.set k hkl2 r _ (by rw [HRn.out])).drew)
  change Code.wp _ _ _ _ (w7.setCell ⟨w6.heap.size, k, none⟩ (.int .u8 ((q.toNat ^^^ d : Nat) : Int))).drew
  rw [hw8]
  clear hw8
  have hcv := HR8.out.text X.size cb (by rw [List.length_set]; rfl)
  obtain ⟨Y, hY⟩ : ∃ Y : ByteArray, (⟨(X.data.toList.set k r).toArray⟩ : ByteArray) = Y := ⟨_, rfl⟩
  have HYd : Hid (Y.data.toList = X.data.toList.set k r) := Lib.hid (by rw [← hY])
  have HYs : Hid (Y.size = X.size) := Lib.hid (by rw [size_eq, HYd.out, List.length_set]; rfl)
  rw [hY] at hcv
  clear hY HR8 HR7 H7
  by_cases hd0 : d = 0
  · have HO : Hid (Y.data.toList = frameB s.data.toList) := Lib.hid (by
      rw [HYd.out, ← HRr.out, hd0, show UInt8.ofNat 0 = 0 from rfl, UInt8.xor_zero, ← HQ.out, List.set_getElem_self, ← HX.out]; rfl)
    refine wp_seq_k fun K17 hK17 => ?_
    refine wp_region_lit ?_
    refine Kn.pure h105 rfl rfl .none (Kn.ex_move h105 (.tmp rfl)) fun a106 h106 => ?_
    clear h105 a105
    refine Kn.known h106 rfl rfl .none (Kn.ex_convert h106 (.tmp rfl)) hcv fun a107 h107 => ?_
    clear h106 a106
    clear hcv
    refine Kn.call h107 rfl rfl .none (Kn.ex_call h107 (.cons (.tmp rfl) .nil)) Tryd.call8 (open_ok Y s _ (by have := HYs.out; omega) HO.out) fun e w9 hp => ?_
    obtain ⟨rfl, hb9⟩ := hp
    refine ⟨_, rfl, fun a108 h108 => ?_⟩
    clear h107 a107
    have H9 := Lib.hid (H8.out.on hb9)
    clear hb9 H8 HO
    refine Kn.pure h108 rfl rfl .none (Kn.ex_move h108 (.tmp rfl)) fun a109 h109 => ?_
    clear h108 a108
    refine Kn.pure h109 rfl rfl .none (Kn.ex_extract h109 (.tmp rfl) rfl) fun a110 h110 => ?_
    clear h109 a109
    refine Kn.pure h110 rfl rfl .none (Kn.ex_extract h110 (.tmp rfl) rfl) fun a111 h111 => ?_
    clear h110 a110
    refine Kn.pure h111 rfl rfl .none (Kn.ex_assign h111 (.tmp rfl)) fun a112 h112 => ?_
    clear h111 a111
    refine Kn.pure h112 rfl rfl .none (Kn.ex_assign h112 (.tmp rfl)) fun a113 h113 => ?_
    clear h112 a112
    refine wpList_nil ?_
    refine hK17 _ _ ?_
    clear hK17 K17
    replace h113 := h113.cut (.cons (t := 19) rfl (.cons (t := 18) rfl (.cons (t := 9) rfl (.cons (t := 6) rfl (.cons (t := 5) rfl .nil)))))
    have cy := H9.out.cy
    refine wp_seq_k fun K18 hK18 => ?_
    refine wp_seq_k fun K19 hK19 => ?_
    refine wp_region_lit ?_
    refine Kn.step h113 rfl rfl .none (Kn.ex_indexAddr h113 (.tmp rfl) .const) fun Ko hKo => ?_
    go_simp
    try go_bits
    refine hKo _ _ fun a114 h114 => ?_
    clear hKo Ko h113 a113
    refine Kn.step h114 rfl rfl .none (Kn.ex_load h114 (.tmp rfl)) fun Ko hKo => ?_
    go_simp
    try go_bits
    refine hKo _ _ fun a115 h115 => ?_
    clear hKo Ko h114 a114
    refine Kn.step h115 rfl rfl .none (Kn.ex_convert h115 (.tmp rfl)) fun Ko hKo => ?_
    go_simp
    try go_bits
    refine hKo _ _ fun a116 h116 => ?_
    clear hKo Ko h115 a115
    have hdt : ((d : Int) == 0) = true := beq_iff_eq.2 (by omega)
    have hdt2 : ((d : Int) != 0) = false := by simp [bne, hdt]
    refine Kn.step h116 rfl rfl .none (Kn.ex_bin h116 (.tmp rfl) .const) fun Ko hKo => ?_
    go_simp
    try go_bits
    refine hKo _ _ fun a117 h117 => ?_
    clear hKo Ko h116 a116
    clear hdt hdt2
    refine Kn.pure h117 rfl rfl .none (Kn.ex_move h117 (.tmp rfl)) fun a118 h118 => ?_
    clear h117 a117
    refine Kn.skip h118 rfl rfl (.some rfl rfl rfl) fun a119 h119 => ?_
    clear h118 a118
    refine Kn.skip h119 rfl rfl (.some rfl rfl rfl) fun a120 h120 => ?_
    clear h119 a119
    refine Kn.skip h120 rfl rfl (.some rfl rfl rfl) fun a121 h121 => ?_
    clear h120 a120
    refine Kn.skip h121 rfl rfl (.gone rfl rfl) fun a122 h122 => ?_
    clear h121 a121
    refine Kn.skip h122 rfl rfl (.gone rfl rfl) fun a123 h123 => ?_
    clear h122 a122
    refine Kn.skip h123 rfl rfl (.some rfl rfl rfl) fun a124 h124 => ?_
    clear h123 a123
    refine Kn.pure h124 rfl rfl .none (Kn.ex_pick h124 (.tmp rfl) .const) fun a125 h125 => ?_
    clear h124 a124
    refine wpList_nil ?_
    refine hK19 _ _ ?_
    clear hK19 K19
    replace h125 := h125.cut (.cons (t := 132) rfl (.cons (t := 9) rfl (.cons (t := 6) rfl .nil)))
    refine Kn.no h125 (.tmp rfl) ?_
    refine wp_skip ?_
    refine hK18 _ _ ?_
    clear hK18 K18
    replace h125 := h125.cut (.cons (t := 9) rfl (.cons (t := 6) rfl .nil))
    clear cy
    obtain ⟨Z, hZ⟩ : ∃ Z : ByteArray, X ++ ⟨#[122]⟩ = Z := ⟨_, rfl⟩
    have HXz := Lib.hid (show Z.size = s.size + 7 by rw [← hZ, ByteArray.size_append]; have : (⟨#[122]⟩ : ByteArray).size = 1 := rfl; have := HXs.out; omega)
    have HDz : Hid (Z.data.toList = frameB s.data.toList ++ [122]) := Lib.hid (by rw [← hZ, data_app, ← HX.out]; rfl)
    refine wp_seq_k fun K20 hK20 => ?_
    refine wp_region_lit ?_
    refine Kn.pure h125 rfl rfl .none (Kn.ex_move h125 (.tmp rfl)) fun a126 h126 => ?_
    clear h125 a125
    refine Kn.step h126 rfl rfl .none (Kn.ex_bin h126 (.tmp rfl) .const) fun Ko hKo => ?_
    go_simp
    rw [if_neg (by omega)]
    refine hKo _ _ fun a127 h127 => ?_
    clear hKo Ko h126 a126
    clear hZ
    refine Kn.call h127 rfl rfl .none (Kn.ex_call h127 (.cons (.tmp rfl) .nil)) Tryd.call8 (open_z Z s X.size _ HXz.out HXs.out (by omega) HDz.out) fun e w10 hp => ?_
    obtain ⟨rfl, hb10⟩ := hp
    refine ⟨_, rfl, fun a128 h128 => ?_⟩
    clear h127 a127
    have H10 := Lib.hid (H9.out.on hb10)
    clear hb10 H9 HDz HXz
    refine Kn.pure h128 rfl rfl .none (Kn.ex_move h128 (.tmp rfl)) fun a129 h129 => ?_
    clear h128 a128
    refine Kn.pure h129 rfl rfl .none (Kn.ex_extract h129 (.tmp rfl) rfl) fun a130 h130 => ?_
    clear h129 a129
    refine Kn.pure h130 rfl rfl .none (Kn.ex_extract h130 (.tmp rfl) rfl) fun a131 h131 => ?_
    clear h130 a130
    refine Kn.pure h131 rfl rfl .none (Kn.ex_assign h131 (.tmp rfl)) fun a132 h132 => ?_
    clear h131 a131
    refine Kn.pure h132 rfl rfl .none (Kn.ex_assign h132 (.tmp rfl)) fun a133 h133 => ?_
    clear h132 a132
    refine wpList_nil ?_
    refine hK20 _ _ ?_
    clear hK20 K20
    replace h133 := h133.cut (.cons (t := 21) rfl (.cons (t := 20) rfl (.cons (t := 9) rfl (.cons (t := 6) rfl .nil))))
    refine wp_seq_k fun K21 hK21 => ?_
    refine wp_region_lit ?_
    refine Kn.known h133 rfl rfl .none (Kn.ex_makeSlice h133 .const .const) (make_zeros w10) fun a134 h134 => ?_
    clear h133 a133
    refine Kn.known h134 rfl rfl .none (Kn.ex_convert h134 (.tmp rfl)) (conv_zeros w10) fun a135 h135 => ?_
    clear h134 a134
    refine Kn.call h135 rfl rfl .none (Kn.ex_call h135 (.cons (.tmp rfl) .nil)) Tryd.call5 (seal_zeros _) fun e w11 hp => ?_
    obtain ⟨rfl, rfl⟩ := hp
    refine ⟨_, rfl, fun a136 h136 => ?_⟩
    clear h135 a135
    have H11 := Lib.hid (H10.out.on ((Below.refl _ _).alloc (Nat.le_refl _) zeroObj))
    have HG11 : Hid (Err.ErrTab (w10.alloc zeroObj)) := Lib.hid (HG.out.below H11.out.old HG.out.lt)
    obtain ⟨w11, hw11⟩ : ∃ v, w10.alloc zeroObj = v := ⟨_, rfl⟩
    rw [hw11] at H11 HG11 ⊢
    clear hw11 H10
    refine Kn.pure h136 rfl rfl .none (Kn.ex_move h136 (.tmp rfl)) fun a137 h137 => ?_
    clear h136 a136
    refine Kn.pure h137 rfl rfl .none (Kn.ex_extract h137 (.tmp rfl) rfl) fun a138 h138 => ?_
    clear h137 a137
    refine Kn.pure h138 rfl rfl .none (Kn.ex_extract h138 (.tmp rfl) rfl) fun a139 h139 => ?_
    clear h138 a138
    refine Kn.pure h139 rfl rfl .none (Kn.ex_assign h139 (.tmp rfl)) fun a140 h140 => ?_
    clear h139 a139
    refine Kn.pure h140 rfl rfl .none (Kn.ex_assign h140 (.tmp rfl)) fun a141 h141 => ?_
    clear h140 a140
    refine wpList_nil ?_
    refine hK21 _ _ ?_
    clear hK21 K21
    replace h141 := h141.cut (.cons (t := 23) rfl (.cons (t := 21) rfl (.cons (t := 20) rfl (.cons (t := 9) rfl (.cons (t := 6) rfl .nil)))))
    refine wp_seq_k fun K22 hK22 => ?_
    refine wp_region_lit ?_
    refine Kn.pure h141 rfl rfl .none (Kn.ex_move h141 (.tmp rfl)) fun a142 h142 => ?_
    clear h141 a141
    refine Kn.step h142 rfl rfl .none (Kn.ex_bin h142 (.tmp rfl) .const) fun Ko hKo => ?_
    go_simp
    try go_bits
    refine hKo _ _ fun a143 h143 => ?_
    clear hKo Ko h142 a142
    refine Kn.pure h143 rfl rfl .none (Kn.ex_move h143 (.tmp rfl)) fun a144 h144 => ?_
    clear h143 a143
    refine Kn.pure h144 rfl rfl (.some rfl rfl rfl) (Kn.ex_move h144 (.tmp rfl)) fun a145 h145 => ?_
    clear h144 a144
    refine Kn.call h145 rfl rfl (.some rfl rfl rfl) (Kn.ex_call h145 (.cons (.tmp rfl) .nil)) Tryd.call9 (Err.code_F (X.size : Int) 4 _ HG11.out) fun e w12 hp => ?_
    obtain ⟨rfl, hb12⟩ := hp
    refine ⟨_, rfl, fun a146 h146 => ?_⟩
    clear h145 a145
    have H12 := Lib.hid (H11.out.on hb12)
    have HG12 := Lib.hid (HG11.out.on hb12)
    clear hb12 H11 HG11
    refine Kn.step h146 rfl rfl (.some rfl rfl rfl) (Kn.ex_bin h146 (.tmp rfl) .const) fun Ko hKo => ?_
    go_simp
    try go_bits
    refine hKo _ _ fun a147 h147 => ?_
    clear hKo Ko h146 a146
    refine Kn.pure h147 rfl rfl .none (Kn.ex_pick h147 (.tmp rfl) (.tmp rfl)) fun a148 h148 => ?_
    clear h147 a147
    refine Kn.pure h148 rfl rfl .none (Kn.ex_move h148 (.tmp rfl)) fun a149 h149 => ?_
    clear h148 a148
    refine Kn.pure h149 rfl rfl (.some rfl rfl rfl) (Kn.ex_move h149 (.tmp rfl)) fun a150 h150 => ?_
    clear h149 a149
    refine Kn.call h150 rfl rfl (.some rfl rfl rfl) (Kn.ex_call h150 (.cons (.tmp rfl) .nil)) Tryd.call10 (Err.place_F (X.size : Int) 4 _ HG12.out) fun e w13 hp => ?_
    obtain ⟨rfl, hb13⟩ := hp
    refine ⟨_, rfl, fun a151 h151 => ?_⟩
    clear h150 a150
    have H13 := Lib.hid (H12.out.on hb13)
    have HG13 := Lib.hid (HG12.out.on hb13)
    clear hb13 H12 HG12
    refine Kn.pure h151 rfl rfl (.some rfl rfl rfl) (Kn.ex_move h151 (.tmp rfl)) fun a152 h152 => ?_
    clear h151 a151
    refine Kn.step h152 rfl rfl (.some rfl rfl rfl) (Kn.ex_len h152 (.tmp rfl)) fun Ko hKo => ?_
    go_simp
    try go_bits
    refine hKo _ _ fun a153 h153 => ?_
    clear hKo Ko h152 a152
    refine Kn.step h153 rfl rfl (.some rfl rfl rfl) (Kn.ex_bin h153 (.tmp rfl) (.tmp rfl)) fun Ko hKo => ?_
    go_simp
    try go_bits
    refine hKo _ _ fun a154 h154 => ?_
    clear hKo Ko h153 a153
    refine Kn.pure h154 rfl rfl .none (Kn.ex_pick h154 (.tmp rfl) (.tmp rfl)) fun a155 h155 => ?_
    clear h154 a154
    refine Kn.pure h155 rfl rfl .none (Kn.ex_move h155 (.tmp rfl)) fun a156 h156 => ?_
    clear h155 a155
    refine Kn.pure h156 rfl rfl (.some rfl rfl rfl) (Kn.ex_move h156 (.tmp rfl)) fun a157 h157 => ?_
    clear h156 a156
    refine Kn.call h157 rfl rfl (.some rfl rfl rfl) (Kn.ex_call h157 (.cons (.tmp rfl) .nil)) Tryd.call9 (Err.code_E 6 _ HG13.out) fun e w14 hp => ?_
    obtain ⟨rfl, hb14⟩ := hp
    refine ⟨_, rfl, fun a158 h158 => ?_⟩
    clear h157 a157
    have H14 := Lib.hid (H13.out.on hb14)
    have HG14 := Lib.hid (HG13.out.on hb14)
    clear hb14 H13 HG13
    refine Kn.step h158 rfl rfl (.some rfl rfl rfl) (Kn.ex_bin h158 (.tmp rfl) .const) fun Ko hKo => ?_
    go_simp
    try go_bits
    refine hKo _ _ fun a159 h159 => ?_
    clear hKo Ko h158 a158
    refine Kn.pure h159 rfl rfl .none (Kn.ex_pick h159 (.tmp rfl) (.tmp rfl)) fun a160 h160 => ?_
    clear h159 a159
    refine Kn.pure h160 rfl rfl .none (Kn.ex_assign h160 (.tmp rfl)) fun a161 h161 => ?_
    clear h160 a160
    refine wpList_nil ?_
    refine hK22 _ _ ?_
    clear hK22 K22
    replace h161 := h161.cut (.cons (t := 6) rfl .nil)
    refine wp_ret ?_
    exact Kn.ret1 h161 rfl rfl ⟨rfl, H14.out.old⟩
  · have HO : Hid (¬ (Y.size = 6 + nxN Y.data.toList ∧ nxN Y.data.toList ≤ 60000 ∧ nxX Y.data.toList = crc (Y.data.toList.drop 4))) := Lib.hid (by
      have e1 : X.data.toList = frameB s.data.toList := by rw [← HX.out]; rfl
      have h1 := turned_bad s.data.toList k r (by have e2 : s.data.toList.length = s.size := rfl; omega) (by rw [← e1]; exact hkl2) (by
        intro e
        have h2 : r = q := by rw [e, ← HQ.out]; simp [e1]
        have h3 := HRr.out
        rw [h2] at h3
        have h4 : q.toNat ^^^ d = q.toNat := by rw [HRn.out, h2]
        have h5 : (q.toNat ^^^ d) ^^^ q.toNat = q.toNat ^^^ q.toNat := by rw [h4]
        rw [Nat.xor_self, Nat.xor_comm q.toNat d, Nat.xor_assoc, Nat.xor_self, Nat.xor_zero] at h5
        exact hd0 h5)
      rw [← e1, ← HYd.out] at h1
      exact h1)
    refine wp_seq_k fun K17 hK17 => ?_
    refine wp_region_lit ?_
    refine Kn.pure h105 rfl rfl .none (Kn.ex_move h105 (.tmp rfl)) fun a106 h106 => ?_
    clear h105 a105
    refine Kn.known h106 rfl rfl .none (Kn.ex_convert h106 (.tmp rfl)) hcv fun a107 h107 => ?_
    clear h106 a106
    clear hcv
    refine Kn.call h107 rfl rfl .none (Kn.ex_call h107 (.cons (.tmp rfl) .nil)) Tryd.call8 (open_bad Y _ (by rw [HYs.out]; omega) HO.out) fun e w9 hp => ?_
    obtain ⟨pp, cc, rfl, hb9⟩ := hp
    refine ⟨_, rfl, fun a108 h108 => ?_⟩
    clear h107 a107
    have H9 := Lib.hid (H8.out.on hb9)
    clear hb9 H8 HO
    refine Kn.pure h108 rfl rfl .none (Kn.ex_move h108 (.tmp rfl)) fun a109 h109 => ?_
    clear h108 a108
    refine Kn.pure h109 rfl rfl .none (Kn.ex_extract h109 (.tmp rfl) rfl) fun a110 h110 => ?_
    clear h109 a109
    refine Kn.pure h110 rfl rfl .none (Kn.ex_extract h110 (.tmp rfl) rfl) fun a111 h111 => ?_
    clear h110 a110
    refine Kn.pure h111 rfl rfl .none (Kn.ex_assign h111 (.tmp rfl)) fun a112 h112 => ?_
    clear h111 a111
    refine Kn.pure h112 rfl rfl .none (Kn.ex_assign h112 (.tmp rfl)) fun a113 h113 => ?_
    clear h112 a112
    refine wpList_nil ?_
    refine hK17 _ _ ?_
    clear hK17 K17
    replace h113 := h113.cut (.cons (t := 19) rfl (.cons (t := 18) rfl (.cons (t := 9) rfl (.cons (t := 6) rfl (.cons (t := 5) rfl .nil)))))
    have cy := H9.out.cy
    refine wp_seq_k fun K18 hK18 => ?_
    refine wp_seq_k fun K19 hK19 => ?_
    refine wp_region_lit ?_
    refine Kn.step h113 rfl rfl .none (Kn.ex_indexAddr h113 (.tmp rfl) .const) fun Ko hKo => ?_
    go_simp
    try go_bits
    refine hKo _ _ fun a114 h114 => ?_
    clear hKo Ko h113 a113
    refine Kn.step h114 rfl rfl .none (Kn.ex_load h114 (.tmp rfl)) fun Ko hKo => ?_
    go_simp
    try go_bits
    refine hKo _ _ fun a115 h115 => ?_
    clear hKo Ko h114 a114
    refine Kn.step h115 rfl rfl .none (Kn.ex_convert h115 (.tmp rfl)) fun Ko hKo => ?_
    go_simp
    try go_bits
    refine hKo _ _ fun a116 h116 => ?_
    clear hKo Ko h115 a115
    have hdt : ((d : Int) == 0) = false := beq_eq_false_iff_ne.2 (by omega)
    have hdt2 : ((d : Int) != 0) = true := by simp [bne, hdt]
    refine Kn.step h116 rfl rfl .none (Kn.ex_bin h116 (.tmp rfl) .const) fun Ko hKo => ?_
    go_simp
    try go_bits
    refine hKo _ _ fun a117 h117 => ?_
    clear hKo Ko h116 a116
    clear hdt hdt2
    refine Kn.pure h117 rfl rfl .none (Kn.ex_move h117 (.tmp rfl)) fun a118 h118 => ?_
    clear h117 a117
    refine Kn.pure h118 rfl rfl (.some rfl rfl rfl) (Kn.ex_move h118 (.tmp rfl)) fun a119 h119 => ?_
    clear h118 a118
    refine Kn.step h119 rfl rfl (.some rfl rfl rfl) (Kn.ex_bin h119 (.tmp rfl) .const) fun Ko hKo => ?_
    go_simp
    try go_bits
    refine hKo _ _ fun a120 h120 => ?_
    clear hKo Ko h119 a119
    refine Kn.pure h120 rfl rfl (.some rfl rfl rfl) (Kn.ex_move h120 (.tmp rfl)) fun a121 h121 => ?_
    clear h120 a120
    refine Kn.pure h121 rfl rfl (.some rfl rfl rfl) (Kn.ex_move h121 (.tmp rfl)) fun a122 h122 => ?_
    clear h121 a121
    unfold Oct.faultV at h122
    refine Kn.step h122 rfl rfl (.some rfl rfl rfl) (Kn.ex_bin h122 (.tmp rfl) .const) fun Ko hKo => ?_
    go_simp
    try go_bits
    refine hKo _ _ fun a123 h123 => ?_
    clear hKo Ko h122 a122
    refine Kn.pure h123 rfl rfl (.some rfl rfl rfl) (Kn.ex_pick h123 (.tmp rfl) (.tmp rfl)) fun a124 h124 => ?_
    clear h123 a123
    refine Kn.pure h124 rfl rfl .none (Kn.ex_pick h124 (.tmp rfl) (.tmp rfl)) fun a125 h125 => ?_
    clear h124 a124
    refine wpList_nil ?_
    refine hK19 _ _ ?_
    clear hK19 K19
    replace h125 := h125.cut (.cons (t := 132) rfl (.cons (t := 9) rfl (.cons (t := 6) rfl .nil)))
    refine Kn.no h125 (.tmp rfl) ?_
    refine wp_skip ?_
    refine hK18 _ _ ?_
    clear hK18 K18
    replace h125 := h125.cut (.cons (t := 9) rfl (.cons (t := 6) rfl .nil))
    clear cy
    obtain ⟨Z, hZ⟩ : ∃ Z : ByteArray, X ++ ⟨#[122]⟩ = Z := ⟨_, rfl⟩
    have HXz := Lib.hid (show Z.size = s.size + 7 by rw [← hZ, ByteArray.size_append]; have : (⟨#[122]⟩ : ByteArray).size = 1 := rfl; have := HXs.out; omega)
    have HDz : Hid (Z.data.toList = frameB s.data.toList ++ [122]) := Lib.hid (by rw [← hZ, data_app, ← HX.out]; rfl)
    refine wp_seq_k fun K20 hK20 => ?_
    refine wp_region_lit ?_
    refine Kn.pure h125 rfl rfl .none (Kn.ex_move h125 (.tmp rfl)) fun a126 h126 => ?_
    clear h125 a125
    refine Kn.step h126 rfl rfl .none (Kn.ex_bin h126 (.tmp rfl) .const) fun Ko hKo => ?_
    go_simp
    rw [if_neg (by omega)]
    refine hKo _ _ fun a127 h127 => ?_
    clear hKo Ko h126 a126
    clear hZ
    refine Kn.call h127 rfl rfl .none (Kn.ex_call h127 (.cons (.tmp rfl) .nil)) Tryd.call8 (open_z Z s X.size _ HXz.out HXs.out (by omega) HDz.out) fun e w10 hp => ?_
    obtain ⟨rfl, hb10⟩ := hp
    refine ⟨_, rfl, fun a128 h128 => ?_⟩
    clear h127 a127
    have H10 := Lib.hid (H9.out.on hb10)
    clear hb10 H9 HDz HXz
    refine Kn.pure h128 rfl rfl .none (Kn.ex_move h128 (.tmp rfl)) fun a129 h129 => ?_
    clear h128 a128
    refine Kn.pure h129 rfl rfl .none (Kn.ex_extract h129 (.tmp rfl) rfl) fun a130 h130 => ?_
    clear h129 a129
    refine Kn.pure h130 rfl rfl .none (Kn.ex_extract h130 (.tmp rfl) rfl) fun a131 h131 => ?_
    clear h130 a130
    refine Kn.pure h131 rfl rfl .none (Kn.ex_assign h131 (.tmp rfl)) fun a132 h132 => ?_
    clear h131 a131
    refine Kn.pure h132 rfl rfl .none (Kn.ex_assign h132 (.tmp rfl)) fun a133 h133 => ?_
    clear h132 a132
    refine wpList_nil ?_
    refine hK20 _ _ ?_
    clear hK20 K20
    replace h133 := h133.cut (.cons (t := 21) rfl (.cons (t := 20) rfl (.cons (t := 9) rfl (.cons (t := 6) rfl .nil))))
    refine wp_seq_k fun K21 hK21 => ?_
    refine wp_region_lit ?_
    refine Kn.known h133 rfl rfl .none (Kn.ex_makeSlice h133 .const .const) (make_zeros w10) fun a134 h134 => ?_
    clear h133 a133
    refine Kn.known h134 rfl rfl .none (Kn.ex_convert h134 (.tmp rfl)) (conv_zeros w10) fun a135 h135 => ?_
    clear h134 a134
    refine Kn.call h135 rfl rfl .none (Kn.ex_call h135 (.cons (.tmp rfl) .nil)) Tryd.call5 (seal_zeros _) fun e w11 hp => ?_
    obtain ⟨rfl, rfl⟩ := hp
    refine ⟨_, rfl, fun a136 h136 => ?_⟩
    clear h135 a135
    have H11 := Lib.hid (H10.out.on ((Below.refl _ _).alloc (Nat.le_refl _) zeroObj))
    have HG11 : Hid (Err.ErrTab (w10.alloc zeroObj)) := Lib.hid (HG.out.below H11.out.old HG.out.lt)
    obtain ⟨w11, hw11⟩ : ∃ v, w10.alloc zeroObj = v := ⟨_, rfl⟩
    rw [hw11] at H11 HG11 ⊢
    clear hw11 H10
    refine Kn.pure h136 rfl rfl .none (Kn.ex_move h136 (.tmp rfl)) fun a137 h137 => ?_
    clear h136 a136
    refine Kn.pure h137 rfl rfl .none (Kn.ex_extract h137 (.tmp rfl) rfl) fun a138 h138 => ?_
    clear h137 a137
    refine Kn.pure h138 rfl rfl .none (Kn.ex_extract h138 (.tmp rfl) rfl) fun a139 h139 => ?_
    clear h138 a138
    refine Kn.pure h139 rfl rfl .none (Kn.ex_assign h139 (.tmp rfl)) fun a140 h140 => ?_
    clear h139 a139
    refine Kn.pure h140 rfl rfl .none (Kn.ex_assign h140 (.tmp rfl)) fun a141 h141 => ?_
    clear h140 a140
    refine wpList_nil ?_
    refine hK21 _ _ ?_
    clear hK21 K21
    replace h141 := h141.cut (.cons (t := 23) rfl (.cons (t := 21) rfl (.cons (t := 20) rfl (.cons (t := 9) rfl (.cons (t := 6) rfl .nil)))))
    refine wp_seq_k fun K22 hK22 => ?_
    refine wp_region_lit ?_
    refine Kn.pure h141 rfl rfl .none (Kn.ex_move h141 (.tmp rfl)) fun a142 h142 => ?_
    clear h141 a141
    refine Kn.step h142 rfl rfl .none (Kn.ex_bin h142 (.tmp rfl) .const) fun Ko hKo => ?_
    go_simp
    try go_bits
    refine hKo _ _ fun a143 h143 => ?_
    clear hKo Ko h142 a142
    refine Kn.pure h143 rfl rfl .none (Kn.ex_move h143 (.tmp rfl)) fun a144 h144 => ?_
    clear h143 a143
    refine Kn.pure h144 rfl rfl (.some rfl rfl rfl) (Kn.ex_move h144 (.tmp rfl)) fun a145 h145 => ?_
    clear h144 a144
    refine Kn.call h145 rfl rfl (.some rfl rfl rfl) (Kn.ex_call h145 (.cons (.tmp rfl) .nil)) Tryd.call9 (Err.code_F (X.size : Int) 4 _ HG11.out) fun e w12 hp => ?_
    obtain ⟨rfl, hb12⟩ := hp
    refine ⟨_, rfl, fun a146 h146 => ?_⟩
    clear h145 a145
    have H12 := Lib.hid (H11.out.on hb12)
    have HG12 := Lib.hid (HG11.out.on hb12)
    clear hb12 H11 HG11
    refine Kn.step h146 rfl rfl (.some rfl rfl rfl) (Kn.ex_bin h146 (.tmp rfl) .const) fun Ko hKo => ?_
    go_simp
    try go_bits
    refine hKo _ _ fun a147 h147 => ?_
    clear hKo Ko h146 a146
    refine Kn.pure h147 rfl rfl .none (Kn.ex_pick h147 (.tmp rfl) (.tmp rfl)) fun a148 h148 => ?_
    clear h147 a147
    refine Kn.pure h148 rfl rfl .none (Kn.ex_move h148 (.tmp rfl)) fun a149 h149 => ?_
    clear h148 a148
    refine Kn.pure h149 rfl rfl (.some rfl rfl rfl) (Kn.ex_move h149 (.tmp rfl)) fun a150 h150 => ?_
    clear h149 a149
    refine Kn.call h150 rfl rfl (.some rfl rfl rfl) (Kn.ex_call h150 (.cons (.tmp rfl) .nil)) Tryd.call10 (Err.place_F (X.size : Int) 4 _ HG12.out) fun e w13 hp => ?_
    obtain ⟨rfl, hb13⟩ := hp
    refine ⟨_, rfl, fun a151 h151 => ?_⟩
    clear h150 a150
    have H13 := Lib.hid (H12.out.on hb13)
    have HG13 := Lib.hid (HG12.out.on hb13)
    clear hb13 H12 HG12
    refine Kn.pure h151 rfl rfl (.some rfl rfl rfl) (Kn.ex_move h151 (.tmp rfl)) fun a152 h152 => ?_
    clear h151 a151
    refine Kn.step h152 rfl rfl (.some rfl rfl rfl) (Kn.ex_len h152 (.tmp rfl)) fun Ko hKo => ?_
    go_simp
    try go_bits
    refine hKo _ _ fun a153 h153 => ?_
    clear hKo Ko h152 a152
    refine Kn.step h153 rfl rfl (.some rfl rfl rfl) (Kn.ex_bin h153 (.tmp rfl) (.tmp rfl)) fun Ko hKo => ?_
    go_simp
    try go_bits
    refine hKo _ _ fun a154 h154 => ?_
    clear hKo Ko h153 a153
    refine Kn.pure h154 rfl rfl .none (Kn.ex_pick h154 (.tmp rfl) (.tmp rfl)) fun a155 h155 => ?_
    clear h154 a154
    refine Kn.pure h155 rfl rfl .none (Kn.ex_move h155 (.tmp rfl)) fun a156 h156 => ?_
    clear h155 a155
    refine Kn.pure h156 rfl rfl (.some rfl rfl rfl) (Kn.ex_move h156 (.tmp rfl)) fun a157 h157 => ?_
    clear h156 a156
    refine Kn.call h157 rfl rfl (.some rfl rfl rfl) (Kn.ex_call h157 (.cons (.tmp rfl) .nil)) Tryd.call9 (Err.code_E 6 _ HG13.out) fun e w14 hp => ?_
    obtain ⟨rfl, hb14⟩ := hp
    refine ⟨_, rfl, fun a158 h158 => ?_⟩
    clear h157 a157
    have H14 := Lib.hid (H13.out.on hb14)
    have HG14 := Lib.hid (HG13.out.on hb14)
    clear hb14 H13 HG13
    refine Kn.step h158 rfl rfl (.some rfl rfl rfl) (Kn.ex_bin h158 (.tmp rfl) .const) fun Ko hKo => ?_
    go_simp
    try go_bits
    refine hKo _ _ fun a159 h159 => ?_
    clear hKo Ko h158 a158
    refine Kn.pure h159 rfl rfl .none (Kn.ex_pick h159 (.tmp rfl) (.tmp rfl)) fun a160 h160 => ?_
    clear h159 a159
    refine Kn.pure h160 rfl rfl .none (Kn.ex_assign h160 (.tmp rfl)) fun a161 h161 => ?_
    clear h160 a160
    refine wpList_nil ?_
    refine hK22 _ _ ?_
    clear hK22 K22
    replace h161 := h161.cut (.cons (t := 6) rfl .nil)
    refine wp_ret ?_
    exact Kn.ret1 h161 rfl rfl ⟨rfl, H14.out.old⟩

set_option maxRecDepth 100000 in
set_option maxHeartbeats 4000000 in
theorem seals_early0 (s a b : ByteArray) (x y : Nat) (w : World) (hs : 2000 < s.size) (hsm : s.size ≤ 9223372036854775807) (ham : a.size ≤ 9223372036854775807) (hbm : b.size ≤ 9223372036854775807) :
    Calls Tryd.prog 3 #[.string s, .agg #[.string a, .string b], .agg #[.int .u16 (x : Int), .int .u16 (y : Int)]] w fun e w' => e = .returned (.bool true) ∧ Below w.heap.size w w' := by
  refine Kn.calls Tryd.func3 rfl Tryd.ntmps3 rfl (.cons (t := 0) rfl (.cons (t := 1) rfl (.cons (t := 2) rfl .nil))) fun a0 h0 => ?_
  refine wp_seq_k fun K1 hK1 => ?_
  refine wp_region_lit ?_
  refine Kn.step h0 rfl rfl .none (Kn.ex_box h0 (.tmp rfl)) fun Ko hKo => ?_
  go_simp
  try go_bits
  refine hKo _ _ fun a1 h1 => ?_
  clear hKo Ko h0 a0
  refine Kn.step h1 rfl rfl .none (Kn.ex_box h1 (.tmp rfl)) fun Ko hKo => ?_
  go_simp
  try go_bits
  refine hKo _ _ fun a2 h2 => ?_
  clear hKo Ko h1 a1
  refine Kn.pure h2 rfl rfl .none (Kn.ex_assign h2 .const) fun a3 h3 => ?_
  clear h2 a2
  refine wpList_nil ?_
  refine hK1 _ _ ?_
  clear hK1 K1
  replace h3 := h3.cut (.cons (t := 6) rfl (.cons (t := 5) rfl (.cons (t := 4) rfl (.cons (t := 0) rfl .nil))))
  refine wp_seq_k fun K2 hK2 => ?_
  refine wp_seq_k fun K3 hK3 => ?_
  refine wp_region_lit ?_
  refine Kn.call h3 rfl rfl .none (Kn.ex_call h3 .nil) Tryd.call4 (awake_any _) fun e w1 hp => ?_
  obtain ⟨rfl, hb1⟩ := hp
  refine ⟨_, rfl, fun a4 h4 => ?_⟩
  clear h3 a3
  have c0 : w1.cell? ⟨w.heap.size, 0, none⟩ = some (.string a) := by
    rw [hb1.cell (p := ⟨w.heap.size, 0, none⟩) (by simp; omega), World.cell?_alloc_past _ _ _ (by simp), World.cell?_alloc_at _ _ _ _ rfl]; rfl
  have c1 : w1.cell? ⟨w.heap.size, 1, none⟩ = some (.string b) := by
    rw [hb1.cell (p := ⟨w.heap.size, 1, none⟩) (by simp; omega), World.cell?_alloc_past _ _ _ (by simp), World.cell?_alloc_at _ _ _ _ rfl]; rfl
  have HB1 := Lib.hid (show Below w.heap.size w w1 from (((Below.refl _ _).alloc (Nat.le_refl _) _).alloc (by simp) _).trans (hb1.mono (by simp; omega)))
  have H1 : Hid (St w x y w1) := Lib.hid ⟨HB1.out, by rw [hb1.cell (p := ⟨w.heap.size + 1, 0, none⟩) (by simp), World.cell?_alloc_at _ _ _ _ (by simp)]; rfl, by rw [hb1.cell (p := ⟨w.heap.size + 1, 1, none⟩) (by simp), World.cell?_alloc_at _ _ _ _ (by simp)]; rfl, by have := hb1.size; simp at this; omega⟩
  clear hb1 HB1
  refine Kn.step h4 rfl rfl .none (Kn.ex_un h4 (.tmp rfl)) fun Ko hKo => ?_
  go_simp
  try go_bits
  refine hKo _ _ fun a5 h5 => ?_
  clear hKo Ko h4 a4
  refine wpList_nil ?_
  refine hK3 _ _ ?_
  clear hK3 K3
  replace h5 := h5.cut (.cons (t := 25) rfl (.cons (t := 6) rfl (.cons (t := 5) rfl (.cons (t := 4) rfl (.cons (t := 0) rfl .nil)))))
  refine Kn.no h5 (.tmp rfl) ?_
  refine wp_skip ?_
  refine hK2 _ _ ?_
  clear hK2 K2
  replace h5 := h5.cut (.cons (t := 6) rfl (.cons (t := 5) rfl (.cons (t := 4) rfl (.cons (t := 0) rfl .nil))))
  refine wp_seq_k fun K4 hK4 => ?_
  refine Kn.still (by kernel_rfl) (by kernel_rfl) ?_
  refine Kn.sstep h5 rfl rfl .none (Kn.ex_fieldAddr h5 (.tmp rfl)) fun Ko hKo => ?_
  go_simp
  try go_bits
  refine hKo _ fun a6 h6 => ?_
  clear hKo Ko h5 a5
  refine Kn.sstep h6 rfl rfl .none (Kn.ex_load h6 (.tmp rfl)) fun Ko hKo => ?_
  go_simp
  try go_bits
  refine hKo _ fun a7 h7 => ?_
  clear hKo Ko h6 a6
  refine Kn.sstep h7 rfl rfl .none (Kn.ex_fieldAddr h7 (.tmp rfl)) fun Ko hKo => ?_
  go_simp
  try go_bits
  refine hKo _ fun a8 h8 => ?_
  clear hKo Ko h7 a7
  refine Kn.sstep h8 rfl rfl .none (Kn.ex_load h8 (.tmp rfl)) fun Ko hKo => ?_
  go_simp
  try go_bits
  refine hKo _ fun a9 h9 => ?_
  clear hKo Ko h8 a8
  refine Kn.spure h9 rfl rfl .none (Kn.ex_assign h9 (.tmp rfl)) fun a10 h10 => ?_
  clear h9 a9
  refine Kn.spure h10 rfl rfl .none (Kn.ex_assign h10 (.tmp rfl)) fun a11 h11 => ?_
  clear h10 a10
  refine wpStill_nil ?_
  refine hK4 _ _ ?_
  clear hK4 K4
  replace h11 := h11.cut (.cons (t := 8) rfl (.cons (t := 7) rfl (.cons (t := 6) rfl (.cons (t := 5) rfl (.cons (t := 0) rfl .nil)))))
  have H2 := Lib.hid H1.out.drew
  obtain ⟨w2, hw2⟩ : ∃ v, w1.drew = v := ⟨_, rfl⟩
  rw [hw2] at H2 ⊢
  clear H1 c0 c1 hw2
  refine wp_seq_k fun K5 hK5 => ?_
  refine wp_seq_k fun K6 hK6 => ?_
  refine wp_region_lit ?_
  refine Kn.pure h11 rfl rfl .none (Kn.ex_move h11 (.tmp rfl)) fun a12 h12 => ?_
  clear h11 a11
  refine Kn.step h12 rfl rfl .none (Kn.ex_len h12 (.tmp rfl)) fun Ko hKo => ?_
  go_simp
  try go_bits
  refine hKo _ _ fun a13 h13 => ?_
  clear hKo Ko h12 a12
  have qd : decide ((2000 : Int) < (s.size : Int)) = true := decide_eq_true (by omega)
  refine Kn.step h13 rfl rfl .none (Kn.ex_bin h13 (.tmp rfl) .const) fun Ko hKo => ?_
  go_simp
  try go_bits
  refine hKo _ _ fun a14 h14 => ?_
  clear hKo Ko h13 a13
  clear qd
  refine Kn.pure h14 rfl rfl .none (Kn.ex_move h14 (.tmp rfl)) fun a15 h15 => ?_
  clear h14 a14
  refine Kn.skip h15 rfl rfl (.some rfl rfl rfl) fun a16 h16 => ?_
  clear h15 a15
  refine Kn.skip h16 rfl rfl (.some rfl rfl rfl) fun a17 h17 => ?_
  clear h16 a16
  refine Kn.skip h17 rfl rfl (.some rfl rfl rfl) fun a18 h18 => ?_
  clear h17 a17
  refine Kn.pure h18 rfl rfl .none (Kn.ex_pick h18 (.tmp rfl) .const) fun a19 h19 => ?_
  clear h18 a18
  refine Kn.pure h19 rfl rfl .none (Kn.ex_move h19 (.tmp rfl)) fun a20 h20 => ?_
  clear h19 a19
  refine Kn.skip h20 rfl rfl (.some rfl rfl rfl) fun a21 h21 => ?_
  clear h20 a20
  refine Kn.skip h21 rfl rfl (.some rfl rfl rfl) fun a22 h22 => ?_
  clear h21 a21
  refine Kn.skip h22 rfl rfl (.some rfl rfl rfl) fun a23 h23 => ?_
  clear h22 a22
  refine Kn.pure h23 rfl rfl .none (Kn.ex_pick h23 (.tmp rfl) .const) fun a24 h24 => ?_
  clear h23 a23
  refine wpList_nil ?_
  refine hK6 _ _ ?_
  clear hK6 K6
  replace h24 := h24.cut (.cons (t := 42) rfl (.cons (t := 8) rfl (.cons (t := 7) rfl (.cons (t := 6) rfl (.cons (t := 5) rfl (.cons (t := 0) rfl .nil))))))
  refine Kn.yes h24 (.tmp rfl) ?_
  replace h24 := h24.cut (.cons (t := 8) rfl (.cons (t := 7) rfl (.cons (t := 6) rfl (.cons (t := 5) rfl (.cons (t := 0) rfl .nil)))))
  refine wp_seq_k fun K7 hK7 => ?_
  refine wp_region_lit ?_
  refine Kn.pure h24 rfl rfl .none (Kn.ex_assign h24 .const) fun a25 h25 => ?_
  clear h24 a24
  refine wpList_nil ?_
  refine hK7 _ _ ?_
  clear hK7 K7
  refine wp_ret ?_
  refine Kn.then_ret ?_
  exact Kn.ret1 h25 rfl rfl ⟨rfl, H2.out.old⟩

set_option maxRecDepth 100000 in
set_option maxHeartbeats 4000000 in
theorem seals_early1 (s a b : ByteArray) (x y : Nat) (w : World) (hs : s.size ≤ 2000) (ha : 300 < a.size) (hsm : s.size ≤ 9223372036854775807) (ham : a.size ≤ 9223372036854775807) (hbm : b.size ≤ 9223372036854775807) :
    Calls Tryd.prog 3 #[.string s, .agg #[.string a, .string b], .agg #[.int .u16 (x : Int), .int .u16 (y : Int)]] w fun e w' => e = .returned (.bool true) ∧ Below w.heap.size w w' := by
  refine Kn.calls Tryd.func3 rfl Tryd.ntmps3 rfl (.cons (t := 0) rfl (.cons (t := 1) rfl (.cons (t := 2) rfl .nil))) fun a0 h0 => ?_
  refine wp_seq_k fun K1 hK1 => ?_
  refine wp_region_lit ?_
  refine Kn.step h0 rfl rfl .none (Kn.ex_box h0 (.tmp rfl)) fun Ko hKo => ?_
  go_simp
  try go_bits
  refine hKo _ _ fun a1 h1 => ?_
  clear hKo Ko h0 a0
  refine Kn.step h1 rfl rfl .none (Kn.ex_box h1 (.tmp rfl)) fun Ko hKo => ?_
  go_simp
  try go_bits
  refine hKo _ _ fun a2 h2 => ?_
  clear hKo Ko h1 a1
  refine Kn.pure h2 rfl rfl .none (Kn.ex_assign h2 .const) fun a3 h3 => ?_
  clear h2 a2
  refine wpList_nil ?_
  refine hK1 _ _ ?_
  clear hK1 K1
  replace h3 := h3.cut (.cons (t := 6) rfl (.cons (t := 5) rfl (.cons (t := 4) rfl (.cons (t := 0) rfl .nil))))
  refine wp_seq_k fun K2 hK2 => ?_
  refine wp_seq_k fun K3 hK3 => ?_
  refine wp_region_lit ?_
  refine Kn.call h3 rfl rfl .none (Kn.ex_call h3 .nil) Tryd.call4 (awake_any _) fun e w1 hp => ?_
  obtain ⟨rfl, hb1⟩ := hp
  refine ⟨_, rfl, fun a4 h4 => ?_⟩
  clear h3 a3
  have c0 : w1.cell? ⟨w.heap.size, 0, none⟩ = some (.string a) := by
    rw [hb1.cell (p := ⟨w.heap.size, 0, none⟩) (by simp; omega), World.cell?_alloc_past _ _ _ (by simp), World.cell?_alloc_at _ _ _ _ rfl]; rfl
  have c1 : w1.cell? ⟨w.heap.size, 1, none⟩ = some (.string b) := by
    rw [hb1.cell (p := ⟨w.heap.size, 1, none⟩) (by simp; omega), World.cell?_alloc_past _ _ _ (by simp), World.cell?_alloc_at _ _ _ _ rfl]; rfl
  have HB1 := Lib.hid (show Below w.heap.size w w1 from (((Below.refl _ _).alloc (Nat.le_refl _) _).alloc (by simp) _).trans (hb1.mono (by simp; omega)))
  have H1 : Hid (St w x y w1) := Lib.hid ⟨HB1.out, by rw [hb1.cell (p := ⟨w.heap.size + 1, 0, none⟩) (by simp), World.cell?_alloc_at _ _ _ _ (by simp)]; rfl, by rw [hb1.cell (p := ⟨w.heap.size + 1, 1, none⟩) (by simp), World.cell?_alloc_at _ _ _ _ (by simp)]; rfl, by have := hb1.size; simp at this; omega⟩
  clear hb1 HB1
  refine Kn.step h4 rfl rfl .none (Kn.ex_un h4 (.tmp rfl)) fun Ko hKo => ?_
  go_simp
  try go_bits
  refine hKo _ _ fun a5 h5 => ?_
  clear hKo Ko h4 a4
  refine wpList_nil ?_
  refine hK3 _ _ ?_
  clear hK3 K3
  replace h5 := h5.cut (.cons (t := 25) rfl (.cons (t := 6) rfl (.cons (t := 5) rfl (.cons (t := 4) rfl (.cons (t := 0) rfl .nil)))))
  refine Kn.no h5 (.tmp rfl) ?_
  refine wp_skip ?_
  refine hK2 _ _ ?_
  clear hK2 K2
  replace h5 := h5.cut (.cons (t := 6) rfl (.cons (t := 5) rfl (.cons (t := 4) rfl (.cons (t := 0) rfl .nil))))
  refine wp_seq_k fun K4 hK4 => ?_
  refine Kn.still (by kernel_rfl) (by kernel_rfl) ?_
  refine Kn.sstep h5 rfl rfl .none (Kn.ex_fieldAddr h5 (.tmp rfl)) fun Ko hKo => ?_
  go_simp
  try go_bits
  refine hKo _ fun a6 h6 => ?_
  clear hKo Ko h5 a5
  refine Kn.sstep h6 rfl rfl .none (Kn.ex_load h6 (.tmp rfl)) fun Ko hKo => ?_
  go_simp
  try go_bits
  refine hKo _ fun a7 h7 => ?_
  clear hKo Ko h6 a6
  refine Kn.sstep h7 rfl rfl .none (Kn.ex_fieldAddr h7 (.tmp rfl)) fun Ko hKo => ?_
  go_simp
  try go_bits
  refine hKo _ fun a8 h8 => ?_
  clear hKo Ko h7 a7
  refine Kn.sstep h8 rfl rfl .none (Kn.ex_load h8 (.tmp rfl)) fun Ko hKo => ?_
  go_simp
  try go_bits
  refine hKo _ fun a9 h9 => ?_
  clear hKo Ko h8 a8
  refine Kn.spure h9 rfl rfl .none (Kn.ex_assign h9 (.tmp rfl)) fun a10 h10 => ?_
  clear h9 a9
  refine Kn.spure h10 rfl rfl .none (Kn.ex_assign h10 (.tmp rfl)) fun a11 h11 => ?_
  clear h10 a10
  refine wpStill_nil ?_
  refine hK4 _ _ ?_
  clear hK4 K4
  replace h11 := h11.cut (.cons (t := 8) rfl (.cons (t := 7) rfl (.cons (t := 6) rfl (.cons (t := 5) rfl (.cons (t := 0) rfl .nil)))))
  have H2 := Lib.hid H1.out.drew
  obtain ⟨w2, hw2⟩ : ∃ v, w1.drew = v := ⟨_, rfl⟩
  rw [hw2] at H2 ⊢
  clear H1 c0 c1 hw2
  refine wp_seq_k fun K5 hK5 => ?_
  refine wp_seq_k fun K6 hK6 => ?_
  refine wp_region_lit ?_
  refine Kn.pure h11 rfl rfl .none (Kn.ex_move h11 (.tmp rfl)) fun a12 h12 => ?_
  clear h11 a11
  refine Kn.step h12 rfl rfl .none (Kn.ex_len h12 (.tmp rfl)) fun Ko hKo => ?_
  go_simp
  try go_bits
  refine hKo _ _ fun a13 h13 => ?_
  clear hKo Ko h12 a12
  have qd : decide ((2000 : Int) < (s.size : Int)) = false := decide_eq_false (by omega)
  refine Kn.step h13 rfl rfl .none (Kn.ex_bin h13 (.tmp rfl) .const) fun Ko hKo => ?_
  go_simp
  try go_bits
  refine hKo _ _ fun a14 h14 => ?_
  clear hKo Ko h13 a13
  clear qd
  refine Kn.pure h14 rfl rfl .none (Kn.ex_move h14 (.tmp rfl)) fun a15 h15 => ?_
  clear h14 a14
  refine Kn.pure h15 rfl rfl (.some rfl rfl rfl) (Kn.ex_move h15 (.tmp rfl)) fun a16 h16 => ?_
  clear h15 a15
  refine Kn.step h16 rfl rfl (.some rfl rfl rfl) (Kn.ex_len h16 (.tmp rfl)) fun Ko hKo => ?_
  go_simp
  try go_bits
  refine hKo _ _ fun a17 h17 => ?_
  clear hKo Ko h16 a16
  have qd : decide ((300 : Int) < (a.size : Int)) = true := decide_eq_true (by omega)
  refine Kn.step h17 rfl rfl (.some rfl rfl rfl) (Kn.ex_bin h17 (.tmp rfl) .const) fun Ko hKo => ?_
  go_simp
  try go_bits
  refine hKo _ _ fun a18 h18 => ?_
  clear hKo Ko h17 a17
  clear qd
  refine Kn.pure h18 rfl rfl .none (Kn.ex_pick h18 (.tmp rfl) (.tmp rfl)) fun a19 h19 => ?_
  clear h18 a18
  refine Kn.pure h19 rfl rfl .none (Kn.ex_move h19 (.tmp rfl)) fun a20 h20 => ?_
  clear h19 a19
  refine Kn.skip h20 rfl rfl (.some rfl rfl rfl) fun a21 h21 => ?_
  clear h20 a20
  refine Kn.skip h21 rfl rfl (.some rfl rfl rfl) fun a22 h22 => ?_
  clear h21 a21
  refine Kn.skip h22 rfl rfl (.some rfl rfl rfl) fun a23 h23 => ?_
  clear h22 a22
  refine Kn.pure h23 rfl rfl .none (Kn.ex_pick h23 (.tmp rfl) .const) fun a24 h24 => ?_
  clear h23 a23
  refine wpList_nil ?_
  refine hK6 _ _ ?_
  clear hK6 K6
  replace h24 := h24.cut (.cons (t := 42) rfl (.cons (t := 8) rfl (.cons (t := 7) rfl (.cons (t := 6) rfl (.cons (t := 5) rfl (.cons (t := 0) rfl .nil))))))
  refine Kn.yes h24 (.tmp rfl) ?_
  replace h24 := h24.cut (.cons (t := 8) rfl (.cons (t := 7) rfl (.cons (t := 6) rfl (.cons (t := 5) rfl (.cons (t := 0) rfl .nil)))))
  refine wp_seq_k fun K7 hK7 => ?_
  refine wp_region_lit ?_
  refine Kn.pure h24 rfl rfl .none (Kn.ex_assign h24 .const) fun a25 h25 => ?_
  clear h24 a24
  refine wpList_nil ?_
  refine hK7 _ _ ?_
  clear hK7 K7
  refine wp_ret ?_
  refine Kn.then_ret ?_
  exact Kn.ret1 h25 rfl rfl ⟨rfl, H2.out.old⟩

set_option maxRecDepth 100000 in
set_option maxHeartbeats 4000000 in
theorem seals_early2 (s a b : ByteArray) (x y : Nat) (w : World) (hs : s.size ≤ 2000) (ha : a.size ≤ 300) (hb : 300 < b.size) (hsm : s.size ≤ 9223372036854775807) (ham : a.size ≤ 9223372036854775807) (hbm : b.size ≤ 9223372036854775807) :
    Calls Tryd.prog 3 #[.string s, .agg #[.string a, .string b], .agg #[.int .u16 (x : Int), .int .u16 (y : Int)]] w fun e w' => e = .returned (.bool true) ∧ Below w.heap.size w w' := by
  refine Kn.calls Tryd.func3 rfl Tryd.ntmps3 rfl (.cons (t := 0) rfl (.cons (t := 1) rfl (.cons (t := 2) rfl .nil))) fun a0 h0 => ?_
  refine wp_seq_k fun K1 hK1 => ?_
  refine wp_region_lit ?_
  refine Kn.step h0 rfl rfl .none (Kn.ex_box h0 (.tmp rfl)) fun Ko hKo => ?_
  go_simp
  try go_bits
  refine hKo _ _ fun a1 h1 => ?_
  clear hKo Ko h0 a0
  refine Kn.step h1 rfl rfl .none (Kn.ex_box h1 (.tmp rfl)) fun Ko hKo => ?_
  go_simp
  try go_bits
  refine hKo _ _ fun a2 h2 => ?_
  clear hKo Ko h1 a1
  refine Kn.pure h2 rfl rfl .none (Kn.ex_assign h2 .const) fun a3 h3 => ?_
  clear h2 a2
  refine wpList_nil ?_
  refine hK1 _ _ ?_
  clear hK1 K1
  replace h3 := h3.cut (.cons (t := 6) rfl (.cons (t := 5) rfl (.cons (t := 4) rfl (.cons (t := 0) rfl .nil))))
  refine wp_seq_k fun K2 hK2 => ?_
  refine wp_seq_k fun K3 hK3 => ?_
  refine wp_region_lit ?_
  refine Kn.call h3 rfl rfl .none (Kn.ex_call h3 .nil) Tryd.call4 (awake_any _) fun e w1 hp => ?_
  obtain ⟨rfl, hb1⟩ := hp
  refine ⟨_, rfl, fun a4 h4 => ?_⟩
  clear h3 a3
  have c0 : w1.cell? ⟨w.heap.size, 0, none⟩ = some (.string a) := by
    rw [hb1.cell (p := ⟨w.heap.size, 0, none⟩) (by simp; omega), World.cell?_alloc_past _ _ _ (by simp), World.cell?_alloc_at _ _ _ _ rfl]; rfl
  have c1 : w1.cell? ⟨w.heap.size, 1, none⟩ = some (.string b) := by
    rw [hb1.cell (p := ⟨w.heap.size, 1, none⟩) (by simp; omega), World.cell?_alloc_past _ _ _ (by simp), World.cell?_alloc_at _ _ _ _ rfl]; rfl
  have HB1 := Lib.hid (show Below w.heap.size w w1 from (((Below.refl _ _).alloc (Nat.le_refl _) _).alloc (by simp) _).trans (hb1.mono (by simp; omega)))
  have H1 : Hid (St w x y w1) := Lib.hid ⟨HB1.out, by rw [hb1.cell (p := ⟨w.heap.size + 1, 0, none⟩) (by simp), World.cell?_alloc_at _ _ _ _ (by simp)]; rfl, by rw [hb1.cell (p := ⟨w.heap.size + 1, 1, none⟩) (by simp), World.cell?_alloc_at _ _ _ _ (by simp)]; rfl, by have := hb1.size; simp at this; omega⟩
  clear hb1 HB1
  refine Kn.step h4 rfl rfl .none (Kn.ex_un h4 (.tmp rfl)) fun Ko hKo => ?_
  go_simp
  try go_bits
  refine hKo _ _ fun a5 h5 => ?_
  clear hKo Ko h4 a4
  refine wpList_nil ?_
  refine hK3 _ _ ?_
  clear hK3 K3
  replace h5 := h5.cut (.cons (t := 25) rfl (.cons (t := 6) rfl (.cons (t := 5) rfl (.cons (t := 4) rfl (.cons (t := 0) rfl .nil)))))
  refine Kn.no h5 (.tmp rfl) ?_
  refine wp_skip ?_
  refine hK2 _ _ ?_
  clear hK2 K2
  replace h5 := h5.cut (.cons (t := 6) rfl (.cons (t := 5) rfl (.cons (t := 4) rfl (.cons (t := 0) rfl .nil))))
  refine wp_seq_k fun K4 hK4 => ?_
  refine Kn.still (by kernel_rfl) (by kernel_rfl) ?_
  refine Kn.sstep h5 rfl rfl .none (Kn.ex_fieldAddr h5 (.tmp rfl)) fun Ko hKo => ?_
  go_simp
  try go_bits
  refine hKo _ fun a6 h6 => ?_
  clear hKo Ko h5 a5
  refine Kn.sstep h6 rfl rfl .none (Kn.ex_load h6 (.tmp rfl)) fun Ko hKo => ?_
  go_simp
  try go_bits
  refine hKo _ fun a7 h7 => ?_
  clear hKo Ko h6 a6
  refine Kn.sstep h7 rfl rfl .none (Kn.ex_fieldAddr h7 (.tmp rfl)) fun Ko hKo => ?_
  go_simp
  try go_bits
  refine hKo _ fun a8 h8 => ?_
  clear hKo Ko h7 a7
  refine Kn.sstep h8 rfl rfl .none (Kn.ex_load h8 (.tmp rfl)) fun Ko hKo => ?_
  go_simp
  try go_bits
  refine hKo _ fun a9 h9 => ?_
  clear hKo Ko h8 a8
  refine Kn.spure h9 rfl rfl .none (Kn.ex_assign h9 (.tmp rfl)) fun a10 h10 => ?_
  clear h9 a9
  refine Kn.spure h10 rfl rfl .none (Kn.ex_assign h10 (.tmp rfl)) fun a11 h11 => ?_
  clear h10 a10
  refine wpStill_nil ?_
  refine hK4 _ _ ?_
  clear hK4 K4
  replace h11 := h11.cut (.cons (t := 8) rfl (.cons (t := 7) rfl (.cons (t := 6) rfl (.cons (t := 5) rfl (.cons (t := 0) rfl .nil)))))
  have H2 := Lib.hid H1.out.drew
  obtain ⟨w2, hw2⟩ : ∃ v, w1.drew = v := ⟨_, rfl⟩
  rw [hw2] at H2 ⊢
  clear H1 c0 c1 hw2
  refine wp_seq_k fun K5 hK5 => ?_
  refine wp_seq_k fun K6 hK6 => ?_
  refine wp_region_lit ?_
  refine Kn.pure h11 rfl rfl .none (Kn.ex_move h11 (.tmp rfl)) fun a12 h12 => ?_
  clear h11 a11
  refine Kn.step h12 rfl rfl .none (Kn.ex_len h12 (.tmp rfl)) fun Ko hKo => ?_
  go_simp
  try go_bits
  refine hKo _ _ fun a13 h13 => ?_
  clear hKo Ko h12 a12
  have qd : decide ((2000 : Int) < (s.size : Int)) = false := decide_eq_false (by omega)
  refine Kn.step h13 rfl rfl .none (Kn.ex_bin h13 (.tmp rfl) .const) fun Ko hKo => ?_
  go_simp
  try go_bits
  refine hKo _ _ fun a14 h14 => ?_
  clear hKo Ko h13 a13
  clear qd
  refine Kn.pure h14 rfl rfl .none (Kn.ex_move h14 (.tmp rfl)) fun a15 h15 => ?_
  clear h14 a14
  refine Kn.pure h15 rfl rfl (.some rfl rfl rfl) (Kn.ex_move h15 (.tmp rfl)) fun a16 h16 => ?_
  clear h15 a15
  refine Kn.step h16 rfl rfl (.some rfl rfl rfl) (Kn.ex_len h16 (.tmp rfl)) fun Ko hKo => ?_
  go_simp
  try go_bits
  refine hKo _ _ fun a17 h17 => ?_
  clear hKo Ko h16 a16
  have qd : decide ((300 : Int) < (a.size : Int)) = false := decide_eq_false (by omega)
  refine Kn.step h17 rfl rfl (.some rfl rfl rfl) (Kn.ex_bin h17 (.tmp rfl) .const) fun Ko hKo => ?_
  go_simp
  try go_bits
  refine hKo _ _ fun a18 h18 => ?_
  clear hKo Ko h17 a17
  clear qd
  refine Kn.pure h18 rfl rfl .none (Kn.ex_pick h18 (.tmp rfl) (.tmp rfl)) fun a19 h19 => ?_
  clear h18 a18
  refine Kn.pure h19 rfl rfl .none (Kn.ex_move h19 (.tmp rfl)) fun a20 h20 => ?_
  clear h19 a19
  refine Kn.pure h20 rfl rfl (.some rfl rfl rfl) (Kn.ex_move h20 (.tmp rfl)) fun a21 h21 => ?_
  clear h20 a20
  refine Kn.step h21 rfl rfl (.some rfl rfl rfl) (Kn.ex_len h21 (.tmp rfl)) fun Ko hKo => ?_
  go_simp
  try go_bits
  refine hKo _ _ fun a22 h22 => ?_
  clear hKo Ko h21 a21
  have qd : decide ((300 : Int) < (b.size : Int)) = true := decide_eq_true (by omega)
  refine Kn.step h22 rfl rfl (.some rfl rfl rfl) (Kn.ex_bin h22 (.tmp rfl) .const) fun Ko hKo => ?_
  go_simp
  try go_bits
  refine hKo _ _ fun a23 h23 => ?_
  clear hKo Ko h22 a22
  clear qd
  refine Kn.pure h23 rfl rfl .none (Kn.ex_pick h23 (.tmp rfl) (.tmp rfl)) fun a24 h24 => ?_
  clear h23 a23
  refine wpList_nil ?_
  refine hK6 _ _ ?_
  clear hK6 K6
  replace h24 := h24.cut (.cons (t := 42) rfl (.cons (t := 8) rfl (.cons (t := 7) rfl (.cons (t := 6) rfl (.cons (t := 5) rfl (.cons (t := 0) rfl .nil))))))
  refine Kn.yes h24 (.tmp rfl) ?_
  replace h24 := h24.cut (.cons (t := 8) rfl (.cons (t := 7) rfl (.cons (t := 6) rfl (.cons (t := 5) rfl (.cons (t := 0) rfl .nil)))))
  refine wp_seq_k fun K7 hK7 => ?_
  refine wp_region_lit ?_
  refine Kn.pure h24 rfl rfl .none (Kn.ex_assign h24 .const) fun a25 h25 => ?_
  clear h24 a24
  refine wpList_nil ?_
  refine hK7 _ _ ?_
  clear hK7 K7
  refine wp_ret ?_
  refine Kn.then_ret ?_
  exact Kn.ret1 h25 rfl rfl ⟨rfl, H2.out.old⟩

/-- The law, for every input. -/
theorem seals_walk (s a b : ByteArray) (x y : Int) (w : World) (hg : Err.ErrTab w) (hs : s.size ≤ maxLen) (ha : a.size ≤ maxLen) (hb : b.size ≤ maxLen) (hx0 : 0 ≤ x) (hx : x ≤ 65535) (hy0 : 0 ≤ y) (hy : y ≤ 65535) :
    Calls Tryd.prog 3 #[.string s, .agg #[.string a, .string b], .agg #[.int .u16 x, .int .u16 y]] w fun e w' => e = .returned (.bool true) ∧ Below w.heap.size w w' := by
  unfold maxLen at hs ha hb
  obtain ⟨m, rfl⟩ := Int.eq_ofNat_of_zero_le hx0
  obtain ⟨n, rfl⟩ := Int.eq_ofNat_of_zero_le hy0
  rcases Nat.lt_or_ge 2000 s.size with h1 | h1
  · exact seals_early0 s a b m n w h1 (by omega) (by omega) (by omega)
  rcases Nat.lt_or_ge 300 a.size with h2 | h2
  · exact seals_early1 s a b m n w h1 h2 (by omega) (by omega) (by omega)
  rcases Nat.lt_or_ge 300 b.size with h3 | h3
  · exact seals_early2 s a b m n w h1 h2 h3 (by omega) (by omega) (by omega)
  exact seals_main s a b m n w hg h1 h2 h3 (by omega) (by omega)
end Go.Proofs.YthjdlilafamaoaaDoor.Frame
