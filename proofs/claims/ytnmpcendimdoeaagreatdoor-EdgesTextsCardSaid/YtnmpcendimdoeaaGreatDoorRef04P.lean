/- The document's Parse of layer 4 (edges) (written by gen_refp.py). -/
import Derived.Test.YtnmpcendimdoeaaGreatDoorTxtP
import Derived.Test.YtnmpcendimdoeaaGreatDoorRef04S
import Derived.Test.YtnmpcendimdoeaaGreatDoorRef04W
namespace Go.Proofs.YtnmpcendimdoeaaGreatDoor.Txt
open Go Go.RowKit Go.Lib Go.Proofs.YtnmpcendimdoeaaGreatDoor.Dig

theorem cut_h {P : Program} (w : World) (t : TypeId) (s : ByteArray) (ht : P.underlying t = some .string) (kh : IntKind) (h : Nat) (h2 : h ≤ s.size) :
    (Instr.sliceAt t (.string s) none (some (.int kh (h : Int))) none).run P w = .ok (.string (s.extract 0 h)) w := by
  rw [run_sliceAt_string _ _ _ _ _ _ ht]
  simp [Instr.slice, run_underlying ht, Instr.sliceBounds, run_sliceBound, sliced, h2]
theorem cut_l {P : Program} (w : World) (t : TypeId) (s : ByteArray) (ht : P.underlying t = some .string) (kl : IntKind) (l : Nat) (h2 : l ≤ s.size) :
    (Instr.sliceAt t (.string s) (some (.int kl (l : Int))) none none).run P w = .ok (.string (s.extract l s.size)) w := by
  rw [run_sliceAt_string _ _ _ _ _ _ ht]
  simp [Instr.slice, run_underlying ht, Instr.sliceBounds, run_sliceBound, sliced, h2]
theorem take_data (s : ByteArray) (a : Nat) : (s.extract 0 a).data.toList = s.data.toList.take a := by
  rw [ByteArray.data_extract, Array.toList_extract, List.extract_eq_take_drop]; simp
theorem drop_data (s : ByteArray) (a : Nat) : (s.extract a s.size).data.toList = s.data.toList.drop a := by
  rw [ByteArray.data_extract, Array.toList_extract, List.extract_eq_take_drop]
  exact List.take_of_length_le (by rw [List.length_drop]; exact Nat.le_refl _)
theorem cut_here {l : List UInt8} {a : Nat} (ha : a < l.length) (hx : l[a] = 62) (hn : ∀ j (h : j < l.length), j < a → l[j] ≠ 62) : cutC 62 l = (l.take a, l.drop (a + 1), true) := by
  have e : l = l.take a ++ 62 :: l.drop (a + 1) := by
    conv => lhs; rw [← List.take_append_drop a l, List.drop_eq_getElem_cons ha, hx]
  have := cutC_app 62 (l.take a) (l.drop (a + 1)) (fun hm => by
    obtain ⟨j, hj, he⟩ := List.mem_take_iff_getElem.1 hm
    exact hn j (by omega) (by omega) he)
  rw [← e] at this
  exact this
theorem cut_nowhere {l : List UInt8} (hn : ∀ j (h : j < l.length), l[j] ≠ 62) : edgeOf l = none := by
  unfold edgeOf
  rw [cutC_none 62 l (fun hm => by obtain ⟨j, hj, he⟩ := List.getElem_of_mem hm; exact hn j hj he)]
  rfl
theorem edge_of_left {l p q : List UInt8} (hc : cutC 62 l = (p, q, true)) (h : numB p = false) : edgeOf l = none := by rw [edgeOf_of, (edge_left hc h).2]; rfl
theorem edge_of_right {l p q : List UInt8} (hc : cutC 62 l = (p, q, true)) (h : numB q = false) : edgeOf l = none := by rw [edgeOf_of, (edge_right hc h).2]; rfl
theorem edge_of_both {l p q : List UInt8} (hc : cutC 62 l = (p, q, true)) (h : numB p = true) (h2 : numB q = true) : edgeOf l = some (numV p, numV q) := by rw [edgeOf_of, (edge_both hc h h2).2, (edge_both hc h h2).1]; rfl
/-- A graph is answered, or the place of a word that tells nothing. -/
def RRet (w : World) (r : Nat ⊕ (Int × List (Int × Int))) (e : Ending) (w' : World) : Prop := Below w.heap.size w w' ∧ ((∃ j : Nat, r = .inl j ∧ e = .returned (.tuple #[.int .i64 0, .slice none 0 0, .int .i64 (j : Int)])) ∨ ∃ n es A c, r = .inr (n, es) ∧ e = .returned (.tuple #[.int .i64 n, .slice A es.length c, .int .i64 (-1)]) ∧ Edg.EIn w' A es)

set_option maxRecDepth 100000 in
set_option maxHeartbeats 2000000 in
theorem refParse_p (s : ByteArray) (w : World) (hs : s.size ≤ 600) :
    Calls Tryz.prog 10 #[.string s] w (RRet w (parseW (wr s.data.toList))) := by
  refine Kn.calls Tryz.func10 rfl Tryz.ntmps10 rfl (.cons (t := 0) rfl .nil) fun fa0 fh0 => ?_
  refine wp_seq_k fun K1 hK1 => ?_
  refine wp_region_lit ?_
  refine Kn.pure fh0 rfl rfl .none (Kn.ex_assign fh0 .const) fun fa1 fh1 => ?_
  clear fh0 fa0
  refine Kn.pure fh1 rfl rfl .none (Kn.ex_assign fh1 .const) fun fa2 fh2 => ?_
  clear fh1 fa1
  refine Kn.pure fh2 rfl rfl .none (Kn.ex_assign fh2 .const) fun fa3 fh3 => ?_
  clear fh2 fa2
  refine wpList_nil ?_
  refine hK1 _ _ ?_
  clear hK1 K1
  have hwd := Edg.words_any s w hs
  unfold Edg.WordsRet at hwd
  have HE : Hid (∀ t ∈ wds s.data.toList, t.length ≤ 600) := Lib.hid (fun t ht => by have := wds_each _ t ht; rw [← Lib.size_eq] at this; omega)
  have hp0 := wds_pos s.data.toList
  have hpl := wds_len s.data.toList
  rw [← Lib.size_eq] at hpl
  rw [← wds_wr]
  generalize wds s.data.toList = ws at hwd HE hp0 hpl
  refine wp_seq_k fun K2 hK2 => ?_
  refine wp_region_lit ?_
  refine Kn.pure fh3 rfl rfl .none (Kn.ex_move fh3 (.tmp rfl)) fun fa4 fh4 => ?_
  clear fh3 fa3
  refine Kn.call fh4 rfl rfl .none (Kn.ex_call fh4 (.cons (.tmp rfl) .nil)) Tryz.call20 (hwd) fun e w1 hp => ?_
  obtain ⟨g, nw, cap, rfl, hO, hb1⟩ := hp
  refine ⟨_, rfl, fun fa5 fh5 => ?_⟩
  clear fh4 fa4
  refine Kn.pure fh5 rfl rfl .none (Kn.ex_assign fh5 (.tmp rfl)) fun fa6 fh6 => ?_
  clear fh5 fa5
  refine wpList_nil ?_
  refine hK2 _ _ ?_
  clear hK2 K2
  replace fh6 := fh6.cut (.cons (t := 5) rfl (.cons (t := 4) rfl (.cons (t := 3) rfl (.cons (t := 2) rfl .nil))))
  have hnw : nw ≤ ws.length := by have := hO.1; rw [List.length_map] at this; omega
  have hnw2 : ws.length ≤ nw := by have := hO.1; rw [List.length_map] at this; omega
  have HO1 := Lib.hid hO
  have HB1 := Lib.hid hb1
  have hn0 : 0 < nw := by omega
  have hnb : nw ≤ 601 := by omega
  clear hwd hO hb1 hpl
  obtain ⟨w0, hw0⟩ : ∃ w0, ws[0] = w0 := ⟨_, rfl⟩
  obtain ⟨S0, hS0⟩ : ∃ S, sbl w0 = S := ⟨_, rfl⟩
  have c0 : w1.cell? ⟨g, 0, none⟩ = some (.string S0) := by rw [HO1.out.cell (show 0 < (ws.map sbl).length by rw [List.length_map]; exact hp0), List.getElem_map, hw0, hS0]
  have hnum := Edg.number_any S0 w1 (by rw [← hS0, sbl_size, ← hw0]; have := HE.out _ (List.getElem_mem hp0); omega)
  rw [show S0.data.toList = w0 by rw [← hS0]; rfl] at hnum
  have HW : Hid (ws = w0 :: ws.drop 1) := Lib.hid (by conv => lhs; rw [← List.drop_zero (l := ws), List.drop_eq_getElem_cons hp0, hw0])
  clear hw0 hS0
  refine wp_seq_k fun K3 hK3 => ?_
  refine wp_region_lit ?_
  refine Kn.pure fh6 rfl rfl .none (Kn.ex_move fh6 (.tmp rfl)) fun fa7 fh7 => ?_
  clear fh6 fa6
  refine Kn.step fh7 rfl rfl .none (Kn.ex_indexAddr fh7 (.tmp rfl) .const) fun Ko hKo => ?_
  go_simp
  try go_bits
  refine hKo _ _ fun fa8 fh8 => ?_
  clear hKo Ko fh7 fa7
  refine Kn.step fh8 rfl rfl .none (Kn.ex_load fh8 (.tmp rfl)) fun Ko hKo => ?_
  go_simp
  try go_bits
  refine hKo _ _ fun fa9 fh9 => ?_
  clear hKo Ko fh8 fa8
  refine Kn.call fh9 rfl rfl .none (Kn.ex_call fh9 (.cons (.tmp rfl) .nil)) Tryz.call21 (hnum) fun e w2 hp => ?_
  obtain ⟨rfl, rfl⟩ := hp
  refine ⟨_, rfl, fun fa10 fh10 => ?_⟩
  clear fh9 fa9
  refine Kn.pure fh10 rfl rfl .none (Kn.ex_move fh10 (.tmp rfl)) fun fa11 fh11 => ?_
  clear fh10 fa10
  refine Kn.pure fh11 rfl rfl .none (Kn.ex_extract fh11 (.tmp rfl) rfl) fun fa12 fh12 => ?_
  clear fh11 fa11
  refine Kn.pure fh12 rfl rfl .none (Kn.ex_extract fh12 (.tmp rfl) rfl) fun fa13 fh13 => ?_
  clear fh12 fa12
  refine Kn.pure fh13 rfl rfl .none (Kn.ex_assign fh13 (.tmp rfl)) fun fa14 fh14 => ?_
  clear fh13 fa13
  refine Kn.pure fh14 rfl rfl .none (Kn.ex_assign fh14 (.tmp rfl)) fun fa15 fh15 => ?_
  clear fh14 fa14
  refine wpList_nil ?_
  refine hK3 _ _ ?_
  clear hK3 K3
  replace fh15 := fh15.cut (.cons (t := 7) rfl (.cons (t := 6) rfl (.cons (t := 5) rfl (.cons (t := 4) rfl (.cons (t := 3) rfl (.cons (t := 2) rfl .nil))))))
  clear hnum c0
  rcases h1 : numB w0
  · have HR : Hid (parseW ws = .inl 0) := Lib.hid (by rw [HW.out]; exact parse_bad (by rw [numOf_of, h1]; rfl))
    rw [h1] at fh15
    clear h1
    refine wp_seq_k fun K4 hK4 => ?_
    refine wp_seq_k fun K5 hK5 => ?_
    refine wp_region_lit ?_
    refine Kn.pure fh15 rfl rfl .none (Kn.ex_move fh15 (.tmp rfl)) fun fa16 fh16 => ?_
    clear fh15 fa15
    refine Kn.step fh16 rfl rfl .none (Kn.ex_un fh16 (.tmp rfl)) fun Ko hKo => ?_
    go_simp
    try go_bits
    refine hKo _ _ fun fa17 fh17 => ?_
    clear hKo Ko fh16 fa16
    refine wpList_nil ?_
    refine hK5 _ _ ?_
    clear hK5 K5
    replace fh17 := fh17.cut (.cons (t := 25) rfl (.cons (t := 6) rfl (.cons (t := 5) rfl (.cons (t := 4) rfl (.cons (t := 3) rfl (.cons (t := 2) rfl .nil))))))
    refine Kn.yes fh17 (.tmp rfl) ?_
    replace fh17 := fh17.cut (.cons (t := 6) rfl (.cons (t := 5) rfl (.cons (t := 4) rfl (.cons (t := 3) rfl (.cons (t := 2) rfl .nil)))))
    refine wp_seq_k fun K6 hK6 => ?_
    refine wp_region_lit ?_
    refine Kn.pure fh17 rfl rfl .none (Kn.ex_assign fh17 .const) fun fa18 fh18 => ?_
    clear fh17 fa17
    refine Kn.pure fh18 rfl rfl .none (Kn.ex_assign fh18 .const) fun fa19 fh19 => ?_
    clear fh18 fa18
    refine Kn.pure fh19 rfl rfl .none (Kn.ex_assign fh19 .const) fun fa20 fh20 => ?_
    clear fh19 fa19
    refine wpList_nil ?_
    refine hK6 _ _ ?_
    clear hK6 K6
    refine wp_ret ?_
    refine Kn.then_ret ?_
    exact Kn.ret3 fh20 rfl rfl rfl rfl ⟨HB1.out, .inl ⟨0, HR.out, rfl⟩⟩
  have HR : Hid (ToldYet 1 (numV w0) [] (ws.drop 1) (parseW ws)) := Lib.hid (by have := ToldYet.start (ws := ws.drop 1) (show numOf w0 = some (numV w0) by rw [numOf_of, h1]; rfl); rwa [← HW.out] at this)
  rw [h1] at fh15
  clear h1 HW
  generalize parseW ws = R at HR
  generalize numV w0 = n at HR fh15
  refine wp_seq_k fun K4 hK4 => ?_
  refine wp_seq_k fun K5 hK5 => ?_
  refine wp_region_lit ?_
  refine Kn.pure fh15 rfl rfl .none (Kn.ex_move fh15 (.tmp rfl)) fun fa16 fh16 => ?_
  clear fh15 fa15
  refine Kn.step fh16 rfl rfl .none (Kn.ex_un fh16 (.tmp rfl)) fun Ko hKo => ?_
  go_simp
  try go_bits
  refine hKo _ _ fun fa17 fh17 => ?_
  clear hKo Ko fh16 fa16
  refine wpList_nil ?_
  refine hK5 _ _ ?_
  clear hK5 K5
  replace fh17 := fh17.cut (.cons (t := 25) rfl (.cons (t := 6) rfl (.cons (t := 5) rfl (.cons (t := 4) rfl (.cons (t := 3) rfl (.cons (t := 2) rfl .nil))))))
  refine Kn.no fh17 (.tmp rfl) ?_
  refine wp_skip ?_
  refine hK4 _ _ ?_
  clear hK4 K4
  replace fh17 := fh17.cut (.cons (t := 6) rfl (.cons (t := 5) rfl (.cons (t := 4) rfl (.cons (t := 3) rfl (.cons (t := 2) rfl .nil)))))
  refine wp_seq_k fun K6 hK6 => ?_
  refine wp_region_lit ?_
  refine Kn.step fh17 rfl rfl .none (Kn.ex_buildSlice fh17 .nil) fun Ko hKo => ?_
  go_simp
  try go_bits
  refine hKo _ _ fun fa18 fh18 => ?_
  clear hKo Ko fh17 fa17
  refine Kn.pure fh18 rfl rfl .none (Kn.ex_assign fh18 (.tmp rfl)) fun fa19 fh19 => ?_
  clear fh18 fa18
  refine wpList_nil ?_
  refine hK6 _ _ ?_
  clear hK6 K6
  replace fh19 := fh19.cut (.cons (t := 8) rfl (.cons (t := 6) rfl (.cons (t := 5) rfl (.cons (t := 4) rfl (.cons (t := 3) rfl (.cons (t := 2) rfl .nil))))))
  refine wp_seq_k fun K7 hK7 => ?_
  refine wp_seq_k fun K8 hK8 => ?_
  refine wp_region_lit ?_
  refine Kn.pure fh19 rfl rfl .none (Kn.ex_assign fh19 .const) fun fa20 fh20 => ?_
  clear fh19 fa19
  refine wpList_nil ?_
  refine hK8 _ _ ?_
  clear hK8 K8
  refine wp_block ?_
  refine Kn.loop (fun m fr u => ∃ (k ne ce : Nat) (A : Option Addr) (es : List (Int × Int)), Kn.Kn 95 [(9, .int .i64 (k : Int)), (5, .slice (some ⟨g, 0, none⟩) nw cap), (8, .slice A ne ce), (6, .int .i64 n)] fr ∧ k + m = nw ∧ es.length < k ∧ Hid (ToldYet k n es (ws.drop k) R) ∧ Hid (Str.OwnS u w.heap.size (some ⟨g, 0, none⟩) nw cap (ws.map sbl)) ∧ Hid (Edg.OwnE u w.heap.size A ne ce es ∧ A ≠ some ⟨g, 0, none⟩) ∧ Hid (Below w.heap.size w u)) (nw - 1) ⟨1, 0, 0, some ⟨w1.heap.size, 0, none⟩, [], fh20.cut (.cons (t := 9) rfl (.cons (t := 5) rfl (.cons (t := 8) rfl (.cons (t := 6) rfl .nil)))), by omega, by decide, HR, Lib.hid (HO1.out.alloc _), Lib.hid ⟨Edg.OwnE.new w1 _ HB1.out.size, fun h => by have := HO1.out.lt; simp at h <;> omega⟩, Lib.hid (HB1.out.alloc HB1.out.size _)⟩ ?_
  clear fh20 fa20
  intro m9 fa21 u hI Kl9 hKl9
  obtain ⟨k, ne, ce, A, es, fh21, hk, hek, HR, HS, HO, HB⟩ := hI
  clear HO1 HB1
  by_cases hlt : k < nw
  · have hkl : k < ws.length := by omega
    obtain ⟨wk, hwk⟩ : ∃ x, ws[k] = x := ⟨_, rfl⟩
    obtain ⟨S, hSe⟩ : ∃ S, sbl wk = S := ⟨_, rfl⟩
    have cS : u.cell? ⟨g, k, none⟩ = some (.string S) := by rw [HS.out.cell (show k < (ws.map sbl).length by rw [List.length_map]; exact hkl), List.getElem_map, hwk, hSe]
    have HD : Hid (S.data.toList = wk) := Lib.hid (by rw [← hSe]; rfl)
    have hSs : S.size ≤ 600 := by rw [← hSe, sbl_size, ← hwk]; exact HE.out _ (List.getElem_mem hkl)
    have HR2 : Hid (ToldYet k n es (wk :: ws.drop (k + 1)) R) := Lib.hid (by rw [← hwk, ← List.drop_eq_getElem_cons hkl]; exact HR.out)
    have hkb : k ≤ 601 := by omega
    clear hwk hSe HR
    refine wp_seq_k fun K10 hK10 => ?_
    refine wp_seq_k fun K11 hK11 => ?_
    refine wp_region_lit ?_
    refine Kn.pure fh21 rfl rfl .none (Kn.ex_move fh21 (.tmp rfl)) fun fa22 fh22 => ?_
    clear fh21 fa21
    refine Kn.pure fh22 rfl rfl .none (Kn.ex_move fh22 (.tmp rfl)) fun fa23 fh23 => ?_
    clear fh22 fa22
    refine Kn.step fh23 rfl rfl .none (Kn.ex_len fh23 (.tmp rfl)) fun Ko hKo => ?_
    go_simp
    try go_bits
    refine hKo _ _ fun fa24 fh24 => ?_
    clear hKo Ko fh23 fa23
    refine Kn.step fh24 rfl rfl .none (Kn.ex_bin fh24 (.tmp rfl) (.tmp rfl)) fun Ko hKo => ?_
    go_simp
    try go_bits
    refine hKo _ _ fun fa25 fh25 => ?_
    clear hKo Ko fh24 fa24
    refine wpList_nil ?_
    refine hK11 _ _ ?_
    clear hK11 K11
    replace fh25 := fh25.cut (.cons (t := 30) rfl (.cons (t := 9) rfl (.cons (t := 5) rfl (.cons (t := 8) rfl (.cons (t := 6) rfl .nil)))))
    refine Kn.yes fh25 (.tmp rfl) ?_
    refine wp_skip ?_
    refine hK10 _ _ ?_
    clear hK10 K10
    replace fh25 := fh25.cut (.cons (t := 9) rfl (.cons (t := 5) rfl (.cons (t := 8) rfl (.cons (t := 6) rfl .nil))))
    refine wp_seq_k fun K12 hK12 => ?_
    refine wp_block ?_
    refine wp_seq_k fun K13 hK13 => ?_
    refine wp_region_lit ?_
    refine Kn.pure fh25 rfl rfl .none (Kn.ex_assign fh25 .const) fun fa26 fh26 => ?_
    clear fh25 fa25
    refine wpList_nil ?_
    refine hK13 _ _ ?_
    clear hK13 K13
    refine wp_seq_k fun K14 hK14 => ?_
    refine wp_block ?_
    refine Kn.loop (fun m fr v => ∃ (a : Nat), Kn.Kn 95 [(10, .int .i64 (a : Int)), (9, .int .i64 (k : Int)), (5, .slice (some ⟨g, 0, none⟩) nw cap), (8, .slice A ne ce), (6, .int .i64 n)] fr ∧ a + m = S.size ∧ Hid (∀ j (h : j < S.size), j < a → S[j].toNat ≠ 62) ∧ u = v) S.size ⟨0, fh26.cut (.cons (t := 10) rfl (.cons (t := 9) rfl (.cons (t := 5) rfl (.cons (t := 8) rfl (.cons (t := 6) rfl .nil))))), by omega, Lib.hid (fun j h hj => absurd hj (by omega)), rfl⟩ ?_
    clear fh26 fa26
    intro m15 fa27 v hI Kl15 hKl15
    obtain ⟨a, fh27, ha, HN, rfl⟩ := hI
    by_cases hla : a < S.size
    · obtain ⟨x, hx⟩ : ∃ x, S[a].toNat = x := ⟨_, rfl⟩
      have HX := Lib.hid hx
      by_cases h62 : x = 62
      · have qx : ((x : Int) != 62) = false := by simp; omega
        have HX2 : Hid (S[a].toNat = 62) := Lib.hid (by rw [HX.out, h62])
        clear h62
        refine wp_seq_k fun K16 hK16 => ?_
        refine wp_seq_k fun K17 hK17 => ?_
        refine wp_region_lit ?_
        refine Kn.pure fh27 rfl rfl .none (Kn.ex_move fh27 (.tmp rfl)) fun fa28 fh28 => ?_
        clear fh27 fa27
        refine Kn.pure fh28 rfl rfl .none (Kn.ex_move fh28 (.tmp rfl)) fun fa29 fh29 => ?_
        clear fh28 fa28
        refine Kn.pure fh29 rfl rfl .none (Kn.ex_move fh29 (.tmp rfl)) fun fa30 fh30 => ?_
        clear fh29 fa29
        refine Kn.step fh30 rfl rfl .none (Kn.ex_indexAddr fh30 (.tmp rfl) (.tmp rfl)) fun Ko hKo => ?_
        go_simp
        try go_bits
        refine hKo _ _ fun fa31 fh31 => ?_
        clear hKo Ko fh30 fa30
        refine Kn.step fh31 rfl rfl .none (Kn.ex_load fh31 (.tmp rfl)) fun Ko hKo => ?_
        go_simp
        try go_bits
        refine hKo _ _ fun fa32 fh32 => ?_
        clear hKo Ko fh31 fa31
        refine Kn.step fh32 rfl rfl .none (Kn.ex_len fh32 (.tmp rfl)) fun Ko hKo => ?_
        go_simp
        try go_bits
        refine hKo _ _ fun fa33 fh33 => ?_
        clear hKo Ko fh32 fa32
        refine Kn.step fh33 rfl rfl .none (Kn.ex_bin fh33 (.tmp rfl) (.tmp rfl)) fun Ko hKo => ?_
        go_simp
        try go_bits
        refine hKo _ _ fun fa34 fh34 => ?_
        clear hKo Ko fh33 fa33
        refine Kn.pure fh34 rfl rfl .none (Kn.ex_move fh34 (.tmp rfl)) fun fa35 fh35 => ?_
        clear fh34 fa34
        refine Kn.pure fh35 rfl rfl (.some rfl rfl rfl) (Kn.ex_move fh35 (.tmp rfl)) fun fa36 fh36 => ?_
        clear fh35 fa35
        refine Kn.pure fh36 rfl rfl (.some rfl rfl rfl) (Kn.ex_move fh36 (.tmp rfl)) fun fa37 fh37 => ?_
        clear fh36 fa36
        refine Kn.step fh37 rfl rfl (.some rfl rfl rfl) (Kn.ex_indexAddr fh37 (.tmp rfl) (.tmp rfl)) fun Ko hKo => ?_
        go_simp
        try go_bits
        refine hKo _ _ fun fa38 fh38 => ?_
        clear hKo Ko fh37 fa37
        refine Kn.step fh38 rfl rfl (.some rfl rfl rfl) (Kn.ex_load fh38 (.tmp rfl)) fun Ko hKo => ?_
        go_simp
        try go_bits
        refine hKo _ _ fun fa39 fh39 => ?_
        clear hKo Ko fh38 fa38
        refine Kn.pure fh39 rfl rfl (.some rfl rfl rfl) (Kn.ex_move fh39 (.tmp rfl)) fun fa40 fh40 => ?_
        clear fh39 fa39
        refine Kn.step fh40 rfl rfl (.some rfl rfl rfl) (Kn.ex_index fh40 (.tmp rfl) (.tmp rfl)) fun Ko hKo => ?_
        go_simp
        try go_bits
        refine hKo _ _ fun fa41 fh41 => ?_
        clear hKo Ko fh40 fa40
        refine Kn.step fh41 rfl rfl (.some rfl rfl rfl) (Kn.ex_bin fh41 (.tmp rfl) .const) fun Ko hKo => ?_
        go_simp
        try go_bits
        refine hKo _ _ fun fa42 fh42 => ?_
        clear hKo Ko fh41 fa41
        refine Kn.pure fh42 rfl rfl .none (Kn.ex_pick fh42 (.tmp rfl) (.tmp rfl)) fun fa43 fh43 => ?_
        clear fh42 fa42
        refine wpList_nil ?_
        refine hK17 _ _ ?_
        clear hK17 K17
        replace fh43 := fh43.cut (.cons (t := 48) rfl (.cons (t := 10) rfl (.cons (t := 9) rfl (.cons (t := 5) rfl (.cons (t := 8) rfl (.cons (t := 6) rfl .nil))))))
        refine Kn.no fh43 (.tmp rfl) ?_
        replace fh43 := fh43.cut (.cons (t := 10) rfl (.cons (t := 9) rfl (.cons (t := 5) rfl (.cons (t := 8) rfl (.cons (t := 6) rfl .nil)))))
        refine wp_exit ?_
        refine Kn.then_exit ?_
        clear hK16 K16
        refine Kn.then_exit ?_
        clear hKl15 Kl15
        refine Kn.block_exit ?_
        refine hK14 _ _ ?_
        clear hK14 K14
        clear qx hx HX
        have hal : a < S.data.toList.length := by rw [← Lib.size_eq]; exact hla
        have HC : Hid (cutC 62 wk = (wk.take a, wk.drop (a + 1), true)) := Lib.hid (by
          have hc := cut_here hal (UInt8.toNat_inj.1 (by have := HX2.out; exact this)) (fun j h hj e => HN.out j (by rw [Lib.size_eq]; exact h) hj (by have := congrArg UInt8.toNat e; exact this))
          rw [HD.out] at hc
          exact hc)
        have qa : ((a : Int) == (S.size : Int)) = false := by simp; omega
        have qa2 : (a == S.size) = false := by simp; omega
        clear hal HX2
        refine wp_seq_k fun K18 hK18 => ?_
        refine wp_seq_k fun K19 hK19 => ?_
        refine wp_region_lit ?_
        refine Kn.pure fh43 rfl rfl .none (Kn.ex_move fh43 (.tmp rfl)) fun fa44 fh44 => ?_
        clear fh43 fa43
        refine Kn.pure fh44 rfl rfl .none (Kn.ex_move fh44 (.tmp rfl)) fun fa45 fh45 => ?_
        clear fh44 fa44
        refine Kn.pure fh45 rfl rfl .none (Kn.ex_move fh45 (.tmp rfl)) fun fa46 fh46 => ?_
        clear fh45 fa45
        refine Kn.step fh46 rfl rfl .none (Kn.ex_indexAddr fh46 (.tmp rfl) (.tmp rfl)) fun Ko hKo => ?_
        go_simp
        try go_bits
        refine hKo _ _ fun fa47 fh47 => ?_
        clear hKo Ko fh46 fa46
        refine Kn.step fh47 rfl rfl .none (Kn.ex_load fh47 (.tmp rfl)) fun Ko hKo => ?_
        go_simp
        try go_bits
        refine hKo _ _ fun fa48 fh48 => ?_
        clear hKo Ko fh47 fa47
        refine Kn.step fh48 rfl rfl .none (Kn.ex_len fh48 (.tmp rfl)) fun Ko hKo => ?_
        go_simp
        try go_bits
        refine hKo _ _ fun fa49 fh49 => ?_
        clear hKo Ko fh48 fa48
        refine Kn.step fh49 rfl rfl .none (Kn.ex_bin fh49 (.tmp rfl) (.tmp rfl)) fun Ko hKo => ?_
        go_simp
        try go_bits
        refine hKo _ _ fun fa50 fh50 => ?_
        clear hKo Ko fh49 fa49
        refine wpList_nil ?_
        refine hK19 _ _ ?_
        clear hK19 K19
        replace fh50 := fh50.cut (.cons (t := 57) rfl (.cons (t := 10) rfl (.cons (t := 9) rfl (.cons (t := 5) rfl (.cons (t := 8) rfl (.cons (t := 6) rfl .nil))))))
        refine Kn.no fh50 (.tmp rfl) ?_
        refine wp_skip ?_
        refine hK18 _ _ ?_
        clear hK18 K18
        replace fh50 := fh50.cut (.cons (t := 10) rfl (.cons (t := 9) rfl (.cons (t := 5) rfl (.cons (t := 8) rfl (.cons (t := 6) rfl .nil)))))
        clear qa qa2
        obtain ⟨P1, hP1⟩ : ∃ P1, S.extract 0 a = P1 := ⟨_, rfl⟩
        have hcut := cut_h (P := Tryz.prog) u 9 S Tryz.underlying9 .i64 a (by omega)
        have hD1 := take_data S a
        rw [hP1] at hcut hD1
        rw [HD.out] at hD1
        have hnum := Edg.number_any P1 u (by rw [Lib.size_eq, hD1, List.length_take]; omega)
        rw [hD1] at hnum
        clear hP1 hD1
        refine wp_seq_k fun K20 hK20 => ?_
        refine wp_region_lit ?_
        refine Kn.pure fh50 rfl rfl .none (Kn.ex_move fh50 (.tmp rfl)) fun fa51 fh51 => ?_
        clear fh50 fa50
        refine Kn.pure fh51 rfl rfl .none (Kn.ex_move fh51 (.tmp rfl)) fun fa52 fh52 => ?_
        clear fh51 fa51
        refine Kn.step fh52 rfl rfl .none (Kn.ex_indexAddr fh52 (.tmp rfl) (.tmp rfl)) fun Ko hKo => ?_
        go_simp
        try go_bits
        refine hKo _ _ fun fa53 fh53 => ?_
        clear hKo Ko fh52 fa52
        refine Kn.step fh53 rfl rfl .none (Kn.ex_load fh53 (.tmp rfl)) fun Ko hKo => ?_
        go_simp
        try go_bits
        refine hKo _ _ fun fa54 fh54 => ?_
        clear hKo Ko fh53 fa53
        refine Kn.pure fh54 rfl rfl .none (Kn.ex_move fh54 (.tmp rfl)) fun fa55 fh55 => ?_
        clear fh54 fa54
        refine Kn.known fh55 rfl rfl .none (Kn.ex_sliceH fh55 (.tmp rfl) (.tmp rfl)) hcut fun fa56 fh56 => ?_
        clear fh55 fa55
        refine Kn.call fh56 rfl rfl .none (Kn.ex_call fh56 (.cons (.tmp rfl) .nil)) Tryz.call21 (hnum) fun e u2 hp => ?_
        obtain ⟨rfl, rfl⟩ := hp
        refine ⟨_, rfl, fun fa57 fh57 => ?_⟩
        clear fh56 fa56
        refine Kn.pure fh57 rfl rfl .none (Kn.ex_move fh57 (.tmp rfl)) fun fa58 fh58 => ?_
        clear fh57 fa57
        refine Kn.pure fh58 rfl rfl .none (Kn.ex_extract fh58 (.tmp rfl) rfl) fun fa59 fh59 => ?_
        clear fh58 fa58
        refine Kn.pure fh59 rfl rfl .none (Kn.ex_extract fh59 (.tmp rfl) rfl) fun fa60 fh60 => ?_
        clear fh59 fa59
        refine Kn.pure fh60 rfl rfl .none (Kn.ex_assign fh60 (.tmp rfl)) fun fa61 fh61 => ?_
        clear fh60 fa60
        refine Kn.pure fh61 rfl rfl .none (Kn.ex_assign fh61 (.tmp rfl)) fun fa62 fh62 => ?_
        clear fh61 fa61
        refine wpList_nil ?_
        refine hK20 _ _ ?_
        clear hK20 K20
        replace fh62 := fh62.cut (.cons (t := 12) rfl (.cons (t := 11) rfl (.cons (t := 10) rfl (.cons (t := 9) rfl (.cons (t := 5) rfl (.cons (t := 8) rfl (.cons (t := 6) rfl .nil)))))))
        clear hcut hnum
        obtain ⟨a1, ha1⟩ : ∃ a1, a + 1 = a1 := ⟨_, rfl⟩
        have ra : (a : Int) + 1 = (a1 : Int) := by omega
        have ha2 : a1 ≤ S.size := by omega
        obtain ⟨P2, hP2⟩ : ∃ P2, S.extract a1 S.size = P2 := ⟨_, rfl⟩
        have hcut := cut_l (P := Tryz.prog) u 9 S Tryz.underlying9 .i64 a1 ha2
        have hD2 := drop_data S a1
        rw [hP2] at hcut hD2
        rw [HD.out] at hD2
        have hnum := Edg.number_any P2 u (by rw [Lib.size_eq, hD2, List.length_drop, ← HD.out, ← Lib.size_eq]; omega)
        rw [hD2] at hnum
        rw [ha1] at HC
        clear hP2 hD2 ha1
        refine wp_seq_k fun K21 hK21 => ?_
        refine wp_region_lit ?_
        refine Kn.pure fh62 rfl rfl .none (Kn.ex_move fh62 (.tmp rfl)) fun fa63 fh63 => ?_
        clear fh62 fa62
        refine Kn.pure fh63 rfl rfl .none (Kn.ex_move fh63 (.tmp rfl)) fun fa64 fh64 => ?_
        clear fh63 fa63
        refine Kn.step fh64 rfl rfl .none (Kn.ex_indexAddr fh64 (.tmp rfl) (.tmp rfl)) fun Ko hKo => ?_
        go_simp
        try go_bits
        refine hKo _ _ fun fa65 fh65 => ?_
        clear hKo Ko fh64 fa64
        refine Kn.step fh65 rfl rfl .none (Kn.ex_load fh65 (.tmp rfl)) fun Ko hKo => ?_
        go_simp
        try go_bits
        refine hKo _ _ fun fa66 fh66 => ?_
        clear hKo Ko fh65 fa65
        refine Kn.pure fh66 rfl rfl .none (Kn.ex_move fh66 (.tmp rfl)) fun fa67 fh67 => ?_
        clear fh66 fa66
        refine Kn.step fh67 rfl rfl .none (Kn.ex_bin fh67 (.tmp rfl) .const) fun Ko hKo => ?_
        go_simp
        try go_bits
        try simp only [ra]
        refine hKo _ _ fun fa68 fh68 => ?_
        clear hKo Ko fh67 fa67
        refine Kn.known fh68 rfl rfl .none (Kn.ex_sliceL fh68 (.tmp rfl) (.tmp rfl)) hcut fun fa69 fh69 => ?_
        clear fh68 fa68
        refine Kn.call fh69 rfl rfl .none (Kn.ex_call fh69 (.cons (.tmp rfl) .nil)) Tryz.call21 (hnum) fun e u3 hp => ?_
        obtain ⟨rfl, rfl⟩ := hp
        refine ⟨_, rfl, fun fa70 fh70 => ?_⟩
        clear fh69 fa69
        refine Kn.pure fh70 rfl rfl .none (Kn.ex_move fh70 (.tmp rfl)) fun fa71 fh71 => ?_
        clear fh70 fa70
        refine Kn.pure fh71 rfl rfl .none (Kn.ex_extract fh71 (.tmp rfl) rfl) fun fa72 fh72 => ?_
        clear fh71 fa71
        refine Kn.pure fh72 rfl rfl .none (Kn.ex_extract fh72 (.tmp rfl) rfl) fun fa73 fh73 => ?_
        clear fh72 fa72
        refine Kn.pure fh73 rfl rfl .none (Kn.ex_assign fh73 (.tmp rfl)) fun fa74 fh74 => ?_
        clear fh73 fa73
        refine Kn.pure fh74 rfl rfl .none (Kn.ex_assign fh74 (.tmp rfl)) fun fa75 fh75 => ?_
        clear fh74 fa74
        refine wpList_nil ?_
        refine hK21 _ _ ?_
        clear hK21 K21
        replace fh75 := fh75.cut (.cons (t := 14) rfl (.cons (t := 13) rfl (.cons (t := 12) rfl (.cons (t := 11) rfl (.cons (t := 9) rfl (.cons (t := 5) rfl (.cons (t := 8) rfl (.cons (t := 6) rfl .nil))))))))
        clear hcut hnum ra
        generalize wk.take a = p at HC fh75
        generalize wk.drop a1 = q at HC fh75
        rcases h1 : numB p
        · have H1 := Lib.hid h1
          rw [h1] at fh75
          clear h1
          refine wp_seq_k fun K22 hK22 => ?_
          refine wp_seq_k fun K23 hK23 => ?_
          refine wp_region_lit ?_
          refine Kn.pure fh75 rfl rfl .none (Kn.ex_move fh75 (.tmp rfl)) fun fa76 fh76 => ?_
          clear fh75 fa75
          refine Kn.step fh76 rfl rfl .none (Kn.ex_un fh76 (.tmp rfl)) fun Ko hKo => ?_
          go_simp
          try go_bits
          refine hKo _ _ fun fa77 fh77 => ?_
          clear hKo Ko fh76 fa76
          refine Kn.pure fh77 rfl rfl .none (Kn.ex_move fh77 (.tmp rfl)) fun fa78 fh78 => ?_
          clear fh77 fa77
          refine Kn.skip fh78 rfl rfl (.some rfl rfl rfl) fun fa79 fh79 => ?_
          clear fh78 fa78
          refine Kn.skip fh79 rfl rfl (.some rfl rfl rfl) fun fa80 fh80 => ?_
          clear fh79 fa79
          refine Kn.pure fh80 rfl rfl .none (Kn.ex_pick fh80 (.tmp rfl) .const) fun fa81 fh81 => ?_
          clear fh80 fa80
          refine wpList_nil ?_
          refine hK23 _ _ ?_
          clear hK23 K23
          replace fh81 := fh81.cut (.cons (t := 85) rfl (.cons (t := 13) rfl (.cons (t := 11) rfl (.cons (t := 9) rfl (.cons (t := 5) rfl (.cons (t := 8) rfl (.cons (t := 6) rfl .nil)))))))
          refine Kn.yes fh81 (.tmp rfl) ?_
          replace fh81 := fh81.cut (.cons (t := 13) rfl (.cons (t := 11) rfl (.cons (t := 9) rfl (.cons (t := 5) rfl (.cons (t := 8) rfl (.cons (t := 6) rfl .nil))))))
          refine wp_seq_k fun K24 hK24 => ?_
          refine wp_region_lit ?_
          refine Kn.pure fh81 rfl rfl .none (Kn.ex_move fh81 (.tmp rfl)) fun fa82 fh82 => ?_
          clear fh81 fa81
          refine Kn.pure fh82 rfl rfl .none (Kn.ex_assign fh82 .const) fun fa83 fh83 => ?_
          clear fh82 fa82
          refine Kn.pure fh83 rfl rfl .none (Kn.ex_assign fh83 .const) fun fa84 fh84 => ?_
          clear fh83 fa83
          refine Kn.pure fh84 rfl rfl .none (Kn.ex_assign fh84 (.tmp rfl)) fun fa85 fh85 => ?_
          clear fh84 fa84
          refine wpList_nil ?_
          refine hK24 _ _ ?_
          clear hK24 K24
          replace fh85 := fh85.cut (.cons (t := 4) rfl (.cons (t := 3) rfl (.cons (t := 2) rfl (.cons (t := 13) rfl (.cons (t := 11) rfl (.cons (t := 9) rfl (.cons (t := 5) rfl (.cons (t := 8) rfl (.cons (t := 6) rfl .nil)))))))))
          refine wp_ret ?_
          refine Kn.then_ret ?_
          refine Kn.block_ret ?_
          refine Kn.then_ret ?_
          refine Kn.then_ret ?_
          refine Kn.block_ret ?_
          refine Kn.then_ret ?_
          exact Kn.ret3 fh85 rfl rfl rfl rfl ⟨HB.out, .inl ⟨k, HR2.out.bad (edge_of_left HC.out H1.out), rfl⟩⟩
        have H1 := Lib.hid h1
        rw [h1] at fh75
        clear h1
        rcases h2 : numB q
        · have H2 := Lib.hid h2
          rw [h2] at fh75
          clear h2
          refine wp_seq_k fun K22 hK22 => ?_
          refine wp_seq_k fun K23 hK23 => ?_
          refine wp_region_lit ?_
          refine Kn.pure fh75 rfl rfl .none (Kn.ex_move fh75 (.tmp rfl)) fun fa76 fh76 => ?_
          clear fh75 fa75
          refine Kn.step fh76 rfl rfl .none (Kn.ex_un fh76 (.tmp rfl)) fun Ko hKo => ?_
          go_simp
          try go_bits
          refine hKo _ _ fun fa77 fh77 => ?_
          clear hKo Ko fh76 fa76
          refine Kn.pure fh77 rfl rfl .none (Kn.ex_move fh77 (.tmp rfl)) fun fa78 fh78 => ?_
          clear fh77 fa77
          refine Kn.pure fh78 rfl rfl (.some rfl rfl rfl) (Kn.ex_move fh78 (.tmp rfl)) fun fa79 fh79 => ?_
          clear fh78 fa78
          refine Kn.step fh79 rfl rfl (.some rfl rfl rfl) (Kn.ex_un fh79 (.tmp rfl)) fun Ko hKo => ?_
          go_simp
          try go_bits
          refine hKo _ _ fun fa80 fh80 => ?_
          clear hKo Ko fh79 fa79
          refine Kn.pure fh80 rfl rfl .none (Kn.ex_pick fh80 (.tmp rfl) (.tmp rfl)) fun fa81 fh81 => ?_
          clear fh80 fa80
          refine wpList_nil ?_
          refine hK23 _ _ ?_
          clear hK23 K23
          replace fh81 := fh81.cut (.cons (t := 85) rfl (.cons (t := 13) rfl (.cons (t := 11) rfl (.cons (t := 9) rfl (.cons (t := 5) rfl (.cons (t := 8) rfl (.cons (t := 6) rfl .nil)))))))
          refine Kn.yes fh81 (.tmp rfl) ?_
          replace fh81 := fh81.cut (.cons (t := 13) rfl (.cons (t := 11) rfl (.cons (t := 9) rfl (.cons (t := 5) rfl (.cons (t := 8) rfl (.cons (t := 6) rfl .nil))))))
          refine wp_seq_k fun K24 hK24 => ?_
          refine wp_region_lit ?_
          refine Kn.pure fh81 rfl rfl .none (Kn.ex_move fh81 (.tmp rfl)) fun fa82 fh82 => ?_
          clear fh81 fa81
          refine Kn.pure fh82 rfl rfl .none (Kn.ex_assign fh82 .const) fun fa83 fh83 => ?_
          clear fh82 fa82
          refine Kn.pure fh83 rfl rfl .none (Kn.ex_assign fh83 .const) fun fa84 fh84 => ?_
          clear fh83 fa83
          refine Kn.pure fh84 rfl rfl .none (Kn.ex_assign fh84 (.tmp rfl)) fun fa85 fh85 => ?_
          clear fh84 fa84
          refine wpList_nil ?_
          refine hK24 _ _ ?_
          clear hK24 K24
          replace fh85 := fh85.cut (.cons (t := 4) rfl (.cons (t := 3) rfl (.cons (t := 2) rfl (.cons (t := 13) rfl (.cons (t := 11) rfl (.cons (t := 9) rfl (.cons (t := 5) rfl (.cons (t := 8) rfl (.cons (t := 6) rfl .nil)))))))))
          refine wp_ret ?_
          refine Kn.then_ret ?_
          refine Kn.block_ret ?_
          refine Kn.then_ret ?_
          refine Kn.then_ret ?_
          refine Kn.block_ret ?_
          refine Kn.then_ret ?_
          exact Kn.ret3 fh85 rfl rfl rfl rfl ⟨HB.out, .inl ⟨k, HR2.out.bad (edge_of_right HC.out H2.out), rfl⟩⟩
        have H2 := Lib.hid h2
        rw [h2] at fh75
        clear h2
        refine wp_seq_k fun K22 hK22 => ?_
        refine wp_seq_k fun K23 hK23 => ?_
        refine wp_region_lit ?_
        refine Kn.pure fh75 rfl rfl .none (Kn.ex_move fh75 (.tmp rfl)) fun fa76 fh76 => ?_
        clear fh75 fa75
        refine Kn.step fh76 rfl rfl .none (Kn.ex_un fh76 (.tmp rfl)) fun Ko hKo => ?_
        go_simp
        try go_bits
        refine hKo _ _ fun fa77 fh77 => ?_
        clear hKo Ko fh76 fa76
        refine Kn.pure fh77 rfl rfl .none (Kn.ex_move fh77 (.tmp rfl)) fun fa78 fh78 => ?_
        clear fh77 fa77
        refine Kn.pure fh78 rfl rfl (.some rfl rfl rfl) (Kn.ex_move fh78 (.tmp rfl)) fun fa79 fh79 => ?_
        clear fh78 fa78
        refine Kn.step fh79 rfl rfl (.some rfl rfl rfl) (Kn.ex_un fh79 (.tmp rfl)) fun Ko hKo => ?_
        go_simp
        try go_bits
        refine hKo _ _ fun fa80 fh80 => ?_
        clear hKo Ko fh79 fa79
        refine Kn.pure fh80 rfl rfl .none (Kn.ex_pick fh80 (.tmp rfl) (.tmp rfl)) fun fa81 fh81 => ?_
        clear fh80 fa80
        refine wpList_nil ?_
        refine hK23 _ _ ?_
        clear hK23 K23
        replace fh81 := fh81.cut (.cons (t := 85) rfl (.cons (t := 13) rfl (.cons (t := 11) rfl (.cons (t := 9) rfl (.cons (t := 5) rfl (.cons (t := 8) rfl (.cons (t := 6) rfl .nil)))))))
        refine Kn.no fh81 (.tmp rfl) ?_
        refine wp_skip ?_
        refine hK22 _ _ ?_
        clear hK22 K22
        replace fh81 := fh81.cut (.cons (t := 13) rfl (.cons (t := 11) rfl (.cons (t := 9) rfl (.cons (t := 5) rfl (.cons (t := 8) rfl (.cons (t := 6) rfl .nil))))))
        have HR3 : Hid (ToldYet (k + 1) n (es ++ [(numV p, numV q)]) (ws.drop (k + 1)) R) := Lib.hid (HR2.out.next (edge_of_both HC.out H1.out H2.out))
        generalize numV p = x1 at HR3 fh81
        generalize numV q = x2 at HR3 fh81
        clear HR2 HC H1 H2 HN
        obtain ⟨g', c', u3, hrun, hown, hbel, hkep⟩ := Edg.push1 w u 22 A ne ce es (x1, x2) HO.out.1 HB.out (by have := HO.out.1.1; omega)
        have hsl := HS.out.lt
        have hAg : (Value.slice A ne ce).ownBlock ≠ some g := by
          intro h
          cases hA : A with
          | none => rw [hA] at h; simp [Value.ownBlock] at h
          | some ad =>
            rw [hA] at h
            simp [Value.ownBlock] at h
            rcases Nat.eq_zero_or_pos es.length with h0 | h0
            · rcases HO.out.1.2.2 with ⟨hv, _⟩ | ⟨g2, c2, cur, hv, _⟩
              · simp [hA] at hv
              · simp only [Value.slice.injEq] at hv
                obtain ⟨hv, _⟩ := hv
                rw [hA] at hv
                have e := Option.some.inj hv
                subst e
                exact HO.out.2 (by rw [hA, ← h])
            · obtain ⟨g2, c2, hv, _⟩ := HO.out.1.2.form (by rw [HO.out.1.1]; exact h0)
              simp only [Value.slice.injEq] at hv
              obtain ⟨hv, _⟩ := hv
              rw [hA] at hv
              have e := Option.some.inj hv
              subst e
              exact HO.out.2 (by rw [hA, ← h])
        have HS3 : Hid (Str.OwnS u3 w.heap.size (some ⟨g, 0, none⟩) nw cap (ws.map sbl)) := Lib.hid ⟨HS.out.1, hkep.row (HS.out.2.alloc _) (.inr (fun h => hAg (by rw [← h]; rfl)))⟩
        have HO3 : Hid (Edg.OwnE u3 w.heap.size (some ⟨g', 0, none⟩) (ne + 1) c' (es ++ [(x1, x2)]) ∧ (some ⟨g', 0, none⟩ : Option Addr) ≠ some ⟨g, 0, none⟩) := Lib.hid ⟨hown, fun h => by
          rcases hkep.at' with e | e
          · exact hAg (by rw [e]; simpa using h)
          · simp at h e; omega⟩
        have HB3 := Lib.hid hbel
        clear hown hbel hkep hAg hsl
        refine wp_region_lit ?_
        refine Kn.pure fh81 rfl rfl .none (Kn.ex_move fh81 (.tmp rfl)) fun fa82 fh82 => ?_
        clear fh81 fa81
        refine Kn.pure fh82 rfl rfl .none (Kn.ex_move fh82 (.tmp rfl)) fun fa83 fh83 => ?_
        clear fh82 fa82
        refine Kn.pure fh83 rfl rfl .none (Kn.ex_move fh83 (.tmp rfl)) fun fa84 fh84 => ?_
        clear fh83 fa83
        refine Kn.step fh84 rfl rfl .none (Kn.ex_build fh84 (.cons (.tmp rfl) (.cons (.tmp rfl) .nil))) fun Ko hKo => ?_
        go_simp
        try go_bits
        refine hKo _ _ fun fa85 fh85 => ?_
        clear hKo Ko fh84 fa84
        refine Kn.step fh85 rfl rfl .none (Kn.ex_buildSlice fh85 (.cons (.tmp rfl) .nil)) fun Ko hKo => ?_
        go_simp
        try go_bits
        refine hKo _ _ fun fa86 fh86 => ?_
        clear hKo Ko fh85 fa85
        refine Kn.known fh86 rfl rfl .none (Kn.ex_append fh86 (.cons (.tmp rfl) (.cons (.tmp rfl) .nil))) hrun fun fa87 fh87 => ?_
        clear fh86 fa86
        clear hrun
        refine Kn.pure fh87 rfl rfl .none (Kn.ex_assign fh87 (.tmp rfl)) fun fa88 fh88 => ?_
        clear fh87 fa87
        refine wpList_nil ?_
        refine Kn.block_normal ?_
        refine hK12 _ _ ?_
        clear hK12 K12
        replace fh88 := fh88.cut (.cons (t := 8) rfl (.cons (t := 9) rfl (.cons (t := 5) rfl (.cons (t := 6) rfl .nil))))
        refine wp_region_lit ?_
        refine Kn.pure fh88 rfl rfl .none (Kn.ex_move fh88 (.tmp rfl)) fun fa89 fh89 => ?_
        clear fh88 fa88
        refine Kn.step fh89 rfl rfl .none (Kn.ex_bin fh89 (.tmp rfl) .const) fun Ko hKo => ?_
        go_simp
        try go_bits
        refine hKo _ _ fun fa90 fh90 => ?_
        clear hKo Ko fh89 fa89
        refine Kn.pure fh90 rfl rfl .none (Kn.ex_assign fh90 (.tmp rfl)) fun fa91 fh91 => ?_
        clear fh90 fa90
        refine wpList_nil ?_
        replace fh91 := fh91.cut (.cons (t := 9) rfl (.cons (t := 8) rfl (.cons (t := 5) rfl (.cons (t := 6) rfl .nil))))
        exact hKl9 (m9 - 1) _ _ (by omega) ⟨k + 1, ne + 1, c', _, _, fh91.cut (.turn (t := 9) rfl (by go_num) (.cons (t := 5) rfl (.cons (t := 8) rfl (.cons (t := 6) rfl .nil)))), by omega, by rw [List.length_append, List.length_singleton]; omega, HR3, HS3, HO3, HB3⟩
      · have qx : ((x : Int) != 62) = true := by simp; omega
        have HX2 : Hid (S[a].toNat ≠ 62) := Lib.hid (by rw [HX.out]; exact h62)
        clear h62
        refine wp_seq_k fun K16 hK16 => ?_
        refine wp_seq_k fun K17 hK17 => ?_
        refine wp_region_lit ?_
        refine Kn.pure fh27 rfl rfl .none (Kn.ex_move fh27 (.tmp rfl)) fun fa28 fh28 => ?_
        clear fh27 fa27
        refine Kn.pure fh28 rfl rfl .none (Kn.ex_move fh28 (.tmp rfl)) fun fa29 fh29 => ?_
        clear fh28 fa28
        refine Kn.pure fh29 rfl rfl .none (Kn.ex_move fh29 (.tmp rfl)) fun fa30 fh30 => ?_
        clear fh29 fa29
        refine Kn.step fh30 rfl rfl .none (Kn.ex_indexAddr fh30 (.tmp rfl) (.tmp rfl)) fun Ko hKo => ?_
        go_simp
        try go_bits
        refine hKo _ _ fun fa31 fh31 => ?_
        clear hKo Ko fh30 fa30
        refine Kn.step fh31 rfl rfl .none (Kn.ex_load fh31 (.tmp rfl)) fun Ko hKo => ?_
        go_simp
        try go_bits
        refine hKo _ _ fun fa32 fh32 => ?_
        clear hKo Ko fh31 fa31
        refine Kn.step fh32 rfl rfl .none (Kn.ex_len fh32 (.tmp rfl)) fun Ko hKo => ?_
        go_simp
        try go_bits
        refine hKo _ _ fun fa33 fh33 => ?_
        clear hKo Ko fh32 fa32
        refine Kn.step fh33 rfl rfl .none (Kn.ex_bin fh33 (.tmp rfl) (.tmp rfl)) fun Ko hKo => ?_
        go_simp
        try go_bits
        refine hKo _ _ fun fa34 fh34 => ?_
        clear hKo Ko fh33 fa33
        refine Kn.pure fh34 rfl rfl .none (Kn.ex_move fh34 (.tmp rfl)) fun fa35 fh35 => ?_
        clear fh34 fa34
        refine Kn.pure fh35 rfl rfl (.some rfl rfl rfl) (Kn.ex_move fh35 (.tmp rfl)) fun fa36 fh36 => ?_
        clear fh35 fa35
        refine Kn.pure fh36 rfl rfl (.some rfl rfl rfl) (Kn.ex_move fh36 (.tmp rfl)) fun fa37 fh37 => ?_
        clear fh36 fa36
        refine Kn.step fh37 rfl rfl (.some rfl rfl rfl) (Kn.ex_indexAddr fh37 (.tmp rfl) (.tmp rfl)) fun Ko hKo => ?_
        go_simp
        try go_bits
        refine hKo _ _ fun fa38 fh38 => ?_
        clear hKo Ko fh37 fa37
        refine Kn.step fh38 rfl rfl (.some rfl rfl rfl) (Kn.ex_load fh38 (.tmp rfl)) fun Ko hKo => ?_
        go_simp
        try go_bits
        refine hKo _ _ fun fa39 fh39 => ?_
        clear hKo Ko fh38 fa38
        refine Kn.pure fh39 rfl rfl (.some rfl rfl rfl) (Kn.ex_move fh39 (.tmp rfl)) fun fa40 fh40 => ?_
        clear fh39 fa39
        refine Kn.step fh40 rfl rfl (.some rfl rfl rfl) (Kn.ex_index fh40 (.tmp rfl) (.tmp rfl)) fun Ko hKo => ?_
        go_simp
        try go_bits
        refine hKo _ _ fun fa41 fh41 => ?_
        clear hKo Ko fh40 fa40
        refine Kn.step fh41 rfl rfl (.some rfl rfl rfl) (Kn.ex_bin fh41 (.tmp rfl) .const) fun Ko hKo => ?_
        go_simp
        try go_bits
        refine hKo _ _ fun fa42 fh42 => ?_
        clear hKo Ko fh41 fa41
        refine Kn.pure fh42 rfl rfl .none (Kn.ex_pick fh42 (.tmp rfl) (.tmp rfl)) fun fa43 fh43 => ?_
        clear fh42 fa42
        refine wpList_nil ?_
        refine hK17 _ _ ?_
        clear hK17 K17
        replace fh43 := fh43.cut (.cons (t := 48) rfl (.cons (t := 10) rfl (.cons (t := 9) rfl (.cons (t := 5) rfl (.cons (t := 8) rfl (.cons (t := 6) rfl .nil))))))
        refine Kn.yes fh43 (.tmp rfl) ?_
        refine wp_skip ?_
        refine hK16 _ _ ?_
        clear hK16 K16
        replace fh43 := fh43.cut (.cons (t := 10) rfl (.cons (t := 9) rfl (.cons (t := 5) rfl (.cons (t := 8) rfl (.cons (t := 6) rfl .nil)))))
        refine wp_block ?_
        clear qx hx HX
        refine wp_region_lit ?_
        refine Kn.pure fh43 rfl rfl .none (Kn.ex_move fh43 (.tmp rfl)) fun fa44 fh44 => ?_
        clear fh43 fa43
        refine Kn.step fh44 rfl rfl .none (Kn.ex_bin fh44 (.tmp rfl) .const) fun Ko hKo => ?_
        go_simp
        try go_bits
        refine hKo _ _ fun fa45 fh45 => ?_
        clear hKo Ko fh44 fa44
        refine Kn.pure fh45 rfl rfl .none (Kn.ex_assign fh45 (.tmp rfl)) fun fa46 fh46 => ?_
        clear fh45 fa45
        refine wpList_nil ?_
        refine Kn.block_normal ?_
        replace fh46 := fh46.cut (.cons (t := 10) rfl (.cons (t := 9) rfl (.cons (t := 5) rfl (.cons (t := 8) rfl (.cons (t := 6) rfl .nil)))))
        have HN2 : Hid (∀ j (h : j < S.size), j < a + 1 → S[j].toNat ≠ 62) := Lib.hid (fun j h hj => by
          rcases Nat.lt_or_ge j a with h' | h'
          · exact HN.out j h h'
          · have e : j = a := by omega
            subst e
            exact HX2.out)
        exact hKl15 (m15 - 1) _ _ (by omega) ⟨a + 1, fh46.cut (.turn (t := 10) rfl (by go_num) (.cons (t := 9) rfl (.cons (t := 5) rfl (.cons (t := 8) rfl (.cons (t := 6) rfl .nil))))), by omega, HN2, rfl⟩
    · obtain rfl : a = S.size := by omega
      refine wp_seq_k fun K16 hK16 => ?_
      refine wp_seq_k fun K17 hK17 => ?_
      refine wp_region_lit ?_
      refine Kn.pure fh27 rfl rfl .none (Kn.ex_move fh27 (.tmp rfl)) fun fa28 fh28 => ?_
      clear fh27 fa27
      refine Kn.pure fh28 rfl rfl .none (Kn.ex_move fh28 (.tmp rfl)) fun fa29 fh29 => ?_
      clear fh28 fa28
      refine Kn.pure fh29 rfl rfl .none (Kn.ex_move fh29 (.tmp rfl)) fun fa30 fh30 => ?_
      clear fh29 fa29
      refine Kn.step fh30 rfl rfl .none (Kn.ex_indexAddr fh30 (.tmp rfl) (.tmp rfl)) fun Ko hKo => ?_
      go_simp
      try go_bits
      refine hKo _ _ fun fa31 fh31 => ?_
      clear hKo Ko fh30 fa30
      refine Kn.step fh31 rfl rfl .none (Kn.ex_load fh31 (.tmp rfl)) fun Ko hKo => ?_
      go_simp
      try go_bits
      refine hKo _ _ fun fa32 fh32 => ?_
      clear hKo Ko fh31 fa31
      refine Kn.step fh32 rfl rfl .none (Kn.ex_len fh32 (.tmp rfl)) fun Ko hKo => ?_
      go_simp
      try go_bits
      refine hKo _ _ fun fa33 fh33 => ?_
      clear hKo Ko fh32 fa32
      refine Kn.step fh33 rfl rfl .none (Kn.ex_bin fh33 (.tmp rfl) (.tmp rfl)) fun Ko hKo => ?_
      go_simp
      try go_bits
      refine hKo _ _ fun fa34 fh34 => ?_
      clear hKo Ko fh33 fa33
      refine Kn.pure fh34 rfl rfl .none (Kn.ex_move fh34 (.tmp rfl)) fun fa35 fh35 => ?_
      clear fh34 fa34
      refine Kn.skip fh35 rfl rfl (.some rfl rfl rfl) fun fa36 fh36 => ?_
      clear fh35 fa35
      refine Kn.skip fh36 rfl rfl (.some rfl rfl rfl) fun fa37 fh37 => ?_
      clear fh36 fa36
      refine Kn.skip fh37 rfl rfl (.some rfl rfl rfl) fun fa38 fh38 => ?_
      clear fh37 fa37
      refine Kn.skip fh38 rfl rfl (.some rfl rfl rfl) fun fa39 fh39 => ?_
      clear fh38 fa38
      refine Kn.skip fh39 rfl rfl (.some rfl rfl rfl) fun fa40 fh40 => ?_
      clear fh39 fa39
      refine Kn.skip fh40 rfl rfl (.some rfl rfl rfl) fun fa41 fh41 => ?_
      clear fh40 fa40
      refine Kn.skip fh41 rfl rfl (.some rfl rfl rfl) fun fa42 fh42 => ?_
      clear fh41 fa41
      refine Kn.pure fh42 rfl rfl .none (Kn.ex_pick fh42 (.tmp rfl) .const) fun fa43 fh43 => ?_
      clear fh42 fa42
      refine wpList_nil ?_
      refine hK17 _ _ ?_
      clear hK17 K17
      replace fh43 := fh43.cut (.cons (t := 48) rfl (.cons (t := 10) rfl (.cons (t := 9) rfl (.cons (t := 5) rfl (.cons (t := 8) rfl (.cons (t := 6) rfl .nil))))))
      refine Kn.no fh43 (.tmp rfl) ?_
      replace fh43 := fh43.cut (.cons (t := 10) rfl (.cons (t := 9) rfl (.cons (t := 5) rfl (.cons (t := 8) rfl (.cons (t := 6) rfl .nil)))))
      refine wp_exit ?_
      refine Kn.then_exit ?_
      clear hK16 K16
      refine Kn.then_exit ?_
      clear hKl15 Kl15
      refine Kn.block_exit ?_
      refine hK14 _ _ ?_
      clear hK14 K14
      refine wp_seq_k fun K18 hK18 => ?_
      refine wp_seq_k fun K19 hK19 => ?_
      refine wp_region_lit ?_
      refine Kn.pure fh43 rfl rfl .none (Kn.ex_move fh43 (.tmp rfl)) fun fa44 fh44 => ?_
      clear fh43 fa43
      refine Kn.pure fh44 rfl rfl .none (Kn.ex_move fh44 (.tmp rfl)) fun fa45 fh45 => ?_
      clear fh44 fa44
      refine Kn.pure fh45 rfl rfl .none (Kn.ex_move fh45 (.tmp rfl)) fun fa46 fh46 => ?_
      clear fh45 fa45
      refine Kn.step fh46 rfl rfl .none (Kn.ex_indexAddr fh46 (.tmp rfl) (.tmp rfl)) fun Ko hKo => ?_
      go_simp
      try go_bits
      refine hKo _ _ fun fa47 fh47 => ?_
      clear hKo Ko fh46 fa46
      refine Kn.step fh47 rfl rfl .none (Kn.ex_load fh47 (.tmp rfl)) fun Ko hKo => ?_
      go_simp
      try go_bits
      refine hKo _ _ fun fa48 fh48 => ?_
      clear hKo Ko fh47 fa47
      refine Kn.step fh48 rfl rfl .none (Kn.ex_len fh48 (.tmp rfl)) fun Ko hKo => ?_
      go_simp
      try go_bits
      refine hKo _ _ fun fa49 fh49 => ?_
      clear hKo Ko fh48 fa48
      refine Kn.step fh49 rfl rfl .none (Kn.ex_bin fh49 (.tmp rfl) (.tmp rfl)) fun Ko hKo => ?_
      go_simp
      try go_bits
      refine hKo _ _ fun fa50 fh50 => ?_
      clear hKo Ko fh49 fa49
      refine wpList_nil ?_
      refine hK19 _ _ ?_
      clear hK19 K19
      replace fh50 := fh50.cut (.cons (t := 57) rfl (.cons (t := 10) rfl (.cons (t := 9) rfl (.cons (t := 5) rfl (.cons (t := 8) rfl (.cons (t := 6) rfl .nil))))))
      refine Kn.yes fh50 (.tmp rfl) ?_
      replace fh50 := fh50.cut (.cons (t := 10) rfl (.cons (t := 9) rfl (.cons (t := 5) rfl (.cons (t := 8) rfl (.cons (t := 6) rfl .nil)))))
      refine wp_seq_k fun K20 hK20 => ?_
      refine wp_region_lit ?_
      refine Kn.pure fh50 rfl rfl .none (Kn.ex_move fh50 (.tmp rfl)) fun fa51 fh51 => ?_
      clear fh50 fa50
      refine Kn.pure fh51 rfl rfl .none (Kn.ex_assign fh51 .const) fun fa52 fh52 => ?_
      clear fh51 fa51
      refine Kn.pure fh52 rfl rfl .none (Kn.ex_assign fh52 .const) fun fa53 fh53 => ?_
      clear fh52 fa52
      refine Kn.pure fh53 rfl rfl .none (Kn.ex_assign fh53 (.tmp rfl)) fun fa54 fh54 => ?_
      clear fh53 fa53
      refine wpList_nil ?_
      refine hK20 _ _ ?_
      clear hK20 K20
      replace fh54 := fh54.cut (.cons (t := 4) rfl (.cons (t := 3) rfl (.cons (t := 2) rfl (.cons (t := 10) rfl (.cons (t := 9) rfl (.cons (t := 5) rfl (.cons (t := 8) rfl (.cons (t := 6) rfl .nil))))))))
      refine wp_ret ?_
      refine Kn.then_ret ?_
      refine Kn.block_ret ?_
      refine Kn.then_ret ?_
      refine Kn.then_ret ?_
      refine Kn.block_ret ?_
      refine Kn.then_ret ?_
      exact Kn.ret3 fh54 rfl rfl rfl rfl ⟨HB.out, .inl ⟨k, HR2.out.bad (by rw [← HD.out]; exact cut_nowhere (fun j h e => HN.out j (by rw [Lib.size_eq]; exact h) (by rw [Lib.size_eq]; exact h) (by have := congrArg UInt8.toNat e; exact this))), rfl⟩⟩
  · obtain rfl : k = nw := by omega
    have HE2 : Hid (R = .inr (n, es)) := Lib.hid (ToldYet.done (k := k) (by have := HR.out; rwa [List.drop_of_length_le hnw2] at this))
    have hnl := HO.out.1.1
    subst hnl
    refine wp_seq_k fun K10 hK10 => ?_
    refine wp_seq_k fun K11 hK11 => ?_
    refine wp_region_lit ?_
    refine Kn.pure fh21 rfl rfl .none (Kn.ex_move fh21 (.tmp rfl)) fun fa22 fh22 => ?_
    clear fh21 fa21
    refine Kn.pure fh22 rfl rfl .none (Kn.ex_move fh22 (.tmp rfl)) fun fa23 fh23 => ?_
    clear fh22 fa22
    refine Kn.step fh23 rfl rfl .none (Kn.ex_len fh23 (.tmp rfl)) fun Ko hKo => ?_
    go_simp
    try go_bits
    refine hKo _ _ fun fa24 fh24 => ?_
    clear hKo Ko fh23 fa23
    refine Kn.step fh24 rfl rfl .none (Kn.ex_bin fh24 (.tmp rfl) (.tmp rfl)) fun Ko hKo => ?_
    go_simp
    try go_bits
    refine hKo _ _ fun fa25 fh25 => ?_
    clear hKo Ko fh24 fa24
    refine wpList_nil ?_
    refine hK11 _ _ ?_
    clear hK11 K11
    replace fh25 := fh25.cut (.cons (t := 30) rfl (.cons (t := 9) rfl (.cons (t := 5) rfl (.cons (t := 8) rfl (.cons (t := 6) rfl .nil)))))
    refine Kn.no fh25 (.tmp rfl) ?_
    replace fh25 := fh25.cut (.cons (t := 9) rfl (.cons (t := 5) rfl (.cons (t := 8) rfl (.cons (t := 6) rfl .nil))))
    refine wp_exit ?_
    refine Kn.then_exit ?_
    clear hK10 K10
    refine Kn.then_exit ?_
    clear hKl9 Kl9
    refine Kn.block_exit ?_
    refine hK7 _ _ ?_
    clear hK7 K7
    replace fh25 := fh25.cut (.cons (t := 8) rfl (.cons (t := 6) rfl .nil))
    refine wp_seq_k fun K12 hK12 => ?_
    refine wp_region_lit ?_
    refine Kn.pure fh25 rfl rfl .none (Kn.ex_move fh25 (.tmp rfl)) fun fa26 fh26 => ?_
    clear fh25 fa25
    refine Kn.pure fh26 rfl rfl .none (Kn.ex_move fh26 (.tmp rfl)) fun fa27 fh27 => ?_
    clear fh26 fa26
    refine Kn.pure fh27 rfl rfl .none (Kn.ex_assign fh27 (.tmp rfl)) fun fa28 fh28 => ?_
    clear fh27 fa27
    refine Kn.pure fh28 rfl rfl .none (Kn.ex_assign fh28 (.tmp rfl)) fun fa29 fh29 => ?_
    clear fh28 fa28
    refine Kn.pure fh29 rfl rfl .none (Kn.ex_assign fh29 .const) fun fa30 fh30 => ?_
    clear fh29 fa29
    refine wpList_nil ?_
    refine hK12 _ _ ?_
    clear hK12 K12
    replace fh30 := fh30.cut (.cons (t := 4) rfl (.cons (t := 3) rfl (.cons (t := 2) rfl .nil)))
    refine wp_ret ?_
    exact Kn.ret3 fh30 rfl rfl rfl rfl ⟨HB.out, .inr ⟨n, es, A, ce, HE2.out, rfl, HO.out.1.ein⟩⟩

end Go.Proofs.YtnmpcendimdoeaaGreatDoor.Txt
