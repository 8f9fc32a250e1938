/- Contracts of the program's edges: Parse (written by gen_txtp.py). -/
import Derived.Test.YtnmpcendimdoeaaGreatDoorTxtN
namespace Go.Proofs.YtnmpcendimdoeaaGreatDoor.Txt
open Go Go.RowKit Go.Lib Go.Proofs.YtnmpcendimdoeaaGreatDoor.Dig

theorem cutC_no {c : UInt8} {l p q : List UInt8} (h : cutC c l = (p, q, false)) : q = [] := by
  have := (index_one c l).2 (by rw [h])
  rw [h] at this
  exact this.2.2
/-- The words that are left. -/
def left (f : Bool) (r : List UInt8) : List (List UInt8) := if f = true then wr r else []
theorem left_cut {r p q : List UInt8} {f : Bool} (h : cutC 32 r = (p, q, f)) : left true r = p :: left f q := by
  unfold left
  rw [if_pos rfl, wr_cut, h]
def more (f : Bool) (r : List UInt8) : Nat := if f = true then r.length + 1 else 0
theorem more_lt {r p q : List UInt8} {f : Bool} (h : cutC 32 r = (p, q, f)) : more f q ≤ r.length := by
  have := cutC_len 32 r
  rw [h] at this
  unfold more
  split
  · rename_i e; exact this.2.2 e
  · exact Nat.zero_le _
/-- A graph is answered, or the place of a word that tells nothing. -/
def PRet (w : World) (r : Nat ⊕ (Int × List (Int × Int))) (e : Ending) (w' : World) : Prop := Below w.heap.size w w' ∧ ((∃ j : Nat, r = .inl j ∧ e = .returned (.tuple #[.int .i64 0, .slice none 0 0, Edg.faultV (j : Int) 4])) ∨ ∃ n es A c, r = .inr (n, es) ∧ e = .returned (.tuple #[.int .i64 n, .slice A es.length c, .nilIface]) ∧ Edg.EIn w' A es)

set_option maxRecDepth 100000 in
set_option maxHeartbeats 2000000 in
theorem parse_p (s : ByteArray) (w : World) (hv : Vars w) (hs : s.size ≤ 50000) :
    Calls Tryz.prog 7 #[.string s] w (PRet w (parseW (wr s.data.toList))) := by
  refine Kn.calls Tryz.func7 rfl Tryz.ntmps7 rfl (.cons (t := 0) rfl .nil) fun fa0 fh0 => ?_
  refine wp_seq_k fun K1 hK1 => ?_
  refine wp_region_lit ?_
  refine Kn.pure fh0 rfl rfl .none (Kn.ex_assign fh0 .const) fun fa1 fh1 => ?_
  clear fh0 fa0
  refine Kn.pure fh1 rfl rfl .none (Kn.ex_assign fh1 .const) fun fa2 fh2 => ?_
  clear fh1 fa1
  refine Kn.pure fh2 rfl rfl .none (Kn.ex_assign fh2 .const) fun fa3 fh3 => ?_
  clear fh2 fa2
  refine wpList_nil ?_
  refine hK1 _ _ ?_
  clear hK1 K1
  rcases hc : cutC 32 s.data.toList with ⟨p, q, f⟩
  have hcut := cut_any s 32 w hv (by omega)
  have hl := cutC_len 32 s.data.toList
  rw [hc] at hcut hl
  have hm := more_lt hc
  have hss := Lib.size_eq s
  have HL := Lib.hid hl
  have HW : Hid (wr s.data.toList = p :: left f q) := Lib.hid (by have := left_cut hc; unfold left at this; rw [if_pos rfl] at this; exact this)
  have hq0 : more f q + 1 ≤ s.size + 1 := by omega
  have hq1 : q.length ≤ s.size := Nat.le_trans hl.2.1 (Nat.le_of_eq hss.symm)
  clear hc hl hm hss
  refine wp_seq_k fun K2 hK2 => ?_
  refine wp_region_lit ?_
  refine Kn.pure fh3 rfl rfl .none (Kn.ex_move fh3 (.tmp rfl)) fun fa4 fh4 => ?_
  clear fh3 fa3
  refine Kn.call fh4 rfl rfl .none (Kn.ex_call fh4 (.cons (.tmp rfl) (.cons .const .nil))) Tryz.call15 (hcut) fun e w1 hp => ?_
  obtain ⟨rfl, hb1⟩ := hp
  refine ⟨_, rfl, fun fa5 fh5 => ?_⟩
  clear fh4 fa4
  refine Kn.pure fh5 rfl rfl .none (Kn.ex_move fh5 (.tmp rfl)) fun fa6 fh6 => ?_
  clear fh5 fa5
  refine Kn.pure fh6 rfl rfl .none (Kn.ex_extract fh6 (.tmp rfl) rfl) fun fa7 fh7 => ?_
  clear fh6 fa6
  refine Kn.pure fh7 rfl rfl .none (Kn.ex_extract fh7 (.tmp rfl) rfl) fun fa8 fh8 => ?_
  clear fh7 fa7
  refine Kn.pure fh8 rfl rfl .none (Kn.ex_extract fh8 (.tmp rfl) rfl) fun fa9 fh9 => ?_
  clear fh8 fa8
  refine Kn.pure fh9 rfl rfl .none (Kn.ex_assign fh9 (.tmp rfl)) fun fa10 fh10 => ?_
  clear fh9 fa9
  refine Kn.pure fh10 rfl rfl .none (Kn.ex_assign fh10 (.tmp rfl)) fun fa11 fh11 => ?_
  clear fh10 fa10
  refine Kn.pure fh11 rfl rfl .none (Kn.ex_assign fh11 (.tmp rfl)) fun fa12 fh12 => ?_
  clear fh11 fa11
  refine wpList_nil ?_
  refine hK2 _ _ ?_
  clear hK2 K2
  replace fh12 := fh12.cut (.cons (t := 7) rfl (.cons (t := 6) rfl (.cons (t := 5) rfl (.cons (t := 4) rfl (.cons (t := 3) rfl (.cons (t := 2) rfl .nil))))))
  have HV0 := Lib.hid hv
  have HB1 := Lib.hid hb1
  have hn := number_p (sbl p) w1 (HV0.out.on HB1.out)
  rw [show (sbl p).data.toList = p from rfl] at hn
  clear hcut hb1 hv
  refine wp_seq_k fun K3 hK3 => ?_
  refine wp_region_lit ?_
  refine Kn.pure fh12 rfl rfl .none (Kn.ex_move fh12 (.tmp rfl)) fun fa13 fh13 => ?_
  clear fh12 fa12
  refine Kn.call fh13 rfl rfl .none (Kn.ex_call fh13 (.cons (.tmp rfl) .nil)) Tryz.call16 (hn) fun e w2 hp => ?_
  obtain ⟨rfl, hb2⟩ := hp
  refine ⟨_, rfl, fun fa14 fh14 => ?_⟩
  clear fh13 fa13
  refine Kn.pure fh14 rfl rfl .none (Kn.ex_move fh14 (.tmp rfl)) fun fa15 fh15 => ?_
  clear fh14 fa14
  refine Kn.pure fh15 rfl rfl .none (Kn.ex_extract fh15 (.tmp rfl) rfl) fun fa16 fh16 => ?_
  clear fh15 fa15
  refine Kn.pure fh16 rfl rfl .none (Kn.ex_extract fh16 (.tmp rfl) rfl) fun fa17 fh17 => ?_
  clear fh16 fa16
  refine Kn.pure fh17 rfl rfl .none (Kn.ex_assign fh17 (.tmp rfl)) fun fa18 fh18 => ?_
  clear fh17 fa17
  refine Kn.pure fh18 rfl rfl .none (Kn.ex_assign fh18 (.tmp rfl)) fun fa19 fh19 => ?_
  clear fh18 fa18
  refine wpList_nil ?_
  refine hK3 _ _ ?_
  clear hK3 K3
  replace fh19 := fh19.cut (.cons (t := 9) rfl (.cons (t := 8) rfl (.cons (t := 7) rfl (.cons (t := 6) rfl (.cons (t := 5) rfl (.cons (t := 4) rfl (.cons (t := 3) rfl (.cons (t := 2) rfl .nil))))))))
  have HB2 := Lib.hid (HB1.out.trans (hb2.mono HB1.out.size))
  clear hn hb2 HB1
  rcases h1 : numB p
  · have HR : Hid (parseW (wr s.data.toList) = .inl 0) := Lib.hid (by rw [HW.out]; exact parse_bad (by rw [numOf_of, h1]; rfl))
    rw [h1] at fh19
    clear h1
    refine wp_seq_k fun K4 hK4 => ?_
    refine wp_seq_k fun K5 hK5 => ?_
    refine wp_region_lit ?_
    refine Kn.pure fh19 rfl rfl .none (Kn.ex_move fh19 (.tmp rfl)) fun fa20 fh20 => ?_
    clear fh19 fa19
    refine Kn.step fh20 rfl rfl .none (Kn.ex_un fh20 (.tmp rfl)) fun Ko hKo => ?_
    go_simp
    try go_bits
    refine hKo _ _ fun fa21 fh21 => ?_
    clear hKo Ko fh20 fa20
    refine wpList_nil ?_
    refine hK5 _ _ ?_
    clear hK5 K5
    replace fh21 := fh21.cut (.cons (t := 26) rfl (.cons (t := 8) rfl (.cons (t := 7) rfl (.cons (t := 6) rfl (.cons (t := 5) rfl (.cons (t := 4) rfl (.cons (t := 3) rfl (.cons (t := 2) rfl .nil))))))))
    refine Kn.yes fh21 (.tmp rfl) ?_
    replace fh21 := fh21.cut (.cons (t := 8) rfl (.cons (t := 7) rfl (.cons (t := 6) rfl (.cons (t := 5) rfl (.cons (t := 4) rfl (.cons (t := 3) rfl (.cons (t := 2) rfl .nil)))))))
    have hf := Edg.fault_any 0 4 w2
    unfold Edg.faultV at hf
    refine wp_seq_k fun K6 hK6 => ?_
    refine wp_region_lit ?_
    refine Kn.call fh21 rfl rfl .none (Kn.ex_call fh21 (.cons .const (.cons .const .nil))) Tryz.call17 (hf) fun e w3 hp => ?_
    obtain ⟨rfl, rfl⟩ := hp
    refine ⟨_, rfl, fun fa22 fh22 => ?_⟩
    clear fh21 fa21
    refine Kn.pure fh22 rfl rfl .none (Kn.ex_assign fh22 .const) fun fa23 fh23 => ?_
    clear fh22 fa22
    refine Kn.pure fh23 rfl rfl .none (Kn.ex_assign fh23 .const) fun fa24 fh24 => ?_
    clear fh23 fa23
    refine Kn.pure fh24 rfl rfl .none (Kn.ex_assign fh24 (.tmp rfl)) fun fa25 fh25 => ?_
    clear fh24 fa24
    refine wpList_nil ?_
    refine hK6 _ _ ?_
    clear hK6 K6
    replace fh25 := fh25.cut (.cons (t := 4) rfl (.cons (t := 3) rfl (.cons (t := 2) rfl (.cons (t := 8) rfl (.cons (t := 7) rfl (.cons (t := 6) rfl (.cons (t := 5) rfl .nil)))))))
    refine wp_ret ?_
    refine Kn.then_ret ?_
    exact Kn.ret3 fh25 rfl rfl rfl rfl ⟨HB2.out, .inl ⟨0, HR.out, rfl⟩⟩
  have HR : Hid (ToldYet 1 (numV p) [] (left f q) (parseW (wr s.data.toList))) := Lib.hid (by rw [HW.out]; exact ToldYet.start (by rw [numOf_of, h1]; rfl))
  rw [h1] at fh19
  clear h1 HW
  generalize parseW (wr s.data.toList) = R at HR
  generalize numV p = n at HR fh19
  generalize s.size = L at hq0 hq1 hs
  clear HL
  refine wp_seq_k fun K4 hK4 => ?_
  refine wp_seq_k fun K5 hK5 => ?_
  refine wp_region_lit ?_
  refine Kn.pure fh19 rfl rfl .none (Kn.ex_move fh19 (.tmp rfl)) fun fa20 fh20 => ?_
  clear fh19 fa19
  refine Kn.step fh20 rfl rfl .none (Kn.ex_un fh20 (.tmp rfl)) fun Ko hKo => ?_
  go_simp
  try go_bits
  refine hKo _ _ fun fa21 fh21 => ?_
  clear hKo Ko fh20 fa20
  refine wpList_nil ?_
  refine hK5 _ _ ?_
  clear hK5 K5
  replace fh21 := fh21.cut (.cons (t := 26) rfl (.cons (t := 8) rfl (.cons (t := 7) rfl (.cons (t := 6) rfl (.cons (t := 5) rfl (.cons (t := 4) rfl (.cons (t := 3) rfl (.cons (t := 2) rfl .nil))))))))
  refine Kn.no fh21 (.tmp rfl) ?_
  refine wp_skip ?_
  refine hK4 _ _ ?_
  clear hK4 K4
  replace fh21 := fh21.cut (.cons (t := 8) rfl (.cons (t := 7) rfl (.cons (t := 6) rfl (.cons (t := 5) rfl (.cons (t := 4) rfl (.cons (t := 3) rfl (.cons (t := 2) rfl .nil)))))))
  refine wp_seq_k fun K6 hK6 => ?_
  refine wp_region_lit ?_
  refine Kn.pure fh21 rfl rfl .none (Kn.ex_assign fh21 .const) fun fa22 fh22 => ?_
  clear fh21 fa21
  refine wpList_nil ?_
  refine hK6 _ _ ?_
  clear hK6 K6
  refine wp_seq_k fun K7 hK7 => ?_
  refine wp_seq_k fun K8 hK8 => ?_
  refine wp_region_lit ?_
  refine Kn.pure fh22 rfl rfl .none (Kn.ex_assign fh22 .const) fun fa23 fh23 => ?_
  clear fh22 fa22
  refine wpList_nil ?_
  refine hK8 _ _ ?_
  clear hK8 K8
  refine wp_block ?_
  refine Kn.loop (fun m fr u => ∃ (k nl cl : Nat) (f : Bool) (r : List UInt8) (A : Option Addr) (es : List (Int × Int)), Kn.Kn 52 [(7, .bool f), (6, .string (sbl r)), (11, .int .i64 (k : Int)), (10, .slice A nl cl), (8, .int .i64 n)] fr ∧ more f r ≤ m ∧ more f r + k ≤ L + 1 ∧ r.length ≤ L ∧ 1 ≤ k ∧ es.length < k ∧ Hid (ToldYet k n es (left f r) R) ∧ Hid (Edg.OwnE u w.heap.size A nl cl es) ∧ Hid (Below w.heap.size w u)) (more f q) ⟨1, 0, 0, f, q, none, [], fh23.cut (.cons (t := 7) rfl (.cons (t := 6) rfl (.cons (t := 11) rfl (.cons (t := 10) rfl (.cons (t := 8) rfl .nil))))), Nat.le_refl _, hq0, hq1, Nat.le_refl _, by decide, HR, Lib.hid (Edg.OwnE.none _ _), HB2⟩ ?_
  clear fh23 fa23
  intro m9 fa24 u hI Kl9 hKl9
  obtain ⟨k, nl, cl, f, r, A, es, fh24, hm, hmk, hrl, hk1, hek, HR, HO, HB⟩ := hI
  clear HB2 hq0 hq1
  cases f
  · have HE : Hid (R = .inr (n, es)) := Lib.hid (HR.out.done)
    have hnl := HO.out.1
    subst hnl
    refine wp_seq_k fun K10 hK10 => ?_
    refine wp_seq_k fun K11 hK11 => ?_
    refine wp_region_lit ?_
    refine Kn.pure fh24 rfl rfl .none (Kn.ex_move fh24 (.tmp rfl)) fun fa25 fh25 => ?_
    clear fh24 fa24
    refine wpList_nil ?_
    refine hK11 _ _ ?_
    clear hK11 K11
    refine Kn.no fh25 (.tmp rfl) ?_
    replace fh25 := fh25.cut (.cons (t := 7) rfl (.cons (t := 6) rfl (.cons (t := 11) rfl (.cons (t := 10) rfl (.cons (t := 8) rfl .nil)))))
    refine wp_exit ?_
    refine Kn.then_exit ?_
    clear hK10 K10
    refine Kn.then_exit ?_
    clear hKl9 Kl9
    refine Kn.block_exit ?_
    refine hK7 _ _ ?_
    clear hK7 K7
    replace fh25 := fh25.cut (.cons (t := 10) rfl (.cons (t := 8) rfl .nil))
    refine wp_seq_k fun K12 hK12 => ?_
    refine wp_region_lit ?_
    refine Kn.pure fh25 rfl rfl .none (Kn.ex_move fh25 (.tmp rfl)) fun fa26 fh26 => ?_
    clear fh25 fa25
    refine Kn.pure fh26 rfl rfl .none (Kn.ex_move fh26 (.tmp rfl)) fun fa27 fh27 => ?_
    clear fh26 fa26
    refine Kn.pure fh27 rfl rfl .none (Kn.ex_assign fh27 (.tmp rfl)) fun fa28 fh28 => ?_
    clear fh27 fa27
    refine Kn.pure fh28 rfl rfl .none (Kn.ex_assign fh28 (.tmp rfl)) fun fa29 fh29 => ?_
    clear fh28 fa28
    refine Kn.pure fh29 rfl rfl .none (Kn.ex_assign fh29 .const) fun fa30 fh30 => ?_
    clear fh29 fa29
    refine wpList_nil ?_
    refine hK12 _ _ ?_
    clear hK12 K12
    replace fh30 := fh30.cut (.cons (t := 4) rfl (.cons (t := 3) rfl (.cons (t := 2) rfl .nil)))
    refine wp_ret ?_
    exact Kn.ret3 fh30 rfl rfl rfl rfl ⟨HB.out, .inr ⟨n, es, A, cl, HE.out, rfl, HO.out.ein⟩⟩
  refine wp_seq_k fun K10 hK10 => ?_
  refine wp_seq_k fun K11 hK11 => ?_
  refine wp_region_lit ?_
  refine Kn.pure fh24 rfl rfl .none (Kn.ex_move fh24 (.tmp rfl)) fun fa25 fh25 => ?_
  clear fh24 fa24
  refine wpList_nil ?_
  refine hK11 _ _ ?_
  clear hK11 K11
  refine Kn.yes fh25 (.tmp rfl) ?_
  refine wp_skip ?_
  refine hK10 _ _ ?_
  clear hK10 K10
  replace fh25 := fh25.cut (.cons (t := 7) rfl (.cons (t := 6) rfl (.cons (t := 11) rfl (.cons (t := 10) rfl (.cons (t := 8) rfl .nil)))))
  refine wp_seq_k fun K12 hK12 => ?_
  refine wp_block ?_
  rcases hc : cutC 32 r with ⟨p2, q2, f2⟩
  have hcut := cut_any (sbl r) 32 u (HV0.out.on HB.out) (by rw [sbl_size]; omega)
  rw [show (sbl r).data.toList = r from rfl, hc] at hcut
  have hl := cutC_len 32 r
  rw [hc] at hl
  have hm2 := more_lt hc
  have hp2 : p2.length ≤ L := Nat.le_trans hl.1 hrl
  have hq2 : q2.length ≤ L := Nat.le_trans hl.2.1 hrl
  have hmr : more true r = r.length + 1 := rfl
  have hk2 : k ≤ L + 1 := by omega
  have hk3 : more f2 q2 + (k + 1) ≤ L + 1 := by omega
  have hk4 : more f2 q2 < more true r := by omega
  have HR2 : Hid (ToldYet k n es (p2 :: left f2 q2) R) := Lib.hid (by rw [← left_cut hc]; exact HR.out)
  clear hc hl HR hm2 hmr
  refine wp_seq_k fun K13 hK13 => ?_
  refine wp_region_lit ?_
  refine Kn.pure fh25 rfl rfl .none (Kn.ex_move fh25 (.tmp rfl)) fun fa26 fh26 => ?_
  clear fh25 fa25
  refine Kn.call fh26 rfl rfl .none (Kn.ex_call fh26 (.cons (.tmp rfl) (.cons .const .nil))) Tryz.call15 (hcut) fun e u1 hp => ?_
  obtain ⟨rfl, hb1⟩ := hp
  refine ⟨_, rfl, fun fa27 fh27 => ?_⟩
  clear fh26 fa26
  refine Kn.pure fh27 rfl rfl .none (Kn.ex_move fh27 (.tmp rfl)) fun fa28 fh28 => ?_
  clear fh27 fa27
  refine Kn.pure fh28 rfl rfl .none (Kn.ex_extract fh28 (.tmp rfl) rfl) fun fa29 fh29 => ?_
  clear fh28 fa28
  refine Kn.pure fh29 rfl rfl .none (Kn.ex_extract fh29 (.tmp rfl) rfl) fun fa30 fh30 => ?_
  clear fh29 fa29
  refine Kn.pure fh30 rfl rfl .none (Kn.ex_extract fh30 (.tmp rfl) rfl) fun fa31 fh31 => ?_
  clear fh30 fa30
  refine Kn.pure fh31 rfl rfl .none (Kn.ex_assign fh31 (.tmp rfl)) fun fa32 fh32 => ?_
  clear fh31 fa31
  refine Kn.pure fh32 rfl rfl .none (Kn.ex_assign fh32 (.tmp rfl)) fun fa33 fh33 => ?_
  clear fh32 fa32
  refine Kn.pure fh33 rfl rfl .none (Kn.ex_assign fh33 (.tmp rfl)) fun fa34 fh34 => ?_
  clear fh33 fa33
  refine wpList_nil ?_
  refine hK13 _ _ ?_
  clear hK13 K13
  replace fh34 := fh34.cut (.cons (t := 7) rfl (.cons (t := 6) rfl (.cons (t := 5) rfl (.cons (t := 11) rfl (.cons (t := 10) rfl (.cons (t := 8) rfl .nil))))))
  have HO1 := Lib.hid (HO.out.on hb1)
  have HB1 := Lib.hid (HB.out.trans (hb1.mono HB.out.size))
  have he := edge_p (sbl p2) u1 (HV0.out.on HB1.out) (by rw [sbl_size]; omega)
  rw [show (sbl p2).data.toList = p2 from rfl] at he
  have hed := edgeOf_of (l := p2)
  rcases hE : edV p2 with ⟨x1, x2⟩
  rw [hE] at he hed
  clear hcut hb1 hE HO HB
  rcases hB : edB p2
  · rw [hB] at he hed
    have HD := Lib.hid hed
    clear hB hed
    refine wp_seq_k fun K14 hK14 => ?_
    refine wp_region_lit ?_
    refine Kn.pure fh34 rfl rfl .none (Kn.ex_move fh34 (.tmp rfl)) fun fa35 fh35 => ?_
    clear fh34 fa34
    refine Kn.call fh35 rfl rfl .none (Kn.ex_call fh35 (.cons (.tmp rfl) .nil)) Tryz.call18 (he) fun e u2 hp => ?_
    obtain ⟨rfl, hb2⟩ := hp
    refine ⟨_, rfl, fun fa36 fh36 => ?_⟩
    clear fh35 fa35
    have HO2 := Lib.hid (HO1.out.on hb2)
    have HB2 := Lib.hid (HB1.out.trans (hb2.mono HB1.out.size))
    clear hb2 HO1 HB1
    refine Kn.pure fh36 rfl rfl .none (Kn.ex_move fh36 (.tmp rfl)) fun fa37 fh37 => ?_
    clear fh36 fa36
    refine Kn.pure fh37 rfl rfl .none (Kn.ex_extract fh37 (.tmp rfl) rfl) fun fa38 fh38 => ?_
    clear fh37 fa37
    refine Kn.pure fh38 rfl rfl .none (Kn.ex_extract fh38 (.tmp rfl) rfl) fun fa39 fh39 => ?_
    clear fh38 fa38
    refine Kn.step fh39 rfl rfl .none Kn.ex_alloc fun Ko hKo => ?_
    go_simp
    try go_bits
    refine hKo _ _ fun fa40 fh40 => ?_
    clear hKo Ko fh39 fa39
    refine Kn.stepU fh40 rfl .none (Kn.ex_store fh40 (.tmp rfl) (.tmp rfl)) fun Ko hKo => ?_
    go_simp
    try go_bits
    refine hKo _ ?_
    clear hKo Ko
    refine Kn.pure fh40 rfl rfl .none (Kn.ex_assign fh40 (.tmp rfl)) fun fa41 fh41 => ?_
    clear fh40 fa40
    refine wpList_nil ?_
    refine hK14 _ _ ?_
    clear hK14 K14
    replace fh41 := fh41.cut (.cons (t := 13) rfl (.cons (t := 12) rfl (.cons (t := 7) rfl (.cons (t := 6) rfl (.cons (t := 11) rfl (.cons (t := 10) rfl (.cons (t := 8) rfl .nil)))))))
    refine wp_seq_k fun K15 hK15 => ?_
    refine wp_seq_k fun K16 hK16 => ?_
    refine wp_region_lit ?_
    refine Kn.pure fh41 rfl rfl .none (Kn.ex_move fh41 (.tmp rfl)) fun fa42 fh42 => ?_
    clear fh41 fa41
    refine Kn.step fh42 rfl rfl .none (Kn.ex_un fh42 (.tmp rfl)) fun Ko hKo => ?_
    go_simp
    try go_bits
    refine hKo _ _ fun fa43 fh43 => ?_
    clear hKo Ko fh42 fa42
    refine wpList_nil ?_
    refine hK16 _ _ ?_
    clear hK16 K16
    replace fh43 := fh43.cut (.cons (t := 43) rfl (.cons (t := 12) rfl (.cons (t := 7) rfl (.cons (t := 6) rfl (.cons (t := 11) rfl (.cons (t := 10) rfl (.cons (t := 8) rfl .nil)))))))
    refine Kn.yes fh43 (.tmp rfl) ?_
    replace fh43 := fh43.cut (.cons (t := 12) rfl (.cons (t := 7) rfl (.cons (t := 6) rfl (.cons (t := 11) rfl (.cons (t := 10) rfl (.cons (t := 8) rfl .nil))))))
    have HE : Hid (R = .inl k) := Lib.hid (HR2.out.bad HD.out)
    have hf := Edg.fault_any (k : Int) 4 (u2.alloc (.cells #[.int .i64 x1, .int .i64 x2] 26))
    unfold Edg.faultV at hf
    clear he
    refine wp_seq_k fun K17 hK17 => ?_
    refine wp_region_lit ?_
    refine Kn.pure fh43 rfl rfl .none (Kn.ex_move fh43 (.tmp rfl)) fun fa44 fh44 => ?_
    clear fh43 fa43
    refine Kn.call fh44 rfl rfl .none (Kn.ex_call fh44 (.cons (.tmp rfl) (.cons .const .nil))) Tryz.call17 (hf) fun e u3 hp => ?_
    obtain ⟨rfl, rfl⟩ := hp
    refine ⟨_, rfl, fun fa45 fh45 => ?_⟩
    clear fh44 fa44
    refine Kn.pure fh45 rfl rfl .none (Kn.ex_assign fh45 .const) fun fa46 fh46 => ?_
    clear fh45 fa45
    refine Kn.pure fh46 rfl rfl .none (Kn.ex_assign fh46 .const) fun fa47 fh47 => ?_
    clear fh46 fa46
    refine Kn.pure fh47 rfl rfl .none (Kn.ex_assign fh47 (.tmp rfl)) fun fa48 fh48 => ?_
    clear fh47 fa47
    refine wpList_nil ?_
    refine hK17 _ _ ?_
    clear hK17 K17
    replace fh48 := fh48.cut (.cons (t := 4) rfl (.cons (t := 3) rfl (.cons (t := 2) rfl (.cons (t := 12) rfl (.cons (t := 7) rfl (.cons (t := 6) rfl (.cons (t := 11) rfl (.cons (t := 10) rfl (.cons (t := 8) rfl .nil)))))))))
    refine wp_ret ?_
    refine Kn.then_ret ?_
    refine Kn.block_ret ?_
    refine Kn.then_ret ?_
    refine Kn.then_ret ?_
    refine Kn.block_ret ?_
    refine Kn.then_ret ?_
    exact Kn.ret3 fh48 rfl rfl rfl rfl ⟨HB2.out.alloc HB2.out.size _, .inl ⟨k, HE.out, rfl⟩⟩
  · rw [hB] at he hed
    have HD := Lib.hid hed
    clear hB hed
    refine wp_seq_k fun K14 hK14 => ?_
    refine wp_region_lit ?_
    refine Kn.pure fh34 rfl rfl .none (Kn.ex_move fh34 (.tmp rfl)) fun fa35 fh35 => ?_
    clear fh34 fa34
    refine Kn.call fh35 rfl rfl .none (Kn.ex_call fh35 (.cons (.tmp rfl) .nil)) Tryz.call18 (he) fun e u2 hp => ?_
    obtain ⟨rfl, hb2⟩ := hp
    refine ⟨_, rfl, fun fa36 fh36 => ?_⟩
    clear fh35 fa35
    have HO2 := Lib.hid (HO1.out.on hb2)
    have HB2 := Lib.hid (HB1.out.trans (hb2.mono HB1.out.size))
    clear hb2 HO1 HB1
    refine Kn.pure fh36 rfl rfl .none (Kn.ex_move fh36 (.tmp rfl)) fun fa37 fh37 => ?_
    clear fh36 fa36
    refine Kn.pure fh37 rfl rfl .none (Kn.ex_extract fh37 (.tmp rfl) rfl) fun fa38 fh38 => ?_
    clear fh37 fa37
    refine Kn.pure fh38 rfl rfl .none (Kn.ex_extract fh38 (.tmp rfl) rfl) fun fa39 fh39 => ?_
    clear fh38 fa38
    refine Kn.step fh39 rfl rfl .none Kn.ex_alloc fun Ko hKo => ?_
    go_simp
    try go_bits
    refine hKo _ _ fun fa40 fh40 => ?_
    clear hKo Ko fh39 fa39
    refine Kn.stepU fh40 rfl .none (Kn.ex_store fh40 (.tmp rfl) (.tmp rfl)) fun Ko hKo => ?_
    go_simp
    try go_bits
    refine hKo _ ?_
    clear hKo Ko
    refine Kn.pure fh40 rfl rfl .none (Kn.ex_assign fh40 (.tmp rfl)) fun fa41 fh41 => ?_
    clear fh40 fa40
    refine wpList_nil ?_
    refine hK14 _ _ ?_
    clear hK14 K14
    replace fh41 := fh41.cut (.cons (t := 13) rfl (.cons (t := 12) rfl (.cons (t := 7) rfl (.cons (t := 6) rfl (.cons (t := 11) rfl (.cons (t := 10) rfl (.cons (t := 8) rfl .nil)))))))
    refine wp_seq_k fun K15 hK15 => ?_
    refine wp_seq_k fun K16 hK16 => ?_
    refine wp_region_lit ?_
    refine Kn.pure fh41 rfl rfl .none (Kn.ex_move fh41 (.tmp rfl)) fun fa42 fh42 => ?_
    clear fh41 fa41
    refine Kn.step fh42 rfl rfl .none (Kn.ex_un fh42 (.tmp rfl)) fun Ko hKo => ?_
    go_simp
    try go_bits
    refine hKo _ _ fun fa43 fh43 => ?_
    clear hKo Ko fh42 fa42
    refine wpList_nil ?_
    refine hK16 _ _ ?_
    clear hK16 K16
    replace fh43 := fh43.cut (.cons (t := 43) rfl (.cons (t := 12) rfl (.cons (t := 7) rfl (.cons (t := 6) rfl (.cons (t := 11) rfl (.cons (t := 10) rfl (.cons (t := 8) rfl .nil)))))))
    refine Kn.no fh43 (.tmp rfl) ?_
    refine wp_skip ?_
    refine hK15 _ _ ?_
    clear hK15 K15
    replace fh43 := fh43.cut (.cons (t := 12) rfl (.cons (t := 7) rfl (.cons (t := 6) rfl (.cons (t := 11) rfl (.cons (t := 10) rfl (.cons (t := 8) rfl .nil))))))
    have HR3 : Hid (ToldYet (k + 1) n (es ++ [(x1, x2)]) (left f2 q2) R) := Lib.hid (HR2.out.next HD.out)
    refine Kn.gen (fun v => (v.cell? ⟨u2.heap.size, 0, none⟩ = some (.int .i64 x1) ∧ v.cell? ⟨u2.heap.size, 1, none⟩ = some (.int .i64 x2)) ∧ Below u2.heap.size u2 v) ⟨(hold_new u2 x1 x2 0 (by simp)).1, (Below.refl _ u2).alloc (Nat.le_refl _) _⟩ fun v hvv => ?_
    obtain ⟨⟨v1, v2⟩, hbv⟩ := hvv
    have HO4 := Lib.hid (HO2.out.on hbv)
    have HB4 := Lib.hid (HB2.out.trans (hbv.mono HB2.out.size))
    clear hbv HO2 HB2
    obtain ⟨g', c', u3, hrun, hown, hbel, hkep⟩ := Edg.push1 w v 22 A nl cl es (x1, x2) HO4.out HB4.out (by have := HO4.out.1; omega)
    have HO3 := Lib.hid hown
    have HB3 := Lib.hid hbel
    clear hown hbel he hkep
    refine wp_region_lit ?_
    refine Kn.pure fh43 rfl rfl .none (Kn.ex_move fh43 (.tmp rfl)) fun fa44 fh44 => ?_
    clear fh43 fa43
    refine Kn.step fh44 rfl rfl .none (Kn.ex_load fh44 (.tmp rfl)) fun Ko hKo => ?_
    go_simp
    try go_bits
    refine hKo _ _ fun fa45 fh45 => ?_
    clear hKo Ko fh44 fa44
    refine Kn.step fh45 rfl rfl .none (Kn.ex_buildSlice fh45 (.cons (.tmp rfl) .nil)) fun Ko hKo => ?_
    go_simp
    try go_bits
    refine hKo _ _ fun fa46 fh46 => ?_
    clear hKo Ko fh45 fa45
    refine Kn.known fh46 rfl rfl .none (Kn.ex_append fh46 (.cons (.tmp rfl) (.cons (.tmp rfl) .nil))) hrun fun fa47 fh47 => ?_
    clear fh46 fa46
    clear hrun
    refine Kn.pure fh47 rfl rfl .none (Kn.ex_assign fh47 (.tmp rfl)) fun fa48 fh48 => ?_
    clear fh47 fa47
    refine wpList_nil ?_
    refine Kn.block_normal ?_
    refine hK12 _ _ ?_
    clear hK12 K12
    replace fh48 := fh48.cut (.cons (t := 10) rfl (.cons (t := 7) rfl (.cons (t := 6) rfl (.cons (t := 11) rfl (.cons (t := 8) rfl .nil)))))
    refine wp_region_lit ?_
    refine Kn.pure fh48 rfl rfl .none (Kn.ex_move fh48 (.tmp rfl)) fun fa49 fh49 => ?_
    clear fh48 fa48
    refine Kn.step fh49 rfl rfl .none (Kn.ex_bin fh49 (.tmp rfl) .const) fun Ko hKo => ?_
    go_simp
    try go_bits
    refine hKo _ _ fun fa50 fh50 => ?_
    clear hKo Ko fh49 fa49
    refine Kn.pure fh50 rfl rfl .none (Kn.ex_assign fh50 (.tmp rfl)) fun fa51 fh51 => ?_
    clear fh50 fa50
    refine wpList_nil ?_
    replace fh51 := fh51.cut (.cons (t := 11) rfl (.cons (t := 10) rfl (.cons (t := 7) rfl (.cons (t := 6) rfl (.cons (t := 8) rfl .nil)))))
    exact hKl9 (more f2 q2) _ _ (by omega) ⟨k + 1, nl + 1, c', f2, q2, _, _, fh51.cut (.cons (t := 7) rfl (.cons (t := 6) rfl (.turn (t := 11) rfl (by go_num) (.cons (t := 10) rfl (.cons (t := 8) rfl .nil))))), Nat.le_refl _, hk3, hq2, by omega, by rw [List.length_append, List.length_singleton]; omega, HR3, HO3, HB3⟩

end Go.Proofs.YtnmpcendimdoeaaGreatDoor.Txt
