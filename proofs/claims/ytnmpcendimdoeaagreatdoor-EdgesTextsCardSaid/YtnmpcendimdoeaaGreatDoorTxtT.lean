/- Contracts of the program's edges: Text (written by gen_txtt.py). -/
import Derived.Test.YtnmpcendimdoeaaGreatDoorTxtN
import Derived.Test.YtnmpcendimdoeaaGreatDoorRef04D
import Derived.Shelf.Strconv.AppendIntPublic10
import Derived.Lib.AppendStr
import Derived.Lib.SliceRun
namespace Go.Proofs.YtnmpcendimdoeaaGreatDoor.Txt
open Go Go.RowKit Go.Lib Go.Proofs.YtnmpcendimdoeaaGreatDoor.Dig Go.Joins Go.Shelf

/-- Bytes in a row of the call's own. -/
def OwnB (w : World) (B : Nat) (v : Value) (l : List UInt8) : Prop := w.ownsRow B 5 1 v l.length (Lib.byteCells l)
theorem OwnB.nil (w : World) (B : Nat) : OwnB w B (.slice none 0 0) [] := World.ownsRow_nil _ _ _ _
theorem OwnB.on {w w' : World} {B : Nat} {v : Value} {l : List UInt8} (h : OwnB w B v l) (hb : Below w.heap.size w w') : OwnB w' B v l := Own.row_on h hb
theorem cells_app (a b : List UInt8) : Lib.byteCells (a ++ b) = Lib.byteCells a ++ Lib.byteCells b := by simp [Lib.byteCells]
theorem appInt (w0 w : World) (v : Value) (l : List UInt8) (i : Int) (hv : Vars w0) (hb : Below w0.heap.size w0 w) (hO : OwnB w w0.heap.size v l) (h0 : -9223372036854775808 ≤ i) (h1 : i ≤ 9223372036854775807) (hl : l.length ≤ 100000) :
    Calls Tryz.prog 14 #[v, .int .i64 i, .int .i64 10] w fun e w' => ∃ v', e = .returned v' ∧ OwnB w' w0.heap.size v' (l ++ dgI i) ∧ Below w0.heap.size w0 w' ∧ Lib.OthersKept 5 none w w' := by
  refine (Any.strconv_AppendInt_10 Tryz.layAppendInt w0.heap.size l.length i h0 h1 v (Lib.byteCells l) w hO hb.size (by omega) (fun w' hb' => tab_stays gT hv.tab (hb.trans hb') (Nat.le_refl _))).mono fun e w' hp => ?_
  obtain ⟨v', he, ho, hbb, hk⟩ := hp
  refine ⟨v', he, ?_, hb.trans hbb, hk⟩
  unfold OwnB
  rw [List.length_append, cells_app, ← itoa_dg]
  exact ho
noncomputable def uI : TypeInfo := (Tryz.prog.info? 5).get (by kernel_rfl)
theorem appStr (w0 w : World) (v : Value) (l : List UInt8) (c : UInt8) (ty : TypeId) (hb : Below w0.heap.size w0 w) (hO : OwnB w w0.heap.size v l) (hl : l.length ≤ 100000) :
    ∃ v' w', (Builtin.append_ #[39, 9] ty #[v, .string ⟨#[c]⟩]).run Tryz.prog w = .ok v' w' ∧ OwnB w' w0.heap.size v' (l ++ [c]) ∧ Below w0.heap.size w0 w' ∧ Lib.OthersKept 5 none w w' := by
  obtain ⟨v', w', hr, ho, hg, _⟩ := Lib.run_append_own_string (P := Tryz.prog) (w := w) w0.heap.size 39 9 ty 5 uI Tryz.underlying39 Tryz.underlying9 (by kernel_rfl) (by kernel_rfl) (by kernel_rfl) (by kernel_rfl) v l.length (Lib.byteCells l) hO ⟨#[c]⟩ (by show l.length + 1 ≤ _; unfold maxLen; omega) (by show l.length + 1 ≤ _; omega) hb.size
  have hrow : ∀ g, v.ownBlock = some g → w0.heap.size ≤ g ∧ ∃ cs fz, w.heap[g]? = some (.cells cs 5 fz) := fun g hgv => by
    refine ⟨(hO.lt g hgv).1, ?_⟩
    rcases hO.2 with ⟨he, _⟩ | ⟨g2, cap, cur, he, _, hc, _⟩
    · rw [he] at hgv; cases hgv
    · rw [he] at hgv
      simp [Value.ownBlock] at hgv
      subst hgv
      exact ⟨_, _, hc⟩
  refine ⟨v', w', hr, ?_, hb.grown hg hb.size (fun k hk => (hrow k hk).1), (Lib.OthersKept.refl _ _ _).grown hg (fun g hgv => (hrow g hgv).2)⟩
  unfold OwnB
  rw [List.length_append, cells_app]
  exact ho
theorem OwnB.text {w : World} {B : Nat} {v : Value} {l : List UInt8} (h : OwnB w B v l) (hl : 0 < l.length) : (convert 39 9 v).run Tryz.prog w = .ok (.string (sbl l)) w := by
  obtain ⟨g, c, rfl, _⟩ := World.ownsRow.form h hl
  have hc := World.ownsRow.cells h (g := g) rfl
  exact run_convert_bytes_back (P := Tryz.prog) w 39 9 5 ⟨g, 0, none⟩ c l Tryz.underlying39 Tryz.underlying5 Tryz.underlying9 (fun j hj => hc j _ (by simp [Lib.byteCells, List.getElem?_eq_getElem hj]))
/-- A block that holds an edge. -/
def EdgeAt (w : World) (g : Nat) (a b : Int) : Prop := ∃ fz, w.heap[g]? = some (.cells #[.int .i64 a, .int .i64 b] 26 fz)
theorem EdgeAt.kept {w w' : World} {g : Nat} {a b : Int} (h : EdgeAt w g a b) (hk : Lib.OthersKept 5 none w w') : EdgeAt w' g a b := by
  obtain ⟨fz, h⟩ := h
  exact ⟨fz, hk g _ h (by simp) (fun c fz e => by injection e with _ e2; exact absurd e2 (by decide))⟩
theorem EdgeAt.cells {w : World} {g : Nat} {a b : Int} (h : EdgeAt w g a b) : w.cell? ⟨g, 0, none⟩ = some (.int .i64 a) ∧ w.cell? ⟨g, 1, none⟩ = some (.int .i64 b) := by
  obtain ⟨fz, h⟩ := h
  exact ⟨by simp only [World.cell?, h]; rfl, by simp only [World.cell?, h]; rfl⟩
theorem EdgeAt.new (w : World) (a b : Int) : EdgeAt (w.alloc (.cells #[.int .i64 a, .int .i64 b] 26)) w.heap.size a b := ⟨_, heap_alloc_new w _⟩
theorem txt_len (n : Int) (xs : List (Int × Int)) (hn : n.natAbs ≤ 10000000000000000000) (hx : ∀ e ∈ xs, e.1.natAbs ≤ 10000000000000000000 ∧ e.2.natAbs ≤ 10000000000000000000) : (Edg.txt n xs).length ≤ 21 + 44 * xs.length := by
  unfold Edg.txt
  rw [List.length_append]
  have h0 := dgI_len n hn
  have : ∀ ys : List (Int × Int), (∀ e ∈ ys, e.1.natAbs ≤ 10000000000000000000 ∧ e.2.natAbs ≤ 10000000000000000000) → (ys.flatMap fun e => [32] ++ dgI e.1 ++ [62] ++ dgI e.2).length ≤ 44 * ys.length := by
    intro ys
    induction ys with
    | nil => intro _; simp
    | cons e ys ih =>
      intro h
      have h1 := dgI_len e.1 (h e List.mem_cons_self).1
      have h2 := dgI_len e.2 (h e List.mem_cons_self).2
      have h3 := ih (fun e he => h e (List.mem_cons_of_mem _ he))
      rw [List.flatMap_cons]
      simp only [List.length_append, List.length_cons, List.length_nil] at *
      omega
  have := this xs hx
  omega
theorem txt_pos (n : Int) (xs : List (Int × Int)) : 0 < (Edg.txt n xs).length := by
  unfold Edg.txt
  rw [List.length_append]
  have : 0 < (dgI n).length := by
    unfold dgI
    split
    · simp
    · exact digN_pos _
  omega

set_option maxRecDepth 100000 in
set_option maxHeartbeats 2000000 in
theorem text_p (n : Int) (A : Option Addr) (ca : Nat) (xs : List (Int × Int)) (w : World) (hv : Vars w) (h0 : -9223372036854775808 ≤ n) (h1 : n ≤ 9223372036854775807) (hl : xs.length ≤ 300) (hA : Edg.EIn w A xs) (hBd : ∀ i, i < xs.length → (-9223372036854775808 ≤ (Edg.ed xs i).1 ∧ (Edg.ed xs i).1 ≤ 9223372036854775807) ∧ (-9223372036854775808 ≤ (Edg.ed xs i).2 ∧ (Edg.ed xs i).2 ≤ 9223372036854775807)) :
    Calls Tryz.prog 6 #[.int .i64 n, .slice A xs.length ca] w fun e w' => e = .returned (.string (sbl (Edg.txt n xs))) ∧ Below w.heap.size w w' := by
  refine Kn.calls Tryz.func6 rfl Tryz.ntmps6 rfl (.cons (t := 0) rfl (.cons (t := 1) rfl .nil)) fun fa0 fh0 => ?_
  refine wp_seq_k fun K1 hK1 => ?_
  refine wp_region_lit ?_
  refine Kn.pure fh0 rfl rfl .none (Kn.ex_assign fh0 .const) fun fa1 fh1 => ?_
  clear fh0 fa0
  refine wpList_nil ?_
  refine hK1 _ _ ?_
  clear hK1 K1
  refine wp_seq_k fun K2 hK2 => ?_
  refine wp_region_lit ?_
  refine Kn.pure fh1 rfl rfl .none (Kn.ex_move fh1 (.tmp rfl)) fun fa2 fh2 => ?_
  clear fh1 fa1
  refine Kn.call fh2 rfl rfl .none (Kn.ex_call fh2 (.cons .const (.cons (.tmp rfl) (.cons .const .nil)))) Tryz.call14 (appInt w w (.slice none 0 0) [] n hv (Below.refl _ _) (OwnB.nil _ _) h0 h1 (by decide)) fun e w1 hp => ?_
  obtain ⟨bv0, rfl, hO1, hb1, -⟩ := hp
  refine ⟨_, rfl, fun fa3 fh3 => ?_⟩
  clear fh2 fa2
  refine Kn.pure fh3 rfl rfl .none (Kn.ex_assign fh3 (.tmp rfl)) fun fa4 fh4 => ?_
  clear fh3 fa3
  refine wpList_nil ?_
  refine hK2 _ _ ?_
  clear hK2 K2
  replace fh4 := fh4.cut (.cons (t := 5) rfl (.cons (t := 4) rfl (.cons (t := 1) rfl .nil)))
  have HO1 : Hid (OwnB w1 w.heap.size bv0 (Edg.txt n (xs.take 0))) := Lib.hid (by rw [List.take_zero]; have := hO1; unfold Edg.txt; simpa using this)
  have HB1 := Lib.hid hb1
  have HV := Lib.hid hv
  have HA := Lib.hid hA
  have HBd := Lib.hid hBd
  have HLn : Hid (∀ k, (Edg.txt n (xs.take k)).length ≤ 21 + 44 * 300) := Lib.hid (fun k => by
    have h2 := txt_len n (xs.take k) (by omega) (fun e he => by
      obtain ⟨j, hj, rfl⟩ := List.mem_take_iff_getElem.1 he
      have := hBd j (by omega)
      rw [Edg.ed_at _ _ (by omega)] at this
      omega)
    rw [List.length_take] at h2
    omega)
  clear hO1 hb1 hv hA hBd h0 h1
  refine wp_seq_k fun K3 hK3 => ?_
  refine wp_seq_k fun K4 hK4 => ?_
  refine wp_region_lit ?_
  refine Kn.pure fh4 rfl rfl .none (Kn.ex_move fh4 (.tmp rfl)) fun fa5 fh5 => ?_
  clear fh4 fa4
  refine Kn.step fh5 rfl rfl .none (Kn.ex_len fh5 (.tmp rfl)) fun Ko hKo => ?_
  go_simp
  try go_bits
  refine hKo _ _ fun fa6 fh6 => ?_
  clear hKo Ko fh5 fa5
  refine Kn.pure fh6 rfl rfl .none (Kn.ex_move fh6 .const) fun fa7 fh7 => ?_
  clear fh6 fa6
  refine wpList_nil ?_
  refine hK4 _ _ ?_
  clear hK4 K4
  replace fh7 := fh7.cut (.cons (t := 12) rfl (.cons (t := 11) rfl (.cons (t := 10) rfl (.cons (t := 5) rfl (.cons (t := 4) rfl .nil)))))
  refine wp_block ?_
  refine Kn.loop (fun m fr u => ∃ (k : Nat) (bv : Value), Kn.Kn 31 [(12, .int .i64 (k : Int)), (5, bv), (10, .slice A xs.length ca), (11, .int .i64 (xs.length : Int))] fr ∧ k + m = xs.length ∧ Hid (OwnB u w.heap.size bv (Edg.txt n (xs.take k))) ∧ Hid (Below w.heap.size w u)) xs.length ⟨0, bv0, fh7.cut (.cons (t := 12) rfl (.cons (t := 5) rfl (.cons (t := 10) rfl (.cons (t := 11) rfl .nil)))), by omega, HO1, HB1⟩ ?_
  clear fh7 fa7
  intro m5 fa8 u hI Kl5 hKl5
  obtain ⟨k, bv, fh8, hk, HO, HB⟩ := hI
  clear HO1 HB1
  by_cases hlt : k < xs.length
  · obtain ⟨ba, oa, rfl, -, ca1, ca2⟩ := (HA.out.on HB.out) k hlt
    have hbd := HBd.out k hlt
    have HT : Hid (Edg.txt n (xs.take (k + 1)) = Edg.txt n (xs.take k) ++ ([32] ++ dgI (Edg.ed xs k).1 ++ [62] ++ dgI (Edg.ed xs k).2)) := Lib.hid (by rw [Edg.take_ed xs k hlt, Edg.txt_snoc])
    obtain ⟨x1, hx1⟩ : ∃ x, (Edg.ed xs k).1 = x := ⟨_, rfl⟩
    obtain ⟨x2, hx2⟩ : ∃ x, (Edg.ed xs k).2 = x := ⟨_, rfl⟩
    rw [hx1] at ca1 hbd HT
    rw [hx2] at ca2 hbd HT
    clear hx1 hx2
    have hln := HLn.out k
    generalize Edg.txt n (xs.take k) = l at HO HT hln
    refine wp_seq_k fun K6 hK6 => ?_
    refine wp_region_lit ?_
    refine Kn.step fh8 rfl rfl .none (Kn.ex_bin fh8 (.tmp rfl) (.tmp rfl)) fun Ko hKo => ?_
    go_simp
    try go_bits
    refine hKo _ _ fun fa9 fh9 => ?_
    clear hKo Ko fh8 fa8
    refine wpList_nil ?_
    refine hK6 _ _ ?_
    clear hK6 K6
    refine wp_seq_k fun K7 hK7 => ?_
    refine Kn.yes fh9 (.tmp rfl) ?_
    refine wp_skip ?_
    refine hK7 _ _ ?_
    clear hK7 K7
    replace fh9 := fh9.cut (.cons (t := 12) rfl (.cons (t := 5) rfl (.cons (t := 10) rfl (.cons (t := 11) rfl .nil))))
    refine wp_seq_k fun K8 hK8 => ?_
    refine wp_block ?_
    refine wp_seq_k fun K9 hK9 => ?_
    refine wp_region_lit ?_
    refine Kn.step fh9 rfl rfl .none (Kn.ex_indexAddr fh9 (.tmp rfl) (.tmp rfl)) fun Ko hKo => ?_
    go_simp
    try go_bits
    refine hKo _ _ fun fa10 fh10 => ?_
    clear hKo Ko fh9 fa9
    refine Kn.step fh10 rfl rfl .none (Kn.ex_load fh10 (.tmp rfl)) fun Ko hKo => ?_
    go_simp
    try go_bits
    refine hKo _ _ fun fa11 fh11 => ?_
    clear hKo Ko fh10 fa10
    refine Kn.step fh11 rfl rfl .none Kn.ex_alloc fun Ko hKo => ?_
    go_simp
    try go_bits
    refine hKo _ _ fun fa12 fh12 => ?_
    clear hKo Ko fh11 fa11
    refine Kn.stepU fh12 rfl .none (Kn.ex_store fh12 (.tmp rfl) (.tmp rfl)) fun Ko hKo => ?_
    go_simp
    try go_bits
    refine hKo _ ?_
    clear hKo Ko
    refine wpList_nil ?_
    refine hK9 _ _ ?_
    clear hK9 K9
    replace fh12 := fh12.cut (.cons (t := 7) rfl (.cons (t := 12) rfl (.cons (t := 5) rfl (.cons (t := 10) rfl (.cons (t := 11) rfl .nil)))))
    clear ca1 ca2
    refine Kn.gen (fun v => EdgeAt v u.heap.size x1 x2 ∧ Below u.heap.size u v) ⟨EdgeAt.new u x1 x2, (Below.refl _ u).alloc (Nat.le_refl _) _⟩ fun v0 hvv => ?_
    obtain ⟨hE0, hbv⟩ := hvv
    have HO0 := Lib.hid (HO.out.on hbv)
    have HB0 := Lib.hid (HB.out.trans (hbv.mono HB.out.size))
    generalize u.heap.size = gx at hE0 fh12
    clear hbv HO HB
    obtain ⟨b1, v1, hr1, hO1, hB1, hK1⟩ := appStr w v0 bv l 32 39 HB0.out HO0.out (by omega)
    have HE1 := Lib.hid (hE0.kept hK1)
    have hi1 := appInt w v1 b1 (l ++ [32]) x1 HV.out hB1 hO1 (by omega) (by omega) (by rw [List.length_append, List.length_singleton]; omega)
    clear hO1 hB1 hK1 hE0 HO0 HB0
    refine wp_seq_k fun K10 hK10 => ?_
    refine wp_region_lit ?_
    refine Kn.pure fh12 rfl rfl .none (Kn.ex_move fh12 (.tmp rfl)) fun fa13 fh13 => ?_
    clear fh12 fa12
    refine Kn.known fh13 rfl rfl .none (Kn.ex_append fh13 (.cons (.tmp rfl) (.cons .const .nil))) hr1 fun fa14 fh14 => ?_
    clear fh13 fa13
    clear hr1
    refine Kn.pure fh14 rfl rfl .none (Kn.ex_assign fh14 (.tmp rfl)) fun fa15 fh15 => ?_
    clear fh14 fa14
    refine wpList_nil ?_
    refine hK10 _ _ ?_
    clear hK10 K10
    replace fh15 := fh15.cut (.cons (t := 5) rfl (.cons (t := 7) rfl (.cons (t := 12) rfl (.cons (t := 10) rfl (.cons (t := 11) rfl .nil)))))
    obtain ⟨c1, c2⟩ := HE1.out.cells
    refine wp_seq_k fun K11 hK11 => ?_
    refine wp_region_lit ?_
    refine Kn.pure fh15 rfl rfl .none (Kn.ex_move fh15 (.tmp rfl)) fun fa16 fh16 => ?_
    clear fh15 fa15
    refine Kn.step fh16 rfl rfl .none (Kn.ex_fieldAddr fh16 (.tmp rfl)) fun Ko hKo => ?_
    go_simp
    try go_bits
    refine hKo _ _ fun fa17 fh17 => ?_
    clear hKo Ko fh16 fa16
    refine Kn.step fh17 rfl rfl .none (Kn.ex_load fh17 (.tmp rfl)) fun Ko hKo => ?_
    go_simp
    try go_bits
    refine hKo _ _ fun fa18 fh18 => ?_
    clear hKo Ko fh17 fa17
    refine Kn.call fh18 rfl rfl .none (Kn.ex_call fh18 (.cons (.tmp rfl) (.cons (.tmp rfl) (.cons .const .nil)))) Tryz.call14 (hi1) fun e v2 hp => ?_
    obtain ⟨b2, rfl, hO2, hB2, hK2⟩ := hp
    refine ⟨_, rfl, fun fa19 fh19 => ?_⟩
    clear fh18 fa18
    refine Kn.pure fh19 rfl rfl .none (Kn.ex_assign fh19 (.tmp rfl)) fun fa20 fh20 => ?_
    clear fh19 fa19
    refine wpList_nil ?_
    refine hK11 _ _ ?_
    clear hK11 K11
    replace fh20 := fh20.cut (.cons (t := 5) rfl (.cons (t := 7) rfl (.cons (t := 12) rfl (.cons (t := 10) rfl (.cons (t := 11) rfl .nil)))))
    have hd1 := dgI_len x1 (by omega)
    have HE2 := Lib.hid (HE1.out.kept hK2)
    obtain ⟨b3, v3, hr3, hO3, hB3, hK3⟩ := appStr w v2 b2 (l ++ [32] ++ dgI x1) 62 39 hB2 hO2 (by rw [List.length_append, List.length_append, List.length_singleton]; omega)
    have HE3 := Lib.hid (HE2.out.kept hK3)
    have hi3 := appInt w v3 b3 (l ++ [32] ++ dgI x1 ++ [62]) x2 HV.out hB3 hO3 (by omega) (by omega) (by rw [List.length_append, List.length_append, List.length_append, List.length_singleton, List.length_singleton]; omega)
    clear hO2 hB2 hK2 hO3 hB3 hK3 hi1 c1 c2 HE1 HE2 hd1
    refine wp_seq_k fun K12 hK12 => ?_
    refine wp_region_lit ?_
    refine Kn.pure fh20 rfl rfl .none (Kn.ex_move fh20 (.tmp rfl)) fun fa21 fh21 => ?_
    clear fh20 fa20
    refine Kn.known fh21 rfl rfl .none (Kn.ex_append fh21 (.cons (.tmp rfl) (.cons .const .nil))) hr3 fun fa22 fh22 => ?_
    clear fh21 fa21
    clear hr3
    refine Kn.pure fh22 rfl rfl .none (Kn.ex_assign fh22 (.tmp rfl)) fun fa23 fh23 => ?_
    clear fh22 fa22
    refine wpList_nil ?_
    refine hK12 _ _ ?_
    clear hK12 K12
    replace fh23 := fh23.cut (.cons (t := 5) rfl (.cons (t := 7) rfl (.cons (t := 12) rfl (.cons (t := 10) rfl (.cons (t := 11) rfl .nil)))))
    obtain ⟨c1, c2⟩ := HE3.out.cells
    refine wp_region_lit ?_
    refine Kn.pure fh23 rfl rfl .none (Kn.ex_move fh23 (.tmp rfl)) fun fa24 fh24 => ?_
    clear fh23 fa23
    refine Kn.step fh24 rfl rfl .none (Kn.ex_fieldAddr fh24 (.tmp rfl)) fun Ko hKo => ?_
    go_simp
    try go_bits
    refine hKo _ _ fun fa25 fh25 => ?_
    clear hKo Ko fh24 fa24
    refine Kn.step fh25 rfl rfl .none (Kn.ex_load fh25 (.tmp rfl)) fun Ko hKo => ?_
    go_simp
    try go_bits
    refine hKo _ _ fun fa26 fh26 => ?_
    clear hKo Ko fh25 fa25
    refine Kn.call fh26 rfl rfl .none (Kn.ex_call fh26 (.cons (.tmp rfl) (.cons (.tmp rfl) (.cons .const .nil)))) Tryz.call14 (hi3) fun e v4 hp => ?_
    obtain ⟨b4, rfl, hO4, hB4, -⟩ := hp
    refine ⟨_, rfl, fun fa27 fh27 => ?_⟩
    clear fh26 fa26
    refine Kn.pure fh27 rfl rfl .none (Kn.ex_assign fh27 (.tmp rfl)) fun fa28 fh28 => ?_
    clear fh27 fa27
    refine wpList_nil ?_
    refine Kn.block_normal ?_
    refine hK8 _ _ ?_
    clear hK8 K8
    replace fh28 := fh28.cut (.cons (t := 5) rfl (.cons (t := 12) rfl (.cons (t := 10) rfl (.cons (t := 11) rfl .nil))))
    have HO4 : Hid (OwnB v4 w.heap.size b4 (Edg.txt n (xs.take (k + 1)))) := Lib.hid (by
      rw [HT.out, show l ++ ([32] ++ dgI x1 ++ [62] ++ dgI x2) = l ++ [32] ++ dgI x1 ++ [62] ++ dgI x2 by simp]
      exact hO4)
    have HB4 := Lib.hid hB4
    clear hO4 hB4 hi3 c1 c2 HE3
    refine wp_region_lit ?_
    refine Kn.step fh28 rfl rfl .none (Kn.ex_bin fh28 (.tmp rfl) .const) fun Ko hKo => ?_
    go_simp
    try go_bits
    refine hKo _ _ fun fa29 fh29 => ?_
    clear hKo Ko fh28 fa28
    refine Kn.pure fh29 rfl rfl .none (Kn.ex_move fh29 (.tmp rfl)) fun fa30 fh30 => ?_
    clear fh29 fa29
    refine wpList_nil ?_
    replace fh30 := fh30.cut (.cons (t := 12) rfl (.cons (t := 5) rfl (.cons (t := 10) rfl (.cons (t := 11) rfl .nil))))
    exact hKl5 (m5 - 1) _ _ (by omega) ⟨k + 1, b4, fh30.cut (.turn (t := 12) rfl (by go_num) (.cons (t := 5) rfl (.cons (t := 10) rfl (.cons (t := 11) rfl .nil)))), by omega, HO4, HB4⟩
  · obtain rfl : k = xs.length := by omega
    have hO := HO.out
    rw [List.take_length] at hO
    have htx := hO.text (txt_pos n xs)
    refine wp_seq_k fun K6 hK6 => ?_
    refine wp_region_lit ?_
    refine Kn.step fh8 rfl rfl .none (Kn.ex_bin fh8 (.tmp rfl) (.tmp rfl)) fun Ko hKo => ?_
    go_simp
    try go_bits
    refine hKo _ _ fun fa9 fh9 => ?_
    clear hKo Ko fh8 fa8
    refine wpList_nil ?_
    refine hK6 _ _ ?_
    clear hK6 K6
    refine wp_seq_k fun K7 hK7 => ?_
    refine Kn.no fh9 (.tmp rfl) ?_
    replace fh9 := fh9.cut (.cons (t := 12) rfl (.cons (t := 5) rfl (.cons (t := 10) rfl (.cons (t := 11) rfl .nil))))
    refine wp_exit ?_
    refine Kn.then_exit ?_
    clear hK7 K7
    refine Kn.then_exit ?_
    clear hKl5 Kl5
    refine Kn.block_exit ?_
    refine hK3 _ _ ?_
    clear hK3 K3
    replace fh9 := fh9.cut (.cons (t := 5) rfl .nil)
    refine wp_seq_k fun K8 hK8 => ?_
    refine wp_region_lit ?_
    refine Kn.pure fh9 rfl rfl .none (Kn.ex_move fh9 (.tmp rfl)) fun fa10 fh10 => ?_
    clear fh9 fa9
    refine Kn.known fh10 rfl rfl .none (Kn.ex_convert fh10 (.tmp rfl)) htx fun fa11 fh11 => ?_
    clear fh10 fa10
    refine Kn.pure fh11 rfl rfl .none (Kn.ex_assign fh11 (.tmp rfl)) fun fa12 fh12 => ?_
    clear fh11 fa11
    refine wpList_nil ?_
    refine hK8 _ _ ?_
    clear hK8 K8
    replace fh12 := fh12.cut (.cons (t := 4) rfl .nil)
    refine wp_ret ?_
    exact Kn.ret1 fh12 rfl rfl ⟨rfl, HB.out⟩

end Go.Proofs.YtnmpcendimdoeaaGreatDoor.Txt
