/- Of any bytes any part is read from their blocks, or why not, as the document says; just the blocks that are needed are asked for, each once, by rising numbers (up to 2000 bytes). The law BlockReads answers true for every input. The package-level variables that it reaches are as the program's text lays them (tied). -/
import Derived.Test.YtkbkdbnmpicidaaDoorMRe2
import Derived.Test.YtkbkdbnmpicidaaDoorChecked
import Derived.Shelf.Pu.Clone
import Derived.Shelf.Abstract
import Derived.Ground.NamesProg
import Derived.Shelf.Strings.OnBuilder
import Derived.Test.YtkbkdbnmpicidaaDoorProg
import Derived.OpenShut
import Derived.Lib.SmallJoins
import Derived.SliceStrings
import Derived.Deep.OwnShut
import Derived.Deep.Grids
section
namespace Go.Proofs.YtkbkdbnmpicidaaDoor.Blk
open Go.RowKit Go.Lib Go.Shelf
def cloneRen : Ren := { f := fun | 25 => 24 | n => n, t := fun | 3 => 3 | 4 => 4 | 5 => 5 | 9 => 9 | 37 => 37 | 47 => 72 | n => n, g := fun n => n }
theorem cloneLays : LaysPu.n25 Tryd.prog cloneRen := ⟨by kernel_rfl, by kernel_rfl, by kernel_rfl, fun _ => by kernel_rfl, fun _ => by kernel_rfl, fun _ => by kernel_rfl, by kernel_rfl, by kernel_rfl, fun _ => by kernel_rfl, fun _ => by kernel_rfl, fun _ => by kernel_rfl, by kernel_rfl, by kernel_rfl, fun _ => by kernel_rfl, fun _ => by kernel_rfl, fun _ => by kernel_rfl, by kernel_rfl, by kernel_rfl, fun _ => by kernel_rfl, fun _ => by kernel_rfl, fun _ => by kernel_rfl, by kernel_rfl, by kernel_rfl, fun _ => by kernel_rfl, fun _ => by kernel_rfl, fun _ => by kernel_rfl, by kernel_rfl, by kernel_rfl, fun _ => by kernel_rfl, fun _ => by kernel_rfl, fun _ => by kernel_rfl, by kernel_rfl, by kernel_rfl, fun _ => by kernel_rfl, fun _ => by kernel_rfl, fun _ => by kernel_rfl, by kernel_rfl⟩
theorem clone_any (s : ByteArray) (w : World) (h : s.size ≤ 281474976710656) :
    Calls Tryd.prog 17 #[.string s] w fun e w' => e = .returned (.string s) ∧ Below w.heap.size w w' := by
  go_enter Tryd.func17, Tryd.ntmps17
  go_wp2_with (go_at_call 24; refine ((show Calls Tryd.prog 24 #[.string s] _ fun e w' => e = .returned (.string s) ∧ Below _ _ w' from AnyPu.stringslite_Clone cloneLays s _ h)).mono ?_; rintro e w' ⟨rfl, hb⟩)
  go_ret
  exact ⟨rfl, by assumption⟩
end Go.Proofs.YtkbkdbnmpicidaaDoor.Blk
end
section
namespace Go.Proofs.YtkbkdbnmpicidaaDoor.Blk
open Go Go.RowKit Go.Lib RowG Num
theorem But.rin {B : Nat} {u u' : World} {A : Option Addr} {ts : List ByteArray} (hb : But (fun b => b < B) u u') (h : RIn txR u A ts) (hA : ∀ b o, A = some ⟨b, o, none⟩ → B ≤ b) : RIn txR u' A ts := fun i a hi => by
  obtain ⟨b, o, e, hlt, h1⟩ := h i a hi;exact ⟨b, o, e, Nat.lt_of_lt_of_le hlt hb.size, fun j x hx => (hb.cell hlt (by have := hA b o e; omega)).trans (h1 j x hx)⟩
end Go.Proofs.YtkbkdbnmpicidaaDoor.Blk
end
section
namespace Go.Proofs
open Go.Shelf
def Tryd.layJoin_ren : Go.Shelf.Ren := ⟨fun | 156 => 16 | 165 => 21 | 166 => 22 | 169 => 23 | 240 => 30 | 241 => 31 | 276 => 35 | 277 => 36 | n => n, fun | 31 => 23 | 9 => 9 | 3 => 3 | 4 => 4 | 0 => 0 | 20 => 20 | 72 => 55 | 76 => 57 | 70 => 53 | 37 => 37 | 75 => 27 | 127 => 72 | 164 => 60 | 5 => 5 | 80 => 59 | n => n, fun | n => n⟩
theorem Tryd.layJoin : Go.Proofs.Lays.n156 Tryd.prog Tryd.layJoin_ren := {
  mixed := by kernel_rfl
  f156 := Tryd.func16.trans (congrArg some (by kernel_rfl))
  f165 := Tryd.func21.trans (congrArg some (by kernel_rfl))
  f166 := Tryd.func22.trans (congrArg some (by kernel_rfl))
  f169 := Tryd.func23.trans (congrArg some (by kernel_rfl))
  f240 := Tryd.func30.trans (congrArg some (by kernel_rfl))
  f241 := Tryd.func31.trans (congrArg some (by kernel_rfl))
  f276 := Tryd.func35.trans (congrArg some (by kernel_rfl))
  f277 := Tryd.func36.trans (congrArg some (by kernel_rfl))
  t0 := Tryd.underlying0
  a0 := Tryd.isAgg0
  z0 := Tryd.sizeOf0
  v0 := Tryd.zeroValue0
  t3 := Tryd.underlying3
  a3 := Tryd.isAgg3
  z3 := Tryd.sizeOf3
  v3 := Tryd.zeroValue3
  t4 := Tryd.underlying4
  a4 := Tryd.isAgg4
  z4 := Tryd.sizeOf4
  v4 := Tryd.zeroValue4
  t9 := Tryd.underlying9
  a9 := Tryd.isAgg9
  z9 := Tryd.sizeOf9
  v9 := Tryd.zeroValue9
  t20 := Tryd.underlying20
  a20 := Tryd.isAgg20
  z20 := Tryd.sizeOf20
  v20 := Tryd.zeroValue20
  t31 := Tryd.underlying23
  a31 := Tryd.isAgg23
  z31 := Tryd.sizeOf23
  v31 := Tryd.zeroValue23
  t37 := Tryd.underlying37
  a37 := Tryd.isAgg37
  z37 := Tryd.sizeOf37
  v37 := Tryd.zeroValue37
  t70 := Tryd.underlying53
  a70 := Tryd.isAgg53
  z70 := Tryd.sizeOf53
  v70 := Tryd.zeroValue53
  t72 := Tryd.underlying55
  a72 := Tryd.isAgg55
  z72 := Tryd.sizeOf55
  v72 := Tryd.zeroValue55
  t75 := Tryd.underlying27
  a75 := Tryd.isAgg27
  z75 := Tryd.sizeOf27
  v75 := Tryd.zeroValue27
  t76 := Tryd.underlying57
  a76 := Tryd.isAgg57
  z76 := Tryd.sizeOf57
  v76 := Tryd.zeroValue57
  t127 := Tryd.underlying72
  a127 := Tryd.isAgg72
  z127 := Tryd.sizeOf72
  v127 := Tryd.zeroValue72
  t164 := Tryd.underlying60
  a164 := Tryd.isAgg60
  z164 := Tryd.sizeOf60
  v164 := Tryd.zeroValue60 }
theorem Tryd.layJoinX : Builder.Extra Tryd.prog Tryd.layJoin_ren := {
  sizeBuilder := by kernel_rfl
  liesBuilder := by kernel_rfl
  t5 := Tryd.underlying5
  a5 := Tryd.isAgg5
  z5 := Tryd.sizeOf5
  v5 := Tryd.zeroValue5
  infoByte := by kernel_rfl
  cellsByte := by kernel_rfl
  sizeByte := by kernel_rfl
  neB5 := by decide }
end Go.Proofs
end
section
namespace Go.Proofs.YtkbkdbnmpicidaaDoor.Blk
open Go Go.RowKit Go.Lib RowG
theorem cat_list (ts : List ByteArray) : (catK ts).data.toList = (ts.map (·.data.toList)).flatten := by
  have h : ∀ (ts : List ByteArray) (acc : ByteArray), (ts.foldl (· ++ ·) acc).data.toList = acc.data.toList ++ (ts.map (·.data.toList)).flatten := fun ts => by
    induction ts with
    | nil => intro acc; simp
    | cons a r ih => intro acc; rw [List.foldl_cons, ih]; simp
  exact h ts _
theorem join_flat (ts : List ByteArray) : Lib.join (ts.map (·.data.toList)) [] = (catK ts).data.toList := by
  rw [cat_list]
  cases ts with
  | nil => rfl
  | cons a r => rw [List.map_cons, Lib.join_cons]; simp [Lib.joinTail]; rfl
theorem join_any (A : Option Addr) (c : Nat) (ts : List ByteArray) (w : World) (hl : ts.length ≤ 1000) (hc : ts.length ≤ c) (hz : (catK ts).size ≤ 100000) (hA : RIn txR w A ts) :
    Calls Tryd.prog 16 #[.slice A ts.length c, .string ⟨#[]⟩] w fun e w' => e = .returned (.string (catK ts)) ∧ Below w.heap.size w w' := by
  rcases Nat.eq_zero_or_pos ts.length with h0 | h0
  · obtain rfl := List.eq_nil_of_length_eq_zero h0;exact (Any.strings_Join_none Tryd.layJoin Tryd.layJoinX A c ⟨#[]⟩ w).mono fun e w' ⟨h1, h2⟩ => ⟨h1, by rw [h2]; exact Below.refl _ _⟩
  · obtain ⟨b, o, rfl, hb⟩ := hA.addr h0;have hj : Lib.join (ts.map (·.data.toList)) (⟨#[]⟩ : ByteArray).data.toList = (catK ts).data.toList := join_flat ts;have hlen : (catK ts).data.toList.length = (catK ts).size := by rw [Array.length_toList]; rfl
    refine (Any.strings_Join Tryd.layJoin Tryd.layJoinX b o c ts ⟨#[]⟩ w (fun j x hx => ?_) hb (by omega) hc (by rw [hj, hlen]; omega)).mono fun e w' ⟨h1, h2⟩ => ⟨?_, h2⟩
    · obtain ⟨b', o', e, -, hcell⟩ := tx_cell hA hx;cases e;exact hcell
    · rw [h1, hj]
end Go.Proofs.YtkbkdbnmpicidaaDoor.Blk
end
section
namespace Go.Proofs.YtkbkdbnmpicidaaDoor.Blk
open Go Go.RowKit Go.Lib RowG Num
set_option maxRecDepth 100000 in
set_option maxHeartbeats 4000000 in
theorem cut_any (A : Option Addr) (c : Nat) (ts : List ByteArray) (w : World) (hl : ts.length ≤ 1000) (hc : ts.length ≤ c) (hz : (catK ts).size ≤ 20000) (hA : RIn txR w A ts) :
    Calls Tryd.prog 7 #[.slice A ts.length c] w fun e v => ∃ A' c', e = .returned (.slice A' (cntK (catK ts).size) c') ∧ RIn txR v A' (cutK (catK ts)) ∧ Below w.heap.size w v := by
  refine Kn.calls Tryd.func7 rfl Tryd.ntmps7 rfl (.cons (t := 0) rfl .nil) fun fa0 fh0 => ?_;refine wp_seq_k fun K1 hK1 => ?_;refine wp_region_lit ?_;refine Kn.pure fh0 rfl rfl .none (Kn.ex_assign fh0 .const) fun fa1 fh1 => ?_;clear fh0 fa0;refine wpList_nil ?_;refine hK1 _ _ ?_;clear hK1 K1;have hj := join_any A c ts w hl hc (by omega) hA;refine wp_seq_k fun K2 hK2 => ?_;refine wp_region_lit ?_;refine Kn.pure fh1 rfl rfl .none (Kn.ex_move fh1 (.tmp rfl)) fun fa2 fh2 => ?_;clear fh1 fa1;refine Kn.call fh2 rfl rfl .none (Kn.ex_call fh2 (.cons (.tmp rfl) (.cons .const .nil))) Tryd.call16 (hj) fun e w1 hp => ?_;obtain ⟨rfl, hb1⟩ := hp;refine ⟨_, rfl, fun fa3 fh3 => ?_⟩;clear fh2 fa2;refine Kn.pure fh3 rfl rfl .none (Kn.ex_assign fh3 (.tmp rfl)) fun fa4 fh4 => ?_;clear fh3 fa3;refine wpList_nil ?_;refine hK2 _ _ ?_;clear hK2 K2;replace fh4 := fh4.cut (.cons (t := 3) rfl (.cons (t := 2) rfl .nil));obtain ⟨s, hs⟩ : ∃ s, catK ts = s := ⟨_, rfl⟩;rw [hs] at fh4 hz ⊢;obtain ⟨N, hN⟩ : ∃ N, cntK s.size = N := ⟨_, rfl⟩;have hct := count_any s.size w1 (by omega);rw [hN] at hct;have hN2 : N ≤ 400 := by rw [← hN]; unfold cntK; omega
  obtain ⟨w2, hmk, hO2, hb2⟩ := makeG (P := Tryd.prog) txR elemTx8 (⟨#[]⟩ : ByteArray) (by rfl) w1 N (by show N * 1 ≤ _; omega) (by decide) (by omega);have hH2 := hold_of_own hO2;clear hO2 hj hs;obtain ⟨g, hg⟩ : ∃ q, w1.heap.size = q := ⟨_, rfl⟩;rw [hg] at hmk hH2;have hgw : w.heap.size ≤ g := by rw [← hg]; exact hb1.size
  have hB2 : Below w.heap.size w w2 := hb1.trans (hb2.mono hb1.size);clear hb1 hb2 hg hA;refine wp_seq_k fun K3 hK3 => ?_;refine wp_region_lit ?_;refine Kn.pure fh4 rfl rfl .none (Kn.ex_move fh4 (.tmp rfl)) fun fa5 fh5 => ?_;clear fh4 fa4;refine Kn.step fh5 rfl rfl .none (Kn.ex_len fh5 (.tmp rfl)) fun Ko hKo => ?_;go_simp;(try go_bits);refine hKo _ _ fun fa6 fh6 => ?_;clear hKo Ko fh5 fa5;refine Kn.call fh6 rfl rfl .none (Kn.ex_call fh6 (.cons (.tmp rfl) .nil)) Tryd.call14 (hct) fun e w1b hp => ?_;obtain ⟨rfl, rfl⟩ := hp;refine ⟨_, rfl, fun fa7 fh7 => ?_⟩;clear fh6 fa6;refine Kn.known fh7 rfl rfl .none (Kn.ex_makeSlice fh7 (.tmp rfl) (.tmp rfl)) hmk fun fa8 fh8 => ?_;clear fh7 fa7;refine Kn.pure fh8 rfl rfl .none (Kn.ex_assign fh8 (.tmp rfl)) fun fa9 fh9 => ?_;clear fh8 fa8;refine wpList_nil ?_;refine hK3 _ _ ?_;clear hK3 K3;replace fh9 := fh9.cut (.cons (t := 4) rfl (.cons (t := 3) rfl (.cons (t := 2) rfl .nil)));clear hmk hct;refine wp_seq_k fun K4 hK4 => ?_;refine wp_seq_k fun K5 hK5 => ?_;refine wp_region_lit ?_;refine Kn.pure fh9 rfl rfl .none (Kn.ex_move fh9 (.tmp rfl)) fun fa10 fh10 => ?_;clear fh9 fa9;refine Kn.step fh10 rfl rfl .none (Kn.ex_len fh10 (.tmp rfl)) fun Ko hKo => ?_;go_simp;(try go_bits);refine hKo _ _ fun fa11 fh11 => ?_;clear hKo Ko fh10 fa10;refine Kn.pure fh11 rfl rfl .none (Kn.ex_move fh11 .const) fun fa12 fh12 => ?_;clear fh11 fa11;refine wpList_nil ?_;refine hK5 _ _ ?_;clear hK5 K5;replace fh12 := fh12.cut (.cons (t := 15) rfl (.cons (t := 14) rfl (.cons (t := 4) rfl (.cons (t := 3) rfl (.cons (t := 2) rfl .nil)))));refine wp_block ?_;refine Kn.loop (fun m fr u => ∃ (i : Nat) (ls : List ByteArray), Kn.Kn 35 [(15, .int .i64 (i : Int)), (14, .int .i64 (N : Int)), (4, .slice (some ⟨g, 0, none⟩) N N), (3, .string s)] fr ∧ i + m = N ∧ ls.length = N ∧ Hid (∀ j, j < i → ls[j]? = (cutK s)[j]?) ∧ Hid (Hold txR u g ls) ∧ Hid (Below w.heap.size w u)) N ⟨0, List.replicate N ⟨#[]⟩, fh12.cut (.turn (t := 15) rfl rfl (.cons (t := 14) rfl (.cons (t := 4) rfl (.cons (t := 3) rfl .nil)))), by omega, by simp, Lib.hid (fun j hj => by omega), hH2, hB2⟩ ?_;clear fh12 fa12;intro m6 fa13 u hI Kl6 hKl6;obtain ⟨i, ls, fh13, hi, hll, HE, HH, HB⟩ := hI
  by_cases hlt : i < N
  · have hic : i < cntK s.size := by omega
    have hsz := size_any s.size (i : Int) u (by omega);have hst := szK_step hic;obtain ⟨z, hzz⟩ : ∃ z, szK s.size (i : Int) = z := ⟨_, rfl⟩;rw [hzz] at hsz hst;obtain ⟨p, hp⟩ : ∃ p, 64 * i = p := ⟨_, rfl⟩;have hps : p ≤ s.size := by unfold cntK at hic; omega
    obtain ⟨e1, he1⟩ : ∃ q, p + z = q := ⟨_, rfl⟩;have he2 : e1 = min s.size (64 * (i + 1)) := by omega
    have hbk : blkK s i = s.extract p e1 := by unfold blkK; rw [hp, Nat.min_eq_right hps, ← he2]
    obtain ⟨q, hq⟩ : ∃ q, s.extract p e1 = q := ⟨_, rfl⟩;rw [hq] at hbk;have r1 : (i : Int) * 64 = (p : Int) := by omega
    have r2 : (p : Int) + (z : Int) = (e1 : Int) := by omega
    have hes : e1 ≤ s.size := by omega
    have hpe : p ≤ e1 := by omega
    have hqs : q.size ≤ 281474976710656 := by rw [← hq, ByteArray.size_extract]; omega
    have hsl : ∀ v, (Instr.sliceAt 9 (.string s) (some (.int .i64 (p : Int))) (some (.int .i64 (e1 : Int))) none).run Tryd.prog v = .ok (.string q) v := fun v => by
      have := run_slice_string (P := Tryd.prog) v 9 s .i64 .i64 p e1 Tryd.underlying9 (by omega) (by omega) (by omega);rw [Int.toNat_natCast, Int.toNat_natCast, hq] at this;rw [run_sliceAt_string _ _ _ _ _ _ Tryd.underlying9];exact this
    have hcl := clone_any q u hqs;have hcu := cutK_at hic;rw [hbk] at hcu;clear hst hp he1 he2 hq hbk hzz;refine wp_seq_k fun K7 hK7 => ?_;refine wp_region_lit ?_;refine Kn.step fh13 rfl rfl .none (Kn.ex_bin fh13 (.tmp rfl) (.tmp rfl)) fun Ko hKo => ?_;go_simp;(try go_bits);refine hKo _ _ fun fa14 fh14 => ?_;clear hKo Ko fh13 fa13;refine wpList_nil ?_;refine hK7 _ _ ?_;clear hK7 K7;refine wp_seq_k fun K8 hK8 => ?_;refine Kn.yes fh14 (.tmp rfl) ?_;refine wp_skip ?_;refine hK8 _ _ ?_;clear hK8 K8;replace fh14 := fh14.cut (.cons (t := 15) rfl (.cons (t := 14) rfl (.cons (t := 4) rfl (.cons (t := 3) rfl .nil))));refine wp_seq_k fun K9 hK9 => ?_;refine wp_block ?_;refine wp_seq_k fun K10 hK10 => ?_;refine wp_region_lit ?_;refine Kn.pure fh14 rfl rfl .none (Kn.ex_move fh14 (.tmp rfl)) fun fa15 fh15 => ?_;clear fh14 fa14;refine Kn.pure fh15 rfl rfl .none (Kn.ex_assign fh15 (.tmp rfl)) fun fa16 fh16 => ?_;clear fh15 fa15;refine wpList_nil ?_;refine hK10 _ _ ?_;clear hK10 K10;replace fh16 := fh16.cut (.cons (t := 5) rfl (.cons (t := 15) rfl (.cons (t := 14) rfl (.cons (t := 4) rfl (.cons (t := 3) rfl .nil)))));refine wp_seq_k fun K11 hK11 => ?_;refine wp_region_lit ?_;refine Kn.pure fh16 rfl rfl .none (Kn.ex_move fh16 (.tmp rfl)) fun fa17 fh17 => ?_;clear fh16 fa16;refine Kn.step fh17 rfl rfl .none (Kn.ex_bin fh17 (.tmp rfl) .const) fun Ko hKo => ?_;go_simp;(try go_bits);refine hKo _ _ fun fa18 fh18 => ?_;clear hKo Ko fh17 fa17;refine Kn.pure fh18 rfl rfl .none (Kn.ex_assign fh18 (.tmp rfl)) fun fa19 fh19 => ?_;clear fh18 fa18;refine wpList_nil ?_;refine hK11 _ _ ?_;clear hK11 K11;replace fh19 := fh19.cut (.cons (t := 6) rfl (.cons (t := 5) rfl (.cons (t := 15) rfl (.cons (t := 14) rfl (.cons (t := 4) rfl (.cons (t := 3) rfl .nil))))));clear r1;refine wp_region_lit ?_;refine Kn.pure fh19 rfl rfl .none (Kn.ex_move fh19 (.tmp rfl)) fun fa20 fh20 => ?_;clear fh19 fa19;refine Kn.pure fh20 rfl rfl .none (Kn.ex_move fh20 (.tmp rfl)) fun fa21 fh21 => ?_;clear fh20 fa20;refine Kn.pure fh21 rfl rfl .none (Kn.ex_move fh21 (.tmp rfl)) fun fa22 fh22 => ?_;clear fh21 fa21;refine Kn.pure fh22 rfl rfl .none (Kn.ex_move fh22 (.tmp rfl)) fun fa23 fh23 => ?_;clear fh22 fa22;refine Kn.pure fh23 rfl rfl .none (Kn.ex_move fh23 (.tmp rfl)) fun fa24 fh24 => ?_;clear fh23 fa23;refine Kn.pure fh24 rfl rfl .none (Kn.ex_move fh24 (.tmp rfl)) fun fa25 fh25 => ?_;clear fh24 fa24;refine Kn.step fh25 rfl rfl .none (Kn.ex_len fh25 (.tmp rfl)) fun Ko hKo => ?_;go_simp;(try go_bits);refine hKo _ _ fun fa26 fh26 => ?_;clear hKo Ko fh25 fa25;refine Kn.pure fh26 rfl rfl .none (Kn.ex_move fh26 (.tmp rfl)) fun fa27 fh27 => ?_;clear fh26 fa26;refine Kn.call fh27 rfl rfl .none (Kn.ex_call fh27 (.cons (.tmp rfl) (.cons (.tmp rfl) .nil))) Tryd.call15 (hsz) fun e u1 hp => ?_;obtain ⟨rfl, rfl⟩ := hp;refine ⟨_, rfl, fun fa28 fh28 => ?_⟩;clear fh27 fa27;refine Kn.step fh28 rfl rfl .none (Kn.ex_bin fh28 (.tmp rfl) (.tmp rfl)) fun Ko hKo => ?_;go_simp;(try go_bits);refine hKo _ _ fun fa29 fh29 => ?_;clear hKo Ko fh28 fa28;refine Kn.known fh29 rfl rfl .none (Kn.ex_sliceLH fh29 (.tmp rfl) (.tmp rfl) (.tmp rfl)) (hsl u) fun fa30 fh30 => ?_;clear fh29 fa29;refine Kn.call fh30 rfl rfl .none (Kn.ex_call fh30 (.cons (.tmp rfl) .nil)) Tryd.call17 (hcl) fun e u2 hp => ?_;obtain ⟨rfl, hb2⟩ := hp;refine ⟨_, rfl, fun fa31 fh31 => ?_⟩;clear fh30 fa30;obtain ⟨u3, hst, hH3, hr1, hr2, hr3⟩ := (HH.out.on hb2).store1 (P := Tryd.prog) (e := 9) i (by omega) q (.string q) rfl rfl (fun w p c h1 h2 => store_tx8 q w p c h1 h2);have HB3 : Hid (Below w.heap.size w u3) := Lib.hid ((HB.out.trans (hb2.mono HB.out.size)).trans (hr3 _ hgw));clear hb2 hcl hsl r2 hsz hr1 hr2 hr3;refine Kn.step fh31 rfl rfl .none (Kn.ex_indexAddr fh31 (.tmp rfl) (.tmp rfl)) fun Ko hKo => ?_;go_simp;(try go_bits);refine hKo _ _ fun fa32 fh32 => ?_;clear hKo Ko fh31 fa31;refine Kn.stepU fh32 rfl .none (Kn.ex_store fh32 (.tmp rfl) (.tmp rfl)) fun Ko hKo => ?_;refine Kn.satU_run8 hst ?_;refine hKo _ ?_;clear hKo Ko;refine wpList_nil ?_;refine Kn.block_normal ?_;refine hK9 _ _ ?_;clear hK9 K9;replace fh32 := fh32.cut (.cons (t := 15) rfl (.cons (t := 14) rfl (.cons (t := 4) rfl (.cons (t := 3) rfl .nil))));refine wp_region_lit ?_;refine Kn.step fh32 rfl rfl .none (Kn.ex_bin fh32 (.tmp rfl) .const) fun Ko hKo => ?_;go_simp;(try go_bits);refine hKo _ _ fun fa33 fh33 => ?_;clear hKo Ko fh32 fa32;refine Kn.pure fh33 rfl rfl .none (Kn.ex_move fh33 (.tmp rfl)) fun fa34 fh34 => ?_;clear fh33 fa33;refine wpList_nil ?_;replace fh34 := fh34.cut (.cons (t := 15) rfl (.cons (t := 14) rfl (.cons (t := 4) rfl (.cons (t := 3) rfl .nil))))
    exact hKl6 (m6 - 1) _ _ (by omega) ⟨i + 1, ls.set i q, fh34.cut (.turn (t := 15) rfl (by go_num) (.cons (t := 14) rfl (.cons (t := 4) rfl (.cons (t := 3) rfl .nil)))), by omega, by rw [List.length_set]; exact hll, Lib.hid (fun j hj => by
      by_cases e : i = j
      · subst e; rw [List.getElem?_set_self (by omega), hcu]
      · rw [List.getElem?_set_ne e]; exact HE.out j (by omega)), hH3, HB3⟩
  have hin : i = N := by omega
  subst hin
  have hls : ls = cutK s := by
    apply List.ext_getElem?
    intro j
    by_cases hj : j < ls.length
    · exact HE.out j (by omega)
    · rw [List.getElem?_eq_none (by omega), List.getElem?_eq_none (by rw [cutK_len]; omega)]
  subst hls;refine wp_seq_k fun K7 hK7 => ?_;refine wp_region_lit ?_;refine Kn.step fh13 rfl rfl .none (Kn.ex_bin fh13 (.tmp rfl) (.tmp rfl)) fun Ko hKo => ?_;go_simp;(try go_bits);refine hKo _ _ fun fa14 fh14 => ?_;clear hKo Ko fh13 fa13;refine wpList_nil ?_;refine hK7 _ _ ?_;clear hK7 K7;refine wp_seq_k fun K8 hK8 => ?_;refine Kn.no fh14 (.tmp rfl) ?_;replace fh14 := fh14.cut (.cons (t := 15) rfl (.cons (t := 14) rfl (.cons (t := 4) rfl (.cons (t := 3) rfl .nil))));refine wp_exit ?_;refine Kn.then_exit ?_;clear hK8 K8;refine Kn.then_exit ?_;clear hKl6 Kl6;refine Kn.block_exit ?_;refine hK4 _ _ ?_;clear hK4 K4;replace fh14 := fh14.cut (.cons (t := 4) rfl .nil);refine wp_seq_k fun K9 hK9 => ?_;refine wp_region_lit ?_;refine Kn.pure fh14 rfl rfl .none (Kn.ex_move fh14 (.tmp rfl)) fun fa15 fh15 => ?_;clear fh14 fa14;refine Kn.pure fh15 rfl rfl .none (Kn.ex_assign fh15 (.tmp rfl)) fun fa16 fh16 => ?_;clear fh15 fa15;refine wpList_nil ?_;refine hK9 _ _ ?_;clear hK9 K9;replace fh16 := fh16.cut (.cons (t := 2) rfl .nil);refine wp_ret ?_;exact Kn.ret1 fh16 rfl rfl ⟨some ⟨g, 0, none⟩, i, by rw [hN], HH.out.rin, HB.out⟩
end Go.Proofs.YtkbkdbnmpicidaaDoor.Blk
end
section
namespace Go.Proofs.YtkbkdbnmpicidaaDoor.Blk
open Go Go.RowKit Go.Lib RowG Num
theorem count_b (n : Nat) (u : World) (h : n ≤ 20000) : Calls Tryd.prog 14 #[.int .i64 n] u fun e v => e = .returned (.int .i64 (cntK n : Int)) ∧ Below u.heap.size u v := (count_any n u (by omega)).mono fun _ _ ⟨h1, h2⟩ => ⟨h1, by subst h2; exact Below.refl _ _⟩
theorem size_b (n : Nat) (i : Int) (u : World) (h : n ≤ 20000) : Calls Tryd.prog 15 #[.int .i64 n, .int .i64 i] u fun e v => e = .returned (.int .i64 (szK n i : Int)) ∧ Below u.heap.size u v := (size_any n i u (by omega)).mono fun _ _ ⟨h1, h2⟩ => ⟨h1, by subst h2; exact Below.refl _ _⟩
theorem awake_b (u : World) : Calls Tryd.prog 6 #[] u fun e v => e = .returned (.bool true) ∧ Below u.heap.size u v := awake8 count_b (fun n i u h _ _ => size_b n i u h) u
theorem code_b (c : Int) (u : World) (h : Err.ErrTab u) : Calls Tryd.prog 11 #[errno c] u fun e v => e = .returned (.int .i64 c) ∧ Below u.heap.size u v := Err.code_E c u h
theorem cat_one (s : ByteArray) : catK [s] = s := by
  show (⟨#[]⟩ : ByteArray) ++ s = s
  apply ByteArray.ext
  rw [ByteArray.data_append];exact Array.empty_append
theorem reads_law (s : ByteArray) (from_ many : Int) (w : World) (hT : Err.ErrTab w) (hf0 : -9223372036854775808 ≤ from_) (hf1 : from_ ≤ 9223372036854775807) (hm0 : -9223372036854775808 ≤ many) (hm1 : many ≤ 9223372036854775807) :
    Calls Tryd.prog 3 #[.string s, .int .i64 from_, .int .i64 many] w fun e w' => e = .returned (.bool true) ∧ Below w.heap.size w w' := by
  refine reads_all Err.ErrTab (fun u v h hb => h.on hb) cutK (fun s hs => by rw [cutK_len]; unfold cntK; omega) code_b awake_b (fun s A c u hs hc hA => ?_) (fun s from_ many J x u hs hS hJ => ?_) (fun s from_ many u hs => ?_) (fun a b c u => read_nil a b c u) s from_ many w hT hf0 hf1 hm0 hm1
  · have h := cut_any A c [s] u (by simp) hc (by rw [cat_one]; omega) hA;rw [cat_one] at h;rw [cutK_len];exact h
  · have hsm : ∀ t ∈ cutK s, t.size ≤ maxLen := fun t ht => by
      unfold cutK at ht;rw [List.mem_map] at ht;obtain ⟨k, -, rfl⟩ := ht;unfold blkK maxLen;rw [ByteArray.size_extract];omega
    by_cases ho : Out s from_ many
    · obtain ⟨K, fs, cs, rfl, -⟩ := hS;exact (read_out fs cs s.size from_ many u (by omega) ho).mono fun e v ⟨h1, h2⟩ => .inl ⟨ho, h1, by subst h2; exact hJ⟩
    · have ho' := ho;unfold Out at ho';obtain ⟨f, rfl⟩ := Int.eq_ofNat_of_zero_le (show 0 ≤ from_ by omega);obtain ⟨m, rfl⟩ := Int.eq_ofNat_of_zero_le (show 0 ≤ many by omega);refine (read_in (cutK s) s.size f m J x u (by omega) (by omega) hsm hS hJ).mono fun e v h => .inr ⟨ho, ?_⟩;have := Read8.whole (by omega) h;rw [show ((f : Int) + (m : Int)).toNat = f + m by omega, Int.toNat_natCast, Int.toNat_natCast];exact this
  · by_cases ho : Out s from_ many
    · exact (needs_out s.size from_ many u (by omega) ho).mono fun e v ⟨h1, h2⟩ => ⟨.inl ⟨ho, h1⟩, by subst h2; exact Below.refl _ _⟩
    · have ho' := ho;unfold Out at ho';obtain ⟨f, rfl⟩ := Int.eq_ofNat_of_zero_le (show 0 ≤ from_ by omega);obtain ⟨m, rfl⟩ := Int.eq_ofNat_of_zero_le (show 0 ≤ many by omega);refine (needs_in s.size f m u (by omega) (by omega)).mono fun e v ⟨h1, h2⟩ => ⟨.inr ⟨ho, ?_⟩, by subst h2; exact Below.refl _ _⟩;rw [h1];unfold ndA ndB;simp only [Int.toNat_natCast, Int.natCast_eq_zero]
end Go.Proofs.YtkbkdbnmpicidaaDoor.Blk
end
section
namespace Go.Proofs.YtkbkdbnmpicidaaDoor.blockReads
open Go.ChangeShapes Go.WideShapes Go.ChangeAt Go.RowKit Go.Joins
open Go.ChangeMaps (open_string shut_string)
set_option linter.unusedVariables false
set_option maxRecDepth 100000 in
theorem contract (H : Type) (enc : TypeId × Value → H) (W : World) (base : Nat) (args : Array Value) (ds gs : List (DataW H)) (before : List MemPlace)
    (hval : ∀ (j : Nat) t v, Tryd.f3.params[j]? = some t → args[j]? = some v → Value.okWide Tryd.prog W .any base t v)
    (hW : DataW.Whole enc Tryd.prog Tryd.f3.params.toList Rows.blockReadsSpec.vars false W args.toList ds gs before)
    (hsz : (DataW.weightsEach Tryd.prog (Tryd.f3.params.toList ++ (OpenSpec.ofChange Rows.blockReadsSpec).bare.plain.varTypes Tryd.prog) (ds ++ gs)).all (· ≤ reachBytes) = true) (hL : laidMetH Tryd.prog Rows.blockReadsRow.laid W) :
    Calls Tryd.prog 3 args W fun e W' => ∃ v, e = .returned v ∧ Rows.blockReadsSpec.post enc Tryd.prog Tryd.f3 false true false false W args v W' := by
  have hW' := hW;have hg := Err.handle_of_laid hL;obtain ⟨p, q, hA0, hV, rfl, hfz, hnd⟩ := hW;have hA : DataW.TrodAll enc Tryd.prog W 0 (fun _ => true) true Tryd.f3.params.toList args.toList ds p := hA0;rw [Tryd.params3] at hA hval hsz;obtain ⟨v0, vs0, d0, ds0, p0, q0, hargs, rfl, rfl, h0, s0⟩ := trodAll_cons hA;obtain ⟨v1, vs1, d1, ds1, p1, q1, rfl, rfl, rfl, h1, s1⟩ := trodAll_cons s0;obtain ⟨v2, vs2, d2, ds2, p2, q2, rfl, rfl, rfl, h2, s2⟩ := trodAll_cons s1;obtain ⟨rfl, rfl, rfl⟩ := trodAll_nil s2;obtain rfl : args = #[v0, v1, v2] := by cases args; simp_all
  obtain ⟨rfl, rfl⟩ := trodVars_none hV;obtain ⟨a0, rfl, rfl, rfl, w0⟩ := open_string Tryd.underlying9 (hval 0 9 v0 rfl rfl) h0;obtain ⟨a1, rfl, rfl, rfl, w1⟩ := open_int Tryd.underlying3 (hval 1 3 v1 rfl rfl) h1;obtain ⟨x1, y1⟩ := bounds_i64 w1;obtain ⟨a2, rfl, rfl, rfl, w2⟩ := open_int Tryd.underlying3 (hval 2 3 v2 rfl rfl) h2;obtain ⟨x2, y2⟩ := bounds_i64 w2;clear hA0;simp only [List.append_nil] at hW';refine (Blk.reads_law a0 a1 a2 W hg x1 y1 x2 y2).mono fun e W' ⟨he, hb⟩ => ?_;subst he;exact ⟨_, rfl, _, _, _, [], [], [], hW', trodAll_cons_mk (shut_bool Tryd.underlying4 _) trodAll_mk0, trodAll_cons_mk (shut_string Tryd.underlying9 w0) (trodAll_cons_mk (shut_int Tryd.underlying3 w1) (trodAll_cons_mk (shut_int Tryd.underlying3 w2) (trodAll_mk0))), rfl, hb.frame _, fun h => by cases h⟩
theorem reads (os : Os) {H : Type} (enc : TypeId × Value → H) : ∃ places, DataW.whole enc Tryd.prog ((Err.laidWorld os).forCall (fun _ _ => 0) ⟨#[], #[.string ByteArray.empty, .int .i64 0, .int .i64 0], []⟩).memory Tryd.f3.params.toList Rows.blockReadsSpec.vars false #[(.string ByteArray.empty : Value), (.int .i64 0 : Value), (.int .i64 0 : Value)].toList 8 = some ([.lit (.string []), .lit (.int .i64 0), .lit (.int .i64 0)], [], places) :=
  ⟨[], by kernel_rfl⟩
set_option maxRecDepth 100000 in
theorem lifted (os : Os) (started : os.Started) (H : Type) (enc : TypeId × Value → H) (F : Stop.Interp) :
    ReturnsInHanded {} Tryd.checked os 3 .any ((OpenSpec.ofChange Rows.blockReadsSpec).preRow enc Tryd.prog Tryd.f3 Rows.blockReadsRow.domain false Rows.blockReadsRow.laid) (((OpenSpec.ofChange Rows.blockReadsSpec).at F).post enc Tryd.prog Tryd.f3 false true false false) := by
  obtain ⟨places, hx⟩ := reads os enc
  refine returnsInHanded_of_row (C := Tryd.checked) (s := OpenSpec.ofChange Rows.blockReadsSpec) Err.own started (by kernel_rfl) Tryd.func3
    (witness_row_at (enc := enc) (C := Tryd.checked) false (Err.laidWorld os) #[.string ByteArray.empty, .int .i64 0, .int .i64 0] rfl (by kernel_rfl) (by kernel_rfl) (by kernel_rfl)
      (OpenSpec.preRow_of_cond 8 hx (by kernel_rfl) (fun k hk => by cases hk) (by kernel_rfl) (Err.laid_met os _))) ?_
  intro W base args ds gs before hval hW _ _ hsz hL _ _;exact contract H enc W base args ds gs before hval hW hsz hL
theorem said : Rows.BlockReadsSaid :=
  OpenClaim.holds_of_cond 3 Tryd.f3 rfl rfl rfl rfl rfl rfl rfl ⟨rfl, rfl, rfl, rfl, rfl⟩ rfl rfl rfl rfl rfl (by kernel_rfl) Tryd.func3 (by kernel_rfl)
    (of_decide_eq_true (by kernel_rfl)) (by unfold Func.isWrapper; first | (rw [if_pos (by decide +kernel)]; kernel_rfl) | (rw [if_neg (by decide +kernel)]; exact ⟨rfl, rfl⟩))
    (fun os started H enc _ F => by rw [OpenClaim.pre_eq_preRow]; exact lifted os started H enc F)
theorem plain (f : FuncId) (fn : Func) (hf : Tryd.pinned.checked.prog.funcNamed "lading/ladinglaw08.BlockReads" = some f) (hfn : Tryd.pinned.checked.prog.funcs[f]? = some fn) :
    true = Tryd.pinned.checked.prog.looks [] ∧ ∀ (j : Nat) t, fn.params[j]? = some t → Tryd.pinned.checked.prog.wantsStandIn t = false := by
  obtain rfl : f = 3 := Option.some.inj ((show Tryd.prog.funcNamed "lading/ladinglaw08.BlockReads" = some 3 by kernel_rfl).symm.trans hf) |>.symm;obtain rfl : fn = Tryd.f3 := (Option.some.inj (Tryd.func3.symm.trans hfn)).symm;refine ⟨by kernel_rfl, fun j t ht => ?_⟩;rw [Tryd.params3] at ht;have hm := Array.mem_of_getElem? ht;simp at hm;rcases hm with rfl | rfl
  · exact (show Tryd.prog.wantsStandIn 9 = false by kernel_rfl)
  · exact (show Tryd.prog.wantsStandIn 3 = false by kernel_rfl)
theorem card : Rows.BlockReadsCardSaid :=
  Claim7.holds_tied_plain_at .later [] _ _ _ _ said (fun _ h => by cases h) (by kernel_rfl) (fun _ h => by cases h) blockReads_row_tie rfl ⟨rfl, rfl⟩ (by kernel_rfl) rfl plain (by kernel_rfl)
end Go.Proofs.YtkbkdbnmpicidaaDoor.blockReads
end
